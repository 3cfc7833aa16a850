import PyProof.Rows.All
import Wide.All
import OpenK.AllK
import Wide.FinOn
import Lean
import PyProof.EqAt
import PyProof.EqKinds
import PyProof.TupleCall
import PyProof.Rows.SortRuns
import PyProof.DictItems
import PyProof.DictIter
import PyProof.DictWalks
import PyProof.SliceList
import PySem.Challenge.RW_boxsums_k17_box_covers_and_answers
set_option Elab.async false
set_option linter.all false
set_option maxRecDepth 100000
set_option maxHeartbeats 4000000
open PySem.Heap renaming get?_push_of_some → g0,lt_size → G0,get?_push_size → K0,size_push → O1,SameBut → K2,get?_update_self → E4,get?_push_ne → V6,get?_update_other → X6,get?_update_ne → J7,size_update → i8,ExtBut → K8
open List renaming length_map → i0,mem_cons_of_mem → A0,mem_cons_self → B0,mem_map → J0,map_map → L0,length_append → M0,getElem?_eq_getElem → O0,size_toArray → T0,getElem?_set_ne → V0,getElem?_eq_some_iff → W0,mem_cons → Y0,mem_append_right → G1,getElem?_map → J1,append_nil → K1,append_assoc → L1,flatMap_cons → P1,Nodup → Q1,getElem?_append_right → S1,replicate → U1,length_cons → V1,mem_append → W1,length_zip → Y1,getElem?_append_left → P2,pairwise_iff_getElem → Q2,mem_of_getElem? → S2,range → U2,map_append → X2,mem_flatMap → Y2,map_cons → Z2,extract_eq_take_drop → A3,mem_singleton → B3,map_congr_left → G3,getElem?_cons_succ → O3,pairwise_singleton → P3,getD_eq_getElem?_getD → Q3,lookup_cons → S3,drop_eq_getElem_cons → T3,replicate_succ → U3,length → Y3,getElem_mem → i4,pairwise_map → u4,getElem_of_mem → B4,length_singleton → G4,take_append_drop → J4,pairwise_reverse → K4,nodup_cons → O4,length_set → P4,length_take → T4,countP_cons → U4,filter_cons → V4,zip_cons_cons → Y4,mem_iff_getElem? → i5,getElem?_zip_eq_some → j5,getElem?_eq_none_iff → q5,mem_filter → A5,length_nil → B5,forIn_cons → E5,map → G5,flatten_cons → M5,mem_append_left → P5,pairwise_append → Q5,length_pos_iff → S5,map_eq_nil_iff → T5,forIn_nil → U5,not_mem_nil → V5,take_of_length_le → e6,sum_cons → j6,perm_append_comm → t6,mem_range → w6,cons_append → B6,pairwise_cons → O6,map_inj_right → P6,filter_append → Q6,drop_sublist → U6,drop_of_length_le → Y6,length_filter_le → g7,zipIdx_cons → i7,getElem_zip → j7,flatMap_nil → o7,map_fst_zip → t7,of_mem_zip → y7,zipIdx_nil → A7,filterMap_cons → F7,lookup → P7,take_sublist → T7,reverse_perm → W7,nodup_append → X7,length_range → Y7,getElem?_take_of_lt → Z7,length_drop → h8,getElem?_replicate → j8,getElem?_cons_zero → n8,map_nil → o8,getElem?_set_self → u8,nil_append → y8,countP_map → E8,eq_nil_or_concat → G8,pairwise_flatMap → J8,map_id → L8,drop_drop → O8,mem_of_mem_take → Q8,mem_iff_getElem → R8,mem_map_of_mem → S8,filter_sublist → T8,mem_filterMap → W8,getElem?_drop → X8,forIn_toArray → Y8,zip_map → o9,zipWith → q9,foldl → A9
open PySem.PyData renaming int → j0,tuple → S0,list → B1,bool → J5,shownAll → B7,canLayAll0 → U7,shown → r8,depthAll → B8,canLay0 → N8,showableAll → Z8,depth → j9,hasDictAll → u9
open PySem.W renaming Frag → u0,mg_none_of → T1,nsIn → W2,keepIn → W4,fnOf → L5,findIn → T6,codeIn → N7,methodObj → S7,cellsFrom_some → v8,OpenLaw → A8,specialIn → t9,instObj → y9
open Nat renaming lt_of_lt_of_le → P0,le_refl → R0,le_trans → X0,ne_of_lt → E1,ne_of_gt → B2,lt_of_le_of_lt → G2,lt_irrefl → E3,le_add_right → M4,zero_le → S4,le_of_lt → K5,le_of_succ_le → N5,add_sub_cancel_left → W5,le_mul_of_pos_right → X5,lt_of_succ_lt → v6,strongRecOn → J6,lt_succ_of_lt → W6,mul_assoc → v7,add_le_add_left → G7,succ_mul → K7,le_succ → Q7,one_mul → R7,le_of_not_lt → g8,length_repr_le_iff → w8,add_comm → g9,zero_add → i9,lt_or_ge → m9
open Array renaming length_toList → Q0,toList_append → E2,getElem_toList → T2,getElem?_toList → J3,toList_extract → j4,perm_iff_toList_perm → Z4,getElem?_eq_getElem → u5,toList_reverse → A6,size_extract → N6,toList_map → m7,toList_push → V7,getElem?_eq_none → x8
open PySem.Builtin.SmallTypes renaming nextOf → U0,ownedTupleIsFree → Z0,ownedTupleHandOut → V3
open Bool renaming false_ne_true → A1,false_eq_true → J2,eq_false_iff → W3,and_eq_true → Z3,eq_iff_iff → i6,beq_eq_decide_eq → o6,false_and → S6,and_false → M8,not_true → U8
open Option.some renaming inj → X1
open PySem.Value renaming ref → Z1,none → L4,int → e8,notImplemented → P8,bool → V8,isInt → v9
open PySem.Obj renaming mapSeq → O2,data_mapFields → M6,isFreed_of_fields → F8
open Ne renaming symm → V2
open PyProof.Rows renaming callWith_type1 → K3
open PySem.Builtin.List renaming listTooLong → X3,listSubscript? → M7,listSameRef → b8
open PySem.Heap.SameBut renaming update → A4
open Option renaming map_some → Q4,map_eq_some_iff → Z5,getD_some → h7,isNone_none → b9
open Int renaming mul_le_mul → X4,toNat_natCast → O5,le_refl → Y5,natCast_mul → K6,mul_le_mul_of_nonneg_right → u7,pow_succ → t8,one_mul → x9
open PySem.Builtin.Dict renaming showsAll → u6,updateFrom → m8
open PySem.Builtin.Dict_items renaming ownedTupleIsFree → E6,ownedTupleFields → G6,pairFromOwner → Z6,ownsTuple → E7
open PySem.Builtin.Tuple renaming tupleCompareSizes → e7,tupleHashOf → O7
open Nat.succ renaming inj → L7
namespace L2
open PySem PySem.Spec PyProof.Rows
noncomputable abbrev Key:=Sum Int Str
noncomputable def keyIs:Key->Value->Bool
 | .inl k,v=>v9 k v
 | .inr x,v=>Value.isStrOf x v
noncomputable def keyH(w:World):Key->Int
 | .inl k=>hashInt k
 | .inr x=>hashStr w x
theorem keyIs_shape:∀{k:Key}{v:Value},keyIs k v=true->(∃i t,k=Sum.inl i/\v=e8 i t)\/(∃x t,k=Sum.inr x/\v=Value.str x t)
 | .inl i,v,h=>by
  obtain⟨t,e⟩:=Value.isInt_shape (k:=i) (v:=v) h
  exact .inl ⟨i,t,rfl,e⟩
 | .inr x,v,h=>by
  obtain⟨t,e⟩:=Value.isStrOf_shape (x:=x) (v:=v) h
  exact .inr ⟨x,t,rfl,e⟩
theorem key_ll(a b:Int):decide ((Sum.inl a:Key)=Sum.inl b)=(a==b):=by
 by_cases e:a=b
 ·subst e;simp
 ·have h:¬(Sum.inl a:Key)=Sum.inl b:=λq=>e (Sum.inl.inj q)
  rw[decide_eq_false h]
  exact (beq_eq_false_iff_ne.mpr e).symm
theorem key_rr(a b:Str):decide ((Sum.inr a:Key)=Sum.inr b)=decide (a=b):=by
 by_cases e:a=b
 ·subst e;simp
 ·have h:¬(Sum.inr a:Key)=Sum.inr b:=λq=>e (Sum.inr.inj q)
  rw[decide_eq_false h,decide_eq_false e]
theorem key_lr(a:Int)(b:Str):decide ((Sum.inl a:Key)=Sum.inr b)=false:=decide_eq_false (λq=>nomatch q)
theorem key_rl(a:Str)(b:Int):decide ((Sum.inr a:Key)=Sum.inl b)=false:=decide_eq_false (λq=>nomatch q)
noncomputable def mixKind(prog:Program)(w:World):PySem.KeyKind prog w Key where
 is:=keyIs
 hash:=keyH w
 inj:=λv a b ha hb=>by
  rcases keyIs_shape ha with⟨i,t,rfl,rfl⟩|⟨x,t,rfl,rfl⟩
  ·rcases keyIs_shape hb with⟨j,u,rfl,e⟩|⟨y,u,rfl,e⟩
   ·injection e with e1 _;rw[e1]
   ·exact nomatch e
  ·rcases keyIs_shape hb with⟨j,u,rfl,e⟩|⟨y,u,rfl,e⟩
   ·exact nomatch e
   ·injection e with e1 _;rw[e1]
 byValue:=λk v h=>by
  rcases keyIs_shape h with⟨i,t,rfl,rfl⟩|⟨x,t,rfl,rfl⟩<;>rfl
 pyHash:=λhv h=>by
  rcases keyIs_shape hv with⟨i,t,rfl,rfl⟩|⟨x,t,rfl,rfl⟩
  ·exact wpAny_pyHash_int h
  ·exact wpAny_pyHash_str h
 eqBool:=λhu hv h=>by
  rcases keyIs_shape hu with⟨i,t,rfl,rfl⟩|⟨x,t,rfl,rfl⟩
  ·rcases keyIs_shape hv with⟨j,u,rfl,rfl⟩|⟨y,u,rfl,rfl⟩
   ·rw[key_ll]at h;exact wpAny_eqBool_int h
   ·rw[key_lr]at h;exact SeqAt.EqAt.int_str i t y u _ _ _ _ h
  ·rcases keyIs_shape hv with⟨j,u,rfl,rfl⟩|⟨y,u,rfl,rfl⟩
   ·rw[key_rl]at h;exact SeqAt.EqAt.str_int x t j u _ _ _ _ h
   ·rw[key_rr]at h;exact wpAny_eqBool_str h
 «strs»:=λk x t v h=>by
  rcases keyIs_shape h with⟨i,u,rfl,e⟩|⟨y,u,rfl,e⟩
  ·exact nomatch e
  ·injection e with e1 _
   subst e1
   cases v<;>rfl
inductive V where
 | non|bl (b:Bool)|int (i:Int)|str (x:Str)|byt (b:Array UInt8)|flt (b:UInt64)|ref (a:Addr)|ty (n:String)
 deriving DecidableEq
noncomputable def RelV:V->Value->Prop
 | .non,u=>u=L4
 | .bl b,u=>u=V8 b
 | .int i,u=>∃t,u=e8 i t
 | .str x,u=>∃t,u=Value.str x t
 | .byt b,u=>∃t,u=Value.bytes b t
 | .flt b,u=>∃t,u=Value.float b t
 | .ref a,u=>u=Z1 a
 | .ty n,u=>u=Value.type n
noncomputable abbrev Vals:List V->List Value->Prop:=Paired RelV
theorem Vals.length{xs:List V}{us:List Value}(r:Vals xs us):xs.length=us.length:=Paired.length r
theorem Vals.get:∀{xs:List V}{us:List Value}{i:Nat}{x:V},Vals xs us->xs[i]?=some x->∃u,us[i]?=some u/\RelV x u
 | _,_,_,_,.nil,e=>by simp at e
 | _,_,0,_,.cons r _,e=>by simp at e;subst e;exact ⟨_,rfl,r⟩
 | _,_,i+1,x,.cons _ t,e=>by
  obtain⟨u,h1,h2⟩:=Vals.get (i:=i) (x:=x) t (by simpa using e)
  exact ⟨u,by simpa using h1,h2⟩
theorem Vals.set{x:V}{u:Value}(r:RelV x u):∀{xs:List V}{us:List Value} (i:Nat),Vals xs us->Vals (xs.set i x) (us.set i u)
 | _,_,_,.nil=>.nil
 | _,_,0,.cons _ t=>.cons r t
 | _,_,i+1,.cons q t=>.cons q (Vals.set r i t)
theorem Vals.append:∀{xs ys:List V}{us ws:List Value},Vals xs us->Vals ys ws->Vals (xs++ys) (us++ws)
 | _,_,_,_,.nil,s=>s
 | _,_,_,_,.cons r t,s=>.cons r (Vals.append t s)
noncomputable def RelO:Option V->Option Value->Prop
 | some v,some u=>RelV v u
 | none,none=>True
 | _,_=>False
noncomputable def KV{κ:Type}:List (κ×V)->List (κ×Value)->Prop:=Paired λ(p:κ×V) (q:κ×Value)=>p.1=q.1/\RelV p.2 q.2
noncomputable def kV:Key->V
 | .inl i=>.int i
 | .inr x=>.str x
inductive HO where
 | lst (xs:List V)
 | tup (xs:List V)
 | dK (kvs:List (Key×V))|dT (kvs:List (List Key×V))
 | set (S:Int->Bool) (n:Nat)
 | ins (C dx:Addr) (fs:List (Str×V))
 | own (x:Addr)
 | xd (fs:List (Str×V))
 | met (f x:Addr)
 | rng (lo hi:Int)
 | frz (o:Obj) (u:HO)
 | tbl (ps:Array Value)
 | ext (φ:Heap->Prop)
noncomputable abbrev Hp:=Addr->Option HO
noncomputable def upd(H:Hp)(a:Addr)(o:HO):Hp:=λb=>if b=a then some o else H b
theorem upd_same{H:Hp}{a:Addr}{o:HO}:upd H a o a=some o:=by unfold upd;rw[if_pos rfl]
theorem upd_ne{H:Hp}{a b:Addr}{o:HO}(h:b≠a):upd H a o b=H b:=by unfold upd;rw[if_neg h]
theorem ne_of_none{H:Hp}{a b:Addr}{o:HO}(h:H a=some o)(h':H b=none):a≠b:=by
 intro e;subst e;rw[h]at h';cases h'
noncomputable def IsTupD(h:Heap)(a:Addr)(items:Array Value):Prop:=∃o,h.get? a=some o/\o.cls=.type "tuple"/\∃n,o.data=.seq items n/\o.dict=none
theorem IsTupD.t{h:Heap}{a:Addr}{items:Array Value}:IsTupD h a items->IsTup h a items:=λ⟨o,e,c,n,d,_⟩=>⟨o,e,c,n,d⟩
theorem IsTupD.new(h:Heap)(items:Array Value):IsTupD (h.push { cls:=.type "tuple",data:=.seq items }) h.objs.size items:=⟨_,K0 _ rfl,rfl,_,rfl,rfl⟩
section
variable (P:Program)(w:World)
noncomputable def ObjOk(H:Hp)(h:Heap)(a:Addr):HO->Prop
 | .lst xs=>xs.length<=sizeLine/\∃(its:List Value) (n:Nat),Vals xs its/\h.get? a=some { cls:=.type "list",data:=.seq its.toArray n }
 | .tup xs=>xs.length<=sizeLine/\∃its:List Value,Vals xs its/\IsTupD h a its.toArray
 | .dK kvs=>kvs.length<=sizeLine/\(a==sysModules)=false/\∃vs,KV kvs vs/\h.DictOf (mixKind P w) a vs
 | .dT kvs=>kvs.length<=sizeLine/\(a==sysModules)=false/\∃xs:List (List Key×Addr×Value),
   Paired (λ(p:List Key×V) (q:List Key×Addr×Value)=>p.1=q.1/\H q.2.1=some (.tup (p.1.map kV))/\RelV p.2 q.2.2) kvs xs /\
   ∃o es ep,h.get? a=some o/\o.ExactDict/\o.data=.dict es ep/\es.toList=xs.map (entryOfKey (tupleKind (mixKind P w)))/\(xs.map (·.1)).Nodup
 | .set S n=>h.SetOf (intKind P w) a S n
 | .ins C dx fs=>H dx=some (.own a)/\fs.length<=1000/\dx≠a/\h.get? a=some (y9 C dx) /\
   ∃mA,h.Ns1 dx mA/\(∀f,RelO (fs.lookup f) (mA f))/\PySem.Within mA (fs.map (·.1))
 | .own _=>∃o,h.get? a=some o
 | .xd fs=>∃mA,h.Ns1 a mA/\∀f,RelO (fs.lookup f) (mA f)
 | .rng lo hi=>∃t u v,h.get? a=some { cls:=.type "range",data:=.fields #[.int lo t,.int hi u,.int 1 v] }
 | .frz o u=>h.get? a=some o/\ObjOk H h a u
 | .tbl ps=>h.get? a=some { cls:=.none,data:=.fields ps }
 | .met f x=>h.get? a=some (S7 (.ref f) (.ref x))
 | .ext φ=>φ h/\(∃o,h.get? a=some o)/\∀h1 h2:Heap,φ h1->(∀o,h1.get? a=some o->h2.get? a=some o)->φ h2
noncomputable def HOk(H:Hp)(h:Heap):Prop:=∀a o,H a=some o->ObjOk P w H h a o
end
section
variable {P:Program}{w:World}{H H':Hp}{h h':Heap}{a:Addr}{o:HO}
theorem ObjOk.lt(x:ObjOk P w H h a o):a < h.objs.size:=by
 cases o with
 | lst xs=>obtain⟨_,_,_,_,e⟩:=x;exact G0 e
 | tup xs=>obtain⟨_,_,_,p⟩:=x;exact p.t.lt
 | dK kvs=>obtain⟨_,_,_,_,o,_,_,e,_⟩:=x;exact G0 e
 | dT kvs=>obtain⟨_,_,_,_,o,_,_,e,_⟩:=x;exact G0 e
 | set S n=>obtain⟨o,_,_,_,e,_⟩:=x;exact G0 e
 | ins C dx fs=>obtain⟨_,_,_,e,_⟩:=x;exact G0 e
 | own y=>obtain⟨_,e⟩:=x;exact G0 e
 | xd fs=>obtain⟨_,⟨_,_,_,e,_⟩,_⟩:=x;exact G0 e
 | rng lo hi=>obtain⟨_,_,_,e⟩:=x;exact G0 e
 | frz ob u=>obtain⟨e,_⟩:=x;exact G0 e
 | tbl ps=>exact G0 (show h.get? a=some _ from x)
 | met f y=>exact G0 (show h.get? a=some _ from x)
 | ext φ=>obtain⟨_,⟨_,e⟩,_⟩:=x;exact G0 e
theorem Paired.mapP{α β:Type}{F G:α->β->Prop}:∀{l₁:List α}{l₂:List β},Paired F l₁ l₂->(∀a b,F a b->G a b)->Paired G l₁ l₂
 | _,_,.nil,_=>.nil
 | _,_,.cons r t,f=>.cons (f _ _ r) (Paired.mapP t f)
theorem ObjOk.stay(x:ObjOk P w H h a o)(k:∀b u,(b=a\/H b=some (.own a))->h.get? b=some u->h'.get? b=some u)
  (ho:∀b,H b=some (.own a)->H' b=some (.own a)) (ht:∀b xs,H b=some (.tup xs)->H' b=some (.tup xs)):ObjOk P w H' h' a o:=by
 induction o with
 | lst xs=>obtain⟨z,its,n,r,e⟩:=x;exact ⟨z,its,n,r,k _ _ (.inl rfl) e⟩
 | tup xs=>obtain⟨z,its,r,ob,e,c⟩:=x;exact ⟨z,its,r,ob,k _ _ (.inl rfl) e,c⟩
 | dK kvs=>obtain⟨z,y,vs,r,ob,es,ep,e,c⟩:=x;exact ⟨z,y,vs,r,ob,es,ep,k _ _ (.inl rfl) e,c⟩
 | dT kvs =>
  obtain⟨z,y,xs,r,ob,es,ep,e,c⟩:=x
  exact ⟨z,y,xs,Paired.mapP r λp q z=>⟨z.1,ht _ _ z.2.1,z.2.2⟩,ob,es,ep,k _ _ (.inl rfl) e,c⟩
 | set S n=>obtain⟨ob,es,ep,t,e,c⟩:=x;exact ⟨ob,es,ep,t,k _ _ (.inl rfl) e,c⟩
 | ins C dx fs =>
  obtain⟨d,z,ne,e,mA,⟨od,es,ep,e2,c⟩,r⟩:=x
  exact ⟨ho _ d,z,ne,k _ _ (.inl rfl) e,mA,⟨od,es,ep,k _ _ (.inr d) e2,c⟩,r⟩
 | own y=>obtain⟨ob,e⟩:=x;exact ⟨ob,k _ _ (.inl rfl) e⟩
 | xd fs=>obtain⟨mA,⟨od,es,ep,e,c⟩,r⟩:=x;exact ⟨mA,⟨od,es,ep,k _ _ (.inl rfl) e,c⟩,r⟩
 | rng lo hi=>obtain⟨t,u,v,e⟩:=x;exact ⟨t,u,v,k _ _ (.inl rfl) e⟩
 | frz ob u ih=>obtain⟨e,q⟩:=x;exact ⟨k _ _ (.inl rfl) e,ih q⟩
 | tbl ps =>
  have e:h.get? a=some { cls:=.none,data:=.fields ps }:=x
  show h'.get? a=some { cls:=.none,data:=.fields ps }
  exact k a _ (.inl rfl) e
 | met f y =>
  have e:h.get? a=some (S7 (.ref f) (.ref y)):=x
  show h'.get? a=some (S7 (.ref f) (.ref y))
  exact k a _ (.inl rfl) e
 | ext φ=>obtain⟨p,⟨o,e⟩,st⟩:=x;exact ⟨st _ _ p λo q=>k _ _ (.inl rfl) q,⟨o,k _ _ (.inl rfl) e⟩,st⟩
theorem HOk.lt(x:HOk P w H h)(e:H a=some o):a < h.objs.size:=(x a o e).lt
theorem HOk.fresh(x:HOk P w H h)(e:h.objs.size<=a):H a=none:=by
 cases q:H a with
 | none=>rfl
 | some u=>exact absurd (P0 (x.lt q) e) (E3 _)
theorem HOk.kept(x:HOk P w H h)(k:∀b u,h.get? b=some u->h'.get? b=some u):HOk P w H h':=λa o e =>
 (x a o e).stay (λb u _ q=>k b u q) (λ_ q=>q) λ_ _ q=>q
theorem HOk.laid(x:HOk P w H h)(k:∀b u,h.get? b=some u->h'.get? b=some u)(hp:h.objs.size<=a)(new:ObjOk P w (upd H a o) h' a o):HOk P w (upd H a o) h':=λb u e=>by
 have hn:=x.fresh hp
 by_cases hb:b=a
 ·subst hb;rw[upd_same]at e;cases e;exact new
 ·rw[upd_ne hb]at e
  exact (x b u e).stay (λc v _ q=>k c v q) (λc q=>by rw[upd_ne (ne_of_none q hn)];exact q) λc xs q=>by rw[upd_ne (ne_of_none q hn)];exact q
end
noncomputable def Rd(H:Hp)(a:Addr)(u:HO):Prop:=H a=some u\/∃o,H a=some (.frz o u)
theorem Rd.ok{P:Program}{w:World}{H:Hp}{h:Heap}{a:Addr}{u:HO}(r:Rd H a u)(x:HOk P w H h):ObjOk P w H h a u:=by
 rcases r with r|⟨o,r⟩
 ·exact x a u r
 ·obtain⟨_,q⟩:=x a _ r
  exact q
noncomputable def Mut:Option HO->Prop
 | some (.lst _)=>True
 | some (.dK _)=>True
 | some (.dT _)=>True
 | some (.set _ _)=>True
 | some (.ins _ _ _)=>True
 | some (.ext _)=>True
 | _=>False
section
variable {P:Program}{w:World}{H:Hp}{h h':Heap}{x e:Addr}{o':HO}
theorem HOk.write(ok:HOk P w H h)(mu:Mut (H x))(he:e=x\/H e=some (.own x))(k:∀b u,b≠e->h.get? b=some u->h'.get? b=some u)(heo:∃u,h'.get? e=some u)
  (new:ObjOk P w (upd H x o') h' x o'):HOk P w (upd H x o') h':=λb u q=>by
 have nown:∀c y,H c=some (.own y)->c≠x:=λc y r z=>by subst z;rw[r]at mu;exact mu
 have ntup:∀c xs,H c=some (.tup xs)->c≠x:=λc xs r z=>by subst z;rw[r]at mu;exact mu
 by_cases hb:b=x
 ·subst hb;rw[upd_same]at q;cases q;exact new
 ·rw[upd_ne hb]at q
  by_cases hbe:b=e
  ·have q':H b=some (.own x):=by
    rcases he with z|z
    ·exact absurd (hbe.trans z) hb
    ·rw[hbe];exact z
   rw[q]at q';cases q'
   obtain⟨v,hv⟩:=heo
   exact ⟨v,by rw[hbe];exact hv⟩
  ·refine (ok b u q).stay (λc v hc r=>k c v ?_ r) (λc r=>by rw[upd_ne (nown c b r)];exact r) λc xs r=>by rw[upd_ne (ntup c xs r)];exact r
   rcases hc with rfl|hc
   ·exact hbe
   ·rintro rfl
    rcases he with z|z
    ·exact nown c b hc z
    ·rw[hc]at z;cases z;exact hb rfl
end
structure Un(fs ex:List Addr)(H H':Hp)(h h':Heap):Prop where
 keep:∀b o,h.get? b=some o->H b=none->b∉fs->b∉ex->h'.get? b=some o
 slot:∀b o,h.get? b=some o->H b=none->b∈fs->b∉ex->∃sl,h'.get? b=some { o with slots:=sl }
 free:∀b o,h.get? b=some o->H b=none->b∉ex->H' b=none
 there:∀b o,h.get? b=some o->b∉ex->∃o',h'.get? b=some o'
 tups:∀b xs,H b=some (.tup xs)->H' b=some (.tup xs)
 frzs:∀b o u,H b=some (.frz o u)->H' b=some (.frz o u)
 tbls:∀b ps,H b=some (.tbl ps)->∃more,H' b=some (.tbl (ps++more))
section
variable {fs fs' ex ex':List Addr}{H H1 H2:Hp}{h h1 h2 h':Heap}{a x e:Addr}{o:HO}
theorem Un.any(u:Un fs ex H H1 h h1){b:Addr}{ob:Obj}(q:h.get? b=some ob)(n:H b=none)(hx:b∉ex):∃sl,h1.get? b=some { ob with slots:=sl }:=by
 by_cases hb:b∈fs
 ·exact u.slot b ob q n hb hx
 ·exact ⟨ob.slots,u.keep b ob q n hb hx⟩
theorem Un.kept(k:∀b u,h.get? b=some u->h'.get? b=some u):Un fs ex H H h h' :=
 ⟨λb ob q _ _ _=>k b ob q,λb ob q _ _ _=>⟨ob.slots,k b ob q⟩,λ_ _ _ n _=>n,λb ob q _=>⟨ob,k b ob q⟩,λ_ _ q=>q,λ_ _ _ q=>q,λ_ ps q=>⟨#[],by rw[q];simp⟩⟩
theorem Un.refl:Un fs ex H H h h:=Un.kept λ_ _ q=>q
theorem Un.laid(k:∀b u,h.get? b=some u->h'.get? b=some u)(hp:h.objs.size<=a)(hn:H a=none):Un fs ex H (upd H a o) h h' where
 keep:=λb u q _ _ _=>k b u q
 slot:=λb u q _ _ _=>⟨u.slots,k b u q⟩
 free:=λb u q n _=>by rw[upd_ne (E1 (P0 (G0 q) hp))];exact n
 there:=λb u q _=>⟨u,k b u q⟩
 tups:=λb xs q=>by rw[upd_ne (ne_of_none q hn)];exact q
 frzs:=λb u xs q=>by rw[upd_ne (ne_of_none q hn)];exact q
 tbls:=λb ps q=>⟨#[],by rw[upd_ne (ne_of_none q hn),q];simp⟩
theorem Un.write(mu:Mut (H x))(he:e=x\/H e=some (.own x))(k:∀b u,b≠e->h.get? b=some u->h'.get? b=some u)(heo:∃u,h'.get? e=some u):Un fs ex H (upd H x o) h h':=by
 have hx:∀b,H b=none->b≠x:=λb n z=>by subst z;rw[n]at mu;exact mu
 have hb:∀b,H b=none->b≠e:=λb n z=>by
  subst z
  rcases he with r|r
  ·exact hx b n r
  ·rw[n]at r;cases r
 have hm:∀b u,H b=some u->¬Mut (some u)->b≠x:=λb u q nm z=>by subst z;rw[q]at mu;exact nm mu
 refine ⟨λb u q n _ _=>k b u (hb b n) q,λb u q n _ _=>⟨u.slots,k b u (hb b n) q⟩,λb u q n _=>by rw[upd_ne (hx b n)];exact n,λb u q _=>?_,
   λb xs q=>by rw[upd_ne (hm b _ q λz=>z)];exact q,λb u xs q=>by rw[upd_ne (hm b _ q λz=>z)];exact q,λb ps q=>⟨#[],by rw[upd_ne (hm b _ q λz=>z),q];simp⟩⟩
 by_cases hbe:b=e
 ·subst hbe;exact heo
 ·exact ⟨u,k b u hbe q⟩
end
noncomputable def trk(h:Heap)(H:Hp):List Addr:=(U2 h.objs.size).filter λa=>(H a).isSome
noncomputable def hidT(h:Heap)(H:Hp):Heap:=PySem.W.hideAll h (trk h H)
theorem hidT_size(h:Heap)(H:Hp):(hidT h H).objs.size=h.objs.size:=PySem.W.hideAll_size _ _
theorem hidT_get{h:Heap}{H:Hp}{b:Addr}{o:Obj}(e:h.get? b=some o)(n:H b=none):(hidT h H).get? b=some o :=
 PySem.W.hideAll_get _ e λhm=>by
  have q:(H b).isSome=true:=(A5.mp hm).2
  rw[n]at q;simp at q
theorem of_hidT{h:Heap}{H:Hp}{b:Addr}{o:Obj}(e:(hidT h H).get? b=some o):h.get? b=some o/\H b=none:=by
 have e':h.get? b=some o:=PySem.W.of_hideAll (trk h H) e
 refine ⟨e',?_⟩
 cases q:H b with
 | none=>rfl
 | some x =>
  have hm:b∈trk h H:=A5.mpr ⟨w6.mpr (G0 e'),by simp[q]⟩
  have z:(hidT h H).get? b=none:=PySem.W.hideAll_none (trk h H) hm
  rw[z]at e;cases e
noncomputable def allNews(g h:Heap)(L:Addr):List (Addr×Obj):=(U2 h.objs.size).filterMap λa=>if a=L\/(g.get? a).isSome=true then none else (h.get? a).map λo=>(a,o)
noncomputable def rest(g h:Heap)(L d:Addr):List (Addr×Obj):=(allNews g h L).filter λp=>decide (p.1≠d)
structure Mod(K:u0)(mg:Str->Option Value)(base:Heap):Prop where
 kin:K.In base
 glob:base.Ns mainGlobals mg
 blt:∃mb,base.Ns builtinsNs mb/\∀x:Str,x ≠ "__name__"->mb x=bootBuiltins x
 nolimit:base.NoLimit
structure Cx where
 prog:Program
 w:World
 K:u0
 mg:Str->Option Value
 base:Heap
 A:Around
 N:List Str
 s₀:Shared
 H₀:Hp
 env:Env
 outer:List Env
 stack:List Env
 ex:List Addr
 fn:Str->Bool
 calm:Bool
 pn:List (Addr×Obj)
 xe:Value->Shared->Prop
noncomputable def frs(l:List Env):List Addr:=l.filterMap (·.frame)
noncomputable abbrev Cx.fs(X:Cx):List Addr:=frs X.outer
noncomputable def Vis(sc:Scope)(x:Str):Prop:=sc.names.lookup x=some .local\/sc.names.lookup x=some .cell\/sc.names.lookup x=some .free
noncomputable def Loc(sc:Scope)(x:Str):Prop:=sc.names.lookup x=some .local\/sc.names.lookup x=some .cell
noncomputable def Look(env:Env)(h:Heap)(m:Str->Option Value)(x:Str)(u:Value):Prop :=
 (env.kindOf x=some .local/\m x=some u)\/((env.kindOf x=some .cell\/env.kindOf x=some .free)/\∃c,env.cells.lookup x=some c/\h.IsCell c (some u))
structure Cx.Ok(X:Cx):Prop where
 mod:Mod X.K X.mg X.base
 kind:X.env.scope.kind=.function
 glob:X.env.globals=mainGlobals
 blt:X.env.builtins=builtinsNs
 above:X.s₀.heap.objs.size<=X.env.locals
 inj:∀x y c,X.env.cells.lookup x=some c->X.env.cells.lookup y=some c->x=y
 has:∀x,(X.env.kindOf x=some .cell\/X.env.kindOf x=some .free)->∃c,X.env.cells.lookup x=some c
 cab:∀x c,X.fn x=true->X.env.cells.lookup x=some c->X.s₀.heap.objs.size<=c
 hd:X.calm=true->X.A.handled=none
 frames:X.A.frames=some X.stack
 stk:X.stack=X.outer\/(X.stack=X.env :: X.outer/\X.env.frame=some X.env.locals)
 exf:∀b∈X.ex,b≠X.env.locals/\∀x c,X.env.cells.lookup x=some c->c≠b
 bs:∀b o,X.base.get? b=some o->X.s₀.heap.get? b=some o/\X.H₀ b=none
 bsz:X.base.objs.size<=X.s₀.heap.objs.size
 noex:∀b o,X.base.get? b=some o->b∉X.ex
 exfs:∀b∈X.ex,b∉X.fs
 funs:X.s₀.heap.FunFrames X.base X.outer
 frf:∀b∈X.fs,X.H₀ b=none
structure Inv(X:Cx)(pins:List (Addr×Obj))(σ:List (Option V))(H:Hp)(s:Shared):Prop where
 ok:X.Ok
 os:s.os=X.s₀.os
 bare:AllBare s.gens
 base:Un X.fs X.ex X.H₀ H X.s₀.heap s.heap
 loc:∃m,s.heap.Ns X.env.locals m/\∀(i:Nat) (x:Str) (v:V),X.N[i]?=some x->σ[i]?=some (some v)->Vis X.env.scope x->∃u,RelV v u/\Look X.env s.heap m x u
 cell:∀x c,X.env.cells.lookup x=some c->∃v,s.heap.IsCell c v
 free:H X.env.locals=none
 freeC:∀x c,X.env.cells.lookup x=some c->H c=none
 pin:∀p∈X.pn++pins,s.heap.get? p.1=some p.2/\H p.1=none/\p.1≠X.env.locals/\p.1∉X.fs/\∀v,p.2.data≠.cell v
 hok:HOk X.prog X.w H s.heap
 len:σ.length=X.N.length
section
variable {X:Cx}{pins:List (Addr×Obj)}{σ:List (Option V)}{H H':Hp}{s:Shared}{h':Heap}
theorem Cx.Ok.nofr(ok:X.Ok){b:Addr}{o:Obj}(e:X.base.get? b=some o):b∉X.fs:=λhb=>by
 have:=(ok.funs.mem hb).1
 rw[e]at this;cases this
theorem Inv.bs(I:Inv X pins σ H s):∀b o,X.base.get? b=some o->s.heap.get? b=some o/\H b=none:=λb o e =>
 ⟨I.base.keep b o (I.ok.bs b o e).1 (I.ok.bs b o e).2 (I.ok.nofr e) (I.ok.noex b o e),I.base.free b o (I.ok.bs b o e).1 (I.ok.bs b o e).2 (I.ok.noex b o e)⟩
theorem Inv.bk(I:Inv X pins σ H s):∀b o,X.base.get? b=some o->s.heap.get? b=some o:=λb o e=>(I.bs b o e).1
theorem Inv.mod(I:Inv X pins σ H s):Mod X.K X.mg X.base:=I.ok.mod
theorem Inv.kIn(I:Inv X pins σ H s):X.K.In s.heap:=I.ok.mod.kin.keeps I.bk
theorem Inv.lt(I:Inv X pins σ H s):X.env.locals < s.heap.objs.size:=let ⟨_,hn,_⟩:=I.loc;hn.lt
theorem Inv.sz(I:Inv X pins σ H s):X.s₀.heap.objs.size<=s.heap.objs.size:=X0 I.ok.above (K5 I.lt)
theorem Inv.nofs(I:Inv X pins σ H s){a:Addr}(h:s.heap.objs.size<=a):a∉X.fs:=λhb=>by
 obtain⟨_,o,ho,_⟩:=I.ok.funs.mem hb
 exact absurd (P0 (G0 ho) (X0 I.sz h)) (E3 _)
theorem Inv.cne(I:Inv X pins σ H s):∀x c,X.env.cells.lookup x=some c->c≠X.env.locals:=λx c e z=>by
 obtain⟨v,o,ho,hd⟩:=I.cell x c e
 obtain⟨m,⟨o',es,ep,ho',hd',_⟩,_⟩:=I.loc
 rw[z,ho']at ho;cases ho;rw[hd']at hd;cases hd
theorem Inv.funs(I:Inv X pins σ H s):s.heap.FunFrames X.base X.outer:=by
 have all:∀(l:List Env),(∀b∈frs l,b∈X.fs)->X.s₀.heap.FunFrames X.base l->s.heap.FunFrames X.base l:=by
  intro l
  induction l with
  | nil=>intro _ _;trivial
  | cons env r ih =>
   intro hs hl
   obtain⟨hk,⟨L,o,hf,hn,ho,hd⟩,hr⟩:=hl
   have hL:L∈X.fs:=hs L (by unfold frs;rw[F7,hf];exact B0)
   obtain⟨sl,e⟩:=I.base.slot L o ho (I.ok.frf L hL) hL λz=>I.ok.exfs L z hL
   exact ⟨hk,⟨L,_,hf,hn,e,hd⟩,ih (λb hb=>hs b (by unfold frs;rw[F7,hf];exact A0 _ hb)) hr⟩
 exact all X.outer (λ_ hb=>hb) I.ok.funs
theorem Inv.stack(I:Inv X pins σ H s):s.heap.FunFrames X.base X.stack:=by
 rcases I.ok.stk with e|⟨e,hf⟩
 ·rw[e];exact I.funs
 ·rw[e]
  obtain⟨m,hn,_⟩:=I.loc
  refine .cons (by rw[I.ok.kind];decide) hf hn ?_ I.funs
  exact Heap.get?_none_of_le (X0 I.ok.bsz I.ok.above)
theorem Inv.stkSub(I:Inv X pins σ H s):∀b∈frs X.stack,b∈X.env.locals :: X.fs:=λb hb=>by
 rcases I.ok.stk with e|⟨e,hf⟩
 ·rw[e]at hb;exact A0 _ hb
 ·rw[e]at hb
  unfold frs at hb
  rw[F7,hf]at hb
  exact hb
theorem Inv.stkFree(I:Inv X pins σ H s):∀b∈frs X.stack,H b=none:=λb hb=>by
 rcases Y0.mp (I.stkSub b hb) with e|hb
 ·rw[e];exact I.free
 ·obtain⟨_,o,ho,_⟩:=I.ok.funs.mem hb
  exact I.base.free b o ho (I.ok.frf b hb) λz=>I.ok.exfs b z hb
theorem Inv.step{g':Array GenState}{t':Nat}{d':Drawn}{ch:List Addr}(I:Inv X pins σ H s)
  (hch:∀b∈ch,(b∈X.ex\/X.s₀.heap.objs.size<=b)/\b≠X.env.locals/\(∀x c,X.env.cells.lookup x=some c->c≠b)/\∀p∈X.pn++pins,p.1≠b)
  (keep:∀b o,b≠X.env.locals->b∉X.fs->b∉ch->s.heap.get? b=some o->H b=none->h'.get? b=some o)
  (slot:∀b o,b≠X.env.locals->b∈X.fs->b∉ch->s.heap.get? b=some o->H b=none->∃sl,h'.get? b=some { o with slots:=sl }) (free:∀b o,b∉ch->s.heap.get? b=some o->H b=none->H' b=none)
  (there:∀b o,b∉ch->s.heap.get? b=some o->∃o',h'.get? b=some o')
  (tups:∀b xs,H b=some (.tup xs)->H' b=some (.tup xs)) (frzs:∀b o u,H b=some (.frz o u)->H' b=some (.frz o u)) (tbls:∀b ps,H b=some (.tbl ps)->∃more,H' b=some (.tbl (ps++more)))
  (ns:∀m,s.heap.Ns X.env.locals m->h'.Ns X.env.locals m) (hok:HOk X.prog X.w H' h') (hg:AllBare g') :
  Inv X pins σ H' { s with heap:=h',gens:=g',drawn:=d',toks:=t' }:=by
 have neL:∀b o,X.s₀.heap.get? b=some o->b≠X.env.locals:=λb o e=>E1 (P0 (G0 e) I.ok.above)
 have neC:∀b o,X.s₀.heap.get? b=some o->b∉X.ex->b∉ch:=λb o e hx hb=>by
  rcases (hch b hb).1 with z|z
  ·exact hx z
  ·exact absurd (P0 (G0 e) z) (E3 _)
 have cellK:∀x c,X.env.cells.lookup x=some c->∀v,s.heap.IsCell c v->h'.IsCell c v:=λx c e v ⟨o,ho,hd⟩=>by
  have nch:c∉ch:=λz=>(hch c z).2.2.1 x c e rfl
  by_cases hc:c∈X.fs
  ·obtain⟨sl,q⟩:=slot c o (I.cne x c e) hc nch ho (I.freeC x c e)
   exact ⟨_,q,hd⟩
  ·exact ⟨o,keep c o (I.cne x c e) hc nch ho (I.freeC x c e),hd⟩
 refine ⟨I.ok,I.os,hg,⟨λb o e n hb hx=>?_,λb o e n hb hx=>?_,λb o e n hx=>?_,λb o e hx=>?_,λb xs e=>tups b xs (I.base.tups b xs e),λb o xs e=>frzs b o xs (I.base.frzs b o xs e),λb ps e=>?_⟩,?_,λx c e=>?_,?_,λx c e=>?_,λp hp=>?_,hok,I.len⟩
 ·exact keep b o (neL b o e) hb (neC b o e hx) (I.base.keep b o e n hb hx) (I.base.free b o e n hx)
 ·obtain⟨sl,e1⟩:=I.base.slot b o e n hb hx
  obtain⟨sl',e2⟩:=slot b _ (neL b o e) hb (neC b o e hx) e1 (I.base.free b o e n hx)
  exact ⟨sl',e2⟩
 ·obtain⟨o',e1⟩:=I.base.there b o e hx
  exact free b o' (neC b o e hx) e1 (I.base.free b o e n hx)
 ·obtain⟨o',e1⟩:=I.base.there b o e hx
  exact there b o' (neC b o e hx) e1
 ·obtain⟨m1,e1⟩:=I.base.tbls b ps e
  obtain⟨m2,e2⟩:=tbls b _ e1
  exact ⟨m1++m2,by rw[e2,Array.append_assoc]⟩
 ·obtain⟨m,hn,hl⟩:=I.loc
  refine ⟨m,ns m hn,λi x v e1 e2 e3=>?_⟩
  obtain⟨u,r,l⟩:=hl i x v e1 e2 e3
  refine ⟨u,r,?_⟩
  rcases l with l|⟨k,c,e,z⟩
  ·exact .inl l
  ·exact .inr ⟨k,c,e,cellK x c e _ z⟩
 ·obtain⟨v,z⟩:=I.cell x c e
  exact ⟨v,cellK x c e v z⟩
 ·obtain⟨m,⟨o,_,_,ho,_⟩,_⟩:=I.loc
  exact free _ o (λz=>(hch _ z).2.1 rfl) ho I.free
 ·obtain⟨v,o,ho,hd⟩:=I.cell x c e
  exact free c o (λz=>(hch c z).2.2.1 x c e rfl) ho (I.freeC x c e)
 ·obtain⟨e,n,ne,nf,d⟩:=I.pin p hp
  have nch:p.1∉ch:=λz=>(hch p.1 z).2.2.2 p hp rfl
  exact ⟨keep p.1 p.2 ne nf nch e n,free p.1 p.2 nch e n,ne,nf,d⟩
theorem Inv.un{t':Nat}(I:Inv X pins σ H s)(u:Un X.fs [] H H' s.heap h')(hok:HOk X.prog X.w H' h'):Inv X pins σ H' { s with heap:=h',toks:=t' }:=by
 obtain⟨m,⟨o,es,ep,ho,r⟩,_⟩:=id I.loc
 obtain⟨sl,hL⟩:=u.any ho I.free (by simp)
 exact I.step (g':=s.gens) (d':=s.drawn) (ch:=[]) (λ_ z=>nomatch z) (λb o _ hb _ e n=>u.keep b o e n hb (by simp)) (λb o _ hb _ e n=>u.slot b o e n hb (by simp)) (λb o _ e n=>u.free b o e n (by simp)) (λb o _ e=>u.there b o e (by simp)) u.tups u.frzs u.tbls (λm' hm=>by
   obtain⟨o',es',ep',ho',r'⟩:=hm
   rw[ho]at ho';cases ho'
   exact ⟨_,es',ep',hL,r'⟩) hok I.bare
theorem Inv.call{g':Array GenState}{t':Nat}{d':Drawn}{ch:List Addr}(I:Inv X pins σ H s)(u:Un (frs X.stack) ch H H' s.heap h')(hok:HOk X.prog X.w H' h')(hg:AllBare g')
  (hch:∀b∈ch,(b∈X.ex\/X.s₀.heap.objs.size<=b)/\b≠X.env.locals/\(∀x c,X.env.cells.lookup x=some c->c≠b)/\∀p∈X.pn++pins,p.1≠b) :
  Inv X pins σ H' { s with heap:=h',gens:=g',drawn:=d',toks:=t' }:=by
 obtain⟨m,⟨o,es,ep,ho,r⟩,_⟩:=id I.loc
 obtain⟨sl,hL⟩:=u.any ho I.free λz=>(hch _ z).2.1 rfl
 exact I.step (ch:=ch) hch (λb o hL hb hc e n=>u.keep b o e n (λz=>(Y0.mp (I.stkSub b z)).elim hL hb) hc) (λb o _ _ hc e n=>u.any e n hc) (λb o hc e n=>u.free b o e n hc) (λb o hc e=>u.there b o e hc) u.tups u.frzs u.tbls (λm' hm=>by
   obtain⟨o',es',ep',ho',r'⟩:=hm
   rw[ho]at ho';cases ho'
   exact ⟨_,es',ep',hL,r'⟩) hok hg
theorem Inv.turned{t':Nat}{it:Addr}(I:Inv X pins σ H s)(k:∀b o,b≠it->s.heap.get? b=some o->h'.get? b=some o)(hn:H it=none)(hL:it≠X.env.locals)
  (h1:it∈X.ex\/X.s₀.heap.objs.size<=it) (h2:∀x c,X.env.cells.lookup x=some c->c≠it) (h3:∀p∈X.pn++pins,p.1≠it):Inv X pins σ H { s with heap:=h',toks:=t' }:=by
 have nit:∀b u,H b=some u->b≠it:=λb u e z=>by rw[z,hn]at e;cases e
 refine I.step (g':=s.gens) (d':=s.drawn) (ch:=[it]) (λb hb=>?_) (λb o _ _ hc e _=>k b o (λz=>hc (by simp[z])) e) (λb o _ _ hc e _=>⟨o.slots,k b o (λz=>hc (by simp[z])) e⟩) (λ_ _ _ _ n=>n)
  (λb o hc e=>⟨o,k b o (λz=>hc (by simp[z])) e⟩) (λ_ _ e=>e) (λ_ _ _ e=>e) (λb ps e=>⟨#[],by rw[e];simp⟩) (λm hm=>?_) (λb u e=>?_) I.bare
 ·have e:b=it:=by simpa using hb
  subst e
  exact ⟨h1,hL,h2,h3⟩
 ·obtain⟨o,es,ep,ho,r⟩:=hm
  exact ⟨o,es,ep,k _ o (V2 hL) ho,r⟩
 ·refine (I.hok b u e).stay (λc v hc q=>k c v ?_ q) (λ_ q=>q) λ_ _ q=>q
  rcases hc with z|z
  ·rw[z];exact nit b u e
  ·exact nit c _ z
theorem Inv.tok(I:Inv X pins σ H s)(t:Nat):Inv X pins σ H { s with toks:=t }:=I.un (h':=s.heap) (t':=t) Un.refl I.hok
theorem Inv.kept{t':Nat}(I:Inv X pins σ H s)(k:∀b u,s.heap.get? b=some u->h'.get? b=some u):Inv X pins σ H { s with heap:=h',toks:=t' }:=I.un (Un.kept k) (I.hok.kept k)
theorem Inv.laid{a:Addr}{o:HO}{t':Nat}(I:Inv X pins σ H s)(k:∀b u,s.heap.get? b=some u->h'.get? b=some u)(hp:s.heap.objs.size<=a)(new:ObjOk X.prog X.w (upd H a o) h' a o) :
  Inv X pins σ (upd H a o) { s with heap:=h',toks:=t' }:=I.un (Un.laid k hp (I.hok.fresh hp)) (I.hok.laid k hp new)
theorem Inv.write{x e:Addr}{o:HO}{t':Nat}(I:Inv X pins σ H s)(mu:Mut (H x))(he:e=x\/H e=some (.own x))(k:∀b u,b≠e->s.heap.get? b=some u->h'.get? b=some u)(heo:∃u,h'.get? e=some u)
  (new:ObjOk X.prog X.w (upd H x o) h' x o):Inv X pins σ (upd H x o) { s with heap:=h',toks:=t' }:=I.un (Un.write mu he k heo) (I.hok.write mu he k heo new)
theorem Inv.pins_of{pins':List (Addr×Obj)}(I:Inv X pins σ H s)(h:∀p∈pins',s.heap.get? p.1=some p.2/\H p.1=none/\p.1≠X.env.locals/\p.1∉X.fs/\∀v,p.2.data≠.cell v):Inv X pins' σ H s :=
 ⟨I.ok,I.os,I.bare,I.base,I.loc,I.cell,I.free,I.freeC,λp hp=>(W1.mp hp).elim (λz=>I.pin p (P5 _ z)) (h p),I.hok,I.len⟩
theorem nodup_ix{N:List Str}(hN:N.Nodup){i j:Nat}{x:Str}(a:N[i]?=some x)(b:N[j]?=some x):i=j:=by
 obtain⟨h1,e1⟩:=W0.mp a
 obtain⟨h2,e2⟩:=W0.mp b
 exact (List.getElem_inj hN).mp (e1.trans e2.symm)
theorem store_ok2{M:Model}{A:Around}{E:Value->Shared->Prop}{i:Nat}{x:Str}{v:V}{u:Value}{Q:Unit->Shared->Prop}(I:Inv X pins σ H s)(hN:X.N.Nodup)(hi:X.N[i]?=some x)(hx:Loc X.env.scope x)(r:RelV v u)
  (h:∀s',Inv X pins (σ.set i (some v)) H s'->(∃a,K2 a s.heap s'.heap/\(a=X.env.locals\/X.env.cells.lookup x=some a))->Q () s') (hf:X.fn x=true\/X.env.scope.names.lookup x=some .local:=by first|exact .inl rfl|exact .inr rfl|assumption):wpAny M A (storeName X.env x u) Q E s:=by
 obtain⟨m,hn,hl⟩:=id I.loc
 have hcls:(X.env.scope.kind==.class||(X.env.scope.kind==.module&&X.env.locals != X.env.globals))=false:=by rw[I.ok.kind];rfl
 have hiσ:i < σ.length:=by rw[I.len];exact (W0.mp hi).1
 have cne:=I.cne
 have tracked:∀{a:Addr}{h':Heap},(∃o,s.heap.get? a=some o/\H a=none)->K2 a s.heap h'->HOk X.prog X.w H h':=λ{a h'} ha hs b ob e=>by
  obtain⟨_,_,hfree⟩:=ha
  refine (I.hok b ob e).stay (λc w' hc q=>(hs.2 c ?_).trans q) (λ_ q=>q) λ_ _ q=>q
  rintro rfl
  rcases hc with rfl|hc
  ·rw[hfree]at e;cases e
  ·rw[hfree]at hc;cases hc
 rcases hx with hk|hk
 ·refine wpAny_storeName_local hk hn (λh' hn' hs=>?_) hcls
  obtain⟨oL,_,_,hoL,_⟩:=id hn
  refine h _ ⟨I.ok,I.os,I.bare,⟨λb o e n hb hx=>?_,λb o e n hb hx=>?_,I.base.free,λb o e hx=>?_,I.base.tups,I.base.frzs,I.base.tbls⟩,⟨_,hn',λj y v' e1 e2 e3=>?_⟩,λy c e=>?_,I.free,I.freeC,λp hp=>?_,tracked ⟨oL,hoL,I.free⟩ hs,by simpa using I.len⟩ ⟨_,hs,.inl rfl⟩
  ·exact (hs.2 b (E1 (P0 (G0 e) I.ok.above))).trans (I.base.keep b o e n hb hx)
  ·obtain⟨sl,e1⟩:=I.base.slot b o e n hb hx
   exact ⟨sl,(hs.2 b (E1 (P0 (G0 e) I.ok.above))).trans e1⟩
  ·obtain⟨o',e1⟩:=I.base.there b o e hx
   exact ⟨o',(hs.2 b (E1 (P0 (G0 e) I.ok.above))).trans e1⟩
  ·by_cases hj:j=i
   ·subst hj
    rw[hi]at e1;cases e1
    rw[u8 hiσ]at e2
    cases e2
    exact ⟨u,r,.inl ⟨hk,by simp⟩⟩
   ·rw[V0 (V2 hj)]at e2
    obtain⟨u',r',q⟩:=hl j y v' e1 e2 e3
    refine ⟨u',r',?_⟩
    rcases q with⟨k,e⟩|⟨k,c,e,z⟩
    ·refine .inl ⟨k,?_⟩
     have:y≠x:=λe=>hj (nodup_ix hN e1 (e ▸ hi))
     simp[this,e]
    ·exact .inr ⟨k,c,e,z.sameBut hs (cne y c e)⟩
  ·obtain⟨w',z⟩:=I.cell y c e
   exact ⟨w',z.sameBut hs (cne y c e)⟩
  ·obtain⟨e,n,ne,nf,d⟩:=I.pin p hp
   exact ⟨(hs.2 p.1 ne).trans e,n,ne,nf,d⟩
 ·have hfn:X.fn x=true:=by
   rcases hf with z|z
   ·exact z
   ·rw[z]at hk;cases hk
  obtain⟨c,hc⟩:=I.ok.has x (.inl hk)
  obtain⟨w',z⟩:=I.cell x c hc
  refine wpAny_storeName_cell I.ok.kind hk hc z (λh' hc' hs=>?_)
  obtain⟨oc,hoc,hocd⟩:=id z
  refine h { s with heap:=h' } ⟨I.ok,I.os,I.bare,⟨λb o e n hb hx=>?_,λb o e n hb hx=>?_,I.base.free,λb o e hx=>?_,I.base.tups,I.base.frzs,I.base.tbls⟩,⟨m,hn.sameBut hs (V2 (cne x c hc)),λj y v' e1 e2 e3=>?_⟩,λy c' e=>?_,I.free,I.freeC,λp hp=>?_,tracked ⟨oc,hoc,I.freeC x c hc⟩ hs,by simpa using I.len⟩ ⟨c,hs,.inr hc⟩
  ·exact (hs.2 b (E1 (P0 (G0 e) (I.ok.cab x c hfn hc)))).trans (I.base.keep b o e n hb hx)
  ·obtain⟨sl,e1⟩:=I.base.slot b o e n hb hx
   exact ⟨sl,(hs.2 b (E1 (P0 (G0 e) (I.ok.cab x c hfn hc)))).trans e1⟩
  ·obtain⟨o',e1⟩:=I.base.there b o e hx
   exact ⟨o',(hs.2 b (E1 (P0 (G0 e) (I.ok.cab x c hfn hc)))).trans e1⟩
  ·by_cases hj:j=i
   ·subst hj
    rw[hi]at e1;cases e1
    rw[u8 hiσ]at e2
    cases e2
    exact ⟨u,r,.inr ⟨.inl hk,c,hc,hc'⟩⟩
   ·rw[V0 (V2 hj)]at e2
    obtain⟨u',r',q⟩:=hl j y v' e1 e2 e3
    refine ⟨u',r',?_⟩
    rcases q with q|⟨k,c',e,z'⟩
    ·exact .inl q
    ·refine .inr ⟨k,c',e,z'.sameBut hs ?_⟩
     rintro rfl
     exact hj (nodup_ix hN e1 (I.ok.inj _ _ _ e hc ▸ hi))
  ·by_cases hcc:c'=c
   ·subst hcc;exact ⟨_,hc'⟩
   ·obtain⟨w2,z2⟩:=I.cell y c' e
    exact ⟨w2,z2.sameBut hs hcc⟩
  ·obtain⟨e,n,ne,nf,d⟩:=I.pin p hp
   refine ⟨(hs.2 p.1 ?_).trans e,n,ne,nf,d⟩
   intro q
   rw[q,hoc]at e
   have q':oc=p.2:=X1 e
   exact d w' (by rw[<- q'];exact hocd)
theorem store_ok{M:Model}{A:Around}{E:Value->Shared->Prop}{i:Nat}{x:Str}{v:V}{u:Value}{Q:Unit->Shared->Prop}(I:Inv X pins σ H s)(hN:X.N.Nodup)(hi:X.N[i]?=some x)(hx:Loc X.env.scope x)(r:RelV v u)
  (h:∀s',Inv X pins (σ.set i (some v)) H s'->Q () s') (hf:X.fn x=true\/X.env.scope.names.lookup x=some .local:=by first|exact .inl rfl|exact .inr rfl|assumption):wpAny M A (storeName X.env x u) Q E s :=
 store_ok2 I hN hi hx r (λs' I' _=>h s' I') hf
theorem Inv.call'{s':Shared}{ch:List Addr}(I:Inv X pins σ H s)(ho:s'.os=s.os)(u:Un (frs X.stack) ch H H' s.heap s'.heap)(hok:HOk X.prog X.w H' s'.heap)(hg:AllBare s'.gens)
  (hch:∀b∈ch,(b∈X.ex\/X.s₀.heap.objs.size<=b)/\b≠X.env.locals/\(∀x c,X.env.cells.lookup x=some c->c≠b)/\∀p∈X.pn++pins,p.1≠b):Inv X pins σ H' s':=by
 obtain⟨h',g',d',t',o'⟩:=s'
 have e:o'=s.os:=ho
 subst e
 exact I.call (g':=g') (t':=t') (d':=d') u hok hg hch
end
noncomputable abbrev XK:=Value->Option Addr->Hp->Prop
noncomputable abbrev St:=List (Option V)
noncomputable abbrev VK:=V->Hp->Prop
noncomputable abbrev TE:=St->Hp->VK->Prop
noncomputable abbrev TT:=St->Hp->(Bool->Hp->Prop)->Prop
noncomputable abbrev TA:=St->Hp->(List V->Hp->Prop)->Prop
structure Ends where
 nx:St->Hp->Prop
 rt:VK
 bk:St->Hp->Prop:=λ_ _=>False
 ct:St->Hp->Prop:=λ_ _=>False
noncomputable abbrev TS:=Ends->St->Hp->Prop
noncomputable def EP(X:Cx)(pins:List (Addr×Obj))(σ:St)(Q:VK)(u:Value)(s':Shared):Prop:=∃v H',Inv X pins σ H' s'/\RelV v u/\Q v H'
noncomputable def TP(X:Cx)(pins:List (Addr×Obj))(σ:St)(Q:Bool->Hp->Prop)(b:Bool)(s':Shared):Prop:=∃H',Inv X pins σ H' s'/\Q b H'
noncomputable def AP(X:Cx)(pins:List (Addr×Obj))(σ:St)(Q:List V->Hp->Prop)(us:List Value)(s':Shared):Prop:=∃vs H',Inv X pins σ H' s'/\Vals vs us/\Q vs H'
noncomputable def SP(X:Cx)(pins:List (Addr×Obj))(D:Ends)(f:Flow)(s':Shared):Prop :=
 match f with
 | .next=>∃σ' H',Inv X pins σ' H' s'/\D.nx σ' H'
 | .brk=>∃σ' H',Inv X pins σ' H' s'/\D.bk σ' H'
 | .cont=>∃σ' H',Inv X pins σ' H' s'/\D.ct σ' H'
 | .ret u=>∃v σ' H',Inv X pins σ' H' s'/\RelV v u/\D.rt v H'
noncomputable def PE(X:Cx)(e:Expr)(t:TE):Prop :=
 ∀(pins:List (Addr×Obj)) (s:Shared) (σ:St) (H:Hp) (Q:VK),Inv X pins σ H s->t σ H Q->wpAny (model X.prog X.w) X.A (eval e X.env) (EP X pins σ Q) X.xe s
noncomputable def PT(X:Cx)(e:Expr)(t:TT):Prop :=
 ∀(pins:List (Addr×Obj)) (s:Shared) (σ:St) (H:Hp) (Q:Bool->Hp->Prop),Inv X pins σ H s->t σ H Q->wpAny (model X.prog X.w) X.A (isTrue e X.env (eval e X.env)) (TP X pins σ Q) X.xe s
noncomputable def PW(X:Cx)(e:Expr)(t:TT):Prop :=
 ∀(whole:Sem Value) (pins:List (Addr×Obj)) (s:Shared) (σ:St) (H:Hp) (Q:Bool->Hp->Prop),Inv X pins σ H s->t σ H Q->wpAny (model X.prog X.w) X.A (isTrue e X.env whole) (TP X pins σ Q) X.xe s
theorem PW.pt{X:Cx}{e:Expr}{t:TT}(h:PW X e t):PT X e t:=h _
noncomputable def PA(X:Cx)(es:List Expr)(t:TA):Prop :=
 ∀(pos:Pos) (pins:List (Addr×Obj)) (s:Shared) (σ:St) (H:Hp) (Q:List V->Hp->Prop),Inv X pins σ H s->t σ H Q->wpAny (model X.prog X.w) X.A (spliced (backTo pos (starEach es X.env))) (AP X pins σ Q) X.xe s
noncomputable def PS(X:Cx)(st:Stmt)(t:TS):Prop :=
 ∀(pins:List (Addr×Obj)) (s:Shared) (σ:St) (H:Hp) (D:Ends),Inv X pins σ H s->t D σ H->wpAny (model X.prog X.w) X.A (exec st X.env) (SP X pins D) X.xe s
noncomputable def PSs(X:Cx)(st:List Stmt)(t:TS):Prop :=
 ∀(pins:List (Addr×Obj)) (s:Shared) (σ:St) (H:Hp) (D:Ends),Inv X pins σ H s->t D σ H->wpAny (model X.prog X.w) X.A (execs st X.env) (SP X pins D) X.xe s
theorem thn{α:Type}{t:Sem α}{Q Q':α->Shared->Prop}{M:Model}{A:Around}{E:Value->Shared->Prop}{s:Shared}(h:wpAny M A t Q E s)(hQ:∀a s,Q a s->Q' a s):wpAny M A t Q' E s:=wpAny_mono h hQ λ_ _ x=>x
section
variable {X:Cx}
noncomputable def tVar(i:Nat):TE:=λσ H Q=>∃v,σ[i]?=some (some v)/\Q v H
noncomputable def tC(v:V):TE:=λ_ H Q=>Q v H
theorem pe_var{i:Nat}{x:Str}{pos:Pos}(hN:X.N[i]?=some x)(hv:Vis X.env.scope x)(hd:(x==("__debug__":Str))=false:=by decide)(hcd:(x==("__classdict__":Str))=false:=by decide):PE X (.Name x pos) (tVar i):=by
 intro pins s σ H Q I h
 obtain⟨v,e,h⟩:=h
 obtain⟨m,hn,hl⟩:=I.loc
 obtain⟨u,r,l⟩:=hl i x v hN e hv
 have fin:EP X pins σ Q u s:=⟨v,H,I,r,h⟩
 rcases l with⟨hk,hm⟩|⟨hk,c,hc,hcell⟩
 ·exact wpAny_Name (wpAny_loadName_local I.ok.kind hk hn hm fin) hd
 ·rcases hk with hk|hk
  ·exact wpAny_Name (wpAny_loadName_cell I.ok.kind hk hc hcell fin) hd
  ·exact wpAny_Name (wpAny_loadName_free I.ok.kind hk hc hcell fin hcd) hd
theorem pe_int{i j pos}:PE X (.Constant (.int i) j pos) (tC (.int i)):=λ_ _ _ H _ I h=>wpAny_Constant_int ⟨.int i,H,I.tok _,⟨_,rfl⟩,h⟩
theorem pe_bl{b j pos}:PE X (.Constant (.bool b) j pos) (tC (.bl b)):=λ_ _ _ H _ I h=>Constant_bool ⟨.bl b,H,I,rfl,h⟩
theorem pe_non{j pos}:PE X (.Constant .none j pos) (tC .non):=λ_ _ _ H _ I h=>Constant_none ⟨.non,H,I,rfl,h⟩
noncomputable def Gl(X:Cx)(x:Str):Prop:=X.env.kindOf x=some .globalImplicit
theorem ld_glob{E:Value->Shared->Prop}{pins:List (Addr×Obj)}{s:Shared}{σ:St}{H:Hp}{x:Str}{u:Value}{pos:Pos}{Q:Value->Shared->Prop}(I:Inv X pins σ H s)(hg:Gl X x)(hm:X.mg x=some u)(h:Q u s)
  (hd:(x==("__debug__":Str))=false:=by decide):wpAny (model X.prog X.w) X.A (eval (.Name x pos) X.env) Q E s :=
 Calls.Name_function_global I.ok.kind hg (Calls.loadGlobal_global (by rw[I.ok.glob];exact I.mod.glob.keeps I.bk) hm h) hd
theorem ld_blt{E:Value->Shared->Prop}{pins:List (Addr×Obj)}{s:Shared}{σ:St}{H:Hp}{x:Str}{u:Value}{pos:Pos}{Q:Value->Shared->Prop}(I:Inv X pins σ H s)(hg:Gl X x)(hm:X.mg x=none)(hv:bootBuiltins x=some u)(h:Q u s)
  (hn:x ≠ "__name__":=by decide) (hd:(x==("__debug__":Str))=false:=by decide):wpAny (model X.prog X.w) X.A (eval (.Name x pos) X.env) Q E s:=by
 obtain⟨mb,h1,h2⟩:=I.mod.blt
 exact Calls.Name_function_global I.ok.kind hg (Calls.loadGlobal_builtin (by rw[I.ok.glob];exact I.mod.glob.keeps I.bk) hm (by rw[I.ok.blt];exact h1.keeps I.bk) ((h2 x hn).trans hv) h) hd
variable {a b:Expr}{ta tb:TE}{pos:Pos}
noncomputable def tB(t:TE):TT:=λσ H Q=>t σ H λx H1=>∃c,x=.bl c/\Q c H1
theorem pt_val{e:Expr}{t:TE}(h:PE X e t)(he:∀whole,isTrue e X.env whole=(do let v<-whole;standAt e.pos;holding [v] (truthy v)):=by intro _;rfl):PT X e (tB t):=by
 intro pins s σ H Q I hw
 refine isTrue_plain (thn (h pins s σ H _ I hw) λv s1 ⟨x,H1,I1,r1,q1⟩=>?_) (he _)
 obtain⟨d,rfl,q⟩:=q1
 cases r1
 exact wpAny_truthy_bool ⟨H1,I1,q⟩
variable {tA tB':TT}{rest:List Expr}
noncomputable def tAnd(t u:TT):TT:=λσ H Q=>t σ H λc H1=>if c=true then u σ H1 Q else Q false H1
noncomputable def tOr(t u:TT):TT:=λσ H Q=>t σ H λc H1=>if c=true then Q true H1 else u σ H1 Q
noncomputable def tNot(t:TT):TT:=λσ H Q=>t σ H λc H1=>Q (!c) H1
theorem pw_and1(ha:PT X a tA):PW X (.BoolOp .And [a] pos) tA:=by
 intro wh pins s σ H Q I h
 refine isTrue_and (thn (ha pins s σ H Q I h) λc s1 e=>?_)
 cases c with
 | true=>exact isTrue_and_nil e
 | false=>exact e
theorem pw_or1(ha:PT X a tA):PW X (.BoolOp .Or [a] pos) tA:=by
 intro wh pins s σ H Q I h
 refine isTrue_or (thn (ha pins s σ H Q I h) λc s1 e=>?_)
 cases c with
 | false=>exact isTrue_or_nil e
 | true=>exact e
theorem pw_and(ha:PT X a tA)(hb:PW X (.BoolOp .And (b :: rest) pos) tB'):PW X (.BoolOp .And (a :: b :: rest) pos) (tAnd tA tB'):=by
 intro wh pins s σ H Q I h
 refine isTrue_and (thn (ha pins s σ H _ I h) λc s1 ⟨H1,I1,q1⟩=>?_)
 cases c with
 | true=>exact hb wh pins s1 σ H1 Q I1 q1
 | false=>exact ⟨H1,I1,q1⟩
theorem pw_or(ha:PT X a tA)(hb:PW X (.BoolOp .Or (b :: rest) pos) tB'):PW X (.BoolOp .Or (a :: b :: rest) pos) (tOr tA tB'):=by
 intro wh pins s σ H Q I h
 refine isTrue_or (thn (ha pins s σ H _ I h) λc s1 ⟨H1,I1,q1⟩=>?_)
 cases c with
 | true=>exact ⟨H1,I1,q1⟩
 | false=>exact hb wh pins s1 σ H1 Q I1 q1
theorem pt_not(ha:PT X a tA):PT X (.UnaryOp .Not a pos) (tNot tA):=by
 intro pins s σ H Q I h
 exact isTrue_not (ha pins s σ H (λc H1=>Q (!c) H1) I h)
noncomputable def tAndV(ta tb:TE):TE:=λσ H Q=>ta σ H λx H1=>∃c,x=.bl c/\if c=true then tb σ H1 Q else Q (.bl false) H1
theorem pe_one{op}{t:TE}(h:PE X a t):PE X (.BoolOp op [a] pos) t:=λpins s σ H Q I hw=>BoolOp_one (h pins s σ H Q I hw)
theorem pe_and(ha:PE X a ta)(hb:PE X (.BoolOp .And (b :: rest) pos) tb):PE X (.BoolOp .And (a :: b :: rest) pos) (tAndV ta tb):=by
 intro pins s σ H Q I h
 refine BoolOp_and (thn (ha pins s σ H _ I h) λv s1 ⟨x,H1,I1,r1,q1⟩=>?_)
 obtain⟨c,rfl,q1⟩:=q1
 cases r1
 refine wpAny_truthy_bool ?_
 cases c with
 | true=>exact hb pins s1 σ H1 Q I1 q1
 | false=>exact ⟨.bl false,H1,I1,rfl,q1⟩
end
noncomputable def SqL(K:u0)(H:Hp)(a:Addr)(xs:List V):Prop :=
 Rd H a (.lst xs) \/
  ∃(o:Obj) (its:Array Value) (n:Nat),K.lookup a=some o/\o.cls=.type "list"/\o.dict=none/\o.data=.seq its n/\its.size<=sizeLine/\Vals xs its.toList
noncomputable def SqT(K:u0)(H:Hp)(a:Addr)(xs:List V):Prop :=
 Rd H a (.tup xs) \/
  ∃(o:Obj) (its:Array Value) (n:Nat),K.lookup a=some o/\o.cls=.type "tuple"/\o.data=.seq its n/\its.size<=sizeLine/\Vals xs its.toList
noncomputable def absV:Value->Option V
 | .none=>some .non
 | .bool b=>some (.bl b)
 | .int i _=>some (.int i)
 | .str x _=>some (.str x)
 | .bytes b _=>some (.byt b)
 | .float b _=>some (.flt b)
 | .ref a=>some (.ref a)
 | .type n=>some (.ty n)
 | _=>none
theorem RelV.abs{x:V}{u:Value}(r:RelV x u):absV u=some x:=by
 cases x with
 | non=>cases r;rfl
 | bl _=>cases r;rfl
 | int _=>obtain⟨t,rfl⟩:=r;rfl
 | str _=>obtain⟨t,rfl⟩:=r;rfl
 | byt _=>obtain⟨t,rfl⟩:=r;rfl
 | flt _=>obtain⟨t,rfl⟩:=r;rfl
 | ref _=>cases r;rfl
 | ty _=>cases r;rfl
theorem RelV.inj{x y:V}{u:Value}(r:RelV x u)(q:RelV y u):x=y:=X1 (r.abs.symm.trans q.abs)
theorem Vals.inj:∀{xs ys:List V}{us:List Value},Vals xs us->Vals ys us->xs=ys
 | _,_,_,.nil,.nil=>rfl
 | _,_,_,.cons r t,.cons r' t'=>by rw[r.inj r',Vals.inj t t']
section
variable {X:Cx}{pins:List (Addr×Obj)}{σ:St}{H:Hp}{s:Shared}{a:Addr}{xs ys:List V}
theorem SqL.of{K:u0}(h:H a=some (.lst xs)):SqL K H a xs:=.inl (.inl h)
theorem SqT.of{K:u0}(h:H a=some (.tup xs)):SqT K H a xs:=.inl (.inl h)
theorem Inv.list(I:Inv X pins σ H s)(h:SqL X.K H a xs):∃its:List Value,Vals xs its/\PlainL s.heap a its.toArray/\xs.length<=sizeLine:=by
 rcases h with h|⟨o,its,n,hk,hc,hd,hs,hz,r⟩
 ·obtain⟨z,its,n,r,e⟩:=h.ok I.hok
  exact ⟨its,r,⟨_,n,e,rfl,rfl,rfl⟩,z⟩
 ·refine ⟨its.toList,r,⟨o,n,I.kIn a o hk,hc,hd,by simpa using hs⟩,?_⟩
  have e:=r.length
  simp only[Q0]at e
  omega
theorem Inv.tuple(I:Inv X pins σ H s)(h:SqT X.K H a xs):∃its:List Value,Vals xs its/\IsTup s.heap a its.toArray/\xs.length<=sizeLine:=by
 rcases h with h|⟨o,its,n,hk,hc,hs,hz,r⟩
 ·obtain⟨z,its,r,p⟩:=h.ok I.hok
  exact ⟨its,r,p.t,z⟩
 ·refine ⟨its.toList,r,⟨o,I.kIn a o hk,hc,n,by simpa using hs⟩,?_⟩
  have e:=r.length
  simp only[Q0]at e
  omega
theorem Inv.list_inj(I:Inv X pins σ H s)(h:SqL X.K H a xs)(h':SqL X.K H a ys):xs=ys:=by
 obtain⟨its,r,⟨o,n,e,_,_,d⟩,_⟩:=I.list h
 obtain⟨its',r',⟨o',n',e',_,_,d'⟩,_⟩:=I.list h'
 rw[e]at e';cases e'
 rw[d]at d'
 injection d' with d1 _
 have:its=its':=by simpa using congrArg Array.toList d1
 subst this
 exact r.inj r'
theorem Inv.tuple_inj(I:Inv X pins σ H s)(h:SqT X.K H a xs)(h':SqT X.K H a ys):xs=ys:=by
 obtain⟨its,r,⟨o,e,_,n,d⟩,_⟩:=I.tuple h
 obtain⟨its',r',⟨o',e',_,n',d'⟩,_⟩:=I.tuple h'
 rw[e]at e';cases e'
 rw[d]at d'
 injection d' with d1 _
 have:its=its':=by simpa using congrArg Array.toList d1
 subst this
 exact r.inj r'
end
noncomputable abbrev Cx.wish(X:Cx)(E:Value->Shared->Prop):Cx:={ X with xe:=E }
noncomputable abbrev Cx.nox(X:Cx):Cx:=X.wish λ_ _=>False
theorem Cx.Ok.wish{X:Cx}(ok:X.Ok)(E:Value->Shared->Prop):(X.wish E).Ok :=
 ⟨ok.mod,ok.kind,ok.glob,ok.blt,ok.above,ok.inj,ok.has,ok.cab,ok.hd,ok.frames,ok.stk,ok.exf,ok.bs,ok.bsz,ok.noex,ok.exfs,ok.funs,ok.frf⟩
theorem Cx.Ok.unwish{X:Cx}{E:Value->Shared->Prop}(ok:(X.wish E).Ok):X.Ok :=
 ⟨ok.mod,ok.kind,ok.glob,ok.blt,ok.above,ok.inj,ok.has,ok.cab,ok.hd,ok.frames,ok.stk,ok.exf,ok.bs,ok.bsz,ok.noex,ok.exfs,ok.funs,ok.frf⟩
section
variable {X:Cx}{pins:List (Addr×Obj)}{σ:St}{H:Hp}{s:Shared}{E:Value->Shared->Prop}
theorem Inv.wish(I:Inv X pins σ H s)(E:Value->Shared->Prop):Inv (X.wish E) pins σ H s:=⟨I.ok.wish E,I.os,I.bare,I.base,I.loc,I.cell,I.free,I.freeC,I.pin,I.hok,I.len⟩
theorem Inv.unwish(I:Inv (X.wish E) pins σ H s):Inv X pins σ H s:=⟨I.ok.unwish,I.os,I.bare,I.base,I.loc,I.cell,I.free,I.freeC,I.pin,I.hok,I.len⟩
theorem SP.unwish{D:Ends}{f:Flow}{s':Shared}(h:SP (X.wish E) pins D f s'):SP X pins D f s':=by
 cases f with
 | next=>obtain⟨σ',H',I,q⟩:=h;exact ⟨σ',H',I.unwish,q⟩
 | brk=>obtain⟨σ',H',I,q⟩:=h;exact ⟨σ',H',I.unwish,q⟩
 | cont=>obtain⟨σ',H',I,q⟩:=h;exact ⟨σ',H',I.unwish,q⟩
 | ret u=>obtain⟨v,σ',H',I,r,q⟩:=h;exact ⟨v,σ',H',I.unwish,r,q⟩
theorem PSs.nox{st:List Stmt}{t:TS}(h:PSs X.nox st t):PSs X st t:=λpins s σ H D I hw =>
 wpAny_mono (h pins s σ H D (I.wish _) hw) (λ_ _ q=>q.unwish) λ_ _ z=>False.elim z
end
section
variable {X:Cx}{st:Stmt}{rest:List Stmt}{t u:TS}{e:Expr}{te:TE}{pos:Pos}
noncomputable def tNext:TS:=λD σ H=>D.nx σ H
noncomputable def tSeq(t u:TS):TS:=λD σ H=>t { D with nx:=u D } σ H
theorem pss_nil:PSs X [] tNext:=λ_ _ σ H _ I h=>wpAny_execs_nil ⟨σ,H,I,h⟩
theorem pss_cons(h1:PS X st t)(h2:PSs X rest u):PSs X (st :: rest) (tSeq t u):=by
 intro pins s σ H D I h
 refine wpAny_execs_cons (thn (h1 pins s σ H { D with nx:=u D } I h) λf s1 q=>?_)
 cases f with
 | next =>
  obtain⟨σ',H',I',q⟩:=q
  exact h2 pins s1 σ' H' D I' q
 | ret v=>exact q
 | brk=>exact q
 | cont=>exact q
theorem pss_one(h1:PS X st t):PSs X [st] t:=by
 intro pins s σ H D I h
 refine wpAny_execs_cons (thn (h1 pins s σ H D I h) λf s1 q=>?_)
 cases f with
 | next=>exact wpAny_execs_nil q
 | ret v=>exact q
 | brk=>exact q
 | cont=>exact q
theorem Inv.quiet{pins:List (Addr×Obj)}{σ:St}{H:Hp}{s:Shared}(I:Inv X pins σ H s):interactive X.env=false:=by simp[interactive,I.ok.kind]
noncomputable def tDrop(te:TE):TS:=λD σ H=>te σ H λ_ H1=>D.nx σ H1
theorem ps_expr(he:PE X e te)(hs:swapsWith e none pos.line X.env=pure false:=by rfl):PS X (.Expr e pos) (tDrop te):=by
 intro pins s σ H D I h
 exact wpAny_Expr_any (thn (he pins s σ H _ I h) λv s1 ⟨x,H1,I1,r1,q1⟩=>⟨σ,H1,I1,q1⟩) I.quiet hs
noncomputable def tRet(te:TE):TS:=λD σ H=>te σ H D.rt
theorem ps_ret(he:PE X e te):PS X (.Return (some e) pos) (tRet te):=by
 intro pins s σ H D I h
 exact wpAny_Return_some (thn (he pins s σ H _ I h) λv s1 ⟨x,H1,I1,r1,q1⟩=>⟨x,σ,H1,I1,r1,q1⟩)
noncomputable def tIfS(c:TT)(t u:TS):TS:=λD σ H=>c σ H λb H1=>if b=true then t D σ H1 else u D σ H1
theorem ps_if{c:Expr}{a b:List Stmt}{tc:TT}(hc:PT X c tc)(ha:PSs X a t)(hb:PSs X b u):PS X (.If c a b pos) (tIfS tc t u):=by
 intro pins s σ H D I h
 refine wpAny_If (thn (hc pins s σ H _ I h) λd s1 ⟨H1,I1,q1⟩=>?_)
 cases d with
 | true=>exact ha pins s1 σ H1 D I1 q1
 | false=>exact hb pins s1 σ H1 D I1 q1
end
noncomputable abbrev TG:=V->St->Hp->(St->Hp->Prop)->Prop
noncomputable abbrev TGs:=List V->St->Hp->(St->Hp->Prop)->Prop
noncomputable def PG(X:Cx)(target:Expr)(t:TG):Prop :=
 ∀(pins:List (Addr×Obj)) (s:Shared) (σ:St) (H:Hp) (v:V) (u:Value) (Q:St->Hp->Prop),Inv X pins σ H s->RelV v u->t v σ H Q ->
  wpAny (model X.prog X.w) X.A (assign target X.env u) (λ_ s'=>∃σ' H',Inv X pins σ' H' s'/\Q σ' H') X.xe s
noncomputable def PGs(X:Cx)(ts:List Expr)(t:TGs):Prop :=
 ∀(pins:List (Addr×Obj)) (s:Shared) (σ:St) (H:Hp) (vs:List V) (us:List Value) (Q:St->Hp->Prop),Inv X pins σ H s->Vals vs us->t vs σ H Q ->
  wpAny (model X.prog X.w) X.A (assignInOrder ((assignEach ts X.env).map (·.2)) us) (λ_ s'=>∃σ' H',Inv X pins σ' H' s'/\Q σ' H') X.xe s
noncomputable abbrev TSet:=V->V->V->Hp->(Hp->Prop)->Prop
noncomputable def PSet(X:Cx)(t:TSet):Prop :=
 ∀(pins:List (Addr×Obj)) (s:Shared) (σ:St) (H:Hp) (o i v:V) (ov iv u:Value) (Q:Hp->Prop),Inv X pins σ H s->RelV o ov->RelV i iv->RelV v u->t o i v H Q ->
  wpAny (model X.prog X.w) X.A (setItem ov iv u) (λ_ s'=>∃H',Inv X pins σ H' s'/\Q H') X.xe s
section
variable {X:Cx}{pos:Pos}
noncomputable def gName(i:Nat):TG:=λv σ H Q=>Q (σ.set i (some v)) H
theorem pg_name{i:Nat}{x:Str}(hN:X.N.Nodup)(hi:X.N[i]?=some x)(hx:Loc X.env.scope x)(hf:X.fn x=true\/X.env.scope.names.lookup x=some .local:=by first|exact .inl rfl|exact .inr rfl|assumption):PG X (.Name x pos) (gName i):=by
 intro pins s σ H v u Q I r h
 exact wpAny_assign_Name (store_ok I hN hi hx r (λs' I'=>⟨_,H,I',h⟩) hf)
noncomputable def gNil:TGs:=λvs σ H Q=>vs=[]/\Q σ H
noncomputable def gCons(t:TG)(u:TGs):TGs:=λvs σ H Q=>∃v r,vs=v :: r/\t v σ H λσ' H'=>u r σ' H' Q
theorem pgs_nil:PGs X [] gNil:=by
 intro pins s σ H vs us Q I r h
 obtain⟨e,h⟩:=h
 subst e
 cases r
 exact assignInOrder_nil ⟨σ,H,I,h⟩
theorem pgs_cons{e:Expr}{es:List Expr}{t:TG}{u:TGs}(h1:PG X e t)(h2:PGs X es u)
  (hs:(assignEach (e :: es) X.env).map (·.2)=assign e X.env :: (assignEach es X.env).map (·.2):=by rfl):PGs X (e :: es) (gCons t u):=by
 intro pins s σ H vs us Q I r h
 obtain⟨v,vr,e1,h⟩:=h
 subst e1
 cases r with
 | cons r rr =>
  rw[hs]
  refine assignInOrder_cons (thn (h1 pins s σ H _ _ _ I r h) λ_ s1 ⟨σ1,H1,I1,q1⟩=>?_)
  exact h2 pins s1 σ1 H1 _ _ Q I1 rr q1
noncomputable def gTup(K:u0)(n:Nat)(t:TGs):TG:=λv σ H Q=>∃a xs,v=.ref a/\SqT K H a xs/\xs.length=n/\t xs σ H Q
theorem pg_tup{es:List Expr}{k:Nat}{t:TGs}{n:Nat}(hc:X.calm=true)(h:PGs X es t)
  (hn:(assignEach es X.env).length=n:=by rfl) (hst:(assignEach es X.env).findIdx? (·.1)=none:=by rfl):PG X (.Tuple es k pos) (gTup X.K n t):=by
 intro pins s σ H v u Q I r hw
 obtain⟨a,xs,e1,hq,hl,hw⟩:=hw
 subst e1
 cases r
 obtain⟨its,rv,ht,hz⟩:=I.tuple hq
 refine assign_Tuple_tuple (I.ok.hd hc) ht (by simp[hn,<- hl,rv.length]) hst λh' hx=>?_
 have I1:Inv X pins σ H { s with heap:=h' }:=I.kept (t':=s.toks) λb o e=>hx b o (E1 (G0 e)) e
 exact h pins _ σ H xs _ Q I1 (by simpa using rv) hw
noncomputable def gSub(to ti:TE)(t:TSet):TG:=λv σ H Q=>to σ H λo H1=>ti σ H1 λi H2=>t o i v H2 λH3=>Q σ H3
theorem pg_sub{o i:Expr}{to ti:TE}{t:TSet}(ho:PE X o to)(hi:PE X i ti)(hs:PSet X t)
  (ha:∀v,assign (.Subscript o i pos) X.env v=(do
    let ov<-holding [v] (eval o X.env)
    let iv<-holding [v,ov] (eval i X.env)
    standAt pos
    holding [v,ov,iv] (setItem ov iv v)
    release [v,ov,iv] []):=by intro _;rfl):PG X (.Subscript o i pos) (gSub to ti t):=by
 intro pins s σ H v u Q I r h
 rw[ha]
 refine wpAny_bind (wpAny_holding (thn (ho pins s σ H _ I h) λov s1 ⟨x,H1,I1,r1,q1⟩=>?_))
 refine wpAny_bind (wpAny_holding (thn (hi pins s1 σ H1 _ I1 q1) λiv s2 ⟨y,H2,I2,r2,q2⟩=>?_))
 refine wpAny_bind (wpAny_standAt (wpAny_bind (wpAny_holding (thn (hs pins s2 σ H2 x y v ov iv u _ I2 r1 r2 r q2) λ_ s3 ⟨H3,I3,q3⟩=>?_))))
 exact wpAny_release ⟨σ,H3,I3,q3⟩
noncomputable def tAsg(te:TE)(g:TG):TS:=λD σ H=>te σ H λx H1=>g x σ H1 D.nx
theorem ps_asg{tg e:Expr}{te:TE}{g:TG}(he:PE X e te)(hg:PG X tg g)(hs:swapsWithSole [tg] e pos.line X.env=pure false:=by rfl)(hw:swappedStores [tg] e X.env=pure none:=by rfl)
  (h1:(assignEach [tg] X.env).map (·.2)=[assign tg X.env]:=by rfl):PS X (.Assign [tg] e pos) (tAsg te g):=by
 intro pins s σ H D I h
 refine wpAny_Assign_stores (thn (he pins s σ H _ I h) λv s1 ⟨x,H1,I1,r1,q1⟩=>?_) hs hw
 rw[h1]
 exact thn (hg pins s1 σ H1 x v _ I1 r1 q1) λ_ s2 q=>q
theorem ps_set{i:Nat}{x:Str}{e:Expr}{te:TE}{pos':Pos}(hN:X.N.Nodup)(hi:X.N[i]?=some x)(hx:Loc X.env.scope x)(he:PE X e te)(hs:swapsWith e (some (.Name x pos')) pos.line X.env=pure false:=by rfl)(hf:X.fn x=true\/X.env.scope.names.lookup x=some .local:=by first|exact .inl rfl|exact .inr rfl|assumption) :
  PS X (.Assign [.Name x pos'] e pos) (tAsg te (gName i)):=by
 intro pins s σ H D I h
 refine wpAny_Assign_Name (thn (he pins s σ H _ I h) λv s1 ⟨y,H1,I1,r1,q1⟩=>?_) hs
 exact store_ok I1 hN hi hx r1 (λs2 I2=>⟨_,H1,I2,q1⟩) hf
end
section
variable {X:Cx}{pos:Pos}
noncomputable def tWhile(c:TT)(tb:TS):TS:=λD σ H=>∃W:Nat->St->Hp->Prop,(∃m,W m σ H)/\∀m σ H,W m σ H ->
 c σ H λb H1=>if b=true then ∃N:St->Hp->Prop,(∀σ' H',N σ' H'->∃m',m' < m/\W m' σ' H')/\tb { D with nx:=N,ct:=N,bk:=D.nx } σ H1 else D.nx σ H1
theorem ps_while{c:Expr}{body:List Stmt}{tc:TT}{tb:TS}(hp:PassesOwn (model X.prog X.w) X.A X.env X.xe)(hc:PT X c tc)(hb:PSs X body tb):PS X (.While c body [] pos) (tWhile tc tb):=by
 intro pins s σ H D I h
 obtain⟨W,⟨m0,w0⟩,turn⟩:=h
 refine wpAny_While (codeAny_whileLoop (λn s'=>∃σ' H',Inv X pins σ' H' s'/\W n σ' H') ?_ m0 ⟨σ,H,I,w0⟩)
 rintro n s1 ⟨σ1,H1,I1,w1⟩
 refine wpAny_passesOwn hp (thn (hc pins s1 σ1 H1 _ I1 (turn n σ1 H1 w1)) λb s2 ⟨H2,I2,q2⟩=>?_)
 cases b with
 | true =>
  obtain⟨N,hN,q2⟩:=q2
  rw[if_pos rfl]
  refine wpAny_passesOwn hp (thn (hb pins s2 σ1 H2 _ I2 q2) λf s3 q3=>?_)
  cases f with
  | next =>
   obtain⟨σ3,H3,I3,n3⟩:=q3
   obtain⟨m',hm,w3⟩:=hN σ3 H3 n3
   exact ⟨m',hm,σ3,H3,I3,w3⟩
  | cont =>
   obtain⟨σ3,H3,I3,n3⟩:=q3
   obtain⟨m',hm,w3⟩:=hN σ3 H3 n3
   exact ⟨m',hm,σ3,H3,I3,w3⟩
  | brk=>exact q3
  | ret v=>exact q3
 | false =>
  rw[if_neg A1]
  exact wpAny_execs_nil ⟨σ1,H2,I2,q2⟩
end
structure It where
 go:Nat->Hp->Prop
 yld:Nat->Hp->V->Hp->Prop
 stop:Nat->Hp->Prop
noncomputable def FpOk(X:Cx)(pins:List (Addr×Obj))(H:Hp)(b:Addr):Prop :=
 H b=none/\b≠X.env.locals/\b∉X.fs/\(b∈X.ex\/X.s₀.heap.objs.size<=b)/\(∀x c,X.env.cells.lookup x=some c->c≠b)/\∀p∈X.pn++pins,p.1≠b
theorem Inv.fpOk{X:Cx}{pins:List (Addr×Obj)}{σ:St}{H H':Hp}{s:Shared}{b:Addr}(I:Inv X pins σ H s)(hb:s.heap.objs.size<=b)(hn:H' b=none):FpOk X pins H' b:=by
 refine ⟨hn,B2 (P0 I.lt hb),I.nofs hb,.inr (X0 I.sz hb),λx c e z=>?_,λp hp z=>?_⟩
 ·obtain⟨v,q⟩:=I.cell x c e
  exact absurd (P0 q.lt (by rw[z];exact hb)) (E3 _)
 ·exact absurd (P0 (G0 (I.pin p hp).1) (by rw[z];exact hb)) (E3 _)
structure Turn(P:Program)(w:World)(K:u0)(tg:Expr)(J:It)(fp:List Addr)(it:Addr)(tn:Nat->Heap->Prop):Prop where
 mem:it∈fp
 obj:∀i h,tn i h->∀b∈fp,∃o,h.get? b=some o/\∀v,o.data≠.cell v
 keep:∀i h h',tn i h->(∀b∈fp,∀o,h.get? b=some o->h'.get? b=some o)->tn i h'
 item:∀(X:Cx),X.prog=P->X.w=w->X.K=K->X.calm=true->∀(i:Nat) (pins:List (Addr×Obj)) (s:Shared) (σ:St) (H:Hp) (E:Value->Shared->Prop),Inv X pins σ H s->(∀b∈fp,FpOk X pins H b)->tn i s.heap->J.go i H ->
  wpAny (model P w) X.A (pyNext (.ref it)) (λr s1=>∃u,r=some u /\
    wpAny (model P w) X.A (letOwnedTupleGo tg (.ref it) u) (λ_ s2=>∃x H',Inv X pins σ H' s2/\RelV x u/\J.yld i H x H'/\tn (i+1) s2.heap/\∀b∈fp,H' b=none) E s1) E s
 done:∀(X:Cx),X.prog=P->X.w=w->X.K=K->X.calm=true->∀(i:Nat) (pins:List (Addr×Obj)) (s:Shared) (σ:St) (H:Hp) (E:Value->Shared->Prop),Inv X pins σ H s->(∀b∈fp,FpOk X pins H b)->tn i s.heap->J.stop i H ->
  wpAny (model P w) X.A (pyNext (.ref it)) (λr s1=>r=none/\Inv X pins σ H s1) E s
 self:∀(A:Around) (i:Nat) (s:Shared) (Q:Value->Shared->Prop) (E:Value->Shared->Prop),tn i s.heap->Q (.ref it) s->wpAny (model P w) A (pyIter (.ref it)) Q E s
noncomputable abbrev TI:=St->Hp->(It->Hp->Prop)->Prop
noncomputable def PIE(X:Cx)(pins:List (Addr×Obj))(σ:St)(tg:Expr)(R:It->Hp->Prop)(itv:Value)(s2:Shared):Prop :=
 ∃(it:Addr) (fp:List Addr) (tn:Nat->Heap->Prop) (J:It) (H':Hp),itv=.ref it/\Inv X pins σ H' s2/\Turn X.prog X.w X.K tg J fp it tn/\tn 0 s2.heap/\(∀b∈fp,FpOk X pins H' b)/\R J H'
noncomputable def PI(X:Cx)(tg iter:Expr)(wi:TI):Prop :=
 ∀(pins:List (Addr×Obj)) (s:Shared) (σ:St) (H:Hp) (R:It->Hp->Prop),Inv X pins σ H s->wi σ H R ->
  wpAny (model X.prog X.w) X.A (eval iter X.env) (λv s1=>wpAny (model X.prog X.w) X.A (pyIter v) (PIE X pins σ tg R) X.xe s1) X.xe s
theorem go_of{M:Model}{A:Around}{E:Value->Shared->Prop}{s:Shared}{tg:Expr}{it:Addr}{u:Value}{o:Obj}{n:String}{vs:Array Value}{Q:Unit->Shared->Prop}(ho:s.heap.get? it=some o)(hc:o.cls=.type n)(hd:o.data=.fields vs)
  (hn:["enumerate","zip","dict_itemiterator","dict_reverseitemiterator","odict_iterator","itertools.zip_longest","itertools.pairwise"].contains n=false) (hQ:Q () s):wpAny M A (letOwnedTupleGo tg (.ref it) u) Q E s:=by
 unfold letOwnedTupleGo
 cases tg<;>first
  | exact wpAny_pure hQ
  | (cases u<;>first
      | exact wpAny_pure hQ
      | (refine wpAny_bind (wpAny_load ho ?_)
         rw[hc,hd]
         show wpAny M A (if (["enumerate","zip","dict_itemiterator","dict_reverseitemiterator","odict_iterator","itertools.zip_longest","itertools.pairwise"].contains n&&vs[0]?==some (rawInt _))=true then _ else _) Q E s
         rw[if_neg (by intro h;rw[hn,S6]at h;cases h)]
         exact wpAny_pure hQ))
noncomputable def Itl(K:u0)(a:Addr):It :=
 ⟨λi H=>∃xs x,SqL K H a xs/\xs[i]?=some x,λi H x H'=>H'=H/\∀xs,SqL K H a xs->xs[i]?=some x,λi H=>∃xs,SqL K H a xs/\xs.length<=i⟩
noncomputable def Itt(K:u0)(a:Addr):It :=
 ⟨λi H=>∃xs x,SqT K H a xs/\xs[i]?=some x,λi H x H'=>H'=H/\∀xs,SqT K H a xs->xs[i]?=some x,λi H=>∃xs,SqT K H a xs/\xs.length<=i⟩
noncomputable def Itr(lo:Int)(n:Nat):It:=⟨λi _=>i < n,λi H x H'=>H'=H/\x=.int (lo+i),λi _=>n<=i⟩
theorem turn_list{P:Program}{w:World}{K:u0}{tg:Expr}(a it:Addr):Turn P w K tg (Itl K a) [it] it (λi h=>h.IsListIter it a i) where
 mem:=by simp
 obj:=λi h st b hb=>by
  have e:b=it:=by simpa using hb
  subst e
  obtain⟨o,e,c,d⟩:=st
  exact ⟨o,e,λv z=>by rw[d]at z;cases z⟩
 keep:=λi h h' st k=>st.at λo e=>k it (by simp) o e
 item:=by
  intro X hP hw hK hc i pins s σ H E I hf st hg
  subst hP hw hK
  obtain⟨xs,x,hq,hx⟩:=hg
  obtain⟨its,rv,p,hz⟩:=I.list hq
  obtain⟨u,hu,ru⟩:=rv.get hx
  obtain⟨f0,f1,f2,f3,f4,f5⟩:=hf it (by simp)
  refine wpAny_pyNext_list_item st p.isList (x:=u) (by simpa using hu) λh' st' sb=>?_
  have I1:Inv X pins σ H { s with heap:=h' }:=I.turned (t':=s.toks) (λb o hb e=>(sb.2 b hb).trans e) f0 f1 f3 f4 f5
  obtain⟨o,e,c,d⟩:=id st'
  exact ⟨u,rfl,go_of (s:={ s with heap:=h' }) e c d (by decide) ⟨x,H,I1,ru,⟨rfl,λys hy=>by rw[I.list_inj hy hq];exact hx⟩,st',λb hb=>(hf b hb).1⟩⟩
 done:=by
  intro X hP hw hK hc i pins s σ H E I hf st hg
  subst hP hw hK
  obtain⟨xs,hq,hx⟩:=hg
  obtain⟨its,rv,p,hz⟩:=I.list hq
  obtain⟨f0,f1,f2,f3,f4,f5⟩:=hf it (by simp)
  have hl:=rv.length
  exact wpAny_pyNext_list_end (I.ok.hd hc) st p.isList (by simp;omega) λh' eb=>⟨rfl,I.turned (t':=s.toks) (λb o hb e=>eb b o hb e) f0 f1 f3 f4 f5⟩
 self:=λ_ _ _ _ _ st h=>wpAny_pyIter_listiter st h
theorem turn_tuple{P:Program}{w:World}{K:u0}{tg:Expr}(a it:Addr):Turn P w K tg (Itt K a) [it] it (λi h=>h.IsTupleIter it a i) where
 mem:=by simp
 obj:=λi h st b hb=>by
  have e:b=it:=by simpa using hb
  subst e
  obtain⟨o,e,c,d⟩:=st
  exact ⟨o,e,λv z=>by rw[d]at z;cases z⟩
 keep:=λi h h' st k=>st.at λo e=>k it (by simp) o e
 item:=by
  intro X hP hw hK hc i pins s σ H E I hf st hg
  subst hP hw hK
  obtain⟨xs,x,hq,hx⟩:=hg
  obtain⟨its,rv,p,hz⟩:=I.tuple hq
  obtain⟨u,hu,ru⟩:=rv.get hx
  obtain⟨f0,f1,f2,f3,f4,f5⟩:=hf it (by simp)
  refine wpAny_pyNext_tuple_item st (show s.heap.IsTuple a its.toArray from p) (x:=u) (by simpa using hu) λh' st' sb=>?_
  have I1:Inv X pins σ H { s with heap:=h' }:=I.turned (t':=s.toks) (λb o hb e=>(sb.2 b hb).trans e) f0 f1 f3 f4 f5
  obtain⟨o,e,c,d⟩:=id st'
  exact ⟨u,rfl,go_of (s:={ s with heap:=h' }) e c d (by decide) ⟨x,H,I1,ru,⟨rfl,λys hy=>by rw[I.tuple_inj hy hq];exact hx⟩,st',λb hb=>(hf b hb).1⟩⟩
 done:=by
  intro X hP hw hK hc i pins s σ H E I hf st hg
  subst hP hw hK
  obtain⟨xs,hq,hx⟩:=hg
  obtain⟨its,rv,p,hz⟩:=I.tuple hq
  obtain⟨f0,f1,f2,f3,f4,f5⟩:=hf it (by simp)
  have hl:=rv.length
  exact wpAny_pyNext_tuple_end (I.ok.hd hc) st (show s.heap.IsTuple a its.toArray from p) (by simp;omega) λh' eb=>⟨rfl,I.turned (t':=s.toks) (λb o hb e=>eb b o hb e) f0 f1 f3 f4 f5⟩
 self:=λ_ _ _ _ _ st h=>wpAny_pyIter_tupleiter st h
theorem turn_range{P:Program}{w:World}{K:u0}{tg:Expr}(it:Addr)(lo:Int)(n:Nat):Turn P w K tg (Itr lo n) [it] it (λi h=>IsRangeIter h it (lo+(i:Nat) * 1) ((n:Int) - (i:Nat)) 1) where
 mem:=by simp
 obj:=λi h st b hb=>by
  have e:b=it:=by simpa using hb
  subst e
  exact ⟨_,st,λv z=>by
    have z':Data.fields _=Data.cell v:=z
    cases z'⟩
 keep:=λi h h' st k=>k it (by simp) _ st
 item:=by
  intro X hP hw hK hc i pins s σ H E I hf st hg
  subst hP hw hK
  obtain⟨f0,f1,f2,f3,f4,f5⟩:=hf it (by simp)
  have W:=Walks.range (prog:=X.prog) (w:=X.w) (I.ok.hd hc) it lo 1 n
  refine W.item i s _ _ hg st λv h' tk hv st' kk=>?_
  obtain⟨t,rfl⟩:=hv
  have I1:Inv X pins σ H { s with heap:=h',toks:=tk }:=I.turned (λb o hb e=>kk b o (by simpa using hb) e) f0 f1 f3 f4 f5
  refine ⟨_,rfl,go_of (s:={ s with heap:=h',toks:=tk }) (n:="range_iterator") st' rfl rfl (by decide) ⟨.int (lo+i),H,I1,⟨t,?_⟩,⟨rfl,rfl⟩,st',λb hb=>(hf b hb).1⟩⟩
  rw[Int.mul_one]
 done:=by
  intro X hP hw hK hc i pins s σ H E I hf st hg
  subst hP hw hK
  obtain⟨f0,f1,f2,f3,f4,f5⟩:=hf it (by simp)
  exact wpAny_pyNext_range_end (I.ok.hd hc) st (by have:n<=i:=hg;omega) λh' eb=>⟨rfl,I.turned (t':=s.toks) (λb o hb e=>eb b o hb e) f0 f1 f3 f4 f5⟩
 self:=λ_ _ _ _ _ st h=>wpAny_pyIter_rangeiter st h
section
variable {X:Cx}{tg:Expr}
theorem range_it{pins:List (Addr×Obj)}{σ:St}{H:Hp}{s:Shared}{R:It->Hp->Prop}{E:Value->Shared->Prop}{lo hi:Int}{t u v:Tok}{tk:Nat}(I:Inv X pins σ H s)(h1:-(2 ^ 62)<=lo)(h2:lo < 2 ^ 62)(h3:-(2 ^ 62)<=hi)(h4:hi < 2 ^ 62)
  (q:R (Itr lo (hi - lo).toNat) H):wpAny (model X.prog X.w) X.A (pyIter (.ref s.heap.objs.size)) (PIE X pins σ tg R) E { s with heap:=s.heap.push { cls:=.type "range",data:=.fields #[.int lo t,.int hi u,.int 1 v] },toks:=tk }:=by
 refine wpAny_pyIter_range (IsRange.new ..) (small_one h1 h2 h3 h4) ?_
 have I1:Inv X pins σ H { s with heap:=s.heap.push { cls:=.type "range",data:=.fields #[.int lo t,.int hi u,.int 1 v] },toks:=tk }:=I.kept λb o e=>g0 _ e
 refine ⟨(s.heap.push { cls:=.type "range",data:=.fields #[.int lo t,.int hi u,.int 1 v] }).objs.size,[(s.heap.push { cls:=.type "range",data:=.fields #[.int lo t,.int hi u,.int 1 v] }).objs.size],_,_,H,rfl,
   I1.kept (t':=tk) λb o e=>g0 _ e,turn_range _ lo (hi - lo).toNat,?_,λb hb=>?_,q⟩
 ·have e1:lo+((0:Nat):Int) * 1=lo:=by simp
  have e2:(((hi - lo).toNat:Nat):Int) - ((0:Nat):Int)=Builtin.Range.rangeSize lo hi 1:=by rw[rangeSize_one];split<;>omega
  show IsRangeIter _ _ (lo+((0:Nat):Int) * 1) ((((hi - lo).toNat:Nat):Int) - ((0:Nat):Int)) 1
  rw[e1,e2]
  exact K0 _ rfl
 ·have e:b=(s.heap.push { cls:=.type "range",data:=.fields #[.int lo t,.int hi u,.int 1 v] }).objs.size:=by simpa using hb
  subst e
  exact I1.fpOk (R0 _) (I1.hok.fresh (R0 _))
noncomputable def iRng1(ta:TA):TI:=λσ H R=>ta σ H λvs H1=>∃j:Int,vs=[.int j]/\-(2 ^ 62)<=j/\j < 2 ^ 62/\R (Itr 0 j.toNat) H1
theorem pi_range1{a:Expr}{ta:TA}{p pos:Pos}(hg:Gl X "range")(hm:X.mg "range"=none)(ha:PA X [a] ta)(hs:starEach [a] X.env=[(false,eval a X.env)]:=by rfl):PI X tg (.Call (.Name "range" p) [a] [] pos) (iRng1 ta):=by
 intro pins s σ H R I h
 refine Call_ (ld_blt I hg hm boot_range (K3 (thn (ha pos pins s σ H _ I h) λus s1 ⟨vs,H1,I1,r1,q1⟩=>?_) hs rfl))
 obtain⟨j,e,q1,q2,q⟩:=q1
 subst e
 cases r1 with
 | cons r rr =>
  cases rr
  obtain⟨t,rfl⟩:=r
  exact call_range_1 (range_it I1 (by omega) (by omega) q1 q2 (by simpa using q))
noncomputable def tFor(wi:TI)(g:TG)(tb:TS):TS:=λD σ H=>wi σ H λJ H1=>∃W:Nat->Nat->St->Hp->Prop,(∃m,W 0 m σ H1)/\∀i m σ H,W i m σ H ->
 (J.stop i H/\D.nx σ H)\/(J.go i H/\∃N:St->Hp->Prop,(∀σ' H',N σ' H'->∃m',m' < m/\W (i+1) m' σ' H')/\∀x H',J.yld i H x H'->g x σ H' λσ2 H2=>tb { D with nx:=N,ct:=N,bk:=D.nx } σ2 H2)
noncomputable def pinsAt(fp:List Addr)(h:Heap):List (Addr×Obj):=fp.filterMap λb=>(h.get? b).map λo=>(b,o)
theorem mem_pinsAt{fp:List Addr}{h:Heap}{b:Addr}{o:Obj}(hb:b∈fp)(e:h.get? b=some o):(b,o)∈pinsAt fp h:=W8.mpr ⟨b,hb,by rw[e];rfl⟩
theorem of_pinsAt{fp:List Addr}{h:Heap}{p:Addr×Obj}(hp:p∈pinsAt fp h):p.1∈fp/\h.get? p.1=some p.2:=by
 obtain⟨b,hb,e⟩:=W8.mp hp
 cases q:h.get? b with
 | none=>rw[q]at e;cases e
 | some o =>
  rw[q]at e
  have e':(b,o)=p:=X1 e
  subst e'
  exact ⟨hb,q⟩
theorem Inv.pinned{pins:List (Addr×Obj)}{σ:St}{H:Hp}{s:Shared}{fp:List Addr}(I:Inv X pins σ H s)(hf:∀b∈fp,FpOk X pins H b)(ho:∀b∈fp,∃o,s.heap.get? b=some o/\∀v,o.data≠.cell v):Inv X (pins++pinsAt fp s.heap) σ H s :=
 I.pins_of λp hp=>(W1.mp hp).elim (λz=>I.pin p (G1 _ z)) λz=>by
  obtain⟨hb,e⟩:=of_pinsAt z
  obtain⟨f0,f1,f2,_⟩:=hf p.1 hb
  obtain⟨o,e',d⟩:=ho p.1 hb
  rw[e]at e';cases e'
  exact ⟨e,f0,f1,f2,d⟩
theorem Inv.unpinned{pins pl:List (Addr×Obj)}{σ:St}{H:Hp}{s:Shared}(I:Inv X (pins++pl) σ H s):Inv X pins σ H s:=I.pins_of λp hp=>I.pin p (G1 _ (P5 _ hp))
theorem ps_for{iter:Expr}{body:List Stmt}{wi:TI}{g:TG}{tb:TS}{pos:Pos}(hp:PassesOwn (model X.prog X.w) X.A X.env X.xe)(hc:X.calm=true)(hi:PI X tg iter wi)(hg:PG X tg g)(hb:PSs X body tb)
  (hs:∀x,foldedSetIterable iter X.env x=pure x:=by intro _;rfl):PS X (.For tg iter body [] pos) (tFor wi g tb):=by
 intro pins s σ H D I h
 refine wpAny_For (thn (hi pins s σ H _ I h) λv s1 h1=>thn h1 λitv s2 h2=>?_) hs
 obtain⟨it,fp,tn,J,H2,e,I2,T,st2,f2,W,⟨m0,w0⟩,turn⟩:=h2
 subst e
 have stat:∀{H':Hp},(∀b∈fp,H' b=none)->∀b∈fp,FpOk X pins H' b:=λhn b hb=>⟨hn b hb,(f2 b hb).2⟩
 refine codeAny_forLoop_any (λn s'=>∃i σ' H',Inv X pins σ' H' s'/\tn i s'.heap/\(∀b∈fp,H' b=none)/\W i n σ' H') ?_ m0 ⟨0,σ,H2,I2,st2,λb hb=>(f2 b hb).1,w0⟩
 rintro n s3 ⟨i,σ3,H3,I3,st3,fr3,w3⟩
 rcases turn i n σ3 H3 w3 with⟨stop,qn⟩|⟨go,N,hN,step⟩
 ·refine wpAny_passesOwn hp (thn (T.done X rfl rfl rfl hc i pins s3 σ3 H3 X.xe I3 (stat fr3) st3 stop) λr s4 ⟨hr,I4⟩=>?_)
  subst hr
  exact wpAny_execs_nil ⟨σ3,H3,I4,qn⟩
 ·refine wpAny_passesOwn hp (thn (T.item X rfl rfl rfl hc i pins s3 σ3 H3 X.xe I3 (stat fr3) st3 go) λr s4 ⟨u,hr,h4⟩=>?_)
  subst hr
  refine wpAny_passesOwn hp (thn h4 λ_ s5 ⟨x,H5,I5,r5,y5,st5,fr5⟩=>?_)
  have I5':=I5.pinned (stat fr5) (T.obj _ _ st5)
  refine wpAny_passesOwn hp (thn (hg _ s5 σ3 H5 x u _ I5' r5 (step x H5 y5)) λ_ s6 ⟨σ6,H6,I6,q6⟩=>?_)
  refine wpAny_passesOwn hp (thn (hb _ s6 σ6 H6 _ I6 q6) λf s7 q7=>?_)
  have again:∀{σ7:St}{H7:Hp},Inv X (pins++pinsAt fp s5.heap) σ7 H7 s7->N σ7 H7->∃m,m < n/\∃i σ' H',Inv X pins σ' H' s7/\tn i s7.heap/\(∀b∈fp,H' b=none)/\W i m σ' H':=λ{σ7 H7} I7 n7=>by
   obtain⟨m',hm,w7⟩:=hN σ7 H7 n7
   refine ⟨m',hm,i+1,σ7,H7,I7.unpinned,T.keep _ _ _ st5 λb hb o e=>(I7.pin (b,o) (G1 _ (G1 _ (mem_pinsAt hb e)))).1,λb hb=>?_,w7⟩
   obtain⟨o,e,d⟩:=T.obj _ _ st5 b hb
   exact (I7.pin (b,o) (G1 _ (G1 _ (mem_pinsAt hb e)))).2.1
  cases f with
  | next=>obtain⟨σ7,H7,I7,n7⟩:=q7;exact again I7 n7
  | cont=>obtain⟨σ7,H7,I7,n7⟩:=q7;exact again I7 n7
  | brk=>obtain⟨σ7,H7,I7,q7⟩:=q7;exact ⟨σ7,H7,I7.unpinned,q7⟩
  | ret v=>obtain⟨x7,σ7,H7,I7,r7,q7⟩:=q7;exact ⟨x7,σ7,H7,I7.unpinned,r7,q7⟩
end
noncomputable abbrev R2:=V->V->Hp->VK->Prop
noncomputable def OpR(X:Cx)(f:Value->Value->Sem Value)(r:R2):Prop :=
 ∀(pins:List (Addr×Obj)) (s:Shared) (σ:St) (H:Hp) (x y:V) (v u:Value) (Q:VK),Inv X pins σ H s->RelV x v->RelV y u->r x y H Q ->
  wpAny (model X.prog X.w) X.A (f v u) (EP X pins σ Q) X.xe s
noncomputable def CallR(X:Cx)(f:Value)(r:List V->Hp->VK->Prop):Prop :=
 ∀(pins:List (Addr×Obj)) (s:Shared) (σ:St) (H:Hp) (xs:List V) (us:List Value) (Q:VK),Inv X pins σ H s->Vals xs us->r xs H Q ->
  wpAny (model X.prog X.w) X.A (call f us) (EP X pins σ Q) X.xe s
noncomputable def tOp(r:R2)(ta tb:TE):TE:=λσ H Q=>ta σ H λx H1=>tb σ H1 λy H2=>r x y H2 Q
noncomputable def rI(C:Int->Int->Prop)(g:Int->Int->V):R2:=λx y H Q=>∃i j,x=.int i/\y=.int j/\C i j/\Q (g i j) H
noncomputable def rI0(g:Int->Int->V):R2:=λx y H Q=>∃i j,x=.int i/\y=.int j/\Q (g i j) H
section
variable {X:Cx}{a b c:Expr}{ta tb tc:TE}{pos:Pos}
theorem binT(ha:PE X a ta)(hb:PE X b tb){pins:List (Addr×Obj)}{s:Shared}{σ:St}{H:Hp}{R:V->V->Hp->Prop}(I:Inv X pins σ H s)
  (h:ta σ H λx H1=>tb σ H1 λy H2=>R x y H2) {Q:Value->Shared->Prop}{f:Value->Value->Sem Value}
  (hf:∀v u s2 x y H2,Inv X pins σ H2 s2->RelV x v->RelV y u->R x y H2->wpAny (model X.prog X.w) X.A (f v u) Q X.xe s2) :
  wpAny (model X.prog X.w) X.A (eval a X.env) (λv s₁=>wpAny (model X.prog X.w) X.A (eval b X.env) (λu s₂=>wpAny (model X.prog X.w) X.A (f v u) Q X.xe s₂) X.xe s₁) X.xe s:=by
 refine thn (ha pins s σ H _ I h) λv s1 ⟨x,H1,I1,r1,q1⟩=>?_
 refine thn (hb pins s1 σ H1 _ I1 q1) λu s2 ⟨y,H2,I2,r2,q2⟩=>?_
 exact hf v u s2 x y H2 I2 r1 r2 q2
theorem pe_op{op:Operator}{r:R2}(ho:OpR X (binaryOp op) r)(ha:PE X a ta)(hb:PE X b tb):PE X (.BinOp a op b pos) (tOp r ta tb):=by
 intro pins s σ H Q I h
 exact wpAny_BinOp (binT ha hb I h λv u s2 x y H2 I2 rx ry q=>ho pins s2 σ H2 x y v u Q I2 rx ry q)
theorem opI{f:Value->Value->Sem Value}{C:Int->Int->Prop}{g:Int->Int->Int}
  (rule:∀(i j:Int) (t u:Tok) (s:Shared) (Q:Value->Shared->Prop) (E:Value->Shared->Prop),C i j->Q (.int (g i j) s.toks) { s with toks:=s.toks+1 }->wpAny (model X.prog X.w) X.A (f (.int i t) (.int j u)) Q E s) :
  OpR X f (rI C λi j=>.int (g i j)):=by
 intro pins s σ H x y v u Q I rx ry h
 obtain⟨i,j,rfl,rfl,hc,q⟩:=h
 obtain⟨t,rfl⟩:=rx
 obtain⟨t',rfl⟩:=ry
 exact rule i j t t' s _ _ hc ⟨.int (g i j),H,I.tok _,⟨_,rfl⟩,q⟩
theorem opI0{f:Value->Value->Sem Value}{g:Int->Int->Int}
  (rule:∀(i j:Int) (t u:Tok) (s:Shared) (Q:Value->Shared->Prop) (E:Value->Shared->Prop),Q (.int (g i j) s.toks) { s with toks:=s.toks+1 }->wpAny (model X.prog X.w) X.A (f (.int i t) (.int j u)) Q E s) :
  OpR X f (rI0 λi j=>.int (g i j)):=by
 intro pins s σ H x y v u Q I rx ry h
 obtain⟨i,j,rfl,rfl,q⟩:=h
 obtain⟨t,rfl⟩:=rx
 obtain⟨t',rfl⟩:=ry
 exact rule i j t t' s _ _ ⟨.int (g i j),H,I.tok _,⟨_,rfl⟩,q⟩
theorem opB0{f:Value->Value->Sem Value}{g:Int->Int->Bool}
  (rule:∀(i j:Int) (t u:Tok) (s:Shared) (Q:Value->Shared->Prop) (E:Value->Shared->Prop),Q (.bool (g i j)) s->wpAny (model X.prog X.w) X.A (f (.int i t) (.int j u)) Q E s) :
  OpR X f (rI0 λi j=>.bl (g i j)):=by
 intro pins s σ H x y v u Q I rx ry h
 obtain⟨i,j,rfl,rfl,q⟩:=h
 obtain⟨t,rfl⟩:=rx
 obtain⟨t',rfl⟩:=ry
 exact rule i j t t' s _ _ ⟨.bl (g i j),H,I,rfl,q⟩
noncomputable def CDiv(i j:Int):Prop:=0 < j/\j < 1073741824
noncomputable def CPow(i j:Int):Prop:=0<=j/\j<=1000000/\i.natAbs < 2 ^ 64
noncomputable def CMul(i j:Int):Prop:=(-(2 ^ 64) < i/\i < 2 ^ 64)\/(-(2 ^ 64) < j/\j < 2 ^ 64)
theorem CMul.ok{i j:Int}(h:CMul i j):IntMulOk i j:=by
 rcases h with⟨h1,h2⟩|⟨h1,h2⟩
 ·exact .of_left (intBits_le_64 h1 h2)
 ·exact .of_right (intBits_le_64 h1 h2)
theorem op_add:OpR X (binaryOp .Add) (rI0 λi j=>.int (i+j)):=opI0 λ_ _ _ _ _ _ _ q=>add_int q
theorem op_sub:OpR X (binaryOp .Sub) (rI0 λi j=>.int (i - j)):=opI0 λ_ _ _ _ _ _ _ q=>sub_int q
theorem op_mul:OpR X (binaryOp .Mult) (rI CMul λi j=>.int (i * j)):=opI λ_ _ _ _ _ _ _ hc q=>mul_int q hc.ok
theorem op_fdiv:OpR X (binaryOp .FloorDiv) (rI CDiv λi j=>.int (i / j)):=opI λi j _ _ _ _ _ hc q=>by
 have h1:(0:Int) < j:=hc.1
 have h2:j < 1073741824:=hc.2
 exact floordiv_int (by omega) (by rw[Int.fdiv_eq_ediv_of_nonneg i (by omega)];exact q) (.inl (PyProof.noPylong_small (by omega)))
theorem op_mod:OpR X (binaryOp .Mod) (rI (λ_ j=>0 < j) λi j=>.int (i % j)):=opI λi j _ _ _ _ _ hc q=>by
 have h1:(0:Int) < j:=hc
 exact mod_int' (by omega) (by rw[Int.fmod_eq_emod_of_nonneg i (by omega)];exact q)
theorem op_pow:OpR X (binaryOp .Pow) (rI CPow λi j=>.int (i ^ j.toNat)):=opI λ_ _ _ _ _ _ _ hc q=>pow_int_small hc.1 hc.2.1 hc.2.2 q
theorem op_shl:OpR X (binaryOp .LShift) (rI CPow λi j=>.int (i * 2 ^ j.toNat)):=opI λ_ _ _ _ _ _ _ hc q=>lshift_int_small hc.1 hc.2.1 hc.2.2 q
end
noncomputable def scal:V->V->Bool
 | .non,.non=>true | .non,.int _=>true | .int _,.non=>true | .non,.bl _=>true | .bl _,.non=>true | .non,.str _=>true | .str _,.non=>true
 | .int _,.int _=>true | .bl _,.bl _=>true | .str _,.str _=>true | .byt _,.byt _=>true
 | .int _,.str _=>true | .str _,.int _=>true | .bl _,.str _=>true | .str _,.bl _=>true
 | _,_=>false
noncomputable def rEq:R2:=λx y H Q=>scal x y=true/\Q (.bl (decide (x=y))) H
noncomputable def rNe:R2:=λx y H Q=>scal x y=true/\Q (.bl (!decide (x=y))) H
theorem dec_int{i j:Int}:decide (V.int i=V.int j)=(i==j):=by
 rw[i6]
 simp
theorem dec_bl{i j:Bool}:decide (V.bl i=V.bl j)=(i==j):=by
 rw[i6]
 simp
theorem dec_str{i j:Str}:decide (V.str i=V.str j)=(i==j):=by
 rw[i6]
 simp
theorem dec_byt{i j:Array UInt8}:decide (V.byt i=V.byt j)=(i.toList==j.toList):=by
 rw[i6]
 cases i
 cases j
 simp
section
variable {X:Cx}{a b c:Expr}{ta tb tc:TE}{pos:Pos}
theorem fin_bl{pins:List (Addr×Obj)}{σ:St}{H:Hp}{s:Shared}{Q:VK}{k k':Bool}(I:Inv X pins σ H s)(q:Q (.bl k) H)(e:k=k'):EP X pins σ Q (.bool k') s:=by
 subst e
 exact ⟨.bl k,H,I,rfl,q⟩
theorem op_eq:OpR X (compareOp .Eq) rEq:=by
 intro pins s σ H x y v u Q I rx ry h
 obtain⟨hs,q⟩:=h
 cases x with
 | non =>
  cases rx
  cases y with
  | non=>cases ry;exact PySem.EqNone.eq_none_none (fin_bl I q (by simp))
  | bl j=>cases ry;exact PySem.EqNone.eq_none_bool (fin_bl I q (by simp))
  | int j=>obtain⟨t',rfl⟩:=ry;exact PySem.EqNone.eq_none_int (fin_bl I q (by simp))
  | str j=>obtain⟨t',rfl⟩:=ry;exact PySem.EqNone.eq_none_str (fin_bl I q (by simp))
  | _=>exact absurd (show false=true from hs) A1
 | bl i =>
  cases rx
  cases y with
  | non=>cases ry;exact PySem.EqNone.eq_bool_none (fin_bl I q (by simp))
  | bl j=>cases ry;exact eq_bool (fin_bl I q dec_bl)
  | str j=>obtain⟨t',rfl⟩:=ry;exact PySem.EqMixed.eq_bool_str (fin_bl I q (by simp))
  | _=>exact absurd (show false=true from hs) A1
 | int i =>
  obtain⟨t,rfl⟩:=rx
  cases y with
  | non=>cases ry;exact PySem.EqNone.eq_int_none (fin_bl I q (by simp))
  | int j=>obtain⟨t',rfl⟩:=ry;exact eq_int (fin_bl I q dec_int)
  | str j=>obtain⟨t',rfl⟩:=ry;exact PySem.EqMixed.eq_int_str (fin_bl I q (by simp))
  | _=>exact absurd (show false=true from hs) A1
 | str i =>
  obtain⟨t,rfl⟩:=rx
  cases y with
  | non=>cases ry;exact PySem.EqNone.eq_str_none (fin_bl I q (by simp))
  | bl j=>cases ry;exact PySem.EqMixed.eq_str_bool (fin_bl I q (by simp))
  | int j=>obtain⟨t',rfl⟩:=ry;exact PySem.EqMixed.eq_str_int (fin_bl I q (by simp))
  | str j=>obtain⟨t',rfl⟩:=ry;exact eq_str (fin_bl I q dec_str)
  | _=>exact absurd (show false=true from hs) A1
 | byt i =>
  obtain⟨t,rfl⟩:=rx
  cases y with
  | byt j=>obtain⟨t',rfl⟩:=ry;exact PySem.W.eq_bytes (fin_bl I q dec_byt)
  | _=>exact absurd (show false=true from hs) A1
 | _=>cases y<;>exact absurd (show false=true from hs) A1
theorem op_ne:OpR X (compareOp .NotEq) rNe:=by
 intro pins s σ H x y v u Q I rx ry h
 obtain⟨hs,q⟩:=h
 cases x with
 | non =>
  cases rx
  cases y with
  | non=>cases ry;exact PySem.EqNone.ne_none_none (fin_bl I q (by simp))
  | bl j=>cases ry;exact PySem.EqNone.ne_none_bool (fin_bl I q (by simp))
  | int j=>obtain⟨t',rfl⟩:=ry;exact PySem.EqNone.ne_none_int (fin_bl I q (by simp))
  | str j=>obtain⟨t',rfl⟩:=ry;exact PySem.EqNone.ne_none_str (fin_bl I q (by simp))
  | _=>exact absurd (show false=true from hs) A1
 | bl i =>
  cases rx
  cases y with
  | non=>cases ry;exact PySem.EqNone.ne_bool_none (fin_bl I q (by simp))
  | bl j=>cases ry;exact ne_bool (fin_bl I q (congrArg not dec_bl))
  | str j=>obtain⟨t',rfl⟩:=ry;exact PySem.EqMixed.ne_bool_str (fin_bl I q (by simp))
  | _=>exact absurd (show false=true from hs) A1
 | int i =>
  obtain⟨t,rfl⟩:=rx
  cases y with
  | non=>cases ry;exact PySem.EqNone.ne_int_none (fin_bl I q (by simp))
  | int j=>obtain⟨t',rfl⟩:=ry;exact ne_int (fin_bl I q (congrArg not dec_int))
  | str j=>obtain⟨t',rfl⟩:=ry;exact PySem.EqMixed.ne_int_str (fin_bl I q (by simp))
  | _=>exact absurd (show false=true from hs) A1
 | str i =>
  obtain⟨t,rfl⟩:=rx
  cases y with
  | non=>cases ry;exact PySem.EqNone.ne_str_none (fin_bl I q (by simp))
  | bl j=>cases ry;exact PySem.EqMixed.ne_str_bool (fin_bl I q (by simp))
  | int j=>obtain⟨t',rfl⟩:=ry;exact PySem.EqMixed.ne_str_int (fin_bl I q (by simp))
  | str j=>obtain⟨t',rfl⟩:=ry;exact ne_str (fin_bl I q (congrArg not dec_str))
  | _=>exact absurd (show false=true from hs) A1
 | byt i =>
  obtain⟨t,rfl⟩:=rx
  cases y with
  | byt j=>obtain⟨t',rfl⟩:=ry;exact PySem.W.ne_bytes (fin_bl I q (congrArg not dec_byt))
  | _=>exact absurd (show false=true from hs) A1
 | _=>cases y<;>exact absurd (show false=true from hs) A1
theorem op_lt:OpR X (compareOp .Lt) (rI0 λi j=>.bl (decide (i < j))):=opB0 λ_ _ _ _ _ _ _ q=>lt_int q
theorem op_le:OpR X (compareOp .LtE) (rI0 λi j=>.bl (decide (i<=j))):=opB0 λ_ _ _ _ _ _ _ q=>le_int q
theorem op_gt:OpR X (compareOp .Gt) (rI0 λi j=>.bl (decide (j < i))):=opB0 λ_ _ _ _ _ _ _ q=>gt_int q
theorem op_ge:OpR X (compareOp .GtE) (rI0 λi j=>.bl (decide (j<=i))):=opB0 λ_ _ _ _ _ _ _ q=>ge_int q
theorem OpR.or{f:Value->Value->Sem Value}{r r':R2}(h:OpR X f r)(h':OpR X f r'):OpR X f (λx y H Q=>r x y H Q\/r' x y H Q):=by
 intro pins s σ H x y v u Q I rx ry q
 rcases q with q|q
 ·exact h pins s σ H x y v u Q I rx ry q
 ·exact h' pins s σ H x y v u Q I rx ry q
theorem nomark(b:Expr){op:CmpOp}(h:op≠.In:=by decide)(h2:op≠.NotIn:=by decide):behindInMarks op b=false:=by
 have e1:(op==CmpOp.In)=false:=by cases op<;>first|rfl|exact absurd rfl h
 have e2:(op==CmpOp.NotIn)=false:=by cases op<;>first|rfl|exact absurd rfl h2
 cases b<;>simp[behindInMarks,e1,e2]
theorem pe_cmpR{op:CmpOp}{r:R2}(ho:OpR X (compareOp op) r)(ha:PE X a ta)(hb:PE X b tb)(hm:behindInMarks op b=false):PE X (.Compare a [op] [b] pos) (tOp r ta tb):=by
 intro pins s σ H Q I h
 exact wpAny_Compare1 (binT ha hb I h λv u s2 x y H2 I2 rx ry q=>ho pins s2 σ H2 x y v u Q I2 rx ry q) hm
noncomputable def tTest(t:TE):TT:=λσ H Q=>t σ H λx H'=>∃k,x=.bl k/\Q k H'
theorem pt_cmpR{op:CmpOp}{r:R2}(ho:OpR X (compareOp op) r)(ha:PE X a ta)(hb:PE X b tb)(hm:behindInMarks op b=false):PT X (.Compare a [op] [b] pos) (tTest (tOp r ta tb)):=by
 intro pins s σ H Q I h
 refine wpAny_isTrue_Compare1 (thn (ha pins s σ H _ I h) λv s1 ⟨x,H1,I1,r1,q1⟩=>thn (hb pins s1 σ H1 _ I1 q1) λu s2 ⟨y,H2,I2,r2,q2⟩ =>
   thn (ho pins s2 σ H2 x y v u _ I2 r1 r2 q2) λc s3 ⟨z,H3,I3,r3,k,e,q3⟩=>?_) hm
 subst e
 cases r3
 exact wpAny_truthy_bool ⟨H3,I3,q3⟩
theorem line63:(sizeLine:Nat) < 2 ^ 63:=by rw[sizeLine_eq];decide
theorem vals1{x:V}{us:List Value}(r:Vals [x] us):∃u,us=[u]/\RelV x u:=by
 cases r with
 | cons r1 r2=>cases r2;exact ⟨_,rfl,r1⟩
theorem vals2{x y:V}{us:List Value}(r:Vals [x,y] us):∃u w',us=[u,w']/\RelV x u/\RelV y w':=by
 cases r with
 | cons r1 r2 =>
  cases r2 with
  | cons r3 r4=>cases r4;exact ⟨_,_,rfl,r1,r3⟩
theorem call_abs:CallR X (.builtin "abs") (λxs H Q=>∃i,xs=[.int i]/\Q (.int (if i < 0 then -i else i)) H):=by
 intro pins s σ H xs us Q I r h
 obtain⟨i,rfl,q⟩:=h
 obtain⟨u,rfl,t,rfl⟩:=vals1 r
 exact call_abs_int λu tk=>⟨.int (if i < 0 then -i else i),H,I.tok _,⟨_,rfl⟩,q⟩
theorem call_max2(hc:X.calm=true):CallR X (.builtin "max") (λxs H Q=>∃i j,xs=[.int i,.int j]/\Q (.int (if j > i then j else i)) H):=by
 intro pins s σ H xs us Q I r h
 obtain⟨i,j,rfl,q⟩:=h
 obtain⟨u,w',rfl,⟨t,rfl⟩,⟨t',rfl⟩⟩:=vals2 r
 refine max_two_ints (I.ok.hd hc) λh' tk k=>⟨_,H,I.kept k,?_,q⟩
 by_cases hj:j > i
 ·rw[if_pos hj,if_pos hj];exact ⟨_,rfl⟩
 ·rw[if_neg hj,if_neg hj];exact ⟨_,rfl⟩
theorem call_int1:CallR X (.type "int") (λxs H Q=>(∃i,xs=[.int i]/\Q (.int i) H)\/∃k,xs=[.bl k]/\Q (.int (if k then 1 else 0)) H):=by
 intro pins s σ H xs us Q I r h
 rcases h with⟨i,rfl,q⟩|⟨k,rfl,q⟩
 ·obtain⟨u,rfl,t,rfl⟩:=vals1 r
  exact call_int_int ⟨.int i,H,I,⟨_,rfl⟩,q⟩
 ·obtain⟨u,rfl,r1⟩:=vals1 r
  cases r1
  exact call_int_bool ⟨.int (if k then 1 else 0),H,I.tok _,⟨_,rfl⟩,q⟩
end
structure ObjM(h:Heap)(x dx C:Addr)(mA:Str->Option Value):Prop where
 obj:h.get? x=some (y9 C dx)
 ns:h.Ns1 dx mA
 ne:dx≠x
section
variable {prog:Program}{w:World}{A:Around}{E:Value->Shared->Prop}{s:Shared}{K:u0}{x dx C f:Addr}{mA:Str->Option Value}{name:Str}{v:Value}
end
section
variable {P:Program}{w:World}{H H':Hp}{h h':Heap}{a C dx:Addr}{fs fs':List (Str×V)}
end
structure Cls(K:u0)(C:Addr):Prop where
 pg:PySem.W.plainGet K C Str.empty=true
 hd:PySem.W.hasDictIn K C=true
 po:PySem.W.plainOver K C=true
 sa:T6 K (.ref C) "__setattr__"=some (some (.builtin "object.__setattr__"))
structure Con(K:u0)(C:Addr)(f:Str)(v:V)(u:Value):Prop where
 at_:T6 K (.ref C) f=some (some u)
 rel:RelV v u
 get:t9 K u "__get__"=some none
 cp:PySem.W.copiedNames.contains f=false
structure Meth(K:u0)(C:Addr)(m:Str)(f:Addr):Prop where
 at_:T6 K (.ref C) m=some (some (.ref f))
 fn:PySem.W.isFn K (.ref f)=true
 kp:W4 K (.ref f)=true
section
variable {X:Cx}{pins:List (Addr×Obj)}{σ:St}{H:Hp}{s:Shared}{a C dx:Addr}{fs:List (Str×V)}{f:Str}{v:V}{A:Around}{E:Value->Shared->Prop}
end
section
variable {X:Cx}{o e value:Expr}{f:Str}{pos pos' tpos:Pos}{ta tv:TE}
end
section
variable {X:Cx}{pins:List (Addr×Obj)}{σ:St}{H:Hp}{s:Shared}{A:Around}{E:Value->Shared->Prop}{Q:Value->Shared->Prop}{c:Value}{b:Bool}
inductive TyOf (K:u0) (H:Hp):V->Value->Prop where
 | non:TyOf K H .non (.type "NoneType")
 | bl (x:Bool):TyOf K H (.bl x) (.type "bool")
 | int (i:Int):TyOf K H (.int i) (.type "int")
 | str (x:Str):TyOf K H (.str x) (.type "str")
 | flt (x:UInt64):TyOf K H (.flt x) (.type "float")
 | lst {a:Addr}{xs:List V} (e:H a=some (.lst xs)):TyOf K H (.ref a) (.type "list")
 | frz {a:Addr}{o:Obj}{xs:List V} (e:H a=some (.frz o (.lst xs))):TyOf K H (.ref a) (.type "list")
 | tup {a:Addr}{xs:List V} (e:H a=some (.tup xs)):TyOf K H (.ref a) (.type "tuple")
 | dK {a:Addr}{kvs:List (Key×V)} (e:H a=some (.dK kvs)):TyOf K H (.ref a) (.type "dict")
 | dT {a:Addr}{kvs:List (List Key×V)} (e:H a=some (.dT kvs)):TyOf K H (.ref a) (.type "dict")
 | ins {a C dx:Addr}{fs:List (Str×V)} (e:H a=some (.ins C dx fs)) (cl:Cls K C) (ha:T6 K (.ref C) "__class__"=some (some (.builtin "object.__class__")))
   (hn:t9 K (.builtin "object.__class__") "__get__"=some (some (.builtin "getset_descriptor.__get__"))) (htk:PySem.W.takesIn K (.builtin "object.__class__")=some true)
   (hm:PySem.W.mroIn K C (.type "object")=some true):TyOf K H (.ref a) (.ref C)
end
structure Room(k:Nat)(A:Around):Prop where
 hd:A.handled=none
 dp:A.depth+3 * k+5 < recursionLimit
 un:A.units+16 * k+200 < cLine
 gd:A.guards=some []
theorem Room.mono{j k:Nat}{A:Around}(r:Room k A)(h:j<=k):Room j A:=⟨r.hd,by have:=r.dp;omega,by have:=r.un;omega,r.gd⟩
theorem Room.deeper{k:Nat}{A:Around}(r:Room (k+1) A)(env:Env):Room k (A.deeper env) :=
 ⟨r.hd,by have:=r.dp;show A.depth+1+3 * k+5 < _;omega,by have:=r.un;show A.units+3+16 * k+200 < _;omega,r.gd⟩
theorem Room.depth{k:Nat}{A:Around}(r:Room k A):A.depth < recursionLimit:=by have:=r.dp;omega
theorem Room.units{k:Nat}{A:Around}(r:Room k A):A.units+64 < cLine:=by have:=r.un;omega
noncomputable def tNil:TA:=λ_ H Q=>Q [] H
noncomputable def tCons(ta:TE)(tr:TA):TA:=λσ H Q=>ta σ H λx H1=>tr σ H1 λxs H2=>Q (x :: xs) H2
section
variable {X:Cx}{e:Expr}{es:List Expr}{te:TE}{t:TA}{pos:Pos}
theorem pa_nil:PA X [] tNil:=λ_ _ _ _ H Q I h=>Calls.spliced_nil ⟨[],H,I,.nil,h⟩
theorem pa_cons(ha:PE X e te)(hr:PA X es t)(hs:starEach (e :: es) X.env=(false,eval e X.env) :: starEach es X.env:=by rfl):PA X (e :: es) (tCons te t):=by
 intro pos pins s σ H Q I h
 rw[hs]
 show wpAny _ _ (spliced ((false,eval e X.env) :: backTo pos (starEach es X.env))) _ _ s
 refine Calls.spliced_cons (thn (ha pins s σ H _ I h) λu s1 ⟨x,H1,I1,r1,q1⟩=>?_)
 exact thn (hr pos pins s1 σ H1 _ I1 q1) λus s2 ⟨xs,H2,I2,r2,q2⟩=>⟨x :: xs,H2,I2,.cons r1 r2,q2⟩
noncomputable def tTup(t:TA):TE:=λσ H Q=>t σ H λxs H1=>xs.length<=sizeLine/\∀p,H1 p=none->Q (.ref p) (upd H1 p (.tup xs))
noncomputable def tLst(t:TA):TE:=λσ H Q=>t σ H λxs H1=>xs.length<=sizeLine/\∀p,H1 p=none->Q (.ref p) (upd H1 p (.lst xs))
theorem pe_tup{x1}(h:PA X es t):PE X (.Tuple es x1 pos) (tTup t):=by
 intro pins s σ H Q I hq
 refine wpAny_Tuple_spliced (thn (h pos pins s σ H _ I hq) λus s1 ⟨xs,H1,I1,r,z,q⟩=>⟨by rw[<- r.length];exact z,?_⟩)
 have hf:H1 s1.heap.objs.size=none:=I1.hok.fresh (R0 _)
 refine ⟨.ref s1.heap.objs.size,upd H1 s1.heap.objs.size (.tup xs),I1.laid (t':=s1.toks) (λb u e=>g0 _ e) (R0 _) ?_,rfl,q _ hf⟩
 exact ⟨z,us,r,⟨_,K0 _ rfl,rfl,_,rfl,rfl⟩⟩
theorem pe_lst(h:PA X es t):PE X (.List es pos) (tLst t):=by
 intro pins s σ H Q I hq
 refine wpAny_List_spliced (thn (h pos pins s σ H _ I hq) λus s1 ⟨xs,H1,I1,r,z,q⟩=>⟨by rw[<- r.length];exact z,?_⟩)
 have hf:H1 s1.heap.objs.size=none:=I1.hok.fresh (R0 _)
 refine ⟨.ref s1.heap.objs.size,upd H1 s1.heap.objs.size (.lst xs),I1.laid (t':=s1.toks) (λb u e=>g0 _ e) (R0 _) ?_,rfl,q _ hf⟩
 exact ⟨z,us,0,r,K0 _ rfl⟩
end
noncomputable abbrev Sp:=List V->Hp->VK->XK->Prop
noncomputable abbrev CXT:=List Env->Hp->Shared->XK->Value->Shared->Prop
structure Env0(P:Program)(w:World)(K:u0)(mg:Str->Option Value)(base:Heap)(A:Around)(outer:List Env)(s:Shared)(H:Hp):Prop where
 frames:A.frames=some outer
 mod:Mod K mg base
 bs:∀b o,base.get? b=some o->s.heap.get? b=some o/\H b=none
 bsz:base.objs.size<=s.heap.objs.size
 funs:s.heap.FunFrames base outer
 frf:∀b∈frs outer,H b=none
 hok:HOk P w H s.heap
 bare:AllBare s.gens
noncomputable def CE(outer:List Env)(P:Program)(w:World)(H:Hp)(s:Shared)(Q:VK)(u:Value)(s':Shared):Prop :=
 ∃v H',s'.os=s.os/\AllBare s'.gens/\Un (frs outer) [] H H' s.heap s'.heap/\HOk P w H' s'.heap/\RelV v u/\Q v H'
noncomputable def CR(CX:CXT)(outer:List Env)(P:Program)(w:World)(H:Hp)(s:Shared)(Q:VK)(E:XK)(r:Result)(s':Shared):Prop :=
 match r with
 | .ok (.ret u)=>CE outer P w H s Q u s'
 | .ok _=>False
 | .error e=>CX outer H s E e s'
structure FnOk(P:Program)(w:World)(K:u0)(mg:Str->Option Value)(base:Heap)(CX:CXT)(k:Nat)(f:Addr)(fd:FuncData)(ps:List Str)(sp:Sp):Prop where
 len:∀vs H Q E,sp vs H Q E->vs.length=ps.length
 run:∀(A:Around) (outer:List Env) (s:Shared) (H:Hp) (args:Args) (us:List Value) (vs:List V) (Q:VK) (E:XK),Room k A->Env0 P w K mg base A outer s H->BindsTo s fd args (ps.zip us)->Vals vs us->sp vs H Q E ->
  codeAny (model P w) A (.call (.ref f) args) (CR CX outer P w H s Q E) s
section
variable {X:Cx}{pins:List (Addr×Obj)}{σ:St}{H:Hp}{s s':Shared}
theorem Inv.env0(I:Inv X pins σ H s):Env0 X.prog X.w X.K X.mg X.base X.A X.stack s H :=
 ⟨I.ok.frames,I.ok.mod,I.bs,X0 I.ok.bsz I.sz,I.stack,I.stkFree,I.hok,I.bare⟩
theorem Inv.after{Q:VK}{u:Value}(I:Inv X pins σ H s)(h:CE X.stack X.prog X.w H s Q u s'):EP X pins σ Q u s':=by
 obtain⟨v,H',os,bare,un,hok,r,q⟩:=h
 obtain⟨hh,g,d,t,os'⟩:=s'
 obtain rfl:os'=s.os:=os
 exact ⟨v,H',I.call (h':=hh) (g':=g) (d':=d) (t':=t) (ch:=[]) un hok bare (λb z=>absurd z (by simp)),r,q⟩
end
noncomputable def tCall(sp:Sp)(dvs:List V)(E:XK)(t:TA):TE:=λσ H Q=>t σ H λvs H1=>sp (vs++dvs) H1 Q E
noncomputable def Binds(K:u0)(fd:FuncData)(ps:List Str)(ds:List Value):Prop :=
 ∀(s:Shared) (us:List Value),K.In s.heap->(us++ds).length=ps.length->BindsTo s fd ⟨us,[]⟩ (ps.zip (us++ds))
theorem Binds.all{K:u0}{fd:FuncData}{ps:List Str}(h:∀us:List Value,us.length=ps.length->bindArgs fd ⟨us,[]⟩=pure (ps.zip us)):Binds K fd ps []:=λs us _ hl=>by
 rw[K1]at hl ⊢
 exact .of_eq (h us hl)
noncomputable def Passes(CX:CXT)(X:Cx)(E:XK):Prop:=∀(pins:List (Addr×Obj)) (σ:St) (H:Hp) (s:Shared) (e:Value) (s':Shared),Inv X pins σ H s->CX X.stack H s E e s'->X.xe e s'
section
variable {X:Cx}{CX:CXT}{k:Nat}{f C:Addr}{fd:FuncData}{ps:List Str}{sp:Sp}{dvs:List V}{ds:List Value}{E:XK}{x m:Str}{p pos apos:Pos}{e o:Expr}{es:List Expr}{ta:TE}{t:TA}
theorem run_fn{pins:List (Addr×Obj)}{σ:St}{H:Hp}{s:Shared}{Q:VK}{us:List Value}{vs:List V}(F:FnOk X.prog X.w X.K X.mg X.base CX k f fd ps sp)(hr:Room k X.A)(hb:Binds X.K fd ps ds)(hd:Vals dvs ds)(hx:Passes CX X E)
  (I:Inv X pins σ H s) (r:Vals vs us) (h:sp (vs++dvs) H Q E):wpAny (model X.prog X.w) X.A (call (.ref f) us) (EP X pins σ Q) X.xe s:=by
 have r2:Vals (vs++dvs) (us++ds):=r.append hd
 have hl:(us++ds).length=ps.length:=by rw[<- r2.length];exact F.len _ _ _ _ h
 refine wpAny_call (codeAny_mono (F.run X.A X.stack s H ⟨us,[]⟩ (us++ds) (vs++dvs) Q E hr I.env0 (hb s us I.kIn hl) r2 h) λr s' hq=>?_)
 cases r with
 | error e=>exact hx pins σ H s e s' I hq
 | ok fl =>
  cases fl with
  | ret u=>exact I.after hq
  | next=>exact False.elim hq
  | brk=>exact False.elim hq
  | cont=>exact False.elim hq
theorem pe_call(F:FnOk X.prog X.w X.K X.mg X.base CX k f fd ps sp)(hr:Room k X.A)(hg:Gl X x)(hm:X.mg x=some (.ref f))(hk:W4 X.K (.ref f)=true)(hb:Binds X.K fd ps ds)(hd:Vals dvs ds)(hx:Passes CX X E)
  (ha:PA X (e :: es) t) (hdb:(x==("__debug__":Str))=false:=by decide) (he:starEach (e :: es) X.env=(false,eval e X.env) :: starEach es X.env:=by rfl) (hpl:(backTo pos (starEach es X.env)).any (·.1)=false:=by rfl) :
  PE X (.Call (.Name x p) (e :: es) [] pos) (tCall sp dvs E t):=by
 intro pins s σ H Q I h
 refine wpAny_Call_Name_kw (ld_glob I hg hm ?_ hdb)
 refine PySem.W.callWith_K (h₀:=X.base) I.ok.mod.kin hk (thn (ha pos pins s σ H _ I h) λus s1 ⟨vs,H1,I1,r,q⟩=>⟨I1.kIn,?_⟩) he hpl
 exact run_fn F hr hb hd hx I1 r q
structure Mk(K:u0)(C f:Addr):Prop where
 makes:PySem.W.makesIn K C=true
 init:T6 K (.ref C) "__init__"=some (some (.ref f))
 fn:PySem.W.isFn K (.ref f)=true
 kp:W4 K (.ref C)=true
end
section
variable {X:Cx}{CX:CXT}{k:Nat}{f C:Addr}{fd:FuncData}{ps ks:List Str}{sp:Sp}{E:XK}{x m:Str}{p pos apos kpos:Pos}{e o:Expr}{es:List Expr}{kws:List Keyword}{te ta:TE}{t tk:TA}{nm:Option Str}
structure KBinds(K:u0)(fd:FuncData)(ps ks:List Str)(g:List Value->List Value->List Value)(gV:List V->List V->List V):Prop where
 to:∀(s:Shared) (us ws:List Value),K.In s.heap->(g us ws).length=ps.length->BindsTo s fd ⟨us,ks.zip ws⟩ (ps.zip (g us ws))
 rel:∀{vs:List V}{us:List Value}{zs:List V}{ws:List Value},Vals vs us->Vals zs ws->Vals (gV vs zs) (g us ws)
variable {g:List Value->List Value->List Value}{gV:List V->List V->List V}
end
structure FnScope(N P:List Str)(sc:Scope):Prop where
 kind:sc.kind=.function
 co:sc.isCoroutine=false
 gen:sc.isGenerator=false
 nd:N.Nodup
 pre:N.take P.length=P
 par:∀x∈P,sc.names.lookup x=some .local\/sc.names.lookup x=some .cell
 nofree:∀y∈sc.names,y.2≠.free
theorem bindL_out{kindOf:Str->Option NameKind}{x:Str}:∀{binds:List (Str×Value)}{m:Str->Option Value},(∀v,(x,v)∉binds)->bindL kindOf binds m x=m x
 | [],_,_=>rfl
 | (n,v) :: r,m,h=>by
  unfold bindL
  rw[bindL_out λw hw=>h w (A0 _ hw)]
  split
  ·have:x≠n:=by rintro rfl;exact h v B0
   simp[this]
  ·rfl
theorem bindC_out{kindOf:Str->Option NameKind}{x:Str}:∀{binds:List (Str×Value)}{m:Str->Option Value},(∀v,(x,v)∉binds)->bindC kindOf binds m x=m x
 | [],_,_=>rfl
 | (n,v) :: r,m,h=>by
  unfold bindC
  rw[bindC_out λw hw=>h w (A0 _ hw)]
  split
  ·rfl
  ·have:x≠n:=by rintro rfl;exact h v B0
   simp[this]
theorem bindL_get{kindOf:Str->Option NameKind}{x:Str}{v:Value}:∀{P:List Str}{vs:List Value}{i:Nat}{m:Str->Option Value},P.Nodup->P[i]?=some x->vs[i]?=some v->kindOf x=some .local ->
  bindL kindOf (P.zip vs) m x=some v
 | [],_,_,_,_,h,_,_=>by simp at h
 | _ :: _,[],_,_,_,_,h,_=>by simp at h
 | p :: P,w :: vs,0,m,nd,h1,h2,hk=>by
  simp at h1 h2;subst h1;subst h2
  show bindL kindOf ((p,w) :: P.zip vs) m p=_
  unfold bindL
  rw[bindL_out λv hv=>(O4.mp nd).1 (y7 hv).1,if_pos hk]
  simp
 | p :: P,w :: vs,i+1,m,nd,h1,h2,hk=>by
  show bindL kindOf ((p,w) :: P.zip vs) m x=_
  unfold bindL
  exact bindL_get (i:=i) (O4.mp nd).2 (by simpa using h1) (by simpa using h2) hk
theorem bindC_get{kindOf:Str->Option NameKind}{x:Str}{v:Value}:∀{P:List Str}{vs:List Value}{i:Nat}{m:Str->Option Value},P.Nodup->P[i]?=some x->vs[i]?=some v->kindOf x≠some .local ->
  bindC kindOf (P.zip vs) m x=some v
 | [],_,_,_,_,h,_,_=>by simp at h
 | _ :: _,[],_,_,_,_,h,_=>by simp at h
 | p :: P,w :: vs,0,m,nd,h1,h2,hk=>by
  simp at h1 h2;subst h1;subst h2
  show bindC kindOf ((p,w) :: P.zip vs) m p=_
  unfold bindC
  rw[bindC_out λv hv=>(O4.mp nd).1 (y7 hv).1,if_neg hk]
  simp
 | p :: P,w :: vs,i+1,m,nd,h1,h2,hk=>by
  show bindC kindOf ((p,w) :: P.zip vs) m x=_
  unfold bindC
  exact bindC_get (i:=i) (O4.mp nd).2 (by simpa using h1) (by simpa using h2) hk
noncomputable def start(N:List Str)(vs:List V):St:=vs.map some++U1 (N.length - vs.length) none
noncomputable def cxOf(CX:CXT)(P:Program)(w:World)(K:u0)(mg:Str->Option Value)(base:Heap)(N:List Str)(qual:Str)(scope:Scope)(f:Addr)(cd:Value)(A:Around)(outer:List Env)(s:Shared)(H:Hp)(E:XK):Cx where
 prog:=P
 w:=w
 K:=K
 mg:=mg
 base:=base
 A:=A.deeper (envOfC qual scope s.heap.objs.size f cd)
 N:=N
 s₀:=s
 H₀:=H
 env:=envOfC qual scope s.heap.objs.size f cd
 outer:=outer
 stack:=envOfC qual scope s.heap.objs.size f cd :: outer
 ex:=[]
 calm:=true
 fn:=λ_=>true
 pn:=[]
 xe:=λe s'=>wpAny (model P w) (A.deeper (envOfC qual scope s.heap.objs.size f cd)) (leaving (envOfC qual scope s.heap.objs.size f cd) e) (λ_ s''=>CX outer H s E e s'') (λe' s''=>CX outer H s E e' s'') s'
theorem cell_has{sc:Scope}{n:Nat}{x:Str}(h:sc.names.lookup x=some .cell):∃c,(cellsFrom n sc.names []).lookup x=some c:=by
 have q:=v8 sc.names n [] (.inl h)
 exact Option.isSome_iff_exists.mp q
theorem inv_start{CX:CXT}{P:Program}{w:World}{K:u0}{mg:Str->Option Value}{base:Heap}{N ps:List Str}{qual:Str}{scope:Scope}{f:Addr}{cd:Value}{A:Around}{outer:List Env}{s s1:Shared}{H:Hp}{E:XK}{us:List Value}{vs:List V}
  (S:FnScope N ps scope) (hd:A.handled=none) (e0:Env0 P w K mg base A outer s H) (hl:vs.length=ps.length) (r:Vals vs us)
  (x:InCallC s s.heap.objs.size (bindL (envOfC qual scope s.heap.objs.size f cd).kindOf (ps.zip us) λ_=>none) (cellsFrom (s.heap.objs.size+1) scope.names []) (bindC (envOfC qual scope s.heap.objs.size f cd).kindOf (ps.zip us) λ_=>none) s1) :
  Inv (cxOf CX P w K mg base N qual scope f cd A outer s H E) [] (start N vs) H s1:=by
 have hpl:ps.length<=N.length:=by have:=congrArg Y3 S.pre;rw[T4]at this;omega
 obtain⟨h1,tk,rfl,hk⟩:=x.done
 have noA:∀b:Addr,b∉(cxOf CX P w K mg base N qual scope f cd A outer s H E).ex:=λb z=>absurd (show b∈([]:List Addr) from z) (by simp)
 refine ⟨⟨e0.mod,S.kind,rfl,rfl,R0 _,λy z c h1 h2=>?_,λy hy=>?_,λy c _ h=>?_,λ_=>hd,Around.frames_deeper e0.frames,.inr ⟨rfl,rfl⟩,λb z=>absurd z (noA b),e0.bs,e0.bsz,λb _ _=>noA b,λb z=>absurd z (noA b),e0.funs,e0.frf⟩,
   rfl,e0.bare,Un.kept hk,⟨_,x.toInCall.ns,λi y v h1 h2 h3=>?_⟩,λy c h=>⟨_,x.cell y c h⟩,e0.hok.fresh (R0 _),λy c h=>?_,λp hp=>absurd (show p∈([]:List (Addr×Obj)) from hp) (by simp),e0.hok.kept hk,?_⟩
 ·exact name_of_addr x.apart (PySem.mem_of_lookup h1) (PySem.mem_of_lookup h2)
 ·have hy:scope.names.lookup y=some .cell\/scope.names.lookup y=some .free:=hy
  rcases hy with hy|hy
  ·exact cell_has hy
  ·exact absurd rfl (S.nofree _ (PySem.mem_of_lookup hy))
 ·exact K5 (x.above y c (PySem.mem_of_lookup h))
 ·have hi:i < vs.length:=by
   unfold start at h2
   by_cases hi:i < vs.length
   ·exact hi
   ·rw[S1 (by simpa using hi)]at h2
    rw[j8]at h2
    split at h2<;>cases h2
  have ha:vs[i]?=some v:=by
   unfold start at h2
   rw[P2 (by simpa using hi),J1]at h2
   cases e:vs[i]? with
   | none=>rw[e]at h2;cases h2
   | some a=>rw[e]at h2;cases h2;rfl
  obtain⟨u,hu,rv⟩:=r.get ha
  have hp:ps[i]?=some y:=by
   rw[<- S.pre,Z7 (by omega)];exact h1
  have ndP:ps.Nodup:=by rw[<- S.pre];exact S.nd.sublist (T7 _ _)
  refine ⟨u,rv,?_⟩
  rcases S.par y (S2 hp) with k|k
  ·exact .inl ⟨k,bindL_get ndP hp hu k⟩
  ·obtain⟨c,e⟩:=cell_has (n:=s.heap.objs.size+1) k
   refine .inr ⟨.inl k,c,e,?_⟩
   have q:=x.cell y c e
   rw[bindC_get ndP hp hu (by show scope.names.lookup y≠_;rw[k];decide)]at q
   exact q
 ·exact e0.hok.fresh (K5 (x.above y c (PySem.mem_of_lookup h)))
 ·unfold start
  show _=N.length
  rw[M0,i0,List.length_replicate]
  omega
theorem fn_of{CX:CXT}{P:Program}{w:World}{K:u0}{mg:Str->Option Value}{base:Heap}{k:Nat}{f:Addr}{name qual:Str}{params:Arguments}{body:List Stmt}{scope:Scope}{dV kV doc pm cdv ct oc:Value}{an od:Option Addr}
  {osl:Array (Option Value)}{N ps:List Str}{sp:Sp} (lk:K.lookup f=some ⟨oc,od,.func (L5 name qual params body scope dV kV doc pm an cdv ct),osl⟩) (hcd:N7 K cdv qual=true) (S:FnScope N ps scope)
  (len:∀vs H Q E,sp vs H Q E->vs.length=ps.length)
  (hbody:∀(A:Around) (outer:List Env) (s:Shared) (H:Hp) (vs:List V) (Q:VK) (E:XK),Room k (A.deeper (envOfC qual scope s.heap.objs.size f cdv))->sp vs H Q E ->
    ∃t,PSs (cxOf CX P w K mg base N qual scope f cdv A outer s H E) body t/\t { nx:=λ_ H'=>Q .non H',rt:=Q } (start N vs) H) :
  FnOk P w K mg base CX (k+1) f (L5 name qual params body scope dV kV doc pm an cdv ct) ps sp:=by
 refine ⟨len,λA outer s H args us vs Q E hr e0 hb r hsp=>?_⟩
 have hl:=len _ _ _ _ hsp
 have KX:K.In s.heap:=e0.mod.kin.keeps λb o e=>(e0.bs b o e).1
 have lim:s.heap.NoLimit:=e0.mod.nolimit.keeps λb o e=>(e0.bs b o e).1
 have hkind:∀y∈ps.zip us,scope.names.lookup y.1=some .local\/(scope.names.lookup y.1=some .cell/\((cellsFrom (s.heap.objs.size+1) scope.names []).lookup y.1).isSome=true):=λ⟨n,v⟩ hy=>by
  rcases S.par n (y7 hy).1 with q|q
  ·exact .inl q
  ·exact .inr ⟨q,v8 _ _ _ (.inl q)⟩
 refine codeAny_call_function hr.depth (KX _ _ lk) rfl S.co S.gen rfl (PySem.W.codeRec_of KX hcd) (hb _ _ _ _ ?_)
 refine wpAny_newFunctionEnv_cells S.kind hkind λenv he s1 x=>?_
 subst he
 refine ⟨lim.keeps x.toInCall.keep,codeAny_func ?_⟩
 obtain⟨t,ht,hq⟩:=hbody A outer s H vs Q E (hr.deeper _) hsp
 have I:Inv (cxOf CX P w K mg base N qual scope f cdv A outer s H E) [] (start N vs) H s1:=inv_start S hr.hd e0 hl r x
 refine wpAny_mono (ht [] s1 (start N vs) H _ I hq) (λfl s' hs=>?_) λe s' hs=>hs
 have fin:∀{σ':St}{H':Hp}{v:V}{u:Value},Inv (cxOf CX P w K mg base N qual scope f cdv A outer s H E) [] σ' H' s'->RelV v u->Q v H'->CE outer P w H s Q u s' :=
  λ{σ' H' v u} J rv q=>⟨v,H',J.os,J.bare,J.base,J.hok,rv,q⟩
 cases fl with
 | ret u =>
  obtain⟨v,σ',H',J,rv,q⟩:=hs
  exact fin J rv q
 | next =>
  obtain⟨σ',H',J,q⟩:=hs
  exact fin (v:=V.non) (u:=L4) J rfl q
 | brk =>
  obtain⟨_,_,_,q⟩:=hs
  exact False.elim q
 | cont =>
  obtain⟨_,_,_,q⟩:=hs
  exact False.elim q
section
variable {X:Cx}{x:Str}{p pos:Pos}{e:Expr}{es:List Expr}{t:TA}{id T:String}{r:List V->Hp->VK->Prop}
noncomputable def tCB(r:List V->Hp->VK->Prop)(t:TA):TE:=λσ H Q=>t σ H λvs H1=>r vs H1 Q
theorem pe_callB(hc:CallR X (.builtin id) r)(hg:Gl X x)(hm:X.mg x=none)(hv:bootBuiltins x=some (.builtin id))(ha:PA X (e :: es) t)(hn:x ≠ "__name__":=by decide)(hdb:(x==("__debug__":Str))=false:=by decide)
  (he:starEach (e :: es) X.env=(false,eval e X.env) :: starEach es X.env:=by rfl) (hpl:(backTo pos (starEach es X.env)).any (·.1)=false:=by rfl):PE X (.Call (.Name x p) (e :: es) [] pos) (tCB r t):=by
 intro pins s σ H Q I h
 refine wpAny_Call_Name_kw (ld_blt I hg hm hv ?_ hn hdb)
 exact PyProof.Rows.callWith_builtin1 (thn (ha pos pins s σ H _ I h) λus s1 ⟨vs,H1,I1,r1,q1⟩=>hc pins s1 σ H1 vs us Q I1 r1 q1) he hpl
theorem pe_callTy(hc:CallR X (.type T) r)(hg:Gl X x)(hm:X.mg x=none)(hv:bootBuiltins x=some (.type T))(ha:PA X (e :: es) t)(hn:x ≠ "__name__":=by decide)(hdb:(x==("__debug__":Str))=false:=by decide)
  (he:starEach (e :: es) X.env=(false,eval e X.env) :: starEach es X.env:=by rfl) (hpl:(backTo pos (starEach es X.env)).any (·.1)=false:=by rfl):PE X (.Call (.Name x p) (e :: es) [] pos) (tCB r t):=by
 intro pins s σ H Q I h
 refine wpAny_Call_Name_kw (ld_blt I hg hm hv ?_ hn hdb)
 exact K3 (thn (ha pos pins s σ H _ I h) λus s1 ⟨vs,H1,I1,r1,q1⟩=>hc pins s1 σ H1 vs us Q I1 r1 q1) he hpl
end
end L2
namespace HT
open PySem PyProof.Rows
noncomputable def lexLt:List Int->List Int->Bool
 | [],[]=>false
 | [],_ :: _=>true
 | _ :: _,[]=>false
 | x :: xs,y :: ys=>if x=y then lexLt xs ys else decide (x < y)
theorem lexLt_cons(x y:Int)(xs ys:List Int):lexLt (x :: xs) (y :: ys)=if x=y then lexLt xs ys else decide (x < y):=rfl
theorem lexLt_nil_nil:lexLt [] []=false:=rfl
theorem lexLt_nil_cons(y:Int)(ys:List Int):lexLt [] (y :: ys)=true:=rfl
theorem lexLt_cons_nil(x:Int)(xs:List Int):lexLt (x :: xs) []=false:=rfl
theorem eqAt_int(A:Around)(s:Shared)(a:Int)(t:Tok)(c:Int)(u:Tok):∃e,SeqAt.EqAt A s (.int a t) (.int c u) e/\(e=true ↔ a=c) :=
 ⟨(a==c),SeqAt.EqAt.int_int a t c u,by simp⟩
theorem rcLt_int(A:Around)(s:Shared)(a:Int)(t:Tok)(c:Int)(u:Tok)(prog:Program)(w:World)(E:Value->Shared->Prop)(Q:Value->Shared->Prop)(h:Q (.bool (decide (a < c))) s) :
  wpAny (model prog w) A (richCompare .Lt (.int a t) (.int c u)) Q E s :=
 (PyProof.Rows.lt_int h:wpAny (model prog w) A (compareOp .Lt (.int a t) (.int c u)) Q E s)
section
open PySem.SeqAt
open PySem.AutoSeq1 (wpAny_loadPart')
open PySem.MeetsSeq PySem.MeetsSeq2 PySem.MeetsSeq3
theorem tuple_lt_ints(l b:Addr)(items items2:Array Value)(n n2:Nat)(dd dd2:Option Addr)(sl sl2:Array (Option Value))(ns ms:List Int)(hi:IntsAre items.toList ns)(hj:IntsAre items2.toList ms) :
  Meets (Builtin.«tuple.__lt__» ⟨[.ref l,.ref b],[]⟩)
   (λ_ R s=>s.heap.get? l=some { cls:=.type "tuple",dict:=dd,data:=.seq items n,slots:=sl }/\s.heap.get? b=some { cls:=.type "tuple",dict:=dd2,data:=.seq items2 n2,slots:=sl2 } /\
     R (.ok (.ret (.bool (lexLt ns ms)))) s) :=
 .of_wp λprog w A R s h=>by
  obtain⟨hp,g,d,tk,os⟩:=s;obtain⟨hl,hb,h⟩:=h
  have f2:=AutoSeq1.sub_tuple_tuple
  have z1:items.size=ns.length:=by rw[<- hi.length];simp
  have z2:items2.size=ms.length:=by rw[<- hj.length];simp
  wp_walk using wpAny_loadPart' hl,wpAny_loadPart' hb,wpAny_forIn_list _ (λrest b s'=>b.1=none/\s'=⟨hp,g,d,tk,os⟩/\∃(vs ws:List Value) (ns' ms':List Int),rest=vs.zip ws /\
    IntsAre vs ns'/\IntsAre ws ms'/\ns'.length+items2.size=ms'.length+items.size/\R (.ok (.ret (.bool (lexLt ns' ms')))) ⟨hp,g,d,tk,os⟩) _
  case turn =>
   rintro⟨y,x⟩ rest b s' ⟨hb',rfl,vs,ws,ns',ms',hz,hvi,hwi,hlen,hR⟩
   cases hvi with
   | nil=>rw[List.zip_nil_left]at hz;cases hz
   | cons a t hvi' =>
    cases hwi with
    | nil=>rw[List.zip_nil_right]at hz;cases hz
    | cons c u hwi' =>
     rw[Y4]at hz
     injection hz with hyx hrest
     injection hyx with hy hx
     subst hy hx
     rw[lexLt_cons]at hR
     simp only[V1]at hlen
     obtain⟨e,he,hiff⟩:=eqAt_int A.in1 ⟨hp,g,d,tk,os⟩ a t c u
     refine wpAny_bind (he prog w _ _ ?_)
     cases e with
     | true =>
      rw[if_pos (hiff.mp rfl)]at hR
      wp_walk
      exact ⟨rfl,rfl,_,_,_,_,hrest,hvi',hwi',by omega,hR⟩
     | false =>
      rw[if_neg (λq=>absurd (hiff.mpr q) A1)]at hR
      have hri:=rcLt_int A.in1 ⟨hp,g,d,tk,os⟩ a t c u prog w
      wp_walk using hri
      exact ⟨_,rfl,by simpa using hR⟩
  case fin =>
   rintro⟨b1,b2⟩ s' ⟨hb',rfl,vs,ws,ns',ms',hz,hvi,hwi,hlen,hR⟩
   simp only at hb'
   subst hb'
   have hv:lexLt ns' ms'=decide (items.size < items2.size):=by
    cases hvi with
    | nil =>
     cases hwi with
     | nil =>
      simp only[B5]at hlen
      rw[lexLt_nil_nil]
      exact (decide_eq_false (by omega)).symm
     | cons c u hw =>
      simp only[B5,V1]at hlen
      rw[lexLt_nil_cons]
      exact (decide_eq_true (by omega)).symm
    | cons a t hv =>
     cases hwi with
     | nil =>
      simp only[B5,V1]at hlen
      rw[lexLt_cons_nil]
      exact (decide_eq_false (by omega)).symm
     | cons c u hw =>
      rw[Y4]at hz
      cases hz
   rw[hv]at hR
   wp_walk
   exact ⟨_,rfl,by simpa [e7]using hR⟩
  case h =>
   exact ⟨rfl,rfl,items.toList,items2.toList,ns,ms,rfl,hi,hj,by omega,h⟩
end
section
variable {prog:Program}{w:World}{A:Around}{E:Value->Shared->Prop}{s:Shared}
theorem lt_tupInts{l b:Addr}{items items2:Array Value}{ns ms:List Int}{Q:Value->Shared->Prop}(hl:IsTup s.heap l items)(hb:IsTup s.heap b items2)(hi:IntsAre items.toList ns)(hj:IntsAre items2.toList ms)
  (hu:A.units < cLine) (h:Q (.bool (lexLt ns ms)) s):wpAny (model prog w) A (compareOp .Lt (.ref l) (.ref b)) Q E s:=by
 obtain⟨⟨cls,dd,data,sl⟩,ho,hc,n,hd⟩:=id hl
 obtain⟨⟨cls2,dd2,data2,sl2⟩,ho2,hc2,n2,hd2⟩:=id hb
 simp only at hc hd hc2 hd2
 subst hc hd hc2 hd2
 exact richCompare_meets_room (op:=.Lt) ⟨_,ho,rfl⟩ ⟨_,ho2,rfl⟩ PySem.F.slot_tuple_lt PySem.F.entry_tuple_lt (PySem.F.args_tuple_lt_2 _ _) (tuple_lt_ints l b items items2 n n2 dd dd2 sl sl2 ns ms hi hj)
  ⟨ho,ho2,show V8 (lexLt ns ms)≠P8/\Q (.bool (lexLt ns ms)) s from ⟨(λx=>nomatch x),h⟩⟩ hu
theorem cat_tup{t b:Addr}{vs ws:List Value}{Q:Value->Shared->Prop}(ht:IsTup s.heap t vs.toArray)(hb:IsTup s.heap b ws.toArray)(hv:vs≠[])
  (h1:ws=[]->Q (.ref t) s) (h2:ws≠[]->Q (.ref s.heap.objs.size) { s with heap:=s.heap.push { cls:=.type "tuple",data:=.seq (vs++ws).toArray } })
  (hsz:vs.length+ws.length<=sizeLine):wpAny (model prog w) A (binaryOp .Add (.ref t) (.ref b)) Q E s:=by
 obtain⟨⟨cls,dd,data,sl⟩,ho,hc,n,hd⟩:=id ht
 obtain⟨⟨cls2,dd2,data2,sl2⟩,ho2,hc2,n2,hd2⟩:=id hb
 simp only at hc hd hc2 hd2
 subst hc hd hc2 hd2
 have e:vs.toArray++ws.toArray=(vs++ws).toArray:=by simp
 by_cases hw:ws=[]
 ·exact concat_meets ⟨_,ho,rfl⟩ ⟨_,ho2,rfl⟩ noFill_tuple_add seq_tuple_add PySem.F.slot_tuple_add PySem.F.entry_tuple_add (PySem.F.args_tuple_add_2 _ _)
   (tuple_addW1 t b vs.toArray ws.toArray n n2 dd dd2 sl sl2 (by simpa using hv) (by simp[hw])) ⟨ho,ho2,h1 hw⟩
 ·refine concat_meets ⟨_,ho,rfl⟩ ⟨_,ho2,rfl⟩ noFill_tuple_add seq_tuple_add PySem.F.slot_tuple_add PySem.F.entry_tuple_add (PySem.F.args_tuple_add_2 _ _)
   (tuple_addW2 t b vs.toArray ws.toArray n n2 dd dd2 sl sl2 (by simpa using hv) (by simpa using hw) (by rw[T0,T0];exact hsz)) ⟨ho,ho2,?_⟩
  rw[e]
  exact h2 hw
end
end HT
namespace L2
open PySem PySem.Spec PyProof.Rows
noncomputable abbrev TO:=St->Hp->(Option Int->Hp->Prop)->Prop
theorem intsAre_of{ns:List Int}:∀{us:List Value},Vals (ns.map V.int) us->IntsAre us ns:=by
 induction ns with
 | nil=>intro us r;rw[o8]at r;cases r;exact .nil
 | cons n ns ih =>
  intro us r
  rw[Z2]at r
  cases r with
  | cons r1 r2 =>
   obtain⟨t,e⟩:=r1
   subst e
   exact .cons n t (ih r2)
section
variable {X:Cx}{e:Expr}{te:TE}{lo hi:Option Expr}{tl th:TO}{pos p2:Pos}
noncomputable def rCatT(K:u0):R2:=λx y H Q=>∃a b xs ys,x=.ref a/\y=.ref b/\SqT K H a xs/\SqT K H b ys/\xs≠[]/\xs.length+ys.length<=sizeLine /\
 (ys=[]->Q (.ref a) H)/\(ys≠[]->∀p,H p=none->Q (.ref p) (upd H p (.tup (xs++ys))))
theorem Vals.nil_iff{xs:List V}{us:List Value}(r:Vals xs us):us=[] ↔ xs=[]:=by
 cases r with
 | nil=>simp
 | cons _ _=>simp
theorem op_catT:OpR X (binaryOp .Add) (rCatT X.K):=by
 intro pins s σ H x y v u Q I rx ry h
 obtain⟨a,b,xs,ys,rfl,rfl,ha,hb,hx,hz,q1,q2⟩:=h
 cases rx
 cases ry
 obtain⟨its,r1,p1,_⟩:=I.tuple ha
 obtain⟨its2,r2,p2,_⟩:=I.tuple hb
 refine HT.cat_tup p1 p2 (λz=>hx (r1.nil_iff.mp z)) (λz=>⟨.ref a,H,I,rfl,q1 (r2.nil_iff.mp z)⟩) (λz=>?_) (by rw[<- r1.length,<- r2.length];exact hz)
 refine ⟨.ref s.heap.objs.size,_,I.laid (t':=s.toks) (o:=.tup (xs++ys)) (λb ob q=>g0 _ q) (R0 _) ?_,rfl,q2 (λw=>z (r2.nil_iff.mpr w)) _ (I.hok.fresh (R0 _))⟩
 exact ⟨by rw[M0];exact hz,_,r1.append r2,IsTupD.new _ _⟩
end
noncomputable def ixN(n:Nat)(i:Int):Option Nat:=if 0<=i then (if i < n then some i.toNat else none) else if -(n:Int)<=i then some (i+n).toNat else none
noncomputable def atI{α:Type}(xs:List α)(i:Int):Option α:=(ixN xs.length i).bind λj=>xs[j]?
theorem ixN_seq{n:Nat}{i:Int}{j:Nat}(h:ixN n i=some j):seqIndex? i n=some j/\j < n/\-(n:Int)<=i/\i < n:=by
 unfold ixN at h
 by_cases h0:0<=i
 ·rw[if_pos h0]at h
  by_cases h1:i < n
  ·rw[if_pos h1]at h
   have e:i.toNat=j:=X1 h
   exact ⟨by rw[seqIndex_of h0 h1,e],by omega,by omega,h1⟩
  ·rw[if_neg h1]at h;cases h
 ·rw[if_neg h0]at h
  by_cases h1:-(n:Int)<=i
  ·rw[if_pos h1]at h
   have e:(i+n).toNat=j:=X1 h
   exact ⟨by rw[seqIndex_neg (by omega) h1,e],by omega,h1,by omega⟩
  ·rw[if_neg h1]at h;cases h
theorem atI_get{α:Type}{xs:List α}{i:Int}{v:α}(h:atI xs i=some v):∃j,seqIndex? i xs.length=some j/\xs[j]?=some v/\j < xs.length/\-(xs.length:Int)<=i/\i < xs.length:=by
 unfold atI at h
 cases e:ixN xs.length i with
 | none=>rw[e]at h;cases h
 | some j =>
  rw[e]at h
  obtain⟨h1,h2,h3,h4⟩:=ixN_seq e
  exact ⟨j,h1,h,h2,h3,h4⟩
theorem atI_nat{α:Type}{xs:List α}{j:Nat}{v:α}(h:xs[j]?=some v):atI xs (j:Int)=some v:=by
 have hj:j < xs.length:=(W0.mp h).1
 have e:ixN xs.length (j:Int)=some j:=by
  unfold ixN
  rw[if_pos (by omega),if_pos (by omega)];simp
 unfold atI;rw[e];exact h
noncomputable def PlainIx(b:Expr):Prop:=∀o i,subscripted b false o i=operate [o,i] (getItem o i)
noncomputable def IxR(X:Cx)(r:R2):Prop :=
 ∀(value slice:Expr) (pins:List (Addr×Obj)) (s:Shared) (σ:St) (H:Hp) (x y:V) (v u:Value) (Q:VK),Inv X pins σ H s->RelV x v->RelV y u->r x y H Q ->
  subscripted slice false v u=operate [v,u] (getItem v u)->wpAny (model X.prog X.w) X.A (subscriptTail value slice v u) (EP X pins σ Q) X.xe s
noncomputable def MtR(X:Cx)(id:String)(r:V->List V->Hp->VK->Prop):Prop :=
 ∀(pins:List (Addr×Obj)) (s:Shared) (σ:St) (H:Hp) (x:V) (xs:List V) (v:Value) (us:List Value) (Q:VK),Inv X pins σ H s->RelV x v->Vals xs us->r x xs H Q ->
  wpAny (model X.prog X.w) X.A (call (.builtin id) (v :: us)) (EP X pins σ Q) X.xe s
section
variable {X:Cx}{a b:Expr}{ta tb:TE}{pos:Pos}
theorem IxR.or{r r':R2}(h:IxR X r)(h':IxR X r'):IxR X (λx y H Q=>r x y H Q\/r' x y H Q):=by
 intro value slice pins s σ H x y v u Q I rx ry q hs
 rcases q with q|q
 ·exact h value slice pins s σ H x y v u Q I rx ry q hs
 ·exact h' value slice pins s σ H x y v u Q I rx ry q hs
theorem pe_ix{r:R2}(hr:IxR X r)(ha:PE X a ta)(hb:PE X b tb)(hs:PlainIx b):PE X (.Subscript a b pos) (tOp r ta tb):=by
 intro pins s σ H Q I h
 exact Subscript_ (binT ha hb I h λv u s2 x y H2 I2 rx ry q=>hr a b pins s2 σ H2 x y v u Q I2 rx ry q (hs _ _))
noncomputable def rIxL(K:u0):R2:=λx y H Q=>∃p xs i v,x=.ref p/\y=.int i/\SqL K H p xs/\atI xs i=some v/\Q v H
noncomputable def rIxT(K:u0):R2:=λx y H Q=>∃p xs i v,x=.ref p/\y=.int i/\SqT K H p xs/\atI xs i=some v/\Q v H
theorem ix_list:IxR X (rIxL X.K):=by
 intro value slice pins s σ H x y v u Q I rx ry h hs
 obtain⟨p,xs,i,z,rfl,rfl,hq,he,q⟩:=h
 cases rx
 obtain⟨t,rfl⟩:=ry
 obtain⟨its,r,pl,hz⟩:=I.list hq
 obtain⟨j,h1,h2,h3,h4,h5⟩:=atI_get he
 obtain⟨w,ew,rw'⟩:=r.get h2
 have hl:=r.length
 have hn:=line63
 have fin:EP X pins σ Q w s:=⟨z,H,I,rw',q⟩
 by_cases h0:0<=i
 ·have hj:i.toNat=j:=by
   rw[seqIndex_of h0 h5]at h1
   exact X1 h1
  exact item_listR pl.isList h0 (by omega) (by rw[hj];simpa using ew) fin hs
 ·have hj:(i+(its.toArray.size:Int)).toNat=j:=by
   rw[seqIndex_neg (by omega) h4]at h1
   rw[T0,<- hl]
   exact X1 h1
  exact subscriptTail_builtinR (x:=w) pl.isList.typeIs slot_list_getitem.lookup
   (wpAny_getItem_list_neg (Q:=λr s'=>r=w/\EP X pins σ Q r s') pl.isList (by omega) (by rw[T0]<;>omega) (by omega) (by rw[hj];simpa using ew) ⟨rfl,fin⟩) hs
theorem ix_tup:IxR X (rIxT X.K):=by
 intro value slice pins s σ H x y v u Q I rx ry h hs
 obtain⟨p,xs,i,z,rfl,rfl,hq,he,q⟩:=h
 cases rx
 obtain⟨t,rfl⟩:=ry
 obtain⟨its,r,pl,hz⟩:=I.tuple hq
 obtain⟨j,h1,h2,h3,h4,h5⟩:=atI_get he
 obtain⟨w,ew,rw'⟩:=r.get h2
 have hl:=r.length
 have hn:=line63
 have fin:EP X pins σ Q w s:=⟨z,H,I,rw',q⟩
 exact subscriptTail_builtinR (x:=w) pl.typeIs slot_tuple_getitem.lookup
  (getItem_tuple (j:=j) (Q:=λr s'=>r=w/\EP X pins σ Q r s') pl (by omega) (by omega) (by rw[T0,<- hl];exact h1) (by simpa using ew) ⟨rfl,fin⟩) hs
theorem mapSeq_set(its:List Value)(n j:Nat)(u:Value):O2 (·.setIfInBounds j u) { cls:=.type "list",data:=.seq its.toArray n }={ cls:=.type "list",data:=.seq (its.set j u).toArray n }:=by
 simp[O2]
theorem Inv.lst{pins:List (Addr×Obj)}{σ:St}{H:Hp}{s:Shared}{p:Addr}{xs:List V}(I:Inv X pins σ H s)(h:H p=some (.lst xs)) :
  ∃(its:List Value) (n:Nat),Vals xs its/\s.heap.get? p=some { cls:=.type "list",data:=.seq its.toArray n }/\xs.length<=sizeLine:=by
 obtain⟨z,its,n,r,e⟩:=I.hok p _ h
 exact ⟨its,n,r,e,z⟩
theorem Inv.lstUpd{pins:List (Addr×Obj)}{σ:St}{H:Hp}{s:Shared}{p:Addr}{xs ys:List V}{its its':List Value}{n n':Nat}{f:Obj->Obj}(I:Inv X pins σ H s)(h:H p=some (.lst xs))
  (ho:s.heap.get? p=some { cls:=.type "list",data:=.seq its.toArray n }) (hf:f { cls:=.type "list",data:=.seq its.toArray n }={ cls:=.type "list",data:=.seq its'.toArray n' }) (r:Vals ys its') (hz:ys.length<=sizeLine) (t:Nat) :
  Inv X pins σ (upd H p (.lst ys)) { s with heap:=s.heap.update p f,toks:=t }:=by
 have e:(s.heap.update p f).get? p=some { cls:=.type "list",data:=.seq its'.toArray n' }:=by
  rw[E4 f ho (by rw[hf]<;>rfl),hf]
 refine I.write (x:=p) (e:=p) (by rw[h];trivial) (.inl rfl) (λb u hb q=>(X6 _ _ (V2 hb)).trans q) ⟨_,e⟩ ?_
 exact ⟨hz,its',n',r,e⟩
noncomputable def rSetL:V->V->V->Hp->(Hp->Prop)->Prop:=λo i v H Q=>∃p xs k j,o=.ref p/\i=.int k/\H p=some (.lst xs)/\ixN xs.length k=some j/\Q (upd H p (.lst (xs.set j v)))
theorem set_list:PSet X rSetL:=by
 intro pins s σ H o i v ov iv u Q I ro ri rv h
 obtain⟨p,xs,k,j,rfl,rfl,hp,hj,q⟩:=h
 cases ro
 obtain⟨t,rfl⟩:=ri
 obtain⟨its,n,r,ho,hz⟩:=I.lst hp
 obtain⟨h1,h2,h3,h4⟩:=ixN_seq hj
 have hl:=r.length
 have hn:=line63
 have I':Inv X pins σ (upd H p (.lst (xs.set j v))) { s with heap:=s.heap.update p (O2 (·.setIfInBounds j u)) } :=
  I.lstUpd hp ho (mapSeq_set its n j u) (r.set rv j) (by rw[P4];exact hz) s.toks
 by_cases h0:0<=k
 ·have hk:k.toNat=j:=by
   rw[seqIndex_of h0 h4]at h1
   exact X1 h1
  exact PySem.W.ki_setAt ho h0 (by omega) (by rw[T0,<- hl];exact h4) (by rw[hk];exact ⟨_,I',q⟩)
 ·have hk:(k+(its.toArray.size:Int)).toNat=j:=by
   rw[seqIndex_neg (by omega) h3]at h1
   rw[T0,<- hl]
   exact X1 h1
  exact PySem.W.ki_setBack ho (by omega) (by rw[T0,<- hl];exact h3) (by omega) (by rw[hk];exact ⟨_,I',q⟩)
theorem call_len_seq:CallR X (.builtin "len") (λxs H Q=>∃p ys,xs=[.ref p]/\(SqL X.K H p ys\/SqT X.K H p ys)/\Q (.int ys.length) H):=by
 intro pins s σ H xs us Q I r h
 obtain⟨p,ys,rfl,hq,q⟩:=h
 obtain⟨u,rfl,rx⟩:=vals1 r
 cases rx
 have hn:=line63
 rcases hq with hq|hq
 ·obtain⟨its,r',pl,hz⟩:=I.list hq
  have hlen:=r'.length
  exact Calls.call_len_list pl.isList (by simp only[T0]<;>omega) ⟨.int ys.length,H,I.tok _,⟨s.toks+1,by rw[T0,hlen]⟩,q⟩
 ·obtain⟨its,r',pl,hz⟩:=I.tuple hq
  have hlen:=r'.length
  exact len_tuple pl (by simp only[T0]<;>omega) ⟨.int ys.length,H,I.tok _,⟨s.toks+1,by rw[T0,hlen]⟩,q⟩
theorem call_tuple_of:CallR X (.type "tuple") (λxs H Q=>∃p ys,xs=[.ref p]/\((SqL X.K H p ys/\∀l,H l=none->Q (.ref l) (upd H l (.tup ys)))\/(SqT X.K H p ys/\Q (.ref p) H))):=by
 intro pins s σ H xs us Q I r h
 obtain⟨p,ys,rfl,h⟩:=h
 obtain⟨u,rfl,rx⟩:=vals1 r
 cases rx
 rcases h with⟨hq,q⟩|⟨hq,q⟩
 ·obtain⟨its,r',pl,hz⟩:=I.list hq
  have hlen:=r'.length
  refine call_tuple_list pl.isList (λh' kp=>?_) (by simp only[T0]<;>omega)
  have I1:Inv X pins σ H { s with heap:=h' }:=I.kept (t':=s.toks) kp
  have I2:Inv X pins σ (upd H h'.objs.size (.tup ys)) { s with heap:=h'.push { cls:=.type "tuple",data:=.seq its.toArray } } :=
   I1.laid (t':=s.toks) (λb o e=>g0 _ e) (R0 _) (show ObjOk X.prog X.w _ _ _ (.tup ys) from ⟨hz,its,r',IsTupD.new _ _⟩)
  exact ⟨.ref h'.objs.size,_,I2,rfl,q _ (I1.hok.fresh (R0 _))⟩
 ·obtain⟨its,r',pl,hz⟩:=I.tuple hq
  exact call_tuple_same pl ⟨.ref p,H,I,rfl,q⟩
noncomputable def tyV(K:u0)(T:String)(x:V)(H:Hp):Prop:=match x with
 | .str _=>T = "str"
 | .int _=>T = "int"
 | .ref p=>(T = "list"/\∃xs,SqL K H p xs)\/(T = "tuple"/\∃o,K.lookup p=some o/\o.cls=.type "tuple"/\o.dict=none) \/
   (T = "dict"/\((∃kvs,H p=some (.dK kvs))\/∃kvs,H p=some (.dT kvs)))\/(T = "set"/\∃S n,H p=some (.set S n))
 | _=>False
theorem tyV_is{pins:List (Addr×Obj)}{σ:St}{H:Hp}{s:Shared}{T:String}{x:V}{v:Value}(I:Inv X pins σ H s)(r:RelV x v)(ty:tyV X.K T x H) :
  s.TypeIs v T/\∀a,v=.ref a->∃ob,s.heap.get? a=some ob/\ob.dict=none:=by
 cases x with
 | str z =>
  obtain⟨t,rfl⟩:=r
  cases (show T = "str" from ty)
  exact ⟨typeIs_str s z t,λ_ e=>nomatch e⟩
 | int i =>
  obtain⟨t,rfl⟩:=r
  cases (show T = "int" from ty)
  exact ⟨typeIs_int s i t,λ_ e=>nomatch e⟩
 | ref p =>
  cases r
  rcases ty with⟨rfl,xs,hq⟩|⟨rfl,o,hk,hc,hd⟩|⟨rfl,hk⟩|⟨rfl,S,n,hk⟩
  ·obtain⟨its,_,pl,_⟩:=I.list hq
   refine ⟨pl.isList.typeIs,λa e=>?_⟩
   cases e
   obtain⟨o,n,e,c,hd,_⟩:=pl
   exact ⟨o,e,hd⟩
  ·refine ⟨⟨o,I.kIn p o hk,hc⟩,λa e=>?_⟩
   cases e
   exact ⟨o,I.kIn _ o hk,hd⟩
  ·have z:∃o,s.heap.get? p=some o/\o.ExactDict:=by
    rcases hk with⟨kvs,hk⟩|⟨kvs,hk⟩
    ·obtain⟨_,_,_,_,o,_,_,e,ex,_⟩:=I.hok p _ hk
     exact ⟨o,e,ex⟩
    ·obtain⟨_,_,_,_,o,_,_,e,ex,_⟩:=I.hok p _ hk
     exact ⟨o,e,ex⟩
   obtain⟨o,e,ex⟩:=z
   refine ⟨⟨o,e,ex.1⟩,λa e2=>?_⟩
   cases e2
   exact ⟨o,e,ex.2.1⟩
  ·obtain⟨o,_,_,_,e,ex,_⟩:=I.hok p _ hk
   refine ⟨⟨o,e,ex.1⟩,λa e2=>?_⟩
   cases e2
   exact ⟨o,e,ex.2.1⟩
 | _=>exact False.elim ty
noncomputable def tBM0(K:u0)(T:String)(r:V->List V->Hp->VK->Prop)(to:TE):TE:=λσ H Q=>to σ H λx H1=>tyV K T x H1/\r x [] H1 Q
noncomputable def tBM(K:u0)(T:String)(r:V->List V->Hp->VK->Prop)(to:TE)(t:TA):TE:=λσ H Q=>to σ H λx H1=>tyV K T x H1/\t σ H1 λxs H2=>r x xs H2 Q
variable {o e:Expr}{es:List Expr}{to:TE}{t:TA}{name:Str}{apos cpos:Pos}{T id:String}{r:V->List V->Hp->VK->Prop}
theorem pe_bm0(pa:PlainAttrs T)(slot:Slot T name id)(hty:typeOf (.builtin id)=pure (.type "method_descriptor"))(hm:MtR X id r)(ho:PE X o to)
  (hbase:attributeBase o name X.env (eval o X.env)=eval o X.env:=by rfl) (hline:(apos.endLine==cpos.line)=true:=by rfl):PE X (.Call (.Attribute o name apos) [] [] cpos) (tBM0 X.K T r to):=by
 intro pins s σ H Q I h
 refine wpAny_Call_method0_late hbase hline (thn (ho pins s σ H _ I h) λv s1 ⟨x,H1,I1,r1,ty,q1⟩=>?_)
 obtain⟨h1,h2⟩:=tyV_is I1 r1 ty
 exact ⟨T,id,pa,slot,hty,h1,h2,Calls.callWith_builtin rfl (PySem.evalArgs_none (hm pins s1 σ H1 x [] v [] Q I1 r1 .nil q1))⟩
theorem pe_bm(pa:PlainAttrs T)(slot:Slot T name id)(hty:typeOf (.builtin id)=pure (.type "method_descriptor"))(hm:MtR X id r)(ho:PE X o to)(ha:PA X (e :: es) t)
  (hbase:attributeBase o name X.env (eval o X.env)=eval o X.env:=by rfl)
  (hfew:((backTo cpos (starEach (e :: es) X.env)).all (λx=>!x.1)&&(backToKw cpos (keywordEach [] X.env)).all (λx=>x.1.isSome)
    && decide ((e :: es).length+([]:List Keyword).length+(if ([]:List Keyword).isEmpty then 0 else 1) < 30))=true:=by rfl)
  (hline:(apos.endLine==cpos.line)=true:=by rfl) (hs:starEach (e :: es) X.env=(false,eval e X.env) :: starEach es X.env:=by rfl) (hplain:(backTo cpos (starEach es X.env)).any (·.1)=false:=by rfl) :
  PE X (.Call (.Attribute o name apos) (e :: es) [] cpos) (tBM X.K T r to t):=by
 intro pins s σ H Q I h
 refine wpAny_Call_method_late hbase hfew hline rfl (thn (ho pins s σ H _ I h) λv s1 ⟨x,H1,I1,r1,ty,q1⟩=>?_)
 obtain⟨h1,h2⟩:=tyV_is I1 r1 ty
 refine ⟨T,id,pa,slot,hty,h1,h2,?_⟩
 have hA:=ha cpos pins s1 σ H1 _ I1 q1
 rw[hs]at hA ⊢
 refine Calls.callWith_builtin (by show (false||(backTo cpos (starEach es X.env)).any (·.1))=false;rw[hplain]<;>rfl) (Calls.evalArgs_plain ?_)
 exact thn hA λus s2 ⟨vs,H2,I2,r2,q2⟩=>hm pins s2 σ H2 x vs v us Q I2 r1 r2 q2
end
noncomputable def MtM(X:Cx)(id:String)(r:V->List V->Hp->VK->Prop):Prop :=
 ∀(pins:List (Addr×Obj)) (s:Shared) (σ:St) (H:Hp) (x:V) (xs:List V) (v:Value) (us:List Value) (Q:VK),Inv X pins σ H s->RelV x v->Vals xs us->r x xs H Q ->
  wpAny (model X.prog X.w) X.A (call (.builtin id) (v :: us)) (EP X pins σ Q) X.xe s
theorem Vals.one:∀{x:V}{us:List Value},Vals [x] us->∃u,us=[u]/\RelV x u
 | _,_,.cons r .nil=>⟨_,rfl,r⟩
theorem Vals.zero:∀{us:List Value},Vals [] us->us=[]
 | _,.nil=>rfl
theorem Vals.dropLast{xs:List V}{us:List Value}(h:Vals xs us):Vals xs.dropLast us.dropLast:=by
 induction h with
 | nil=>exact .nil
 | cons r t ih =>
  cases t with
  | nil=>exact .nil
  | cons q t'=>exact .cons r ih
theorem Vals.rep{xs:List V}{us:List Value}(h:Vals xs us):∀k:Nat,Vals (U1 k xs).flatten (U1 k us).flatten
 | 0=>.nil
 | k+1=>by
  rw[U3,U3,M5,M5]
  exact Vals.append h (Vals.rep h k)
theorem erase_last{α:Type}(l:List α):l.eraseIdx (l.length - 1)=l.dropLast:=by
 induction l with
 | nil=>rfl
 | cons a r ih =>
  cases r with
  | nil=>rfl
  | cons b r =>
   have e:(a :: b :: r).length - 1=((b :: r).length - 1)+1:=by
    have h1:(a :: b :: r).length=r.length+2:=rfl
    have h2:(b :: r).length=r.length+1:=rfl
    omega
   rw[e,List.eraseIdx_cons_succ,ih]
   all_goals rfl
theorem foldl_rep(its:List Value):∀(k:Nat) (acc:List Value),
  A9 (λx1 x2=>x1++x2) acc.toArray (U1 k its.toArray)=(acc++(U1 k its).flatten).toArray
 | 0,acc=>by simp
 | k+1,acc=>by
  have e:acc.toArray++its.toArray=(acc++its).toArray:=by simp
  have e2:(acc++its)++(U1 k its).flatten=acc++(U1 (k+1) its).flatten:=by
   rw[U3,M5,L1]
  rw[<- e2,<- foldl_rep its k (acc++its),<- e,U3,List.foldl_cons]
section
variable {X:Cx}{pins:List (Addr×Obj)}{σ:St}{H:Hp}{s:Shared}{l b:Addr}{xs ys zs:List V}
theorem Inv.lset{its its':List Value}{n:Nat}{f:Array Value->Array Value}{t':Nat}(I:Inv X pins σ H s)(hH:H l=some (.lst xs))
  (e:s.heap.get? l=some { cls:=.type "list",data:=.seq its.toArray n }) (hf:f its.toArray=its'.toArray) (hv:Vals ys its') (hz:ys.length<=sizeLine) :
  Inv X pins σ (upd H l (.lst ys)) { s with heap:=s.heap.update l (O2 f),toks:=t' }:=by
 have q:=PySem.IsL.update e f
 rw[hf]at q
 refine I.write (x:=l) (e:=l) (by rw[hH];exact trivial) (.inl rfl) (λb' u hb hu=>(X6 s.heap (O2 f) (V2 hb)).trans hu) ⟨_,q⟩ ?_
 exact ⟨hz,its',_,hv,q⟩
theorem Inv.lnew{its:List Value}{t':Nat}(I:Inv X pins σ H s)(hv:Vals ys its)(hz:ys.length<=sizeLine) :
  Inv X pins σ (upd H s.heap.objs.size (.lst ys)) { s with heap:=s.heap.push { cls:=.type "list",data:=.seq its.toArray },toks:=t' } :=
 I.laid (λ_ _ q=>g0 _ q) (R0 _) ⟨hz,its,0,hv,K0 _ rfl⟩
theorem Inv.fresh(I:Inv X pins σ H s):H s.heap.objs.size=none:=I.hok.fresh (R0 _)
theorem Inv.lstM(I:Inv X pins σ H s)(hH:H l=some (.lst xs)):xs.length<=sizeLine/\∃(its:List Value) (n:Nat),Vals xs its/\xs.length=its.length/\s.heap.get? l=some { cls:=.type "list",data:=.seq its.toArray n }:=by
 obtain⟨z,its,n,r,e⟩:=I.hok l _ hH
 exact ⟨z,its,n,r,r.length,e⟩
theorem notLongL{n:Nat}(h:n<=sizeLine):X3 n=false:=by
 unfold X3
 exact decide_eq_false (by omega)
end
section
variable {X:Cx}
noncomputable def rAppend:V->List V->Hp->VK->Prop:=λx vs H Q=>∃l xs y,x=.ref l/\vs=[y]/\H l=some (.lst xs)/\xs.length < sizeLine/\Q .non (upd H l (.lst (xs++[y])))
theorem mt_append:MtM X "list.append" rAppend:=by
 intro pins s σ H x vs v us Q I rx rv h
 obtain⟨l,xs,y,rfl,rfl,hH,hz,q⟩:=h
 cases rx
 obtain⟨u,rfl,ru⟩:=rv.one
 obtain⟨z,its,n,r,hl,e⟩:=I.lstM hH
 refine call_meets F.slot_list_append ⟨_,e,rfl⟩ F.entry_list_append (F.args_list_append_2 _ _) (PySem.list_append l its.toArray n u (by rw[T0];omega)) ⟨e,?_⟩
 refine ⟨.non,_,I.lset (its':=its++[u]) hH e (by simp) (r.append (.cons ru .nil)) ?_,rfl,q⟩
 rw[M0,G4]
 omega
noncomputable def rExtend:V->List V->Hp->VK->Prop:=λx vs H Q=>∃l b xs zs,x=.ref l/\vs=[.ref b]/\H l=some (.lst xs)/\H b=some (.lst zs)/\xs.length+zs.length<=sizeLine/\Q .non (upd H l (.lst (xs++zs)))
theorem mt_extend:MtM X "list.extend" rExtend:=by
 intro pins s σ H x vs v us Q I rx rv h
 obtain⟨l,b,xs,zs,rfl,rfl,hH,hB,hz,q⟩:=h
 cases rx
 obtain⟨u,rfl,ru⟩:=rv.one
 cases ru
 obtain⟨z,its,n,r,hl,e⟩:=I.lstM hH
 obtain⟨z2,its2,n2,r2,hl2,e2⟩:=I.lstM hB
 have hsz:its.toArray.size+its2.toArray.size<=sizeLine:=by rw[T0,T0];omega
 have hlong:¬(!its.toArray.isEmpty&&X3 (its.toArray.size+its2.toArray.size))=true:=by
  rw[notLongL hsz,M8]
  exact A1
 refine call_meets F.slot_list_extend ⟨_,e,rfl⟩ F.entry_list_extend (F.args_list_extend_2 _ _)
  (AutoSeq1.list_extend_list_list_0 l its.toArray n b its2.toArray n2 hlong (by rw[T0];omega) (by omega)) ⟨e,e2,?_⟩
 refine ⟨.non,_,I.lset (its':=its++its2) hH e (by simp) (r.append r2) ?_,rfl,q⟩
 rw[M0]
 omega
noncomputable def rPop:V->List V->Hp->VK->Prop:=λx vs H Q=>∃l xs y,x=.ref l/\vs=[]/\H l=some (.lst xs)/\xs[xs.length - 1]?=some y/\Q y (upd H l (.lst xs.dropLast))
theorem mt_pop:MtM X "list.pop" rPop:=by
 intro pins s σ H x vs v us Q I rx rv h
 obtain⟨l,xs,y,rfl,rfl,hH,hy,q⟩:=h
 cases rx
 have hus:=rv.zero
 subst hus
 obtain⟨z,its,n,r,hl,e⟩:=I.lstM hH
 obtain⟨u,hu,ru⟩:=r.get hy
 have hy':its.toArray[its.toArray.size - 1]?=some u:=by
  show its.toArray[its.length - 1]?=some u
  rw[<- J3,<- hl]
  exact hu
 refine call_meets F.slot_list_pop ⟨_,e,rfl⟩ F.entry_list_pop (F.args_list_pop_1 _) (MeetsSeq.list_pop_last l its.toArray n u hy' (by rw[T0];omega)) ⟨e,?_⟩
 refine ⟨y,_,I.lset (its':=its.dropLast) hH e ?_ r.dropLast ?_,ru,q⟩
 ·show its.toArray.eraseIdxIfInBounds (its.toArray.size - 1)=its.dropLast.toArray
  rw[T0,List.eraseIdxIfInBounds_toArray,erase_last]
 ·rw[List.length_dropLast]
  omega
noncomputable def rCat:R2:=λx y H Q=>∃l b xs zs,x=.ref l/\y=.ref b/\H l=some (.lst xs)/\H b=some (.lst zs)/\xs.length+zs.length<=sizeLine/\∀p,H p=none->Q (.ref p) (upd H p (.lst (xs++zs)))
theorem op_cat:OpR X (binaryOp .Add) rCat:=by
 intro pins s σ H x y v u Q I rx ry h
 obtain⟨l,b,xs,zs,rfl,rfl,hH,hB,hz,q⟩:=h
 cases rx
 cases ry
 obtain⟨z,its,n,r,hl,e⟩:=I.lstM hH
 obtain⟨z2,its2,n2,r2,hl2,e2⟩:=I.lstM hB
 refine PySem.P.add_list e e2 ?_ (by rw[T0,T0];omega)
 have ea:its.toArray++its2.toArray=(its++its2).toArray:=by simp
 rw[ea]
 exact ⟨.ref _,_,I.lnew (t':=s.toks) (r.append r2) (by rw[M0];omega),rfl,q _ I.fresh⟩
noncomputable def rRep:R2:=λx y H Q=>∃l k xs,x=.ref l/\y=.int k/\H l=some (.lst xs)/\-(2 ^ 63)<=k/\k < 2 ^ 63/\xs.length * k.toNat<=sizeLine /\
 ∀p,H p=none->Q (.ref p) (upd H p (.lst (U1 k.toNat xs).flatten))
theorem len_rep{α:Type}(xs:List α)(k:Nat):(U1 k xs).flatten.length=k * xs.length:=by
 induction k with
 | zero=>simp
 | succ k ih=>rw[U3,M5,M0,ih,K7,g9]
theorem op_rep:OpR X (binaryOp .Mult) rRep:=by
 intro pins s σ H x y v u Q I rx ry h
 obtain⟨l,k,xs,rfl,rfl,hH,h1,h2,hz,q⟩:=h
 cases rx
 obtain⟨t,rfl⟩:=ry
 obtain⟨z,its,n,r,hl,e⟩:=I.lstM hH
 have hlen:its.toArray.size * k.toNat<=sizeLine:=by rw[T0,<- hl];exact hz
 have hcap:¬its.toArray.size * k.toNat > (2 ^ 63 - 1) / 8:=by
  have:(sizeLine:Nat)<=(2 ^ 63 - 1) / 8:=by decide
  omega
 have hfit:¬(!Builtin.List.listFitsIndex k)=true:=by
  rw[fitsIndex_both h1 h2]
  exact A1
 have hlong:¬X3 (its.toArray.size * k.toNat)=true:=by
  rw[notLongL hlen]
  exact A1
 have hnew:A9 (λx1 x2=>x1++x2) #[] (U1 (if its.toArray.isEmpty=true then 0 else k.toNat) its.toArray)=(U1 k.toNat its).flatten.toArray:=by
  have f0:∀m:Nat,A9 (λx1 x2=>x1++x2) #[] (U1 m its.toArray)=(U1 m its).flatten.toArray:=λm=>by
   have:=foldl_rep its m []
   rw[y8]at this
   exact this
  rw[f0]
  cases its with
  | nil=>simp
  | cons a r'=>rw[if_neg (by simp)]
 refine wpAny_binaryOp_repeat_ref (T:="list") (U:="int") (by decide) ⟨_,e,rfl⟩ (λs'=>typeIs_int s' k t) noFill_list_mul F.fills_int_mul F.slot_int_rmul repeat_list F.slot_int_index.lookup
  (call_meets F.slot_int_rmul (typeIs_int s k t) F.entry_int_rmul (F.args_int_rmul_2 _ _) (int___rmul___int_list k t l its.toArray n)
    ⟨e,rfl,⟨_,e,rfl⟩,call_meets F.slot_list_mul ⟨_,e,rfl⟩ F.entry_list_mul (F.args_list_mul_2 _ _) (AutoListH.list___mul___list_int_3 l its.toArray n k t hfit hcap hlong) ⟨e,?_⟩⟩)
 rw[hnew]
 exact ⟨.ref _,_,I.lnew (t':=s.toks) (r.rep k.toNat) (by rw[len_rep,Nat.mul_comm];exact hz),rfl,q _ I.fresh⟩
end
section
variable {prog:Program}{w:World}{A:Around}{E:Value->Shared->Prop}{s:Shared}
set_option maxRecDepth 100000 in
end
section
variable {X:Cx}
end
section
variable {κ:Type}[DecidableEq κ]
end
section
variable {P:Program}{w:World}{H:Hp}{h:Heap}{a:Addr}
end
section
variable {X:Cx}{pins:List (Addr×Obj)}{σ:St}{H:Hp}{s:Shared}{a:Addr}{y v:V}{u r:Value}{o:Option V}{A:Around}{E:Value->Shared->Prop}
theorem Inv.big(I:Inv X pins σ H s):sysModules < s.heap.objs.size:=by
 have h:mainGlobals < s.heap.objs.size:=(I.mod.glob.keeps I.bk).lt
 exact Nat.lt_trans (by decide) h
theorem d_write{h':Heap}{t':Nat}{ob:HO}(I:Inv X pins σ H s)(mu:Mut (H a))(hs:K2 a s.heap h')(he:∃q,h'.get? a=some q)(new:ObjOk X.prog X.w (upd H a ob) h' a ob) :
  Inv X pins σ (upd H a ob) { s with heap:=h',toks:=t' } :=
 I.write (x:=a) (e:=a) mu (.inl rfl) (λb q hb z=>(hs.2 b hb).trans z) he new
end
section
variable {X:Cx}{pins:List (Addr×Obj)}{σ:St}{H:Hp}{s:Shared}{a:Addr}{kvs:List (Key×V)}{k:Key}{u:Value}{A:Around}{E:Value->Shared->Prop}
end
noncomputable def NoSl(i:Expr):Prop:=∀ov iv,subscripted i false ov iv=operate [ov,iv] (getItem ov iv)
theorem subD_of{prog:Program}{w:World}{A:Around}{E:Value->Shared->Prop}{s:Shared}{env:Env}{value slice:Expr}{pos:Pos}{T id:String}{Q:Value->Shared->Prop}
  (hl:typeLookup (.type T) "__getitem__"=pure (some (.builtin id))) (hs:NoSl slice)
  (h:wpAny (model prog w) A (eval value env) (λo s₁=>wpAny (model prog w) A (eval slice env) (λi s₂=>s₂.TypeIs o T/\wpAny (model prog w) A (getItem o i) Q E s₂) E s₁) E s) :
  wpAny (model prog w) A (eval (.Subscript value slice pos) env) Q E s:=by
 refine Subscript_ (wpAny_mono h (λo s₁ h₁=>wpAny_mono h₁ (λi s₂ h₂=>?_) λ_ _ x=>x) λ_ _ x=>x)
 obtain⟨hT,h₂⟩:=h₂
 unfold subscriptTail
 refine wpAny_bind ?_
 rw[getitemInPython_of_ne hT.not_modules]
 refine wpAny_bind (wpAny_specialOf hT hl ?_)
 have fin:wpAny (model prog w) A (subscripted slice false o i) (λr s₃=>wpAny (model prog w) A (letTemporaryGo value o r >>= λ_=>pure r) Q E s₃) E s₂:=by
  rw[hs o i]
  exact wpAny_operating (wpAny_mono h₂ (λr s₃ h₃=>wpAny_bind (wpAny_letTemporaryGo (wpAny_pure h₃))) λ_ _ x=>x)
 first
  | exact wpAny_pure (wpAny_bind fin)
  | exact wpAny_bind (wpAny_pure (wpAny_bind fin))
  | exact wpAny_bind fin
section
variable {X:Cx}{o i e value:Expr}{pos pos' tpos:Pos}{td ty tv:TE}
end
section
variable {X:Cx}{pos:Pos}
end
structure M1(X:Cx)(o:Expr)(m:Str)(apos:Pos)(e:Expr)(cpos:Pos):Prop where
 base:attributeBase o m X.env (eval o X.env)=eval o X.env
 few:((backTo cpos (starEach [e] X.env)).all (λx=>!x.1)&&(backToKw cpos (keywordEach [] X.env)).all (λx=>x.1.isSome)
   && decide (([e]:List Expr).length+([]:List Keyword).length+(if ([]:List Keyword).isEmpty then 0 else 1) < 30))=true
 line:(apos.endLine==cpos.line)=true
 trees:backTo cpos (starEach [e] X.env)=[(false,eval e X.env)]
structure M2(X:Cx)(o:Expr)(m:Str)(apos:Pos)(e f:Expr)(cpos:Pos):Prop where
 base:attributeBase o m X.env (eval o X.env)=eval o X.env
 few:((backTo cpos (starEach [e,f] X.env)).all (λx=>!x.1)&&(backToKw cpos (keywordEach [] X.env)).all (λx=>x.1.isSome)
   && decide (([e,f]:List Expr).length+([]:List Keyword).length+(if ([]:List Keyword).isEmpty then 0 else 1) < 30))=true
 line:(apos.endLine==cpos.line)=true
 trees:backTo cpos (starEach [e,f] X.env)=[(false,eval e X.env),(false,eval f X.env)]
section
variable {X:Cx}{pins:List (Addr×Obj)}{σ:St}{H:Hp}{s:Shared}{a:Addr}{y d:V}{u r:Value}{o:Option V}{A:Around}{E:Value->Shared->Prop}
end
section
variable {X:Cx}{o e f:Expr}{apos cpos:Pos}{td ty tx:TE}
end
section
variable {X:Cx}{pins:List (Addr×Obj)}{σ:St}{H:Hp}{s:Shared}{a:Addr}{kvs:List (Key×V)}{A:Around}{E:Value->Shared->Prop}
end
section
variable {X:Cx}{pins:List (Addr×Obj)}{σ:St}{H:Hp}{s:Shared}{a:Addr}{y:V}{u:Value}{A:Around}{E:Value->Shared->Prop}
end
end L2
namespace Att
open PySem PySem.W PySem.Calls PyProof.Rows
theorem ints_of_wellAll{P:Params}{h:Heap}:∀(ns:List Int) (vs:List Value),WellAll P h vs (ns.map WData.int)->IntsAre vs ns:=by
 intro ns
 induction ns with
 | nil =>
  intro vs w
  rw[o8]at w
  cases w
  exact .nil
 | cons n ns ih =>
  intro vs w
  rw[Z2]at w
  cases w with
  | cons a b =>
   cases a
   exact .cons _ _ (ih _ b)
theorem script_of{l:OpenLaw}{n:Nat}(hn:l.most=some n){P:Params}{h:Heap}{args:List WData}{vals:List Value}
  (hpre:l.row.toRowW.claim.pre args=true) (hwl:WellAll P h vals args) :
  ∃a vs ns,vals=[Z1 a]/\args=[WData.list (ns.map WData.int)]/\h.get? a=some { cls:=.type "list",data:=.seq vs.toArray }/\IntsAre vs ns/\ns.length<=n:=by
 have hsh:WShape.hasAll [] args [.list .int]=true:=(pre_splitW hpre).1
 have hc:l.pre.holds [] { args:=args }=true:=(pre_splitW hpre).2
 obtain⟨d,r,rfl,h1,h2⟩:=hasAllW_cons hsh
 obtain rfl:=hasAllW_nil h2
 obtain⟨xs,rfl,h3⟩:=hasW_list h1
 obtain⟨ns,rfl⟩:=items_int h3
 have hlen:ns.length<=n:=by
  unfold OpenLaw.pre at hc
  have h4:(WTm.not (.lt (.lit (.int (n:Int))) (.len (.arg 0)))).holds [] { args:=[.list (ns.map .int)] }=true:=by
   have h4:=(holds_andW hc).1
   rw[hn]at h4
   exact h4
  have h5:=condW_of h4 (w_not (w_lt w_lit (w_len_list (w_arg rfl))))
  rw[i0]at h5
  refine g8 λq=>?_
  have q':(n:Int) < ((ns.length:Nat):Int):=by omega
  first
   | (rw[decide_eq_true q']at h5;exact absurd h5 (by decide))
   | (simp at h5;omega)
 cases hwl with
 | cons w1 w2 =>
  cases w2
  cases w1 with
  | list ho hall=>exact ⟨_,_,ns,rfl,rfl,ho,ints_of_wellAll ns _ hall,hlen⟩
theorem post_true(l:OpenLaw)(args:List WData):l.row.toRowW.claim.post args (.bool true) args=true :=
 postW_of (r:=l.row.toRowW) (X:=(true==true))
  (show WShape.has [] (.bool true) .bool=true by first|rfl|decide|simp[WShape.has,WShape.arms,WShape.armsAll])
  (show (WTm.eq .res (.lit (.bool true))).value [] { args:=args,res:=some (.bool true),after:=args }=some (.bool (true==true)) from w_eq_bool (w_res rfl) w_lit) rfl
theorem attach_call{l:OpenLaw}{n:Nat}{q:Program}{loose:List Str}{XP:(Str->Option Value)->Heap->Prop}{YP:World->Heap->Prop}{d:DefRec}
  (hn:l.most=some n) (hdf:d.params.defaults=[])
  (call:∀(w:World) (s₀ s₁:Shared) (mg mb:Str->Option Value) (fa:Addr) (o:Obj) (pm cd doc:Value) (a:Addr) (vs:List Value) (ns:List Int),
    Ground q loose [] XP w s₀ mg mb s₁.heap->YP w s₁.heap ->
    s₁.heap.get? fa=some o->o.data=.func (docDef d.name d.params d.body d.scope pm cd doc)->s₁.heap.CodeRec cd d.name->mg d.name=some (.ref fa) ->
    s₁.heap.get? a=some { cls:=.type "list",data:=.seq vs.toArray }->IntsAre vs ns->ns.length<=n->s₁.gens=#[] ->
    codeAny (model l.prog w) callerA (.call (.ref fa) ⟨[.ref a],[]⟩) (λr s'=>r=.ok (.ret (.bool true))/\OldK s₁.heap s'.heap/\s'.os=s₁.os/\AllBare s'.gens) s₁) :
  WalkO q loose XP YP l.row.toRowW d [] (λf vs=>PySem.call f vs):=by
 intro w s₀ s₁ mg mb G Y fa o pm cd doc dV kV ho hd hcd hD hmg hg args vals as hpre hlay hrd hwl hlo
 obtain rfl:dV=.none:=Dflts.none hD hdf
 obtain rfl:kV=.none:=Dflts.noKw hD
 obtain⟨a,vs,ns,rfl,rfl,hobj,hints,hlen⟩:=script_of hn hpre hwl
 refine enter_call (codeAny_mono (call w s₀ s₁ mg mb fa o pm cd doc a vs ns G Y ho (fd_plain hd) hcd hmg hobj hints hlen hg) λr s' hq=>?_)
 obtain⟨rfl,h2,h3,h4⟩:=hq
 exact ⟨.inl ⟨.bool true,.bool true,[],rfl,λ_=>rfl,.bool true,post_true l _,λ_=>⟨List.Pairwise.nil,λ_ hm=>(nomatch hm)⟩⟩,h2,h3,h4⟩
section
variable {prog:Program}{w:World}{A:Around}{E:Value->Shared->Prop}{s:Shared}{K:Frag}
end
end Att
namespace L2
open PySem PySem.Spec PyProof.Rows
theorem vals_ints:∀{vs:List Value}{ns:List Int},IntsAre vs ns->Vals (ns.map V.int) vs
 | _,_,.nil=>.nil
 | _,_,.cons n t h=>.cons ⟨t,rfl⟩ (vals_ints h)
noncomputable def Only(H:Hp):Prop:=∀b,H b=none\/∃o xs,H b=some (.frz o (.lst xs))
theorem law_call{P:Program}{w:World}{K:u0}{mg mb:Str->Option Value}{CX:CXT}{k:Nat}{fa a:Addr}{fd:FuncData}{x:Str}{sp:Sp}{s₁:Shared}{vs:List Value}{ns:List Int}
  (KX:K.In s₁.heap) (hns:s₁.heap.Ns mainGlobals mg) (hb:s₁.heap.Ns builtinsNs mb) (hbb:∀x:Str,x ≠ "__name__"->mb x=bootBuiltins x) (hlim:s₁.heap.NoLimit) (hg:s₁.gens=#[])
  (ha:s₁.heap.get? a=some { cls:=.type "list",data:=.seq vs.toArray }) (hi:IntsAre vs ns) (hl:ns.length<=sizeLine) (hr:Room k callerA)
  (F:∀base:Heap,K.In base->base.Ns mainGlobals mg->FnOk P w K mg base CX k fa fd [x] sp) (hbind:∀(s:Shared) (u:Value),BindsTo s fd ⟨[u],[]⟩ [(x,u)])
  (hsp:∀H:Hp,Only H->SqL K H a (ns.map V.int)->sp [.ref a] H (λv _=>v=.bl true) λ_ _ _=>False)
  (hCX:∀H e s',CX [] H s₁ (λ_ _ _=>False) e s'->False) :
  codeAny (model P w) callerA (.call (.ref fa) ⟨[.ref a],[]⟩) (λr s'=>r=.ok (.ret (.bool true))/\OldK s₁.heap s'.heap/\s'.os=s₁.os/\AllBare s'.gens) s₁:=by
 have rv:=vals_ints hi
 have lenV:=hi.length
 have core:∀H:Hp,Only H->SqL K H a (ns.map V.int)->HOk P w H s₁.heap->(∀b,H b≠none->b=a)->(H a≠none->K.lookup a=none) ->
   codeAny (model P w) callerA (.call (.ref fa) ⟨[.ref a],[]⟩) (λr s'=>r=.ok (.ret (.bool true))/\OldK s₁.heap s'.heap/\s'.os=s₁.os/\AllBare s'.gens) s₁:=by
  intro H hO hS hok hA hK
  have base_of:∀{b:Addr}{o:Obj},s₁.heap.get? b=some o->H b=none->(hidT s₁.heap H).get? b=some o:=λe n=>hidT_get e n
  have noA:∀{b:Addr}{o:Obj}{es:Array DictEntry}{ep:Nat},s₁.heap.get? b=some o->o.data=.dict es ep->H b=none:=λ{b o es ep} e d=>by
   cases q:H b with
   | none=>rfl
   | some u =>
    have e':b=a:=hA b (by rw[q];simp)
    subst e'
    rw[ha]at e;cases e
    have d':Data.seq vs.toArray _=Data.dict es ep:=d
    cases d'
  have nsK:∀{b:Addr}{m:Str->Option Value},s₁.heap.Ns b m->(hidT s₁.heap H).Ns b m:=λ{b m} ⟨o,es,ep,e,d,r⟩=>⟨o,es,ep,base_of e (noA e d),d,r⟩
  have hKb:K.In (hidT s₁.heap H):=λb o e=>base_of (KX b o e) (by
    cases q:H b with
    | none=>rfl
    | some u =>
      have e':b=a:=hA b (by rw[q];simp)
      subst e'
      rw[hK (by rw[q];simp)]at e;cases e)
  have hM:Mod K mg (hidT s₁.heap H):=⟨hKb,nsK hns,⟨mb,nsK hb,hbb⟩,let ⟨mc,h1,h2⟩:=hlim;⟨mc,nsK h1,h2⟩⟩
  have e0:Env0 P w K mg (hidT s₁.heap H) callerA [] s₁ H:=⟨rfl,hM,λb o e=>of_hidT e,Nat.le_of_eq (hidT_size _ _),trivial,λb hb=>absurd (show b∈([]:List Addr) from hb) (by simp),hok,.of_eq hg⟩
  refine codeAny_mono ((F _ hKb (nsK hns)).run callerA [] s₁ H ⟨[.ref a],[]⟩ [.ref a] [.ref a] _ _ hr e0 (hbind s₁ (.ref a)) (.cons rfl .nil) (hsp H hO hS)) λr s' h=>?_
  cases r with
  | error e=>exact (hCX H e s' h).elim
  | ok fl =>
   cases fl with
   | next=>exact False.elim h
   | brk=>exact False.elim h
   | cont=>exact False.elim h
   | ret u =>
    obtain⟨v,H',os,bare,un,hok',r',q⟩:=h
    have q':v=.bl true:=q
    subst q'
    obtain rfl:u=V8 true:=r'
    refine ⟨rfl,OldK.of_keep λb o e=>?_,os,bare⟩
    cases q:H b with
    | none=>exact un.keep b o e q (by intro z;exact absurd (show b∈([]:List Addr) from z) (by simp)) (by simp)
    | some u =>
     rcases hO b with z|⟨ob,xs,z⟩
     ·rw[q]at z;cases z
     ·have z2:=un.frzs b ob _ z
      obtain⟨e1,_⟩:=hok b _ z
      obtain⟨e2,_⟩:=hok' b _ z2
      rw[e]at e1;cases e1
      exact e2
 cases hk:K.lookup a with
 | some o =>
  have e:=KX a o hk
  rw[ha]at e
  cases e
  refine core (λ_=>none) (λ_=>.inl rfl) (.inr ⟨_,vs.toArray,_,hk,rfl,rfl,rfl,by rw[T0,lenV];exact hl,by simpa using rv⟩) (λb u z=>by have z':(none:Option HO)=some u:=z;cases z') (λb z=>absurd rfl z) λz=>absurd rfl z
 | none =>
  refine core (λb=>if b=a then some (.frz { cls:=.type "list",data:=.seq vs.toArray } (.lst (ns.map V.int))) else none) (λb=>?_) (.inl (.inr ⟨{ cls:=.type "list",data:=.seq vs.toArray },if_pos rfl⟩)) (λb u z=>?_) (λb z=>?_) λ_=>hk
  ·by_cases hb:b=a
   ·exact .inr ⟨_,_,if_pos hb⟩
   ·exact .inl (if_neg hb)
  ·by_cases hb:b=a
   ·have z':=(if_pos hb).symm.trans z
    cases z'
    subst hb
    exact ⟨ha,by rw[i0];exact hl,vs,_,rv,ha⟩
   ·have z':=(if_neg hb).symm.trans z
    cases z'
  ·by_cases hb:b=a
   ·exact hb
   ·exact absurd (if_neg hb) z
theorem walk_of{l:A8}{n k:Nat}{q:Program}{loose:List Str}{XP:(Str->Option Value)->Heap->Prop}{YP:World->Heap->Prop}{d:DefRec}{K:Params->u0}{CX:World->CXT}{sp:World->Sp}{x:Str}
  (hn:l.most=some n) (hn2:n<=sizeLine) (hdf:d.params.defaults=[]) (hr:Room k callerA)
  (hY:∀(w:World) (h:Heap),YP w h->(K w.params).In h)
  (F:∀(w:World) (mg:Str->Option Value) (fa:Addr) (h:Heap),(K w.params).In h->h.Ns mainGlobals mg->mg d.name=some (.ref fa) ->
    ∃fd:FuncData,(∀(s:Shared) (u:Value),BindsTo s fd ⟨[u],[]⟩ [(x,u)]) /\
      ∀base:Heap,(K w.params).In base->base.Ns mainGlobals mg->FnOk l.prog w (K w.params) mg base (CX w) k fa fd [x] (sp w))
  (hsp:∀(w:World) (H:Hp) (a:Addr) (ns:List Int),ns.length<=n->Only H->SqL (K w.params) H a (ns.map V.int)->sp w [.ref a] H (λv _=>v=.bl true) λ_ _ _=>False)
  (hCX:∀(w:World) (H:Hp) (s:Shared) (e:Value) (s':Shared),CX w [] H s (λ_ _ _=>False) e s'->False) :
  PySem.W.WalkO q loose XP YP l.row.toRowW d [] (λf vs=>PySem.call f vs):=by
 refine Att.attach_call hn hdf λw s₀ s₁ mg mb fa o pm cd doc a vs ns G Y ho hd hcd hmg hobj hints hlen hg=>?_
 have KX:=hY w _ Y
 obtain⟨fd,hb,hF⟩:=F w mg fa _ KX G.T.g hmg
 exact law_call KX G.T.g G.T.b G.T.builtins G.T.nolimit hg hobj hints (X0 hlen hn2) hr hF hb (λH hO hS=>hsp w H a ns hlen hO hS) λH e s'=>hCX w H s₁ e s'
noncomputable def defArgs(s:Stmt):Arguments:=match s with
 | .FunctionDef _ a _ _ _ _ _ _ _ _=>a
 | _=>{ posonlyargs:=[],args:=[],vararg:=none,kwonlyargs:=[],kw_defaults:=[],kwarg:=none,defaults:=[] }
noncomputable def defBody(s:Stmt):List Stmt:=match s with
 | .FunctionDef _ _ b _ _ _ _ _ _ _=>b
 | _=>[]
noncomputable def defScope(s:Stmt):Scope:=match s with
 | .FunctionDef _ _ _ _ _ _ sc _ _ _=>sc
 | _=>{ kind:=.function,names:=[],isGenerator:=false,isCoroutine:=false }
noncomputable abbrev CX0:CXT:=λ_ _ _ _ _ _=>False
noncomputable abbrev E0:XK:=λ_ _ _=>False
theorem pass0{X:Cx}:Passes CX0 X E0:=λ_ _ _ _ _ _ _ h=>h.elim
structure Fun(K:u0)(x qual:Str)(st:Stmt)(f:Addr)(fd:FuncData):Prop where
 ex:∃(oc:Value) (od:Option Addr) (kV doc pm:Value) (an:Option Addr) (cdv ct:Value) (osl:Array (Option Value)),
  fd=L5 x qual (defArgs st) (defBody st) (defScope st) .none kV doc pm an cdv ct/\K.lookup f=some ⟨oc,od,.func fd,osl⟩/\N7 K cdv qual=true
 kp:W4 K (.ref f)=true
section
variable {P:Program}{w:World}{K:u0}{mg:Str->Option Value}{base:Heap}
theorem Fun.ok{x qual:Str}{st:Stmt}{f:Addr}{fd:FuncData}{N ps:List Str}{k:Nat}{sp:Sp}(F:Fun K x qual st f fd)(S:FnScope N ps (defScope st))(len:∀vs H Q E,sp vs H Q E->vs.length=ps.length)
  (hbody:∀(cdv:Value) (A:Around) (outer:List Env) (s:Shared) (H:Hp) (vs:List V) (Q:VK) (E:XK),Room k (A.deeper (envOfC qual (defScope st) s.heap.objs.size f cdv))->sp vs H Q E ->
    ∃t,PSs (cxOf CX0 P w K mg base N qual (defScope st) f cdv A outer s H E).nox (defBody st) t/\t { nx:=λ_ H'=>Q .non H',rt:=Q } (start N vs) H):FnOk P w K mg base CX0 (k+1) f fd ps sp:=by
 obtain⟨oc,od,kV,doc,pm,an,cdv,ct,osl,rfl,lk,hcd⟩:=F.ex
 refine fn_of lk hcd S len λA outer s H vs Q E hr hsp=>?_
 obtain⟨t,h,q⟩:=hbody cdv A outer s H vs Q E hr hsp
 exact ⟨t,h.nox,q⟩
theorem Fun.binds{x qual:Str}{st:Stmt}{f:Addr}{fd:FuncData}{ps:List Str}(F:Fun K x qual st f fd)
  (h:∀(kV doc pm:Value) (an:Option Addr) (cdv ct:Value) (us:List Value),us.length=ps.length->bindArgs (L5 x qual (defArgs st) (defBody st) (defScope st) .none kV doc pm an cdv ct) ⟨us,[]⟩=pure (ps.zip us)):Binds K fd ps []:=by
 obtain⟨oc,od,kV,doc,pm,an,cdv,ct,osl,rfl,lk,hcd⟩:=F.ex
 exact .all (h kV doc pm an cdv ct)
theorem fun_mk{x qual:Str}{st:Stmt}{f:Addr}{oc:Value}{od an:Option Addr}{osl:Array (Option Value)}{kV doc pm cdv ct:Value}(l:K.lookup f=some ⟨oc,od,.func (L5 x qual (defArgs st) (defBody st) (defScope st) .none kV doc pm an cdv ct),osl⟩)
  (c:N7 K cdv qual=true) (k:W4 K (.ref f)=true):Fun K x qual st f (L5 x qual (defArgs st) (defBody st) (defScope st) .none kV doc pm an cdv ct):=⟨⟨oc,od,kV,doc,pm,an,cdv,ct,osl,rfl,l,c⟩,k⟩
end
theorem hu_of{A:Around}{k:Nat}(hr:Room k A):A.units+1 < cLine:=G2 (G7 (by decide:1<=64) _) hr.units
section
variable {X:Cx}
end
theorem ite2{c A B:Prop}[Decidable c](h1:c->A)(h2:¬c->B):if c then A else B:=by
 by_cases h:c
 ·rw[if_pos h]
  exact h1 h
 ·rw[if_neg h]
  exact h2 h
section
variable {κ:Type}[DecidableEq κ]
end
noncomputable def clOf(cells:List (Str×Addr)):List (Str×NameKind)->List (Str×Addr)->List (Str×Addr)
 | [],acc=>acc
 | (n,k) :: r,acc=>clOf cells r (if k==.free then (n,(cells.lookup n).getD 0) :: acc else acc)
theorem closure_of{env:Env}{sc:Scope}(h:∀y∈sc.names,y.2=.free->∃c,env.cells.lookup y.1=some c):closureFor sc env=pure (clOf env.cells sc.names []):=by
 have go:∀(l:List (Str×NameKind)) (acc:List (Str×Addr)),(∀y∈l,y.2=.free->∃c,env.cells.lookup y.1=some c) ->
   (forIn l acc λ(x:Str×NameKind) r=>(if (x.2==NameKind.free)=true then (do let a<-cellOf env x.1;pure (ForInStep.yield ((x.1,a) :: r))) else pure (ForInStep.yield r):Sem (ForInStep (List (Str×Addr)))))=pure (clOf env.cells l acc):=by
  intro l
  induction l with
  | nil=>intro acc _;rfl
  | cons y r ih =>
   intro acc hl
   obtain⟨n,k⟩:=y
   rw[E5]
   by_cases hk:(k==NameKind.free)=true
   ·obtain⟨c,hc⟩:=hl (n,k) B0 (by simpa using hk)
    have hc:env.cells.lookup n=some c:=hc
    simp only[hk,if_true,cellOf,hc,pure_bind,clOf,h7]
    exact ih _ λy hy=>hl y (A0 _ hy)
   ·simp only[hk,if_false,pure_bind,clOf]
    exact ih _ λy hy=>hl y (A0 _ hy)
 have e:=go sc.names [] h
 unfold closureFor
 show (forIn sc.names [] _ >>= λcs=>pure cs)=_
 rw[show (forIn sc.names ([]:List (Str×Addr)) λ(x:Str×NameKind) r=>(match x with|(name,kind)=>if (kind==NameKind.free)=true then (do let a<-cellOf env name;pure (ForInStep.yield ((name,a) :: r))) else pure (ForInStep.yield r):Sem (ForInStep (List (Str×Addr)))))=pure (clOf env.cells sc.names []) from e]
 rfl
theorem clOf_lookup{cells:List (Str×Addr)}{x:Str}{c:Addr}:∀{l:List (Str×NameKind)}{acc:List (Str×Addr)},(∀y∈l,y.2=.free->∃c,cells.lookup y.1=some c)->(clOf cells l acc).lookup x=some c ->
  acc.lookup x=some c\/cells.lookup x=some c
 | [],acc,_,h=>.inl h
 | (n,k) :: r,acc,hl,h=>by
  have ih:=clOf_lookup (l:=r) (λy hy=>hl y (A0 _ hy)) h
  rcases ih with ih|ih
  ·by_cases hk:(k==NameKind.free)=true
   ·rw[if_pos hk,S3]at ih
    obtain⟨c',hc⟩:=hl (n,k) B0 (by simpa using hk)
    have hc:cells.lookup n=some c':=hc
    cases e:x==n with
    | true =>
     rw[e]at ih
     have:x=n:=by simpa using e
     subst this
     simp only[hc,h7,Option.some.injEq]at ih
     subst ih
     exact .inr hc
    | false=>rw[e]at ih;exact .inl ih
   ·rw[if_neg hk]at ih;exact .inl ih
  ·exact .inr ih
theorem clOf_has{cells:List (Str×Addr)}{x:Str}:∀{l:List (Str×NameKind)}{acc:List (Str×Addr)},((∃c,acc.lookup x=some c)\/l.lookup x=some .free)->∃c,(clOf cells l acc).lookup x=some c
 | [],acc,h=>by
  rcases h with h|h
  ·exact h
  ·simp at h
 | (n,k) :: r,acc,h=>by
  refine clOf_has (l:=r) ?_
  rcases h with⟨c,h⟩|h
  ·left
   by_cases hk:(k==NameKind.free)=true
   ·rw[if_pos hk,S3]
    cases x==n with
    | true=>exact ⟨_,rfl⟩
    | false=>exact ⟨c,h⟩
   ·rw[if_neg hk];exact ⟨c,h⟩
  ·rw[S3]at h
   cases e:x==n with
   | true =>
    rw[e]at h
    have hk:k=.free:=X1 h
    left
    subst hk
    rw[if_pos (by decide),S3,e]
    exact ⟨_,rfl⟩
   | false=>rw[e]at h;exact .inr h
theorem lookup_relabel{env:Env}{x:Str}:∀{names:List (Str×NameKind)},
  (names.map λ(n,k)=>if (k==NameKind.free&&env.scope.kind==.function&&env.kindOf n==some .cell) then (n,NameKind.cell) else (n,k)).lookup x =
   (names.lookup x).map λk=>if (k==NameKind.free&&env.scope.kind==.function&&env.kindOf x==some .cell) then .cell else k
 | []=>rfl
 | (n,k) :: r=>by
  have ih:=@lookup_relabel env x r
  rw[Z2]
  show P7 x ((if (k==NameKind.free&&env.scope.kind==.function&&env.kindOf n==some .cell)=true then (n,NameKind.cell) else (n,k)) :: _)=_
  cases hx:x==n with
  | true =>
   have e:x=n:=by simpa using hx
   subst e
   by_cases hc:(k==NameKind.free&&env.scope.kind==.function&&env.kindOf x==some .cell)=true
   ·rw[if_pos hc];simp only[S3,hx,Q4];rw[if_pos hc]
   ·rw[if_neg hc];simp only[S3,hx,Q4];rw[if_neg hc]
  | false =>
   by_cases hc:(k==NameKind.free&&env.scope.kind==.function&&env.kindOf n==some .cell)=true
   ·rw[if_pos hc];simp only[S3,hx];exact ih
   ·rw[if_neg hc];simp only[S3,hx];exact ih
theorem relabel_lookup(sc:Scope)(env:Env)(x:Str):(relabel sc env).names.lookup x=(sc.names.lookup x).map λk=>if (k==NameKind.free&&env.scope.kind==.function&&env.kindOf x==some .cell) then .cell else k:=lookup_relabel
theorem cf_app:∀(names:List (Str×NameKind)) (n:Nat) (acc:List (Str×Addr)),cellsFrom n names acc=cellsFrom n names []++acc
 | [],_,_=>rfl
 | (x,k) :: r,n,acc=>by
  unfold cellsFrom
  split
  ·rw[cf_app r (n+1) ((x,n) :: acc),cf_app r (n+1) [(x,n)],L1];rfl
  ·exact cf_app r n acc
theorem cf_mem{x:Str}{c:Addr}:∀(names:List (Str×NameKind)) (n:Nat),(x,c)∈cellsFrom n names []->(x,NameKind.cell)∈names/\n<=c
 | [],_,h=>by cases h
 | (y,k) :: r,n,h=>by
  unfold cellsFrom at h
  split at h
  ·rename_i hk
   have hk:k=.cell:=by simpa using hk
   rw[cf_app,W1]at h
   rcases h with h|h
   ·have:=cf_mem r (n+1) h
    exact ⟨A0 _ this.1,by omega⟩
   ·have h:(x,c)=(y,n):=by simpa using h
    cases h
    subst hk
    exact ⟨B0,R0 _⟩
  ·have:=cf_mem r n h
   exact ⟨A0 _ this.1,this.2⟩
theorem lookup_app{α:Type}{x:Str}:∀{l m:List (Str×α)},(l++m).lookup x=(l.lookup x).or (m.lookup x)
 | [],_=>rfl
 | (y,v) :: l,m=>by
  rw[B6,S3,S3]
  cases x==y with
  | true=>rfl
  | false=>exact lookup_app
theorem wpAny_newEnvComp{M:Model}{A:Around}{E:Value->Shared->Prop}{s:Shared}{scope:Scope}{globals:Addr}{closure:List (Str×Addr)}{qual:Str}{env:Env}{Q:Env->Shared->Prop}
  (hQ:Q (newEnv scope s.heap.objs.size globals (cellsFrom (s.heap.objs.size+1) scope.names closure) qual none .none (some env) builtinsNs) { s with heap:=pushCells (s.heap.push { cls:=.type "dict",data:=.dict #[] }) scope.names }) :
  wpAny M A (newFunctionEnv scope globals closure [] qual none .none (some env)) Q E s:=by
 simp only[newFunctionEnv,Option.isSome_some,if_true]
 refine wpAny_bind (wpAny_alloc ?_)
 refine wpAny_bind (wpAny_layCells _ (λname kind cells=>by cases hkc:kind==NameKind.cell<;>simp[hkc]) _ _ _ _ ?_)
 rw[show ({ s with heap:=s.heap.push { cls:=.type "dict",data:=.dict #[] } }:Shared).heap.objs.size=s.heap.objs.size+1 from O1 ..]
 refine wpAny_bind ?_
 rw[U5]
 exact wpAny_pure (wpAny_pure hQ)
noncomputable def frN(N:List Str)(fr:List Nat):List Str:=fr.map λi=>N.getD i Str.empty
noncomputable def frS(σ:St)(fr:List Nat):St:=fr.map λi=>(σ[i]?).getD none
noncomputable def cxComp(X:Cx)(own:List Str)(fr:List Nat)(sc:Scope)(C:Addr)(s:Shared)(H:Hp)(ex:List Addr):Cx where
 prog:=X.prog
 w:=X.w
 K:=X.K
 mg:=X.mg
 base:=X.base
 A:=X.A
 N:=own++frN X.N fr
 s₀:=s
 H₀:=H
 env:=compEnvC sc (cellsFrom (C+1) sc.names (clOf X.env.cells sc.names [])) C X.env
 outer:=X.stack
 stack:=X.stack
 ex:=ex
 fn:=λx=>sc.names.lookup x==some .cell
 calm:=X.calm
 pn:=[]
 xe:=λ_ _=>False
noncomputable def st0(own:List Str)(σ:St)(fr:List Nat):St:=own.map (λ_=>none)++frS σ fr
structure CompSc(X:Cx)(own:List Str)(fr:List Nat)(sc:Scope):Prop where
 kind:sc.kind=.function
 cells:∀y∈sc.names,y.2=.cell->sc.names.lookup y.1=some .cell
 loc:∀y∈sc.names,y.2=.local->sc.names.lookup y.1=some .local
 free:∀y∈sc.names,y.2=.free->X.env.kindOf y.1=some .cell\/X.env.kindOf y.1=some .free
 fr:∀i∈fr,∃x,X.N[i]?=some x/\sc.names.lookup x=some .free
theorem comp_start{X:Cx}{own:List Str}{fr:List Nat}{sc:Scope}{pins:List (Addr×Obj)}{σ:St}{H:Hp}{s:Shared}{fp:List Addr}{C D:Addr}{h1:Heap}{tk:Nat}{oD:Obj}
  (S:CompSc X own fr sc) (I:Inv X pins σ H s) (hf:∀b∈fp,FpOk X pins H b) (hfo:∀b∈fp,∃o,s.heap.get? b=some o) (hC:s.heap.objs.size<=C) (hD:s.heap.objs.size<=D) (hDC:D≠C) (hn:h1.Ns C λx=>([]:List (Str×Value)).reverse.lookup x)
  (hk:∀b o,s.heap.get? b=some o->h1.get? b=some o) (hcl:∀x c,(x,c)∈cellsFrom (C+1) sc.names []->h1.IsCell c none) (hap:(cellsFrom (C+1) sc.names []).Pairwise λx y=>x.2≠y.2) (hoD:h1.get? D=some oD) (hdD:∀v,oD.data≠.cell v) :
  Inv (cxComp X own fr sc C s H fp) [(D,oD)] (st0 own σ fr) H { s with heap:=h1,toks:=tk }:=by
 have hfree:∀y∈sc.names,y.2=.free->∃c,X.env.cells.lookup y.1=some c:=λy hy e=>I.ok.has y.1 (S.free y hy e)
 have cl1:∀x c,(clOf X.env.cells sc.names []).lookup x=some c->X.env.cells.lookup x=some c:=λx c e=>by
  rcases clOf_lookup hfree e with z|z
  ·simp at z
  ·exact z
 have cl2:∀x c,(cellsFrom (C+1) sc.names (clOf X.env.cells sc.names [])).lookup x=some c->(x,c)∈cellsFrom (C+1) sc.names []\/X.env.cells.lookup x=some c:=λx c e=>by
  rw[cf_app,lookup_app]at e
  cases q:(cellsFrom (C+1) sc.names []).lookup x with
  | none=>rw[q]at e;exact .inr (cl1 x c e)
  | some c'=>rw[q]at e;cases e;exact .inl (PySem.mem_of_lookup q)
 have new:∀x c,(x,c)∈cellsFrom (C+1) sc.names []->C+1<=c:=λx c h=>(cf_mem _ _ h).2
 have oldc:∀x c,X.env.cells.lookup x=some c->c < s.heap.objs.size:=λx c e=>by
  obtain⟨v,q⟩:=I.cell x c e
  exact q.lt
 have kin:∀x k,(relabel sc X.env).names.lookup x=some k->k=.cell\/k=.free->sc.names.lookup x=some .free\/sc.names.lookup x=some .cell:=λx k e hk=>by
  rw[relabel_lookup]at e
  cases q:sc.names.lookup x with
  | none=>rw[q]at e;cases e
  | some j =>
   rw[q,Q4,Option.some.injEq]at e
   by_cases hj:j=.free
   ·rw[hj];exact .inl rfl
   ·have hne:(j==NameKind.free)=false:=by simpa using hj
    rw[hne,S6,S6,if_neg (by simp)]at e
    subst e
    rcases hk with z|z
    ·rw[z];exact .inr rfl
    ·exact absurd z hj
 have kout:∀x,sc.names.lookup x=some .free->((relabel sc X.env).names.lookup x=some .cell\/(relabel sc X.env).names.lookup x=some .free):=λx e=>by
  rw[relabel_lookup,e,Q4]
  by_cases h:(NameKind.free==NameKind.free&&X.env.scope.kind==.function&&X.env.kindOf x==some .cell)=true
  ·rw[if_pos h];exact .inl rfl
  ·rw[if_neg h];exact .inr rfl
 have okc:∀b∈fp,b < s.heap.objs.size:=λb hb=>by obtain⟨o,e⟩:=hfo b hb;exact G0 e
 have fresh:∀{a:Addr},s.heap.objs.size<=a->H a=none:=λh=>I.hok.fresh h
 have ok:(cxComp X own fr sc C s H fp).Ok:={
   mod:=I.ok.mod
   kind:=S.kind
   glob:=I.ok.glob
   blt:=I.ok.blt
   above:=hC
   inj:=λx y c h1 h2=>by
     have hC:s.heap.objs.size<=C:=hC
     rcases cl2 x c h1 with a|a<;>rcases cl2 y c h2 with b|b
     · exact name_of_addr hap a b
     · have:=new x c a;have:=oldc y c b;exact absurd (P0 (oldc y c b) (X0 hC (N5 (new x c a)))) (E3 _)
     · exact absurd (P0 (oldc x c a) (X0 hC (N5 (new y c b)))) (E3 _)
     · exact I.ok.inj x y c a b
   has:=λx hx=>by
     have hx:sc.names.lookup x=some .free\/sc.names.lookup x=some .cell:=by
       rcases hx with hx|hx
       · exact kin x _ hx (.inl rfl)
       · exact kin x _ hx (.inr rfl)
     show ∃c,(cellsFrom (C+1) sc.names (clOf X.env.cells sc.names [])).lookup x=some c
     rw[cf_app,lookup_app]
     rcases hx with hx|hx
     · obtain⟨c,e⟩:=clOf_has (cells:=X.env.cells) (x:=x) (l:=sc.names) (acc:=[]) (.inr hx)
       rw[e]
       cases (cellsFrom (C+1) sc.names []).lookup x with
       | none=>exact ⟨c,rfl⟩
       | some c'=>exact ⟨c',rfl⟩
     · obtain⟨c,e⟩:=cell_has (n:=C+1) hx
       rw[e]
       exact ⟨c,rfl⟩
   cab:=λx c h e=>by
     have h:sc.names.lookup x=some .cell:=by simpa [cxComp]using h
     have e:(cellsFrom (C+1) sc.names (clOf X.env.cells sc.names [])).lookup x=some c:=e
     obtain⟨c',q⟩:=cell_has (n:=C+1) h
     rw[cf_app,lookup_app,q]at e
     cases e
     exact X0 hC (N5 (new x _ (PySem.mem_of_lookup q)))
   hd:=I.ok.hd
   frames:=I.ok.frames
   stk:=.inl rfl
   exf:=λb hb=>⟨E1 (P0 (okc b hb) hC),λx c e=>by
     rcases cl2 x c e with z|z
     · exact B2 (P0 (okc b hb) (X0 hC (N5 (new x c z))))
     · exact (hf b hb).2.2.2.2.1 x c z⟩
   bs:=I.bs
   bsz:=X0 I.ok.bsz I.sz
   noex:=λb o e hb=>by
     rcases (hf b hb).2.2.2.1 with z|z
     · exact I.ok.noex b o e z
     · exact absurd (P0 (G0 e) (X0 I.ok.bsz z)) (E3 _)
   exfs:=λb hb hm=>by
     rcases Y0.mp (I.stkSub b hm) with z|z
     · exact (hf b hb).2.1 z
     · exact (hf b hb).2.2.1 z
   funs:=I.stack
   frf:=I.stkFree }
 refine ⟨ok,rfl,I.bare,Un.kept hk,⟨_,hn,λi x v e1 e2 e3=>?_⟩,λx c e=>?_,fresh hC,λx c e=>?_,λp hp=>?_,I.hok.kept hk,?_⟩
 ·have e1:(own++frN X.N fr)[i]?=some x:=e1
  have e2:(own.map (λ_=>(none:Option V))++frS σ fr)[i]?=some (some v):=e2
  by_cases hi:i < own.length
  ·rw[P2 (by simpa using hi),J1]at e2
   cases q:own[i]? with
   | none=>rw[q]at e2;cases e2
   | some z=>rw[q]at e2;cases e2
  ·rw[S1 (by omega)]at e1
   rw[S1 (by simpa using hi),i0]at e2
   unfold frN at e1
   unfold frS at e2
   rw[J1]at e1 e2
   cases q:fr[i - own.length]? with
   | none=>rw[q]at e1;cases e1
   | some j =>
    rw[q,Q4,Option.some.injEq]at e1 e2
    obtain⟨y,hy,hyf⟩:=S.fr j (S2 q)
    rw[Q3,hy,h7]at e1
    subst e1
    have e2':σ[j]?=some (some v):=by
     cases r:σ[j]? with
     | none=>rw[r]at e2;cases e2
     | some z=>rw[r,h7]at e2;rw[e2]
    have hkf:X.env.kindOf y=some .cell\/X.env.kindOf y=some .free:=S.free (y,.free) (PySem.mem_of_lookup hyf) rfl
    obtain⟨m,hm,hl⟩:=I.loc
    have vis:Vis X.env.scope y:=by
     rcases hkf with z|z
     ·exact .inr (.inl z)
     ·exact .inr (.inr z)
    obtain⟨u,r,l⟩:=hl j y v hy e2' vis
    refine ⟨u,r,?_⟩
    rcases l with⟨k,_⟩|⟨k,c,hc,z⟩
    ·rcases hkf with k'|k'<;>rw[k]at k'<;>cases k'
    ·refine .inr ⟨kout y hyf,?_⟩
     obtain⟨c',hc'⟩:∃c',(clOf X.env.cells sc.names []).lookup y=some c':=clOf_has (.inr hyf)
     have:c'=c:=X1 ((cl1 y c' hc').symm.trans hc)
     subst this
     obtain⟨o,ho,hd⟩:=z
     refine ⟨c',?_,o,hk _ _ ho,hd⟩
     show (cellsFrom (C+1) sc.names (clOf X.env.cells sc.names [])).lookup y=some c'
     rw[cf_app,lookup_app,hc']
     cases q:(cellsFrom (C+1) sc.names []).lookup y with
     | none=>rfl
     | some c2 =>
      have:=S.cells _ (cf_mem _ _ (PySem.mem_of_lookup q)).1 rfl
      rw[hyf]at this
      cases this
 ·rcases cl2 x c e with z|z
  ·exact ⟨_,hcl x c z⟩
  ·obtain⟨v,o,ho,hd⟩:=I.cell x c z
   exact ⟨v,o,hk _ _ ho,hd⟩
 ·rcases cl2 x c e with z|z
  ·exact fresh (X0 hC (N5 (new x c z)))
  ·exact I.freeC x c z
 ·have e:p=(D,oD):=by
   have:p∈([]:List (Addr×Obj))++[(D,oD)]:=hp
   simpa using this
  subst e
  refine ⟨hoD,fresh hD,hDC,λhm=>?_,hdD⟩
  have hm:D∈frs X.stack:=hm
  obtain⟨_,o,ho,_⟩:=I.stack.mem hm
  exact absurd (P0 (G0 ho) hD) (E3 _)
 ·show (own.map (λ_=>(none:Option V))++frS σ fr).length=(own++frN X.N fr).length
  simp[frS,frN]
theorem comp_end{X:Cx}{own:List Str}{fr:List Nat}{sc:Scope}{pins:List (Addr×Obj)}{σ σ':St}{H H':Hp}{s s':Shared}{fp:List Addr}{C D:Addr}{oD:Obj}{ys:List V}{us:List Value}{n:Nat}
  (I:Inv X pins σ H s) (hf:∀b∈fp,FpOk X pins H b) (hC:s.heap.objs.size<=C) (hD:s.heap.objs.size<=D) (hDC:D≠C)
  (J:Inv (cxComp X own fr sc C s H fp) [(D,oD)] σ' H' s') (ho:oD={ cls:=.type "list",data:=.seq us.toArray n }) (r:Vals ys us) (hz:ys.length<=sizeLine) :
  Inv X pins σ (upd H' D (.lst ys)) s'/\(∃m,s'.heap.Ns C m)/\FpOk X pins (upd H' D (.lst ys)) C:=by
 have pD:=J.pin (D,oD) (by simp[cxComp])
 have hHD:H' D=none:=pD.2.1
 have u:Un (frs X.stack) fp H H' s.heap s'.heap:=J.base
 have lt:∀b o,s.heap.get? b=some o->b≠D:=λb o e=>E1 (P0 (G0 e) hD)
 have u2:Un (frs X.stack) fp H (upd H' D (.lst ys)) s.heap s'.heap :=
  ⟨u.keep,u.slot,λb o e n hx=>by rw[upd_ne (lt b o e)];exact u.free b o e n hx,u.there,λb xs e=>by rw[upd_ne (ne_of_none (u.tups b xs e) hHD)];exact u.tups b xs e,
    λb o x e=>by rw[upd_ne (ne_of_none (u.frzs b o x e) hHD)];exact u.frzs b o x e,λb ps e=>by
      obtain⟨more,q⟩:=u.tbls b ps e
      exact ⟨more,by rw[upd_ne (ne_of_none q hHD)];exact q⟩⟩
 have hok:HOk X.prog X.w (upd H' D (.lst ys)) s'.heap:=λb o e=>by
  by_cases hb:b=D
  ·subst hb
   rw[upd_same]at e
   cases e
   exact ⟨hz,us,n,r,by rw[<- ho];exact pD.1⟩
  ·rw[upd_ne hb]at e
   exact (J.hok b o e).stay (λ_ _ _ q=>q) (λc q=>by rw[upd_ne (ne_of_none q hHD)];exact q) λc xs q=>by rw[upd_ne (ne_of_none q hHD)];exact q
 refine ⟨I.call' (ch:=fp) J.os u2 hok J.bare λb hb=>?_,?_,?_⟩
 ·obtain⟨f0,f1,f2,f3,f4,f5⟩:=hf b hb
  exact ⟨f3,f1,f4,f5⟩
 ·obtain⟨m,hm,_⟩:=J.loc
  exact ⟨m,hm⟩
 ·have hfree:H' C=none:=J.free
  refine ⟨by rw[upd_ne (V2 hDC)];exact hfree,?_⟩
  exact (I.fpOk hC (I.hok.fresh hC)).2
theorem codeAny_compLoop_any{prog:Program}{w:World}{A:Around}{R:Result->Shared->Prop}{s:Shared}{elt target iter:Expr}{ifs:List Expr}{scope:Scope}{pos:Pos}{it acc:Value}{env:Env}(I:Nat->Shared->Prop)
  (turn:∀n s,I n s->wpAny (model prog w) A (pyNext it) (λr s₁=>match r with
    | none=>R (.ok .next) s₁
    | some v=>wpAny (model prog w) A (letOwnedTupleGo target it v) (λ_ s₁'=>wpAny (model prog w) A (assign target env v) (λ_ s₂ =>
        wpAny (model prog w) A (forIn ifs true λc r=>if r=true then do let ok<-isTrue c env (eval c env);pure (ForInStep.yield ok) else pure (ForInStep.yield r)) (λok s₃ =>
          if ok=true then wpAny (model prog w) A (eval elt env) (λx s₄ =>
            wpAny (model prog w) A (call (.builtin "list.append") [acc,x]) (λ_ s₅=>∃m,m < n/\I m s₅) (λ_ _=>False) s₄) (λ_ _=>False) s₃
          else ∃m,m < n/\I m s₃) (λ_ _=>False) s₂) (λ_ _=>False) s₁') (λ_ _=>False) s₁) (λ_ _=>False) s)
  (n:Nat) (h:I n s) :
  codeAny (model prog w) A (.compLoop (.ListComp elt [⟨target,iter,ifs,0⟩] scope pos) 0 it acc env) R s:=by
 refine codeAny_loop rfl I (λn s hI=>?_) n h
 show wpAny _ A ((compTurn (.ListComp elt [⟨target,iter,ifs,0⟩] scope pos) 0 it acc env).onRaise (λx=>do noteFrame x env;theTreesLotGoes x)) _ _ s
 refine wpAny_noted ?_
 rw[compTurn_list]
 refine wpAny_bind (wpAny_standAt (wpAny_bind (wpAny_mono (turn n s hI) (λr s₁ h₁=>?_) λ_ _ h'=>h'.elim)))
 cases r with
 | none=>exact wpAny_pure h₁
 | some v =>
  refine wpAny_bind (wpAny_mono h₁ (λ_ s₁' h₁'=>?_) λ_ _ h'=>h'.elim)
  refine wpAny_bind (wpAny_mono h₁' (λ_ s₂ h₂=>wpAny_bind (wpAny_mono h₂ (λok s₃ h₃=>?_) λ_ _ h'=>h'.elim)) λ_ _ h'=>h'.elim)
  cases ok with
  | false=>exact wpAny_pure ⟨rfl,h₃⟩
  | true =>
   exact wpAny_bind (wpAny_bind (wpAny_mono h₃ (λx s₄ h₄=>wpAny_bind (wpAny_mono h₄ (λ_ s₅ h₅=>wpAny_pure (wpAny_pure ⟨rfl,h₅⟩)) λ_ _ h'=>h'.elim)) λ_ _ h'=>h'.elim))
noncomputable def PIf(X:Cx)(ifs:List Expr)(t:TT):Prop :=
 ∀(pins:List (Addr×Obj)) (s:Shared) (σ:St) (H:Hp) (Q:Bool->Hp->Prop),Inv X pins σ H s->t σ H Q ->
  wpAny (model X.prog X.w) X.A (forIn ifs true λc r=>if r=true then do let ok<-isTrue c X.env (eval c X.env);pure (ForInStep.yield ok) else pure (ForInStep.yield r)) (TP X pins σ Q) X.xe s
noncomputable def tYes:TT:=λ_ H Q=>Q true H
theorem if_nil{X:Cx}:PIf X [] tYes:=λ_ _ _ H _ I h=>wpAny_tests_nil ⟨H,I,h⟩
theorem if_one{X:Cx}{c:Expr}{t:TT}(h:PT X c t):PIf X [c] t:=λpins s σ H Q I hw=>wpAny_tests_one (h pins s σ H Q I hw)
noncomputable def tComp(wi:TI)(own:List Str)(fr:List Nat)(g:TG)(tc:TT)(te:TE):TE:=λσ H Q=>wi σ H λJ H1=>∃W:Nat->Nat->List V->St->Hp->Prop,(∃m,W 0 m [] (st0 own σ fr) H1)/\∀i m ys τ H,W i m ys τ H ->
 (J.stop i H/\∀D,H D=none->Q (.ref D) (upd H D (.lst ys))) \/
 (J.go i H/\ys.length < sizeLine/\∃N:List V->St->Hp->Prop,(∀ys' τ' H',N ys' τ' H'->∃m',m' < m/\W (i+1) m' ys' τ' H')/\∀x H',J.yld i H x H'->g x τ H' λτ2 H2 =>
   tc τ2 H2 λb H3=>if b=true then te τ2 H3 λy H4=>N (ys++[y]) τ2 H4 else N ys τ2 H3)
theorem comp_grow{X:Cx}{D:Addr}{us:List Value}{k:Nat}{pl:List (Addr×Obj)}{σ:St}{H:Hp}{s:Shared}{u:Value}{Q:Value->Shared->Prop}{E:Value->Shared->Prop}
  (I:Inv X ([(D,{ cls:=.type "list",data:=.seq us.toArray k })]++pl) σ H s) (h1:X.s₀.heap.objs.size<=D) (h2:∀x c,X.env.cells.lookup x=some c->c≠D) (h3:∀p∈X.pn++pl,p.1≠D) (hz:us.length < sizeLine)
  (h:∀k' s',Inv X ([(D,{ cls:=.type "list",data:=.seq (us++[u]).toArray k' })]++pl) σ H s'->Q .none s'):wpAny (model X.prog X.w) X.A (call (.builtin "list.append") [.ref D,u]) Q E s:=by
 obtain⟨e,hn,hL,hF,_⟩:=I.pin (D,{ cls:=.type "list",data:=.seq us.toArray k }) (G1 _ (P5 _ (B3.mpr rfl)))
 dsimp only at e hn hL hF
 have I0:Inv X pl σ H s:=I.pins_of λp hp=>I.pin p (G1 _ (G1 _ hp))
 refine call_meets F.slot_list_append ⟨_,e,rfl⟩ F.entry_list_append (F.args_list_append_2 _ _) (PySem.list_append D us.toArray k u (by rw[T0];omega)) ⟨e,?_⟩
 have q:=PySem.IsL.update e λxs=>xs.push u
 rw[show us.toArray.push u=(us++[u]).toArray by simp]at q
 have I1:Inv X pl σ H { s with heap:=s.heap.update D (O2 λxs=>xs.push u),toks:=s.toks } :=
  I0.turned (it:=D) (λb o hb ho=>(X6 s.heap (O2 λxs=>xs.push u) (V2 hb)).trans ho) hn hL (.inr h1) h2 h3
 obtain⟨k',q⟩:∃k',(s.heap.update D (O2 λxs=>xs.push u)).get? D=some { cls:=.type "list",data:=.seq (us++[u]).toArray k' }:=⟨_,q⟩
 refine h k' _ (I1.pins_of (pins':=[(D,{ cls:=.type "list",data:=.seq (us++[u]).toArray k' })]++pl) λp hp=>?_)
 rcases W1.mp hp with z|z
 ·have z:p=_:=B3.mp z
  subst z
  exact ⟨q,hn,hL,hF,λv z=>by cases z⟩
 ·exact I1.pin p (G1 _ z)
theorem comp_block{X:Cx}{tg iter elt:Expr}{ifs:List Expr}{sc:Scope}{pos:Pos}{own:List Str}{fr:List Nat}{g:TG}{tc:TT}{te:TE}{pins:List (Addr×Obj)}{σ:St}{H2:Hp}{s2:Shared}{it:Addr}{fp:List Addr}{tn:Nat->Heap->Prop}{J:It}{Q:VK}{E:Value->Shared->Prop}
  {RR:Value->Addr->Result->Shared->Prop}
  (hc:X.calm=true) (S:CompSc X own fr sc) (I2:Inv X pins σ H2 s2) (T:Turn X.prog X.w X.K tg J fp it tn) (st2:tn 0 s2.heap) (f2:∀b∈fp,FpOk X pins H2 b)
  (hg:∀C ex,PG (cxComp X own fr sc C s2 H2 ex) tg g) (hif:∀C ex,PIf (cxComp X own fr sc C s2 H2 ex) ifs tc) (he:∀C ex,PE (cxComp X own fr sc C s2 H2 ex) elt te)
  (W:Nat->Nat->List V->St->Hp->Prop) (m0:Nat) (w0:W 0 m0 [] (st0 own σ fr) H2)
  (turn:∀i m ys τ H,W i m ys τ H->(J.stop i H/\∀D,H D=none->Q (.ref D) (upd H D (.lst ys))) \/
    (J.go i H/\ys.length < sizeLine/\∃N:List V->St->Hp->Prop,(∀ys' τ' H',N ys' τ' H'->∃m',m' < m/\W (i+1) m' ys' τ' H')/\∀x H',J.yld i H x H'->g x τ H' λτ2 H2 =>
      tc τ2 H2 λb H3=>if b=true then te τ2 H3 λy H4=>N (ys++[y]) τ2 H4 else N ys τ2 H3))
  (hRR:∀D C H s',Inv X pins σ H s'->Q (.ref D) H->(∃m,s'.heap.Ns C m)->FpOk X pins H C->RR (.ref D) C (.ok .next) s') :
  wpAny (model X.prog X.w) X.A (newList []) (λacc s₃=>wpAny (model X.prog X.w) X.A (newFunctionEnv sc X.env.globals (clOf X.env.cells sc.names []) [] X.env.qual none .none (some X.env)) (λcenv s₄ =>
    codeAny (model X.prog X.w) X.A (.compStart (.ListComp elt [⟨tg,iter,ifs,0⟩] sc pos) 0 (.ref it) acc { cenv with scope:=relabel sc X.env }) (RR acc cenv.locals) s₄) E s₃) E s2:=by
 refine wpAny_newObj_type (wpAny_newEnvComp ?_)
 dsimp only
 generalize hH2:s2.heap.push { cls:=.type "list",dict:=none,data:=.seq ([]:List Value).toArray }=G
 generalize hh1:pushCells (G.push { cls:=.type "dict",data:=.dict #[] }) sc.names=h₁
 have kp:∀b o,(G.push { cls:=.type "dict",data:=.dict #[] }).get? b=some o->h₁.get? b=some o:=λb o e=>hh1 ▸ pushCells_keeps _ _ b o e
 have hns₁:h₁.Ns G.objs.size λx=>([]:List (Str×Value)).reverse.lookup x:=(Heap.Ns.new G (.type "dict")).keeps kp
 have cok:CellsOk h₁ (G.objs.size+1) (cellsFrom (G.objs.size+1) sc.names []):=by
  have:=cellsFrom_ok sc.names (G.push { cls:=.type "dict",data:=.dict #[] }) (G.objs.size+1) [] ⟨λ_ _ hm=>(nomatch hm),List.Pairwise.nil⟩ (by rw[O1];exact R0 _)
  rw[O1,hh1]at this
  exact this
 have hC:G.objs.size=s2.heap.objs.size+1:=by rw[<- hH2,O1]
 have hCle:s2.heap.objs.size<=G.objs.size:=by rw[hC];exact Q7 _
 have hDC:s2.heap.objs.size≠G.objs.size:=by rw[hC];exact E1 (Nat.lt_succ_self _)
 have old:∀b o,s2.heap.get? b=some o->h₁.get? b=some o:=λb o e=>kp b o (g0 _ (hH2 ▸ g0 _ e))
 have hacc:h₁.get? s2.heap.objs.size=some { cls:=.type "list",data:=.seq ([]:List Value).toArray }:=kp _ _ (g0 _ (hH2 ▸ K0 _ rfl))
 have st0':tn 0 h₁:=T.keep _ _ _ st2 λb hb o e=>old b o e
 have fo:∀b∈fp,∃o,s2.heap.get? b=some o:=λb hb=>let ⟨o,e,_⟩:=T.obj _ _ st2 b hb;⟨o,e⟩
 have flt:∀b∈fp,b < s2.heap.objs.size:=λb hb=>by obtain⟨o,e⟩:=fo b hb;exact G0 e
 have clb:∀x c,(clOf X.env.cells sc.names []).lookup x=some c->X.env.cells.lookup x=some c:=λx c e=>by
  rcases clOf_lookup (λy hy e=>I2.ok.has y.1 (S.free y hy e)) e with z|z
  ·simp at z
  ·exact z
 have clb2:∀(C':Addr) x c,(cellsFrom (C'+1) sc.names (clOf X.env.cells sc.names [])).lookup x=some c->C'+1<=c\/X.env.cells.lookup x=some c:=λC' x c e=>by
  rw[cf_app,lookup_app]at e
  cases q:(cellsFrom (C'+1) sc.names []).lookup x with
  | none=>rw[q]at e;exact .inr (clb x c e)
  | some c'=>rw[q]at e;cases e;exact .inl (cf_mem _ _ (PySem.mem_of_lookup q)).2
 have stt:∀C':Addr,s2.heap.objs.size<=C'->∀{H':Hp}{pl:List (Addr×Obj)},(∀b∈fp,H' b=none)->(∀p∈pl,s2.heap.objs.size<=p.1)->∀b∈fp,FpOk (cxComp X own fr sc C' s2 H2 fp) pl H' b:=λC' hC' H' pl hn hp b hb=>by
  have I0:=f2 b hb
  refine ⟨hn b hb,E1 (P0 (flt b hb) hC'),λhm=>?_,.inl hb,λx c e=>by
      rcases clb2 C' x c e with z|z
      · exact B2 (P0 (flt b hb) (X0 hC' (N5 z)))
      · exact I0.2.2.2.2.1 x c z,λp hp'=>?_⟩
  ·rcases Y0.mp (I2.stkSub b hm) with z|z
   ·exact I0.2.1 z
   ·exact I0.2.2.1 z
  ·have hp':p∈pl:=by
    have:p∈([]:List (Addr×Obj))++pl:=hp'
    simpa using this
   exact B2 (P0 (flt b hb) (hp p hp'))
 have loop:∀s₃:Shared,s₃={ s2 with heap:=h₁,toks:=s2.toks } ->
   codeAny (model X.prog X.w) X.A (.compLoop (.ListComp elt [⟨tg,iter,ifs,0⟩] sc pos) 0 (.ref it) (.ref s2.heap.objs.size) (compEnvC sc (cellsFrom (G.objs.size+1) sc.names (clOf X.env.cells sc.names [])) G.objs.size X.env))
    (RR (.ref s2.heap.objs.size) G.objs.size) s₃:=by
  rintro s₃ rfl
  have I3:=comp_start (own:=own) (fr:=fr) (tk:=s2.toks) S I2 f2 fo hCle (R0 _) hDC hns₁ old (λx c h=>(cok.empty x c h).1) cok.apart hacc (λv z=>by cases z)
  refine codeAny_compLoop_any (λn s'=>∃i H' ys us k τ,Inv (cxComp X own fr sc G.objs.size s2 H2 fp) [(s2.heap.objs.size,{ cls:=.type "list",data:=.seq us.toArray k })] τ H' s'/\tn i s'.heap/\(∀b∈fp,H' b=none)/\Vals ys us/\ys.length<=sizeLine/\W i n ys τ H') ?_ m0
   ⟨0,H2,[],[],0,_,I3,st0',λb hb=>(f2 b hb).1,.nil,S4 _,w0⟩
  rintro n s4 ⟨i,H4,ys,us,k,τ,I4,st4,fr4,rv4,hz4,w4⟩
  have hp4:∀p∈[(s2.heap.objs.size,({ cls:=.type "list",data:=.seq us.toArray k }:Obj))],s2.heap.objs.size<=p.1:=λp hp=>by
   rw[B3.mp hp]
   exact R0 _
  rcases turn i n ys τ H4 w4 with⟨stop,qn⟩|⟨go,hlt,N,hN,step⟩
  ·refine thn (T.done (cxComp X own fr sc G.objs.size s2 H2 fp) rfl rfl rfl hc i _ s4 _ H4 (λ_ _=>False) I4 (stt _ hCle fr4 hp4) st4 stop) λr s5 ⟨hr,I5⟩=>?_
   subst hr
   obtain⟨a1,a2,a3⟩:=comp_end I2 f2 hCle (R0 _) hDC I5 rfl rv4 hz4
   exact hRR _ _ _ s5 a1 (qn _ (I5.pin _ (G1 _ (B3.mpr rfl))).2.1) a2 a3
  ·refine thn (T.item (cxComp X own fr sc G.objs.size s2 H2 fp) rfl rfl rfl hc i _ s4 _ H4 (λ_ _=>False) I4 (stt _ hCle fr4 hp4) st4 go) λr s5 ⟨u,hr,h5⟩=>?_
   subst hr
   refine thn h5 λ_ s6 ⟨x,H6,I6,r6,y6,st6,fr6⟩=>?_
   have I6':=I6.pinned (stt _ hCle fr6 hp4) (T.obj _ _ st6)
   refine thn (hg G.objs.size fp _ s6 _ H6 x u _ I6' r6 (step x H6 y6)) λ_ s7 ⟨σ7,H7,I7,q7⟩=>?_
   refine thn (hif G.objs.size fp _ s7 σ7 H7 _ I7 q7) λb s8 ⟨H8,I8,q8⟩=>?_
   have again:∀{s9:Shared}{H9:Hp}{ys':List V}{us':List Value}{k':Nat},Inv (cxComp X own fr sc G.objs.size s2 H2 fp) ([(s2.heap.objs.size,{ cls:=.type "list",data:=.seq us'.toArray k' })]++pinsAt fp s6.heap) σ7 H9 s9->Vals ys' us'->ys'.length<=sizeLine->N ys' σ7 H9 ->
     ∃m,m < n/\∃i H' ys us k τ,Inv (cxComp X own fr sc G.objs.size s2 H2 fp) [(s2.heap.objs.size,{ cls:=.type "list",data:=.seq us.toArray k })] τ H' s9/\tn i s9.heap/\(∀b∈fp,H' b=none)/\Vals ys us/\ys.length<=sizeLine/\W i m ys τ H':=λ{s9 H9 ys' us' k'} I9 rv9 hz9 n9=>by
    obtain⟨m',hm,w9⟩:=hN ys' σ7 H9 n9
    refine ⟨m',hm,i+1,H9,ys',us',k',σ7,I9.unpinned,T.keep _ _ _ st6 λb hb o e=>(I9.pin (b,o) (G1 _ (G1 _ (mem_pinsAt hb e)))).1,λb hb=>?_,rv9,hz9,w9⟩
    obtain⟨o,e,d⟩:=T.obj _ _ st6 b hb
    exact (I9.pin (b,o) (G1 _ (G1 _ (mem_pinsAt hb e)))).2.1
   cases b with
   | false =>
    rw[if_neg A1]at q8 ⊢
    exact again I8 rv4 hz4 q8
   | true =>
    rw[if_pos rfl]at q8 ⊢
    refine thn (he G.objs.size fp _ s8 σ7 H8 _ I8 q8) λy s9 ⟨yv,H9,I9,r9,n9⟩=>?_
    refine comp_grow (X:=cxComp X own fr sc G.objs.size s2 H2 fp) I9 (R0 _) (λx c e z=>?_) (λp hp z=>?_) (by rw[<- rv4.length];exact hlt) λk' s10 I10=>?_
    ·rcases clb2 _ x c e with y|y
     ·rw[z]at y
      exact absurd (P0 (Nat.lt_succ_of_le hCle) y) (E3 _)
     ·obtain⟨v,q⟩:=I2.cell x c y
      exact absurd (P0 q.lt (by rw[z];exact R0 _)) (E3 _)
    ·have hp:p∈([]:List (Addr×Obj))++pinsAt fp s6.heap:=hp
     rw[y8]at hp
     have:=flt _ (of_pinsAt hp).1
     rw[z]at this
     exact absurd this (E3 _)
    ·exact again I10 (rv4.append (.cons r9 .nil)) (by rw[M0,G4];omega) n9
 exact codeAny_compStart_list (loop _ rfl) (T.self _ 0 _ _ _ st0' (loop _ rfl))
theorem pe_comp{X:Cx}{tg iter elt:Expr}{ifs:List Expr}{sc:Scope}{pos:Pos}{own:List Str}{fr:List Nat}{wi:TI}{g:TG}{tc:TT}{te:TE}(hc:X.calm=true)(S:CompSc X own fr sc)(hi:PI X tg iter wi)
  (hg:∀C s H ex,PG (cxComp X own fr sc C s H ex) tg g) (hif:∀C s H ex,PIf (cxComp X own fr sc C s H ex) ifs tc) (he:∀C s H ex,PE (cxComp X own fr sc C s H ex) elt te)
  (hs:∀x,foldedSetIterable iter X.env x=pure x:=by intro _;rfl):PE X (.ListComp elt [⟨tg,iter,ifs,0⟩] sc pos) (tComp wi own fr g tc te):=by
 intro pins s σ H Q I h
 rw[eval_ListComp]
 refine wpAny_comprehension_free (use:=none) rfl hs (closure_of λy hy e=>I.ok.has y.1 (S.free y hy e)) S.kind S.loc (thn (hi pins s σ H _ I h) λv s1 h1=>thn h1 λitv s2 h2=>?_)
 obtain⟨it,fp,tn,J,H2,e,I2,T,st2,f2,W,⟨m0,w0⟩,turn⟩:=h2
 subst e
 refine comp_block (Q:=Q) (RR:=λacc C=>compPost (model X.prog X.w) X.A X.xe none (EP X pins σ Q) acc C) hc S I2 T st2 f2 (λC ex=>hg C s2 H2 ex) (λC ex=>hif C s2 H2 ex) (λC ex=>he C s2 H2 ex) W m0 w0 turn ?_
 intro D C H' s' I' q ⟨m,hm⟩ fC
 refine ⟨m,hm,λh' sb=>⟨.ref D,H',?_,rfl,q⟩⟩
 obtain⟨f0,f1,f2,f3,f4,f5⟩:=fC
 exact I'.turned (t':=s'.toks) (λb o hb e=>(sb.2 b hb).trans e) f0 f1 f3 f4 f5
theorem ps_setComp{X:Cx}{tg iter elt:Expr}{ifs:List Expr}{sc:Scope}{pos spos py:Pos}{i:Nat}{y:Str}{own:List Str}{fr:List Nat}{wi:TI}{g:TG}{tc:TT}{te:TE}(hN:X.N.Nodup)(hy:X.N[i]?=some y)(hl:X.env.scope.names.lookup y=some .local)(hc:X.calm=true)(S:CompSc X own fr sc)(hi:PI X tg iter wi)
  (hg:∀C s H ex,PG (cxComp X own fr sc C s H ex) tg g) (hif:∀C s H ex,PIf (cxComp X own fr sc C s H ex) ifs tc) (he:∀C s H ex,PE (cxComp X own fr sc C s H ex) elt te)
  (hsw:swapsWith (.ListComp elt [⟨tg,iter,ifs,0⟩] sc pos) (some (.Name y py)) spos.line X.env=pure true:=by rfl)
  (hs:∀x,foldedSetIterable iter X.env x=pure x:=by intro _;rfl):PS X (.Assign [.Name y py] (.ListComp elt [⟨tg,iter,ifs,0⟩] sc pos) spos) (tAsg (tComp wi own fr g tc te) (gName i)):=by
 intro pins s σ H D I h
 rw[exec_Assign_Name_used _ _ _ _ hsw]
 refine wpAny_bind (wpAny_standAt ?_)
 show wpAny _ _ (evalThenUse (.ListComp elt [⟨tg,iter,ifs,0⟩] sc pos) X.env _ >>= _) _ _ s
 refine wpAny_bind ?_
 unfold evalThenUse
 refine wpAny_bind ?_
 refine wpAny_comprehension_free rfl hs (closure_of λy hy e=>I.ok.has y.1 (S.free y hy e)) S.kind S.loc (thn (hi pins s σ H _ I h) λv s1 h1=>thn h1 λitv s2 h2=>?_)
 obtain⟨it,fp,tn,J,H2,e,I2,T,st2,f2,W,⟨m0,w0⟩,turn⟩:=h2
 subst e
 refine comp_block (Q:=λv H1=>D.nx (σ.set i (some v)) H1) hc S I2 T st2 f2 (λC ex=>hg C s2 H2 ex) (λC ex=>hif C s2 H2 ex) (λC ex=>he C s2 H2 ex) W m0 w0 turn ?_
 intro D' C H' s' I' q ⟨m,hm⟩ fC
 obtain⟨f0,f1,f2,f3,f4,f5⟩:=fC
 show wpAny (model X.prog X.w) X.A (assign (.Name y py) X.env (.ref D')) (λ_ s''=>∃m,s''.heap.Ns C m/\∀h',K2 C s''.heap h'->_) X.xe s'
 refine wpAny_assign_Name (store_ok2 I' hN hy (.inl hl) (v:=.ref D') rfl (λs'' I'' hsb=>?_) (.inr hl))
 obtain⟨a,hsb,ha⟩:=hsb
 have hCa:C≠a:=by
  rcases ha with z|z
  ·rw[z];exact f1
  ·exact λe=>f4 y a z e.symm
 obtain⟨m',hm'⟩:∃m',s''.heap.Ns C m':=⟨m,hm.sameBut hsb hCa⟩
 refine ⟨m',hm',λh' sb=>wpAny_pure (wpAny_pure ⟨_,H',?_,q⟩)⟩
 exact I''.turned (t':=s''.toks) (λb o hb e=>(sb.2 b hb).trans e) f0 f1 f3 f4 f5
inductive Kd where|l|t
noncomputable def ItAt(k:Kd)(h:Heap)(it a:Addr)(i:Nat):Prop:=match k with | .l=>h.IsListIter it a i | .t=>h.IsTupleIter it a i
noncomputable def SqAt(k:Kd)(h:Heap)(a:Addr)(xs:Array Value):Prop:=match k with | .l=>h.IsList a xs | .t=>h.IsTuple a xs
noncomputable def itObj(k:Kd)(a:Addr):Obj:=match k with | .l=>{ cls:=.type "list_iterator",data:=.fields #[.ref a,.int 0 0] } | .t=>{ cls:=.type "tuple_iterator",data:=.fields #[.ref a,.int 0 0] }
theorem ItAt.at{k:Kd}{h h':Heap}{it a:Addr}{i:Nat}(x:ItAt k h it a i)(f:∀o,h.get? it=some o->h'.get? it=some o):ItAt k h' it a i:=by
 cases k with
 | l=>exact Heap.IsListIter.at x f
 | t=>exact Heap.IsTupleIter.at x f
theorem SqAt.at{k:Kd}{h h':Heap}{a:Addr}{xs:Array Value}(x:SqAt k h a xs)(f:∀o,h.get? a=some o->h'.get? a=some o):SqAt k h' a xs:=by
 cases k with
 | l=>exact Heap.IsList.at x f
 | t=>obtain⟨o,e,r⟩:=x;exact ⟨o,f o e,r⟩
theorem ItAt.obj{k:Kd}{h:Heap}{it a:Addr}{i:Nat}(x:ItAt k h it a i):∃o,h.get? it=some o/\∀v,o.data≠.cell v:=by
 cases k with
 | l=>obtain⟨o,e,c,d⟩:=x;exact ⟨o,e,λv z=>by rw[d]at z;cases z⟩
 | t=>obtain⟨o,e,c,d⟩:=x;exact ⟨o,e,λv z=>by rw[d]at z;cases z⟩
theorem ItAt.new(k:Kd){h:Heap}{it a:Addr}(e:h.get? it=some (itObj k a)):ItAt k h it a 0:=by
 cases k with
 | l=>exact ⟨_,e,rfl,rfl⟩
 | t=>exact ⟨_,e,rfl,rfl⟩
section
variable {prog:Program}{w:World}{A:Around}{E:Value->Shared->Prop}{s:Shared}
theorem iter_at{k:Kd}{a:Addr}{xs:Array Value}{Q:Value->Shared->Prop}(hl:SqAt k s.heap a xs)(h:Q (.ref s.heap.objs.size) { s with heap:=s.heap.push (itObj k a) }):wpAny (model prog w) A (pyIter (.ref a)) Q E s:=by
 cases k with
 | l=>exact wpAny_pyIter_list hl h
 | t=>exact wpAny_pyIter_tuple hl h
theorem nextOf_tuple_item{it t:Addr}{i:Nat}{items}{x:Value}{Q:Value->Shared->Prop}(hit:s.heap.IsTupleIter it t i)(ht:s.heap.IsTuple t items)(hx:items[i]?=some x)
  (hQ:∀h',h'.IsTupleIter it t (i+1)->K2 it s.heap h'->Q x { s with heap:=h' }):wpAny (model prog w) A (U0 (.ref it)) Q E s:=by
 obtain⟨o,ho,hc,hd⟩:=id hit
 obtain⟨ol,hol,_,nl,hdl⟩:=ht
 unfold U0
 refine wpAny_bind (wpAny_callSpecial?_slot (name:=Str.ofString "__next__") hit.typeIs F.slot_tuple_iterator_next
   (wpAny_call_entry F.slot_tuple_iterator_next hit.typeIs F.entry_tuple_iterator_next ?_ (F.args_tuple_iterator_next_1 _)))
 show wpAny _ _ (field (.ref it) 0 >>= _) _ _ s
 refine wpAny_bind (wpAny_field ho hd (x:=.ref t) rfl ?_)
 show wpAny _ _ (if (Z1 t==L4)=true then _ else _) _ _ s
 rw[if_neg (show ¬((Z1 t==L4)=true) from A1)]
 show wpAny _ _ (field (.ref it) 1 >>= _) _ _ s
 refine wpAny_bind (wpAny_field ho hd (x:=.int i 0) rfl ?_)
 show wpAny _ _ (seqItems? (.ref t) >>= _) _ _ s
 refine wpAny_bind (wpAny_seqItems hol hdl ?_)
 simp only[O5,hx]
 refine wpAny_bind (wpAny_setField ho hd (by simp) (wpAny_pure ⟨x,rfl,wpAny_pure (hQ _ ?_ (A4 ..))⟩))
 exact ⟨_,E4 _ ho (F8 (M6 hd _)),(Obj.cls_mapFields ..).trans hc,by
   rw[M6 hd];simp[rawInt]⟩
theorem nextOf_tuple_end{it l:Addr}{i:Nat}{items}{Q:Value->Shared->Prop}(hh:A.handled=none)
  (hit:s.heap.IsTupleIter it l i) (hl:s.heap.IsTuple l items) (hx:items[i]?=none)
  (hE:∀h' e,K8 it s.heap h'->(∃o,h'.get? e=some o/\o.cls=.type "StopIteration")->E (.ref e) { s with heap:=h' }) :
  wpAny (model prog w) A (U0 (.ref it)) Q E s:=by
 obtain⟨o,ho,hc,hd⟩:=id hit
 obtain⟨ol,hol,_,nl,hdl⟩:=hl
 unfold U0
 refine wpAny_bind (wpAny_callSpecial?_slot (name:=Str.ofString "__next__") hit.typeIs F.slot_tuple_iterator_next
   (wpAny_call_entry F.slot_tuple_iterator_next hit.typeIs F.entry_tuple_iterator_next ?_ (F.args_tuple_iterator_next_1 _)))
 show wpAny _ _ (field (.ref it) 0 >>= _) _ _ s
 refine wpAny_bind (wpAny_field ho hd (x:=.ref l) rfl ?_)
 show wpAny _ _ (if (Z1 l==L4)=true then _ else _) _ _ s
 rw[if_neg (show ¬((Z1 l==L4)=true) from A1)]
 show wpAny _ _ (field (.ref it) 1 >>= _) _ _ s
 refine wpAny_bind (wpAny_field ho hd (x:=.int i 0) rfl ?_)
 show wpAny _ _ (seqItems? (.ref l) >>= _) _ _ s
 refine wpAny_bind (wpAny_seqItems hol hdl ?_)
 simp only[O5,hx]
 refine wpAny_bind (wpAny_rule (wpAny_bind (wpAny_setField ho hd (by simp) ?_)))
 show wpAny _ _ (newExc (.type "StopIteration") [] >>= _) _ _ _
 refine wpAny_bind ?_
 simp only[newExc,newTuple]
 refine wpAny_bind (wpAny_newObj_type ?_ (by size_fits))
 refine wpAny_bind (m:=firstArgMember _ _) (wpAny_of_eq (a:=L4) (by first|rfl|(simp only[firstArgMember];rfl)) ?_)
 refine wpAny_newObj_type ?_ (by size_fits)
 simp only[raiseNew]
 refine wpAny_bind (wpAny_handled ?_)
 first|rw[show A.in1.handled=none from hh]|rw[hh]
 refine wpAny_bind (wpAny_pure (wpAny_throw ?_))
 exact hE _ _ (((A4 ..).extBut.push _).push _) ⟨_,K0 _ rfl,rfl⟩
theorem nextOf_item{k:Kd}{it a:Addr}{i:Nat}{xs:Array Value}{x:Value}{Q:Value->Shared->Prop}(hit:ItAt k s.heap it a i)(hl:SqAt k s.heap a xs)(hx:xs[i]?=some x)
  (hQ:∀h',ItAt k h' it a (i+1)->K2 it s.heap h'->Q x { s with heap:=h' }):wpAny (model prog w) A (U0 (.ref it)) Q E s:=by
 cases k with
 | l=>exact wpAny_nextOf_list_item hit hl hx hQ
 | t=>exact nextOf_tuple_item hit hl hx hQ
theorem nextOf_end{k:Kd}{it a:Addr}{i:Nat}{xs:Array Value}{Q:Value->Shared->Prop}(hh:A.handled=none)(hit:ItAt k s.heap it a i)(hl:SqAt k s.heap a xs)(hx:xs[i]?=none)
  (hE:∀h' e,K8 it s.heap h'->(∃o,h'.get? e=some o/\o.cls=.type "StopIteration")->E (.ref e) { s with heap:=h' }):wpAny (model prog w) A (U0 (.ref it)) Q E s:=by
 cases k with
 | l=>exact wpAny_nextOf_list_end hh hit hl hx hE
 | t=>exact nextOf_tuple_end hh hit hl hx hE
end
noncomputable abbrev IsTup2(h:Heap)(T:Addr)(a1 a2:Value):Prop:=h.get? T=some { cls:=.type "tuple",data:=.seq #[a1,a2] }
structure ZAp2(z TI TO i1 i2 l1 l2:Addr):Prop where
 TIz:TI≠z
 TOz:TO≠z
 i1z:i1≠z
 i2z:i2≠z
 TOTI:TO≠TI
 i1TI:i1≠TI
 i2TI:i2≠TI
 i1TO:i1≠TO
 i2TO:i2≠TO
 i2i1:i2≠i1
 l1z:l1≠z
 l1TO:l1≠TO
 l1i1:l1≠i1
 l1i2:l1≠i2
 l2z:l2≠z
 l2TO:l2≠TO
 l2i1:l2≠i1
 l2i2:l2≠i2
theorem zap2(n l1 l2:Nat)(h1:l1 < n)(h2:l2 < n):ZAp2 (n+4) (n+2) (n+3) n (n+1) l1 l2:=by constructor<;>(show ¬(@Eq Nat _ _))<;>omega
section
variable {prog:Program}{w:World}{A:Around}{E:Value->Shared->Prop}{s:Shared}
theorem upSeq2{T:Addr}{a1 a2 x:Value}{k:Nat}{Q:Unit->Shared->Prop}(hT:IsTup2 s.heap T a1 a2)
  (h:∀h',h'.get? T=some { cls:=.type "tuple",data:=.seq ((#[a1,a2]:Array Value).setIfInBounds k x) }->K2 T s.heap h'->Q () { s with heap:=h' }) :
  wpAny (model prog w) A (updateSeq T (·.setIfInBounds k x)) Q E s:=by
 refine wpAny_updateSeq hT rfl (h _ ?_ (A4 ..))
 rw[E4 _ hT rfl]
 simp[O2]
theorem zipn_item2{z TI TO i1 i2 l1 l2:Addr}{k:Nat}{k1:Kd}{k2:Kd}{xs1 xs2:Array Value}{a1 a2:Value}{x1 x2:Value}{Q:Value->Shared->Prop}(D:ZAp2 z TI TO i1 i2 l1 l2)
  (hz:IsZip s.heap z TI TO .none) (hTI:IsTup2 s.heap TI (.ref i1) (.ref i2)) (hTO:IsTup2 s.heap TO a1 a2)
  (h1:ItAt k1 s.heap i1 l1 k) (h2:ItAt k2 s.heap i2 l2 k) (hl1:SqAt k1 s.heap l1 xs1) (hl2:SqAt k2 s.heap l2 xs2) (hx1:xs1[k]?=some x1) (hx2:xs2[k]?=some x2)
  (hQ:∀h',IsZip h' z TI TO (rawInt s.heap.objs.size)->IsTup2 h' TO x1 x2->ItAt k1 h' i1 l1 (k+1)->ItAt k2 h' i2 l2 (k+1)->IsTup2 h' s.heap.objs.size x1 x2->h'.objs.size=s.heap.objs.size+1 ->
    (∀c o,c≠z->c≠TO->c≠i1->c≠i2->s.heap.get? c=some o->h'.get? c=some o)->Q (.ref s.heap.objs.size) { s with heap:=h' }) :
  wpAny (model prog w) A (Builtin.«zip.__next__» ⟨[.ref z],[]⟩) (λfin s'=>∃v,fin=.done (.ret v)/\Q v s') E s:=by
 show wpAny _ _ (field (.ref z) 2 >>= _) _ _ _
 refine wpAny_bind (wpAny_field hz rfl (x:=.bool false) rfl ?_)
 show wpAny _ _ (field (.ref z) 3 >>= _) _ _ _
 refine wpAny_bind (wpAny_field hz rfl (x:=.ref TI) rfl ?_)
 refine wpAny_bind (wpAny_seqItems hTI rfl ?_)
 show wpAny _ _ (Z0 (.ref z) >>= _) _ _ _
 refine wpAny_bind ?_
 unfold Z0
 refine wpAny_bind (wpAny_field hz rfl (x:=.none) rfl (wpAny_pure ?_))
 simp only[if_true]
 refine wpAny_bind (wpAny_rule ?_)
 refine wpAny_bind (wpAny_field hz rfl (x:=.ref TO) rfl ?_)
 refine wpAny_bind (wpAny_setField_rec hz (by simp) λh₁ hz₁ hs₁=>?_)
 replace hz₁:IsZip h₁ z TI TO .ellipsis:=hz₁
 refine wpAny_bind ?_
 simp only[i7,A7,E5,U5]
 have up₁:∀c o,c≠z->s.heap.get? c=some o->h₁.get? c=some o:=λc o c1 e=>hs₁.extBut _ _ c1 e
 refine wpAny_bind (wpAny_bind (wpAny_onRaise ?_))
 show wpAny _ _ (U0 (.ref i1) >>= _) _ _ _
 refine wpAny_bind (nextOf_item (h1.at λo e=>hs₁.extBut _ o D.i1z e) (hl1.at λo e=>hs₁.extBut _ o D.l1z e) hx1 λha1 hi1 hsa1=>wpAny_pure ?_)
 have hTOa1:IsTup2 ha1 TO a1 a2:=hsa1.extBut _ _ D.i1TO.symm (hs₁.extBut _ _ D.TOz hTO)
 refine wpAny_bind (wpAny_seqItems hTOa1 rfl ?_)
 refine wpAny_bind (upSeq2 hTOa1 λhb1 hTOb1 hsb1=>?_)
 replace hTOb1:IsTup2 hb1 TO x1 a2:=hTOb1
 refine wpAny_bind (wpAny_letGo (wpAny_pure ?_))
 refine wpAny_bind (wpAny_bind (wpAny_onRaise ?_))
 show wpAny _ _ (U0 (.ref i2) >>= _) _ _ _
 refine wpAny_bind (nextOf_item (((h2.at λo e=>hs₁.extBut _ o D.i2z e).at λo e=>hsa1.extBut _ o D.i2i1 e).at λo e=>hsb1.extBut _ o D.i2TO e) (((hl2.at λo e=>hs₁.extBut _ o D.l2z e).at λo e=>hsa1.extBut _ o D.l2i1 e).at λo e=>hsb1.extBut _ o D.l2TO e) hx2 λha2 hi2 hsa2=>wpAny_pure ?_)
 have hTOa2:IsTup2 ha2 TO x1 a2:=hsa2.extBut _ _ D.i2TO.symm hTOb1
 refine wpAny_bind (wpAny_seqItems hTOa2 rfl ?_)
 refine wpAny_bind (upSeq2 hTOa2 λhb2 hTOb2 hsb2=>?_)
 replace hTOb2:IsTup2 hb2 TO x1 x2:=hTOb2
 refine wpAny_bind (wpAny_letGo (wpAny_pure (wpAny_pure ?_)))
 refine wpAny_bind (wpAny_seqItems hTOb2 rfl ?_)
 refine wpAny_bind (wpAny_newTuple ?_)
 have hsz:hb2.objs.size=s.heap.objs.size:=by rw[hsb2.1,hsa2.1,hsb1.1,hsa1.1,hs₁.1]
 have hzG:IsZip hb2 z TI TO .ellipsis:=(hsb2.extBut _ _ D.TOz.symm (hsa2.extBut _ _ D.i2z.symm (hsb1.extBut _ _ D.TOz.symm (hsa1.extBut _ _ D.i1z.symm hz₁))))
 have hkG:∀c o,c≠z->c≠TO->c≠i1->c≠i2->s.heap.get? c=some o->hb2.get? c=some o:=λc o c1 c2 d1 d2 e=>(hsb2.extBut _ _ c2 (hsa2.extBut _ _ d2 (hsb1.extBut _ _ c2 (hsa1.extBut _ _ d1 (hs₁.extBut _ _ c1 e)))))
 have hiG1:ItAt k1 hb2 i1 l1 (k+1):=(((hi1.at λo e=>hsb1.extBut _ o D.i1TO e).at λo e=>hsa2.extBut _ o D.i2i1.symm e).at λo e=>hsb2.extBut _ o D.i1TO e)
 have hiG2:ItAt k2 hb2 i2 l2 (k+1):=(hi2.at λo e=>hsb2.extBut _ o D.i2TO e)
 have hzlt:z < hb2.objs.size:=G0 hzG
 show wpAny _ _ (V3 (.ref z) (.ref hb2.objs.size) >>= _) _ _ _
 refine wpAny_bind ?_
 unfold V3
 have hz₆:IsZip (hb2.push { cls:=.type "tuple",data:=.seq #[x1,x2] }) z TI TO .ellipsis:=g0 _ hzG
 refine wpAny_bind (wpAny_setField_rec hz₆ (by simp) λh₇ hz₇ hs₇=>?_)
 replace hz₇:IsZip h₇ z TI TO (rawInt hb2.objs.size):=hz₇
 refine wpAny_setField_rec hz₇ (by simp) λh₈ hz₈ hs₈=>?_
 replace hz₈:IsZip h₈ z TI TO (rawInt hb2.objs.size):=hz₈
 have up:∀c o,c≠z->hb2.get? c=some o->h₈.get? c=some o:=λc o c1 e=>hs₈.extBut _ _ c1 (hs₇.extBut _ _ c1 (g0 _ e))
 have hT₈:IsTup2 h₈ hb2.objs.size x1 x2:=hs₈.extBut _ _ (B2 hzlt) (hs₇.extBut _ _ (B2 hzlt) (K0 _ rfl))
 have hz8:h₈.objs.size=hb2.objs.size+1:=by rw[hs₈.1,hs₇.1,O1]
 rw[hsz]at hz₈ hT₈ hz8
 refine wpAny_pure ⟨_,rfl,?_⟩
 show Q (.ref hb2.objs.size) _
 rw[hsz]
 exact hQ h₈ hz₈ (up _ _ D.TOz hTOb2) (hiG1.at λo e=>up _ o D.i1z e) (hiG2.at λo e=>up _ o D.i2z e) hT₈ hz8 λc o c1 c2 d1 d2 e=>up c o c1 (hkG c o c1 c2 d1 d2 e)
theorem zipn_end2{z TI TO i1 i2 l1 l2:Addr}{k:Nat}{k1:Kd}{k2:Kd}{xs1 xs2:Array Value}{a1 a2:Value}{Q:Fin->Shared->Prop}(hh:A.handled=none)(D:ZAp2 z TI TO i1 i2 l1 l2)
  (hz:IsZip s.heap z TI TO .none) (hTI:IsTup2 s.heap TI (.ref i1) (.ref i2)) (hTO:IsTup2 s.heap TO a1 a2)
  (h1:ItAt k1 s.heap i1 l1 k) (h2:ItAt k2 s.heap i2 l2 k) (hl1:SqAt k1 s.heap l1 xs1) (hl2:SqAt k2 s.heap l2 xs2) (hend:xs1[k]?=none\/xs2[k]?=none)
  (hE:∀h' e,(∀c o,c≠z->c≠TO->c≠i1->c≠i2->s.heap.get? c=some o->h'.get? c=some o)->(∃o,h'.get? e=some o/\o.cls=.type "StopIteration")->E (.ref e) { s with heap:=h' }) :
  wpAny (model prog w) A (Builtin.«zip.__next__» ⟨[.ref z],[]⟩) Q E s:=by
 show wpAny _ _ (field (.ref z) 2 >>= _) _ _ _
 refine wpAny_bind (wpAny_field hz rfl (x:=.bool false) rfl ?_)
 show wpAny _ _ (field (.ref z) 3 >>= _) _ _ _
 refine wpAny_bind (wpAny_field hz rfl (x:=.ref TI) rfl ?_)
 refine wpAny_bind (wpAny_seqItems hTI rfl ?_)
 show wpAny _ _ (Z0 (.ref z) >>= _) _ _ _
 refine wpAny_bind ?_
 unfold Z0
 refine wpAny_bind (wpAny_field hz rfl (x:=.none) rfl (wpAny_pure ?_))
 simp only[if_true]
 refine wpAny_bind (wpAny_rule ?_)
 refine wpAny_bind (wpAny_field hz rfl (x:=.ref TO) rfl ?_)
 refine wpAny_bind (wpAny_setField_rec hz (by simp) λh₁ hz₁ hs₁=>?_)
 replace hz₁:IsZip h₁ z TI TO .ellipsis:=hz₁
 refine wpAny_bind ?_
 simp only[i7,A7,E5,U5]
 refine wpAny_bind (wpAny_bind (wpAny_onRaise ?_))
 show wpAny _ _ (U0 (.ref i1) >>= _) _ _ _
 cases hx1:xs1[k]? with
 | none =>
  refine wpAny_bind (nextOf_end hh (h1.at λo e=>hs₁.extBut _ o D.i1z e) (hl1.at λo e=>hs₁.extBut _ o D.l1z e) hx1 λhq e hsq he=>?_)
  obtain⟨oe,hoe,hce⟩:=he
  have hzq:IsZip hq z TI TO .ellipsis:=hsq _ _ D.i1z.symm hz₁
  have hez:e≠z:=λx=>by subst x;rw[hzq]at hoe;cases hoe;simp at hce
  refine wpAny_setField_rec hzq (by simp) λh₉ _ hs₉=>hE h₉ e (λc o c1 c2 d1 d2 x=>hs₉.extBut _ _ c1 (hsq _ _ d1 (hs₁.extBut _ _ c1 x))) ⟨oe,hs₉.extBut _ _ hez hoe,hce⟩
 | some x1 =>
  refine wpAny_bind (nextOf_item (h1.at λo e=>hs₁.extBut _ o D.i1z e) (hl1.at λo e=>hs₁.extBut _ o D.l1z e) hx1 λha1 hi1 hsa1=>wpAny_pure ?_)
  have hTOa1:IsTup2 ha1 TO a1 a2:=hsa1.extBut _ _ D.i1TO.symm (hs₁.extBut _ _ D.TOz hTO)
  refine wpAny_bind (wpAny_seqItems hTOa1 rfl ?_)
  refine wpAny_bind (upSeq2 hTOa1 λhb1 hTOb1 hsb1=>?_)
  replace hTOb1:IsTup2 hb1 TO x1 a2:=hTOb1
  refine wpAny_bind (wpAny_letGo (wpAny_pure ?_))
  refine wpAny_bind (wpAny_bind (wpAny_onRaise ?_))
  show wpAny _ _ (U0 (.ref i2) >>= _) _ _ _
  have hx2:xs2[k]?=none:=by
   rcases hend with h|h
   ·rw[hx1]at h;cases h
   ·exact h
  refine wpAny_bind (nextOf_end hh (((h2.at λo e=>hs₁.extBut _ o D.i2z e).at λo e=>hsa1.extBut _ o D.i2i1 e).at λo e=>hsb1.extBut _ o D.i2TO e) (((hl2.at λo e=>hs₁.extBut _ o D.l2z e).at λo e=>hsa1.extBut _ o D.l2i1 e).at λo e=>hsb1.extBut _ o D.l2TO e) hx2 λhq e hsq he=>?_)
  obtain⟨oe,hoe,hce⟩:=he
  have hzq:IsZip hq z TI TO .ellipsis:=hsq _ _ D.i2z.symm (hsb1.extBut _ _ D.TOz.symm (hsa1.extBut _ _ D.i1z.symm hz₁))
  have hez:e≠z:=λx=>by subst x;rw[hzq]at hoe;cases hoe;simp at hce
  refine wpAny_setField_rec hzq (by simp) λh₉ _ hs₉=>hE h₉ e (λc o c1 c2 d1 d2 x=>hs₉.extBut _ _ c1 (hsq _ _ d2 (hsb1.extBut _ _ c2 (hsa1.extBut _ _ d1 (hs₁.extBut _ _ c1 x))))) ⟨oe,hs₉.extBut _ _ hez hoe,hce⟩
theorem next_zip_item2{z TI TO i1 i2 l1 l2:Addr}{k:Nat}{k1:Kd}{k2:Kd}{xs1 xs2:Array Value}{a1 a2:Value}{x1 x2:Value}{Q:Option Value->Shared->Prop}(D:ZAp2 z TI TO i1 i2 l1 l2)
  (hz:IsZip s.heap z TI TO .none) (hTI:IsTup2 s.heap TI (.ref i1) (.ref i2)) (hTO:IsTup2 s.heap TO a1 a2)
  (h1:ItAt k1 s.heap i1 l1 k) (h2:ItAt k2 s.heap i2 l2 k) (hl1:SqAt k1 s.heap l1 xs1) (hl2:SqAt k2 s.heap l2 xs2) (hx1:xs1[k]?=some x1) (hx2:xs2[k]?=some x2)
  (hQ:∀h',IsZip h' z TI TO (rawInt s.heap.objs.size)->IsTup2 h' TO x1 x2->ItAt k1 h' i1 l1 (k+1)->ItAt k2 h' i2 l2 (k+1)->IsTup2 h' s.heap.objs.size x1 x2->h'.objs.size=s.heap.objs.size+1 ->
    (∀c o,c≠z->c≠TO->c≠i1->c≠i2->s.heap.get? c=some o->h'.get? c=some o)->Q (some (.ref s.heap.objs.size)) { s with heap:=h' }) :
  wpAny (model prog w) A (pyNext (.ref z)) Q E s:=by
 have hT:s.TypeIs (.ref z) "zip":=⟨_,hz,rfl⟩
 unfold pyNext
 exact wpAny_bind (wpAny_attempt (wpAny_callSpecial?_slot (name:=Str.ofString "__next__") hT F.slot_zip_next
   (wpAny_call_entry F.slot_zip_next hT F.entry_zip_next
     (zipn_item2 D hz hTI hTO h1 h2 hl1 hl2 hx1 hx2 λh' a1 a2 b1 b2 a5 a6 a7=>wpAny_pure (hQ h' a1 a2 b1 b2 a5 a6 a7)) (F.args_zip_next_1 _))))
theorem next_zip_end2{z TI TO i1 i2 l1 l2:Addr}{k:Nat}{k1:Kd}{k2:Kd}{xs1 xs2:Array Value}{a1 a2:Value}{Q:Option Value->Shared->Prop}(hh:A.handled=none)(D:ZAp2 z TI TO i1 i2 l1 l2)
  (hz:IsZip s.heap z TI TO .none) (hTI:IsTup2 s.heap TI (.ref i1) (.ref i2)) (hTO:IsTup2 s.heap TO a1 a2)
  (h1:ItAt k1 s.heap i1 l1 k) (h2:ItAt k2 s.heap i2 l2 k) (hl1:SqAt k1 s.heap l1 xs1) (hl2:SqAt k2 s.heap l2 xs2) (hend:xs1[k]?=none\/xs2[k]?=none)
  (hQ:∀h',(∀c o,c≠z->c≠TO->c≠i1->c≠i2->s.heap.get? c=some o->h'.get? c=some o)->Q none { s with heap:=h' }):wpAny (model prog w) A (pyNext (.ref z)) Q E s:=by
 have hT:s.TypeIs (.ref z) "zip":=⟨_,hz,rfl⟩
 unfold pyNext
 refine wpAny_bind (wpAny_attempt (wpAny_callSpecial?_slot (name:=Str.ofString "__next__") hT F.slot_zip_next
   (wpAny_call_entry F.slot_zip_next hT F.entry_zip_next (zipn_end2 hh D hz hTI hTO h1 h2 hl1 hl2 hend λh' e hk he=>?_) (F.args_zip_next_1 _))))
 obtain⟨o,ho,hc⟩:=he
 refine wpAny_bind (wpAny_isInstance (T:="StopIteration") (b:=true) ⟨o,ho,hc⟩ isSubtype_stop ?_)
 exact wpAny_pure (hQ _ hk)
end
noncomputable abbrev zh2I(h:Heap)(k1:Kd)(k2:Kd)(l1 l2:Addr):Heap:=((h.push (itObj k1 l1)).push (itObj k2 l2))
noncomputable abbrev zh2T(h:Heap)(k1:Kd)(k2:Kd)(l1 l2:Addr):Heap:=(zh2I h k1 k2 l1 l2).push { cls:=.type "tuple",data:=.seq #[.ref h.objs.size,.ref (h.push (itObj k1 l1)).objs.size] }
noncomputable abbrev zh2O(h:Heap)(k1:Kd)(k2:Kd)(l1 l2:Addr):Heap:=(zh2T h k1 k2 l1 l2).push { cls:=.type "tuple",data:=.seq #[.none,.none] }
noncomputable abbrev zh2Z(h:Heap)(k1:Kd)(k2:Kd)(l1 l2:Addr):Heap:=(zh2O h k1 k2 l1 l2).push { cls:=.type "zip",data:=.fields #[.none,.bool false,.bool false,.ref (zh2I h k1 k2 l1 l2).objs.size,.ref (zh2T h k1 k2 l1 l2).objs.size] }
theorem zip_new2(k1:Kd)(k2:Kd)(l1 l2:Addr)(xs1 xs2:Array Value) :
  Meets (Builtin.«zip.__new__» ⟨[.type "zip",.ref l1,.ref l2],[]⟩) (λ_ R s=>SqAt k1 s.heap l1 xs1/\SqAt k2 s.heap l2 xs2 /\
    R (.ok (.ret (.ref (zh2O s.heap k1 k2 l1 l2).objs.size))) { s with heap:=zh2Z s.heap k1 k2 l1 l2 }) :=
 .of_wp λprog w A R s h=>by
  obtain⟨hp,g,d,tk,os⟩:=s;obtain⟨hl1,hl2,h⟩:=h
  have hsub:=sub_zip
  have hL1:SqAt k1 (Shared.heap ⟨hp,g,d,tk,os⟩) l1 xs1:=hl1
  have hL2:SqAt k2 (Shared.heap ⟨(hp.push (itObj k1 l1)),g,d,tk,os⟩) l2 xs2:=(SqAt.at hl2 λo e=>g0 _ e)
  wp_walk using iter_at hL1,iter_at hL2
  exact ⟨_,rfl,h⟩
noncomputable abbrev IsTup3(h:Heap)(T:Addr)(a1 a2 a3:Value):Prop:=h.get? T=some { cls:=.type "tuple",data:=.seq #[a1,a2,a3] }
structure ZAp3(z TI TO i1 i2 i3 l1 l2 l3:Addr):Prop where
 TIz:TI≠z
 TOz:TO≠z
 i1z:i1≠z
 i2z:i2≠z
 i3z:i3≠z
 TOTI:TO≠TI
 i1TI:i1≠TI
 i2TI:i2≠TI
 i3TI:i3≠TI
 i1TO:i1≠TO
 i2TO:i2≠TO
 i3TO:i3≠TO
 i2i1:i2≠i1
 i3i1:i3≠i1
 i3i2:i3≠i2
 l1z:l1≠z
 l1TO:l1≠TO
 l1i1:l1≠i1
 l1i2:l1≠i2
 l1i3:l1≠i3
 l2z:l2≠z
 l2TO:l2≠TO
 l2i1:l2≠i1
 l2i2:l2≠i2
 l2i3:l2≠i3
 l3z:l3≠z
 l3TO:l3≠TO
 l3i1:l3≠i1
 l3i2:l3≠i2
 l3i3:l3≠i3
theorem zap3(n l1 l2 l3:Nat)(h1:l1 < n)(h2:l2 < n)(h3:l3 < n):ZAp3 (n+5) (n+3) (n+4) n (n+1) (n+2) l1 l2 l3:=by constructor<;>(show ¬(@Eq Nat _ _))<;>omega
section
variable {prog:Program}{w:World}{A:Around}{E:Value->Shared->Prop}{s:Shared}
theorem upSeq3{T:Addr}{a1 a2 a3 x:Value}{k:Nat}{Q:Unit->Shared->Prop}(hT:IsTup3 s.heap T a1 a2 a3)
  (h:∀h',h'.get? T=some { cls:=.type "tuple",data:=.seq ((#[a1,a2,a3]:Array Value).setIfInBounds k x) }->K2 T s.heap h'->Q () { s with heap:=h' }) :
  wpAny (model prog w) A (updateSeq T (·.setIfInBounds k x)) Q E s:=by
 refine wpAny_updateSeq hT rfl (h _ ?_ (A4 ..))
 rw[E4 _ hT rfl]
 simp[O2]
theorem zipn_item3{z TI TO i1 i2 i3 l1 l2 l3:Addr}{k:Nat}{k1:Kd}{k2:Kd}{k3:Kd}{xs1 xs2 xs3:Array Value}{a1 a2 a3:Value}{x1 x2 x3:Value}{Q:Value->Shared->Prop}(D:ZAp3 z TI TO i1 i2 i3 l1 l2 l3)
  (hz:IsZip s.heap z TI TO .none) (hTI:IsTup3 s.heap TI (.ref i1) (.ref i2) (.ref i3)) (hTO:IsTup3 s.heap TO a1 a2 a3)
  (h1:ItAt k1 s.heap i1 l1 k) (h2:ItAt k2 s.heap i2 l2 k) (h3:ItAt k3 s.heap i3 l3 k) (hl1:SqAt k1 s.heap l1 xs1) (hl2:SqAt k2 s.heap l2 xs2) (hl3:SqAt k3 s.heap l3 xs3) (hx1:xs1[k]?=some x1) (hx2:xs2[k]?=some x2) (hx3:xs3[k]?=some x3)
  (hQ:∀h',IsZip h' z TI TO (rawInt s.heap.objs.size)->IsTup3 h' TO x1 x2 x3->ItAt k1 h' i1 l1 (k+1)->ItAt k2 h' i2 l2 (k+1)->ItAt k3 h' i3 l3 (k+1)->IsTup3 h' s.heap.objs.size x1 x2 x3->h'.objs.size=s.heap.objs.size+1 ->
    (∀c o,c≠z->c≠TO->c≠i1->c≠i2->c≠i3->s.heap.get? c=some o->h'.get? c=some o)->Q (.ref s.heap.objs.size) { s with heap:=h' }) :
  wpAny (model prog w) A (Builtin.«zip.__next__» ⟨[.ref z],[]⟩) (λfin s'=>∃v,fin=.done (.ret v)/\Q v s') E s:=by
 show wpAny _ _ (field (.ref z) 2 >>= _) _ _ _
 refine wpAny_bind (wpAny_field hz rfl (x:=.bool false) rfl ?_)
 show wpAny _ _ (field (.ref z) 3 >>= _) _ _ _
 refine wpAny_bind (wpAny_field hz rfl (x:=.ref TI) rfl ?_)
 refine wpAny_bind (wpAny_seqItems hTI rfl ?_)
 show wpAny _ _ (Z0 (.ref z) >>= _) _ _ _
 refine wpAny_bind ?_
 unfold Z0
 refine wpAny_bind (wpAny_field hz rfl (x:=.none) rfl (wpAny_pure ?_))
 simp only[if_true]
 refine wpAny_bind (wpAny_rule ?_)
 refine wpAny_bind (wpAny_field hz rfl (x:=.ref TO) rfl ?_)
 refine wpAny_bind (wpAny_setField_rec hz (by simp) λh₁ hz₁ hs₁=>?_)
 replace hz₁:IsZip h₁ z TI TO .ellipsis:=hz₁
 refine wpAny_bind ?_
 simp only[i7,A7,E5,U5]
 have up₁:∀c o,c≠z->s.heap.get? c=some o->h₁.get? c=some o:=λc o c1 e=>hs₁.extBut _ _ c1 e
 refine wpAny_bind (wpAny_bind (wpAny_onRaise ?_))
 show wpAny _ _ (U0 (.ref i1) >>= _) _ _ _
 refine wpAny_bind (nextOf_item (h1.at λo e=>hs₁.extBut _ o D.i1z e) (hl1.at λo e=>hs₁.extBut _ o D.l1z e) hx1 λha1 hi1 hsa1=>wpAny_pure ?_)
 have hTOa1:IsTup3 ha1 TO a1 a2 a3:=hsa1.extBut _ _ D.i1TO.symm (hs₁.extBut _ _ D.TOz hTO)
 refine wpAny_bind (wpAny_seqItems hTOa1 rfl ?_)
 refine wpAny_bind (upSeq3 hTOa1 λhb1 hTOb1 hsb1=>?_)
 replace hTOb1:IsTup3 hb1 TO x1 a2 a3:=hTOb1
 refine wpAny_bind (wpAny_letGo (wpAny_pure ?_))
 refine wpAny_bind (wpAny_bind (wpAny_onRaise ?_))
 show wpAny _ _ (U0 (.ref i2) >>= _) _ _ _
 refine wpAny_bind (nextOf_item (((h2.at λo e=>hs₁.extBut _ o D.i2z e).at λo e=>hsa1.extBut _ o D.i2i1 e).at λo e=>hsb1.extBut _ o D.i2TO e) (((hl2.at λo e=>hs₁.extBut _ o D.l2z e).at λo e=>hsa1.extBut _ o D.l2i1 e).at λo e=>hsb1.extBut _ o D.l2TO e) hx2 λha2 hi2 hsa2=>wpAny_pure ?_)
 have hTOa2:IsTup3 ha2 TO x1 a2 a3:=hsa2.extBut _ _ D.i2TO.symm hTOb1
 refine wpAny_bind (wpAny_seqItems hTOa2 rfl ?_)
 refine wpAny_bind (upSeq3 hTOa2 λhb2 hTOb2 hsb2=>?_)
 replace hTOb2:IsTup3 hb2 TO x1 x2 a3:=hTOb2
 refine wpAny_bind (wpAny_letGo (wpAny_pure ?_))
 refine wpAny_bind (wpAny_bind (wpAny_onRaise ?_))
 show wpAny _ _ (U0 (.ref i3) >>= _) _ _ _
 refine wpAny_bind (nextOf_item (((((h3.at λo e=>hs₁.extBut _ o D.i3z e).at λo e=>hsa1.extBut _ o D.i3i1 e).at λo e=>hsb1.extBut _ o D.i3TO e).at λo e=>hsa2.extBut _ o D.i3i2 e).at λo e=>hsb2.extBut _ o D.i3TO e) (((((hl3.at λo e=>hs₁.extBut _ o D.l3z e).at λo e=>hsa1.extBut _ o D.l3i1 e).at λo e=>hsb1.extBut _ o D.l3TO e).at λo e=>hsa2.extBut _ o D.l3i2 e).at λo e=>hsb2.extBut _ o D.l3TO e) hx3 λha3 hi3 hsa3=>wpAny_pure ?_)
 have hTOa3:IsTup3 ha3 TO x1 x2 a3:=hsa3.extBut _ _ D.i3TO.symm hTOb2
 refine wpAny_bind (wpAny_seqItems hTOa3 rfl ?_)
 refine wpAny_bind (upSeq3 hTOa3 λhb3 hTOb3 hsb3=>?_)
 replace hTOb3:IsTup3 hb3 TO x1 x2 x3:=hTOb3
 refine wpAny_bind (wpAny_letGo (wpAny_pure (wpAny_pure ?_)))
 refine wpAny_bind (wpAny_seqItems hTOb3 rfl ?_)
 refine wpAny_bind (wpAny_newTuple ?_)
 have hsz:hb3.objs.size=s.heap.objs.size:=by rw[hsb3.1,hsa3.1,hsb2.1,hsa2.1,hsb1.1,hsa1.1,hs₁.1]
 have hzG:IsZip hb3 z TI TO .ellipsis:=(hsb3.extBut _ _ D.TOz.symm (hsa3.extBut _ _ D.i3z.symm (hsb2.extBut _ _ D.TOz.symm (hsa2.extBut _ _ D.i2z.symm (hsb1.extBut _ _ D.TOz.symm (hsa1.extBut _ _ D.i1z.symm hz₁))))))
 have hkG:∀c o,c≠z->c≠TO->c≠i1->c≠i2->c≠i3->s.heap.get? c=some o->hb3.get? c=some o:=λc o c1 c2 d1 d2 d3 e=>(hsb3.extBut _ _ c2 (hsa3.extBut _ _ d3 (hsb2.extBut _ _ c2 (hsa2.extBut _ _ d2 (hsb1.extBut _ _ c2 (hsa1.extBut _ _ d1 (hs₁.extBut _ _ c1 e)))))))
 have hiG1:ItAt k1 hb3 i1 l1 (k+1):=(((((hi1.at λo e=>hsb1.extBut _ o D.i1TO e).at λo e=>hsa2.extBut _ o D.i2i1.symm e).at λo e=>hsb2.extBut _ o D.i1TO e).at λo e=>hsa3.extBut _ o D.i3i1.symm e).at λo e=>hsb3.extBut _ o D.i1TO e)
 have hiG2:ItAt k2 hb3 i2 l2 (k+1):=(((hi2.at λo e=>hsb2.extBut _ o D.i2TO e).at λo e=>hsa3.extBut _ o D.i3i2.symm e).at λo e=>hsb3.extBut _ o D.i2TO e)
 have hiG3:ItAt k3 hb3 i3 l3 (k+1):=(hi3.at λo e=>hsb3.extBut _ o D.i3TO e)
 have hzlt:z < hb3.objs.size:=G0 hzG
 show wpAny _ _ (V3 (.ref z) (.ref hb3.objs.size) >>= _) _ _ _
 refine wpAny_bind ?_
 unfold V3
 have hz₆:IsZip (hb3.push { cls:=.type "tuple",data:=.seq #[x1,x2,x3] }) z TI TO .ellipsis:=g0 _ hzG
 refine wpAny_bind (wpAny_setField_rec hz₆ (by simp) λh₇ hz₇ hs₇=>?_)
 replace hz₇:IsZip h₇ z TI TO (rawInt hb3.objs.size):=hz₇
 refine wpAny_setField_rec hz₇ (by simp) λh₈ hz₈ hs₈=>?_
 replace hz₈:IsZip h₈ z TI TO (rawInt hb3.objs.size):=hz₈
 have up:∀c o,c≠z->hb3.get? c=some o->h₈.get? c=some o:=λc o c1 e=>hs₈.extBut _ _ c1 (hs₇.extBut _ _ c1 (g0 _ e))
 have hT₈:IsTup3 h₈ hb3.objs.size x1 x2 x3:=hs₈.extBut _ _ (B2 hzlt) (hs₇.extBut _ _ (B2 hzlt) (K0 _ rfl))
 have hz8:h₈.objs.size=hb3.objs.size+1:=by rw[hs₈.1,hs₇.1,O1]
 rw[hsz]at hz₈ hT₈ hz8
 refine wpAny_pure ⟨_,rfl,?_⟩
 show Q (.ref hb3.objs.size) _
 rw[hsz]
 exact hQ h₈ hz₈ (up _ _ D.TOz hTOb3) (hiG1.at λo e=>up _ o D.i1z e) (hiG2.at λo e=>up _ o D.i2z e) (hiG3.at λo e=>up _ o D.i3z e) hT₈ hz8 λc o c1 c2 d1 d2 d3 e=>up c o c1 (hkG c o c1 c2 d1 d2 d3 e)
theorem zipn_end3{z TI TO i1 i2 i3 l1 l2 l3:Addr}{k:Nat}{k1:Kd}{k2:Kd}{k3:Kd}{xs1 xs2 xs3:Array Value}{a1 a2 a3:Value}{Q:Fin->Shared->Prop}(hh:A.handled=none)(D:ZAp3 z TI TO i1 i2 i3 l1 l2 l3)
  (hz:IsZip s.heap z TI TO .none) (hTI:IsTup3 s.heap TI (.ref i1) (.ref i2) (.ref i3)) (hTO:IsTup3 s.heap TO a1 a2 a3)
  (h1:ItAt k1 s.heap i1 l1 k) (h2:ItAt k2 s.heap i2 l2 k) (h3:ItAt k3 s.heap i3 l3 k) (hl1:SqAt k1 s.heap l1 xs1) (hl2:SqAt k2 s.heap l2 xs2) (hl3:SqAt k3 s.heap l3 xs3) (hend:xs1[k]?=none\/xs2[k]?=none\/xs3[k]?=none)
  (hE:∀h' e,(∀c o,c≠z->c≠TO->c≠i1->c≠i2->c≠i3->s.heap.get? c=some o->h'.get? c=some o)->(∃o,h'.get? e=some o/\o.cls=.type "StopIteration")->E (.ref e) { s with heap:=h' }) :
  wpAny (model prog w) A (Builtin.«zip.__next__» ⟨[.ref z],[]⟩) Q E s:=by
 show wpAny _ _ (field (.ref z) 2 >>= _) _ _ _
 refine wpAny_bind (wpAny_field hz rfl (x:=.bool false) rfl ?_)
 show wpAny _ _ (field (.ref z) 3 >>= _) _ _ _
 refine wpAny_bind (wpAny_field hz rfl (x:=.ref TI) rfl ?_)
 refine wpAny_bind (wpAny_seqItems hTI rfl ?_)
 show wpAny _ _ (Z0 (.ref z) >>= _) _ _ _
 refine wpAny_bind ?_
 unfold Z0
 refine wpAny_bind (wpAny_field hz rfl (x:=.none) rfl (wpAny_pure ?_))
 simp only[if_true]
 refine wpAny_bind (wpAny_rule ?_)
 refine wpAny_bind (wpAny_field hz rfl (x:=.ref TO) rfl ?_)
 refine wpAny_bind (wpAny_setField_rec hz (by simp) λh₁ hz₁ hs₁=>?_)
 replace hz₁:IsZip h₁ z TI TO .ellipsis:=hz₁
 refine wpAny_bind ?_
 simp only[i7,A7,E5,U5]
 refine wpAny_bind (wpAny_bind (wpAny_onRaise ?_))
 show wpAny _ _ (U0 (.ref i1) >>= _) _ _ _
 cases hx1:xs1[k]? with
 | none =>
  refine wpAny_bind (nextOf_end hh (h1.at λo e=>hs₁.extBut _ o D.i1z e) (hl1.at λo e=>hs₁.extBut _ o D.l1z e) hx1 λhq e hsq he=>?_)
  obtain⟨oe,hoe,hce⟩:=he
  have hzq:IsZip hq z TI TO .ellipsis:=hsq _ _ D.i1z.symm hz₁
  have hez:e≠z:=λx=>by subst x;rw[hzq]at hoe;cases hoe;simp at hce
  refine wpAny_setField_rec hzq (by simp) λh₉ _ hs₉=>hE h₉ e (λc o c1 c2 d1 d2 d3 x=>hs₉.extBut _ _ c1 (hsq _ _ d1 (hs₁.extBut _ _ c1 x))) ⟨oe,hs₉.extBut _ _ hez hoe,hce⟩
 | some x1 =>
  refine wpAny_bind (nextOf_item (h1.at λo e=>hs₁.extBut _ o D.i1z e) (hl1.at λo e=>hs₁.extBut _ o D.l1z e) hx1 λha1 hi1 hsa1=>wpAny_pure ?_)
  have hTOa1:IsTup3 ha1 TO a1 a2 a3:=hsa1.extBut _ _ D.i1TO.symm (hs₁.extBut _ _ D.TOz hTO)
  refine wpAny_bind (wpAny_seqItems hTOa1 rfl ?_)
  refine wpAny_bind (upSeq3 hTOa1 λhb1 hTOb1 hsb1=>?_)
  replace hTOb1:IsTup3 hb1 TO x1 a2 a3:=hTOb1
  refine wpAny_bind (wpAny_letGo (wpAny_pure ?_))
  refine wpAny_bind (wpAny_bind (wpAny_onRaise ?_))
  show wpAny _ _ (U0 (.ref i2) >>= _) _ _ _
  cases hx2:xs2[k]? with
  | none =>
   refine wpAny_bind (nextOf_end hh (((h2.at λo e=>hs₁.extBut _ o D.i2z e).at λo e=>hsa1.extBut _ o D.i2i1 e).at λo e=>hsb1.extBut _ o D.i2TO e) (((hl2.at λo e=>hs₁.extBut _ o D.l2z e).at λo e=>hsa1.extBut _ o D.l2i1 e).at λo e=>hsb1.extBut _ o D.l2TO e) hx2 λhq e hsq he=>?_)
   obtain⟨oe,hoe,hce⟩:=he
   have hzq:IsZip hq z TI TO .ellipsis:=hsq _ _ D.i2z.symm (hsb1.extBut _ _ D.TOz.symm (hsa1.extBut _ _ D.i1z.symm hz₁))
   have hez:e≠z:=λx=>by subst x;rw[hzq]at hoe;cases hoe;simp at hce
   refine wpAny_setField_rec hzq (by simp) λh₉ _ hs₉=>hE h₉ e (λc o c1 c2 d1 d2 d3 x=>hs₉.extBut _ _ c1 (hsq _ _ d2 (hsb1.extBut _ _ c2 (hsa1.extBut _ _ d1 (hs₁.extBut _ _ c1 x))))) ⟨oe,hs₉.extBut _ _ hez hoe,hce⟩
  | some x2 =>
   refine wpAny_bind (nextOf_item (((h2.at λo e=>hs₁.extBut _ o D.i2z e).at λo e=>hsa1.extBut _ o D.i2i1 e).at λo e=>hsb1.extBut _ o D.i2TO e) (((hl2.at λo e=>hs₁.extBut _ o D.l2z e).at λo e=>hsa1.extBut _ o D.l2i1 e).at λo e=>hsb1.extBut _ o D.l2TO e) hx2 λha2 hi2 hsa2=>wpAny_pure ?_)
   have hTOa2:IsTup3 ha2 TO x1 a2 a3:=hsa2.extBut _ _ D.i2TO.symm hTOb1
   refine wpAny_bind (wpAny_seqItems hTOa2 rfl ?_)
   refine wpAny_bind (upSeq3 hTOa2 λhb2 hTOb2 hsb2=>?_)
   replace hTOb2:IsTup3 hb2 TO x1 x2 a3:=hTOb2
   refine wpAny_bind (wpAny_letGo (wpAny_pure ?_))
   refine wpAny_bind (wpAny_bind (wpAny_onRaise ?_))
   show wpAny _ _ (U0 (.ref i3) >>= _) _ _ _
   have hx3:xs3[k]?=none:=by
    rcases hend with h|h|h
    ·rw[hx1]at h;cases h
    ·rw[hx2]at h;cases h
    ·exact h
   refine wpAny_bind (nextOf_end hh (((((h3.at λo e=>hs₁.extBut _ o D.i3z e).at λo e=>hsa1.extBut _ o D.i3i1 e).at λo e=>hsb1.extBut _ o D.i3TO e).at λo e=>hsa2.extBut _ o D.i3i2 e).at λo e=>hsb2.extBut _ o D.i3TO e) (((((hl3.at λo e=>hs₁.extBut _ o D.l3z e).at λo e=>hsa1.extBut _ o D.l3i1 e).at λo e=>hsb1.extBut _ o D.l3TO e).at λo e=>hsa2.extBut _ o D.l3i2 e).at λo e=>hsb2.extBut _ o D.l3TO e) hx3 λhq e hsq he=>?_)
   obtain⟨oe,hoe,hce⟩:=he
   have hzq:IsZip hq z TI TO .ellipsis:=hsq _ _ D.i3z.symm (hsb2.extBut _ _ D.TOz.symm (hsa2.extBut _ _ D.i2z.symm (hsb1.extBut _ _ D.TOz.symm (hsa1.extBut _ _ D.i1z.symm hz₁))))
   have hez:e≠z:=λx=>by subst x;rw[hzq]at hoe;cases hoe;simp at hce
   refine wpAny_setField_rec hzq (by simp) λh₉ _ hs₉=>hE h₉ e (λc o c1 c2 d1 d2 d3 x=>hs₉.extBut _ _ c1 (hsq _ _ d3 (hsb2.extBut _ _ c2 (hsa2.extBut _ _ d2 (hsb1.extBut _ _ c2 (hsa1.extBut _ _ d1 (hs₁.extBut _ _ c1 x))))))) ⟨oe,hs₉.extBut _ _ hez hoe,hce⟩
theorem next_zip_item3{z TI TO i1 i2 i3 l1 l2 l3:Addr}{k:Nat}{k1:Kd}{k2:Kd}{k3:Kd}{xs1 xs2 xs3:Array Value}{a1 a2 a3:Value}{x1 x2 x3:Value}{Q:Option Value->Shared->Prop}(D:ZAp3 z TI TO i1 i2 i3 l1 l2 l3)
  (hz:IsZip s.heap z TI TO .none) (hTI:IsTup3 s.heap TI (.ref i1) (.ref i2) (.ref i3)) (hTO:IsTup3 s.heap TO a1 a2 a3)
  (h1:ItAt k1 s.heap i1 l1 k) (h2:ItAt k2 s.heap i2 l2 k) (h3:ItAt k3 s.heap i3 l3 k) (hl1:SqAt k1 s.heap l1 xs1) (hl2:SqAt k2 s.heap l2 xs2) (hl3:SqAt k3 s.heap l3 xs3) (hx1:xs1[k]?=some x1) (hx2:xs2[k]?=some x2) (hx3:xs3[k]?=some x3)
  (hQ:∀h',IsZip h' z TI TO (rawInt s.heap.objs.size)->IsTup3 h' TO x1 x2 x3->ItAt k1 h' i1 l1 (k+1)->ItAt k2 h' i2 l2 (k+1)->ItAt k3 h' i3 l3 (k+1)->IsTup3 h' s.heap.objs.size x1 x2 x3->h'.objs.size=s.heap.objs.size+1 ->
    (∀c o,c≠z->c≠TO->c≠i1->c≠i2->c≠i3->s.heap.get? c=some o->h'.get? c=some o)->Q (some (.ref s.heap.objs.size)) { s with heap:=h' }) :
  wpAny (model prog w) A (pyNext (.ref z)) Q E s:=by
 have hT:s.TypeIs (.ref z) "zip":=⟨_,hz,rfl⟩
 unfold pyNext
 exact wpAny_bind (wpAny_attempt (wpAny_callSpecial?_slot (name:=Str.ofString "__next__") hT F.slot_zip_next
   (wpAny_call_entry F.slot_zip_next hT F.entry_zip_next
     (zipn_item3 D hz hTI hTO h1 h2 h3 hl1 hl2 hl3 hx1 hx2 hx3 λh' a1 a2 b1 b2 b3 a5 a6 a7=>wpAny_pure (hQ h' a1 a2 b1 b2 b3 a5 a6 a7)) (F.args_zip_next_1 _))))
theorem next_zip_end3{z TI TO i1 i2 i3 l1 l2 l3:Addr}{k:Nat}{k1:Kd}{k2:Kd}{k3:Kd}{xs1 xs2 xs3:Array Value}{a1 a2 a3:Value}{Q:Option Value->Shared->Prop}(hh:A.handled=none)(D:ZAp3 z TI TO i1 i2 i3 l1 l2 l3)
  (hz:IsZip s.heap z TI TO .none) (hTI:IsTup3 s.heap TI (.ref i1) (.ref i2) (.ref i3)) (hTO:IsTup3 s.heap TO a1 a2 a3)
  (h1:ItAt k1 s.heap i1 l1 k) (h2:ItAt k2 s.heap i2 l2 k) (h3:ItAt k3 s.heap i3 l3 k) (hl1:SqAt k1 s.heap l1 xs1) (hl2:SqAt k2 s.heap l2 xs2) (hl3:SqAt k3 s.heap l3 xs3) (hend:xs1[k]?=none\/xs2[k]?=none\/xs3[k]?=none)
  (hQ:∀h',(∀c o,c≠z->c≠TO->c≠i1->c≠i2->c≠i3->s.heap.get? c=some o->h'.get? c=some o)->Q none { s with heap:=h' }):wpAny (model prog w) A (pyNext (.ref z)) Q E s:=by
 have hT:s.TypeIs (.ref z) "zip":=⟨_,hz,rfl⟩
 unfold pyNext
 refine wpAny_bind (wpAny_attempt (wpAny_callSpecial?_slot (name:=Str.ofString "__next__") hT F.slot_zip_next
   (wpAny_call_entry F.slot_zip_next hT F.entry_zip_next (zipn_end3 hh D hz hTI hTO h1 h2 h3 hl1 hl2 hl3 hend λh' e hk he=>?_) (F.args_zip_next_1 _))))
 obtain⟨o,ho,hc⟩:=he
 refine wpAny_bind (wpAny_isInstance (T:="StopIteration") (b:=true) ⟨o,ho,hc⟩ isSubtype_stop ?_)
 exact wpAny_pure (hQ _ hk)
end
noncomputable abbrev zh3I(h:Heap)(k1:Kd)(k2:Kd)(k3:Kd)(l1 l2 l3:Addr):Heap:=(((h.push (itObj k1 l1)).push (itObj k2 l2)).push (itObj k3 l3))
noncomputable abbrev zh3T(h:Heap)(k1:Kd)(k2:Kd)(k3:Kd)(l1 l2 l3:Addr):Heap:=(zh3I h k1 k2 k3 l1 l2 l3).push { cls:=.type "tuple",data:=.seq #[.ref h.objs.size,.ref (h.push (itObj k1 l1)).objs.size,.ref ((h.push (itObj k1 l1)).push (itObj k2 l2)).objs.size] }
noncomputable abbrev zh3O(h:Heap)(k1:Kd)(k2:Kd)(k3:Kd)(l1 l2 l3:Addr):Heap:=(zh3T h k1 k2 k3 l1 l2 l3).push { cls:=.type "tuple",data:=.seq #[.none,.none,.none] }
noncomputable abbrev zh3Z(h:Heap)(k1:Kd)(k2:Kd)(k3:Kd)(l1 l2 l3:Addr):Heap:=(zh3O h k1 k2 k3 l1 l2 l3).push { cls:=.type "zip",data:=.fields #[.none,.bool false,.bool false,.ref (zh3I h k1 k2 k3 l1 l2 l3).objs.size,.ref (zh3T h k1 k2 k3 l1 l2 l3).objs.size] }
theorem zip_new3(k1:Kd)(k2:Kd)(k3:Kd)(l1 l2 l3:Addr)(xs1 xs2 xs3:Array Value) :
  Meets (Builtin.«zip.__new__» ⟨[.type "zip",.ref l1,.ref l2,.ref l3],[]⟩) (λ_ R s=>SqAt k1 s.heap l1 xs1/\SqAt k2 s.heap l2 xs2/\SqAt k3 s.heap l3 xs3 /\
    R (.ok (.ret (.ref (zh3O s.heap k1 k2 k3 l1 l2 l3).objs.size))) { s with heap:=zh3Z s.heap k1 k2 k3 l1 l2 l3 }) :=
 .of_wp λprog w A R s h=>by
  obtain⟨hp,g,d,tk,os⟩:=s;obtain⟨hl1,hl2,hl3,h⟩:=h
  have hsub:=sub_zip
  have hL1:SqAt k1 (Shared.heap ⟨hp,g,d,tk,os⟩) l1 xs1:=hl1
  have hL2:SqAt k2 (Shared.heap ⟨(hp.push (itObj k1 l1)),g,d,tk,os⟩) l2 xs2:=(SqAt.at hl2 λo e=>g0 _ e)
  have hL3:SqAt k3 (Shared.heap ⟨((hp.push (itObj k1 l1)).push (itObj k2 l2)),g,d,tk,os⟩) l3 xs3:=(SqAt.at (SqAt.at hl3 λo e=>g0 _ e) λo e=>g0 _ e)
  wp_walk using iter_at hL1,iter_at hL2,iter_at hL3
  exact ⟨_,rfl,h⟩
inductive Ki where|non|bl|int|str|lst|tup|dct
 deriving DecidableEq
noncomputable def Ki.nm:Ki->String
 | .non=>"NoneType" | .bl=>"bool" | .int=>"int" | .str=>"str" | .lst=>"list" | .tup=>"tuple" | .dct=>"dict"
noncomputable def Ki.sub:Ki->Ki->Bool
 | .bl,.int=>true
 | a,b=>decide (a=b)
noncomputable def Sq(k:Kd)(K:u0)(H:Hp)(a:Addr)(xs:List V):Prop:=match k with | .l=>SqL K H a xs | .t=>SqT K H a xs
theorem Inv.sq{X:Cx}{pins:List (Addr×Obj)}{σ:St}{H:Hp}{s:Shared}{k:Kd}{a:Addr}{xs:List V}(I:Inv X pins σ H s)(h:Sq k X.K H a xs):∃its:List Value,Vals xs its/\SqAt k s.heap a its.toArray/\xs.length<=sizeLine:=by
 cases k with
 | l=>obtain⟨its,r,p,z⟩:=I.list h;exact ⟨its,r,p.isList,z⟩
 | t=>obtain⟨its,r,p,z⟩:=I.tuple h;exact ⟨its,r,p,z⟩
theorem Inv.sq_inj{X:Cx}{pins:List (Addr×Obj)}{σ:St}{H:Hp}{s:Shared}{k:Kd}{a:Addr}{xs ys:List V}(I:Inv X pins σ H s)(h:Sq k X.K H a xs)(h':Sq k X.K H a ys):xs=ys:=by
 cases k with
 | l=>exact I.list_inj h h'
 | t=>exact I.tuple_inj h h'
noncomputable def Itz2(K:u0)(k1:Kd)(k2:Kd)(l1 l2:Addr):It :=
 ⟨λi H=>∃ys1 x1 ys2 x2,Sq k1 K H l1 ys1/\Sq k2 K H l2 ys2/\ys1[i]?=some x1/\ys2[i]?=some x2,
  λi H x H'=>∃T x1 x2,H T=none/\x=.ref T/\H'=upd H T (.tup [x1,x2])/\(∀ys,Sq k1 K H l1 ys->ys[i]?=some x1)/\(∀ys,Sq k2 K H l2 ys->ys[i]?=some x2),
  λi H=>∃ys1 ys2,Sq k1 K H l1 ys1/\Sq k2 K H l2 ys2/\(ys1.length<=i\/ys2.length<=i)⟩
theorem turn_zip2{P:Program}{w:World}{K:u0}{es:List Expr}{kk:Nat}{pos:Pos}(k1:Kd)(k2:Kd)(z TI TO i1 i2 l1 l2:Addr)(D:ZAp2 z TI TO i1 i2 l1 l2):Turn P w K (.Tuple es kk pos) (Itz2 K k1 k2 l1 l2) [z,TI,TO,i1,i2] z
  (λi h=>IsZip h z TI TO .none/\IsTup2 h TI (.ref i1) (.ref i2)/\(∃a1 a2,IsTup2 h TO a1 a2)/\ItAt k1 h i1 l1 i/\ItAt k2 h i2 l2 i) where
 mem:=by simp
 obj:=λi h st b hb=>by
  obtain⟨hz,hTI,⟨a1,a2,hTO⟩,t1,t2⟩:=st
  have hb:b=z\/b=TI\/b=TO\/b=i1\/b=i2:=by simpa using hb
  rcases hb with rfl|rfl|rfl|rfl|rfl
  ·exact ⟨_,hz,λv e=>by cases e⟩
  ·exact ⟨_,hTI,λv e=>by cases e⟩
  ·exact ⟨_,hTO,λv e=>by cases e⟩
  ·exact t1.obj
  ·exact t2.obj
 keep:=λi h h' st k=>by
  obtain⟨hz,hTI,⟨a1,a2,hTO⟩,t1,t2⟩:=st
  exact ⟨k _ (by simp) _ hz,k _ (by simp) _ hTI,⟨a1,a2,k _ (by simp) _ hTO⟩,t1.at λo e=>k _ (by simp) _ e,t2.at λo e=>k _ (by simp) _ e⟩
 item:=by
  intro X hP hw hK hc i pins s σ H E I hf st hg
  subst hP hw hK
  obtain⟨hz,hTI,⟨a1,a2,hTO⟩,t1,t2⟩:=st
  obtain⟨ys1,x1,ys2,x2,q1,q2,e1,e2⟩:=hg
  obtain⟨its1,rv1,p1,z1⟩:=I.sq q1
  obtain⟨u1,hu1,ru1⟩:=rv1.get e1
  obtain⟨its2,rv2,p2,z2⟩:=I.sq q2
  obtain⟨u2,hu2,ru2⟩:=rv2.get e2
  refine next_zip_item2 D hz hTI hTO t1 t2 p1 p2 (show its1.toArray[i]?=some u1 by simpa using hu1) (show its2.toArray[i]?=some u2 by simpa using hu2) λh' b1 b2 c1 c2 b5 b6 b7=>?_
  have hTn:s.heap.objs.size≠z:=B2 (G0 hz)
  refine ⟨_,rfl,wpAny_letOwnedTupleGo_zip (s:={ s with heap:=h' }) b1 λh2 hz2 hs2=>?_⟩
  have kp:∀b o,b∉[z,TI,TO,i1,i2]->s.heap.get? b=some o->h2.get? b=some o:=λb o hb e=>by
   have hb:b≠z/\b≠TI/\b≠TO/\b≠i1/\b≠i2:=by simpa using hb
   obtain⟨g1,g2,g3,f1,f2⟩:=hb
   exact hs2.extBut _ _ g1 (b7 b o g1 g3 f1 f2 e)
  have hTI2:IsTup2 h2 TI (.ref i1) (.ref i2):=hs2.extBut _ _ D.TIz (b7 TI _ D.TIz (V2 D.TOTI) (V2 D.i1TI) (V2 D.i2TI) hTI)
  have hT2:IsTup2 h2 s.heap.objs.size u1 u2:=hs2.extBut _ _ hTn b5
  have hfr:H s.heap.objs.size=none:=I.hok.fresh (R0 _)
  have I2:Inv X pins σ (upd H s.heap.objs.size (.tup [x1,x2])) { s with heap:=h2 }:=by
   have nfp:∀b u,H b=some u->b∉[z,TI,TO,i1,i2]:=λb u e hb=>by have:=(hf b hb).1;rw[e]at this;cases this
   refine I.step (g':=s.gens) (d':=s.drawn) (ch:=[z,TI,TO,i1,i2]) (λb hb=>?_) (λb o _ _ hc' e _=>kp b o hc' e) (λb o _ _ hc' e _=>⟨o.slots,kp b o hc' e⟩) (λb o _ e n=>?_)
    (λb o hc' e=>⟨o,kp b o hc' e⟩) (λb xs e=>?_) (λb o xs e=>?_) (λb ps e=>⟨#[],?_⟩) (λm hm=>?_) (λb o e=>?_) I.bare
   ·obtain⟨f0,f1,f2,f3,f4,f5⟩:=hf b hb
    exact ⟨f3,f1,f4,f5⟩
   ·rw[upd_ne (E1 (G0 e))];exact n
   ·rw[upd_ne (ne_of_none e hfr)];exact e
   ·rw[upd_ne (ne_of_none e hfr)];exact e
   ·rw[upd_ne (ne_of_none e hfr),e];simp
   ·obtain⟨o,es',ep,ho,r⟩:=hm
    exact ⟨o,es',ep,kp _ o (λhb=>(hf _ hb).2.1 rfl) ho,r⟩
   ·by_cases hb:b=s.heap.objs.size
    ·subst hb
     rw[upd_same]at e
     cases e
     exact ⟨by show 2<=sizeLine;decide,[u1,u2],.cons ru1 (.cons ru2 .nil),_,hT2,rfl,_,rfl,rfl⟩
    ·rw[upd_ne hb]at e
     refine (I.hok b o e).stay (λc v hc' q=>kp c v ?_ q) (λc q=>by rw[upd_ne (ne_of_none q hfr)];exact q) λc xs q=>by rw[upd_ne (ne_of_none q hfr)];exact q
     rcases hc' with rfl|hc'
     ·exact nfp _ _ e
     ·exact nfp _ _ hc'
  refine ⟨.ref s.heap.objs.size,_,I2,rfl,⟨_,x1,x2,hfr,rfl,rfl,(λys hy=>by rw[I.sq_inj hy q1];exact e1),(λys hy=>by rw[I.sq_inj hy q2];exact e2)⟩,⟨hz2,hTI2,⟨u1,u2,hs2.extBut _ _ D.TOz b2⟩,c1.at λo e=>hs2.extBut _ _ D.i1z e,c2.at λo e=>hs2.extBut _ _ D.i2z e⟩,λb hb=>?_⟩
  rw[upd_ne ?_]
  ·exact (hf b hb).1
  ·intro e
   subst e
   have hb:s.heap.objs.size=z\/s.heap.objs.size=TI\/s.heap.objs.size=TO\/s.heap.objs.size=i1\/s.heap.objs.size=i2:=by simpa using hb
   rcases hb with e|e|e|e|e
   ·exact hTn e
   ·exact B2 (G0 hTI) e
   ·exact B2 (G0 hTO) e
   ·obtain⟨o,eo,_⟩:=t1.obj
    exact B2 (G0 eo) e
   ·obtain⟨o,eo,_⟩:=t2.obj
    exact B2 (G0 eo) e
 done:=by
  intro X hP hw hK hc i pins s σ H E I hf st hg
  subst hP hw hK
  obtain⟨hz,hTI,⟨a1,a2,hTO⟩,t1,t2⟩:=st
  obtain⟨ys1,ys2,q1,q2,hend⟩:=hg
  obtain⟨its1,rv1,p1,z1⟩:=I.sq q1
  have len1:=rv1.length
  obtain⟨its2,rv2,p2,z2⟩:=I.sq q2
  have len2:=rv2.length
  refine next_zip_end2 (I.ok.hd hc) D hz hTI hTO t1 t2 p1 p2 ?_ λh' kp=>⟨rfl,?_⟩
  ·rcases hend with h|h
   ·exact .inl (by simp;omega)
   ·exact .inr (by simp;omega)
  ·have nfp:∀b u,H b=some u->b∉[z,TI,TO,i1,i2]:=λb u e hb=>by have:=(hf b hb).1;rw[e]at this;cases this
   have kp':∀b o,b∉[z,TI,TO,i1,i2]->s.heap.get? b=some o->h'.get? b=some o:=λb o hb e=>by
    have hb:b≠z/\b≠TI/\b≠TO/\b≠i1/\b≠i2:=by simpa using hb
    obtain⟨g1,g2,g3,f1,f2⟩:=hb
    exact kp b o g1 g3 f1 f2 e
   refine I.step (g':=s.gens) (d':=s.drawn) (ch:=[z,TI,TO,i1,i2]) (λb hb=>?_) (λb o _ _ hc' e _=>kp' b o hc' e) (λb o _ _ hc' e _=>⟨o.slots,kp' b o hc' e⟩) (λb o _ e n=>n)
    (λb o hc' e=>⟨o,kp' b o hc' e⟩) (λb xs e=>e) (λb o xs e=>e) (λb ps e=>⟨#[],by rw[e];simp⟩) (λm hm=>?_) (λb o e=>?_) I.bare
   ·obtain⟨f0,f1,f2,f3,f4,f5⟩:=hf b hb
    exact ⟨f3,f1,f4,f5⟩
   ·obtain⟨o,es',ep,ho,r⟩:=hm
    exact ⟨o,es',ep,kp' _ o (λhb=>(hf _ hb).2.1 rfl) ho,r⟩
   ·refine (I.hok b o e).stay (λc v hc' q=>kp' c v ?_ q) (λ_ q=>q) λ_ _ q=>q
    rcases hc' with rfl|hc'
    ·exact nfp _ _ e
    ·exact nfp _ _ hc'
 self:=λ_ _ _ _ _ st h=>wpAny_pyIter_zip st.1 h
noncomputable def Itz3(K:u0)(k1:Kd)(k2:Kd)(k3:Kd)(l1 l2 l3:Addr):It :=
 ⟨λi H=>∃ys1 x1 ys2 x2 ys3 x3,Sq k1 K H l1 ys1/\Sq k2 K H l2 ys2/\Sq k3 K H l3 ys3/\ys1[i]?=some x1/\ys2[i]?=some x2/\ys3[i]?=some x3,
  λi H x H'=>∃T x1 x2 x3,H T=none/\x=.ref T/\H'=upd H T (.tup [x1,x2,x3])/\(∀ys,Sq k1 K H l1 ys->ys[i]?=some x1)/\(∀ys,Sq k2 K H l2 ys->ys[i]?=some x2)/\(∀ys,Sq k3 K H l3 ys->ys[i]?=some x3),
  λi H=>∃ys1 ys2 ys3,Sq k1 K H l1 ys1/\Sq k2 K H l2 ys2/\Sq k3 K H l3 ys3/\(ys1.length<=i\/ys2.length<=i\/ys3.length<=i)⟩
theorem turn_zip3{P:Program}{w:World}{K:u0}{es:List Expr}{kk:Nat}{pos:Pos}(k1:Kd)(k2:Kd)(k3:Kd)(z TI TO i1 i2 i3 l1 l2 l3:Addr)(D:ZAp3 z TI TO i1 i2 i3 l1 l2 l3):Turn P w K (.Tuple es kk pos) (Itz3 K k1 k2 k3 l1 l2 l3) [z,TI,TO,i1,i2,i3] z
  (λi h=>IsZip h z TI TO .none/\IsTup3 h TI (.ref i1) (.ref i2) (.ref i3)/\(∃a1 a2 a3,IsTup3 h TO a1 a2 a3)/\ItAt k1 h i1 l1 i/\ItAt k2 h i2 l2 i/\ItAt k3 h i3 l3 i) where
 mem:=by simp
 obj:=λi h st b hb=>by
  obtain⟨hz,hTI,⟨a1,a2,a3,hTO⟩,t1,t2,t3⟩:=st
  have hb:b=z\/b=TI\/b=TO\/b=i1\/b=i2\/b=i3:=by simpa using hb
  rcases hb with rfl|rfl|rfl|rfl|rfl|rfl
  ·exact ⟨_,hz,λv e=>by cases e⟩
  ·exact ⟨_,hTI,λv e=>by cases e⟩
  ·exact ⟨_,hTO,λv e=>by cases e⟩
  ·exact t1.obj
  ·exact t2.obj
  ·exact t3.obj
 keep:=λi h h' st k=>by
  obtain⟨hz,hTI,⟨a1,a2,a3,hTO⟩,t1,t2,t3⟩:=st
  exact ⟨k _ (by simp) _ hz,k _ (by simp) _ hTI,⟨a1,a2,a3,k _ (by simp) _ hTO⟩,t1.at λo e=>k _ (by simp) _ e,t2.at λo e=>k _ (by simp) _ e,t3.at λo e=>k _ (by simp) _ e⟩
 item:=by
  intro X hP hw hK hc i pins s σ H E I hf st hg
  subst hP hw hK
  obtain⟨hz,hTI,⟨a1,a2,a3,hTO⟩,t1,t2,t3⟩:=st
  obtain⟨ys1,x1,ys2,x2,ys3,x3,q1,q2,q3,e1,e2,e3⟩:=hg
  obtain⟨its1,rv1,p1,z1⟩:=I.sq q1
  obtain⟨u1,hu1,ru1⟩:=rv1.get e1
  obtain⟨its2,rv2,p2,z2⟩:=I.sq q2
  obtain⟨u2,hu2,ru2⟩:=rv2.get e2
  obtain⟨its3,rv3,p3,z3⟩:=I.sq q3
  obtain⟨u3,hu3,ru3⟩:=rv3.get e3
  refine next_zip_item3 D hz hTI hTO t1 t2 t3 p1 p2 p3 (show its1.toArray[i]?=some u1 by simpa using hu1) (show its2.toArray[i]?=some u2 by simpa using hu2) (show its3.toArray[i]?=some u3 by simpa using hu3) λh' b1 b2 c1 c2 c3 b5 b6 b7=>?_
  have hTn:s.heap.objs.size≠z:=B2 (G0 hz)
  refine ⟨_,rfl,wpAny_letOwnedTupleGo_zip (s:={ s with heap:=h' }) b1 λh2 hz2 hs2=>?_⟩
  have kp:∀b o,b∉[z,TI,TO,i1,i2,i3]->s.heap.get? b=some o->h2.get? b=some o:=λb o hb e=>by
   have hb:b≠z/\b≠TI/\b≠TO/\b≠i1/\b≠i2/\b≠i3:=by simpa using hb
   obtain⟨g1,g2,g3,f1,f2,f3⟩:=hb
   exact hs2.extBut _ _ g1 (b7 b o g1 g3 f1 f2 f3 e)
  have hTI2:IsTup3 h2 TI (.ref i1) (.ref i2) (.ref i3):=hs2.extBut _ _ D.TIz (b7 TI _ D.TIz (V2 D.TOTI) (V2 D.i1TI) (V2 D.i2TI) (V2 D.i3TI) hTI)
  have hT2:IsTup3 h2 s.heap.objs.size u1 u2 u3:=hs2.extBut _ _ hTn b5
  have hfr:H s.heap.objs.size=none:=I.hok.fresh (R0 _)
  have I2:Inv X pins σ (upd H s.heap.objs.size (.tup [x1,x2,x3])) { s with heap:=h2 }:=by
   have nfp:∀b u,H b=some u->b∉[z,TI,TO,i1,i2,i3]:=λb u e hb=>by have:=(hf b hb).1;rw[e]at this;cases this
   refine I.step (g':=s.gens) (d':=s.drawn) (ch:=[z,TI,TO,i1,i2,i3]) (λb hb=>?_) (λb o _ _ hc' e _=>kp b o hc' e) (λb o _ _ hc' e _=>⟨o.slots,kp b o hc' e⟩) (λb o _ e n=>?_)
    (λb o hc' e=>⟨o,kp b o hc' e⟩) (λb xs e=>?_) (λb o xs e=>?_) (λb ps e=>⟨#[],?_⟩) (λm hm=>?_) (λb o e=>?_) I.bare
   ·obtain⟨f0,f1,f2,f3,f4,f5⟩:=hf b hb
    exact ⟨f3,f1,f4,f5⟩
   ·rw[upd_ne (E1 (G0 e))];exact n
   ·rw[upd_ne (ne_of_none e hfr)];exact e
   ·rw[upd_ne (ne_of_none e hfr)];exact e
   ·rw[upd_ne (ne_of_none e hfr),e];simp
   ·obtain⟨o,es',ep,ho,r⟩:=hm
    exact ⟨o,es',ep,kp _ o (λhb=>(hf _ hb).2.1 rfl) ho,r⟩
   ·by_cases hb:b=s.heap.objs.size
    ·subst hb
     rw[upd_same]at e
     cases e
     exact ⟨by show 3<=sizeLine;decide,[u1,u2,u3],.cons ru1 (.cons ru2 (.cons ru3 .nil)),_,hT2,rfl,_,rfl,rfl⟩
    ·rw[upd_ne hb]at e
     refine (I.hok b o e).stay (λc v hc' q=>kp c v ?_ q) (λc q=>by rw[upd_ne (ne_of_none q hfr)];exact q) λc xs q=>by rw[upd_ne (ne_of_none q hfr)];exact q
     rcases hc' with rfl|hc'
     ·exact nfp _ _ e
     ·exact nfp _ _ hc'
  refine ⟨.ref s.heap.objs.size,_,I2,rfl,⟨_,x1,x2,x3,hfr,rfl,rfl,(λys hy=>by rw[I.sq_inj hy q1];exact e1),(λys hy=>by rw[I.sq_inj hy q2];exact e2),(λys hy=>by rw[I.sq_inj hy q3];exact e3)⟩,⟨hz2,hTI2,⟨u1,u2,u3,hs2.extBut _ _ D.TOz b2⟩,c1.at λo e=>hs2.extBut _ _ D.i1z e,c2.at λo e=>hs2.extBut _ _ D.i2z e,c3.at λo e=>hs2.extBut _ _ D.i3z e⟩,λb hb=>?_⟩
  rw[upd_ne ?_]
  ·exact (hf b hb).1
  ·intro e
   subst e
   have hb:s.heap.objs.size=z\/s.heap.objs.size=TI\/s.heap.objs.size=TO\/s.heap.objs.size=i1\/s.heap.objs.size=i2\/s.heap.objs.size=i3:=by simpa using hb
   rcases hb with e|e|e|e|e|e
   ·exact hTn e
   ·exact B2 (G0 hTI) e
   ·exact B2 (G0 hTO) e
   ·obtain⟨o,eo,_⟩:=t1.obj
    exact B2 (G0 eo) e
   ·obtain⟨o,eo,_⟩:=t2.obj
    exact B2 (G0 eo) e
   ·obtain⟨o,eo,_⟩:=t3.obj
    exact B2 (G0 eo) e
 done:=by
  intro X hP hw hK hc i pins s σ H E I hf st hg
  subst hP hw hK
  obtain⟨hz,hTI,⟨a1,a2,a3,hTO⟩,t1,t2,t3⟩:=st
  obtain⟨ys1,ys2,ys3,q1,q2,q3,hend⟩:=hg
  obtain⟨its1,rv1,p1,z1⟩:=I.sq q1
  have len1:=rv1.length
  obtain⟨its2,rv2,p2,z2⟩:=I.sq q2
  have len2:=rv2.length
  obtain⟨its3,rv3,p3,z3⟩:=I.sq q3
  have len3:=rv3.length
  refine next_zip_end3 (I.ok.hd hc) D hz hTI hTO t1 t2 t3 p1 p2 p3 ?_ λh' kp=>⟨rfl,?_⟩
  ·rcases hend with h|h|h
   ·exact .inl (by simp;omega)
   ·exact .inr (.inl (by simp;omega))
   ·exact .inr (.inr (by simp;omega))
  ·have nfp:∀b u,H b=some u->b∉[z,TI,TO,i1,i2,i3]:=λb u e hb=>by have:=(hf b hb).1;rw[e]at this;cases this
   have kp':∀b o,b∉[z,TI,TO,i1,i2,i3]->s.heap.get? b=some o->h'.get? b=some o:=λb o hb e=>by
    have hb:b≠z/\b≠TI/\b≠TO/\b≠i1/\b≠i2/\b≠i3:=by simpa using hb
    obtain⟨g1,g2,g3,f1,f2,f3⟩:=hb
    exact kp b o g1 g3 f1 f2 f3 e
   refine I.step (g':=s.gens) (d':=s.drawn) (ch:=[z,TI,TO,i1,i2,i3]) (λb hb=>?_) (λb o _ _ hc' e _=>kp' b o hc' e) (λb o _ _ hc' e _=>⟨o.slots,kp' b o hc' e⟩) (λb o _ e n=>n)
    (λb o hc' e=>⟨o,kp' b o hc' e⟩) (λb xs e=>e) (λb o xs e=>e) (λb ps e=>⟨#[],by rw[e];simp⟩) (λm hm=>?_) (λb o e=>?_) I.bare
   ·obtain⟨f0,f1,f2,f3,f4,f5⟩:=hf b hb
    exact ⟨f3,f1,f4,f5⟩
   ·obtain⟨o,es',ep,ho,r⟩:=hm
    exact ⟨o,es',ep,kp' _ o (λhb=>(hf _ hb).2.1 rfl) ho,r⟩
   ·refine (I.hok b o e).stay (λc v hc' q=>kp' c v ?_ q) (λ_ q=>q) λ_ _ q=>q
    rcases hc' with rfl|hc'
    ·exact nfp _ _ e
    ·exact nfp _ _ hc'
 self:=λ_ _ _ _ _ st h=>wpAny_pyIter_zip st.1 h
noncomputable def iZip2(K:u0)(ta:TA):TI:=λσ H R=>ta σ H λvs H1=>∃(k1:Kd) (l1:Addr) (ys1:List V) (k2:Kd) (l2:Addr) (ys2:List V),vs=[.ref l1,.ref l2]/\Sq k1 K H1 l1 ys1/\Sq k2 K H1 l2 ys2/\R (Itz2 K k1 k2 l1 l2) H1
theorem pi_zip2{X:Cx}{es:List Expr}{kk:Nat}{tpos:Pos}{a b:Expr}{ta:TA}{p pos:Pos}(hg:Gl X "zip")(hm:X.mg "zip"=none)(ha:PA X [a,b] ta)(hs:starEach [a,b] X.env=(false,eval a X.env) :: starEach [b] X.env:=by rfl)(hpl:(backTo pos (starEach [b] X.env)).any (·.1)=false:=by rfl) :
  PI X (.Tuple es kk tpos) (.Call (.Name "zip" p) [a,b] [] pos) (iZip2 X.K ta):=by
 intro pins s σ H R I h
 refine Call_ (ld_blt I hg hm boot_zip (K3 (thn (ha pos pins s σ H _ I h) λus s1 ⟨vs,H1,I1,r1,q1⟩=>?_) hs hpl))
 obtain⟨k1,l1,ys1,k2,l2,ys2,e,q1,q2,q⟩:=q1
 subst e
 obtain rfl:us=[.ref l1,.ref l2]:=by
  cases r1 with|cons r rr=>cases r;cases rr with|cons r rr=>cases r;cases rr;rfl
 obtain⟨its1,rv1,p1,z1⟩:=I1.sq q1
 obtain⟨its2,rv2,p2,z2⟩:=I1.sq q2
 have lt:∀{k:Kd}{l:Addr}{xs:Array Value},SqAt k s1.heap l xs->l < s1.heap.objs.size:=λ{k l xs} p=>by
  cases k with
  | l=>obtain⟨o,e,_⟩:=p;exact G0 e
  | t=>obtain⟨o,e,_⟩:=p;exact G0 e
 refine callType_new F.called_zip (by decide) (F.typeCall_zip_2 _ _) (F.newCall_zip_2 _ _) (λobj=>F.args_object_init_3 obj _ _) F.entry_zip_new (zip_new2 k1 k2 l1 l2 its1.toArray its2.toArray) ⟨p1,p2,?_⟩
 have zI:(zh2I s1.heap k1 k2 l1 l2).objs.size=s1.heap.objs.size+2:=by simp[O1]
 have zT:(zh2T s1.heap k1 k2 l1 l2).objs.size=s1.heap.objs.size+3:=by simp[O1]
 have zO:(zh2O s1.heap k1 k2 l1 l2).objs.size=s1.heap.objs.size+4:=by simp[O1]
 have gZ:(zh2Z s1.heap k1 k2 l1 l2).get? (zh2O s1.heap k1 k2 l1 l2).objs.size=some _:=K0 _ rfl
 have gO:(zh2Z s1.heap k1 k2 l1 l2).get? (zh2T s1.heap k1 k2 l1 l2).objs.size=some _:=g0 _ (K0 _ rfl)
 have gT:(zh2Z s1.heap k1 k2 l1 l2).get? (zh2I s1.heap k1 k2 l1 l2).objs.size=some _:=g0 _ (g0 _ (K0 _ rfl))
 have g1:(zh2Z s1.heap k1 k2 l1 l2).get? s1.heap.objs.size=some (itObj k1 l1):=g0 _ (g0 _ (g0 _ (g0 _ (K0 _ (by cases k1<;>rfl)))))
 have g2:(zh2Z s1.heap k1 k2 l1 l2).get? (s1.heap.push (itObj k1 l1)).objs.size=some (itObj k2 l2):=g0 _ (g0 _ (g0 _ (K0 _ (by cases k2<;>rfl))))
 have zz2:(s1.heap.push (itObj k1 l1)).objs.size=s1.heap.objs.size+1:=by simp[O1]
 rw[zO,zT,zI]at gZ
 rw[zI,zz2]at gT
 rw[zT]at gO
 rw[zz2]at g2
 show _/\_
 rw[zO]
 have kp:∀b o,s1.heap.get? b=some o->(zh2Z s1.heap k1 k2 l1 l2).get? b=some o:=λb o e=>g0 _ (g0 _ (g0 _ (g0 _ (g0 _ (e)))))
 refine ⟨⟨_,gZ,rfl⟩,wpAny_pyIter_zip (s:={ s1 with heap:=zh2Z s1.heap k1 k2 l1 l2 }) gZ ?_⟩
 refine ⟨_,[s1.heap.objs.size+4,s1.heap.objs.size+2,s1.heap.objs.size+3,s1.heap.objs.size,s1.heap.objs.size+1],_,_,H1,rfl,I1.kept (t':=s1.toks) kp,turn_zip2 k1 k2 _ _ _ _ _ l1 l2 (zap2 _ l1 l2 (lt p1) (lt p2)),⟨gZ,gT,⟨_,_,gO⟩,ItAt.new k1 g1,ItAt.new k2 g2⟩,λb hb=>?_,q⟩
 have hb:s1.heap.objs.size<=b:=by
  have hb:b=s1.heap.objs.size+4\/b=s1.heap.objs.size+2\/b=s1.heap.objs.size+3\/b=s1.heap.objs.size\/b=s1.heap.objs.size+1:=by simpa using hb
  rcases hb with rfl|rfl|rfl|rfl|rfl
  all_goals first|exact M4 _ _|exact R0 _
 exact I1.fpOk hb (I1.hok.fresh hb)
noncomputable def iZip3(K:u0)(ta:TA):TI:=λσ H R=>ta σ H λvs H1=>∃(k1:Kd) (l1:Addr) (ys1:List V) (k2:Kd) (l2:Addr) (ys2:List V) (k3:Kd) (l3:Addr) (ys3:List V),vs=[.ref l1,.ref l2,.ref l3]/\Sq k1 K H1 l1 ys1/\Sq k2 K H1 l2 ys2/\Sq k3 K H1 l3 ys3/\R (Itz3 K k1 k2 k3 l1 l2 l3) H1
theorem typeCall_zip_3(a b c:Value):checkTypeCall "zip" ⟨[a,b,c],[]⟩=pure ():=by kernel_rfl
theorem newCall_zip_3(a b c:Value):checkBuiltinCall "zip.__new__" ⟨[.type "zip",a,b,c],[]⟩=pure ():=by kernel_rfl
theorem args_object_init_4(a b c d:Value):argsOk "object.__init__" ⟨[a,b,c,d],[]⟩:=by
 unfold argsOk;rw[signature?_of (id:="object.__init__") (n:=['_','_','t','i','n','i','_','_']) (o:=['t','c','e','j','b','o']) (by kernel_rfl) F.owner_object];kernel_rfl
theorem pi_zip3{X:Cx}{es:List Expr}{kk:Nat}{tpos:Pos}{a b c:Expr}{ta:TA}{p pos:Pos}(hg:Gl X "zip")(hm:X.mg "zip"=none)(ha:PA X [a,b,c] ta)(hs:starEach [a,b,c] X.env=(false,eval a X.env) :: starEach [b,c] X.env:=by rfl)(hpl:(backTo pos (starEach [b,c] X.env)).any (·.1)=false:=by rfl) :
  PI X (.Tuple es kk tpos) (.Call (.Name "zip" p) [a,b,c] [] pos) (iZip3 X.K ta):=by
 intro pins s σ H R I h
 refine Call_ (ld_blt I hg hm boot_zip (K3 (thn (ha pos pins s σ H _ I h) λus s1 ⟨vs,H1,I1,r1,q1⟩=>?_) hs hpl))
 obtain⟨k1,l1,ys1,k2,l2,ys2,k3,l3,ys3,e,q1,q2,q3,q⟩:=q1
 subst e
 obtain rfl:us=[.ref l1,.ref l2,.ref l3]:=by
  cases r1 with|cons r rr=>cases r;cases rr with|cons r rr=>cases r;cases rr with|cons r rr=>cases r;cases rr;rfl
 obtain⟨its1,rv1,p1,z1⟩:=I1.sq q1
 obtain⟨its2,rv2,p2,z2⟩:=I1.sq q2
 obtain⟨its3,rv3,p3,z3⟩:=I1.sq q3
 have lt:∀{k:Kd}{l:Addr}{xs:Array Value},SqAt k s1.heap l xs->l < s1.heap.objs.size:=λ{k l xs} p=>by
  cases k with
  | l=>obtain⟨o,e,_⟩:=p;exact G0 e
  | t=>obtain⟨o,e,_⟩:=p;exact G0 e
 refine callType_new F.called_zip (by decide) (typeCall_zip_3 _ _ _) (newCall_zip_3 _ _ _) (λobj=>args_object_init_4 obj _ _ _) F.entry_zip_new (zip_new3 k1 k2 k3 l1 l2 l3 its1.toArray its2.toArray its3.toArray) ⟨p1,p2,p3,?_⟩
 have zI:(zh3I s1.heap k1 k2 k3 l1 l2 l3).objs.size=s1.heap.objs.size+3:=by simp[O1]
 have zT:(zh3T s1.heap k1 k2 k3 l1 l2 l3).objs.size=s1.heap.objs.size+4:=by simp[O1]
 have zO:(zh3O s1.heap k1 k2 k3 l1 l2 l3).objs.size=s1.heap.objs.size+5:=by simp[O1]
 have gZ:(zh3Z s1.heap k1 k2 k3 l1 l2 l3).get? (zh3O s1.heap k1 k2 k3 l1 l2 l3).objs.size=some _:=K0 _ rfl
 have gO:(zh3Z s1.heap k1 k2 k3 l1 l2 l3).get? (zh3T s1.heap k1 k2 k3 l1 l2 l3).objs.size=some _:=g0 _ (K0 _ rfl)
 have gT:(zh3Z s1.heap k1 k2 k3 l1 l2 l3).get? (zh3I s1.heap k1 k2 k3 l1 l2 l3).objs.size=some _:=g0 _ (g0 _ (K0 _ rfl))
 have g1:(zh3Z s1.heap k1 k2 k3 l1 l2 l3).get? s1.heap.objs.size=some (itObj k1 l1):=g0 _ (g0 _ (g0 _ (g0 _ (g0 _ (K0 _ (by cases k1<;>rfl))))))
 have g2:(zh3Z s1.heap k1 k2 k3 l1 l2 l3).get? (s1.heap.push (itObj k1 l1)).objs.size=some (itObj k2 l2):=g0 _ (g0 _ (g0 _ (g0 _ (K0 _ (by cases k2<;>rfl)))))
 have zz2:(s1.heap.push (itObj k1 l1)).objs.size=s1.heap.objs.size+1:=by simp[O1]
 have g3:(zh3Z s1.heap k1 k2 k3 l1 l2 l3).get? ((s1.heap.push (itObj k1 l1)).push (itObj k2 l2)).objs.size=some (itObj k3 l3):=g0 _ (g0 _ (g0 _ (K0 _ (by cases k3<;>rfl))))
 have zz3:((s1.heap.push (itObj k1 l1)).push (itObj k2 l2)).objs.size=s1.heap.objs.size+2:=by simp[O1]
 rw[zO,zT,zI]at gZ
 rw[zI,zz2,zz3]at gT
 rw[zT]at gO
 rw[zz2]at g2
 rw[zz3]at g3
 show _/\_
 rw[zO]
 have kp:∀b o,s1.heap.get? b=some o->(zh3Z s1.heap k1 k2 k3 l1 l2 l3).get? b=some o:=λb o e=>g0 _ (g0 _ (g0 _ (g0 _ (g0 _ (g0 _ (e))))))
 refine ⟨⟨_,gZ,rfl⟩,wpAny_pyIter_zip (s:={ s1 with heap:=zh3Z s1.heap k1 k2 k3 l1 l2 l3 }) gZ ?_⟩
 refine ⟨_,[s1.heap.objs.size+5,s1.heap.objs.size+3,s1.heap.objs.size+4,s1.heap.objs.size,s1.heap.objs.size+1,s1.heap.objs.size+2],_,_,H1,rfl,I1.kept (t':=s1.toks) kp,turn_zip3 k1 k2 k3 _ _ _ _ _ _ l1 l2 l3 (zap3 _ l1 l2 l3 (lt p1) (lt p2) (lt p3)),⟨gZ,gT,⟨_,_,_,gO⟩,ItAt.new k1 g1,ItAt.new k2 g2,ItAt.new k3 g3⟩,λb hb=>?_,q⟩
 have hb:s1.heap.objs.size<=b:=by
  have hb:b=s1.heap.objs.size+5\/b=s1.heap.objs.size+3\/b=s1.heap.objs.size+4\/b=s1.heap.objs.size\/b=s1.heap.objs.size+1\/b=s1.heap.objs.size+2:=by simpa using hb
  rcases hb with rfl|rfl|rfl|rfl|rfl|rfl
  all_goals first|exact M4 _ _|exact R0 _
 exact I1.fpOk hb (I1.hok.fresh hb)
mutual
inductive Is (K:u0) (H:Hp):V->PyData->Prop
 | non:Is K H .non .none
 | bl (b):Is K H (.bl b) (.bool b)
 | int (i):Is K H (.int i) (.int i)
 | str (x):Is K H (.str x) (.str x)
 | lst {a xs ds}:SqL K H a xs->IsAll K H xs ds->Is K H (.ref a) (.list ds)
 | tup {a xs ds}:SqT K H a xs->IsAll K H xs ds->Is K H (.ref a) (.tuple ds)
inductive IsAll (K:u0) (H:Hp):List V->List PyData->Prop
 | nil:IsAll K H [] []
 | cons {x xs d ds}:Is K H x d->IsAll K H xs ds->IsAll K H (x :: xs) (d :: ds)
end
section
variable {X:Cx}{pins:List (Addr×Obj)}{σ:St}{H:Hp}{s:Shared}
mutual
theorem Is.reads(I:Inv X pins σ H s):∀{x:V}{d:PyData}{u:Value},Is X.K H x d->RelV x u->∃as,Reads s.heap u d as
 | _,_,_,.non,r=>by cases r;exact ⟨_,.none⟩
 | _,_,_,.bl b,r=>by cases r;exact ⟨_,.bool b⟩
 | _,_,_,.int i,r=>by obtain⟨t,rfl⟩:=r;exact ⟨_,.int i t⟩
 | _,_,_,.str x,r=>by obtain⟨t,rfl⟩:=r;exact ⟨_,.str x t⟩
 | _,_,_,.lst hq ha,r=>by
  cases r
  obtain⟨its,rv,⟨o,n,e,c,d,q⟩,z⟩:=I.list hq
  obtain⟨as,hr⟩:=IsAll.reads I ha rv
  exact ⟨_,.list e c q (by simpa using hr)⟩
 | _,_,_,.tup hq ha,r=>by
  cases r
  obtain⟨its,rv,⟨o,e,c,n,q⟩,z⟩:=I.tuple hq
  obtain⟨as,hr⟩:=IsAll.reads I ha rv
  exact ⟨_,.tuple e c q (by simpa using hr)⟩
theorem IsAll.reads(I:Inv X pins σ H s):∀{xs:List V}{ds:List PyData}{us:List Value},IsAll X.K H xs ds->Vals xs us->∃as,ReadsAll s.heap us ds as
 | _,_,_,.nil,.nil=>⟨_,.nil⟩
 | _,_,_,.cons h t,.cons r rr=>by
  obtain⟨as,a⟩:=Is.reads I h r
  obtain⟨bs,b⟩:=IsAll.reads I t rr
  exact ⟨_,.cons a b⟩
end
end
open PySem.SeqAt in
noncomputable def rEqD(K:u0)(neg:Bool):R2:=λx y H Q=>∃d e:PyData,Is K H x d/\Is K H y e/\shaped d=true/\shaped e=true/\noMix d e=true/\Q (.bl (if neg then !same d e else same d e)) H
theorem op_eqD{X:Cx}(hu:X.A.units+64 < cLine):OpR X (compareOp .Eq) (rEqD X.K false):=by
 intro pins s σ H x y v u Q I r1 r2 h
 obtain⟨d,e,i1,i2,s1,s2,nm,q⟩:=h
 obtain⟨as,a⟩:=i1.reads I r1
 obtain⟨bs,b⟩:=i2.reads I r2
 exact eq_dataH_same a b s1 s2 hu nm ⟨.bl _,H,I,rfl,q⟩
theorem op_neD{X:Cx}(hu:X.A.units+64 < cLine):OpR X (compareOp .NotEq) (rEqD X.K true):=by
 intro pins s σ H x y v u Q I r1 r2 h
 obtain⟨d,e,i1,i2,s1,s2,nm,q⟩:=h
 obtain⟨as,a⟩:=i1.reads I r1
 obtain⟨bs,b⟩:=i2.reads I r2
 exact ne_dataH_same a b s1 s2 hu nm ⟨.bl _,H,I,rfl,q⟩
structure Cal(P:Program)(w:World)(K:u0)(mg:Str->Option Value)(base:Heap)(k:Nat)(x:Str)(ps:List Str)(sp:Sp):Prop where
 ex:∃(f:Addr) (fd:FuncData),FnOk P w K mg base CX0 k f fd ps sp/\mg x=some (.ref f)/\W4 K (.ref f)=true/\Binds K fd ps []
theorem pe_fn{X:Cx}{k:Nat}{x:Str}{ps:List Str}{sp:Sp}{p pos:Pos}{e:Expr}{es:List Expr}{t:TA}(C:Cal X.prog X.w X.K X.mg X.base k x ps sp)(hr:Room k X.A)(ha:PA X (e :: es) t)(hg:Gl X x:=by rfl)
  (hdb:(x==("__debug__":Str))=false:=by decide) (he:starEach (e :: es) X.env=(false,eval e X.env) :: starEach es X.env:=by rfl) (hpl:(backTo pos (starEach es X.env)).any (·.1)=false:=by rfl) :
  PE X (.Call (.Name x p) (e :: es) [] pos) (tCall sp [] E0 t):=by
 obtain⟨f,fd,F,hm,hk,hb⟩:=C.ex
 exact pe_call F hr hg hm hk hb .nil pass0 ha hdb he hpl
noncomputable def compOk(ds:Scope)(N:List Str)(fr:List Nat)(sc:Scope):Bool :=
 decide (sc.kind=.function)&&(sc.names.all λy=>!decide (y.2=.cell)||decide (sc.names.lookup y.1=some .cell))&&(sc.names.all λy=>!decide (y.2=.local)||decide (sc.names.lookup y.1=some .local)) &&
 (sc.names.all λy=>!decide (y.2=.free)||(decide (ds.names.lookup y.1=some .cell)||decide (ds.names.lookup y.1=some .free))) &&
 (fr.all λi=>match N[i]? with|some x=>decide (sc.names.lookup x=some .free)|none=>false)
theorem compSc_of{X:Cx}{own:List Str}{fr:List Nat}{sc:Scope}(h:compOk X.env.scope X.N fr sc=true):CompSc X own fr sc:=by
 unfold compOk at h
 simp only[Z3,decide_eq_true_eq,List.all_eq_true,Bool.or_eq_true,Bool.not_eq_true',decide_eq_false_iff_not]at h
 obtain⟨⟨⟨⟨h1,h2⟩,h3⟩,h4⟩,h5⟩:=h
 refine ⟨h1,λy hy e=>?_,λy hy e=>?_,λy hy e=>?_,λi hi=>?_⟩
 ·rcases h2 y hy with z|z
  ·exact absurd e z
  ·exact z
 ·rcases h3 y hy with z|z
  ·exact absurd e z
  ·exact z
 ·rcases h4 y hy with z|z
  ·exact absurd e z
  ·exact z
 ·have:=h5 i hi
  cases q:X.N[i]? with
  | none=>rw[q]at this;cases this
  | some x=>rw[q]at this;exact ⟨x,rfl,of_decide_eq_true this⟩
noncomputable def CompW(J:It)(own:List Str)(fr:List Nat)(g:TG)(tc:TT)(te:TE)(σ:St)(H:Hp)(Q:VK):Prop :=
 ∃W:Nat->Nat->List V->St->Hp->Prop,(∃m,W 0 m [] (st0 own σ fr) H)/\∀i m ys τ H,W i m ys τ H ->
   (J.stop i H/\∀D,H D=none->Q (.ref D) (upd H D (.lst ys))) \/
   (J.go i H/\ys.length < sizeLine/\∃N:List V->St->Hp->Prop,(∀ys' τ' H',N ys' τ' H'->∃m',m' < m/\W (i+1) m' ys' τ' H')/\∀x H',J.yld i H x H'->g x τ H' λτ2 H2 =>
     tc τ2 H2 λb H3=>if b=true then te τ2 H3 λy H4=>N (ys++[y]) τ2 H4 else N ys τ2 H3)
noncomputable def tCompW(wi:TI)(own:List Str)(fr:List Nat)(g:TG)(tc:TT)(te:TE):TE:=λσ H Q=>wi σ H λJ H1=>CompW J own fr g tc te σ H1 Q
theorem pe_compW{X:Cx}{tg iter elt:Expr}{ifs:List Expr}{sc:Scope}{pos:Pos}{own:List Str}{fr:List Nat}{wi:TI}{g:TG}{tc:TT}{te:TE}(hc:X.calm=true)(S:CompSc X own fr sc)(hi:PI X tg iter wi)
  (hg:∀C s H ex,PG (cxComp X own fr sc C s H ex) tg g) (hif:∀C s H ex,PIf (cxComp X own fr sc C s H ex) ifs tc) (he:∀C s H ex,PE (cxComp X own fr sc C s H ex) elt te)
  (hs:∀x,foldedSetIterable iter X.env x=pure x:=by intro _;rfl):PE X (.ListComp elt [⟨tg,iter,ifs,0⟩] sc pos) (tCompW wi own fr g tc te):=pe_comp hc S hi hg hif he hs
theorem ps_setCompW{X:Cx}{tg iter elt:Expr}{ifs:List Expr}{sc:Scope}{pos spos py:Pos}{i:Nat}{y:Str}{own:List Str}{fr:List Nat}{wi:TI}{g:TG}{tc:TT}{te:TE}(hN:X.N.Nodup)(hy:X.N[i]?=some y)(hl:X.env.scope.names.lookup y=some .local)(hc:X.calm=true)(S:CompSc X own fr sc)(hi:PI X tg iter wi)
  (hg:∀C s H ex,PG (cxComp X own fr sc C s H ex) tg g) (hif:∀C s H ex,PIf (cxComp X own fr sc C s H ex) ifs tc) (he:∀C s H ex,PE (cxComp X own fr sc C s H ex) elt te)
  (hsw:swapsWith (.ListComp elt [⟨tg,iter,ifs,0⟩] sc pos) (some (.Name y py)) spos.line X.env=pure true:=by rfl)
  (hs:∀x,foldedSetIterable iter X.env x=pure x:=by intro _;rfl):PS X (.Assign [.Name y py] (.ListComp elt [⟨tg,iter,ifs,0⟩] sc pos) spos) (tAsg (tCompW wi own fr g tc te) (gName i)):=ps_setComp hN hy hl hc S hi hg hif he hsw hs
section
variable {X:Cx}{K:u0}
theorem ix_listK(h:X.K=K):IxR X (rIxL K):=by subst h;exact ix_list
theorem ix_tupK(h:X.K=K):IxR X (rIxT K):=by subst h;exact ix_tup
noncomputable def rLen(K:u0):List V->Hp->VK->Prop:=λxs H Q=>∃(p:Addr) (ys:List V),xs=[.ref p]/\(SqL K H p ys\/SqT K H p ys)/\Q (.int ys.length) H
theorem call_lenK(h:X.K=K):CallR X (.builtin "len") (rLen K):=by subst h;exact call_len_seq
noncomputable def rTupleOf(K:u0):List V->Hp->VK->Prop:=λxs H Q=>∃(p:Addr) (ys:List V),xs=[.ref p]/\((SqL K H p ys/\∀l,H l=none->Q (.ref l) (upd H l (.tup ys)))\/(SqT K H p ys/\Q (.ref p) H))
theorem call_tupleK(h:X.K=K):CallR X (.type "tuple") (rTupleOf K):=by subst h;exact call_tuple_of
theorem op_eqDK(h:X.K=K)(hu:X.A.units+64 < cLine):OpR X (compareOp .Eq) (rEqD K false):=by subst h;exact op_eqD hu
theorem op_neDK(h:X.K=K)(hu:X.A.units+64 < cLine):OpR X (compareOp .NotEq) (rEqD K true):=by subst h;exact op_neD hu
theorem pi_zip2K{es:List Expr}{kk:Nat}{tpos:Pos}{a b:Expr}{ta:TA}{p pos:Pos}(h:X.K=K)(hg:Gl X "zip")(hm:X.mg "zip"=none)(ha:PA X [a,b] ta)(hs:starEach [a,b] X.env=(false,eval a X.env) :: starEach [b] X.env:=by rfl)(hpl:(backTo pos (starEach [b] X.env)).any (·.1)=false:=by rfl) :
  PI X (.Tuple es kk tpos) (.Call (.Name "zip" p) [a,b] [] pos) (iZip2 K ta):=by subst h;exact pi_zip2 hg hm ha hs hpl
theorem pi_zip3K{es:List Expr}{kk:Nat}{tpos:Pos}{a b c:Expr}{ta:TA}{p pos:Pos}(h:X.K=K)(hg:Gl X "zip")(hm:X.mg "zip"=none)(ha:PA X [a,b,c] ta)(hs:starEach [a,b,c] X.env=(false,eval a X.env) :: starEach [b,c] X.env:=by rfl)(hpl:(backTo pos (starEach [b,c] X.env)).any (·.1)=false:=by rfl) :
  PI X (.Tuple es kk tpos) (.Call (.Name "zip" p) [a,b,c] [] pos) (iZip3 K ta):=by subst h;exact pi_zip3 hg hm ha hs hpl
theorem pg_tupK{es:List Expr}{k:Nat}{t:TGs}{n:Nat}{pos:Pos}(h:X.K=K)(hc:X.calm=true)(hh:PGs X es t)(hn:(assignEach es X.env).length=n:=by rfl)(hst:(assignEach es X.env).findIdx? (·.1)=none:=by rfl):PG X (.Tuple es k pos) (gTup K n t):=by subst h;exact pg_tup hc hh hn hst
end
theorem cat_tup0{prog:Program}{w:World}{A:Around}{E:Value->Shared->Prop}{s:Shared}{t b:Addr}{ws:List Value}{Q:Value->Shared->Prop}(ht:IsTup s.heap t ([]:List Value).toArray)(hb:IsTup s.heap b ws.toArray)(h:Q (.ref b) s):wpAny (model prog w) A (binaryOp .Add (.ref t) (.ref b)) Q E s:=by
 obtain⟨⟨cls,dd,data,sl⟩,ho,hc,n,hd⟩:=id ht
 obtain⟨⟨cls2,dd2,data2,sl2⟩,ho2,hc2,n2,hd2⟩:=id hb
 simp only at hc hd hc2 hd2
 subst hc hd hc2 hd2
 exact concat_meets ⟨_,ho,rfl⟩ ⟨_,ho2,rfl⟩ noFill_tuple_add seq_tuple_add PySem.F.slot_tuple_add PySem.F.entry_tuple_add (PySem.F.args_tuple_add_2 _ _) (tuple_addW0 t b _ ws.toArray n n2 dd dd2 sl sl2 rfl) ⟨ho,ho2,h⟩
open PySem PySem.Spec
noncomputable abbrev opqO(a:Addr):HO:=.ext λh=>∃o es ep,h.get? a=some o/\o.ExactDict/\o.data=.dict es ep
noncomputable def hL(k:List Int):Int:=reduceHash (O7 (k.map hashInt))
noncomputable def hB(k:List Int×List Int):Int:=reduceHash (O7 [hL k.1,hL k.2])
noncomputable abbrev extD{κ:Type}(hs:κ->Int)(a:Addr)(ep:Nat)(xs:List (κ×Addr×V)):HO:=.ext λh=>(∃vs:List (κ×Addr×Value),Paired (λx v=>x.1=v.1/\x.2.1=v.2.1/\RelV x.2.2 v.2.2) xs vs /\
  ∃o es,h.get? a=some o/\o.ExactDict/\o.data=.dict es ep/\es.toList=vs.map λx=>⟨hs x.1,.ref x.2.1,x.2.2⟩)/\(xs.map (·.1)).Nodup/\xs.length<=sizeLine/\(a==sysModules)=false
noncomputable abbrev excO(a C:Addr):HO:=.ext λh=>∃o vs,h.get? a=some o/\o.cls=.ref C/\o.data=.fields vs
end L2
namespace L3
open PySem PySem.Spec L2
noncomputable abbrev D:=PyData
noncomputable abbrev Fg:=u0
noncomputable def Sub(F H:Hp):Prop:=∀a o,F a=some o->H a=some o
theorem Sub.refl(H:Hp):Sub H H:=λ_ _ h=>h
theorem Sub.trans{A B C:Hp}(h:Sub A B)(k:Sub B C):Sub A C:=λa o e=>k a o (h a o e)
theorem Sub.new{F:Hp}{a:Addr}{o:HO}(h:F a=none):Sub F (upd F a o):=λb u e=>by rw[upd_ne (ne_of_none e h)];exact e
theorem Sub.rd{F H:Hp}{a:Addr}{u:HO}(s:Sub F H):Rd F a u->Rd H a u
 | .inl h=>.inl (s _ _ h)
 | .inr ⟨o,h⟩=>.inr ⟨o,s _ _ h⟩
theorem Sub.sql{K:Fg}{F H:Hp}{a:Addr}{xs:List V}(s:Sub F H):SqL K F a xs->SqL K H a xs
 | .inl h=>.inl (s.rd h)
 | .inr h=>.inr h
noncomputable def keyD:Key->D
 | .inl i=>.int i
 | .inr x=>.str x
noncomputable abbrev scrD(ns:List Int):D:=.dict [(.none,.list (ns.map j0))]
noncomputable abbrev excD(C:Addr):D:=.dict [(.bool true,.int (C:Nat))]
noncomputable abbrev opqD:D:=.dict [(.bool false,.none)]
noncomputable abbrev pdD(ps:List (List Int×D)):D:=.dict [(.bool false,.list (ps.map λp=>.tuple [.tuple (p.1.map j0),p.2]))]
noncomputable abbrev bdD(ps:List ((List Int×List Int)×D)):D:=.dict [(.bool false,.tuple (ps.map λp=>.tuple [.tuple [.tuple (p.1.1.map j0),.tuple (p.1.2.map j0)],p.2]))]
mutual
inductive Da (K:Fg) (F:Hp):V->D->Prop
 | non:Da K F .non .none
 | bl (b):Da K F (.bl b) (.bool b)
 | int (i):Da K F (.int i) (.int i)
 | str (x):Da K F (.str x) (.str x)
 | lst {a xs ds}:F a=some (.lst xs)->DaAll K F xs ds->Da K F (.ref a) (.list ds)
 | tup {a xs ds}:F a=some (.tup xs)->DaAll K F xs ds->Da K F (.ref a) (.tuple ds)
 | dk {a kvs es}:Rd F a (.dK kvs)->DaKV K F kvs es->Da K F (.ref a) (.dict es)
 | dt {a kvs es}:Rd F a (.dT kvs)->DaKT K F kvs es->Da K F (.ref a) (.dict es)
 | scr {a ns}:SqL K F a (ns.map V.int)->Da K F (.ref a) (scrD ns)
 | exc {a C}:F a=some (excO a C)->Da K F (.ref a) (excD C)
 | opq {a}:F a=some (opqO a)->Da K F (.ref a) opqD
 | pd {a a' ep xs ps}:F a=some (extD hL a' ep xs)->DaPd K F xs ps->Da K F (.ref a) (pdD ps)
 | bd {a ep xs ps}:F a=some (extD hB a ep xs)->DaBd K F xs ps->Da K F (.ref a) (bdD ps)
inductive DaAll (K:Fg) (F:Hp):List V->List D->Prop
 | nil:DaAll K F [] []
 | cons {x xs d ds}:Da K F x d->DaAll K F xs ds->DaAll K F (x :: xs) (d :: ds)
inductive DaKV (K:Fg) (F:Hp):List (Key×V)->List (D×D)->Prop
 | nil:DaKV K F [] []
 | cons {k v d kvs es}:Da K F v d->DaKV K F kvs es->DaKV K F ((k,v) :: kvs) ((keyD k,d) :: es)
inductive DaKT (K:Fg) (F:Hp):List (List Key×V)->List (D×D)->Prop
 | nil:DaKT K F [] []
 | cons {ks v d kvs es}:Da K F v d->DaKT K F kvs es->DaKT K F ((ks,v) :: kvs) ((.tuple (ks.map keyD),d) :: es)
inductive DaPd (K:Fg) (F:Hp):List (List Int×Addr×V)->List (List Int×D)->Prop
 | nil:DaPd K F [] []
 | cons {k b v d xs ps}:F b=some (.tup (k.map V.int))->Da K F v d->DaPd K F xs ps->DaPd K F ((k,b,v) :: xs) ((k,d) :: ps)
inductive DaBd (K:Fg) (F:Hp):List ((List Int×List Int)×Addr×V)->List ((List Int×List Int)×D)->Prop
 | nil:DaBd K F [] []
 | cons {k b c e v d xs ps}:F b=some (.tup [.ref c,.ref e])->F c=some (.tup (k.1.map V.int))->F e=some (.tup (k.2.map V.int))->Da K F v d->DaBd K F xs ps->DaBd K F ((k,b,v) :: xs) ((k,d) :: ps)
end
section
variable {K:Fg}{F F':Hp}
mutual
theorem Da.mono(s:Sub F F'):∀{v:V}{d:D},Da K F v d->Da K F' v d
 | _,_,.non=>.non
 | _,_,.bl b=>.bl b
 | _,_,.int i=>.int i
 | _,_,.str x=>.str x
 | _,_,.lst h t=>.lst (s _ _ h) (DaAll.mono s t)
 | _,_,.tup h t=>.tup (s _ _ h) (DaAll.mono s t)
 | _,_,.dk h t=>.dk (s.rd h) (DaKV.mono s t)
 | _,_,.dt h t=>.dt (s.rd h) (DaKT.mono s t)
 | _,_,.scr h=>.scr (s.sql h)
 | _,_,.exc h=>.exc (s _ _ h)
 | _,_,.opq h=>.opq (s _ _ h)
 | _,_,.pd h t=>.pd (s _ _ h) (DaPd.mono s t)
 | _,_,.bd h t=>.bd (s _ _ h) (DaBd.mono s t)
theorem DaAll.mono(s:Sub F F'):∀{xs:List V}{ds:List D},DaAll K F xs ds->DaAll K F' xs ds
 | _,_,.nil=>.nil
 | _,_,.cons h t=>.cons (Da.mono s h) (DaAll.mono s t)
theorem DaKV.mono(s:Sub F F'):∀{xs:List (Key×V)}{ds:List (D×D)},DaKV K F xs ds->DaKV K F' xs ds
 | _,_,.nil=>.nil
 | _,_,.cons h t=>.cons (Da.mono s h) (DaKV.mono s t)
theorem DaKT.mono(s:Sub F F'):∀{xs:List (List Key×V)}{ds:List (D×D)},DaKT K F xs ds->DaKT K F' xs ds
 | _,_,.nil=>.nil
 | _,_,.cons h t=>.cons (Da.mono s h) (DaKT.mono s t)
theorem DaPd.mono(s:Sub F F'):∀{xs:List (List Int×Addr×V)}{ps:List (List Int×D)},DaPd K F xs ps->DaPd K F' xs ps
 | _,_,.nil=>.nil
 | _,_,.cons h v t=>.cons (s _ _ h) (Da.mono s v) (DaPd.mono s t)
theorem DaBd.mono(s:Sub F F'):∀{xs:List ((List Int×List Int)×Addr×V)}{ps:List ((List Int×List Int)×D)},DaBd K F xs ps->DaBd K F' xs ps
 | _,_,.nil=>.nil
 | _,_,.cons h h1 h2 v t=>.cons (s _ _ h) (s _ _ h1) (s _ _ h2) (Da.mono s v) (DaBd.mono s t)
end
theorem DaAll.length:∀{xs:List V}{ds:List D},DaAll K F xs ds->xs.length=ds.length
 | _,_,.nil=>rfl
 | _,_,.cons _ t=>by simp[DaAll.length t]
theorem DaAll.get:∀{xs:List V}{ds:List D}{i:Nat}{d:D},DaAll K F xs ds->ds[i]?=some d->∃v,xs[i]?=some v/\Da K F v d
 | _,_,_,_,.nil,e=>by simp at e
 | _,_,0,_,.cons h _,e=>by simp at e;subst e;exact ⟨_,rfl,h⟩
 | _,_,i+1,_,.cons _ t,e=>by
  obtain⟨v,a,b⟩:=DaAll.get (i:=i) t (by simpa using e)
  exact ⟨v,by simpa using a,b⟩
theorem DaAll.append:∀{xs ys:List V}{ds es:List D},DaAll K F xs ds->DaAll K F ys es->DaAll K F (xs++ys) (ds++es)
 | _,_,_,_,.nil,s=>s
 | _,_,_,_,.cons h t,s=>.cons h (DaAll.append t s)
theorem DaAll.set{v:V}{d:D}(h:Da K F v d):∀{xs:List V}{ds:List D} (i:Nat),DaAll K F xs ds->DaAll K F (xs.set i v) (ds.set i d)
 | _,_,_,.nil=>.nil
 | _,_,0,.cons _ t=>.cons h t
 | _,_,i+1,.cons q t=>.cons q (DaAll.set h i t)
theorem DaAll.dropLast:∀{xs:List V}{ds:List D},DaAll K F xs ds->DaAll K F xs.dropLast ds.dropLast
 | _,_,.nil=>.nil
 | _,_,.cons _ .nil=>.nil
 | _,_,.cons h (.cons h' t)=>.cons h (DaAll.dropLast (.cons h' t))
theorem DaAll.rep{xs:List V}{ds:List D}(h:DaAll K F xs ds):∀k:Nat,DaAll K F (U1 k xs).flatten (U1 k ds).flatten
 | 0=>.nil
 | k+1=>by rw[U3,U3,M5,M5];exact h.append (DaAll.rep h k)
theorem DaAll.ints:∀ns:List Int,DaAll K F (ns.map V.int) (ns.map j0)
 | []=>.nil
 | n :: ns=>.cons (.int n) (DaAll.ints ns)
end
inductive Sl where
 | fz (d:D)|ow (d:D)|io (d:D)
noncomputable def Sl.d:Sl->D
 | .fz d=>d
 | .ow d=>d
 | .io d=>d
noncomputable def isOw:Sl->Bool
 | .fz _=>false
 | .ow _=>true
 | .io _=>true
noncomputable abbrev Ev:=List (Option Sl)
noncomputable def Own1(K:Fg)(F:Hp):HO->D->Prop
 | .lst xs,.list ds=>DaAll K F xs ds
 | .dK kvs,.dict es=>DaKV K F kvs es
 | .dT kvs,.dict es=>DaKT K F kvs es
 | .ext φ,.dict [(.bool false,.list L)]=>∃(a':Addr) (ep:Nat) (xs:List (List Int×Addr×V)) (ps:List (List Int×D)),HO.ext φ=extD hL a' ep xs/\L=ps.map (λp=>.tuple [.tuple (p.1.map j0),p.2])/\DaPd K F xs ps
 | _,_=>False
section
variable {K:Fg}{F F':Hp}{o:HO}{d:D}{a:Addr}
theorem Own1.ext{φ:Heap->Prop}(h:Own1 K F (.ext φ) d):∃(a':Addr) (ep:Nat) (xs:List (List Int×Addr×V)) (ps:List (List Int×D)),HO.ext φ=extD hL a' ep xs/\d=pdD ps/\DaPd K F xs ps:=by
 unfold Own1 at h
 split at h
 ·rename_i z;cases z
 ·rename_i z;cases z
 ·rename_i z;cases z
 ·rename_i z
  obtain⟨a',ep,xs,ps,e,rfl,t⟩:=h
  exact ⟨a',ep,xs,ps,z.trans e,rfl,t⟩
 ·exact h.elim
theorem Own1.pd{a':Addr}{ep:Nat}{xs:List (List Int×Addr×V)}{ps:List (List Int×D)}(h:DaPd K F xs ps):Own1 K F (extD hL a' ep xs) (pdD ps):=⟨a',ep,xs,ps,rfl,rfl,h⟩
theorem Own1.mono(s:Sub F F')(h:Own1 K F o d):Own1 K F' o d:=by
 cases o with
 | ext φ =>
  obtain⟨a',ep,xs,ps,e,rfl,t⟩:=h.ext
  exact ⟨a',ep,xs,ps,e,rfl,t.mono s⟩
 | _=>cases d<;>first|exact DaAll.mono s h|exact DaKV.mono s h|exact DaKT.mono s h|exact h.elim
theorem Own1.da(h:Own1 K F o d)(e:F a=some o):Da K F (.ref a) d:=by
 cases o with
 | ext φ =>
  obtain⟨a',ep,xs,ps,z,rfl,t⟩:=h.ext
  rw[z]at e
  exact .pd e t
 | _=>cases d<;>first|exact .lst e h|exact .dk (.inl e) h|exact .dt (.inl e) h|exact h.elim
end
structure Gh where
 H0:Hp
 F0:Hp
 io:Nat->Option Addr
structure Rel(K:Fg)(G:Gh)(F:Hp)(σ:St)(H:Hp)(ρ:Ev):Prop where
 len:σ.length=ρ.length
 sub:Sub F H
 sub0:Sub G.F0 F
 fn:∀a o,F a=some o->G.F0 a=some o\/G.H0 a=none
 keep:∀a o,G.H0 a=some o->(∀i,G.io i≠some a)->H a=some o
 fz:∀(i:Nat) (d:D),ρ[i]?=some (some (Sl.fz d))->∃v,σ[i]?=some (some v)/\Da K F v d
 ow:∀(i:Nat) (s:Sl),ρ[i]?=some (some s)->isOw s=true->∃a o,σ[i]?=some (some (V.ref a))/\F a=none/\H a=some o/\Own1 K F o s.d
 new:∀(i:Nat) (d:D) (a:Addr),ρ[i]?=some (some (Sl.ow d))->σ[i]?=some (some (V.ref a))->G.H0 a=none
 io:∀(i:Nat) (a:Addr),G.io i=some a->∃d,ρ[i]?=some (some (Sl.io d))/\σ[i]?=some (some (V.ref a))
 ioi:∀(i:Nat) (d:D),ρ[i]?=some (some (Sl.io d))->∃a,G.io i=some a
 ap:∀(i j:Nat) (s t:Sl) (a:Addr),ρ[i]?=some (some s)->isOw s=true->ρ[j]?=some (some t)->isOw t=true->σ[i]?=some (some (V.ref a))->σ[j]?=some (some (V.ref a))->i=j
noncomputable def Res(K:Fg)(G:Gh)(F H:Hp)(σ:St)(ρ:Ev)(v:V):Sl->Prop
 | .fz d=>Da K F v d
 | .ow d=>∃a o,v=.ref a/\F a=none/\H a=some o/\Own1 K F o d/\G.H0 a=none/\∀(i:Nat) (s:Sl),ρ[i]?=some (some s)->isOw s=true->σ[i]?≠some (some (V.ref a))
 | .io _=>False
section
variable {K:Fg}{G:Gh}{F F' H:Hp}{σ:St}{ρ:Ev}{a:Addr}{o:HO}{d:D}{v:V}{s:Sl}
theorem Rel.bound(R:Rel K G F σ H ρ){i:Nat}(h:ρ[i]?=some (some s)):∃v,σ[i]?=some (some v):=by
 cases s with
 | fz d=>obtain⟨v,e,_⟩:=R.fz i d h;exact ⟨v,e⟩
 | ow d=>obtain⟨a,o,e,_⟩:=R.ow i _ h rfl;exact ⟨_,e⟩
 | io d=>obtain⟨a,o,e,_⟩:=R.ow i _ h rfl;exact ⟨_,e⟩
theorem Rel.h0(R:Rel K G F σ H ρ)(h:H a=none):G.H0 a=none:=by
 cases e:G.H0 a with
 | none=>rfl
 | some o =>
  by_cases q:∃i,G.io i=some a
  ·obtain⟨i,q⟩:=q
   obtain⟨d,h1,h2⟩:=R.io i a q
   obtain⟨a',o',h3,_,h4,_⟩:=R.ow i _ h1 rfl
   rw[h2]at h3
   cases h3
   rw[h]at h4;cases h4
  ·have:=R.keep a o e λi z=>q ⟨i,z⟩
   rw[h]at this;cases this
theorem Rel.f0(R:Rel K G F σ H ρ)(h:H a=none):F a=none:=by
 cases e:F a with
 | none=>rfl
 | some o=>rw[R.sub a o e]at h;cases h
theorem Rel.laid(R:Rel K G F σ H ρ)(h:H a=none):Rel K G F σ (upd H a o) ρ where
 len:=R.len
 sub:=λb u e=>by rw[upd_ne (ne_of_none (R.sub b u e) h)];exact R.sub b u e
 sub0:=R.sub0
 fn:=R.fn
 keep:=λb u e n=>by rw[upd_ne (ne_of_none (R.keep b u e n) h)];exact R.keep b u e n
 fz:=R.fz
 ow:=λi s e w=>by
  obtain⟨a',o',h1,h2,h3,h4⟩:=R.ow i s e w
  exact ⟨a',o',h1,h2,by rw[upd_ne (ne_of_none h3 h)];exact h3,h4⟩
 new:=R.new
 io:=R.io
 ioi:=R.ioi
 ap:=R.ap
theorem Rel.grow(R:Rel K G F σ H ρ)(h0:G.H0 a=none)(h:H a=some o)(hn:∀(i:Nat) (s:Sl),ρ[i]?=some (some s)->isOw s=true->σ[i]?≠some (some (V.ref a))):Sub F (upd F a o)/\Rel K G (upd F a o) σ H ρ:=by
 have sb:Sub F (upd F a o):=λb u e=>by
  by_cases z:b=a
  ·subst z;rw[upd_same,<- h];exact R.sub _ _ e
  ·rw[upd_ne z];exact e
 refine ⟨sb,R.len,λb u e=>?_,R.sub0.trans sb,λb u e=>?_,R.keep,λi d e=>?_,λi s e w=>?_,R.new,R.io,R.ioi,R.ap⟩
 ·by_cases z:b=a
  ·subst z;rw[upd_same]at e;rw[h];exact e
  ·rw[upd_ne z]at e;exact R.sub _ _ e
 ·by_cases z:b=a
  ·subst z;exact .inr h0
  ·rw[upd_ne z]at e;exact R.fn _ _ e
 ·obtain⟨v,h1,h2⟩:=R.fz i d e
  exact ⟨v,h1,h2.mono sb⟩
 ·obtain⟨a',o',h1,h2,h3,h4⟩:=R.ow i s e w
  have z:a'≠a:=λz=>hn i s e w (by rw[h1,z])
  exact ⟨a',o',h1,by rw[upd_ne z];exact h2,h3,h4.mono sb⟩
theorem Res.frz(R:Rel K G F σ H ρ)(r:Res K G F H σ ρ v s):∃F',Sub F F'/\Rel K G F' σ H ρ/\Da K F' v s.d:=by
 cases s with
 | fz d=>exact ⟨F,Sub.refl _,R,r⟩
 | ow d =>
  obtain⟨a,o,rfl,h1,h2,h3,h4,h5⟩:=r
  obtain⟨sb,R'⟩:=R.grow h4 h2 h5
  exact ⟨_,sb,R',(h3.mono sb).da upd_same⟩
 | io d=>exact r.elim
theorem Rel.newOw(R:Rel K G F σ H ρ)(h:H a=none)(w:Own1 K F o d):Rel K G F σ (upd H a o) ρ/\Res K G F (upd H a o) σ ρ (.ref a) (.ow d):=by
 refine ⟨R.laid h,a,o,rfl,R.f0 h,upd_same,w,R.h0 h,λi s e w z=>?_⟩
 obtain⟨a',o',h1,h2,h3,h4⟩:=R.ow i s e w
 rw[z]at h1
 cases h1
 rw[h]at h3;cases h3
theorem Rel.newTup(R:Rel K G F σ H ρ){xs:List V}{ds:List D}(h:H a=none)(w:DaAll K F xs ds) :
  Sub F (upd F a (.tup xs))/\Rel K G (upd F a (.tup xs)) σ (upd H a (.tup xs)) ρ/\Da K (upd F a (.tup xs)) (.ref a) (.tuple ds):=by
 have R1:Rel K G F σ (upd H a (.tup xs)) ρ:=R.laid h
 obtain⟨sb,R2⟩:=R1.grow (a:=a) (o:=.tup xs) (R.h0 h) upd_same λi s e w z=>by
  obtain⟨a',o',h1,h2,h3,h4⟩:=R.ow i s e w
  rw[z]at h1
  cases h1
  rw[h]at h3;cases h3
 exact ⟨sb,R2,.tup upd_same (w.mono sb)⟩
noncomputable def Sl.put:Sl->D->Sl
 | .fz _,d=>.fz d
 | .ow _,d=>.ow d
 | .io _,d=>.io d
theorem get_set{α:Type}{l:List α}{i j:Nat}{x y:α}(h:(l.set i x)[j]?=some y):(j=i/\y=x)\/(j≠i/\l[j]?=some y):=by
 by_cases z:i=j
 ·subst z
  rw[List.getElem?_set]at h
  simp at h
  exact .inl ⟨rfl,h.2.symm⟩
 ·rw[V0 z]at h
  exact .inr ⟨λq=>z q.symm,h⟩
theorem set_get{α:Type}{l:List α}{i:Nat}{x:α}(h:i < l.length):(l.set i x)[i]?=some x:=by simp[h]
theorem lt_of_get{α:Type}{l:List α}{i:Nat}{x:α}(h:l[i]?=some x):i < l.length:=(W0.mp h).1
theorem Rel.change(R:Rel K G F σ H ρ){i:Nat}{o':HO}{d':D}(h:ρ[i]?=some (some s))(w:isOw s=true)(ha:σ[i]?=some (some (V.ref a)))(q:Own1 K F o' d') :
  Rel K G F σ (upd H a o') (ρ.set i (some (s.put d'))):=by
 obtain⟨a0,o0,h1,h2,h3,h4⟩:=R.ow i s h w
 rw[ha]at h1;cases h1
 have sw:isOw (s.put d')=true:=by cases s<;>first|rfl|cases w
 have hl:=lt_of_get h
 refine ⟨by rw[P4];exact R.len,λb u e=>?_,R.sub0,R.fn,λb u e n=>?_,λj d e=>?_,λj t e wt=>?_,λj d b e eb=>?_,λj b e=>?_,λj d e=>?_,λj k t u b e1 w1 e2 w2 e3 e4=>?_⟩
 ·have z:b≠a:=λz=>by subst z;rw[h2]at e;cases e
  rw[upd_ne z];exact R.sub _ _ e
 ·by_cases z:b=a
  ·subst z
   cases s with
   | fz d=>cases w
   | ow d=>rw[R.new i d b h ha]at e;cases e
   | io d =>
    obtain⟨a',e'⟩:=R.ioi i d h
    obtain⟨d',_,e2⟩:=R.io i a' e'
    rw[ha]at e2;cases e2
    exact absurd e' (n i)
  ·rw[upd_ne z];exact R.keep _ _ e n
 ·rcases get_set e with⟨rfl,z⟩|⟨n,z⟩
  ·cases s<;>simp[Sl.put,isOw]at z w
  ·exact R.fz j d z
 ·rcases get_set e with⟨rfl,z⟩|⟨n,z⟩
  ·cases z
   exact ⟨a,o',ha,h2,upd_same,by cases s<;>first|exact q|cases w⟩
  ·obtain⟨b,u,g1,g2,g3,g4⟩:=R.ow j t z wt
   have nb:b≠a:=λx=>n (R.ap j i t s a z wt h w (by rw[g1,x]) ha)
   exact ⟨b,u,g1,g2,by rw[upd_ne nb];exact g3,g4⟩
 ·rcases get_set e with⟨rfl,z⟩|⟨n,z⟩
  ·cases s with
   | fz d=>cases w
   | ow d0=>exact R.new j d0 b h eb
   | io d=>cases z
  ·exact R.new j d b z eb
 ·obtain⟨d,e1,e2⟩:=R.io j b e
  by_cases z:j=i
  ·subst z
   rw[h]at e1
   cases e1
   exact ⟨d',by rw[set_get hl];rfl,e2⟩
  ·exact ⟨d,by rw[V0 (V2 z)];exact e1,e2⟩
 ·rcases get_set e with⟨rfl,z⟩|⟨n,z⟩
  ·cases s with
   | fz d=>cases w
   | ow d0=>cases z
   | io d0=>exact R.ioi j d0 h
  ·exact R.ioi j d z
 ·have f:∀(j:Nat) (t:Sl),(ρ.set i (some (s.put d')))[j]?=some (some t)->isOw t=true->∃t',ρ[j]?=some (some t')/\isOw t'=true:=λj t e wt=>by
   rcases get_set e with⟨rfl,z⟩|⟨n,z⟩
   ·exact ⟨s,h,w⟩
   ·exact ⟨t,z,wt⟩
  obtain⟨t',e1',w1'⟩:=f j t e1 w1
  obtain⟨u',e2',w2'⟩:=f k u e2 w2
  exact R.ap j k t' u' b e1' w1' e2' w2' e3 e4
theorem Rel.forget(R:Rel K G F σ H ρ){i:Nat}(h:ρ[i]?=some (some (Sl.ow d))):Rel K G F σ H (ρ.set i none):=by
 refine ⟨by rw[P4];exact R.len,R.sub,R.sub0,R.fn,R.keep,λj d e=>?_,λj t e wt=>?_,λj d b e eb=>?_,λj b e=>?_,λj d e=>?_,λj k t u b e1 w1 e2 w2 e3 e4=>?_⟩
 ·rcases get_set e with⟨rfl,z⟩|⟨n,z⟩
  ·cases z
  ·exact R.fz j d z
 ·rcases get_set e with⟨rfl,z⟩|⟨n,z⟩
  ·cases z
  ·exact R.ow j t z wt
 ·rcases get_set e with⟨rfl,z⟩|⟨n,z⟩
  ·cases z
  ·exact R.new j d b z eb
 ·obtain⟨d',e1,e2⟩:=R.io j b e
  have n:i≠j:=λz=>by subst z;rw[h]at e1;cases e1
  exact ⟨d',by rw[V0 n];exact e1,e2⟩
 ·rcases get_set e with⟨rfl,z⟩|⟨n,z⟩
  ·cases z
  ·exact R.ioi j d z
 ·rcases get_set e1 with⟨rfl,z⟩|⟨n,z⟩
  ·cases z
  ·rcases get_set e2 with⟨rfl,z'⟩|⟨n',z'⟩
   ·cases z'
   ·exact R.ap j k t u b z w1 z' w2 e3 e4
theorem Rel.freeze(R:Rel K G F σ H ρ){i:Nat}(h:ρ[i]?=some (some (Sl.ow d))):∃F' v,Sub F F'/\Rel K G F' σ H (ρ.set i (some (Sl.fz d)))/\σ[i]?=some (some v)/\Da K F' v d:=by
 obtain⟨a,o,h1,h2,h3,h4⟩:=R.ow i _ h rfl
 have hl:=lt_of_get h
 have R1:=R.forget h
 have hn:∀(j:Nat) (s:Sl),(ρ.set i none)[j]?=some (some s)->isOw s=true->σ[j]?≠some (some (V.ref a)):=λj s e w z=>by
  rcases get_set e with⟨rfl,q⟩|⟨n,q⟩
  ·cases q
  ·exact n (R.ap j i s _ a q w h rfl z h1)
 obtain⟨sb,R2⟩:=R1.grow (R.new i d a h h1) h3 hn
 have dd:Da K (upd F a o) (.ref a) d:=(h4.mono sb).da upd_same
 refine ⟨_,_,sb,?_,h1,dd⟩
 refine ⟨by rw[P4];exact R.len,R2.sub,R2.sub0,R2.fn,R2.keep,λj d' e=>?_,λj t e wt=>?_,λj d b e eb=>?_,λj b e=>?_,λj d e=>?_,λj k t u b e1 w1 e2 w2 e3 e4=>?_⟩
 ·rcases get_set e with⟨rfl,z⟩|⟨n,z⟩
  ·cases z;exact ⟨_,h1,dd⟩
  ·exact R2.fz j d' (by rw[V0 (V2 n)];exact z)
 ·rcases get_set e with⟨rfl,z⟩|⟨n,z⟩
  ·cases z;cases wt
  ·exact R2.ow j t (by rw[V0 (V2 n)];exact z) wt
 ·rcases get_set e with⟨rfl,z⟩|⟨n,z⟩
  ·cases z
  ·exact R.new j d b z eb
 ·obtain⟨d',e1,e2⟩:=R.io j b e
  have n:i≠j:=λz=>by subst z;rw[h]at e1;cases e1
  exact ⟨d',by rw[V0 n];exact e1,e2⟩
 ·rcases get_set e with⟨rfl,z⟩|⟨n,z⟩
  ·cases z
  ·exact R.ioi j d z
 ·rcases get_set e1 with⟨rfl,z⟩|⟨n,z⟩
  ·cases z;cases w1
  ·rcases get_set e2 with⟨rfl,z'⟩|⟨n',z'⟩
   ·cases z';cases w2
   ·exact R.ap j k t u b z w1 z' w2 e3 e4
theorem Rel.forgetRes(R:Rel K G F σ H ρ){i:Nat}(h:ρ[i]?=some (some (Sl.ow d))):∃v,σ[i]?=some (some v)/\Res K G F H σ (ρ.set i none) v (.ow d):=by
 obtain⟨a,o,h1,h2,h3,h4⟩:=R.ow i _ h rfl
 refine ⟨_,h1,a,o,rfl,h2,h3,h4,R.new i d a h h1,λj s e w z=>?_⟩
 rcases get_set e with⟨rfl,q⟩|⟨n,q⟩
 ·cases q
 ·exact n (R.ap j i s _ a q w h rfl z h1)
noncomputable def noIo(ρ:Ev)(i:Nat):Prop:=match ρ[i]? with
 | some (some (Sl.io _))=>False
 | some _=>True
 | none=>False
theorem Rel.asg(R:Rel K G F σ H ρ){i:Nat}(hi:noIo ρ i)(r:Res K G F H σ ρ v s):Rel K G F (σ.set i (some v)) H (ρ.set i (some s)):=by
 have hl:i < ρ.length:=by
  cases e:ρ[i]? with
  | none=>unfold noIo at hi;rw[e]at hi;exact hi.elim
  | some x=>exact lt_of_get e
 have hl':i < σ.length:=by rw[R.len];exact hl
 have ni:∀d,ρ[i]?≠some (some (Sl.io d)):=λd e=>by unfold noIo at hi;rw[e]at hi;exact hi
 refine ⟨by rw[P4,P4];exact R.len,R.sub,R.sub0,R.fn,R.keep,λj d e=>?_,λj t e wt=>?_,λj d b e eb=>?_,λj b e=>?_,λj d e=>?_,λj k t u b e1 w1 e2 w2 e3 e4=>?_⟩
 ·rcases get_set e with⟨rfl,z⟩|⟨n,z⟩
  ·cases z;exact ⟨v,set_get hl',r⟩
  ·rw[V0 (V2 n)];exact R.fz j d z
 ·rcases get_set e with⟨rfl,z⟩|⟨n,z⟩
  ·cases z
   cases s with
   | fz d=>cases wt
   | ow d =>
    obtain⟨a,o,rfl,h1,h2,h3,_⟩:=r
    exact ⟨a,o,set_get hl',h1,h2,h3⟩
   | io d=>exact r.elim
  ·rw[V0 (V2 n)];exact R.ow j t z wt
 ·rcases get_set e with⟨rfl,z⟩|⟨n,z⟩
  ·cases z
   obtain⟨a,o,rfl,h1,h2,h3,h4,_⟩:=r
   rw[set_get hl']at eb;cases eb
   exact h4
  ·rw[V0 (V2 n)]at eb;exact R.new j d b z eb
 ·obtain⟨d,e1,e2⟩:=R.io j b e
  have n:i≠j:=λz=>by subst z;exact ni d e1
  exact ⟨d,by rw[V0 n];exact e1,by rw[V0 n];exact e2⟩
 ·rcases get_set e with⟨rfl,z⟩|⟨n,z⟩
  ·cases z;exact r.elim
  ·exact R.ioi j d z
 ·have own:∀(j:Nat) (t:Sl),j≠i->ρ[j]?=some (some t)->isOw t=true->(σ.set i (some v))[j]?=some (some (V.ref b))->s.d=s.d->isOw s=true->v=.ref b->False:=λj t n e w eb _ ws ev=>by
   subst ev
   cases s with
   | fz d=>cases ws
   | io d=>exact r
   | ow d =>
    obtain⟨a,o,z,h1,h2,h3,h4,h5⟩:=r
    cases z
    rw[V0 (V2 n)]at eb
    exact h5 j t e w eb
  rcases get_set e1 with⟨rfl,z⟩|⟨n,z⟩
  ·rcases get_set e2 with⟨rfl,z'⟩|⟨n',z'⟩
   ·rfl
   ·rw[set_get hl']at e3;cases e3
    cases z
    exact (own k u n' z' w2 e4 rfl w1 rfl).elim
  ·rcases get_set e2 with⟨rfl,z'⟩|⟨n',z'⟩
   ·rw[set_get hl']at e4;cases e4
    cases z'
    exact (own j t n z w1 e3 rfl w2 rfl).elim
   ·rw[V0 (V2 n)]at e3
    rw[V0 (V2 n')]at e4
    exact R.ap j k t u b z w1 z' w2 e3 e4
end
noncomputable abbrev TD:=Ev->(Sl->Ev->Prop)->Prop
noncomputable abbrev TTD:=Ev->(Bool->Ev->Prop)->Prop
noncomputable abbrev Opd:=Sum Nat D
noncomputable abbrev AD:=Sum Nat TD
noncomputable def lift(K:Fg)(td:TD):TE:=λσ H Q=>∃(G:Gh) (F:Hp) (ρ:Ev) (Qd:Sl->Ev->Prop),Rel K G F σ H ρ/\td ρ Qd /\
 ∀v H' F' r ρ',Sub F F'->Rel K G F' σ H' ρ'->Res K G F' H' σ ρ' v r->Qd r ρ'->Q v H'
noncomputable def liftT(K:Fg)(tc:TTD):TT:=λσ H Q=>∃(G:Gh) (F:Hp) (ρ:Ev) (Qd:Bool->Ev->Prop),Rel K G F σ H ρ/\tc ρ Qd /\
 ∀b H' F' ρ',Sub F F'->Rel K G F' σ H' ρ'->Qd b ρ'->Q b H'
noncomputable def argT(K:Fg):AD->TE
 | .inl i=>tVar i
 | .inr td=>lift K td
noncomputable def tArgs:List TE->TA
 | []=>tNil
 | t :: ts=>tCons t (tArgs ts)
theorem argT_mono{K:Fg}{a:AD}{σ:St}{H:Hp}{Q Q':VK}(m:∀v H,Q v H->Q' v H)(h:argT K a σ H Q):argT K a σ H Q':=by
 cases a with
 | inl i=>obtain⟨v,e,q⟩:=h;exact ⟨v,e,m _ _ q⟩
 | inr td =>
  obtain⟨G,F,ρ,Qd,R,w,k⟩:=h
  exact ⟨G,F,ρ,Qd,R,w,λv H' F' r ρ' s R' r' q=>m _ _ (k v H' F' r ρ' s R' r' q)⟩
theorem arg1{K:Fg}{a:AD}{σ:St}{H:Hp}{P:VK}(h:tArgs ([a].map (argT K)) σ H λvs H2=>∃x,vs=[x]/\P x H2):argT K a σ H P :=
 argT_mono (λv H q=>by obtain⟨x,e,q⟩:=q;cases e;exact q) h
theorem arg2{K:Fg}{a b:AD}{σ:St}{H:Hp}{P:V->V->Hp->Prop}(h:tArgs ([a,b].map (argT K)) σ H λvs H2=>∃x y,vs=[x,y]/\P x y H2):argT K a σ H λx H1=>argT K b σ H1 λy H2=>P x y H2 :=
 argT_mono (λv H q=>argT_mono (λu H q=>by obtain⟨x,y,e,q⟩:=q;cases e;exact q) q) h
noncomputable def dVar(i:Nat):TD:=λρ Q=>match ρ[i]? with
 | some (some (.fz d))=>Q (.fz d) ρ
 | some (some (.ow d))=>Q (.fz d) (ρ.set i (some (.fz d)))
 | _=>False
noncomputable def dC(d:D):TD:=λρ Q=>Q (.fz d) ρ
section
variable {K:Fg}{σ:St}{H:Hp}{Q:VK}
theorem l_var{i:Nat}(h:lift K (dVar i) σ H Q):tVar i σ H Q:=by
 obtain⟨G,F,ρ,Qd,R,w,k⟩:=h
 unfold dVar at w
 split at w
 ·rename_i d e
  obtain⟨v,e1,h1⟩:=R.fz i d e
  exact ⟨v,e1,k v H F (.fz d) ρ (Sub.refl _) R h1 w⟩
 ·rename_i d e
  obtain⟨F',v,sb,R',e1,h1⟩:=R.freeze e
  exact ⟨v,e1,k v H F' (.fz d) _ sb R' h1 w⟩
 ·exact w.elim
theorem l_c{v:V}{d:D}(hv:∀F,Da K F v d)(h:lift K (dC d) σ H Q):tC v σ H Q:=by
 obtain⟨G,F,ρ,Qd,R,w,k⟩:=h
 exact k v H F (.fz d) ρ (Sub.refl _) R (hv F) w
end
noncomputable def OpdAt(K:Fg)(F:Hp)(σ:St)(v:V):Opd->Prop
 | .inl i=>σ[i]?=some (some v)
 | .inr d=>Da K F v d
inductive OpdsAt (K:Fg) (F:Hp) (σ:St):List V->List Opd->Prop
 | nil:OpdsAt K F σ [] []
 | cons {v x vs xs}:OpdAt K F σ v x->OpdsAt K F σ vs xs->OpdsAt K F σ (v :: vs) (x :: xs)
noncomputable def dArgs:List AD->Ev->(List Opd->Ev->Prop)->Prop
 | [],ρ,Q=>Q [] ρ
 | .inl i :: as,ρ,Q=>match ρ[i]? with
  | some (some _)=>dArgs as ρ λxs ρ'=>Q (.inl i :: xs) ρ'
  | _=>False
 | .inr td :: as,ρ,Q=>td ρ λr ρ1=>dArgs as ρ1 λxs ρ2=>Q (.inr r.d :: xs) ρ2
theorem args_okL{K:Fg}{G:Gh}{σ:St}:∀{as:List AD}{F H:Hp}{ρ:Ev}{Qd:List Opd->Ev->Prop}{Qv:List V->Hp->Prop},Rel K G F σ H ρ->dArgs as ρ Qd ->
  (∀vs H' F' xs ρ',Sub F F'->Rel K G F' σ H' ρ'->OpdsAt K F' σ vs xs->vs.length=as.length->Qd xs ρ'->Qv vs H')->tArgs (as.map (argT K)) σ H Qv
 | [],F,H,ρ,Qd,Qv,R,w,k=>k [] H F [] ρ (Sub.refl _) R .nil rfl w
 | .inl i :: as,F,H,ρ,Qd,Qv,R,w,k=>by
  unfold dArgs at w
  split at w
  ·rename_i s e
   obtain⟨v,ev⟩:=R.bound e
   refine ⟨v,ev,args_okL (as:=as) R w λvs H' F' xs ρ' sb R' o hl q=>?_⟩
   exact k (v :: vs) H' F' (.inl i :: xs) ρ' sb R' (.cons ev o) (by simp[hl]) q
  ·exact w.elim
 | .inr td :: as,F,H,ρ,Qd,Qv,R,w,k=>by
  refine ⟨G,F,ρ,_,R,w,λv H1 F1 r ρ1 s1 R1 r1 w1=>?_⟩
  obtain⟨F2,s2,R2,d2⟩:=r1.frz R1
  refine args_okL (as:=as) R2 w1 λvs H' F' xs ρ' sb R' o hl q=>?_
  exact k (v :: vs) H' F' (.inr r.d :: xs) ρ' (s1.trans (s2.trans sb)) R' (.cons (d2.mono sb) o) (by simp[hl]) q
theorem args_ok{K:Fg}{G:Gh}{σ:St}{as:List AD}{F H:Hp}{ρ:Ev}{Qd:List Opd->Ev->Prop}{Qv:List V->Hp->Prop}(R:Rel K G F σ H ρ)(w:dArgs as ρ Qd)
  (k:∀vs H' F' xs ρ',Sub F F'->Rel K G F' σ H' ρ'->OpdsAt K F' σ vs xs->Qd xs ρ'->Qv vs H'):tArgs (as.map (argT K)) σ H Qv:=args_okL R w λvs H' F' xs ρ' s R' o _ q=>k vs H' F' xs ρ' s R' o q
noncomputable def At(K:Fg)(F H:Hp)(v:V)(d:D):Prop:=Da K F v d\/∃a o,v=.ref a/\F a=none/\H a=some o/\Own1 K F o d
inductive AtAll (K:Fg) (F H:Hp):List V->List D->Prop
 | nil:AtAll K F H [] []
 | cons {v d vs ds}:At K F H v d->AtAll K F H vs ds->AtAll K F H (v :: vs) (d :: ds)
noncomputable def looksQ(ρ:Ev):List Opd->(List D->Prop)->Prop
 | [],k=>k []
 | .inr d :: xs,k=>looksQ ρ xs λds=>k (d :: ds)
 | .inl i :: xs,k=>match ρ[i]? with
  | some (some s)=>looksQ ρ xs λds=>k (s.d :: ds)
  | _=>False
section
variable {K:Fg}{G:Gh}{F H:Hp}{σ:St}{ρ:Ev}
theorem Rel.at(R:Rel K G F σ H ρ){i:Nat}{s:Sl}{v:V}(e:ρ[i]?=some (some s))(ev:σ[i]?=some (some v)):At K F H v s.d:=by
 cases s with
 | fz d =>
  obtain⟨v',e1,h1⟩:=R.fz i d e
  rw[ev]at e1;cases e1
  exact .inl h1
 | ow d =>
  obtain⟨a,o,h1,h2,h3,h4⟩:=R.ow i _ e rfl
  rw[ev]at h1;cases h1
  exact .inr ⟨a,o,rfl,h2,h3,h4⟩
 | io d =>
  obtain⟨a,o,h1,h2,h3,h4⟩:=R.ow i _ e rfl
  rw[ev]at h1;cases h1
  exact .inr ⟨a,o,rfl,h2,h3,h4⟩
theorem looks_ok(R:Rel K G F σ H ρ){xs:List Opd}{vs:List V}{k:List D->Prop}(o:OpdsAt K F σ vs xs)(h:looksQ ρ xs k):∃ds,AtAll K F H vs ds/\k ds:=by
 induction o generalizing k with
 | nil=>exact ⟨[],.nil,h⟩
 | @cons v x vs xs o t ih =>
  cases x with
  | inr d =>
   obtain⟨ds,a,q⟩:=ih (k:=λds=>k (d :: ds)) h
   exact ⟨d :: ds,.cons (.inl o) a,q⟩
  | inl i =>
   unfold looksQ at h
   split at h
   ·rename_i s e
    obtain⟨ds,a,q⟩:=ih (k:=λds=>k (s.d :: ds)) h
    exact ⟨s.d :: ds,.cons (R.at e o) a,q⟩
   ·exact h.elim
end
noncomputable def dOp(as:List AD)(f:List D->(Sl->Prop)->Prop):TD:=λρ Q=>dArgs as ρ λxs ρ1=>looksQ ρ1 xs λds=>f ds λr=>Q r ρ1
noncomputable def OpOk(K:Fg)(r:List V->Hp->VK->Prop)(f:List D->(Sl->Prop)->Prop):Prop :=
 ∀(G:Gh) (F:Hp) (σ:St) (H:Hp) (ρ:Ev) (vs:List V) (ds:List D) (Q:VK) (Qd:Sl->Prop),Rel K G F σ H ρ->AtAll K F H vs ds->f ds Qd ->
  (∀v H' F' s,Sub F F'->Rel K G F' σ H' ρ->Res K G F' H' σ ρ v s->Qd s->Q v H')->r vs H Q
theorem l_op{K:Fg}{as:List AD}{r:List V->Hp->VK->Prop}{f:List D->(Sl->Prop)->Prop}(ok:OpOk K r f){σ:St}{H:Hp}{Q:VK}(h:lift K (dOp as f) σ H Q):tArgs (as.map (argT K)) σ H λvs H1=>r vs H1 Q:=by
 obtain⟨G,F,ρ,Qd,R,w,k⟩:=h
 refine args_ok R w λvs H' F' xs ρ' sb R' o q=>?_
 obtain⟨ds,ha,q⟩:=looks_ok R' o q
 exact ok G F' σ H' ρ' vs ds Q _ R' ha q λv H2 F2 s s2 R2 r2 q2=>k v H2 F2 s ρ' (sb.trans s2) R2 r2 q2
noncomputable def o1(f:D->(Sl->Prop)->Prop):List D->(Sl->Prop)->Prop
 | [x],Q=>f x Q
 | _,_=>False
noncomputable def o2(f:D->D->(Sl->Prop)->Prop):List D->(Sl->Prop)->Prop
 | [x,y],Q=>f x y Q
 | _,_=>False
noncomputable def o3(f:D->D->D->(Sl->Prop)->Prop):List D->(Sl->Prop)->Prop
 | [x,y,z],Q=>f x y z Q
 | _,_=>False
noncomputable def dTst(td:TD):TTD:=λρ Q=>td ρ λr ρ'=>match r with
 | .fz (.bool b)=>Q b ρ'
 | _=>False
noncomputable def dNot(c:TTD):TTD:=λρ Q=>c ρ λb ρ'=>Q (!b) ρ'
noncomputable def dAnd(c e:TTD):TTD:=λρ Q=>c ρ λb ρ'=>if b=true then e ρ' Q else Q false ρ'
noncomputable def dOr(c e:TTD):TTD:=λρ Q=>c ρ λb ρ'=>if b=true then Q true ρ' else e ρ' Q
noncomputable def dYes:TTD:=λρ Q=>Q true ρ
section
variable {K:Fg}{σ:St}{H:Hp}
theorem l_tst{td:TD}{t:TE}(ht:∀{σ H Q},lift K td σ H Q->t σ H Q){Q:Bool->Hp->Prop}(h:liftT K (dTst td) σ H Q):tTest t σ H Q:=by
 obtain⟨G,F,ρ,Qd,R,w,k⟩:=h
 refine ht ⟨G,F,ρ,_,R,w,λv H' F' r ρ' sb R' r' q=>?_⟩
 split at q
 ·rename_i b
  cases r'
  exact ⟨b,rfl,k b H' F' ρ' sb R' q⟩
 ·exact q.elim
theorem l_not{c:TTD}{Q:Bool->Hp->Prop}(h:liftT K (dNot c) σ H Q):tNot (liftT K c) σ H Q:=by
 obtain⟨G,F,ρ,Qd,R,w,k⟩:=h
 exact ⟨G,F,ρ,_,R,w,λb H' F' ρ' sb R' q=>k (!b) H' F' ρ' sb R' q⟩
theorem l_and{c e:TTD}{Q:Bool->Hp->Prop}(h:liftT K (dAnd c e) σ H Q):tAnd (liftT K c) (liftT K e) σ H Q:=by
 obtain⟨G,F,ρ,Qd,R,w,k⟩:=h
 refine ⟨G,F,ρ,_,R,w,λb H' F' ρ' sb R' q=>?_⟩
 cases b with
 | true=>exact ⟨G,F',ρ',Qd,R',q,λb H2 F2 ρ2 s2 R2 q2=>k b H2 F2 ρ2 (sb.trans s2) R2 q2⟩
 | false=>exact k false H' F' ρ' sb R' q
theorem l_or{c e:TTD}{Q:Bool->Hp->Prop}(h:liftT K (dOr c e) σ H Q):tOr (liftT K c) (liftT K e) σ H Q:=by
 obtain⟨G,F,ρ,Qd,R,w,k⟩:=h
 refine ⟨G,F,ρ,_,R,w,λb H' F' ρ' sb R' q=>?_⟩
 cases b with
 | true=>exact k true H' F' ρ' sb R' q
 | false=>exact ⟨G,F',ρ',Qd,R',q,λb H2 F2 ρ2 s2 R2 q2=>k b H2 F2 ρ2 (sb.trans s2) R2 q2⟩
theorem l_yes{Q:Bool->Hp->Prop}(h:liftT K dYes σ H Q):tYes σ H Q:=by
 obtain⟨G,F,ρ,Qd,R,w,k⟩:=h
 exact k true H F ρ (Sub.refl _) R w
end
noncomputable def dAndV(a b:TD):TD:=λρ Q=>a ρ λr ρ'=>match r with
 | .fz (.bool c)=>if c=true then b ρ' Q else Q (.fz (.bool false)) ρ'
 | _=>False
section
variable {K:Fg}{σ:St}{H:Hp}{Q:VK}{a b:TD}{c:TTD}
theorem l_andV(h:lift K (dAndV a b) σ H Q):tAndV (lift K a) (lift K b) σ H Q:=by
 obtain⟨G,F,ρ,Qd,R,w,k⟩:=h
 refine ⟨G,F,ρ,_,R,w,λv H' F' r ρ' sb R' r' q=>?_⟩
 split at q
 ·rename_i c
  cases r'
  refine ⟨c,rfl,?_⟩
  cases c with
  | true=>exact ⟨G,F',ρ',Qd,R',q,λv H2 F2 r ρ2 s2 R2 r2 q2=>k v H2 F2 r ρ2 (sb.trans s2) R2 r2 q2⟩
  | false=>exact k _ H' F' (.fz (.bool false)) ρ' sb R' (Da.bl false) q
 ·exact q.elim
end
theorem noIo_of{ρ:Ev}{i:Nat}{P:Prop}(h:match ρ[i]? with|some (some (.io _))=>False|some _=>P|none=>False):noIo ρ i/\P:=by
 unfold noIo
 cases e:ρ[i]? with
 | none=>rw[e]at h;exact h.elim
 | some x =>
  rw[e]at h
  cases x with
  | none=>exact ⟨trivial,h⟩
  | some s=>cases s with
   | fz d=>exact ⟨trivial,h⟩
   | ow d=>exact ⟨trivial,h⟩
   | io d=>exact h.elim
structure DE where
 nx:Ev->Prop
 rt:Sl->Ev->Prop
 bk:Ev->Prop
 ct:Ev->Prop
noncomputable abbrev TDS:=DE->Ev->Prop
noncomputable def liftS(K:Fg)(ts:TDS):TS:=λD σ H=>∃(G:Gh) (F:Hp) (ρ:Ev) (E:DE),Rel K G F σ H ρ/\ts E ρ /\
 (∀σ' H' F' ρ',Sub F F'->Rel K G F' σ' H' ρ'->E.nx ρ'->D.nx σ' H') /\
 (∀v σ' H' F' r ρ',Sub F F'->Rel K G F' σ' H' ρ'->Res K G F' H' σ' ρ' v r->E.rt r ρ'->D.rt v H') /\
 (∀σ' H' F' ρ',Sub F F'->Rel K G F' σ' H' ρ'->E.bk ρ'->D.bk σ' H') /\
 (∀σ' H' F' ρ',Sub F F'->Rel K G F' σ' H' ρ'->E.ct ρ'->D.ct σ' H')
noncomputable def dNext:TDS:=λE ρ=>E.nx ρ
noncomputable def dSeq(t u:TDS):TDS:=λE ρ=>t { nx:=λρ'=>u E ρ',rt:=E.rt,bk:=E.bk,ct:=E.ct } ρ
noncomputable def dRet(a:TD):TDS:=λE ρ=>a ρ E.rt
noncomputable def dDrop(a:TD):TDS:=λE ρ=>a ρ λ_ ρ'=>E.nx ρ'
noncomputable def dIfS(c:TTD)(t u:TDS):TDS:=λE ρ=>c ρ λb ρ'=>if b=true then t E ρ' else u E ρ'
noncomputable def dSet(i:Nat)(a:TD):TDS:=λE ρ=>a ρ λr ρ'=>match ρ'[i]? with
 | some (some (.io _))=>False
 | some _=>E.nx (ρ'.set i (some r))
 | none=>False
section
variable {K:Fg}{σ:St}{H:Hp}{E:Ends}{t u:TDS}{a:TD}{c:TTD}
theorem l_next(h:liftS K dNext E σ H):tNext E σ H:=by
 obtain⟨G,F,ρ,D,R,w,n,r,b,c⟩:=h
 exact n σ H F ρ (Sub.refl _) R w
theorem later{G:Gh}{F F1 H1:Hp}{ρ1:Ev}{σ1:St}{D:DE}{ts:TDS}(s:Sub F F1)(R:Rel K G F1 σ1 H1 ρ1)(w:ts D ρ1)
  (n:∀σ' H' F' ρ',Sub F F'->Rel K G F' σ' H' ρ'->D.nx ρ'->E.nx σ' H')
  (r:∀v σ' H' F' r ρ',Sub F F'->Rel K G F' σ' H' ρ'->Res K G F' H' σ' ρ' v r->D.rt r ρ'->E.rt v H')
  (b:∀σ' H' F' ρ',Sub F F'->Rel K G F' σ' H' ρ'->D.bk ρ'->E.bk σ' H')
  (c:∀σ' H' F' ρ',Sub F F'->Rel K G F' σ' H' ρ'->D.ct ρ'->E.ct σ' H'):liftS K ts E σ1 H1 :=
 ⟨G,F1,ρ1,D,R,w,λ_ _ _ _ s' R' q=>n _ _ _ _ (s.trans s') R' q,λ_ _ _ _ _ _ s' R' r' q=>r _ _ _ _ _ _ (s.trans s') R' r' q,
   λ_ _ _ _ s' R' q=>b _ _ _ _ (s.trans s') R' q,λ_ _ _ _ s' R' q=>c _ _ _ _ (s.trans s') R' q⟩
theorem l_seq(h:liftS K (dSeq t u) E σ H):tSeq (liftS K t) (liftS K u) E σ H:=by
 obtain⟨G,F,ρ,D,R,w,n,r,b,c⟩:=h
 exact ⟨G,F,ρ,_,R,w,λσ' H' F' ρ' s R' q=>later s R' q n r b c,r,b,c⟩
theorem l_ret(h:liftS K (dRet a) E σ H):tRet (lift K a) E σ H:=by
 obtain⟨G,F,ρ,D,R,w,n,r,b,c⟩:=h
 exact ⟨G,F,ρ,_,R,w,λv H' F' x ρ' s R' r' q=>r v σ H' F' x ρ' s R' r' q⟩
theorem l_drop(h:liftS K (dDrop a) E σ H):tDrop (lift K a) E σ H:=by
 obtain⟨G,F,ρ,D,R,w,n,r,b,c⟩:=h
 exact ⟨G,F,ρ,_,R,w,λv H' F' x ρ' s R' r' q=>n σ H' F' ρ' s R' q⟩
theorem l_ifS(h:liftS K (dIfS c t u) E σ H):tIfS (liftT K c) (liftS K t) (liftS K u) E σ H:=by
 obtain⟨G,F,ρ,D,R,w,n,r,b,c⟩:=h
 refine ⟨G,F,ρ,_,R,w,λx H' F' ρ' s R' q=>?_⟩
 cases x with
 | true=>exact later s R' q n r b c
 | false=>exact later s R' q n r b c
theorem l_set{i:Nat}(h:liftS K (dSet i a) E σ H):tAsg (lift K a) (gName i) E σ H:=by
 obtain⟨G,F,ρ,D,R,w,n,r,b,c⟩:=h
 refine ⟨G,F,ρ,_,R,w,λv H' F' x ρ' s R' r' q=>?_⟩
 have hn:=noIo_of q
 exact n _ H' F' _ s (R'.asg hn.1 r') hn.2
end
noncomputable def dRetV(i:Nat):TDS:=λE ρ=>match ρ[i]? with
 | some (some (.fz d))=>E.rt (.fz d) ρ
 | some (some (.ow d))=>E.rt (.ow d) (ρ.set i none)
 | _=>False
noncomputable def dMove(i j:Nat):TDS:=λE ρ=>match ρ[j]? with
 | some (some (.fz d))=>(match ρ[i]? with
   | some (some (.io _))=>False
   | some _=>E.nx (ρ.set i (some (.fz d)))
   | none=>False)
 | some (some (.ow d))=>(match (ρ.set j none)[i]? with
   | some (some (.io _))=>False
   | some _=>E.nx ((ρ.set j none).set i (some (.ow d)))
   | none=>False)
 | _=>False
section
variable {K:Fg}{σ:St}{H:Hp}{E:Ends}
theorem l_retV{i:Nat}(h:liftS K (dRetV i) E σ H):tRet (tVar i) E σ H:=by
 obtain⟨G,F,ρ,D,R,w,n,r,b,c⟩:=h
 unfold dRetV at w
 split at w
 ·rename_i d e
  obtain⟨v,e1,h1⟩:=R.fz i d e
  exact ⟨v,e1,r v σ H F (.fz d) ρ (Sub.refl _) R h1 w⟩
 ·rename_i d e
  obtain⟨v,e1,h1⟩:=R.forgetRes e
  exact ⟨v,e1,r v σ H F (.ow d) _ (Sub.refl _) (R.forget e) h1 w⟩
 ·exact w.elim
theorem l_move{i j:Nat}(h:liftS K (dMove i j) E σ H):tAsg (tVar j) (gName i) E σ H:=by
 obtain⟨G,F,ρ,D,R,w,n,r,b,c⟩:=h
 unfold dMove at w
 split at w
 ·rename_i d e
  obtain⟨v,e1,h1⟩:=R.fz j d e
  obtain⟨hn,w⟩:=noIo_of w
  exact ⟨v,e1,n _ H F _ (Sub.refl _) (R.asg (s:=.fz d) hn h1) w⟩
 ·rename_i d e
  obtain⟨v,e1,h1⟩:=R.forgetRes e
  obtain⟨hn,w⟩:=noIo_of w
  exact ⟨v,e1,n _ H F _ (Sub.refl _) ((R.forget e).asg (s:=.ow d) hn h1) w⟩
 ·exact w.elim
end
noncomputable abbrev TDG:=D->Ev->(Ev->Prop)->Prop
noncomputable def liftG(K:Fg)(g:TDG):TG:=λv σ H Q=>∃(G:Gh) (F:Hp) (ρ:Ev) (d:D) (Qd:Ev->Prop),Rel K G F σ H ρ/\Da K F v d/\g d ρ Qd/\∀σ' ρ',Rel K G F σ' H ρ'->Qd ρ'->Q σ' H
noncomputable def dGN(i:Nat):TDG:=λd ρ Q=>match ρ[i]? with
 | some (some (.io _))=>False
 | some _=>Q (ρ.set i (some (.fz d)))
 | none=>False
noncomputable def dGs:List TDG->List D->Ev->(Ev->Prop)->Prop
 | [],[],ρ,Q=>Q ρ
 | g :: gs,d :: ds,ρ,Q=>g d ρ λρ'=>dGs gs ds ρ' Q
 | _,_,_,_=>False
noncomputable def dGT(gs:List TDG):TDG:=λd ρ Q=>match d with
 | .tuple ds=>ds.length=gs.length/\dGs gs ds ρ Q
 | _=>False
noncomputable def gAll:List TG->TGs
 | []=>gNil
 | g :: gs=>gCons g (gAll gs)
section
variable {K:Fg}{σ:St}{H:Hp}{v:V}{Q:St->Hp->Prop}
theorem l_gn{i:Nat}(h:liftG K (dGN i) v σ H Q):gName i v σ H Q:=by
 obtain⟨G,F,ρ,d,Qd,R,hd,w,k⟩:=h
 obtain⟨hn,w⟩:=noIo_of w
 exact k _ _ (R.asg (s:=.fz d) hn hd) w
theorem l_gs{G:Gh}{F:Hp}:∀{gs:List TDG}{ds:List D}{vs:List V}{σ:St}{ρ:Ev}{Qd:Ev->Prop},Rel K G F σ H ρ->DaAll K F vs ds->dGs gs ds ρ Qd->(∀σ' ρ',Rel K G F σ' H ρ'->Qd ρ'->Q σ' H)->gAll (gs.map (liftG K)) vs σ H Q
 | [],[],_,σ,ρ,Qd,R,.nil,w,k=>⟨rfl,k σ ρ R w⟩
 | g :: gs,d :: ds,_,σ,ρ,Qd,R,.cons h t,w,k=>⟨_,_,rfl,G,F,ρ,d,_,R,h,w,λσ' ρ' R' w'=>l_gs (gs:=gs) R' t w' k⟩
 | [],_ :: _,_,σ,ρ,Qd,R,_,w,k=>by exact w.elim
 | _ :: _,[],_,σ,ρ,Qd,R,_,w,k=>by exact w.elim
theorem l_gt{gs:List TDG}{n:Nat}(hn:gs.length=n)(h:liftG K (dGT gs) v σ H Q):gTup K n (gAll (gs.map (liftG K))) v σ H Q:=by
 obtain⟨G,F,ρ,d,Qd,R,hd,w,k⟩:=h
 unfold dGT at w
 split at w
 ·cases hd with
  | tup e t=>exact ⟨_,_,rfl,SqT.of (R.sub _ _ e),by rw[t.length,w.1,hn],l_gs R t w.2 k⟩
 ·exact w.elim
end
noncomputable def Walks(K:Fg)(J:It)(F:Hp)(ds:List D):Prop:=∀(i:Nat) (H F1:Hp),Sub F F1->Sub F1 H ->
 (∀d,ds[i]?=some d->J.go i H/\∀x H',J.yld i H x H'->∃F2,Sub F1 F2/\(∀b o,F2 b=some o->F1 b=some o\/H b=none)/\Sub F2 H'/\Sub H H'/\Da K F2 x d)/\(ds.length=i->J.stop i H)
noncomputable abbrev TDI:=Ev->(List D->Ev->Prop)->Prop
noncomputable def liftI(K:Fg)(ti:TDI):TI:=λσ H R=>∃(G:Gh) (F:Hp) (ρ:Ev) (Qd:List D->Ev->Prop),Rel K G F σ H ρ/\ti ρ Qd /\
 ∀J H' F' ds ρ',Sub F F'->Rel K G F' σ H' ρ'->Walks K J F' ds->Qd ds ρ'->R J H'
theorem Rel.turn{K:Fg}{G:Gh}{F F2 H H':Hp}{σ:St}{ρ:Ev}(R:Rel K G F σ H ρ)(s:Sub F F2)(n:∀b o,F2 b=some o->F b=some o\/H b=none)(s2:Sub F2 H')(s3:Sub H H'):Rel K G F2 σ H' ρ where
 len:=R.len
 sub:=s2
 sub0:=R.sub0.trans s
 fn:=λb o e=>by
  rcases n b o e with q|q
  ·exact R.fn b o q
  ·exact .inr (R.h0 q)
 keep:=λa o e m=>s3 _ _ (R.keep a o e m)
 fz:=λi d e=>by
  obtain⟨v,h1,h2⟩:=R.fz i d e
  exact ⟨v,h1,h2.mono s⟩
 ow:=λi t e w=>by
  obtain⟨a,o,h1,h2,h3,h4⟩:=R.ow i t e w
  refine ⟨a,o,h1,?_,s3 _ _ h3,h4.mono s⟩
  cases q:F2 a with
  | none=>rfl
  | some u =>
   rcases n a u q with z|z
   ·rw[h2]at z;cases z
   ·rw[h3]at z;cases z
 new:=R.new
 io:=R.io
 ioi:=R.ioi
 ap:=R.ap
theorem drop_get{α:Type}{l:List α}{i:Nat}{x:α}(h:l[i]?=some x):l.drop i=x :: l.drop (i+1):=by
 obtain⟨hl,rfl⟩:=W0.mp h
 exact T3 hl
noncomputable def dWhile(c:TTD)(tb:TDS):TDS:=λE ρ=>∃W:Nat->Ev->Prop,(∃m,W m ρ)/\∀m ρ,W m ρ->c ρ λb ρ1=>if b=true then
 ∃N:Ev->Prop,(∀ρ',N ρ'->∃m',m' < m/\W m' ρ')/\tb { nx:=N,rt:=E.rt,bk:=E.nx,ct:=N } ρ1 else E.nx ρ1
theorem l_while{K:Fg}{c:TTD}{tb:TDS}{E:Ends}{σ:St}{H:Hp}(h:liftS K (dWhile c tb) E σ H):tWhile (liftT K c) (liftS K tb) E σ H:=by
 obtain⟨G,F,ρ,D,R,⟨W,⟨m0,w0⟩,st⟩,n,r,b,c⟩:=h
 refine ⟨λm σ H=>∃F' ρ',Sub F F'/\Rel K G F' σ H ρ'/\W m ρ',⟨m0,F,ρ,Sub.refl _,R,w0⟩,?_⟩
 rintro m σ H ⟨F',ρ',s',R',w'⟩
 refine ⟨G,F',ρ',_,R',st m ρ' w',λx H1 F1 ρ1 s1 R1 q=>?_⟩
 cases x with
 | false=>exact n σ H1 F1 ρ1 (s'.trans s1) R1 q
 | true =>
  obtain⟨N,hN,q⟩:=q
  refine ⟨λσ2 H2=>∃F2 ρ2,Sub F F2/\Rel K G F2 σ2 H2 ρ2/\N ρ2,λσ2 H2 ⟨F2,ρ2,z1,z2,z3⟩=>?_,?_⟩
  ·obtain⟨m',hm,hw⟩:=hN ρ2 z3
   exact ⟨m',hm,F2,ρ2,z1,z2,hw⟩
  ·refine ⟨G,F1,ρ1,_,R1,q,λσ4 H4 F4 ρ4 s4 R4 q=>?_,λv σ4 H4 F4 x4 ρ4 s4 R4 r4 q=>?_,λσ4 H4 F4 ρ4 s4 R4 q=>?_,λσ4 H4 F4 ρ4 s4 R4 q=>?_⟩
   ·exact ⟨F4,ρ4,s'.trans (s1.trans s4),R4,q⟩
   ·exact r v σ4 H4 F4 x4 ρ4 (s'.trans (s1.trans s4)) R4 r4 q
   ·exact n σ4 H4 F4 ρ4 (s'.trans (s1.trans s4)) R4 q
   ·exact ⟨F4,ρ4,s'.trans (s1.trans s4),R4,q⟩
noncomputable def capt:Option Sl->Option Sl
 | some (.ow d)=>some (.io d)
 | x=>x
noncomputable def innerE(own:List Str)(fr:List Nat)(ρ:Ev):Ev:=own.map (λ_=>none)++fr.map λi=>capt ((ρ[i]?).getD none)
noncomputable def wb1:Option Sl->Option (Option Sl)->Option Sl
 | some (.ow d),some (some (.io d'))=>some (.ow d')
 | some (.io d),some (some (.io d'))=>some (.io d')
 | x,_=>x
noncomputable def wbGo(fr:List Nat)(τ:Ev):Nat->Ev->Ev
 | _,[]=>[]
 | j,x :: ρ=>wb1 x ((fr.zip τ).lookup j) :: wbGo fr τ (j+1) ρ
theorem wbGo_get(fr:List Nat)(τ:Ev):∀(ρ:Ev) (j i:Nat),(wbGo fr τ j ρ)[i]?=(ρ[i]?).map λx=>wb1 x ((fr.zip τ).lookup (j+i))
 | [],j,i=>by simp[wbGo]
 | x :: ρ,j,0=>by simp[wbGo]
 | x :: ρ,j,i+1=>by
  have:=wbGo_get fr τ ρ (j+1) i
  simp only[wbGo,O3]
  rw[this,show j+1+i=j+(i+1) by omega]
theorem wbGo_len(fr:List Nat)(τ:Ev):∀(ρ:Ev) (j:Nat),(wbGo fr τ j ρ).length=ρ.length
 | [],_=>rfl
 | x :: ρ,j=>by simp[wbGo,wbGo_len fr τ ρ (j+1)]
theorem zip_lookup:∀{fr:List Nat}{τ:Ev}{k i:Nat}{x:Option Sl},fr.Nodup->fr[k]?=some i->τ[k]?=some x->(fr.zip τ).lookup i=some x
 | [],_,_,_,_,_,e,_=>by simp at e
 | j :: fr,[],_,_,_,_,_,e=>by simp at e
 | j :: fr,y :: τ,0,i,x,_,e,e'=>by simp at e e';subst e e';simp[P7]
 | j :: fr,y :: τ,k+1,i,x,nd,e,e'=>by
  have nd':=O4.mp nd
  simp at e e'
  have hm:i∈fr:=S2 e
  have ne:(i==j)=false:=by simp;intro z;subst z;exact nd'.1 hm
  simp[P7,ne]
  exact zip_lookup nd'.2 e e'
theorem zip_lookup_mem:∀{fr:List Nat}{τ:Ev}{i:Nat}{x:Option Sl},(fr.zip τ).lookup i=some x->∃k:Nat,fr[k]?=some i/\τ[k]?=some x
 | [],_,_,_,e=>by simp at e
 | j :: fr,[],_,_,e=>by simp at e
 | j :: fr,y :: τ,i,x,e=>by
  by_cases z:i=j
  ·subst z;simp[P7]at e;subst e;exact ⟨0,by simp,by simp⟩
  ·have ne:(i==j)=false:=by simp[z]
   simp[P7,ne]at e
   obtain⟨k,h1,h2⟩:=zip_lookup_mem e
   exact ⟨k+1,by simpa using h1,by simpa using h2⟩
noncomputable def ioOf(σ:St)(ρ:Ev)(i:Nat):Option Addr:=match ρ[i]?,σ[i]? with
 | some (some s),some (some (.ref a))=>if isOw s=true then some a else none
 | _,_=>none
theorem ioOf_some{σ:St}{ρ:Ev}{i:Nat}{a:Addr}(h:ioOf σ ρ i=some a):∃s,ρ[i]?=some (some s)/\isOw s=true/\σ[i]?=some (some (V.ref a)):=by
 unfold ioOf at h
 split at h
 ·rename_i s b e1 e2
  split at h
  ·rename_i w;cases h;exact ⟨s,e1,w,e2⟩
  ·cases h
 ·cases h
theorem ioOf_of{σ:St}{ρ:Ev}{i:Nat}{a:Addr}{s:Sl}(h1:ρ[i]?=some (some s))(h2:isOw s=true)(h3:σ[i]?=some (some (V.ref a))):ioOf σ ρ i=some a:=by
 unfold ioOf;rw[h1,h3];simp[h2]
noncomputable def ghC(own:List Str)(fr:List Nat)(F H:Hp)(σ:St)(ρ:Ev):Gh:=⟨H,F,λj=>if own.length<=j then (match fr[j - own.length]? with|some i=>ioOf σ ρ i|none=>none) else none⟩
theorem ghC_io{own:List Str}{fr:List Nat}{F H:Hp}{σ:St}{ρ:Ev}{j:Nat}{a:Addr}(h:(ghC own fr F H σ ρ).io j=some a):∃k i s,j=own.length+k/\fr[k]?=some i/\ρ[i]?=some (some s)/\isOw s=true/\σ[i]?=some (some (V.ref a)):=by
 unfold ghC at h
 simp only at h
 split at h
 ·rename_i hl
  split at h
  ·rename_i i e
   obtain⟨s,h1,h2,h3⟩:=ioOf_some h
   exact ⟨j - own.length,i,s,by omega,e,h1,h2,h3⟩
  ·cases h
 ·cases h
theorem ghC_of{own:List Str}{fr:List Nat}{F H:Hp}{σ:St}{ρ:Ev}{k i:Nat}{a:Addr}{s:Sl}(h0:fr[k]?=some i)(h1:ρ[i]?=some (some s))(h2:isOw s=true)(h3:σ[i]?=some (some (V.ref a))):(ghC own fr F H σ ρ).io (own.length+k)=some a:=by
 unfold ghC
 simp only
 rw[if_pos (M4 _ _),W5,h0]
 exact ioOf_of h1 h2 h3
theorem inner_get{α:Type}{own:List Str}{fr:List Nat}{f:Nat->Option α}{j:Nat}{x:α}(h:(own.map (λ_=>(none:Option α))++fr.map f)[j]?=some (some x)):∃k i,j=own.length+k/\fr[k]?=some i/\f i=some x:=by
 by_cases hl:j < own.length
 ·rw[P2 (by simpa using hl)]at h
  simp at h
 ·rw[S1 (by simpa using g8 hl)]at h
  simp at h
  obtain⟨i,h1,h2⟩:=h
  exact ⟨j - own.length,i,by omega,h1,h2⟩
theorem inner_of{α:Type}{own:List Str}{fr:List Nat}{f:Nat->Option α}{k i:Nat}(h:fr[k]?=some i):(own.map (λ_=>(none:Option α))++fr.map f)[own.length+k]?=some (f i):=by
 rw[S1 (by simp)]
 simp[h]
theorem capt_get{x:Option Sl}{s:Sl}(h:capt x=some s):∃s0,x=some s0/\((∃d,s0=.fz d/\s=.fz d)\/(isOw s0=true/\s=.io s0.d)):=by
 cases x with
 | none=>cases h
 | some s0 =>
  cases s0 with
  | fz d=>cases h;exact ⟨_,rfl,.inl ⟨d,rfl,rfl⟩⟩
  | ow d=>cases h;exact ⟨_,rfl,.inr ⟨rfl,rfl⟩⟩
  | io d=>cases h;exact ⟨_,rfl,.inr ⟨rfl,rfl⟩⟩
theorem getD_some{α:Type}{o:Option (Option α)}{x:α}(h:o.getD none=some x):o=some (some x):=by
 cases o with
 | none=>cases h
 | some y=>simp at h;rw[h]
section
variable {K:Fg}{G:Gh}{F F' H H':Hp}{σ τ:St}{ρ μ:Ev}{own:List Str}{fr:List Nat}
theorem innerE_get{j:Nat}{s:Sl}(h:(innerE own fr ρ)[j]?=some (some s)):∃k i s0,j=own.length+k/\fr[k]?=some i/\ρ[i]?=some (some s0)/\((∃d,s0=.fz d/\s=.fz d)\/(isOw s0=true/\s=.io s0.d)):=by
 obtain⟨k,i,h1,h2,h3⟩:=inner_get h
 obtain⟨s0,h4,h5⟩:=capt_get h3
 exact ⟨k,i,s0,h1,h2,getD_some h4,h5⟩
theorem st0_of{k i:Nat}(h:fr[k]?=some i):(st0 own σ fr)[own.length+k]?=some ((σ[i]?).getD none):=inner_of (f:=λi=>(σ[i]?).getD none) h
theorem innerE_of{k i:Nat}(h:fr[k]?=some i):(innerE own fr ρ)[own.length+k]?=some (capt ((ρ[i]?).getD none)):=inner_of (f:=λi=>capt ((ρ[i]?).getD none)) h
theorem nodup_at{fr:List Nat}(nd:fr.Nodup){k l i:Nat}(a:fr[k]?=some i)(b:fr[l]?=some i):k=l:=by
 obtain⟨h1,e1⟩:=W0.mp a
 obtain⟨h2,e2⟩:=W0.mp b
 exact (List.getElem_inj nd).mp (e1.trans e2.symm)
theorem Rel.inner(R:Rel K G F σ H ρ)(nd:fr.Nodup):Rel K (ghC own fr F H σ ρ) F (st0 own σ fr) H (innerE own fr ρ) where
 len:=by simp[st0,frS,innerE]
 sub:=R.sub
 sub0:=Sub.refl _
 fn:=λ_ _ e=>.inl e
 keep:=λ_ _ e _=>e
 fz:=λj d e=>by
  obtain⟨k,i,s0,rfl,h2,h3,h4⟩:=innerE_get e
  rcases h4 with⟨d0,rfl,z⟩|⟨_,z⟩
  ·cases z
   obtain⟨v,e1,e2⟩:=R.fz i d h3
   exact ⟨v,by rw[st0_of h2,e1];rfl,e2⟩
  ·cases z
 ow:=λj s e w=>by
  obtain⟨k,i,s0,rfl,h2,h3,h4⟩:=innerE_get e
  rcases h4 with⟨d0,rfl,z⟩|⟨w0,z⟩
  ·cases z;cases w
  ·cases z
   obtain⟨a,o,e1,e2,e3,e4⟩:=R.ow i s0 h3 w0
   exact ⟨a,o,by rw[st0_of h2,e1];rfl,e2,e3,e4⟩
 new:=λj d a e _=>by
  obtain⟨k,i,s0,rfl,h2,h3,h4⟩:=innerE_get e
  rcases h4 with⟨d0,rfl,z⟩|⟨w0,z⟩<;>cases z
 io:=λj a e=>by
  obtain⟨k,i,s,rfl,h1,h2,h3,h4⟩:=ghC_io e
  refine ⟨s.d,?_,by rw[st0_of h1,h4];rfl⟩
  rw[innerE_of h1,h2]
  cases s<;>first|rfl|cases h3
 ioi:=λj d e=>by
  obtain⟨k,i,s0,rfl,h2,h3,h4⟩:=innerE_get e
  rcases h4 with⟨d0,rfl,z⟩|⟨w0,z⟩
  ·cases z
  ·obtain⟨a,o,e1,_⟩:=R.ow i s0 h3 w0
   exact ⟨a,ghC_of h2 h3 w0 e1⟩
 ap:=λj l s t a e1 w1 e2 w2 e3 e4=>by
  obtain⟨k,i,s0,rfl,h2,h3,h4⟩:=innerE_get e1
  obtain⟨k',i',s0',rfl,h2',h3',h4'⟩:=innerE_get e2
  have p1:isOw s0=true:=by
   rcases h4 with⟨d0,rfl,z⟩|⟨w0,z⟩
   ·subst z;cases w1
   ·exact w0
  have p2:isOw s0'=true:=by
   rcases h4' with⟨d0,rfl,z⟩|⟨w0,z⟩
   ·subst z;cases w2
   ·exact w0
  rw[st0_of h2]at e3
  rw[st0_of h2']at e4
  have q:=R.ap i i' s0 s0' a h3 p1 h3' p2 (getD_some (X1 e3)) (getD_some (X1 e4))
  subst q
  rw[nodup_at nd h2 h2']
theorem wb_cases(R:Rel K G F σ H ρ)(R':Rel K (ghC own fr F H σ ρ) F' τ H' μ)(nd:fr.Nodup){i:Nat}{s:Sl}(h:(wbGo fr (μ.drop own.length) 0 ρ)[i]?=some (some s)) :
  ∃s0,ρ[i]?=some (some s0)/\((s=s0/\(isOw s0=true->i∉fr))\/(isOw s0=true/\∃k d',fr[k]?=some i/\μ[own.length+k]?=some (some (Sl.io d'))/\s=s0.put d')):=by
 rw[wbGo_get]at h
 cases e:ρ[i]? with
 | none=>rw[e]at h;cases h
 | some x =>
  rw[e]at h
  simp only[Q4,i9]at h
  have h:=X1 h
  cases x with
  | none=>simp[wb1]at h
  | some s0 =>
   refine ⟨s0,rfl,?_⟩
   by_cases w0:isOw s0=true
   ·by_cases hm:i∈fr
    ·obtain⟨k,hk⟩:=i5.mp hm
     obtain⟨a,o,e1,_⟩:=R.ow i s0 e w0
     obtain⟨d',g1,g2⟩:=R'.io _ _ (ghC_of (own:=own) (F:=F) (H:=H) hk e w0 e1)
     have z:=zip_lookup (τ:=μ.drop own.length) nd hk (by rw[X8];exact g1)
     rw[z]at h
     refine .inr ⟨w0,k,d',hk,g1,?_⟩
     cases s0 with
     | fz d=>cases w0
     | ow d=>simp[wb1]at h;exact h.symm
     | io d=>simp[wb1]at h;exact h.symm
    ·refine .inl ⟨?_,λ_=>hm⟩
     have z:(fr.zip (μ.drop own.length)).lookup i=none:=by
      cases q:(fr.zip (μ.drop own.length)).lookup i with
      | none=>rfl
      | some y =>
       obtain⟨k,h1,_⟩:=zip_lookup_mem q
       exact (hm (S2 h1)).elim
     rw[z]at h
     cases s0 with
     | fz d=>cases w0
     | ow d=>simp[wb1]at h;exact h.symm
     | io d=>simp[wb1]at h;exact h.symm
   ·refine .inl ⟨?_,λz=>(w0 z).elim⟩
    cases s0 with
    | fz d=>simp[wb1]at h;exact h.symm
    | ow d=>exact (w0 rfl).elim
    | io d=>exact (w0 rfl).elim
theorem wb1_io{d:D}(x:Option (Option Sl)):∃d',wb1 (some (.io d)) x=some (.io d'):=by
 rcases x with _|_|(d'|d'|d')
 ·exact ⟨d,rfl⟩
 ·exact ⟨d,rfl⟩
 ·exact ⟨d,rfl⟩
 ·exact ⟨d,rfl⟩
 ·exact ⟨d',rfl⟩
theorem Rel.outer(R:Rel K G F σ H ρ)(R':Rel K (ghC own fr F H σ ρ) F' τ H' μ)(nd:fr.Nodup):Rel K G F' σ H' (wbGo fr (μ.drop own.length) 0 ρ):=by
 have sb:Sub F F':=R'.sub0
 have owns:∀{i:Nat}{s:Sl},(wbGo fr (μ.drop own.length) 0 ρ)[i]?=some (some s)->isOw s=true->∃s0,ρ[i]?=some (some s0)/\isOw s0=true:=λ{i s} e w=>by
  obtain⟨s0,h1,h2⟩:=wb_cases R R' nd e
  rcases h2 with⟨rfl,_⟩|⟨w0,_⟩
  ·exact ⟨s,h1,w⟩
  ·exact ⟨s0,h1,w0⟩
 refine ⟨by rw[wbGo_len];exact R.len,R'.sub,R.sub0.trans sb,λa o e=>?_,λa o e n=>?_,λi d e=>?_,λi s e w=>?_,λi d a e ea=>?_,λi a e=>?_,λi d e=>?_,λi j s t a e1 w1 e2 w2 e3 e4=>?_⟩
 ·rcases R'.fn a o e with q|q
  ·exact R.fn a o q
  ·exact .inr (R.h0 q)
 ·refine R'.keep a o (R.keep a o e n) λj z=>?_
  obtain⟨k,i,s,rfl,h1,h2,h3,h4⟩:=ghC_io z
  cases s with
  | fz d=>cases h3
  | ow d=>rw[R.new i d a h2 h4]at e;cases e
  | io d =>
   obtain⟨a',g⟩:=R.ioi i d h2
   obtain⟨_,_,g2⟩:=R.io i a' g
   rw[h4]at g2;cases g2
   exact n i g
 ·obtain⟨s0,h1,h2⟩:=wb_cases R R' nd e
  rcases h2 with⟨rfl,_⟩|⟨w0,k,d',_,_,z⟩
  ·obtain⟨v,g1,g2⟩:=R.fz i d h1
   exact ⟨v,g1,g2.mono sb⟩
  ·cases s0<;>simp[Sl.put,isOw]at z w0
 ·obtain⟨s0,h1,h2⟩:=wb_cases R R' nd e
  rcases h2 with⟨rfl,hm⟩|⟨w0,k,d',hk,hd,rfl⟩
  ·obtain⟨a,o,g1,g2,g3,g4⟩:=R.ow i s h1 w
   have nio:∀j,(ghC own fr F H σ ρ).io j≠some a:=λj z=>by
    obtain⟨k,i',s',rfl,q1,q2,q3,q4⟩:=ghC_io z
    have:=R.ap i i' s s' a h1 w q2 q3 g1 q4
    subst this
    exact hm w (S2 q1)
   refine ⟨a,o,g1,?_,R'.keep a o g3 nio,g4.mono sb⟩
   cases q:F' a with
   | none=>rfl
   | some u =>
    rcases R'.fn a u q with z|z
    ·have z:F a=some u:=z
     rw[g2]at z;cases z
    ·have z:H a=none:=z
     rw[g3]at z;cases z
  ·obtain⟨a,o,g1,g2,g3,g4⟩:=R.ow i s0 h1 w0
   obtain⟨d2,q1,q2⟩:=R'.io _ _ (ghC_of (own:=own) (F:=F) (H:=H) hk h1 w0 g1)
   obtain⟨a',o',p1,p2,p3,p4⟩:=R'.ow _ _ hd rfl
   rw[q2]at p1;cases p1
   exact ⟨a,o',g1,p2,p3,by cases s0<;>first|exact p4|cases w0⟩
 ·obtain⟨s0,h1,h2⟩:=wb_cases R R' nd e
  rcases h2 with⟨rfl,_⟩|⟨w0,k,d',_,_,z⟩
  ·exact R.new i d a h1 ea
  ·cases s0 with
   | fz d=>cases w0
   | ow d0=>exact R.new i d0 a h1 ea
   | io d0=>cases z
 ·obtain⟨d,h1,h2⟩:=R.io i a e
  obtain⟨d',hd⟩:=wb1_io (d:=d) ((fr.zip (μ.drop own.length)).lookup i)
  exact ⟨d',by rw[wbGo_get,h1];simp only[Q4,i9];rw[hd],h2⟩
 ·obtain⟨s0,h1,h2⟩:=wb_cases R R' nd e
  rcases h2 with⟨rfl,_⟩|⟨w0,k,d',_,_,z⟩
  ·exact R.ioi i d h1
  ·cases s0 with
   | fz d=>cases w0
   | ow d0=>cases z
   | io d0=>exact R.ioi i d0 h1
 ·obtain⟨s0,g1,g2⟩:=owns e1 w1
  obtain⟨t0,g3,g4⟩:=owns e2 w2
  exact R.ap i j s0 t0 a g1 g2 g3 g4 e3 e4
end
noncomputable abbrev Con:=List Sl->(Sl->Ev->Prop)->Prop
noncomputable def conSp(K:Fg)(con:Con):Sp:=λvs H Q _=>∃(G:Gh) (F:Hp) (args:List Sl) (Qd:Sl->Ev->Prop),Rel K G F (vs.map some) H (args.map some)/\con args Qd /\
 ∀v H' F' r ρ',Sub F F'->Rel K G F' (vs.map some) H' ρ'->Res K G F' H' (vs.map some) ρ' v r->Qd r ρ'->Q v H'
mutual
noncomputable def noMut:D->Bool
 | .none=>true
 | .bool _=>true
 | .int _=>true
 | .str _=>true
 | .tuple xs=>noMutAll xs
 | .list _=>false
 | .dict _=>false
noncomputable def noMutAll:List D->Bool
 | []=>true
 | x :: xs=>noMut x&&noMutAll xs
end
theorem noMutAll_ints:∀ns:List Int,noMutAll (ns.map j0)=true
 | []=>rfl
 | n :: ns=>by simp[noMutAll,noMut,noMutAll_ints ns]
section
variable {K:Fg}{F F':Hp}
mutual
theorem Da.noMut(h:∀b xs,F b=some (.tup xs)->F' b=some (.tup xs)):∀{v:V}{d:D},Da K F v d->noMut d=true->Da K F' v d
 | _,_,.non,_=>.non
 | _,_,.bl b,_=>.bl b
 | _,_,.int i,_=>.int i
 | _,_,.str x,_=>.str x
 | _,_,.lst _ _,z=>by simp[L3.noMut]at z
 | _,_,.tup e t,z=>.tup (h _ _ e) (DaAll.noMut h t (by simpa [L3.noMut]using z))
 | _,_,.dk _ _,z=>by simp[L3.noMut]at z
 | _,_,.dt _ _,z=>by simp[L3.noMut]at z
 | _,_,.scr _,z=>by simp[L3.noMut,scrD]at z
theorem DaAll.noMut(h:∀b xs,F b=some (.tup xs)->F' b=some (.tup xs)):∀{xs:List V}{ds:List D},DaAll K F xs ds->noMutAll ds=true->DaAll K F' xs ds
 | _,_,.nil,_=>.nil
 | _,_,.cons a t,z=>by
  simp[noMutAll]at z
  exact .cons (Da.noMut h a z.1) (DaAll.noMut h t z.2)
end
end
noncomputable def lentAny(ρ:Ev):List Opd->Bool
 | []=>false
 | .inr _ :: xs=>lentAny ρ xs
 | .inl i :: xs=>(match ρ[i]? with|some (some s)=>isOw s|_=>false)||lentAny ρ xs
noncomputable def dCall(con:Con)(as:List AD):TD:=λρ Q=>dArgs as ρ λxs ρ1=>looksQ ρ1 xs λds=>con (ds.map Sl.fz) λr _=>match lentAny ρ1 xs with
 | false=>Q r ρ1
 | true=>noMut r.d=true/\Q r ρ1
noncomputable def callI(con:Con)(i:Nat)(xs:List Opd)(ρ1:Ev)(Q:Sl->Ev->Prop):Prop:=match ρ1[i]? with
 | some (some s)=>match isOw s,lentAny ρ1 xs with
  | true,false=>looksQ ρ1 xs λds=>con (.io s.d :: ds.map Sl.fz) λr outs=>match outs with
   | some (.io d') :: _=>Q r (ρ1.set i (some (s.put d')))
   | _=>False
  | _,_=>False
 | _=>False
noncomputable def dCallI(con:Con)(i:Nat)(as:List AD):TD:=λρ Q=>dArgs (.inl i :: as) ρ λxs ρ1=>callI con i xs.tail ρ1 Q
noncomputable def LentA(σ:St)(ρ:Ev)(xs:List Opd)(a:Addr):Prop:=∃(i:Nat) (s:Sl),Sum.inl i∈xs/\ρ[i]?=some (some s)/\isOw s=true/\σ[i]?=some (some (V.ref a))
theorem lentAny_of{σ:St}{ρ:Ev}:∀{xs:List Opd}{a:Addr},LentA σ ρ xs a->lentAny ρ xs=true
 | [],a,⟨i,s,h,_⟩=>by cases h
 | .inr d :: xs,a,⟨i,s,h,h1,h2,h3⟩=>by
  rcases Y0.mp h with h|h
  ·cases h
  ·exact lentAny_of (xs:=xs) ⟨i,s,h,h1,h2,h3⟩
 | .inl j :: xs,a,⟨i,s,h,h1,h2,h3⟩=>by
  unfold lentAny
  rcases Y0.mp h with h|h
  ·cases h;rw[h1];simp[h2]
  ·rw[lentAny_of (xs:=xs) ⟨i,s,h,h1,h2,h3⟩];simp
open Classical in
noncomputable def lend(σ:St)(ρ:Ev)(xs:List Opd)(F H:Hp):Hp:=λb=>if LentA σ ρ xs b then H b else F b
open Classical in
noncomputable def unlend(σ:St)(ρ:Ev)(xs:List Opd)(F:Hp):Hp:=λb=>if LentA σ ρ xs b then none else F b
section
variable {K:Fg}{G:Gh}{F F' H H':Hp}{σ:St}{ρ:Ev}{xs:List Opd}
theorem lend_not{b:Addr}(h:¬LentA σ ρ xs b):lend σ ρ xs F H b=F b:=by unfold lend;rw[if_neg h]
theorem lend_is{b:Addr}(h:LentA σ ρ xs b):lend σ ρ xs F H b=H b:=by unfold lend;rw[if_pos h]
theorem unlend_not{b:Addr}(h:¬LentA σ ρ xs b):unlend σ ρ xs F b=F b:=by unfold unlend;rw[if_neg h]
theorem unlend_is{b:Addr}(h:LentA σ ρ xs b):unlend σ ρ xs F b=none:=by unfold unlend;rw[if_pos h]
theorem LentA.own(R:Rel K G F σ H ρ){b:Addr}(h:LentA σ ρ xs b):∃(i:Nat) (s:Sl) (o:HO),ρ[i]?=some (some s)/\isOw s=true/\σ[i]?=some (some (V.ref b))/\F b=none/\H b=some o/\Own1 K F o s.d:=by
 obtain⟨i,s,_,h1,h2,h3⟩:=h
 obtain⟨a,o,g1,g2,g3,g4⟩:=R.ow i s h1 h2
 rw[h3]at g1;cases g1
 exact ⟨i,s,o,h1,h2,h3,g2,g3,g4⟩
theorem lend_sub(R:Rel K G F σ H ρ):Sub F (lend σ ρ xs F H):=λb o e=>by
 have n:¬LentA σ ρ xs b:=λz=>by
  obtain⟨_,_,_,_,_,_,h,_⟩:=z.own R
  rw[h]at e;cases e
 rw[lend_not n];exact e
theorem lend_le(R:Rel K G F σ H ρ):Sub (lend σ ρ xs F H) H:=λb o e=>by
 by_cases z:LentA σ ρ xs b
 ·rw[lend_is z]at e;exact e
 ·rw[lend_not z]at e;exact R.sub _ _ e
theorem lend_looks(R:Rel K G F σ H ρ){ys:List Opd}{vs:List V}{k:List D->Prop}(m:∀y∈ys,y∈xs)(o:OpdsAt K F σ vs ys)(h:looksQ ρ ys k):∃ds,DaAll K (lend σ ρ xs F H) vs ds/\k ds:=by
 induction o generalizing k with
 | nil=>exact ⟨[],.nil,h⟩
 | @cons v x vs ys o t ih =>
  cases x with
  | inr d =>
   obtain⟨ds,a,q⟩:=ih (k:=λds=>k (d :: ds)) (λy hy=>m y (A0 _ hy)) h
   exact ⟨d :: ds,.cons (Da.mono (lend_sub R) o) a,q⟩
  | inl i =>
   unfold looksQ at h
   split at h
   ·rename_i s e
    obtain⟨ds,a,q⟩:=ih (k:=λds=>k (s.d :: ds)) (λy hy=>m y (A0 _ hy)) h
    refine ⟨s.d :: ds,.cons ?_ a,q⟩
    have o:σ[i]?=some (some v):=o
    have own:isOw s=true->Da K (lend σ ρ xs F H) v s.d:=λw=>by
     obtain⟨b,u,h1,h2,h3,h4⟩:=R.ow i s e w
     rw[o]at h1;cases h1
     have l:LentA σ ρ xs b:=⟨i,s,m _ B0,e,w,o⟩
     exact (h4.mono (lend_sub R)).da (by rw[lend_is l];exact h3)
    cases s with
    | fz d =>
     obtain⟨v,e1,e2⟩:=R.fz i d e
     rw[o]at e1;cases e1
     exact e2.mono (lend_sub R)
    | ow d=>exact own rfl
    | io d=>exact own rfl
   ·exact h.elim
theorem own_noMut{o:HO}{d:D}(h:Own1 K F o d):noMut d=false:=by
 cases o with
 | ext φ=>obtain⟨a',ep,xs,ps,z,rfl,t⟩:=h.ext;rfl
 | _=>cases d<;>first|rfl|exact h.elim
theorem get_fz{ds:List D}{i:Nat}{s:Sl}(h:((ds.map Sl.fz).map some)[i]?=some (some s)):∃d,ds[i]?=some d/\s=.fz d:=by
 rw[L0,J1]at h
 cases e:ds[i]? with
 | none=>rw[e]at h;cases h
 | some d=>rw[e]at h;cases h;exact ⟨d,rfl,rfl⟩
theorem get_vs{vs:List V}{i:Nat}{v:V}(h:vs[i]?=some v):(vs.map some)[i]?=some (some v):=by rw[J1,h];rfl
theorem rel_call{vs:List V}{ds:List D}(s:Sub F H)(da:DaAll K F vs ds):Rel K ⟨H,F,λ_=>none⟩ F (vs.map some) H ((ds.map Sl.fz).map some) where
 len:=by simp[da.length]
 sub:=s
 sub0:=Sub.refl _
 fn:=λ_ _ e=>.inl e
 keep:=λ_ _ e _=>e
 fz:=λi d e=>by
  obtain⟨d',e1,e2⟩:=get_fz e
  cases e2
  obtain⟨v,h1,h2⟩:=da.get e1
  exact ⟨v,get_vs h1,h2⟩
 ow:=λi s e w=>by obtain⟨d',e1,rfl⟩:=get_fz e;cases w
 new:=λi d a e _=>by obtain⟨d',e1,e2⟩:=get_fz e;cases e2
 io:=λi a e=>by cases e
 ioi:=λi d e=>by obtain⟨d',e1,e2⟩:=get_fz e;cases e2
 ap:=λi j s t a e w _ _ _ _=>by obtain⟨d',e1,rfl⟩:=get_fz e;cases w
theorem Rel.called(R:Rel K G F σ H ρ){σ1:St}{ρ1:Ev}(R':Rel K ⟨H,lend σ ρ xs F H,λ_=>none⟩ F' σ1 H' ρ1):Sub F (unlend σ ρ xs F')/\Rel K G (unlend σ ρ xs F') σ H' ρ:=by
 have nl:∀{b:Addr}{o:HO},F b=some o->¬LentA σ ρ xs b:=λ{b o} e z=>by
  obtain⟨_,_,_,_,_,_,h,_⟩:=z.own R
  rw[h]at e;cases e
 have sb:Sub F (unlend σ ρ xs F'):=λb o e=>by
  rw[unlend_not (nl e)]
  exact R'.sub0 _ _ (lend_sub R _ _ e)
 have ul:∀{b:Addr}{o:HO},unlend σ ρ xs F' b=some o->¬LentA σ ρ xs b/\F' b=some o:=λ{b o} e=>by
  by_cases z:LentA σ ρ xs b
  ·rw[unlend_is z]at e;cases e
  ·rw[unlend_not z]at e;exact ⟨z,e⟩
 have kp:∀{b:Addr}{o:HO},H b=some o->H' b=some o:=λ{b o} e=>R'.keep b o e λi z=>by cases z
 refine ⟨sb,R.len,λb o e=>R'.sub _ _ (ul e).2,R.sub0.trans sb,λb o e=>?_,λa o e n=>kp (R.keep a o e n),λi d e=>?_,λi s e w=>?_,R.new,R.io,R.ioi,R.ap⟩
 ·obtain⟨n,e⟩:=ul e
  rcases R'.fn b o e with q|q
  ·have q:lend σ ρ xs F H b=some o:=q
   rw[lend_not n]at q
   exact R.fn b o q
  ·exact .inr (R.h0 q)
 ·obtain⟨v,h1,h2⟩:=R.fz i d e
  exact ⟨v,h1,h2.mono sb⟩
 ·obtain⟨a,o,h1,h2,h3,h4⟩:=R.ow i s e w
  refine ⟨a,o,h1,?_,kp h3,h4.mono sb⟩
  cases q:unlend σ ρ xs F' a with
  | none=>rfl
  | some u =>
   obtain⟨n,q⟩:=ul q
   rcases R'.fn a u q with z|z
   ·have z:lend σ ρ xs F H a=some u:=z
    rw[lend_not n,h2]at z;cases z
   ·have z:H a=none:=z
    rw[h3]at z;cases z
theorem Res.called(R:Rel K G F σ H ρ){σ1:St}{ρ1:Ev}{v:V}{r:Sl}(R':Rel K ⟨H,lend σ ρ xs F H,λ_=>none⟩ F' σ1 H' ρ1)(q:Res K ⟨H,lend σ ρ xs F H,λ_=>none⟩ F' H' σ1 ρ1 v r)
  (hl:lentAny ρ xs=true->noMut r.d=true):Res K G (unlend σ ρ xs F') H' σ ρ v r:=by
 have tp:∀b ys,F' b=some (.tup ys)->unlend σ ρ xs F' b=some (.tup ys):=λb ys e=>by
  have n:¬LentA σ ρ xs b:=λz=>by
   obtain⟨_,_,o,_,_,_,_,h,w⟩:=z.own R
   have e2:=R'.sub0 b o (by show lend σ ρ xs F H b=some o;rw[lend_is z];exact h)
   rw[e]at e2;cases e2
   exact w
  rw[unlend_not n];exact e
 by_cases l:lentAny ρ xs=true
 ·cases r with
  | fz d=>exact Da.noMut tp q (hl l)
  | ow d =>
   obtain⟨a,o,_,_,_,w,_⟩:=q
   have:=hl l
   rw[show (Sl.ow d).d=d from rfl,own_noMut w]at this;cases this
  | io d=>exact q.elim
 ·have e:unlend σ ρ xs F'=F':=funext λb=>unlend_not λz=>l (lentAny_of z)
  rw[e]
  cases r with
  | fz d=>exact q
  | io d=>exact q.elim
  | ow d =>
   obtain⟨a,o,h1,h2,h3,h4,h5,_⟩:=q
   refine ⟨a,o,h1,h2,h3,h4,R.h0 h5,λi s es w z=>?_⟩
   obtain⟨a',o',g1,_,g3,_⟩:=R.ow i s es w
   rw[z]at g1;cases g1
   have h5:H a=none:=h5
   rw[h5]at g3;cases g3
theorem l_call{con:Con}{as:List AD}{E:XK}{Q:VK}(h:lift K (dCall con as) σ H Q):tCall (conSp K con) [] E (tArgs (as.map (argT K))) σ H Q:=by
 obtain⟨G,F,ρ,Qd,R,w,k⟩:=h
 refine args_ok R w λvs H1 F1 xs ρ1 s1 R1 o w1=>?_
 obtain⟨ds,da,w1⟩:=lend_looks (xs:=xs) R1 (λy hy=>hy) o w1
 rw[K1]
 refine ⟨_,_,ds.map Sl.fz,_,rel_call (lend_le R1) da,w1,λv H' F' r ρ' s' R' r' q=>?_⟩
 obtain⟨sb,R2⟩:=R1.called R'
 have hq:(lentAny ρ1 xs=true->noMut r.d=true)/\Qd r ρ1:=by
  split at q
  ·rename_i e;exact ⟨λz=>(by rw[e]at z;cases z),q⟩
  ·exact ⟨λ_=>q.1,q.2⟩
 exact k v H' _ r ρ1 (s1.trans sb) R2 (Res.called R1 R' r' hq.1) hq.2
end
section
variable {K:Fg}{G:Gh}{F F' H H':Hp}{σ:St}{ρ:Ev}{xs:List Opd}
noncomputable def ioA(a:Addr):Nat->Option Addr:=λj=>if j=0 then some a else none
theorem ioA_some{a b:Addr}{j:Nat}(h:ioA a j=some b):j=0/\b=a:=by
 unfold ioA at h
 split at h
 ·rename_i z;cases h;exact ⟨z,rfl⟩
 ·cases h
theorem rel_callI{vs:List V}{ds:List D}{a:Addr}{o:HO}{d:D}(s:Sub F H)(h1:F a=none)(h2:H a=some o)(h3:Own1 K F o d)(da:DaAll K F vs ds) :
  Rel K ⟨H,F,ioA a⟩ F ((V.ref a :: vs).map some) H ((Sl.io d :: ds.map Sl.fz).map some) where
 len:=by simp[da.length]
 sub:=s
 sub0:=Sub.refl _
 fn:=λ_ _ e=>.inl e
 keep:=λ_ _ e _=>e
 fz:=λi d' e=>by
  cases i with
  | zero=>simp at e
  | succ i =>
   have e:((ds.map Sl.fz).map some)[i]?=some (some (Sl.fz d')):=by simpa using e
   obtain⟨d2,e1,e2⟩:=get_fz e
   cases e2
   obtain⟨v,g1,g2⟩:=da.get e1
   exact ⟨v,by simpa using g1,g2⟩
 ow:=λi s e w=>by
  cases i with
  | zero=>simp at e;subst e;exact ⟨a,o,by simp,h1,h2,h3⟩
  | succ i =>
   have e:((ds.map Sl.fz).map some)[i]?=some (some s):=by simpa using e
   obtain⟨d2,e1,rfl⟩:=get_fz e
   cases w
 new:=λi d' b e _=>by
  cases i with
  | zero=>simp at e
  | succ i =>
   have e:((ds.map Sl.fz).map some)[i]?=some (some (Sl.ow d')):=by simpa using e
   obtain⟨d2,e1,e2⟩:=get_fz e
   cases e2
 io:=λi b e=>by
  obtain⟨rfl,rfl⟩:=ioA_some e
  exact ⟨d,by simp,by simp⟩
 ioi:=λi d' e=>by
  cases i with
  | zero=>exact ⟨a,rfl⟩
  | succ i =>
   have e:((ds.map Sl.fz).map some)[i]?=some (some (Sl.io d')):=by simpa using e
   obtain⟨d2,e1,e2⟩:=get_fz e
   cases e2
 ap:=λi j s t b e1 w1 e2 w2 _ _=>by
  have f:∀{i:Nat}{s:Sl},((Sl.io d :: ds.map Sl.fz).map some)[i]?=some (some s)->isOw s=true->i=0:=λ{i s} e w=>by
   cases i with
   | zero=>rfl
   | succ i =>
    have e:((ds.map Sl.fz).map some)[i]?=some (some s):=by simpa using e
    obtain⟨d2,e1,rfl⟩:=get_fz e
    cases w
  rw[f e1 w1,f e2 w2]
theorem Rel.calledI(R:Rel K G F σ H ρ){i:Nat}{s:Sl}{a:Addr}{d':D}{σ1:St}{ρ1:Ev}(e:ρ[i]?=some (some s))(w:isOw s=true)(ea:σ[i]?=some (some (V.ref a)))
  (R':Rel K ⟨H,F,ioA a⟩ F' (some (V.ref a) :: σ1) H' (some (Sl.io d') :: ρ1)):Rel K G F' σ H' (ρ.set i (some (s.put d'))):=by
 obtain⟨a0,o0,g1,g2,g3,g4⟩:=R.ow i s e w
 rw[ea]at g1;cases g1
 have sb:Sub F F':=R'.sub0
 have hl:=lt_of_get e
 have kp:∀{b:Addr}{o:HO},b≠a->H b=some o->H' b=some o:=λ{b o} n q=>R'.keep b o q λj z=>n (ioA_some z).2
 have ow':∀{j:Nat}{t:Sl},j≠i->ρ[j]?=some (some t)->isOw t=true->∃b o,σ[j]?=some (some (V.ref b))/\F' b=none/\H' b=some o/\Own1 K F' o t.d:=λ{j t} n q wt=>by
  obtain⟨b,o,q1,q2,q3,q4⟩:=R.ow j t q wt
  have nb:b≠a:=λz=>n (R.ap j i t s a q wt e w (by rw[q1,z]) ea)
  refine ⟨b,o,q1,?_,kp nb q3,q4.mono sb⟩
  cases z:F' b with
  | none=>rfl
  | some u =>
   rcases R'.fn b u z with y|y
   ·have y:F b=some u:=y
    rw[q2]at y;cases y
   ·have y:H b=none:=y
    rw[q3]at y;cases y
 refine ⟨by rw[P4];exact R.len,R'.sub,R.sub0.trans sb,λb o q=>?_,λb o q n=>?_,λj d q=>?_,λj t q wt=>?_,λj d b q eb=>?_,λj b q=>?_,λj d q=>?_,λj k t u b e1 w1 e2 w2 e3 e4=>?_⟩
 ·rcases R'.fn b o q with y|y
  ·exact R.fn b o y
  ·exact .inr (R.h0 y)
 ·refine kp (λz=>?_) (R.keep b o q n)
  subst z
  cases s with
  | fz d=>cases w
  | ow d=>rw[R.new i d b e ea]at q;cases q
  | io d =>
   obtain⟨a',y⟩:=R.ioi i d e
   obtain⟨_,_,y2⟩:=R.io i a' y
   rw[ea]at y2;cases y2
   exact n i y
 ·rcases get_set q with⟨rfl,z⟩|⟨n,z⟩
  ·cases s<;>simp[Sl.put,isOw]at z w
  ·obtain⟨v,y1,y2⟩:=R.fz j d z
   exact ⟨v,y1,y2.mono sb⟩
 ·rcases get_set q with⟨rfl,z⟩|⟨n,z⟩
  ·cases z
   obtain⟨b,o,y1,y2,y3,y4⟩:=R'.ow 0 (.io d') (by simp) rfl
   simp at y1;subst y1
   exact ⟨a,o,ea,y2,y3,by cases s<;>first|exact y4|cases w⟩
  ·exact ow' n z wt
 ·rcases get_set q with⟨rfl,z⟩|⟨n,z⟩
  ·cases s with
   | fz d=>cases w
   | ow d0=>exact R.new j d0 b e eb
   | io d0=>cases z
  ·exact R.new j d b z eb
 ·obtain⟨d,y1,y2⟩:=R.io j b q
  by_cases z:j=i
  ·subst z
   rw[e]at y1;cases y1
   exact ⟨d',by rw[set_get hl];rfl,y2⟩
  ·exact ⟨d,by rw[V0 (V2 z)];exact y1,y2⟩
 ·rcases get_set q with⟨rfl,z⟩|⟨n,z⟩
  ·cases s with
   | fz d=>cases w
   | ow d0=>cases z
   | io d0=>exact R.ioi j d0 e
  ·exact R.ioi j d z
 ·have f:∀(j:Nat) (t:Sl),(ρ.set i (some (s.put d')))[j]?=some (some t)->isOw t=true->∃t',ρ[j]?=some (some t')/\isOw t'=true:=λj t q wt=>by
   rcases get_set q with⟨rfl,z⟩|⟨n,z⟩
   ·exact ⟨s,e,w⟩
   ·exact ⟨t,z,wt⟩
  obtain⟨t',e1',w1'⟩:=f j t e1 w1
  obtain⟨u',e2',w2'⟩:=f k u e2 w2
  exact R.ap j k t' u' b e1' w1' e2' w2' e3 e4
theorem noLent_looks(R:Rel K G F σ H ρ){ys:List Opd}{vs:List V}{k:List D->Prop}(m:lentAny ρ ys=false)(o:OpdsAt K F σ vs ys)(h:looksQ ρ ys k):∃ds,DaAll K F vs ds/\k ds:=by
 induction o generalizing k with
 | nil=>exact ⟨[],.nil,h⟩
 | @cons v x vs ys o t ih =>
  cases x with
  | inr d =>
   obtain⟨ds,a,q⟩:=ih (k:=λds=>k (d :: ds)) m h
   exact ⟨d :: ds,.cons o a,q⟩
  | inl i =>
   unfold looksQ at h
   unfold lentAny at m
   simp only[Bool.or_eq_false_iff]at m
   split at h
   ·rename_i s e
    obtain⟨ds,a,q⟩:=ih (k:=λds=>k (s.d :: ds)) m.2 h
    refine ⟨s.d :: ds,.cons ?_ a,q⟩
    have m1:=m.1
    rw[e]at m1
    cases s with
    | fz d =>
     obtain⟨v',e1,e2⟩:=R.fz i d e
     have o:σ[i]?=some (some v):=o
     rw[o]at e1;cases e1
     exact e2
    | ow d=>cases m1
    | io d=>cases m1
   ·exact h.elim
theorem l_callI{con:Con}{i:Nat}{as:List AD}{E:XK}{Q:VK}(h:lift K (dCallI con i as) σ H Q):tCall (conSp K con) [] E (tArgs ((.inl i :: as).map (argT K))) σ H Q:=by
 obtain⟨G,F,ρ,Qd,R,w,k⟩:=h
 unfold dCallI dArgs at w
 split at w
 ·rename_i s0 e0
  obtain⟨v,ev⟩:=R.bound e0
  refine ⟨v,ev,args_ok R w λvs H1 F1 xs ρ1 s1 R1 o w1=>?_⟩
  show conSp K con (v :: vs++[]) H1 Q E
  rw[K1]
  have w1:callI con i xs ρ1 Qd:=w1
  unfold callI at w1
  split at w1
  ·rename_i s e
   split at w1
   ·rename_i p1 p2
    obtain⟨a,o',g1,g2,g3,g4⟩:=R1.ow i s e p1
    rw[ev]at g1;cases g1
    obtain⟨ds,da,w1⟩:=noLent_looks R1 p2 o w1
    refine ⟨_,F1,.io s.d :: ds.map Sl.fz,_,rel_callI R1.sub g2 g3 g4 da,w1,λv H' F' r ρ' s' R' r' q=>?_⟩
    split at q
    ·rename_i d' ρ2
     have R2:=R1.calledI e p1 ev R'
     refine k v H' F' r _ (s1.trans s') R2 ?_ q
     cases r with
     | fz d=>exact r'
     | io d=>exact r'.elim
     | ow d =>
      obtain⟨b,u,h1,h2,h3,h4,h5,_⟩:=r'
      have h5:H1 b=none:=h5
      refine ⟨b,u,h1,h2,h3,h4,R1.h0 h5,λj t es w z=>?_⟩
      have own:∃t',ρ1[j]?=some (some t')/\isOw t'=true:=by
       rcases get_set es with⟨rfl,y⟩|⟨n,y⟩
       ·exact ⟨s,e,p1⟩
       ·exact ⟨t,y,w⟩
      obtain⟨t',y1,y2⟩:=own
      obtain⟨a',o',q1,_,q3,_⟩:=R1.ow j t' y1 y2
      rw[z]at q1;cases q1
      rw[h5]at q3;cases q3
    ·exact q.elim
   ·exact w1.elim
  ·exact w1.elim
 ·exact w.elim
noncomputable def startE(n:Nat)(args:List Sl):Ev:=args.map some++U1 (n - args.length) none
noncomputable def outs:List Sl->Ev->Ev
 | [],_=>[]
 | .io _ :: as,ρ=>(ρ.headD none) :: outs as ρ.tail
 | .fz d :: as,ρ=>some (.fz d) :: outs as ρ.tail
 | .ow d :: as,ρ=>some (.ow d) :: outs as ρ.tail
theorem app_none{α:Type}{l:List (Option α)}{n i:Nat}{x:α}(h:(l++U1 n none)[i]?=some (some x)):l[i]?=some (some x):=by
 by_cases z:i < l.length
 ·rw[P2 z]at h;exact h
 ·rw[S1 (g8 z),j8]at h
  split at h<;>cases h
theorem app_left{α:Type}{l m:List α}{i:Nat}{x:α}(h:l[i]?=some x):(l++m)[i]?=some x:=by rw[P2 (lt_of_get h)];exact h
theorem Rel.start{vs:List V}{args:List Sl}{N:List Str}(R:Rel K G F (vs.map some) H (args.map some)):Rel K G F (L2.start N vs) H (startE N.length args) where
 len:=by have:=R.len;simp[L2.start,startE]at this ⊢;omega
 sub:=R.sub
 sub0:=R.sub0
 fn:=R.fn
 keep:=R.keep
 fz:=λi d e=>by
  obtain⟨v,h1,h2⟩:=R.fz i d (app_none e)
  exact ⟨v,app_left h1,h2⟩
 ow:=λi s e w=>by
  obtain⟨a,o,h1,h2⟩:=R.ow i s (app_none e) w
  exact ⟨a,o,app_left h1,h2⟩
 new:=λi d a e ea=>R.new i d a (app_none e) (app_none ea)
 io:=λi a e=>by
  obtain⟨d,h1,h2⟩:=R.io i a e
  exact ⟨d,app_left h1,app_left h2⟩
 ioi:=λi d e=>R.ioi i d (app_none e)
 ap:=λi j s t a e1 w1 e2 w2 e3 e4=>R.ap i j s t a (app_none e1) w1 (app_none e2) w2 (app_none e3) (app_none e4)
theorem outs_get:∀{args:List Sl}{ρ:Ev}{i:Nat}{s:Sl},(outs args ρ)[i]?=some (some s)->(∃d,args[i]?=some (.io d)/\ρ[i]?=some (some s))\/(args[i]?=some s/\∀d,s≠.io d)
 | [],ρ,i,s,h=>by simp[outs]at h
 | .io d :: as,ρ,0,s,h=>by
  simp[outs]at h
  cases ρ with
  | nil=>simp at h
  | cons x ρ=>simp at h;exact .inl ⟨d,by simp,by simp[h]⟩
 | .fz d :: as,ρ,0,s,h=>by simp[outs]at h;subst h;exact .inr ⟨by simp,λd z=>by cases z⟩
 | .ow d :: as,ρ,0,s,h=>by simp[outs]at h;subst h;exact .inr ⟨by simp,λd z=>by cases z⟩
 | .io d :: as,ρ,i+1,s,h=>by
  simp only[outs,O3]at h
  rcases outs_get h with⟨d,h1,h2⟩|⟨h1,h2⟩
  ·exact .inl ⟨d,by simpa using h1,by cases ρ with|nil=>simp at h2|cons x ρ=>simpa using h2⟩
  ·exact .inr ⟨by simpa using h1,h2⟩
 | .fz d :: as,ρ,i+1,s,h=>by
  simp only[outs,O3]at h
  rcases outs_get h with⟨d,h1,h2⟩|⟨h1,h2⟩
  ·exact .inl ⟨d,by simpa using h1,by cases ρ with|nil=>simp at h2|cons x ρ=>simpa using h2⟩
  ·exact .inr ⟨by simpa using h1,h2⟩
 | .ow d :: as,ρ,i+1,s,h=>by
  simp only[outs,O3]at h
  rcases outs_get h with⟨d,h1,h2⟩|⟨h1,h2⟩
  ·exact .inl ⟨d,by simpa using h1,by cases ρ with|nil=>simp at h2|cons x ρ=>simpa using h2⟩
  ·exact .inr ⟨by simpa using h1,h2⟩
theorem outs_of:∀{args:List Sl}{ρ:Ev}{i:Nat}{d:D}{x:Option Sl},args[i]?=some (.io d)->ρ[i]?=some x->(outs args ρ)[i]?=some x
 | [],_,_,_,_,h,_=>by simp at h
 | _ :: _,[],_,_,_,_,h=>by simp at h
 | s :: as,y :: ρ,0,d,x,h,h'=>by simp at h h';subst h h';simp[outs]
 | s :: as,y :: ρ,i+1,d,x,h,h'=>by
  have:=outs_of (args:=as) (ρ:=ρ) (i:=i) (by simpa using h) (by simpa using h')
  cases s<;>simpa [outs]using this
theorem outs_len:∀(args:List Sl) (ρ:Ev),(outs args ρ).length=args.length
 | [],_=>rfl
 | s :: as,ρ=>by cases s<;>simp[outs,outs_len as]
theorem get_args{args:List Sl}{i:Nat}{s:Sl}(h:(args.map some)[i]?=some (some s)):args[i]?=some s:=by
 rw[J1]at h
 cases e:args[i]? with
 | none=>rw[e]at h;cases h
 | some x=>rw[e]at h;cases h;rfl
theorem args_get{args:List Sl}{i:Nat}{s:Sl}(h:args[i]?=some s):(args.map some)[i]?=some (some s):=by rw[J1,h];rfl
theorem Rel.ret{vs:List V}{args:List Sl}{σ':St}{ρ':Ev}(hn:∀s∈args,∀d,s≠.ow d)(R:Rel K G F (vs.map some) H (args.map some))(sb:Sub F F')(R':Rel K G F' σ' H' ρ'):Rel K G F' (vs.map some) H' (outs args ρ'):=by
 have own:∀{i:Nat}{s:Sl},(outs args ρ')[i]?=some (some s)->isOw s=true->∃d a,args[i]?=some (.io d)/\ρ'[i]?=some (some s)/\G.io i=some a/\(vs.map some)[i]?=some (some (V.ref a))/\σ'[i]?=some (some (V.ref a)):=λ{i s} e w=>by
  rcases outs_get e with⟨d,h1,h2⟩|⟨h1,h2⟩
  ·obtain⟨a,h3⟩:=R.ioi i d (args_get h1)
   obtain⟨_,_,h4⟩:=R.io i a h3
   obtain⟨_,_,h5⟩:=R'.io i a h3
   exact ⟨d,a,h1,h2,h3,h4,h5⟩
  ·cases s with
   | fz d=>cases w
   | ow d=>exact (hn _ (S2 h1) d rfl).elim
   | io d=>exact (h2 d rfl).elim
 refine ⟨by rw[outs_len];simpa using R.len,R'.sub,R'.sub0,R'.fn,R'.keep,λi d e=>?_,λi s e w=>?_,λi d a e ea=>?_,λi a e=>?_,λi d e=>?_,λi j s t a e1 w1 e2 w2 e3 e4=>?_⟩
 ·rcases outs_get e with⟨d',h1,h2⟩|⟨h1,h2⟩
  ·obtain⟨a,h3⟩:=R.ioi i d' (args_get h1)
   obtain⟨d2,h4,_⟩:=R'.io i a h3
   rw[h2]at h4;cases h4
  ·obtain⟨v,h3,h4⟩:=R.fz i d (args_get h1)
   exact ⟨v,h3,h4.mono sb⟩
 ·obtain⟨d,a,h1,h2,h3,h4,h5⟩:=own e w
  obtain⟨b,o,g1,g2⟩:=R'.ow i s h2 w
  rw[h5]at g1;cases g1
  exact ⟨a,o,h4,g2⟩
 ·obtain⟨d',b,h1,h2,h3,h4,h5⟩:=own e rfl
  rw[h4]at ea;cases ea
  exact R'.new i d _ h2 h5
 ·obtain⟨d,h1,h2⟩:=R.io i a e
  obtain⟨d',h3,h4⟩:=R'.io i a e
  exact ⟨d',outs_of (get_args h1) h3,h2⟩
 ·obtain⟨d',a,h1,h2,h3,h4,h5⟩:=own e rfl
  exact ⟨a,h3⟩
 ·obtain⟨_,a1,_,h2,_,h4,h5⟩:=own e1 w1
  obtain⟨_,a2,_,g2,_,g4,g5⟩:=own e2 w2
  rw[h4]at e3;cases e3
  rw[g4]at e4;cases e4
  exact R'.ap i j s t a h2 w1 g2 w2 h5 g5
theorem Res.ret{vs:List V}{args:List Sl}{σ':St}{ρ':Ev}{v:V}{r:Sl}(hn:∀s∈args,∀d,s≠.ow d)(R:Rel K G F (vs.map some) H (args.map some))(R':Rel K G F' σ' H' ρ')(q:Res K G F' H' σ' ρ' v r):Res K G F' H' (vs.map some) (outs args ρ') v r:=by
 cases r with
 | fz d=>exact q
 | io d=>exact q.elim
 | ow d =>
  obtain⟨a,o,h1,h2,h3,h4,h5,h6⟩:=q
  refine ⟨a,o,h1,h2,h3,h4,h5,λi s e w z=>?_⟩
  rcases outs_get e with⟨d',g1,g2⟩|⟨g1,g2⟩
  ·obtain⟨b,g3⟩:=R.ioi i d' (args_get g1)
   obtain⟨_,_,g4⟩:=R.io i b g3
   obtain⟨_,_,g5⟩:=R'.io i b g3
   rw[g4]at z;cases z
   exact h6 i s g2 w g5
  ·cases s with
   | fz d=>cases w
   | ow d=>exact (hn _ (S2 g1) d rfl).elim
   | io d=>exact (g2 d rfl).elim
noncomputable def endsOf(args:List Sl)(Qd:Sl->Ev->Prop):DE:={ nx:=λρ=>Qd (.fz .none) (outs args ρ),rt:=λr ρ=>Qd r (outs args ρ),bk:=λ_=>False,ct:=λ_=>False }
theorem l_def{N:List Str}{con:Con}{ts:TDS}{vs:List V}{Q:VK}{E:XK}(hc:∀args Qd,con args Qd->(∀s∈args,∀d,s≠.ow d)/\ts (endsOf args Qd) (startE N.length args))(h:conSp K con vs H Q E):liftS K ts { nx:=λ_ H'=>Q .non H',rt:=Q } (L2.start N vs) H:=by
 obtain⟨G,F,args,Qd,R,w,k⟩:=h
 obtain⟨hn,w⟩:=hc args Qd w
 refine ⟨G,F,_,_,R.start,w,λσ' H' F' ρ' s R' q=>?_,λv σ' H' F' r ρ' s R' r' q=>?_,λ_ _ _ _ _ _ q=>q.elim,λ_ _ _ _ _ _ q=>q.elim⟩
 ·exact k .non H' F' (.fz .none) _ s (R.ret hn s R') Da.non q
 ·exact k v H' F' r _ s (R.ret hn s R') (r'.ret hn R R') q
end
section
variable {K:Fg}{F H:Hp}{v:V}
theorem At.int{i:Int}(h:At K F H v (.int i)):v=.int i:=by
 rcases h with h|⟨a,o,rfl,_,_,h⟩
 ·cases h;rfl
 ·cases o<;>exact h.elim
theorem At.bool{b:Bool}(h:At K F H v (.bool b)):v=.bl b:=by
 rcases h with h|⟨a,o,rfl,_,_,h⟩
 ·cases h;rfl
 ·cases o<;>exact h.elim
theorem At.str{x:Str}(h:At K F H v (.str x)):v=.str x:=by
 rcases h with h|⟨a,o,rfl,_,_,h⟩
 ·cases h;rfl
 ·cases o<;>exact h.elim
theorem At.list{ds:List D}(s:Sub F H)(h:At K F H v (.list ds)):∃a xs,v=.ref a/\H a=some (.lst xs)/\DaAll K F xs ds:=by
 rcases h with h|⟨a,o,rfl,_,e,h⟩
 ·cases h with
  | lst e t=>exact ⟨_,_,rfl,s _ _ e,t⟩
 ·cases o<;>first|exact h.elim|exact ⟨_,_,rfl,e,h⟩
theorem At.tuple{ds:List D}(s:Sub F H)(h:At K F H v (.tuple ds)):∃a xs,v=.ref a/\F a=some (.tup xs)/\H a=some (.tup xs)/\DaAll K F xs ds:=by
 rcases h with h|⟨a,o,rfl,_,e,h⟩
 ·cases h with
  | tup e t=>exact ⟨_,_,rfl,e,s _ _ e,t⟩
 ·cases o<;>exact h.elim
theorem keyD_ne(k:Key):keyD k≠.none:=by cases k<;>(intro z;cases z)
theorem Da.scr_inv{ns:List Int}:∀{d:D},Da K F v d->d=scrD ns->∃a,v=.ref a/\SqL K F a (ns.map V.int)
 | _,.non,e=>by cases e
 | _,.bl _,e=>by cases e
 | _,.int _,e=>by cases e
 | _,.str _,e=>by cases e
 | _,.lst _ _,e=>by cases e
 | _,.tup _ _,e=>by cases e
 | _,.dk _ t,e=>by
  cases t with
  | nil=>injection e with e;cases e
  | cons _ _ =>
   injection e with e
   injection e with e _
   injection e with e _
   exact (keyD_ne _ e).elim
 | _,.dt _ t,e=>by
  cases t with
  | nil=>injection e with e;cases e
  | cons _ _ =>
   injection e with e
   injection e with e _
   injection e with e _
   cases e
 | _,.scr (ns:=ns') q,e=>by
  injection e with e
  injection e with e _
  injection e with _ e
  injection e with e2
  have:∀(l m:List Int),l.map j0=m.map j0->l=m:=by
   intro l
   induction l with
   | nil=>intro m e;cases m with|nil=>rfl|cons=>simp at e
   | cons a l ih=>intro m e;cases m with|nil=>simp at e|cons b m=>simp at e;rw[e.1,ih m e.2]
  rw[<- this _ _ e2]
  exact ⟨_,rfl,q⟩
theorem At.scr{ns:List Int}(s:Sub F H)(h:At K F H v (scrD ns)):∃a,v=.ref a/\SqL K H a (ns.map V.int):=by
 rcases h with h|⟨a,o,rfl,_,e,h⟩
 ·obtain⟨a,h1,h2⟩:=h.scr_inv rfl
  exact ⟨a,h1,s.sql h2⟩
 ·exfalso
  cases o<;>first|exact h.elim|skip
  ·rename_i kvs
   have h:DaKV K F kvs [(.none,.list (ns.map j0))]:=h
   generalize q:[(PyData.none,B1 (ns.map j0))]=es at h
   cases h with
   | nil=>cases q
   | cons _ _ =>
    injection q with q _
    injection q with q _
    exact keyD_ne _ q.symm
  ·rename_i kvs
   have h:DaKT K F kvs [(.none,.list (ns.map j0))]:=h
   cases h
theorem AtAll.one{vs:List V}{d:D}(h:AtAll K F H vs [d]):∃v,vs=[v]/\At K F H v d:=by
 cases h with|cons a t=>cases t;exact ⟨_,rfl,a⟩
theorem AtAll.two{vs:List V}{d e:D}(h:AtAll K F H vs [d,e]):∃v u,vs=[v,u]/\At K F H v d/\At K F H u e:=by
 cases h with|cons a t=>cases t with|cons b t=>cases t;exact ⟨_,_,rfl,a,b⟩
end
noncomputable def r2L(r:R2):List V->Hp->VK->Prop:=λvs H Q=>∃x y,vs=[x,y]/\r x y H Q
theorem ok2{K:Fg}{r:R2}{f:D->D->(Sl->Prop)->Prop}(h:∀(G:Gh) (F:Hp) (σ:St) (H:Hp) (ρ:Ev) (x y:V) (d e:D) (Q:VK) (Qd:Sl->Prop),Rel K G F σ H ρ->At K F H x d->At K F H y e->f d e Qd ->
    (∀v H' F' s,Sub F F'->Rel K G F' σ H' ρ->Res K G F' H' σ ρ v s->Qd s->Q v H')->r x y H Q):OpOk K (r2L r) (o2 f):=by
 intro G F σ H ρ vs ds Q Qd R a w k
 match ds,a,w with
 | [d,e],a,w =>
  obtain⟨v,u,rfl,h1,h2⟩:=a.two
  exact ⟨v,u,rfl,h G F σ H ρ v u d e Q Qd R h1 h2 w k⟩
theorem ok1{K:Fg}{r:List V->Hp->VK->Prop}{f:D->(Sl->Prop)->Prop}(h:∀(G:Gh) (F:Hp) (σ:St) (H:Hp) (ρ:Ev) (x:V) (d:D) (Q:VK) (Qd:Sl->Prop),Rel K G F σ H ρ->At K F H x d->f d Qd ->
    (∀v H' F' s,Sub F F'->Rel K G F' σ H' ρ->Res K G F' H' σ ρ v s->Qd s->Q v H')->r [x] H Q):OpOk K r (o1 f):=by
 intro G F σ H ρ vs ds Q Qd R a w k
 match ds,a,w with
 | [d],a,w =>
  obtain⟨v,rfl,h1⟩:=a.one
  exact h G F σ H ρ v d Q Qd R h1 w k
noncomputable def fI(C:Int->Int->Prop)(g:Int->Int->D):D->D->(Sl->Prop)->Prop
 | .int i,.int j,Q=>C i j/\Q (.fz (g i j))
 | _,_,_=>False
noncomputable def fI0(g:Int->Int->D):D->D->(Sl->Prop)->Prop
 | .int i,.int j,Q=>Q (.fz (g i j))
 | _,_,_=>False
theorem ok_I{K:Fg}{C:Int->Int->Prop}{g:Int->Int->V}{g':Int->Int->D}(hg:∀F i j,Da K F (g i j) (g' i j)):OpOk K (r2L (rI C g)) (o2 (fI C g')):=ok2 λG F σ H ρ x y d e Q Qd R h1 h2 w k=>by
 cases d<;>first|exact w.elim|skip
 cases e<;>first|exact w.elim|skip
 case int.int i j =>
  cases h1.int
  cases h2.int
  exact ⟨i,j,rfl,rfl,w.1,k _ H F (.fz _) (Sub.refl _) R (hg F i j) w.2⟩
theorem ok_I0{K:Fg}{g:Int->Int->V}{g':Int->Int->D}(hg:∀F i j,Da K F (g i j) (g' i j)):OpOk K (r2L (rI0 g)) (o2 (fI0 g')):=ok2 λG F σ H ρ x y d e Q Qd R h1 h2 w k=>by
 cases d<;>first|exact w.elim|skip
 cases e<;>first|exact w.elim|skip
 case int.int i j =>
  cases h1.int
  cases h2.int
  exact ⟨i,j,rfl,rfl,k _ H F (.fz _) (Sub.refl _) R (hg F i j) w⟩
noncomputable def rAny(r r':R2):R2:=λx y H Q=>r x y H Q\/r' x y H Q
noncomputable def rCatB:R2:=λx y H Q=>∃(a b:Addr) (xs ys:List V),x=.ref a/\y=.ref b/\H a=some (.tup xs)/\H b=some (.tup ys)/\xs.length+ys.length<=sizeLine /\
 (xs=[]->Q (.ref b) H)/\(xs≠[]->ys=[]->Q (.ref a) H)/\(xs≠[]->ys≠[]->∀p,H p=none->Q (.ref p) (upd H p (.tup (xs++ys))))
noncomputable def fAdd:D->D->(Sl->Prop)->Prop
 | .int i,.int j,Q=>Q (.fz (.int (i+j)))
 | .tuple xs,.tuple ys,Q=>xs.length+ys.length<=sizeLine/\Q (.fz (.tuple (xs++ys)))
 | .list xs,.list ys,Q=>xs.length+ys.length<=sizeLine/\Q (.ow (.list (xs++ys)))
 | _,_,_=>False
theorem DaAll.nil_of{K:Fg}{F:Hp}{ds:List D}(h:DaAll K F [] ds):ds=[]:=by cases h;rfl
theorem ok_add{K:Fg}:OpOk K (r2L (rAny (rI0 λi j=>.int (i+j)) (rAny rCatB rCat))) (o2 fAdd):=ok2 λG F σ H ρ x y d e Q Qd R h1 h2 w k=>by
 cases d<;>first|exact w.elim|(cases e<;>first|exact w.elim|skip)
 case int.int i j =>
  cases h1.int
  cases h2.int
  exact .inl ⟨i,j,rfl,rfl,k _ H F (.fz _) (Sub.refl _) R (Da.int _) w⟩
 case tuple.tuple xs ys =>
  obtain⟨a,us,rfl,f1,e1,d1⟩:=h1.tuple R.sub
  obtain⟨b,ws,rfl,f2,e2,d2⟩:=h2.tuple R.sub
  refine .inr (.inl ⟨a,b,us,ws,rfl,rfl,e1,e2,by rw[d1.length,d2.length];exact w.1,λz=>?_,λ_ z=>?_,λ_ _ p hp=>?_⟩)
  ·subst z
   have:=d1.nil_of
   subst this
   exact k _ H F (.fz _) (Sub.refl _) R (Da.tup f2 d2) w.2
  ·subst z
   have:=d2.nil_of
   subst this
   refine k _ H F (.fz _) (Sub.refl _) R (Da.tup f1 d1) ?_
   have:=w.2
   rw[K1]at this
   exact this
  ·obtain⟨sb,R',dd⟩:=R.newTup hp (d1.append d2)
   exact k _ _ _ (.fz _) sb R' dd w.2
 case list.list xs ys =>
  obtain⟨a,us,rfl,e1,d1⟩:=h1.list R.sub
  obtain⟨b,ws,rfl,e2,d2⟩:=h2.list R.sub
  refine .inr (.inr ⟨a,b,us,ws,rfl,rfl,e1,e2,by rw[d1.length,d2.length];exact w.1,λp hp=>?_⟩)
  obtain⟨R',r'⟩:=R.newOw (o:=.lst (us++ws)) (d:=.list (xs++ys)) hp (d1.append d2)
  exact k _ _ F _ (Sub.refl _) R' r' w.2
noncomputable def fMul:D->D->(Sl->Prop)->Prop
 | .int i,.int j,Q=>CMul i j/\Q (.fz (.int (i * j)))
 | .list xs,.int k,Q=>-(2 ^ 63)<=k/\k < 2 ^ 63/\xs.length * k.toNat<=sizeLine/\Q (.ow (.list (U1 k.toNat xs).flatten))
 | _,_,_=>False
theorem ok_mul{K:Fg}:OpOk K (r2L (rAny (rI CMul λi j=>.int (i * j)) rRep)) (o2 fMul):=ok2 λG F σ H ρ x y d e Q Qd R h1 h2 w k=>by
 cases d<;>first|exact w.elim|(cases e<;>first|exact w.elim|skip)
 case int.int i j =>
  cases h1.int
  cases h2.int
  exact .inl ⟨i,j,rfl,rfl,w.1,k _ H F (.fz _) (Sub.refl _) R (Da.int _) w.2⟩
 case list.int xs j =>
  cases h2.int
  obtain⟨a,us,rfl,e1,d1⟩:=h1.list R.sub
  refine .inr ⟨a,j,us,rfl,rfl,e1,w.1,w.2.1,by rw[d1.length];exact w.2.2.1,λp hp=>?_⟩
  obtain⟨R',r'⟩:=R.newOw (o:=.lst (U1 j.toNat us).flatten) (d:=.list (U1 j.toNat xs).flatten) hp (d1.rep _)
  exact k _ _ F _ (Sub.refl _) R' r' w.2.2.2
noncomputable def fLen:D->(Sl->Prop)->Prop
 | .list ds,Q=>Q (.fz (.int ds.length))
 | .tuple ds,Q=>Q (.fz (.int ds.length))
 | .dict [(.none,.list ds)],Q=>∃ns:List Int,ds=ns.map j0/\Q (.fz (.int ns.length))
 | _,_=>False
theorem ok_len{K:Fg}:OpOk K (rLen K) (o1 fLen):=ok1 λG F σ H ρ x d Q Qd R h1 w k=>by
 cases d<;>first|exact w.elim|skip
 case list ds =>
  obtain⟨a,us,rfl,e1,d1⟩:=h1.list R.sub
  exact ⟨a,us,rfl,.inl (SqL.of e1),k _ H F (.fz _) (Sub.refl _) R (Da.int _) (by rw[d1.length];exact w)⟩
 case tuple ds =>
  obtain⟨a,us,rfl,_,e1,d1⟩:=h1.tuple R.sub
  exact ⟨a,us,rfl,.inr (SqT.of e1),k _ H F (.fz _) (Sub.refl _) R (Da.int _) (by rw[d1.length];exact w)⟩
 case dict es =>
  rcases es with _|⟨⟨c1,c2⟩,_|⟨c3,c4⟩⟩
  ·exact w.elim
  ·cases c1<;>first|exact w.elim|skip
   cases c2<;>first|exact w.elim|skip
   obtain⟨ns,rfl,w⟩:=w
   obtain⟨a,rfl,q⟩:=h1.scr R.sub
   exact ⟨a,_,rfl,.inl q,k _ H F (.fz _) (Sub.refl _) R (Da.int _) (by rw[i0];exact w)⟩
  ·cases c1<;>first|exact w.elim|(cases c2<;>exact w.elim)
noncomputable def fIx:D->D->(Sl->Prop)->Prop
 | .list ds,.int i,Q=>∃d,atI ds i=some d/\Q (.fz d)
 | .tuple ds,.int i,Q=>∃d,atI ds i=some d/\Q (.fz d)
 | .dict [(.none,.list ds)],.int i,Q=>∃(ns:List Int) (n:Int),ds=ns.map j0/\atI ns i=some n/\Q (.fz (.int n))
 | _,_,_=>False
theorem DaAll.at{K:Fg}{F:Hp}{xs:List V}{ds:List D}{i:Int}{d:D}(h:DaAll K F xs ds)(e:atI ds i=some d):∃v,atI xs i=some v/\Da K F v d:=by
 unfold atI at e ⊢
 rw[h.length]
 cases q:ixN ds.length i with
 | none=>rw[q]at e;cases e
 | some j=>rw[q]at e;exact h.get e
theorem atI_map{α β:Type}(f:α->β){l:List α}{i:Int}{x:α}(h:atI l i=some x):atI (l.map f) i=some (f x):=by
 unfold atI at h ⊢
 rw[i0]
 cases q:ixN l.length i with
 | none=>rw[q]at h;cases h
 | some j=>rw[q]at h;simp at h ⊢;exact ⟨x,h,rfl⟩
theorem ok_ix{K:Fg}:OpOk K (r2L (rAny (rIxL K) (rIxT K))) (o2 fIx):=ok2 λG F σ H ρ x y d e Q Qd R h1 h2 w k=>by
 cases d<;>first|exact w.elim|skip
 case list ds =>
  cases e<;>first|exact w.elim|skip
  rename_i i
  obtain⟨d,w1,w2⟩:=w
  cases h2.int
  obtain⟨a,us,rfl,e1,d1⟩:=h1.list R.sub
  obtain⟨v,g1,g2⟩:=d1.at w1
  exact .inl ⟨a,us,i,v,rfl,rfl,SqL.of e1,g1,k _ H F (.fz _) (Sub.refl _) R g2 w2⟩
 case tuple ds =>
  cases e<;>first|exact w.elim|skip
  rename_i i
  obtain⟨d,w1,w2⟩:=w
  cases h2.int
  obtain⟨a,us,rfl,_,e1,d1⟩:=h1.tuple R.sub
  obtain⟨v,g1,g2⟩:=d1.at w1
  exact .inr ⟨a,us,i,v,rfl,rfl,SqT.of e1,g1,k _ H F (.fz _) (Sub.refl _) R g2 w2⟩
 case dict es =>
  rcases es with _|⟨⟨c1,c2⟩,_|⟨c3,c4⟩⟩
  ·exact w.elim
  ·cases c1<;>first|exact w.elim|skip
   cases c2<;>first|exact w.elim|skip
   cases e<;>first|exact w.elim|skip
   rename_i i
   obtain⟨ns,n,e,w1,w2⟩:=w
   subst e
   cases h2.int
   obtain⟨a,rfl,q⟩:=h1.scr R.sub
   exact .inl ⟨a,_,i,_,rfl,rfl,q,atI_map V.int w1,k _ H F (.fz _) (Sub.refl _) R (Da.int _) w2⟩
  ·cases c1<;>first|exact w.elim|(cases c2<;>exact w.elim)
noncomputable def fList:D->(Sl->Prop)->Prop
 | .list ds,Q=>Q (.ow (.list ds))
 | .tuple ds,Q=>Q (.ow (.list ds))
 | _,_=>False
noncomputable def fTuple:D->(Sl->Prop)->Prop
 | .list ds,Q=>Q (.fz (.tuple ds))
 | .tuple ds,Q=>Q (.fz (.tuple ds))
 | _,_=>False
theorem ok_tuple{K:Fg}:OpOk K (rTupleOf K) (o1 fTuple):=ok1 λG F σ H ρ x d Q Qd R h1 w k=>by
 match d,h1,w with
 | .list ds,h1,w =>
  obtain⟨a,us,rfl,e1,d1⟩:=h1.list R.sub
  refine ⟨a,us,rfl,.inl ⟨SqL.of e1,λp hp=>?_⟩⟩
  obtain⟨sb,R',dd⟩:=R.newTup hp d1
  exact k _ _ _ (.fz _) sb R' dd w
 | .tuple ds,h1,w =>
  obtain⟨a,us,rfl,f1,e1,d1⟩:=h1.tuple R.sub
  exact ⟨a,us,rfl,.inr ⟨SqT.of e1,k _ H F (.fz _) (Sub.refl _) R (Da.tup f1 d1) w⟩⟩
noncomputable def fAbs:D->(Sl->Prop)->Prop
 | .int i,Q=>Q (.fz (.int (if i < 0 then -i else i)))
 | _,_=>False
theorem ok_abs{K:Fg}:OpOk K (λxs H Q=>∃i,xs=[V.int i]/\Q (V.int (if i < 0 then -i else i)) H) (o1 fAbs):=ok1 λG F σ H ρ x d Q Qd R h1 w k=>by
 match d,h1,w with
 | .int i,h1,w=>cases h1.int;exact ⟨i,rfl,k _ H F (.fz _) (Sub.refl _) R (Da.int _) w⟩
theorem ok_2I{K:Fg}{g:Int->Int->Int}:OpOk K (λxs H Q=>∃i j,xs=[V.int i,V.int j]/\Q (V.int (g i j)) H) (o2 (fI0 λi j=>.int (g i j))):=by
 intro G F σ H ρ vs ds Q Qd R a w k
 match ds,a,w with
 | [d,e],a,w =>
  obtain⟨v,u,rfl,h1,h2⟩:=a.two
  have w:fI0 (λi j=>.int (g i j)) d e Qd:=w
  unfold fI0 at w
  split at w
  rotate_left
  ·exact w.elim
  rename_i i j w
  cases h1.int
  cases h2.int
  exact ⟨i,j,rfl,k _ H F (.fz _) (Sub.refl _) R (Da.int _) w⟩
noncomputable def fInt:D->(Sl->Prop)->Prop
 | .int i,Q=>Q (.fz (.int i))
 | .bool b,Q=>Q (.fz (.int (if b then 1 else 0)))
 | _,_=>False
theorem ok_int{K:Fg}:OpOk K (λxs H Q=>(∃i,xs=[V.int i]/\Q (V.int i) H)\/∃k,xs=[V.bl k]/\Q (V.int (if k then 1 else 0)) H) (o1 fInt):=ok1 λG F σ H ρ x d Q Qd R h1 w k=>by
 match d,h1,w with
 | .int i,h1,w=>cases h1.int;exact .inl ⟨i,rfl,k _ H F (.fz _) (Sub.refl _) R (Da.int _) w⟩
 | .bool b,h1,w=>cases h1.bool;exact .inr ⟨b,rfl,k _ H F (.fz _) (Sub.refl _) R (Da.int _) w⟩
noncomputable def dOpF(as:List AD)(f:List D->(Sl->Prop)->Prop):TD:=λρ Q=>dArgs as ρ λxs ρ1=>match lentAny ρ1 xs with
 | false=>looksQ ρ1 xs λds=>f ds λr=>Q r ρ1
 | true=>False
noncomputable def fTupD(ds:List D)(Q:Sl->Prop):Prop:=Q (.fz (.tuple ds))
noncomputable def fLstD(ds:List D)(Q:Sl->Prop):Prop:=Q (.ow (.list ds))
theorem le_size{n:Nat}(h:n<=1000):n<=sizeLine:=X0 h (by decide)
theorem l_tup{K:Fg}{as:List AD}(hl:as.length<=1000){σ:St}{H:Hp}{Q:VK}(h:lift K (dOpF as fTupD) σ H Q):tTup (tArgs (as.map (argT K))) σ H Q:=by
 obtain⟨G,F,ρ,Qd,R,w,k⟩:=h
 refine args_okL R w λvs H' F' xs ρ' sb R' o hn q=>?_
 split at q
 ·rename_i e
  obtain⟨ds,da,q⟩:=noLent_looks R' e o q
  refine ⟨le_size (by omega),λp hp=>?_⟩
  obtain⟨s2,R2,dd⟩:=R'.newTup hp da
  exact k _ _ _ (.fz _) _ (sb.trans s2) R2 dd q
 ·exact q.elim
theorem l_lst{K:Fg}{as:List AD}(hl:as.length<=1000){σ:St}{H:Hp}{Q:VK}(h:lift K (dOpF as fLstD) σ H Q):tLst (tArgs (as.map (argT K))) σ H Q:=by
 obtain⟨G,F,ρ,Qd,R,w,k⟩:=h
 refine args_okL R w λvs H' F' xs ρ' sb R' o hn q=>?_
 split at q
 ·rename_i e
  obtain⟨ds,da,q⟩:=noLent_looks R' e o q
  refine ⟨le_size (by omega),λp hp=>?_⟩
  obtain⟨R2,r2⟩:=R'.newOw (o:=.lst vs) (d:=.list ds) hp da
  exact k _ _ _ _ _ sb R2 r2 q
 ·exact q.elim
noncomputable def dMeth(i:Nat)(as:List AD)(f:List D->List D->(D->D->Prop)->Prop):TD:=λρ Q=>match ρ[i]? with
 | some (some s0)=>match s0.d,isOw s0 with
  | .list _,true=>dArgs as ρ λxs ρ1=>match ρ1[i]?,lentAny ρ1 xs with
   | some (some s),false=>match s.d,isOw s with
    | .list es,true=>looksQ ρ1 xs λds=>f es ds λd' r=>Q (.fz r) (ρ1.set i (some (s.put d')))
    | _,_=>False
   | _,_=>False
  | _,_=>False
 | _=>False
noncomputable def MOk(K:Fg)(r:V->List V->Hp->VK->Prop)(f:List D->List D->(D->D->Prop)->Prop):Prop :=
 ∀(F H:Hp) (a:Addr) (xs:List V) (es:List D) (vs:List V) (ds:List D) (Q:VK) (k:D->D->Prop),Sub F H->H a=some (.lst xs)->DaAll K F xs es->DaAll K F vs ds->f es ds k ->
  (∀v o' d' res,Own1 K F o' d'->Da K F v res->k d' res->Q v (upd H a o'))->r (.ref a) vs H Q
theorem l_meth{K:Fg}{i:Nat}{as:List AD}{r:V->List V->Hp->VK->Prop}{f:List D->List D->(D->D->Prop)->Prop}(ok:MOk K r f){σ:St}{H:Hp}{Q:VK}(h:lift K (dMeth i as f) σ H Q) :
  ∃a xs,σ[i]?=some (some (V.ref a))/\SqL K H a xs/\tArgs (as.map (argT K)) σ H λvs H2=>r (.ref a) vs H2 Q:=by
 obtain⟨G,F,ρ,Qd,R,w,k⟩:=h
 unfold dMeth at w
 split at w
 ·rename_i s0 e0
  split at w
  ·rename_i es0 p1 p2
   obtain⟨a,o,g1,g2,g3,g4⟩:=R.ow i s0 e0 p2
   have gl:∃xs,H a=some (.lst xs):=by
    rw[p1]at g4
    cases o<;>first|exact g4.elim|exact ⟨_,g3⟩
   obtain⟨xs0,gl⟩:=gl
   refine ⟨a,xs0,g1,SqL.of gl,args_ok R w λvs H1 F1 xs ρ1 s1 R1 o1 w1=>?_⟩
   split at w1
   ·rename_i s e en
    split at w1
    ·rename_i es q1 q2
     obtain⟨ds,da,w1⟩:=noLent_looks R1 en o1 w1
     obtain⟨a',o',h1,h2,h3,h4⟩:=R1.ow i s e q2
     rw[g1]at h1;cases h1
     rw[q1]at h4
     have hl:∃us,o'=.lst us/\DaAll K F1 us es:=by cases o'<;>first|exact h4.elim|exact ⟨_,rfl,h4⟩
     obtain⟨us,rfl,h4⟩:=hl
     refine ok F1 H1 a us es vs ds Q _ R1.sub h3 h4 da w1 λv o2 d2 res ho hv hk=>?_
     have R2:=R1.change (o':=o2) (d':=d2) e q2 g1 ho
     exact k v _ F1 (.fz res) _ s1 R2 hv hk
    ·exact w1.elim
   ·exact w1.elim
  ·exact w.elim
 ·exact w.elim
noncomputable def fAppend:List D->List D->(D->D->Prop)->Prop
 | es,[x],k=>es.length < sizeLine/\k (.list (es++[x])) .none
 | _,_,_=>False
theorem ok_append{K:Fg}:MOk K rAppend fAppend:=by
 intro F H a xs es vs ds Q k s e d1 d2 w q
 match ds,d2,w with
 | [x],.cons h .nil,w=>exact ⟨a,xs,_,rfl,rfl,e,by rw[d1.length];exact w.1,q _ (.lst (xs++[_])) (.list (es++[x])) _ (d1.append (.cons h .nil)) .non w.2⟩
noncomputable def fExtend:List D->List D->(D->D->Prop)->Prop
 | es,[.list ys],k=>es.length+ys.length<=sizeLine/\k (.list (es++ys)) .none
 | _,_,_=>False
theorem ok_extend{K:Fg}:MOk K rExtend fExtend:=by
 intro F H a xs es vs ds Q k s e d1 d2 w q
 match ds,d2,w with
 | [.list ys],.cons h .nil,w =>
  cases h with
  | lst e2 t=>exact ⟨a,_,xs,_,rfl,rfl,e,s _ _ e2,by rw[d1.length,t.length];exact w.1,q _ (.lst (xs++_)) (.list (es++ys)) _ (d1.append t) .non w.2⟩
noncomputable def fPop:List D->List D->(D->D->Prop)->Prop
 | es,[],k=>∃d,es[es.length - 1]?=some d/\k (.list es.dropLast) d
 | _,_,_=>False
theorem ok_pop{K:Fg}:MOk K rPop fPop:=by
 intro F H a xs es vs ds Q k s e d1 d2 w q
 match ds,d2,w with
 | [],.nil,⟨d,w1,w2⟩ =>
  obtain⟨v,h1,h2⟩:=d1.get w1
  exact ⟨a,xs,v,rfl,rfl,e,by rw[d1.length];exact h1,q v (.lst xs.dropLast) (.list es.dropLast) d d1.dropLast h2 w2⟩
noncomputable def fInsert:List D->List D->(D->D->Prop)->Prop
 | es,[.int i,x],k=>es.length < sizeLine/\0<=i/\i<=es.length/\k (.list (es.take i.toNat++x :: es.drop i.toNat)) .none
 | _,_,_=>False
noncomputable def dSetIx(j:Nat)(ai:AD)(te:TD):TDS:=λE ρ=>te ρ λr ρ1=>match ρ1[j]? with
 | some (some _)=>dArgs [ai] ρ1 λxs ρ2=>looksQ ρ2 xs λds=>match ds,ρ2[j]? with
  | [.int k],some (some s)=>match s.d,isOw s with
   | .list es,true=>∃n,ixN es.length k=some n/\E.nx (ρ2.set j (some (s.put (.list (es.set n r.d)))))
   | _,_=>False
  | _,_=>False
 | _=>False
theorem l_setIx{K:Fg}{j:Nat}{ai:AD}{te:TD}{σ:St}{H:Hp}{E:Ends}(h:liftS K (dSetIx j ai te) E σ H):tAsg (lift K te) (gSub (tVar j) (argT K ai) rSetL) E σ H:=by
 obtain⟨G,F,ρ,D,R,w,n,r,b,c⟩:=h
 refine ⟨G,F,ρ,_,R,w,λv H1 F1 x ρ1 s1 R1 r1 w1=>?_⟩
 obtain⟨F2,s2,R2,d2⟩:=r1.frz R1
 split at w1
 ·rename_i s0 e0
  obtain⟨u,eu⟩:=R2.bound e0
  refine ⟨u,eu,arg1 (P:=λi H2=>rSetL u i v H2 λH3=>E.nx σ H3) (args_ok R2 w1 λvs H3 F3 xs ρ3 s3 R3 o3 w3=>?_)⟩
  obtain⟨ds,ha,w3⟩:=looks_ok R3 o3 w3
  split at w3
  ·rename_i k s e
   obtain⟨iv,rfl,hi⟩:=ha.one
   cases hi.int
   split at w3
   ·rename_i es p1 p2
    obtain⟨m,w4,w5⟩:=w3
    obtain⟨a,o,g1,g2,g3,g4⟩:=R3.ow j s e p2
    rw[eu]at g1;cases g1
    rw[p1]at g4
    have hl:∃us,o=.lst us/\DaAll K F3 us es:=by cases o<;>first|exact g4.elim|exact ⟨_,rfl,g4⟩
    obtain⟨us,rfl,g4⟩:=hl
    refine ⟨_,rfl,a,us,k,m,rfl,rfl,g3,by rw[g4.length];exact w4,?_⟩
    have R4:=R3.change (o':=.lst (us.set m v)) (d':=.list (es.set m x.d)) e p2 eu (g4.set (d2.mono s3) m)
    exact n σ _ F3 _ (s1.trans (s2.trans s3)) R4 w5
   ·exact w3.elim
  ·exact w3.elim
 ·exact w1.elim
noncomputable def iSeq(K:Fg)(tl:TE):TI:=λσ H R=>tl σ H λx H1=>∃a,x=.ref a/\(((∃xs,SqL K H1 a xs)/\R (Itl K a) H1)\/((∃xs,SqT K H1 a xs)/\R (Itt K a) H1))
noncomputable def dISeq(a:TD):TDI:=λρ Q=>a ρ λr ρ1=>match r.d with
 | .list ds=>Q ds ρ1
 | .tuple ds=>Q ds ρ1
 | _=>False
theorem walks_list{K:Fg}{F:Hp}{a:Addr}{xs:List V}{ds:List D}(e:F a=some (.lst xs))(h:DaAll K F xs ds):Walks K (Itl K a) F ds:=λi H F1 s1 s2=>by
 have q:=SqL.of (K:=K) (s2 _ _ (s1 _ _ e))
 refine ⟨λd ed=>?_,λhl=>⟨xs,q,by rw[h.length];omega⟩⟩
 obtain⟨v,h1,h2⟩:=h.get ed
 refine ⟨⟨xs,v,q,h1⟩,λx H' ⟨e1,e2⟩=>?_⟩
 subst e1
 have:=e2 xs q
 rw[h1]at this;cases this
 exact ⟨F1,Sub.refl _,λ_ _ z=>.inl z,s2,Sub.refl _,h2.mono s1⟩
theorem walks_tup{K:Fg}{F:Hp}{a:Addr}{xs:List V}{ds:List D}(e:F a=some (.tup xs))(h:DaAll K F xs ds):Walks K (Itt K a) F ds:=λi H F1 s1 s2=>by
 have q:=SqT.of (K:=K) (s2 _ _ (s1 _ _ e))
 refine ⟨λd ed=>?_,λhl=>⟨xs,q,by rw[h.length];omega⟩⟩
 obtain⟨v,h1,h2⟩:=h.get ed
 refine ⟨⟨xs,v,q,h1⟩,λx H' ⟨e1,e2⟩=>?_⟩
 subst e1
 have:=e2 xs q
 rw[h1]at this;cases this
 exact ⟨F1,Sub.refl _,λ_ _ z=>.inl z,s2,Sub.refl _,h2.mono s1⟩
theorem l_iseq{K:Fg}{a:TD}{σ:St}{H:Hp}{R:It->Hp->Prop}(h:liftI K (dISeq a) σ H R):iSeq K (lift K a) σ H R:=by
 obtain⟨G,F,ρ,Qd,Rl,w,k⟩:=h
 refine ⟨G,F,ρ,_,Rl,w,λv H1 F1 r ρ1 s1 R1 r1 w1=>?_⟩
 obtain⟨F2,s2,R2,d2⟩:=r1.frz R1
 split at w1
 ·rename_i ds e
  rw[e]at d2
  cases d2 with
  | lst q t=>exact ⟨_,rfl,.inl ⟨⟨_,SqL.of (R2.sub _ _ q)⟩,k _ H1 F2 ds ρ1 (s1.trans s2) R2 (walks_list q t) w1⟩⟩
 ·rename_i ds e
  rw[e]at d2
  cases d2 with
  | tup q t=>exact ⟨_,rfl,.inr ⟨⟨_,SqT.of (R2.sub _ _ q)⟩,k _ H1 F2 ds ρ1 (s1.trans s2) R2 (walks_tup q t) w1⟩⟩
 ·exact w1.elim
noncomputable def rangeD(lo:Int)(n:Nat):List D:=(U2 n).map λ(i:Nat)=>j0 (lo+i)
theorem walks_range{K:Fg}{F:Hp}{lo:Int}{n:Nat}:Walks K (Itr lo n) F (rangeD lo n):=λi H F1 s1 s2=>by
 have hl:(rangeD lo n).length=n:=by simp[rangeD]
 refine ⟨λd ed=>?_,λh=>by rw[hl]at h;exact Nat.le_of_eq h⟩
 have hi:i < n:=by have:=lt_of_get ed;rw[hl]at this;exact this
 have e:(rangeD lo n)[i]?=some (.int (lo+i)):=by simp[rangeD,hi]
 rw[e]at ed;cases ed
 refine ⟨hi,λx H' ⟨e1,e2⟩=>?_⟩
 subst e1 e2
 exact ⟨F1,Sub.refl _,λ_ _ z=>.inl z,s2,Sub.refl _,.int _⟩
noncomputable def dIRng1(a:AD):TDI:=λρ Q=>dArgs [a] ρ λxs ρ1=>looksQ ρ1 xs λds=>match ds with
 | [.int j]=>-(2 ^ 62)<=j/\j < 2 ^ 62/\Q (rangeD 0 j.toNat) ρ1
 | _=>False
theorem l_rng1{K:Fg}{a:AD}{σ:St}{H:Hp}{R:It->Hp->Prop}(h:liftI K (dIRng1 a) σ H R):iRng1 (tArgs ([a].map (argT K))) σ H R:=by
 obtain⟨G,F,ρ,Qd,Rl,w,k⟩:=h
 refine args_ok Rl w λvs H' F' xs ρ' sb R' o w1=>?_
 obtain⟨ds,ha,w1⟩:=looks_ok R' o w1
 split at w1
 ·rename_i j
  obtain⟨v,rfl,h1⟩:=ha.one
  cases h1.int
  exact ⟨j,rfl,w1.1,w1.2.1,k _ H' F' _ ρ' sb R' walks_range w1.2.2⟩
 ·exact w1.elim
noncomputable def SeqF(K:Fg)(F:Hp)(v:V)(ds:List D):Prop:=∃k a xs,v=.ref a/\(F a=some (match k with|Kd.l=>HO.lst xs|Kd.t=>HO.tup xs))/\DaAll K F xs ds
theorem sq_of{K:Fg}{H:Hp}{a:Addr}{xs:List V}{k:Kd}(e:H a=some (match k with|Kd.l=>HO.lst xs|Kd.t=>HO.tup xs)):Sq k K H a xs:=by
 cases k with
 | l=>exact SqL.of e
 | t=>exact SqT.of e
noncomputable def seqD:D->Option (List D)
 | .list ds=>some ds
 | .tuple ds=>some ds
 | _=>none
theorem seqF_of{K:Fg}{F:Hp}{v:V}{d:D}{ds:List D}(h:Da K F v d)(e:seqD d=some ds):∃k a xs,v=.ref a/\(F a=some (match k with|Kd.l=>HO.lst xs|Kd.t=>HO.tup xs))/\DaAll K F xs ds:=by
 cases h with
 | lst q t=>cases e;exact ⟨.l,_,_,rfl,q,t⟩
 | tup q t=>cases e;exact ⟨.t,_,_,rfl,q,t⟩
 | non=>cases e
 | bl=>cases e
 | int=>cases e
 | str=>cases e
 | dk _ _=>cases e
 | dt _ _=>cases e
 | scr _=>cases e
 | exc _=>cases e
 | opq _=>cases e
 | pd _ _=>cases e
 | bd _ _=>cases e
noncomputable def zipD(ds es:List D):List D:=(ds.zip es).map λp=>S0 [p.1,p.2]
noncomputable def zip3D(ds es fs:List D):List D:=(ds.zip (es.zip fs)).map λp=>S0 [p.1,p.2.1,p.2.2]
noncomputable def dIZip2(a b:AD):TDI:=λρ Q=>dArgs [a,b] ρ λxs ρ1=>match lentAny ρ1 xs with
 | false=>looksQ ρ1 xs λds=>match ds with
  | [x,y]=>match seqD x,seqD y with
   | some us,some ws=>Q (zipD us ws) ρ1
   | _,_=>False
  | _=>False
 | true=>False
theorem walks_zip2{K:Fg}{F:Hp}{a b:Addr}{k1 k2:Kd}{xs ys:List V}{ds es:List D}(e1:F a=some (match k1 with|Kd.l=>HO.lst xs|Kd.t=>HO.tup xs))(h1:DaAll K F xs ds)
  (e2:F b=some (match k2 with|Kd.l=>HO.lst ys|Kd.t=>HO.tup ys)) (h2:DaAll K F ys es):Walks K (Itz2 K k1 k2 a b) F (zipD ds es):=λi H F1 s1 s2=>by
 have q1:Sq k1 K H a xs:=sq_of (s2 _ _ (s1 _ _ e1))
 have q2:Sq k2 K H b ys:=sq_of (s2 _ _ (s1 _ _ e2))
 refine ⟨λd ed=>?_,λhl=>⟨xs,ys,q1,q2,?_⟩⟩
 ·simp only[zipD,J1,Z5]at ed
  obtain⟨⟨x,y⟩,ez,rfl⟩:=ed
  rw[j5]at ez
  obtain⟨v,g1,g2⟩:=h1.get ez.1
  obtain⟨u,g3,g4⟩:=h2.get ez.2
  refine ⟨⟨xs,v,ys,u,q1,q2,g1,g3⟩,λz H' ⟨T,x1,x2,hT,ex,eH,f1,f2⟩=>?_⟩
  subst ex eH
  have f1:=f1 xs q1
  have f2:=f2 ys q2
  rw[g1]at f1;cases f1
  rw[g3]at f2;cases f2
  have fT:F1 T=none:=by
   cases z:F1 T with
   | none=>rfl
   | some o=>rw[s2 _ _ z]at hT;cases hT
  refine ⟨upd F1 T (.tup [v,u]),Sub.new fT,λc o ec=>?_,λc o ec=>?_,Sub.new hT,.tup upd_same (.cons (g2.mono (s1.trans (Sub.new fT))) (.cons (g4.mono (s1.trans (Sub.new fT))) .nil))⟩
  ·by_cases z:c=T
   ·subst z;exact .inr hT
   ·rw[upd_ne z]at ec;exact .inl ec
  ·by_cases z:c=T
   ·subst z;rw[upd_same]at ec ⊢;exact ec
   ·rw[upd_ne z]at ec ⊢;exact s2 _ _ ec
 ·simp only[zipD,i0,Y1]at hl
  rw[h1.length,h2.length]
  omega
theorem l_zip2{K:Fg}{a b:AD}{σ:St}{H:Hp}{R:It->Hp->Prop}(h:liftI K (dIZip2 a b) σ H R):iZip2 K (tArgs ([a,b].map (argT K))) σ H R:=by
 obtain⟨G,F,ρ,Qd,Rl,w,k⟩:=h
 refine args_ok Rl w λvs H' F' xs ρ' sb R' o w1=>?_
 split at w1
 ·rename_i e
  obtain⟨ds,da,w1⟩:=noLent_looks R' e o w1
  split at w1
  ·rename_i x y
   split at w1
   ·rename_i us ws p1 p2
    cases da with
    | cons d1 t =>
     cases t with
     | cons d2 t =>
      cases t
      obtain⟨k1,a1,us',rfl,e1,g1⟩:=seqF_of d1 p1
      obtain⟨k2,a2,ws',rfl,e2,g2⟩:=seqF_of d2 p2
      exact ⟨k1,a1,us',k2,a2,ws',rfl,sq_of (R'.sub _ _ e1),sq_of (R'.sub _ _ e2),k _ H' F' _ ρ' sb R' (walks_zip2 e1 g1 e2 g2) w1⟩
   ·exact w1.elim
  ·exact w1.elim
 ·exact w1.elim
noncomputable def dIZip3(a b c:AD):TDI:=λρ Q=>dArgs [a,b,c] ρ λxs ρ1=>match lentAny ρ1 xs with
 | false=>looksQ ρ1 xs λds=>match ds with
  | [x,y,z]=>match seqD x,seqD y,seqD z with
   | some us,some ws,some ts=>Q (zip3D us ws ts) ρ1
   | _,_,_=>False
  | _=>False
 | true=>False
theorem walks_zip3{K:Fg}{F:Hp}{a b c:Addr}{k1 k2 k3:Kd}{xs ys zs:List V}{ds es fs:List D}(e1:F a=some (match k1 with|Kd.l=>HO.lst xs|Kd.t=>HO.tup xs))(h1:DaAll K F xs ds)
  (e2:F b=some (match k2 with|Kd.l=>HO.lst ys|Kd.t=>HO.tup ys)) (h2:DaAll K F ys es) (e3:F c=some (match k3 with|Kd.l=>HO.lst zs|Kd.t=>HO.tup zs)) (h3:DaAll K F zs fs):Walks K (Itz3 K k1 k2 k3 a b c) F (zip3D ds es fs):=λi H F1 s1 s2=>by
 have q1:Sq k1 K H a xs:=sq_of (s2 _ _ (s1 _ _ e1))
 have q2:Sq k2 K H b ys:=sq_of (s2 _ _ (s1 _ _ e2))
 have q3:Sq k3 K H c zs:=sq_of (s2 _ _ (s1 _ _ e3))
 refine ⟨λd ed=>?_,λhl=>⟨xs,ys,zs,q1,q2,q3,?_⟩⟩
 ·simp only[zip3D,J1,Z5]at ed
  obtain⟨⟨x,y,t⟩,ez,rfl⟩:=ed
  rw[j5,j5]at ez
  obtain⟨v,g1,g2⟩:=h1.get ez.1
  obtain⟨u,g3,g4⟩:=h2.get ez.2.1
  obtain⟨w,g5,g6⟩:=h3.get ez.2.2
  refine ⟨⟨xs,v,ys,u,zs,w,q1,q2,q3,g1,g3,g5⟩,λz H' ⟨T,x1,x2,x3,hT,ex,eH,f1,f2,f3⟩=>?_⟩
  subst ex eH
  have f1:=f1 xs q1
  have f2:=f2 ys q2
  have f3:=f3 zs q3
  rw[g1]at f1;cases f1
  rw[g3]at f2;cases f2
  rw[g5]at f3;cases f3
  have fT:F1 T=none:=by
   cases z:F1 T with
   | none=>rfl
   | some o=>rw[s2 _ _ z]at hT;cases hT
  have sn:=s1.trans (Sub.new (o:=.tup [v,u,w]) fT)
  refine ⟨upd F1 T (.tup [v,u,w]),Sub.new fT,λc o ec=>?_,λc o ec=>?_,Sub.new hT,.tup upd_same (.cons (g2.mono sn) (.cons (g4.mono sn) (.cons (g6.mono sn) .nil)))⟩
  ·by_cases z:c=T
   ·subst z;exact .inr hT
   ·rw[upd_ne z]at ec;exact .inl ec
  ·by_cases z:c=T
   ·subst z;rw[upd_same]at ec ⊢;exact ec
   ·rw[upd_ne z]at ec ⊢;exact s2 _ _ ec
 ·simp only[zip3D,i0,Y1]at hl
  rw[h1.length,h2.length,h3.length]
  omega
theorem l_zip3{K:Fg}{a b c:AD}{σ:St}{H:Hp}{R:It->Hp->Prop}(h:liftI K (dIZip3 a b c) σ H R):iZip3 K (tArgs ([a,b,c].map (argT K))) σ H R:=by
 obtain⟨G,F,ρ,Qd,Rl,w,k⟩:=h
 refine args_ok Rl w λvs H' F' xs ρ' sb R' o w1=>?_
 split at w1
 ·rename_i e
  obtain⟨ds,da,w1⟩:=noLent_looks R' e o w1
  split at w1
  ·rename_i x y z
   split at w1
   ·rename_i us ws ts p1 p2 p3
    cases da with
    | cons d1 t =>
     cases t with
     | cons d2 t =>
      cases t with
      | cons d3 t =>
       cases t
       obtain⟨k1,a1,us',rfl,e1,g1⟩:=seqF_of d1 p1
       obtain⟨k2,a2,ws',rfl,e2,g2⟩:=seqF_of d2 p2
       obtain⟨k3,a3,ts',rfl,e3,g3⟩:=seqF_of d3 p3
       exact ⟨k1,a1,us',k2,a2,ws',k3,a3,ts',rfl,sq_of (R'.sub _ _ e1),sq_of (R'.sub _ _ e2),sq_of (R'.sub _ _ e3),k _ H' F' _ ρ' sb R' (walks_zip3 e1 g1 e2 g2 e3 g3) w1⟩
   ·exact w1.elim
  ·exact w1.elim
 ·exact w1.elim
section
variable {K:Fg}{F H:Hp}
theorem DaAll.keys:∀{xs:List V}{ks:List Key},DaAll K F xs (ks.map keyD)->xs=ks.map kV
 | [],[],_=>rfl
 | x :: xs,k :: ks,.cons h t=>by
  have e:x=kV k:=by cases k<;>(cases h;rfl)
  rw[e,DaAll.keys t];rfl
end
open PySem PySem.Spec PyProof.Rows L2
noncomputable def notStar:Expr->Bool
 | .Starred _ _=>false
 | _=>true
theorem starEach_of{e:Expr}{es:List Expr}{env:Env}(h:notStar e=true):starEach (e :: es) env=(false,eval e env) :: starEach es env:=by
 cases e<;>first|rfl|cases h
theorem plain_of{env:Env}{pos:Pos}:∀{es:List Expr},es.all notStar=true->(backTo pos (starEach es env)).any (·.1)=false:=by
 intro es
 induction es with
 | nil=>intro _;rfl
 | cons e es ih =>
  intro h
  simp only[List.all_cons,Z3]at h
  rw[starEach_of h.1]
  have:=ih h.2
  simp[backTo]at this ⊢
  exact this
noncomputable def notSet:Expr->Bool
 | .Set _ _ _=>false
 | _=>true
theorem folded_of{e:Expr}{env:Env}(h:notSet e=true)(x:Value):foldedSetIterable e env x=pure x:=by
 cases e<;>first|rfl|cases h
noncomputable def notComp:Expr->Bool
 | .ListComp _ _ _ _=>false
 | .SetComp _ _ _ _=>false
 | .DictComp _ _ _ _ _=>false
 | _=>true
theorem swaps_of{e:Expr}{t:Option Expr}{n:Nat}{env:Env}(h:notComp e=true):swapsWith e t n env=pure false:=by
 cases e<;>first|rfl|cases h
section
variable {X:Cx}{K:Fg}
theorem peM{e:Expr}{t t':TE}(h:PE X e t)(m:∀{σ H Q},t' σ H Q->t σ H Q):PE X e t':=λpins s σ H Q I w=>h pins s σ H Q I (m w)
theorem ptM{e:Expr}{t t':TT}(h:PT X e t)(m:∀{σ H Q},t' σ H Q->t σ H Q):PT X e t':=λpins s σ H Q I w=>h pins s σ H Q I (m w)
theorem pwM{e:Expr}{t t':TT}(h:PW X e t)(m:∀{σ H Q},t' σ H Q->t σ H Q):PW X e t':=λwh pins s σ H Q I w=>h wh pins s σ H Q I (m w)
theorem psM{e:Stmt}{t t':TS}(h:PS X e t)(m:∀{D σ H},t' D σ H->t D σ H):PS X e t':=λpins s σ H D I w=>h pins s σ H D I (m w)
theorem pssM{e:List Stmt}{t t':TS}(h:PSs X e t)(m:∀{D σ H},t' D σ H->t D σ H):PSs X e t':=λpins s σ H D I w=>h pins s σ H D I (m w)
theorem pgM{e:Expr}{t t':TG}(h:PG X e t)(m:∀{v σ H Q},t' v σ H Q->t v σ H Q):PG X e t':=by
 unfold PG at h ⊢
 intros
 exact h _ _ _ _ _ _ _ (by assumption) (by assumption) (m (by assumption))
theorem piM{g e:Expr}{t t':TI}(h:PI X g e t)(m:∀{σ H R},t' σ H R->t σ H R):PI X g e t':=λpins s σ H R I w=>h pins s σ H R I (m w)
theorem pifM{es:List Expr}{t t':TT}(h:PIf X es t)(m:∀{σ H Q},t' σ H Q->t σ H Q):PIf X es t':=λpins s σ H Q I w=>h pins s σ H Q I (m w)
theorem da_cons{e:Expr}{es:List Expr}{a:AD}{as:List AD}(ha:PE X e (argT K a))(hr:PA X es (tArgs (as.map (argT K))))(hs:starEach (e :: es) X.env=(false,eval e X.env) :: starEach es X.env:=by exact starEach_of rfl):PA X (e :: es) (tArgs ((a :: as).map (argT K))):=pa_cons ha hr hs
variable {e:Expr}{a b c:AD}{as:List AD}{td te:TD}{tc td':TTD}
theorem cv_var{i:Nat}(h:PE X e (tVar i)):PE X e (lift K (dVar i)):=peM h l_var
theorem cv_c{v:V}{d:D}(hv:∀F,Da K F v d)(h:PE X e (tC v)):PE X e (lift K (dC d)):=peM h (l_c hv)
theorem cv2{r:R2}{f:D->D->(Sl->Prop)->Prop}(ok:OpOk K (r2L r) (o2 f))(h:PE X e (tOp r (argT K a) (argT K b))):PE X e (lift K (dOp [a,b] (o2 f))):=peM h λq=>arg2 (l_op ok q)
theorem cvB{r:List V->Hp->VK->Prop}{f:List D->(Sl->Prop)->Prop}(ok:OpOk K r f)(h:PE X e (tCB r (tArgs (as.map (argT K))))):PE X e (lift K (dOp as f)):=peM h λq=>l_op ok q
theorem cv_tup(hl:as.length<=1000)(h:PE X e (tTup (tArgs (as.map (argT K))))):PE X e (lift K (dOpF as fTupD)):=peM h (l_tup hl)
theorem cv_lst(hl:as.length<=1000)(h:PE X e (tLst (tArgs (as.map (argT K))))):PE X e (lift K (dOpF as fLstD)):=peM h (l_lst hl)
theorem cv_and(h:PE X e (tAndV (lift K td) (lift K te))):PE X e (lift K (dAndV td te)):=peM h l_andV
theorem cv_fn{con:Con}{E:XK}(h:PE X e (tCall (conSp K con) [] E (tArgs (as.map (argT K))))):PE X e (lift K (dCall con as)):=peM h l_call
theorem cv_fnI{con:Con}{E:XK}{i:Nat}(h:PE X e (tCall (conSp K con) [] E (tArgs ((Sum.inl i :: as).map (argT K))))):PE X e (lift K (dCallI con i as)):=peM h l_callI
theorem cv_m{i:Nat}{r:V->List V->Hp->VK->Prop}{f:List D->List D->(D->D->Prop)->Prop}(ok:MOk K r f)(h:PE X e (tBM K "list" r (tVar i) (tArgs (as.map (argT K))))):PE X e (lift K (dMeth i as f)):=peM h λq=>by
 obtain⟨a,xs,e1,sq,w⟩:=l_meth ok q
 exact ⟨_,e1,.inl ⟨rfl,xs,sq⟩,w⟩
theorem cv_m0{i:Nat}{r:V->List V->Hp->VK->Prop}{f:List D->List D->(D->D->Prop)->Prop}(ok:MOk K r f)(h:PE X e (tBM0 K "list" r (tVar i))):PE X e (lift K (dMeth i [] f)):=peM h λq=>by
 obtain⟨a,xs,e1,sq,w⟩:=l_meth ok q
 exact ⟨_,e1,.inl ⟨rfl,xs,sq⟩,w⟩
theorem ct2{r:R2}{f:D->D->(Sl->Prop)->Prop}(ok:OpOk K (r2L r) (o2 f))(h:PT X e (tTest (tOp r (argT K a) (argT K b)))):PT X e (liftT K (dTst (dOp [a,b] (o2 f)))):=ptM h λq=>l_tst (λz=>arg2 (l_op ok z)) q
theorem ct_val(h:PT X e (tB (lift K td))):PT X e (liftT K (dTst td)):=ptM h λq=>l_tst (λz=>z) q
theorem ct_not(h:PT X e (tNot (liftT K tc))):PT X e (liftT K (dNot tc)):=ptM h l_not
theorem cw_and(h:PW X e (tAnd (liftT K tc) (liftT K td'))):PW X e (liftT K (dAnd tc td')):=pwM h l_and
theorem cw_or(h:PW X e (tOr (liftT K tc) (liftT K td'))):PW X e (liftT K (dOr tc td')):=pwM h l_or
variable {st:Stmt}{sts:List Stmt}{t u:TDS}
theorem cs_next(h:PSs X sts tNext):PSs X sts (liftS K dNext):=pssM h l_next
theorem cs_seq(h:PSs X sts (tSeq (liftS K t) (liftS K u))):PSs X sts (liftS K (dSeq t u)):=pssM h l_seq
theorem cs_ret(h:PS X st (tRet (lift K td))):PS X st (liftS K (dRet td)):=psM h l_ret
theorem cs_retV{i:Nat}(h:PS X st (tRet (tVar i))):PS X st (liftS K (dRetV i)):=psM h l_retV
theorem cs_move{i j:Nat}(h:PS X st (tAsg (tVar j) (gName i))):PS X st (liftS K (dMove i j)):=psM h l_move
theorem cs_drop(h:PS X st (tDrop (lift K td))):PS X st (liftS K (dDrop td)):=psM h l_drop
theorem cs_if(h:PS X st (tIfS (liftT K tc) (liftS K t) (liftS K u))):PS X st (liftS K (dIfS tc t u)):=psM h l_ifS
theorem cs_set{i:Nat}(h:PS X st (tAsg (lift K td) (gName i))):PS X st (liftS K (dSet i td)):=psM h l_set
theorem cs_ix{j:Nat}(h:PS X st (tAsg (lift K td) (gSub (tVar j) (argT K a) rSetL))):PS X st (liftS K (dSetIx j a td)):=psM h l_setIx
theorem cs_while(h:PS X st (tWhile (liftT K tc) (liftS K t))):PS X st (liftS K (dWhile tc t)):=psM h l_while
noncomputable def dAsgG(g:TDG)(a:TD):TDS:=λE ρ=>a ρ λr ρ'=>g r.d ρ' E.nx
theorem l_asgG{g:TDG}{E:Ends}{σ:L2.St}{H:Hp}(h:liftS K (dAsgG g td) E σ H):tAsg (lift K td) (liftG K g) E σ H:=by
 obtain⟨G,F,ρ,D,R,w,n,r,b,c⟩:=h
 refine ⟨G,F,ρ,_,R,w,λv H' F' x ρ' s R' r' q=>?_⟩
 obtain⟨F2,s2,R2,d2⟩:=r'.frz R'
 exact ⟨G,F2,ρ',x.d,_,R2,d2,q,λσ3 ρ3 R3 w3=>n σ3 H' F2 ρ3 (s.trans s2) R3 w3⟩
theorem cs_asgG{g:TDG}(h:PS X st (tAsg (lift K td) (liftG K g))):PS X st (liftS K (dAsgG g td)):=psM h l_asgG
theorem cg_name{i:Nat}(h:PG X e (gName i)):PG X e (liftG K (dGN i)):=pgM h l_gn
theorem cg_tup{n:Nat}{gs:List TDG}(h:PG X e (gTup K n (gAll (gs.map (liftG K)))))(hn:gs.length=n:=by rfl):PG X e (liftG K (dGT gs)):=pgM h (l_gt hn)
theorem cgs_cons{es:List Expr}{g:TDG}{gs:List TDG}(h1:PG X e (liftG K g))(h2:PGs X es (gAll (gs.map (liftG K))))(hs:(assignEach (e :: es) X.env).map (·.2)=assign e X.env :: (assignEach es X.env).map (·.2):=by rfl):PGs X (e :: es) (gAll ((g :: gs).map (liftG K))):=pgs_cons h1 h2 hs
theorem cif_nil:PIf X [] (liftT K dYes):=pifM if_nil l_yes
variable {tg:Expr}
theorem pi_seqD{l:Expr}{tl:TE}(hK:X.K=K)(hl:PE X l tl):PI X tg l (iSeq K tl):=by
 subst hK
 intro pins s σ H R I h
 refine thn (hl pins s σ H _ I h) λv s1 ⟨x,H1,I1,r1,q1⟩=>?_
 obtain⟨a,e,q1⟩:=q1
 subst e
 cases r1
 rcases q1 with⟨⟨xs,hq⟩,q⟩|⟨⟨xs,hq⟩,q⟩
 ·obtain⟨its,rv,p,hz⟩:=I1.list hq
  refine wpAny_pyIter_list p.isList ?_
  refine ⟨s1.heap.objs.size,[s1.heap.objs.size],_,_,H1,rfl,I1.kept (t':=s1.toks) λb o e=>g0 _ e,turn_list a _,⟨_,K0 _ rfl,rfl,rfl⟩,λb hb=>?_,q⟩
  have e:b=s1.heap.objs.size:=by simpa using hb
  subst e
  exact I1.fpOk (R0 _) (I1.hok.fresh (R0 _))
 ·obtain⟨its,rv,p,hz⟩:=I1.tuple hq
  refine wpAny_pyIter_tuple (show s1.heap.IsTuple a its.toArray from p) ?_
  refine ⟨s1.heap.objs.size,[s1.heap.objs.size],_,_,H1,rfl,I1.kept (t':=s1.toks) λb o e=>g0 _ e,turn_tuple a _,⟨_,K0 _ rfl,rfl,rfl⟩,λb hb=>?_,q⟩
  have e:b=s1.heap.objs.size:=by simpa using hb
  subst e
  exact I1.fpOk (R0 _) (I1.hok.fresh (R0 _))
theorem ci_seq{l:Expr}(hK:X.K=K)(hl:PE X l (lift K td)):PI X tg l (liftI K (dISeq td)):=piM (pi_seqD hK hl) l_iseq
theorem ci_rng1{l:Expr}(h:PI X tg l (iRng1 (tArgs ([a].map (argT K))))):PI X tg l (liftI K (dIRng1 a)):=piM h l_rng1
theorem ci_zip2{l:Expr}(h:PI X tg l (iZip2 K (tArgs ([a,b].map (argT K))))):PI X tg l (liftI K (dIZip2 a b)):=piM h l_zip2
theorem ci_zip3{l:Expr}(h:PI X tg l (iZip3 K (tArgs ([a,b,c].map (argT K))))):PI X tg l (liftI K (dIZip3 a b c)):=piM h l_zip3
noncomputable def CMod(_ j:Int):Prop:=0 < j
theorem op_catB:OpR X (binaryOp .Add) rCatB:=by
 intro pins s σ H x y v u Q I rx ry h
 obtain⟨a,b,xs,ys,rfl,rfl,ha,hb,hz,q1,q2,q3⟩:=h
 have ha':SqT X.K H a xs:=SqT.of ha
 have hb':SqT X.K H b ys:=SqT.of hb
 by_cases hx:xs=[]
 ·subst hx
  cases rx
  cases ry
  obtain⟨its,r1,p1,_⟩:=I.tuple ha'
  obtain⟨its2,r2,p2,_⟩:=I.tuple hb'
  cases r1
  exact cat_tup0 p1 p2 ⟨.ref b,H,I,rfl,q1 rfl⟩
 ·exact op_catT pins s σ H (.ref a) (.ref b) v u Q I rx ry ⟨a,b,xs,ys,rfl,rfl,ha',hb',hx,hz,λe=>q2 hx e,λe p hp=>q3 hx e p hp⟩
theorem op_addD:OpR X (binaryOp .Add) (rAny (rI0 λi j=>.int (i+j)) (rAny rCatB rCat)):=op_add.or (op_catB.or op_cat)
theorem op_mulD:OpR X (binaryOp .Mult) (rAny (rI CMul λi j=>.int (i * j)) rRep):=op_mul.or op_rep
theorem ok_sub:OpOk K (r2L (rI0 λi j=>.int (i - j))) (o2 (fI0 λi j=>.int (i - j))):=ok_I0 λ_ _ _=>.int _
theorem ok_fdiv:OpOk K (r2L (rI CDiv λi j=>.int (i / j))) (o2 (fI CDiv λi j=>.int (i / j))):=ok_I λ_ _ _=>.int _
theorem ok_mod:OpOk K (r2L (rI (λ_ j=>0 < j) λi j=>.int (i % j))) (o2 (fI CMod λi j=>.int (i % j))):=ok_I (C:=CMod) λ_ _ _=>.int _
theorem ok_pow:OpOk K (r2L (rI CPow λi j=>.int (i ^ j.toNat))) (o2 (fI CPow λi j=>.int (i ^ j.toNat))):=ok_I λ_ _ _=>.int _
theorem ok_shl:OpOk K (r2L (rI CPow λi j=>.int (i * 2 ^ j.toNat))) (o2 (fI CPow λi j=>.int (i * 2 ^ j.toNat))):=ok_I λ_ _ _=>.int _
theorem ok_lt:OpOk K (r2L (rI0 λi j=>.bl (decide (i < j)))) (o2 (fI0 λi j=>.bool (decide (i < j)))):=ok_I0 λ_ _ _=>.bl _
theorem ok_le:OpOk K (r2L (rI0 λi j=>.bl (decide (i<=j)))) (o2 (fI0 λi j=>.bool (decide (i<=j)))):=ok_I0 λ_ _ _=>.bl _
theorem ok_gt:OpOk K (r2L (rI0 λi j=>.bl (decide (j < i)))) (o2 (fI0 λi j=>.bool (decide (j < i)))):=ok_I0 λ_ _ _=>.bl _
theorem ok_ge:OpOk K (r2L (rI0 λi j=>.bl (decide (j<=i)))) (o2 (fI0 λi j=>.bool (decide (j<=i)))):=ok_I0 λ_ _ _=>.bl _
theorem ix_seqD(hK:X.K=K):IxR X (rAny (rIxL K) (rIxT K)):=(ix_listK hK).or (ix_tupK hK)
end
mutual
noncomputable def plainD:D->Bool
 | .none=>true
 | .bool _=>true
 | .int _=>true
 | .str _=>true
 | .list xs=>plainAll xs
 | .tuple xs=>plainAll xs
 | .dict _=>false
noncomputable def plainAll:List D->Bool
 | []=>true
 | x :: xs=>plainD x&&plainAll xs
end
section
variable {K:Fg}{F H:Hp}
mutual
theorem Da.is(s:Sub F H):∀{v:V}{d:D},Da K F v d->plainD d=true->Is K H v d
 | _,_,.non,_=>.non
 | _,_,.bl b,_=>.bl b
 | _,_,.int i,_=>.int i
 | _,_,.str x,_=>.str x
 | _,_,.lst e t,z=>.lst (SqL.of (s _ _ e)) (DaAll.is s t (by simpa [plainD]using z))
 | _,_,.tup e t,z=>.tup (SqT.of (s _ _ e)) (DaAll.is s t (by simpa [plainD]using z))
 | _,_,.dk _ _,z=>by simp[plainD]at z
 | _,_,.dt _ _,z=>by simp[plainD]at z
 | _,_,.scr _,z=>by simp[plainD,scrD]at z
 | _,_,.exc _,z=>by simp[plainD,excD]at z
 | _,_,.opq _,z=>by simp[plainD,opqD]at z
 | _,_,.pd _ _,z=>by simp[plainD,pdD]at z
 | _,_,.bd _ _,z=>by simp[plainD,bdD]at z
theorem DaAll.is(s:Sub F H):∀{xs:List V}{ds:List D},DaAll K F xs ds->plainAll ds=true->IsAll K H xs ds
 | _,_,.nil,_=>.nil
 | _,_,.cons a t,z=>by
  simp[plainAll]at z
  exact .cons (Da.is s a z.1) (DaAll.is s t z.2)
end
theorem At.is{v:V}{d:D}(s:Sub F H)(h:At K F H v d)(p:plainD d=true):Is K H v d:=by
 rcases h with h|⟨a,o,rfl,_,e,h⟩
 ·exact h.is s p
 ·cases o<;>cases d<;>first|exact h.elim|(simp[plainD]at p)|skip
  ·rename_i xs ds
   exact .lst (SqL.of e) (DaAll.is s h (by simpa [plainD]using p))
end
noncomputable def fEqG(x y:D)(Q:Sl->Prop):Prop:=plainD x=true/\plainD y=true/\SeqAt.shaped x=true/\SeqAt.shaped y=true/\SeqAt.noMix x y=true/\Q (.fz (.bool (same x y)))
noncomputable def fNeG(x y:D)(Q:Sl->Prop):Prop:=plainD x=true/\plainD y=true/\SeqAt.shaped x=true/\SeqAt.shaped y=true/\SeqAt.noMix x y=true/\Q (.fz (.bool (!same x y)))
noncomputable def fEq:D->D->(Sl->Prop)->Prop
 | .int i,.int j,Q=>Q (.fz (.bool (decide (i=j))))
 | .list xs,y,Q=>fEqG (.list xs) y Q
 | .tuple xs,y,Q=>fEqG (.tuple xs) y Q
 | .str x,.str y,Q=>Q (.fz (.bool (decide (x=y))))
 | x,y,Q=>fEqG x y Q
noncomputable def fNe:D->D->(Sl->Prop)->Prop
 | .int i,.int j,Q=>Q (.fz (.bool (!decide (i=j))))
 | .list xs,y,Q=>fNeG (.list xs) y Q
 | .tuple xs,y,Q=>fNeG (.tuple xs) y Q
 | .str x,.str y,Q=>Q (.fz (.bool (!decide (x=y))))
 | x,y,Q=>fNeG x y Q
theorem ok_eq{K:Fg}:OpOk K (r2L (rAny rEq (rEqD K false))) (o2 fEq):=ok2 λG F σ H ρ x y d e Q Qd R h1 h2 w k=>by
 have gen:fEqG d e Qd->rAny rEq (rEqD K false) x y H Q:=λ⟨p1,p2,p3,p4,p5,w⟩=>.inr ⟨d,e,h1.is R.sub p1,h2.is R.sub p2,p3,p4,p5,k _ H F (.fz _) (Sub.refl _) R (Da.bl _) w⟩
 unfold fEq at w
 split at w
 ·rename_i i j
  cases h1.int
  cases h2.int
  refine .inl ⟨rfl,k _ H F (.fz _) (Sub.refl _) R (Da.bl _) ?_⟩
  have e:decide (V.int i=V.int j)=decide (i=j):=by rw[dec_int,o6]
  rw[e];exact w
 ·exact gen w
 ·exact gen w
 ·rename_i i j
  cases h1.str
  cases h2.str
  refine .inl ⟨rfl,k _ H F (.fz _) (Sub.refl _) R (Da.bl _) ?_⟩
  have e:decide (V.str i=V.str j)=decide (i=j):=by rw[dec_str,o6]
  rw[e];exact w
 ·exact gen w
theorem ok_ne{K:Fg}:OpOk K (r2L (rAny rNe (rEqD K true))) (o2 fNe):=ok2 λG F σ H ρ x y d e Q Qd R h1 h2 w k=>by
 have gen:fNeG d e Qd->rAny rNe (rEqD K true) x y H Q:=λ⟨p1,p2,p3,p4,p5,w⟩=>.inr ⟨d,e,h1.is R.sub p1,h2.is R.sub p2,p3,p4,p5,k _ H F (.fz _) (Sub.refl _) R (Da.bl _) w⟩
 unfold fNe at w
 split at w
 ·rename_i i j
  cases h1.int
  cases h2.int
  refine .inl ⟨rfl,k _ H F (.fz _) (Sub.refl _) R (Da.bl _) ?_⟩
  have e:decide (V.int i=V.int j)=decide (i=j):=by rw[dec_int,o6]
  rw[e];exact w
 ·exact gen w
 ·exact gen w
 ·rename_i i j
  cases h1.str
  cases h2.str
  refine .inl ⟨rfl,k _ H F (.fz _) (Sub.refl _) R (Da.bl _) ?_⟩
  have e:decide (V.str i=V.str j)=decide (i=j):=by rw[dec_str,o6]
  rw[e];exact w
 ·exact gen w
theorem op_eqE{X:Cx}{K:Fg}(hK:X.K=K)(hu:X.A.units+64 < cLine):OpR X (compareOp .Eq) (rAny rEq (rEqD K false)):=op_eq.or (op_eqDK hK hu)
theorem op_neE{X:Cx}{K:Fg}(hK:X.K=K)(hu:X.A.units+64 < cLine):OpR X (compareOp .NotEq) (rAny rNe (rEqD K true)):=op_ne.or (op_neDK hK hu)
section
variable {P:Program}{w:World}{K:Fg}{mg:Str->Option Value}{base:Heap}
theorem dfn{x qual:Str}{st:Stmt}{f:Addr}{fd:FuncData}{N ps:List Str}{k:Nat}{con:Con}{ts:TDS}(F:Fun K x qual st f fd)(S:FnScope N ps (defScope st))
  (hb:∀(cdv:Value) (A:Around) (outer:List Env) (s:Shared) (H:Hp) (E:XK),Room k (A.deeper (envOfC qual (defScope st) s.heap.objs.size f cdv))->PSs (cxOf CX0 P w K mg base N qual (defScope st) f cdv A outer s H E).nox (defBody st) (liftS K ts))
  (hl:∀args Qd,con args Qd->args.length=ps.length) (hc:∀args Qd,con args Qd->(∀s∈args,∀d,s≠.ow d)/\ts (endsOf args Qd) (startE N.length args)):FnOk P w K mg base CX0 (k+1) f fd ps (conSp K con):=by
 refine F.ok S (λvs H Q E h=>?_) (λcdv A outer s H vs Q E hr h=>⟨_,hb cdv A outer s H E hr,l_def hc h⟩)
 obtain⟨G,F',args,Qd,R,w',_⟩:=h
 have h1:=hl args Qd w'
 have h2:=R.len
 rw[i0,i0]at h2
 rw[h2,h1]
end
noncomputable def noOw:List Sl->Bool
 | []=>true
 | .ow _ :: _=>false
 | _ :: as=>noOw as
theorem noOw_of:∀{as:List Sl},noOw as=true->∀s∈as,∀d,s≠.ow d
 | .fz _ :: as,h,s,hs,d,z=>by
  rcases Y0.mp hs with e|e
  ·subst e;cases z
  ·exact noOw_of (as:=as) h s e d z
 | .io _ :: as,h,s,hs,d,z=>by
  rcases Y0.mp hs with e|e
  ·subst e;cases z
  ·exact noOw_of (as:=as) h s e d z
noncomputable def rSum(K:Fg):List V->Hp->VK->Prop:=λxs H Q=>∃(a:Addr) (ns:List Int),xs=[.ref a]/\(SqL K H a (ns.map V.int)\/SqT K H a (ns.map V.int))/\Q (.int ns.sum) H
theorem call_sumK{X:Cx}{K:Fg}(hK:X.K=K)(hc:X.calm=true):CallR X (.builtin "sum") (rSum K):=by
 subst hK
 intro pins s σ H xs us Q I r h
 obtain⟨a,ns,rfl,hq,q⟩:=h
 obtain⟨u,rfl,ru⟩:=vals1 r
 cases ru
 have hh:=I.ok.hd hc
 rcases hq with hq|hq
 ·obtain⟨its,rv,p,hz⟩:=I.list hq
  have hi:IntsAre its ns:=intsAre_of rv
  obtain⟨zs,hx⟩:=hi.allInts.items
  have hl':s.heap.IsList a (intItems zs):=hx ▸ p.isList
  refine sum_intListG hh hl' λh' tk t' hk=>?_
  have e1:ns=zs.toList.map (·.1):=by
   rw[<- nums_intItems,<- hx]
   exact (show numsOf its.toArray.toList=ns from hi.numsOf).symm
  have e2:preSum (numAt zs) zs.size=ns.sum:=by
   rw[preSum_eq,e6 (by simp),e1]
  rw[e2]
  exact ⟨.int ns.sum,H,I.kept hk,⟨t',rfl⟩,q⟩
 ·obtain⟨its,rv,p,hz⟩:=I.tuple hq
  have hi:IntsAre its ns:=intsAre_of rv
  obtain⟨zs,hx⟩:=hi.allInts.items
  have hl':s.heap.IsTuple a (intItems zs):=hx ▸ p
  refine PySem.W.ktm_sumG hh hl' λh' tk t' hk=>?_
  have e1:ns=zs.toList.map (·.1):=by
   rw[<- nums_intItems,<- hx]
   exact (show numsOf its.toArray.toList=ns from hi.numsOf).symm
  have e2:preSum (numAt zs) zs.size=ns.sum:=by
   rw[preSum_eq,e6 (by simp),e1]
  rw[e2]
  exact ⟨.int ns.sum,H,I.kept hk,⟨t',rfl⟩,q⟩
noncomputable def fSum:D->(Sl->Prop)->Prop
 | .list ds,Q=>∃ns:List Int,ds=ns.map j0/\Q (.fz (.int ns.sum))
 | .tuple ds,Q=>∃ns:List Int,ds=ns.map j0/\Q (.fz (.int ns.sum))
 | _,_=>False
theorem DaAll.intsV{K:Fg}{F:Hp}:∀{xs:List V}{ns:List Int},DaAll K F xs (ns.map j0)->xs=ns.map V.int
 | [],[],_=>rfl
 | x :: xs,b :: bs,.cons h t=>by cases h;simp[DaAll.intsV t]
theorem ok_sum{K:Fg}:OpOk K (rSum K) (o1 fSum):=ok1 λG F σ H ρ x d Q Qd R h1 w k=>by
 match d,h1,w with
 | .list ds,h1,⟨ns,e,w⟩ =>
  subst e
  obtain⟨a,us,rfl,e1,d1⟩:=h1.list R.sub
  have:=d1.intsV
  subst this
  exact ⟨a,ns,rfl,.inl (SqL.of e1),k _ H F (.fz _) (Sub.refl _) R (Da.int _) w⟩
 | .tuple ds,h1,⟨ns,e,w⟩ =>
  subst e
  obtain⟨a,us,rfl,_,e1,d1⟩:=h1.tuple R.sub
  have:=d1.intsV
  subst this
  exact ⟨a,ns,rfl,.inr (SqT.of e1),k _ H F (.fz _) (Sub.refl _) R (Da.int _) w⟩
noncomputable def clean1(ρ:Ev)(i:Nat):Ev:=match ρ[i]? with
 | some (some (.io _))=>ρ
 | some _=>ρ.set i none
 | none=>ρ
noncomputable def clean(ks:List Nat)(ρ:Ev):Ev:=match ks with
 | []=>ρ
 | i :: r=>clean r (clean1 ρ i)
section
variable {K:Fg}{G:Gh}{F H:Hp}{σ:L2.St}{ρ:Ev}
theorem Rel.drop(R:Rel K G F σ H ρ){i:Nat}(hn:∀d,ρ[i]?≠some (some (Sl.io d))):Rel K G F σ H (ρ.set i none):=by
 refine ⟨by rw[P4];exact R.len,R.sub,R.sub0,R.fn,R.keep,λj d e=>?_,λj t e wt=>?_,λj d b e eb=>?_,λj b e=>?_,λj d e=>?_,λj k t u b e1 w1 e2 w2 e3 e4=>?_⟩
 ·rcases get_set e with⟨rfl,z⟩|⟨n,z⟩
  ·cases z
  ·exact R.fz j d z
 ·rcases get_set e with⟨rfl,z⟩|⟨n,z⟩
  ·cases z
  ·exact R.ow j t z wt
 ·rcases get_set e with⟨rfl,z⟩|⟨n,z⟩
  ·cases z
  ·exact R.new j d b z eb
 ·obtain⟨d',e1,e2⟩:=R.io j b e
  have n:i≠j:=λz=>by subst z;exact hn _ e1
  exact ⟨d',by rw[V0 n];exact e1,e2⟩
 ·rcases get_set e with⟨rfl,z⟩|⟨n,z⟩
  ·cases z
  ·exact R.ioi j d z
 ·rcases get_set e1 with⟨rfl,z⟩|⟨n,z⟩
  ·cases z
  ·rcases get_set e2 with⟨rfl,z'⟩|⟨n',z'⟩
   ·cases z'
   ·exact R.ap j k t u b z w1 z' w2 e3 e4
theorem Rel.clean1(R:Rel K G F σ H ρ)(i:Nat):Rel K G F σ H (clean1 ρ i):=by
 unfold L3.clean1
 split
 ·exact R
 ·rename_i e1 e2
  exact R.drop λd z=>by rw[e2]at z;cases z;exact e1 _ rfl
 ·exact R
theorem Rel.clean(ks:List Nat):∀{ρ:Ev},Rel K G F σ H ρ->Rel K G F σ H (clean ks ρ):=by
 induction ks with
 | nil=>intro ρ R;exact R
 | cons i r ih=>intro ρ R;exact ih (R.clean1 i)
end
noncomputable def dLoopC(ks:List Nat)(g:TDG)(tb:TDS)(E:DE):List D->Ev->Prop
 | [],ρ=>E.nx ρ
 | d :: ds,ρ=>g d ρ λρ'=>tb { nx:=λρ2=>dLoopC ks g tb E ds (clean ks ρ2),rt:=E.rt,bk:=λρ2=>E.nx (clean ks ρ2),ct:=λρ2=>dLoopC ks g tb E ds (clean ks ρ2) } ρ'
noncomputable def dForC(ks:List Nat)(ti:TDI)(g:TDG)(tb:TDS):TDS:=λE ρ=>ti ρ λds ρ'=>dLoopC ks g tb E ds (clean ks ρ')
theorem l_forC{K:Fg}{ks:List Nat}{ti:TDI}{g:TDG}{tb:TDS}{E:Ends}{σ:L2.St}{H:Hp}(h:liftS K (dForC ks ti g tb) E σ H):tFor (liftI K ti) (liftG K g) (liftS K tb) E σ H:=by
 obtain⟨G,F,ρ,D,R,w,n,r,b,c⟩:=h
 refine ⟨G,F,ρ,_,R,w,λJ H1 F1 ds ρ1 s1 R1 wk w1=>?_⟩
 refine ⟨λi m σ H=>m=ds.length - i/\i<=ds.length/\∃F' ρ',Sub F1 F'/\Rel K G F' σ H ρ'/\dLoopC ks g tb D (ds.drop i) ρ',⟨ds.length,rfl,S4 _,F1,_,Sub.refl _,R1.clean ks,w1⟩,?_⟩
 rintro i m σ H ⟨rfl,hi,F',ρ',s',R',w'⟩
 obtain⟨hgo,hst⟩:=wk i H F' s' R'.sub
 cases e:ds[i]? with
 | none =>
  have hl:ds.length<=i:=q5.mp e
  refine .inl ⟨hst (by omega),?_⟩
  rw[Y6 hl]at w'
  exact n σ H F' ρ' (s1.trans s') R' w'
 | some d =>
  obtain⟨go,yl⟩:=hgo d e
  have hl:=lt_of_get e
  rw[drop_get e]at w'
  refine .inr ⟨go,λσ2 H2=>∃F2 ρ2,Sub F1 F2/\Rel K G F2 σ2 H2 ρ2/\dLoopC ks g tb D (ds.drop (i+1)) ρ2,λσ2 H2 ⟨F2,ρ2,z1,z2,z3⟩=>⟨ds.length - (i+1),by omega,rfl,hl,F2,ρ2,z1,z2,z3⟩,λx H2 y=>?_⟩
  obtain⟨F2,t1,t2,t3,t4,t5⟩:=yl x H2 y
  have R2:=R'.turn t1 t2 t3 t4
  refine ⟨G,F2,ρ',d,_,R2,t5,w',λσ3 ρ3 R3 w3=>?_⟩
  refine ⟨G,F2,ρ3,_,R3,w3,λσ4 H4 F4 ρ4 s4 R4 q=>?_,λv σ4 H4 F4 x4 ρ4 s4 R4 r4 q=>?_,λσ4 H4 F4 ρ4 s4 R4 q=>?_,λσ4 H4 F4 ρ4 s4 R4 q=>?_⟩
  ·exact ⟨F4,_,s'.trans (t1.trans s4),R4.clean ks,q⟩
  ·exact r v σ4 H4 F4 x4 ρ4 (s1.trans (s'.trans (t1.trans s4))) R4 r4 q
  ·exact n σ4 H4 F4 _ (s1.trans (s'.trans (t1.trans s4))) (R4.clean ks) q
  ·exact ⟨F4,_,s'.trans (t1.trans s4),R4.clean ks,q⟩
theorem cs_forC{X:Cx}{K:Fg}{st:Stmt}{t:TDS}(ks:List Nat){ti:TDI}{g:TDG}(h:PS X st (tFor (liftI K ti) (liftG K g) (liftS K t))):PS X st (liftS K (dForC ks ti g t)):=psM h l_forC
theorem loopC{ks:List Nat}{g:TDG}{tb:TDS}{E:DE}(J:List D->Ev->Prop)
  (hs:∀d ds ρ,J (d :: ds) ρ->∀N:Ev->Prop,(∀ρ2,J ds ρ2->N ρ2)->g d ρ λρ'=>tb { nx:=λρ2=>N (clean ks ρ2),rt:=E.rt,bk:=λρ2=>E.nx (clean ks ρ2),ct:=λρ2=>N (clean ks ρ2) } ρ')
  (hd:∀ρ,J [] ρ->E.nx ρ):∀{ds:List D}{ρ:Ev},J ds ρ->dLoopC ks g tb E ds ρ
 | [],ρ,h=>hd ρ h
 | d :: ds,ρ,h=>hs d ds ρ h _ λρ2 h2=>loopC J hs hd h2
noncomputable def dCompLC(n:Nat)(g:TDG)(tc:TTD)(te:TD):List D->List D->Ev->(List D->Ev->Prop)->Prop
 | [],acc,τ,Q=>Q acc τ
 | d :: ds,acc,τ,Q=>g d τ λτ1=>tc τ1 λb τ2=>if b=true then te τ2 λr τ3=>dCompLC n g tc te ds (acc++[r.d]) (clean (U2 n) τ3) Q else dCompLC n g tc te ds acc (clean (U2 n) τ2) Q
noncomputable def dCompC(ti:TDI)(own:List Str)(fr:List Nat)(g:TDG)(tc:TTD)(te:TD):TD:=λρ Q=>ti ρ λds ρ1=>ds.length<=sizeLine/\dCompLC own.length g tc te ds [] (innerE own fr ρ1) λys τ=>Q (.ow (.list ys)) (wbGo fr (τ.drop own.length) 0 ρ1)
theorem l_compC{K:Fg}{ti:TDI}{own:List Str}{fr:List Nat}{g:TDG}{tc:TTD}{te:TD}(nd:fr.Nodup){σ:L2.St}{H:Hp}{Q:VK}(h:lift K (dCompC ti own fr g tc te) σ H Q):tCompW (liftI K ti) own fr (liftG K g) (liftT K tc) (lift K te) σ H Q:=by
 obtain⟨G,F,ρ,Qd,R,w,k⟩:=h
 refine ⟨G,F,ρ,_,R,w,λJ H1 F1 ds ρ1 s1 R1 wk ⟨hz,w1⟩=>?_⟩
 have Ri:=R1.inner (own:=own) nd
 refine ⟨λi m ys τ H=>m=ds.length - i/\i<=ds.length/\∃F' ρ' acc,Rel K (ghC own fr F1 H1 σ ρ1) F' τ H ρ'/\DaAll K F' ys acc/\acc.length<=i/\dCompLC own.length g tc te (ds.drop i) acc ρ' (λys τ=>Qd (.ow (.list ys)) (wbGo fr (τ.drop own.length) 0 ρ1)),
   ⟨ds.length,rfl,S4 _,F1,_,[],Ri,.nil,S4 _,w1⟩,?_⟩
 rintro i m ys τ H' ⟨rfl,hi,F',ρ',acc,R',da,hl,w'⟩
 obtain⟨hgo,hst⟩:=wk i H' F' R'.sub0 R'.sub
 cases e:ds[i]? with
 | none =>
  have hl':ds.length<=i:=q5.mp e
  refine .inl ⟨hst (by omega),λDd hD=>?_⟩
  rw[Y6 hl']at w'
  have Ro:=R1.outer R' nd
  obtain⟨Rn,rn⟩:=Ro.newOw (o:=.lst ys) (d:=.list acc) hD da
  exact k _ _ F' _ _ (s1.trans R'.sub0) Rn rn w'
 | some d =>
  obtain⟨go,yl⟩:=hgo d e
  have hlt:=lt_of_get e
  rw[drop_get e]at w'
  refine .inr ⟨go,by rw[da.length];omega,λys2 τ2 H2=>∃F2 ρ2 acc2,Rel K (ghC own fr F1 H1 σ ρ1) F2 τ2 H2 ρ2/\DaAll K F2 ys2 acc2/\acc2.length<=i+1/\dCompLC own.length g tc te (ds.drop (i+1)) acc2 ρ2 (λys τ=>Qd (.ow (.list ys)) (wbGo fr (τ.drop own.length) 0 ρ1)),
    λys2 τ2 H2 ⟨F2,ρ2,acc2,z1,z2,z3,z4⟩=>⟨ds.length - (i+1),by omega,rfl,hlt,F2,ρ2,acc2,z1,z2,z3,z4⟩,λx H2 y=>?_⟩
  obtain⟨F2,t1,t2,t3,t4,t5⟩:=yl x H2 y
  have R2:=R'.turn t1 t2 t3 t4
  refine ⟨_,F2,ρ',d,_,R2,t5,w',λτ3 ρ3 R3 w3=>?_⟩
  refine ⟨_,F2,ρ3,_,R3,w3,λb H4 F4 ρ4 s4 R4 w4=>?_⟩
  cases b with
  | false=>exact ⟨F4,_,acc,R4.clean _,da.mono (t1.trans s4),by omega,w4⟩
  | true =>
   refine ⟨_,F4,ρ4,_,R4,w4,λv H5 F5 r ρ5 s5 R5 r5 w5=>?_⟩
   obtain⟨F6,s6,R6,d6⟩:=r5.frz R5
   exact ⟨F6,_,acc++[r.d],R6.clean _,(da.mono (t1.trans (s4.trans (s5.trans s6)))).append (.cons d6 .nil),by simp;omega,w5⟩
section
variable {X:Cx}{K:Fg}{e:Expr}{st:Stmt}{ti:TDI}{own:List Str}{fr:List Nat}{g:TDG}{tc:TTD}{te:TD}
theorem cv_compC(nd:fr.Nodup)(h:PE X e (tCompW (liftI K ti) own fr (liftG K g) (liftT K tc) (lift K te))):PE X e (lift K (dCompC ti own fr g tc te)):=peM h (l_compC nd)
theorem cs_setCC{i:Nat}(nd:fr.Nodup)(h:PS X st (tAsg (tCompW (liftI K ti) own fr (liftG K g) (liftT K tc) (lift K te)) (gName i))):PS X st (liftS K (dSet i (dCompC ti own fr g tc te))):=psM h λq=>l_compC nd (l_set q)
end
theorem compC{n:Nat}{g:TDG}{tc:TTD}{te:TD}{Q:List D->Ev->Prop}(J:List D->List D->Ev->Prop)
  (hs:∀d ds acc τ,J (d :: ds) acc τ->∀N:List D->Ev->Prop,(∀acc2 τ2,J ds acc2 τ2->N acc2 τ2)->g d τ λτ1=>tc τ1 λb τ2=>if b=true then te τ2 λr τ3=>N (acc++[r.d]) (clean (U2 n) τ3) else N acc (clean (U2 n) τ2))
  (hd:∀acc τ,J [] acc τ->Q acc τ):∀{ds acc:List D}{τ:Ev},J ds acc τ->dCompLC n g tc te ds acc τ Q
 | [],acc,τ,h=>hd acc τ h
 | d :: ds,acc,τ,h=>hs d ds acc τ h _ λacc2 τ2 h2=>compC J hs hd h2
theorem compN{n:Nat}{g:TDG}{te:TD}{Q:List D->Ev->Prop}(J:List D->List D->Ev->Prop)
  (hs:∀d ds acc τ,J (d :: ds) acc τ->∀N:List D->Ev->Prop,(∀acc2 τ2,J ds acc2 τ2->N acc2 τ2)->g d τ λτ1=>te τ1 λr τ3=>N (acc++[r.d]) (clean (U2 n) τ3))
  (hd:∀acc τ,J [] acc τ->Q acc τ) {ds acc:List D}{τ:Ev} (h:J ds acc τ):dCompLC n g dYes te ds acc τ Q :=
 compC J (λd ds acc τ h N hN=>by
   have q:=hs d ds acc τ h N hN
   have e:(λτ1=>te τ1 λr τ3=>N (acc++[r.d]) (clean (U2 n) τ3))=λτ1=>dYes τ1 λb τ2=>if b=true then te τ2 (λr τ3=>N (acc++[r.d]) (clean (U2 n) τ3)) else N acc (clean (U2 n) τ2):=by
     funext τ1
     show _=(if true=true then te τ1 (λr τ3=>N (acc++[r.d]) (clean (U2 n) τ3)) else N acc (clean (U2 n) τ1))
     rw[if_pos rfl]
   rw[<- e]
   exact q) hd h
theorem mapC{n:Nat}{g:TDG}{te:TD}{Q:List D->Ev->Prop}(f:D->D){τ:Ev}{ds:List D}
  (hs:∀d∈ds,∀N:D->Ev->Prop,N (f d) τ->g d τ λτ1=>te τ1 λr τ3=>N r.d (clean (U2 n) τ3))
  (hd:Q (ds.map f) τ):dCompLC n g dYes te ds [] τ Q:=by
 refine compN (λrest acc τ'=>τ'=τ/\∃pre,ds=pre++rest/\acc=pre.map f) ?_ ?_ ⟨rfl,[],rfl,rfl⟩
 ·rintro d ds' acc τ' ⟨rfl,pre,e,rfl⟩ N hN
  exact hs d (by rw[e];simp) (λx τ3=>N (pre.map f++[x]) τ3) (hN _ _ ⟨rfl,pre++[d],by rw[e];simp,by simp⟩)
 ·rintro acc τ' ⟨rfl,pre,e,rfl⟩
  rw[K1]at e
  subst e
  exact hd
theorem filC{n:Nat}{g:TDG}{tc:TTD}{te:TD}{Q:List D->Ev->Prop}(p:D->Bool)(f:D->D){τ:Ev}{ds:List D}
  (hs:∀d∈ds,∀(N:D->Ev->Prop) (M:Ev->Prop),(p d=true->N (f d) τ)->(p d=false->M τ)->g d τ λτ1=>tc τ1 λb τ2=>if b=true then te τ2 λr τ3=>N r.d (clean (U2 n) τ3) else M (clean (U2 n) τ2))
  (hd:Q ((ds.filter p).map f) τ):dCompLC n g tc te ds [] τ Q:=by
 refine compC (λrest acc τ'=>τ'=τ/\∃pre,ds=pre++rest/\acc=(pre.filter p).map f) ?_ ?_ ⟨rfl,[],rfl,rfl⟩
 ·rintro d ds' acc τ' ⟨rfl,pre,e,rfl⟩ N hN
  exact hs d (by rw[e];simp) (λx τ3=>N ((pre.filter p).map f++[x]) τ3) (λτ3=>N ((pre.filter p).map f) τ3) (λhp=>hN _ _ ⟨rfl,pre++[d],by rw[e];simp,by simp[hp]⟩)
   (λhp=>hN _ _ ⟨rfl,pre++[d],by rw[e];simp,by simp[hp]⟩)
 ·rintro acc τ' ⟨rfl,pre,e,rfl⟩
  rw[K1]at e
  subst e
  exact hd
noncomputable def rRepr(K:Fg):List V->Hp->VK->Prop:=λxs H Q=>∃(x:V) (d:PyData),xs=[x]/\Is K H x d/\d.showable=true/\d.hasDict=false/\d.depth+1<=64/\d.shown.length<=sizeLine/\Q (.str d.shown) H
theorem call_reprK{X:Cx}{K:Fg}{k:Nat}(hK:X.K=K)(hr:Room k X.A):CallR X (.builtin "repr") (rRepr K):=by
 subst hK
 intro pins s σ H xs us Q I r h
 obtain⟨x,d,rfl,hd,hs,hn,hz,hl,q⟩:=h
 obtain⟨u,rfl,ru⟩:=vals1 r
 obtain⟨as,ra⟩:=hd.reads I ru
 have hu:=hr.units
 cases hd with
 | non=>cases ru;exact PySem.P.repr_of_none ⟨.str _,H,I.tok _,⟨_,rfl⟩,q⟩
 | bl b=>cases ru;exact PySem.P.repr_of_bool ⟨.str _,H,I.tok _,⟨_,rfl⟩,by cases b<;>exact q⟩
 | int i =>
  obtain⟨t,rfl⟩:=ru
  exact PySem.P.repr_of_int (by simpa [PyData.showable]using hs) ⟨.str _,H,I.tok _,⟨_,rfl⟩,q⟩
 | str x =>
  obtain⟨t,rfl⟩:=ru
  exact PySem.P.repr_of_str ⟨.str _,H,I.tok _,⟨_,rfl⟩,q⟩ hl
 | lst _ _ =>
  cases ru
  exact repr_of_reads' ra hs (λz=>by rw[hn]at z;cases z) hr.gd (by omega) (λ_ _ e=>e) (λh' u tk hk=>⟨.str _,H,I.kept hk,⟨u,rfl⟩,q⟩) hl
 | tup _ _ =>
  cases ru
  exact repr_of_reads' ra hs (λz=>by rw[hn]at z;cases z) hr.gd (by omega) (λ_ _ e=>e) (λh' u tk hk=>⟨.str _,H,I.kept hk,⟨u,rfl⟩,q⟩) hl
noncomputable def fRepr(d:D)(Q:Sl->Prop):Prop:=plainD d=true/\d.showable=true/\d.depth+1<=64/\d.shown.length<=sizeLine/\Q (.fz (.str d.shown))
mutual
theorem plain_noDict:∀{d:D},plainD d=true->d.hasDict=false
 | .none,_=>rfl
 | .bool _,_=>rfl
 | .int _,_=>rfl
 | .str _,_=>rfl
 | .list xs,h=>by
  have:=plainAll_noDict (xs:=xs) (by simpa [plainD]using h)
  simpa [PyData.hasDict]using this
 | .tuple xs,h=>by
  have:=plainAll_noDict (xs:=xs) (by simpa [plainD]using h)
  simpa [PyData.hasDict]using this
 | .dict _,h=>by simp[plainD]at h
theorem plainAll_noDict:∀{xs:List D},plainAll xs=true->u9 xs=false
 | [],_=>rfl
 | x :: xs,h=>by
  simp[plainAll]at h
  simp[u9,plain_noDict h.1,plainAll_noDict h.2]
end
theorem ok_repr{K:Fg}:OpOk K (rRepr K) (o1 fRepr):=ok1 λG F σ H ρ x d Q Qd R h1 w k=>by
 obtain⟨p1,p2,p3,p4,w⟩:=w
 exact ⟨x,d,rfl,h1.is R.sub p1,p2,plain_noDict p1,p3,p4,k _ H F (.fz _) (Sub.refl _) R (Da.str _) w⟩
structure WE(X:Cx)(e:Expr)(t:TE):Prop where
 h:PE X e t
structure WA(X:Cx)(es:List Expr)(t:TA):Prop where
 h:PA X es t
structure WT(X:Cx)(e:Expr)(t:TT):Prop where
 h:PT X e t
structure WW(X:Cx)(e:Expr)(t:TT):Prop where
 h:PW X e t
structure WS(X:Cx)(s:Stmt)(t:TS):Prop where
 h:PS X s t
structure WSs(X:Cx)(s:List Stmt)(t:TS):Prop where
 h:PSs X s t
structure WG(X:Cx)(e:Expr)(t:TG):Prop where
 h:PG X e t
structure WGs(X:Cx)(es:List Expr)(t:TGs):Prop where
 h:PGs X es t
structure WI(X:Cx)(g e:Expr)(t:TI):Prop where
 h:PI X g e t
structure WIf(X:Cx)(es:List Expr)(t:TT):Prop where
 h:PIf X es t
section
variable {X:Cx}{K:Fg}{e e1 e2 e3:Expr}{es:List Expr}{a b c:AD}{as:List AD}{td te tf:TD}{tc tc':TTD}{st:Stmt}{sts:List Stmt}{t u:TDS}{p pos pos' p2 apos cpos tpos:Pos}{x:Str}{tg:Expr}
theorem wn(i:Nat)(hN:X.N[i]?=some x:=by rfl)(hv:Vis X.env.scope x:=by first|exact Or.inl rfl|exact Or.inr (Or.inl rfl)|exact Or.inr (Or.inr rfl))(hd:(x==("__debug__":Str))=false:=by decide)
  (hcd:(x==("__classdict__":Str))=false:=by decide):WE X (.Name x pos) (argT K (.inl i)):=⟨pe_var hN hv hd hcd⟩
theorem wv(i:Nat)(hN:X.N[i]?=some x:=by rfl)(hv:Vis X.env.scope x:=by first|exact Or.inl rfl|exact Or.inr (Or.inl rfl)|exact Or.inr (Or.inr rfl))(hd:(x==("__debug__":Str))=false:=by decide)
  (hcd:(x==("__classdict__":Str))=false:=by decide):WE X (.Name x pos) (lift K (dVar i)):=⟨cv_var (pe_var hN hv hd hcd)⟩
theorem wx(h:WE X e (lift K td)):WE X e (argT K (.inr td)):=⟨h.h⟩
theorem wa_nil:WA X [] (tArgs (([]:List AD).map (argT K))):=⟨pa_nil⟩
theorem wa_cons(ha:WE X e (argT K a))(hr:WA X es (tArgs (as.map (argT K))))(hs:notStar e=true:=by rfl):WA X (e :: es) (tArgs ((a :: as).map (argT K))):=⟨da_cons ha.h hr.h (starEach_of hs)⟩
theorem w_int{i:Int}{k:Nat}:WE X (.Constant (.int i) k pos) (lift K (dC (.int i))):=⟨cv_c (λ_=>.int _) pe_int⟩
theorem w_bl{b:Bool}{k:Nat}:WE X (.Constant (.bool b) k pos) (lift K (dC (.bool b))):=⟨cv_c (λ_=>.bl _) pe_bl⟩
theorem w_non{k:Nat}:WE X (.Constant .none k pos) (lift K (dC .none)):=⟨cv_c (λ_=>.non) pe_non⟩
theorem w_bin{op:Operator}{r:R2}{f:D->D->(Sl->Prop)->Prop}(ok:OpOk K (r2L r) (o2 f))(ho:OpR X (binaryOp op) r)(ha:WE X e1 (argT K a))(hb:WE X e2 (argT K b)):WE X (.BinOp e1 op e2 pos) (lift K (dOp [a,b] (o2 f))):=⟨cv2 ok (pe_op ho ha.h hb.h)⟩
theorem w_cmp{op:CmpOp}{r:R2}{f:D->D->(Sl->Prop)->Prop}(ok:OpOk K (r2L r) (o2 f))(ho:OpR X (compareOp op) r)(ha:WE X e1 (argT K a))(hb:WE X e2 (argT K b))(hm:op≠.In:=by decide)(hm2:op≠.NotIn:=by decide):WE X (.Compare e1 [op] [e2] pos) (lift K (dOp [a,b] (o2 f))):=⟨cv2 ok (pe_cmpR ho ha.h hb.h (nomark _ hm hm2))⟩
theorem w_one{op:BoolOp}{tr:TE}(h:WE X e tr):WE X (.BoolOp op [e] pos) tr:=⟨pe_one h.h⟩
theorem w_and{rest:List Expr}(ha:WE X e1 (lift K td))(hb:WE X (.BoolOp .And (e2 :: rest) pos) (lift K te)):WE X (.BoolOp .And (e1 :: e2 :: rest) pos) (lift K (dAndV td te)):=⟨cv_and (pe_and ha.h hb.h)⟩
theorem w_fn{k:Nat}{ps:List Str}{con:Con}(C:Cal X.prog X.w X.K X.mg X.base k x ps (conSp K con))(hr:Room k X.A)(ha:WA X (e :: es) (tArgs (as.map (argT K))))(hg:Gl X x:=by rfl)(hdb:(x==("__debug__":Str))=false:=by decide)
  (he:notStar e=true:=by rfl) (hpl:es.all notStar=true:=by rfl):WE X (.Call (.Name x p) (e :: es) [] pos) (lift K (dCall con as)):=⟨cv_fn (pe_fn C hr ha.h hg hdb (starEach_of he) (plain_of hpl))⟩
theorem w_fnI{k i:Nat}{ps:List Str}{con:Con}(C:Cal X.prog X.w X.K X.mg X.base k x ps (conSp K con))(hr:Room k X.A)(ha:WA X (e :: es) (tArgs ((Sum.inl i :: as).map (argT K))))(hg:Gl X x:=by rfl)(hdb:(x==("__debug__":Str))=false:=by decide)
  (he:notStar e=true:=by rfl) (hpl:es.all notStar=true:=by rfl):WE X (.Call (.Name x p) (e :: es) [] pos) (lift K (dCallI con i as)):=⟨cv_fnI (pe_fn C hr ha.h hg hdb (starEach_of he) (plain_of hpl))⟩
theorem w_callB{id:String}{r:List V->Hp->VK->Prop}{f:List D->(Sl->Prop)->Prop}(ok:OpOk K r f)(hc:CallR X (.builtin id) r)(hm:X.mg x=none)(hv:bootBuiltins x=some (.builtin id))(ha:WA X (e :: es) (tArgs (as.map (argT K))))(hg:Gl X x:=by rfl)(hn:x ≠ "__name__":=by decide)(hdb:(x==("__debug__":Str))=false:=by decide)
  (he:notStar e=true:=by rfl) (hpl:es.all notStar=true:=by rfl):WE X (.Call (.Name x p) (e :: es) [] pos) (lift K (dOp as f)):=⟨cvB ok (pe_callB hc hg hm hv ha.h hn hdb (starEach_of he) (plain_of hpl))⟩
theorem w_callT{T:String}{r:List V->Hp->VK->Prop}{f:List D->(Sl->Prop)->Prop}(ok:OpOk K r f)(hc:CallR X (.type T) r)(hm:X.mg x=none)(hv:bootBuiltins x=some (.type T))(ha:WA X (e :: es) (tArgs (as.map (argT K))))(hg:Gl X x:=by rfl)(hn:x ≠ "__name__":=by decide)(hdb:(x==("__debug__":Str))=false:=by decide)
  (he:notStar e=true:=by rfl) (hpl:es.all notStar=true:=by rfl):WE X (.Call (.Name x p) (e :: es) [] pos) (lift K (dOp as f)):=⟨cvB ok (pe_callTy hc hg hm hv ha.h hn hdb (starEach_of he) (plain_of hpl))⟩
theorem w_ix(hK:X.K=K)(ha:WE X e1 (argT K a))(hb:WE X e2 (argT K b))(hs:PlainIx e2:=by exact λ_ _=>rfl):WE X (.Subscript e1 e2 pos) (lift K (dOp [a,b] (o2 fIx))):=⟨cv2 ok_ix (pe_ix (ix_seqD hK) ha.h hb.h hs)⟩
theorem w_tup{k:Nat}(h:WA X es (tArgs (as.map (argT K))))(hl:as.length<=1000:=by decide):WE X (.Tuple es k pos) (lift K (dOpF as fTupD)):=⟨cv_tup hl (pe_tup h.h)⟩
theorem w_lst(h:WA X es (tArgs (as.map (argT K))))(hl:as.length<=1000:=by decide):WE X (.List es pos) (lift K (dOpF as fLstD)):=⟨cv_lst hl (pe_lst h.h)⟩
theorem w_comp{elt iter:Expr}{ifs:List Expr}{sc:Scope}{own:List Str}{fr:List Nat}{ti:TDI}{g:TDG}(hc:X.calm=true)(S:compOk X.env.scope X.N fr sc=true)(hi:WI X tg iter (liftI K ti))(hg:∀C s H ex,WG (cxComp X own fr sc C s H ex) tg (liftG K g))
  (hif:∀C s H ex,WIf (cxComp X own fr sc C s H ex) ifs (liftT K tc)) (he:∀C s H ex,WE (cxComp X own fr sc C s H ex) elt (lift K te)) (nd:fr.Nodup:=by decide) (hs:notSet iter=true:=by rfl):WE X (.ListComp elt [⟨tg,iter,ifs,0⟩] sc pos) (lift K (dCompC ti own fr g tc te)) :=
 ⟨cv_compC nd (pe_compW hc (compSc_of S) hi.h (λC s H ex=>(hg C s H ex).h) (λC s H ex=>(hif C s H ex).h) (λC s H ex=>(he C s H ex).h) (folded_of hs))⟩
theorem w_m{name:Str}{id:String}{i:Nat}{r:V->List V->Hp->VK->Prop}{f:List D->List D->(D->D->Prop)->Prop}(ok:MOk K r f)(hK:X.K=K)(slot:Slot "list" name id)(hty:typeOf (.builtin id)=pure (.type "method_descriptor"))(hm:MtR X id r)(ho:WE X (.Name x p) (argT K (.inl i)))(ha:WA X (e :: es) (tArgs (as.map (argT K))))
  (hbase:attributeBase (.Name x p) name X.env (eval (.Name x p) X.env)=eval (.Name x p) X.env:=by rfl)
  (hfew:((backTo cpos (starEach (e :: es) X.env)).all (λx=>!x.1)&&(backToKw cpos (keywordEach [] X.env)).all (λx=>x.1.isSome)&&decide ((e :: es).length+([]:List Keyword).length+(if ([]:List Keyword).isEmpty then 0 else 1) < 30))=true:=by rfl)
  (hline:(apos.endLine==cpos.line)=true:=by rfl) (he:notStar e=true:=by rfl) (hpl:es.all notStar=true:=by rfl):WE X (.Call (.Attribute (.Name x p) name apos) (e :: es) [] cpos) (lift K (dMeth i as f)):=by
 subst hK
 exact ⟨cv_m ok (pe_bm PySem.F.plainAttrs_list slot hty hm ho.h ha.h hbase hfew hline (starEach_of he) (plain_of hpl))⟩
theorem w_m0{name:Str}{id:String}{i:Nat}{r:V->List V->Hp->VK->Prop}{f:List D->List D->(D->D->Prop)->Prop}(ok:MOk K r f)(hK:X.K=K)(slot:Slot "list" name id)(hty:typeOf (.builtin id)=pure (.type "method_descriptor"))(hm:MtR X id r)(ho:WE X (.Name x p) (argT K (.inl i)))
  (hbase:attributeBase (.Name x p) name X.env (eval (.Name x p) X.env)=eval (.Name x p) X.env:=by rfl) (hline:(apos.endLine==cpos.line)=true:=by rfl):WE X (.Call (.Attribute (.Name x p) name apos) [] [] cpos) (lift K (dMeth i [] f)):=by
 subst hK
 exact ⟨cv_m0 ok (pe_bm0 PySem.F.plainAttrs_list slot hty hm ho.h hbase hline)⟩
theorem t_cmp{op:CmpOp}{r:R2}{f:D->D->(Sl->Prop)->Prop}(ok:OpOk K (r2L r) (o2 f))(ho:OpR X (compareOp op) r)(ha:WE X e1 (argT K a))(hb:WE X e2 (argT K b))(hm:op≠.In:=by decide)(hm2:op≠.NotIn:=by decide):WT X (.Compare e1 [op] [e2] pos) (liftT K (dTst (dOp [a,b] (o2 f)))):=⟨ct2 ok (pt_cmpR ho ha.h hb.h (nomark _ hm hm2))⟩
theorem t_not(h:WT X e (liftT K tc)):WT X (.UnaryOp .Not e pos) (liftT K (dNot tc)):=⟨ct_not (pt_not h.h)⟩
theorem t_and1(h:WT X e (liftT K tc)):WW X (.BoolOp .And [e] pos) (liftT K tc):=⟨pw_and1 h.h⟩
theorem t_or1(h:WT X e (liftT K tc)):WW X (.BoolOp .Or [e] pos) (liftT K tc):=⟨pw_or1 h.h⟩
theorem t_and{rest:List Expr}(ha:WT X e1 (liftT K tc))(hb:WW X (.BoolOp .And (e2 :: rest) pos) (liftT K tc')):WW X (.BoolOp .And (e1 :: e2 :: rest) pos) (liftT K (dAnd tc tc')):=⟨cw_and (pw_and ha.h hb.h)⟩
theorem t_or{rest:List Expr}(ha:WT X e1 (liftT K tc))(hb:WW X (.BoolOp .Or (e2 :: rest) pos) (liftT K tc')):WW X (.BoolOp .Or (e1 :: e2 :: rest) pos) (liftT K (dOr tc tc')):=⟨cw_or (pw_or ha.h hb.h)⟩
theorem t_w{tt:TT}(h:WW X e tt):WT X e tt:=⟨h.h.pt⟩
theorem t_val(h:WE X e (lift K td))(he:∀whole,isTrue e X.env whole=(do let v<-whole;standAt e.pos;holding [v] (truthy v)):=by intro _;rfl):WT X e (liftT K (dTst td)):=⟨ct_val (pt_val h.h he)⟩
theorem g_name{i:Nat}(hN:X.N.Nodup)(hi:X.N[i]?=some x)(hx:Loc X.env.scope x)(hf:X.fn x=true\/X.env.scope.names.lookup x=some .local:=by first|exact .inl rfl|exact .inr rfl|assumption):WG X (.Name x pos) (liftG K (dGN i)):=⟨cg_name (pg_name hN hi hx hf)⟩
theorem gs_nil:WGs X [] (gAll (([]:List TDG).map (liftG K))):=⟨pgs_nil⟩
theorem gs_cons{g:TDG}{gs:List TDG}(h1:WG X e (liftG K g))(h2:WGs X es (gAll (gs.map (liftG K))))(hs:(assignEach (e :: es) X.env).map (·.2)=assign e X.env :: (assignEach es X.env).map (·.2):=by rfl):WGs X (e :: es) (gAll ((g :: gs).map (liftG K))):=⟨cgs_cons h1.h h2.h hs⟩
theorem g_tup{gs:List TDG}{k:Nat}(hK:X.K=K)(hc:X.calm=true)(hh:WGs X es (gAll (gs.map (liftG K))))(hn:(assignEach es X.env).length=gs.length:=by rfl)(hst:(assignEach es X.env).findIdx? (·.1)=none:=by rfl):WG X (.Tuple es k pos) (liftG K (dGT gs)):=⟨cg_tup (pg_tupK hK hc hh.h hn hst) rfl⟩
theorem if0:WIf X [] (liftT K dYes):=⟨cif_nil⟩
theorem if1(h:WT X e (liftT K tc)):WIf X [e] (liftT K tc):=⟨if_one h.h⟩
theorem i_seq(hK:X.K=K)(hl:WE X e (lift K td)):WI X tg e (liftI K (dISeq td)):=⟨ci_seq hK hl.h⟩
theorem i_rng1(hm:X.mg "range"=none)(ha:WA X [e1] (tArgs ([a].map (argT K))))(hg:Gl X "range":=by rfl)(he:notStar e1=true:=by rfl):WI X tg (.Call (.Name "range" p) [e1] [] pos) (liftI K (dIRng1 a)):=⟨ci_rng1 (pi_range1 hg hm ha.h (by rw[starEach_of he];rfl))⟩
theorem i_zip2{ts:List Expr}{kk:Nat}(hK:X.K=K)(hm:X.mg "zip"=none)(ha:WA X [e1,e2] (tArgs ([a,b].map (argT K))))(hg:Gl X "zip":=by rfl)(he:notStar e1=true:=by rfl)(hpl:[e2].all notStar=true:=by rfl):WI X (.Tuple ts kk tpos) (.Call (.Name "zip" p) [e1,e2] [] pos) (liftI K (dIZip2 a b)):=⟨ci_zip2 (pi_zip2K hK hg hm ha.h (starEach_of he) (plain_of hpl))⟩
theorem i_zip3{ts:List Expr}{kk:Nat}(hK:X.K=K)(hm:X.mg "zip"=none)(ha:WA X [e1,e2,e3] (tArgs ([a,b,c].map (argT K))))(hg:Gl X "zip":=by rfl)(he:notStar e1=true:=by rfl)(hpl:[e2,e3].all notStar=true:=by rfl):WI X (.Tuple ts kk tpos) (.Call (.Name "zip" p) [e1,e2,e3] [] pos) (liftI K (dIZip3 a b c)):=⟨ci_zip3 (pi_zip3K hK hg hm ha.h (starEach_of he) (plain_of hpl))⟩
theorem s_nil:WSs X [] (liftS K dNext):=⟨cs_next pss_nil⟩
theorem s_one{tr:TS}(h:WS X st tr):WSs X [st] tr:=⟨pss_one h.h⟩
theorem s_cons(h:WS X st (liftS K t))(h2:WSs X sts (liftS K u)):WSs X (st :: sts) (liftS K (dSeq t u)):=⟨cs_seq (pss_cons h.h h2.h)⟩
theorem s_ret(h:WE X e (lift K td)):WS X (.Return (some e) pos) (liftS K (dRet td)):=⟨cs_ret (ps_ret h.h)⟩
theorem s_retV{i:Nat}(h:WE X e (argT K (.inl i))):WS X (.Return (some e) pos) (liftS K (dRetV i)):=⟨cs_retV (ps_ret h.h)⟩
theorem s_expr(h:WE X e (lift K td))(hs:notComp e=true:=by rfl):WS X (.Expr e pos) (liftS K (dDrop td)):=⟨cs_drop (ps_expr h.h (swaps_of hs))⟩
theorem s_if{sa sb:List Stmt}(hc:WT X e (liftT K tc))(ha:WSs X sa (liftS K t))(hb:WSs X sb (liftS K u)):WS X (.If e sa sb pos) (liftS K (dIfS tc t u)):=⟨cs_if (ps_if hc.h ha.h hb.h)⟩
theorem s_for{iter:Expr}{body:List Stmt}(ks:List Nat){ti:TDI}{g:TDG}(hp:PassesOwn (model X.prog X.w) X.A X.env X.xe)(hc:X.calm=true)(hi:WI X tg iter (liftI K ti))(hg:WG X tg (liftG K g))(hb:WSs X body (liftS K t))(hs:notSet iter=true:=by rfl):WS X (.For tg iter body [] pos) (liftS K (dForC ks ti g t)):=⟨cs_forC ks (ps_for hp hc hi.h hg.h hb.h (folded_of hs))⟩
theorem s_while{body:List Stmt}(hp:PassesOwn (model X.prog X.w) X.A X.env X.xe)(hc:WT X e (liftT K tc))(hb:WSs X body (liftS K t)):WS X (.While e body [] pos) (liftS K (dWhile tc t)):=⟨cs_while (ps_while hp hc.h hb.h)⟩
theorem s_set{i:Nat}(hN:X.N.Nodup)(hi:X.N[i]?=some x)(hx:Loc X.env.scope x)(he:WE X e (lift K td))(hs:notComp e=true:=by rfl)(hf:X.fn x=true\/X.env.scope.names.lookup x=some .local:=by first|exact .inl rfl|exact .inr rfl|assumption):WS X (.Assign [.Name x pos'] e pos) (liftS K (dSet i td)):=⟨cs_set (ps_set hN hi hx he.h (swaps_of hs) hf)⟩
theorem s_move{i j:Nat}(hN:X.N.Nodup)(hi:X.N[i]?=some x)(hx:Loc X.env.scope x)(he:WE X e (argT K (.inl j)))(hs:notComp e=true:=by rfl)(hf:X.fn x=true\/X.env.scope.names.lookup x=some .local:=by first|exact .inl rfl|exact .inr rfl|assumption):WS X (.Assign [.Name x pos'] e pos) (liftS K (dMove i j)):=⟨cs_move (ps_set hN hi hx he.h (swaps_of hs) hf)⟩
theorem s_setC{elt iter:Expr}{ifs:List Expr}{sc:Scope}{own:List Str}{fr:List Nat}{ti:TDI}{g:TDG}{i:Nat}(hN:X.N.Nodup)(hy:X.N[i]?=some x)(hl:X.env.scope.names.lookup x=some .local)(hc:X.calm=true)(S:compOk X.env.scope X.N fr sc=true)(hi:WI X tg iter (liftI K ti))(hg:∀C s H ex,WG (cxComp X own fr sc C s H ex) tg (liftG K g))
  (hif:∀C s H ex,WIf (cxComp X own fr sc C s H ex) ifs (liftT K tc)) (he:∀C s H ex,WE (cxComp X own fr sc C s H ex) elt (lift K te)) (nd:fr.Nodup:=by decide) (hs:notSet iter=true:=by rfl) (hsw:swapsWith (.ListComp elt [⟨tg,iter,ifs,0⟩] sc p) (some (.Name x pos')) pos.line X.env=pure true:=by rfl) :
  WS X (.Assign [.Name x pos'] (.ListComp elt [⟨tg,iter,ifs,0⟩] sc p) pos) (liftS K (dSet i (dCompC ti own fr g tc te))) :=
 ⟨cs_setCC nd (ps_setCompW hN hy hl hc (compSc_of S) hi.h (λC s H ex=>(hg C s H ex).h) (λC s H ex=>(hif C s H ex).h) (λC s H ex=>(he C s H ex).h) hsw (folded_of hs))⟩
theorem s_ix{j:Nat}(he:WE X e (lift K td))(ho:WE X e1 (argT K (.inl j)))(hi:WE X e2 (argT K a))(hs:swapsWithSole [.Subscript e1 e2 pos'] e pos.line X.env=pure false:=by rfl)(hw:swappedStores [.Subscript e1 e2 pos'] e X.env=pure none:=by rfl)
  (ha:∀v,assign (.Subscript e1 e2 pos') X.env v=(do
    let ov<-holding [v] (eval e1 X.env)
    let iv<-holding [v,ov] (eval e2 X.env)
    standAt pos'
    holding [v,ov,iv] (setItem ov iv v)
    release [v,ov,iv] []):=by intro _;rfl) (h1:(assignEach [.Subscript e1 e2 pos'] X.env).map (·.2)=[assign (.Subscript e1 e2 pos') X.env]:=by rfl):WS X (.Assign [.Subscript e1 e2 pos'] e pos) (liftS K (dSetIx j a td)):=⟨cs_ix (ps_asg he.h (pg_sub ho.h hi.h set_list ha) hs hw h1)⟩
theorem s_asgG{g:TDG}(he:WE X e (lift K td))(hg:WG X tg (liftG K g))(hs:swapsWithSole [tg] e pos.line X.env=pure false:=by rfl)(hw:swappedStores [tg] e X.env=pure none:=by rfl)(h1:(assignEach [tg] X.env).map (·.2)=[assign tg X.env]:=by rfl):WS X (.Assign [tg] e pos) (liftS K (dAsgG g td)):=⟨cs_asgG (ps_asg he.h hg.h hs hw h1)⟩
end
section
variable {P:Program}{w:World}{K:Fg}{mg:Str->Option Value}{base:Heap}
theorem wfn{x qual:Str}{st:Stmt}{f:Addr}{fd:FuncData}{N ps:List Str}{k:Nat}{con:Con}{ts:TDS}(F:Fun K x qual st f fd)(S:FnScope N ps (defScope st))
  (hb:∀(cdv:Value) (A:Around) (outer:List Env) (s:Shared) (H:Hp) (E:XK),Room k (A.deeper (envOfC qual (defScope st) s.heap.objs.size f cdv))->WSs (cxOf CX0 P w K mg base N qual (defScope st) f cdv A outer s H E).nox (defBody st) (liftS K ts))
  (hl:∀args Qd,con args Qd->args.length=ps.length) (hc:∀args Qd,con args Qd->(∀s∈args,∀d,s≠.ow d)/\ts (endsOf args Qd) (startE N.length args)):FnOk P w K mg base CX0 (k+1) f fd ps (conSp K con) :=
 dfn F S (λcdv A outer s H E hr=>(hb cdv A outer s H E hr).h) hl hc
end
end L3
namespace L2
open PySem PySem.Spec PyProof.Rows
theorem plain_upd_loop:plainId "dict.update.loop"=true:=by decide +kernel
theorem entry_upd_loop:entryFor table "dict.update.loop"=some Builtin.«dict.update.loop»:=entryFor_of_tree (by kernel_rfl)
section
variable {prog:Program}{w:World}{A:Around}{E:Value->Shared->Prop}{s:Shared}
end
section
variable {prog:Program}{w:World}{A:Around}{R:Result->Shared->Prop}{I:Addr}{fp wr:List Addr}{n:Nat}{P:Nat->Value->Prop}{St:Nat->Heap->Prop}
end
theorem Vals.getV:∀{xs:List V}{us:List Value}{i:Nat}{u:Value},Vals xs us->us[i]?=some u->∃x,xs[i]?=some x/\RelV x u
 | _,_,0,_,.cons r _,e=>⟨_,rfl,by cases e;exact r⟩
 | _,_,i+1,_,.cons _ t,e=>Vals.getV (i:=i) t e
section
variable {X:Cx}
end
noncomputable abbrev IsZipH(h:Heap)(z TI TO T:Addr)(fl:Bool):Prop :=
 h.get? z=some { cls:=.type "zip",dict:=none,data:=.fields #[rawInt T,.bool fl,.bool false,.ref TI,.ref TO],slots:=#[] }
section
variable {prog:Program}{w:World}{A:Around}{E:Value->Shared->Prop}{s:Shared}
theorem alive{a:Addr}{o:Obj}{Q:Option Obj->Shared->Prop}(ho:s.heap.get? a=some o)(h:Q (some o) s):wpAny (model prog w) A (loadIfAlive a) Q E s:=λΓ p _=>by
 show Sem.wp _ Γ (.loadIfAlive a λx=>.pure x) _ _ p s
 rw[Sem.wp_loadIfAlive,ho]
 exact h
theorem notFree{z TI TO T:Addr}{fl:Bool}{ot:Obj}{Q:Bool->Shared->Prop}(hz:IsZipH s.heap z TI TO T fl)(hT:s.heap.get? T=some ot)
  (h:∀h₁,IsZipH h₁ z TI TO T true->K2 z s.heap h₁->Q false { s with heap:=h₁ }):wpAny (model prog w) A (Z0 (.ref z)) Q E s:=by
 unfold Z0
 refine wpAny_bind (wpAny_field hz rfl (x:=rawInt T) rfl ?_)
 show wpAny _ _ (loadIfAlive T >>= _) _ _ _
 refine wpAny_bind (alive hT ?_)
 rw[if_neg (show ¬((some ot).isNone=true) from A1)]
 refine wpAny_bind (wpAny_field hz rfl (x:=.bool fl) rfl ?_)
 cases fl with
 | true =>
  rw[if_neg (by decide)]
  exact wpAny_pure (h s.heap hz ⟨rfl,λ_ _=>rfl⟩)
 | false =>
  rw[if_pos (by decide)]
  exact wpAny_bind (wpAny_setField_rec hz (by simp) λh₁ hz₁ hs₁=>wpAny_pure (h h₁ hz₁ hs₁))
theorem zipn_kept2{z TI TO T i1 i2 l1 l2:Addr}{fl:Bool}{k:Nat}{k1:Kd}{k2:Kd}{xs1 xs2:Array Value}{ot:Obj}{x1 x2:Value}{Q:Value->Shared->Prop}(D:ZAp2 z TI TO i1 i2 l1 l2)
  (hz:IsZipH s.heap z TI TO T fl) (hTI:IsTup2 s.heap TI (.ref i1) (.ref i2)) (hT:s.heap.get? T=some ot)
  (h1:ItAt k1 s.heap i1 l1 k) (h2:ItAt k2 s.heap i2 l2 k) (hl1:SqAt k1 s.heap l1 xs1) (hl2:SqAt k2 s.heap l2 xs2) (hx1:xs1[k]?=some x1) (hx2:xs2[k]?=some x2)
  (hQ:∀h',IsZipH h' z TI TO T true->ItAt k1 h' i1 l1 (k+1)->ItAt k2 h' i2 l2 (k+1)->IsTup2 h' s.heap.objs.size x1 x2->h'.objs.size=s.heap.objs.size+1 ->
    (∀c o,c≠z->c≠i1->c≠i2->s.heap.get? c=some o->h'.get? c=some o)->Q (.ref s.heap.objs.size) { s with heap:=h' }) :
  wpAny (model prog w) A (Builtin.«zip.__next__» ⟨[.ref z],[]⟩) (λfin s'=>∃v,fin=.done (.ret v)/\Q v s') E s:=by
 show wpAny _ _ (field (.ref z) 2 >>= _) _ _ _
 refine wpAny_bind (wpAny_field hz rfl (x:=.bool false) rfl ?_)
 show wpAny _ _ (field (.ref z) 3 >>= _) _ _ _
 refine wpAny_bind (wpAny_field hz rfl (x:=.ref TI) rfl ?_)
 refine wpAny_bind (wpAny_seqItems hTI rfl ?_)
 show wpAny _ _ (Z0 (.ref z) >>= _) _ _ _
 refine wpAny_bind (notFree hz hT λh₁ hz₁ hs₁=>?_)
 simp only[J2,if_false]
 rw[Y8]
 simp only[E5,U5]
 refine wpAny_bind (wpAny_bind (wpAny_bind (wpAny_holding ?_)))
 show wpAny _ _ (U0 (.ref i1) >>= _) _ _ _
 refine wpAny_bind (nextOf_item (h1.at λo e=>hs₁.extBut _ o D.i1z e) (hl1.at λo e=>hs₁.extBut _ o D.l1z e) hx1 λha1 hi1 hsa1=>wpAny_pure (wpAny_pure ?_))
 refine wpAny_bind (wpAny_bind (wpAny_holding ?_))
 show wpAny _ _ (U0 (.ref i2) >>= _) _ _ _
 refine wpAny_bind (nextOf_item ((h2.at λo e=>hs₁.extBut _ o D.i2z e).at λo e=>hsa1.extBut _ o D.i2i1 e) ((hl2.at λo e=>hs₁.extBut _ o D.l2z e).at λo e=>hsa1.extBut _ o D.l2i1 e) hx2 λha2 hi2 hsa2=>wpAny_pure (wpAny_pure (wpAny_pure ?_)))
 refine wpAny_bind (wpAny_newTuple (hsz:=by show 2<=sizeLine;decide) ?_)
 have hsz:ha2.objs.size=s.heap.objs.size:=by rw[hsa2.1,hsa1.1,hs₁.1]
 have hzG:IsZipH ha2 z TI TO T true:=hsa2.extBut _ _ D.i2z.symm (hsa1.extBut _ _ D.i1z.symm hz₁)
 refine wpAny_pure ⟨_,rfl,?_⟩
 show Q (.ref ha2.objs.size) _
 rw[hsz]
 refine hQ _ (g0 _ hzG) ((hi1.at λo e=>hsa2.extBut _ o D.i2i1.symm e).at λo e=>g0 _ e) (hi2.at λo e=>g0 _ e) ?_ ?_ λc o c1 d1 d2 e=>g0 _ (hsa2.extBut _ _ d2 (hsa1.extBut _ _ d1 (hs₁.extBut _ _ c1 e)))
 ·rw[<- hsz];exact K0 _ rfl
 ·rw[O1,hsz]
theorem zipn_keptEnd2{z TI TO T i1 i2 l1 l2:Addr}{fl:Bool}{k:Nat}{k1:Kd}{k2:Kd}{xs1 xs2:Array Value}{ot:Obj}{Q:Fin->Shared->Prop}(hh:A.handled=none)(D:ZAp2 z TI TO i1 i2 l1 l2)
  (hz:IsZipH s.heap z TI TO T fl) (hTI:IsTup2 s.heap TI (.ref i1) (.ref i2)) (hT:s.heap.get? T=some ot)
  (h1:ItAt k1 s.heap i1 l1 k) (h2:ItAt k2 s.heap i2 l2 k) (hl1:SqAt k1 s.heap l1 xs1) (hl2:SqAt k2 s.heap l2 xs2) (hend:xs1[k]?=none\/xs2[k]?=none)
  (hE:∀h' e,(∀c o,c≠z->c≠i1->c≠i2->s.heap.get? c=some o->h'.get? c=some o)->(∃o,h'.get? e=some o/\o.cls=.type "StopIteration")->E (.ref e) { s with heap:=h' }) :
  wpAny (model prog w) A (Builtin.«zip.__next__» ⟨[.ref z],[]⟩) Q E s:=by
 show wpAny _ _ (field (.ref z) 2 >>= _) _ _ _
 refine wpAny_bind (wpAny_field hz rfl (x:=.bool false) rfl ?_)
 show wpAny _ _ (field (.ref z) 3 >>= _) _ _ _
 refine wpAny_bind (wpAny_field hz rfl (x:=.ref TI) rfl ?_)
 refine wpAny_bind (wpAny_seqItems hTI rfl ?_)
 show wpAny _ _ (Z0 (.ref z) >>= _) _ _ _
 refine wpAny_bind (notFree hz hT λh₁ hz₁ hs₁=>?_)
 simp only[J2,if_false]
 rw[Y8]
 simp only[E5,U5]
 refine wpAny_bind (wpAny_bind (wpAny_bind (wpAny_holding ?_)))
 show wpAny _ _ (U0 (.ref i1) >>= _) _ _ _
 cases hx1:xs1[k]? with
 | none =>
  exact wpAny_bind (nextOf_end hh (h1.at λo e=>hs₁.extBut _ o D.i1z e) (hl1.at λo e=>hs₁.extBut _ o D.l1z e) hx1 λhq e hsq he=>hE hq e (λc o c1 d1 d2 x=>hsq _ _ d1 (hs₁.extBut _ _ c1 x)) he)
 | some x1 =>
  have hx2:xs2[k]?=none:=by
   rcases hend with h|h
   ·rw[hx1]at h;cases h
   ·exact h
  refine wpAny_bind (nextOf_item (h1.at λo e=>hs₁.extBut _ o D.i1z e) (hl1.at λo e=>hs₁.extBut _ o D.l1z e) hx1 λha1 hi1 hsa1=>wpAny_pure (wpAny_pure ?_))
  refine wpAny_bind (wpAny_bind (wpAny_holding ?_))
  show wpAny _ _ (U0 (.ref i2) >>= _) _ _ _
  exact wpAny_bind (nextOf_end hh ((h2.at λo e=>hs₁.extBut _ o D.i2z e).at λo e=>hsa1.extBut _ o D.i2i1 e) ((hl2.at λo e=>hs₁.extBut _ o D.l2z e).at λo e=>hsa1.extBut _ o D.l2i1 e) hx2 λhq e hsq he=>hE hq e (λc o c1 d1 d2 x=>hsq _ _ d2 (hsa1.extBut _ _ d1 (hs₁.extBut _ _ c1 x))) he)
end
section
variable {prog:Program}{w:World}{A:Around}{E:Value->Shared->Prop}{s:Shared}
noncomputable def ZSt(h:Heap)(z TI TO S i1 i2 l1 l2:Addr)(k1 k2:Kd)(i:Nat):Prop :=
 IsTup2 h TI (.ref i1) (.ref i2)/\ItAt k1 h i1 l1 i/\ItAt k2 h i2 l2 i /\
  ((IsZip h z TI TO .none/\∃a1 a2,IsTup2 h TO a1 a2)\/∃T fl ot,IsZipH h z TI TO T fl/\h.get? T=some ot/\T≠z/\T≠i1/\T≠i2/\T≠S)
theorem next_kept2{z TI TO S i1 i2 l1 l2:Addr}{k:Nat}{k1 k2:Kd}{xs1 xs2:Array Value}{x1 x2:Value}{Q:Option Value->Shared->Prop}(D:ZAp2 z TI TO i1 i2 l1 l2)(hS:S < s.heap.objs.size)
  (st:ZSt s.heap z TI TO S i1 i2 l1 l2 k1 k2 k) (hl1:SqAt k1 s.heap l1 xs1) (hl2:SqAt k2 s.heap l2 xs2) (hx1:xs1[k]?=some x1) (hx2:xs2[k]?=some x2)
  (hQ:∀h',ZSt h' z TI TO S i1 i2 l1 l2 k1 k2 (k+1)->IsTup2 h' s.heap.objs.size x1 x2->h'.objs.size=s.heap.objs.size+1 ->
    (∀c o,c≠z->c≠TO->c≠i1->c≠i2->s.heap.get? c=some o->h'.get? c=some o)->Q (some (.ref s.heap.objs.size)) { s with heap:=h' }) :
  wpAny (model prog w) A (pyNext (.ref z)) Q E s:=by
 obtain⟨hTI,h1,h2,hz⟩:=st
 have gz:∀{b:Addr}{o:Obj},s.heap.get? b=some o->s.heap.objs.size≠b:=λe=>B2 (G0 e)
 obtain⟨o1,g1,_⟩:=h1.obj
 obtain⟨o2,g2,_⟩:=h2.obj
 rcases hz with⟨hz,a1,a2,hTO⟩|⟨T,fl,ot,hz,hT,t1,t2,t3,t4⟩
 ·refine next_zip_item2 D hz hTI hTO h1 h2 hl1 hl2 hx1 hx2 λh' b1 b2 c1 c2 b5 b6 b7=>hQ h' ⟨b7 TI _ D.TIz (V2 D.TOTI) (V2 D.i1TI) (V2 D.i2TI) hTI,c1,c2,.inr ⟨s.heap.objs.size,false,_,b1,b5,gz hz,gz g1,gz g2,B2 hS⟩⟩ b5 b6 b7
 ·have hTy:s.TypeIs (.ref z) "zip":=⟨_,hz,rfl⟩
  unfold pyNext
  exact wpAny_bind (wpAny_attempt (wpAny_callSpecial?_slot (name:=Str.ofString "__next__") hTy F.slot_zip_next
    (wpAny_call_entry F.slot_zip_next hTy F.entry_zip_next (wpAny_mono (zipn_kept2 (Q:=λv s'=>Q (some v) s') D hz hTI hT h1 h2 hl1 hl2 hx1 hx2 λh' b1 c1 c2 b5 b6 b7=>hQ h' ⟨b7 TI _ D.TIz (V2 D.i1TI) (V2 D.i2TI) hTI,c1,c2,.inr ⟨T,true,ot,b1,b7 T _ t1 t2 t3 hT,t1,t2,t3,t4⟩⟩ b5 b6 λc o d1 _ d3 d4 e=>b7 c o d1 d3 d4 e) (λfin s' z=>by obtain⟨v,rfl,z⟩:=z;exact ⟨_,rfl,wpAny_pure z⟩) λ_ _ z=>z) (F.args_zip_next_1 _))))
theorem next_keptEnd2{z TI TO S i1 i2 l1 l2:Addr}{k:Nat}{k1 k2:Kd}{xs1 xs2:Array Value}{Q:Option Value->Shared->Prop}(hh:A.handled=none)(D:ZAp2 z TI TO i1 i2 l1 l2)
  (st:ZSt s.heap z TI TO S i1 i2 l1 l2 k1 k2 k) (hl1:SqAt k1 s.heap l1 xs1) (hl2:SqAt k2 s.heap l2 xs2) (hend:xs1[k]?=none\/xs2[k]?=none)
  (hQ:∀h',(∀c o,c≠z->c≠TO->c≠i1->c≠i2->s.heap.get? c=some o->h'.get? c=some o)->Q none { s with heap:=h' }):wpAny (model prog w) A (pyNext (.ref z)) Q E s:=by
 obtain⟨hTI,h1,h2,hz⟩:=st
 rcases hz with⟨hz,a1,a2,hTO⟩|⟨T,fl,ot,hz,hT,t1,t2,t3,t4⟩
 ·exact next_zip_end2 hh D hz hTI hTO h1 h2 hl1 hl2 hend hQ
 ·have hTy:s.TypeIs (.ref z) "zip":=⟨_,hz,rfl⟩
  unfold pyNext
  refine wpAny_bind (wpAny_attempt (wpAny_callSpecial?_slot (name:=Str.ofString "__next__") hTy F.slot_zip_next
    (wpAny_call_entry F.slot_zip_next hTy F.entry_zip_next (zipn_keptEnd2 hh D hz hTI hT h1 h2 hl1 hl2 hend λh' e hk he=>?_) (F.args_zip_next_1 _))))
  obtain⟨o,ho,hc⟩:=he
  refine wpAny_bind (wpAny_isInstance (T:="StopIteration") (b:=true) ⟨o,ho,hc⟩ isSubtype_stop ?_)
  exact wpAny_pure (hQ _ λc o d1 _ d3 d4 e=>hk c o d1 d3 d4 e)
theorem ZSt.keep{h h':Heap}{z TI TO S i1 i2 l1 l2:Addr}{k1 k2:Kd}{i:Nat}(x:ZSt h z TI TO S i1 i2 l1 l2 k1 k2 i)(hk:∀b o,b≠S->h.get? b=some o->h'.get? b=some o)(n1:z≠S)(n2:TI≠S)(n3:TO≠S)(n4:i1≠S)(n5:i2≠S) :
  ZSt h' z TI TO S i1 i2 l1 l2 k1 k2 i:=by
 obtain⟨hTI,h1,h2,hz⟩:=x
 refine ⟨hk _ _ n2 hTI,h1.at λo e=>hk _ _ n4 e,h2.at λo e=>hk _ _ n5 e,?_⟩
 rcases hz with⟨hz,a1,a2,hTO⟩|⟨T,fl,ot,hz,hT,t1,t2,t3,t4⟩
 ·exact .inl ⟨hk _ _ n1 hz,a1,a2,hk _ _ n3 hTO⟩
 ·exact .inr ⟨T,fl,ot,hk _ _ n1 hz,hk _ _ t4 hT,t1,t2,t3,t4⟩
end
structure ZG(xs1 xs2:Array Value)(lo:Addr)(h:Heap)(as:List Addr):Prop where
 rise:as.Pairwise (· < ·)
 above:∀a∈as,lo < a
 pairs:∀(j:Nat) (a:Addr),as[j]?=some a->∃x y,xs1[j]?=some x/\xs2[j]?=some y/\IsTup2 h a x y
section
variable {prog:Program}{w:World}{A:Around}{s:Shared}{R:Result->Shared->Prop}
end
end L2
namespace L3
open PySem PySem.Spec L2
theorem hu2_of{A:Around}{k:Nat}(hr:Room k A):A.units+2 < cLine:=G2 (G7 (by decide:2<=64) _) hr.units
noncomputable def sqD:D->Option (List D)
 | .list ds=>some ds
 | .tuple ds=>some ds
 | _=>none
section
variable {K:Fg}{F H:Hp}
theorem At.seq{v:V}{d:D}{ds:List D}(s:Sub F H)(h:At K F H v d)(e:sqD d=some ds):∃k a xs,v=.ref a/\Sq k K H a xs/\DaAll K F xs ds:=by
 cases d<;>first|cases e|skip
 ·obtain⟨a,xs,rfl,e1,d1⟩:=h.list s
  exact ⟨.l,a,xs,rfl,SqL.of e1,d1⟩
 ·obtain⟨a,xs,rfl,_,e1,d1⟩:=h.tuple s
  exact ⟨.t,a,xs,rfl,SqT.of e1,d1⟩
end
section
variable {X:Cx}{K:Fg}{e e1 e2:Expr}{a b:AD}{p pos pos' p2:Pos}
end
mutual
theorem noMix_self:∀d:D,plainD d=true->SeqAt.noMix d d=true
 | .none,_=>by simp[SeqAt.noMix]
 | .bool _,_=>by simp[SeqAt.noMix]
 | .int _,_=>by simp[SeqAt.noMix]
 | .str _,_=>by simp[SeqAt.noMix]
 | .list xs,h=>by simp[SeqAt.noMix];exact noMixAll_self xs (by simpa [plainD]using h)
 | .tuple xs,h=>by simp[SeqAt.noMix];exact noMixAll_self xs (by simpa [plainD]using h)
 | .dict _,h=>by simp[plainD]at h
theorem noMixAll_self:∀xs:List D,plainAll xs=true->SeqAt.noMixAll xs xs=true
 | [],_=>by simp[SeqAt.noMixAll]
 | x :: xs,h=>by
  simp[plainAll]at h
  simp[SeqAt.noMixAll]
  exact ⟨noMix_self x h.1,noMixAll_self xs h.2⟩
end
structure Nice(n:Nat)(d:D):Prop where
 p:plainD d=true
 c:d.canLay0=true
 d:d.depth<=n
theorem Nice.mono{n m:Nat}{d:D}(h:Nice n d)(k:n<=m):Nice m d:=⟨h.p,h.c,X0 h.d k⟩
theorem Nice.int(n:Nat)(i:Int):Nice n (.int i):=⟨rfl,by simp[N8],by simp[j9]⟩
theorem nice_all{n:Nat}:∀{l:List D},(∀d∈l,Nice n d)->plainAll l=true/\U7 l=true/\B8 l<=n
 | [],_=>⟨rfl,by simp[U7],by simp[B8]⟩
 | x :: l,h=>by
  have h1:=h x B0
  have h2:=nice_all (l:=l) λd hd=>h d (A0 _ hd)
  refine ⟨by simp[plainAll,h1.p,h2.1],by simp[U7,h1.c,h2.2.1],?_⟩
  have:=h1.d
  have:=h2.2.2
  simp[B8]
  omega
theorem Nice.list{n:Nat}{l:List D}(h:∀d∈l,Nice n d):Nice (n+1) (.list l):=by
 obtain⟨a,b,c⟩:=nice_all h
 exact ⟨by simp[plainD,a],by simp[N8,b],by simp[j9];omega⟩
theorem Nice.tuple{n:Nat}{l:List D}(h:∀d∈l,Nice n d):Nice (n+1) (.tuple l):=by
 obtain⟨a,b,c⟩:=nice_all h
 exact ⟨by simp[plainD,a],by simp[N8,b],by simp[j9];omega⟩
theorem Nice.ints(l:List Int):Nice 1 (.list (l.map j0)):=.list λd hd=>by
 obtain⟨i,_,rfl⟩:=J0.mp hd
 exact .int 0 i
theorem Nice.tup(l:List Int):Nice 1 (.tuple (l.map j0)):=.tuple λd hd=>by
 obtain⟨i,_,rfl⟩:=J0.mp hd
 exact .int 0 i
theorem Nice.sh{n:Nat}{d:D}(h:Nice n d)(k:n<=64):SeqAt.shaped d=true:=by
 have:=h.d
 unfold SeqAt.shaped
 rw[h.c]
 simp
 omega
open PySem PySem.Spec PyProof.Rows L2
theorem len_ofString(s:String):(Str.ofString s).length=s.length:=by
 rw[Str.ofString_eq_toList]
 simp only[Str.length,T0,i0]
 first|rfl|exact String.length_toList|exact String.length_toList _|simp
theorem shown_int{i:Int}{k:Nat}(hk:0 < k)(h:i.natAbs < 10 ^ k):(j0 i).shown.length<=k+1:=by
 show (Str.ofString (toString i)).length<=k+1
 rw[len_ofString]
 cases i with
 | ofNat n =>
  show (Nat.repr n).length<=k+1
  have:=(w8 (n:=n) hk).mpr h
  omega
 | negSucc m =>
  show ("-"++Nat.repr (m+1)).length<=k+1
  have h1:m+1 < 10 ^ k:=by simpa using h
  have:=(w8 (n:=m+1) hk).mpr h1
  rw[String.length_append]
  have e:("-":String).length=1:=by decide
  omega
theorem join_len(sep:Str)(b:Nat):∀ts:List Str,(∀t∈ts,t.length<=b)->(Str.join sep ts).length<=ts.length * (b+sep.length)
 | [],_=>by simp[Str.join,Str.length,Str.empty]
 | [x],h=>by
  have:=h x B0
  show x.length<=_
  simp
  omega
 | x :: y :: r,h=>by
  have h1:=h x B0
  have h2:=join_len sep b (y :: r) λt ht=>h t (A0 _ ht)
  show (x++sep++Str.join sep (y :: r)).length<=_
  rw[Str.length_append,Str.length_append,V1,K7]
  omega
theorem shownAll_map:∀l:List D,B7 l=l.map r8
 | []=>rfl
 | x :: l=>by simp[B7,shownAll_map l]
theorem shown_tuple{b:Nat}{l:List D}(h:∀d∈l,d.shown.length<=b):(S0 l).shown.length<=l.length * (b+2)+3:=by
 show (tupleText (B7 l)).length<=_
 rw[shownAll_map]
 have hj:=join_len (Str.ofString ", ") b (l.map r8) λt ht=>by
  obtain⟨d,hd,rfl⟩:=J0.mp ht
  exact h d hd
 rw[i0,len_ofString]at hj
 have e2:(", ":String).length=2:=by decide
 rw[e2]at hj
 unfold tupleText
 rw[Str.length_append,Str.length_append,len_ofString,len_ofString]
 have e1:("(":String).length=1:=by decide
 have e3:(if (((l.map r8).length==1)=true) then ",)" else ")":String).length<=2:=by split<;>decide
 omega
theorem shown_list{b:Nat}{l:List D}(h:∀d∈l,d.shown.length<=b):(B1 l).shown.length<=l.length * (b+2)+3:=by
 have gen:∀(ts:List Str) (k:Nat) (acc:Str),(∀t∈ts,t.length<=b)->(textFrom k acc ts).length<=acc.length+ts.length * (b+2):=by
  intro ts
  induction ts with
  | nil=>intro k acc _;simp[textFrom]
  | cons t ts ih =>
   intro k acc ht
   have h1:=ht t B0
   have h2:=ih (k+1) (acc++Str.ofString (if k > 0 then ", " else "")++t) λx hx=>ht x (A0 _ hx)
   rw[Str.length_append,Str.length_append,len_ofString]at h2
   have e3:(if k > 0 then ", " else "":String).length<=2:=by split<;>decide
   show (textFrom (k+1) (acc++Str.ofString (if k > 0 then ", " else "")++t) ts).length<=_
   rw[V1,K7]
   omega
 show (listText (B7 l)).length<=_
 rw[shownAll_map]
 have hg:=gen (l.map r8) 0 (Str.ofString "[") λt ht=>by
  obtain⟨d,hd,rfl⟩:=J0.mp ht
  exact h d hd
 unfold listText
 rw[Str.length_append,len_ofString]
 rw[len_ofString,i0]at hg
 have e1:("[":String).length=1:=by decide
 have e2:("]":String).length=1:=by decide
 omega
theorem showableAll_of:∀{l:List D},(∀d∈l,d.showable=true)->Z8 l=true
 | [],_=>rfl
 | x :: l,h=>by
  simp[Z8,h x B0]
  exact showableAll_of λd hd=>h d (A0 _ hd)
theorem showable_int{i:Int}{k:Nat}(h:i.natAbs < 2 ^ k)(hk:k<=1920):(j0 i).showable=true:=by
 show decide (i.natAbs.log2 < 1920)=true
 refine decide_eq_true ?_
 by_cases h0:i.natAbs=0
 ·rw[h0];decide
 ·exact P0 ((Nat.log2_lt h0).mpr h) hk
end L3
namespace L2
open PySem PySem.Spec PyProof.Rows
noncomputable def unV:V->Int
 | .int i=>i
 | _=>0
theorem unV_ints(l:List Int):(l.map V.int).map unV=l:=by rw[L0];exact L8 l
theorem ints_inj{l m:List Int}(e:l.map V.int=m.map V.int):l=m:=by rw[<- unV_ints l,<- unV_ints m,e]
noncomputable def evT(H:Hp)(p:List Int)(y:Value):Bool:=@decide (∃c,y=.ref c/\H c=some (.tup (p.map V.int))) (Classical.propDecidable _)
theorem vals_intsAt{ns:List Int}{us:List Value}(r:Vals (ns.map V.int) us){k:Nat}(h:k < us.length):∃t,us[k]=.int (ns.getD k 0) t:=by
 have hl:=r.length
 rw[i0]at hl
 have hk:k < ns.length:=by omega
 obtain⟨u,hu,ru⟩:=r.get (i:=k) (x:=.int ns[k]) (by rw[J1,O0 hk];rfl)
 obtain⟨t,e⟩:=ru
 rw[O0 h]at hu
 have hu:=X1 hu
 refine ⟨t,?_⟩
 rw[hu,e,Q3,O0 hk]
 rfl
end L2
namespace L3
open PySem PySem.Spec PyProof.Rows L2
theorem DaAll.ints_of{K:Fg}{F:Hp}{ys:List V}{p:List Int}(h:DaAll K F ys (p.map j0)):ys=p.map V.int:=by
 have e:p.map j0=(p.map λn=>(.inl n:Key)).map keyD:=by rw[L0];rfl
 rw[e]at h
 have:=h.keys
 rw[this,L0];rfl
end L3
namespace L2
open PySem PySem.Spec PyProof.Rows
section
variable {prog:Program}{w:World}{A:Around}{E:Value->Shared->Prop}{s:Shared}
theorem min_tupD{l:Addr}{xs:Array (Int×Tok)}{Q:Value->Shared->Prop}(hh:A.handled=none)(ht:s.heap.IsTuple l (intItems xs))(hne:0 < xs.size)
  (h:∀v h' tk,(intItems xs)[argBest (λi j=>decide (numAt xs i < numAt xs j)) (xs.size - 1)]?=some v->(∀b o,s.heap.get? b=some o->h'.get? b=some o)->Q v { s with heap:=h',toks:=tk }) :
  wpAny (model prog w) A (call (.builtin "min") [.ref l]) Q E s:=by
 obtain⟨o,ho,hc,n,hd⟩:=id ht
 have hn:l≠s.heap.objs.size:=E1 (G0 ho)
 refine call_min_walk (wpAny_pyIter_tuple ht ?_)
 refine ⟨s.heap.objs.size,_,_,_,_,_,_,rfl,Walks.tuple (A:=A.in1) hh _ l hn (intItems xs),⟨⟨_,K0 _ rfl,rfl,rfl⟩,ht.push _⟩,λb hb=>?_,by simpa [intItems]using hne,CmpOf.ints_lt (numAt xs) (λ_ _=>intItems_at),λv h' tk hP hk=>?_⟩
 ·rcases Y0.mp hb with rfl|hb
  ·exact G0 (K0 _ rfl)
  ·obtain rfl:=B3.mp hb
   exact G0 (g0 _ ho)
 ·exact h v h' tk (by simpa [intItems]using hP) λb o e=>hk b o (λhb=>absurd (G0 e) ((B3.mp hb) ▸ E3 _)) (g0 _ e)
theorem max_tupD{l:Addr}{xs:Array (Int×Tok)}{Q:Value->Shared->Prop}(hh:A.handled=none)(ht:s.heap.IsTuple l (intItems xs))(hne:0 < xs.size)
  (h:∀v h' tk,(intItems xs)[argBest (λi j=>decide (numAt xs i > numAt xs j)) (xs.size - 1)]?=some v->(∀b o,s.heap.get? b=some o->h'.get? b=some o)->Q v { s with heap:=h',toks:=tk }) :
  wpAny (model prog w) A (call (.builtin "max") [.ref l]) Q E s:=by
 obtain⟨o,ho,hc,n,hd⟩:=id ht
 have hn:l≠s.heap.objs.size:=E1 (G0 ho)
 refine call_max_walk (wpAny_pyIter_tuple ht ?_)
 refine ⟨s.heap.objs.size,_,_,_,_,_,_,rfl,Walks.tuple (A:=A.in1) hh _ l hn (intItems xs),⟨⟨_,K0 _ rfl,rfl,rfl⟩,ht.push _⟩,λb hb=>?_,by simpa [intItems]using hne,CmpOf.ints_gt (numAt xs) (λ_ _=>intItems_at),λv h' tk hP hk=>?_⟩
 ·rcases Y0.mp hb with rfl|hb
  ·exact G0 (K0 _ rfl)
  ·obtain rfl:=B3.mp hb
   exact G0 (g0 _ ho)
 ·exact h v h' tk (by simpa [intItems]using hP) λb o e=>hk b o (λhb=>absurd (G0 e) ((B3.mp hb) ▸ E3 _)) (g0 _ e)
end
noncomputable def rMnI(K:u0):List V->Hp->VK->Prop:=λxs H Q=>∃(a:Addr) (ns:List Int),xs=[.ref a]/\(SqL K H a (ns.map V.int)\/SqT K H a (ns.map V.int))/\0 < ns.length/\∀M,M∈ns->(∀y∈ns,M<=y)->Q (.int M) H
noncomputable def rMxI(K:u0):List V->Hp->VK->Prop:=λxs H Q=>∃(a:Addr) (ns:List Int),xs=[.ref a]/\(SqL K H a (ns.map V.int)\/SqT K H a (ns.map V.int))/\0 < ns.length/\∀M,M∈ns->(∀y∈ns,y<=M)->Q (.int M) H
theorem call_mnI{X:Cx}{K:u0}(hK:X.K=K)(hc:X.calm=true):CallR X (.builtin "min") (rMnI K):=by
 subst hK
 intro pins s σ H xs us Q I r h
 obtain⟨a,ns,rfl,hq,hp,q⟩:=h
 obtain⟨u,rfl,ru⟩:=vals1 r
 cases ru
 have hh:=I.ok.hd hc
 have fin:∀{its:List Value}{zs:Array (Int×Tok)},Vals (ns.map V.int) its->its.toArray=intItems zs->0 < zs.size/\∀(v:Value) (h':Heap) (tk:Nat),(intItems zs)[argBest (λi j=>decide (numAt zs i < numAt zs j)) (zs.size - 1)]?=some v->(∀b o,s.heap.get? b=some o->h'.get? b=some o)->EP X pins σ Q v { s with heap:=h',toks:=tk }:=by
  intro its zs rv e
  have hi:IntsAre its ns:=intsAre_of rv
  have hns:ns=zs.toList.map (·.1):=by rw[<- nums_intItems,<- e];exact (show numsOf its.toArray.toList=ns from hi.numsOf).symm
  have hsz:0 < zs.size:=by have h3:=hp;rw[hns,i0,Q0]at h3;exact h3
  refine ⟨hsz,λv h' tk hv hk=>?_⟩
  obtain⟨t,rfl⟩:=intItems_at hv
  obtain⟨h1,h2⟩:=argBest_lt (numAt zs) (zs.size - 1)
  refine ⟨.int _,H,I.kept hk,⟨t,rfl⟩,q _ ?_ λy hy=>?_⟩
  ·rw[hns,numAt_eq];exact getD_mem (by rw[i0,Q0];omega)
  ·rw[hns]at hy
   obtain⟨j,hj,rfl⟩:=mem_getD hy
   rw[i0,Q0]at hj
   rw[<- numAt_eq];exact h2 j (by omega)
 rcases hq with hq|hq
 ·obtain⟨its,rv,p,hz⟩:=I.list hq
  obtain⟨zs,hx⟩:=(intsAre_of rv).allInts.items
  obtain⟨hs,f⟩:=fin rv hx
  exact min_intList hh (hx ▸ p.isList) hs f
 ·obtain⟨its,rv,p,hz⟩:=I.tuple hq
  obtain⟨zs,hx⟩:=(intsAre_of rv).allInts.items
  obtain⟨hs,f⟩:=fin rv hx
  exact min_tupD hh (show s.heap.IsTuple a (intItems zs) from hx ▸ p) hs f
theorem call_mxI{X:Cx}{K:u0}(hK:X.K=K)(hc:X.calm=true):CallR X (.builtin "max") (rMxI K):=by
 subst hK
 intro pins s σ H xs us Q I r h
 obtain⟨a,ns,rfl,hq,hp,q⟩:=h
 obtain⟨u,rfl,ru⟩:=vals1 r
 cases ru
 have hh:=I.ok.hd hc
 have fin:∀{its:List Value}{zs:Array (Int×Tok)},Vals (ns.map V.int) its->its.toArray=intItems zs->0 < zs.size/\∀(v:Value) (h':Heap) (tk:Nat),(intItems zs)[argBest (λi j=>decide (numAt zs i > numAt zs j)) (zs.size - 1)]?=some v->(∀b o,s.heap.get? b=some o->h'.get? b=some o)->EP X pins σ Q v { s with heap:=h',toks:=tk }:=by
  intro its zs rv e
  have hi:IntsAre its ns:=intsAre_of rv
  have hns:ns=zs.toList.map (·.1):=by rw[<- nums_intItems,<- e];exact (show numsOf its.toArray.toList=ns from hi.numsOf).symm
  have hsz:0 < zs.size:=by have h3:=hp;rw[hns,i0,Q0]at h3;exact h3
  refine ⟨hsz,λv h' tk hv hk=>?_⟩
  obtain⟨t,rfl⟩:=intItems_at hv
  obtain⟨h1,h2⟩:=argBest_gt (numAt zs) (zs.size - 1)
  refine ⟨.int _,H,I.kept hk,⟨t,rfl⟩,q _ ?_ λy hy=>?_⟩
  ·rw[hns,numAt_eq];exact getD_mem (by rw[i0,Q0];omega)
  ·rw[hns]at hy
   obtain⟨j,hj,rfl⟩:=mem_getD hy
   rw[i0,Q0]at hj
   rw[<- numAt_eq];exact h2 j (by omega)
 rcases hq with hq|hq
 ·obtain⟨its,rv,p,hz⟩:=I.list hq
  obtain⟨zs,hx⟩:=(intsAre_of rv).allInts.items
  obtain⟨hs,f⟩:=fin rv hx
  exact max_intList hh (hx ▸ p.isList) hs f
 ·obtain⟨its,rv,p,hz⟩:=I.tuple hq
  obtain⟨zs,hx⟩:=(intsAre_of rv).allInts.items
  obtain⟨hs,f⟩:=fin rv hx
  exact max_tupD hh (show s.heap.IsTuple a (intItems zs) from hx ▸ p) hs f
end L2
namespace L3
open PySem PySem.Spec PyProof.Rows L2
section
variable {K:Fg}{σ:L2.St}{H:Hp}{v:V}{Q:L2.St->Hp->Prop}
end
noncomputable def fMnI:D->(Sl->Prop)->Prop
 | .list ds,Q=>∃ns:List Int,ds=ns.map j0/\0 < ns.length/\∀M,M∈ns->(∀y∈ns,M<=y)->Q (.fz (.int M))
 | .tuple ds,Q=>∃ns:List Int,ds=ns.map j0/\0 < ns.length/\∀M,M∈ns->(∀y∈ns,M<=y)->Q (.fz (.int M))
 | _,_=>False
noncomputable def fMxI:D->(Sl->Prop)->Prop
 | .list ds,Q=>∃ns:List Int,ds=ns.map j0/\0 < ns.length/\∀M,M∈ns->(∀y∈ns,y<=M)->Q (.fz (.int M))
 | .tuple ds,Q=>∃ns:List Int,ds=ns.map j0/\0 < ns.length/\∀M,M∈ns->(∀y∈ns,y<=M)->Q (.fz (.int M))
 | _,_=>False
theorem ok_mnI{K:Fg}:OpOk K (rMnI K) (o1 fMnI):=ok1 λG F σ H ρ x d Q Qd R h1 w k=>by
 match d,h1,w with
 | .list ds,h1,⟨ns,e,hp,w⟩ =>
  subst e
  obtain⟨a,us,rfl,e1,d1⟩:=h1.list R.sub
  have:=d1.intsV
  subst this
  exact ⟨a,ns,rfl,.inl (SqL.of e1),hp,λM m1 m2=>k _ H F (.fz _) (Sub.refl _) R (Da.int _) (w M m1 m2)⟩
 | .tuple ds,h1,⟨ns,e,hp,w⟩ =>
  subst e
  obtain⟨a,us,rfl,_,e1,d1⟩:=h1.tuple R.sub
  have:=d1.intsV
  subst this
  exact ⟨a,ns,rfl,.inr (SqT.of e1),hp,λM m1 m2=>k _ H F (.fz _) (Sub.refl _) R (Da.int _) (w M m1 m2)⟩
theorem ok_mxI{K:Fg}:OpOk K (rMxI K) (o1 fMxI):=ok1 λG F σ H ρ x d Q Qd R h1 w k=>by
 match d,h1,w with
 | .list ds,h1,⟨ns,e,hp,w⟩ =>
  subst e
  obtain⟨a,us,rfl,e1,d1⟩:=h1.list R.sub
  have:=d1.intsV
  subst this
  exact ⟨a,ns,rfl,.inl (SqL.of e1),hp,λM m1 m2=>k _ H F (.fz _) (Sub.refl _) R (Da.int _) (w M m1 m2)⟩
 | .tuple ds,h1,⟨ns,e,hp,w⟩ =>
  subst e
  obtain⟨a,us,rfl,_,e1,d1⟩:=h1.tuple R.sub
  have:=d1.intsV
  subst this
  exact ⟨a,ns,rfl,.inr (SqT.of e1),hp,λM m1 m2=>k _ H F (.fz _) (Sub.refl _) R (Da.int _) (w M m1 m2)⟩
open PySem PySem.Spec L2
section
variable {K:Fg}{G:Gh}{F F' H H':Hp}{σ:L2.St}{ρ:Ev}
theorem Rel.grown(R:Rel K G F σ H ρ)(sb:Sub F F')(su:Sub F' H')(fn:∀b o,F' b=some o->F b=some o\/H b=none)(kp:∀b o,H b=some o->H' b=some o):Rel K G F' σ H' ρ:=by
 refine ⟨R.len,su,R.sub0.trans sb,λb o e=>?_,λa o e n=>kp _ _ (R.keep a o e n),λi d e=>?_,λi s e w=>?_,R.new,R.io,R.ioi,R.ap⟩
 ·rcases fn b o e with q|q
  ·exact R.fn b o q
  ·exact .inr (R.h0 q)
 ·obtain⟨v,h1,h2⟩:=R.fz i d e
  exact ⟨v,h1,h2.mono sb⟩
 ·obtain⟨a,o,h1,h2,h3,h4⟩:=R.ow i s e w
  refine ⟨a,o,h1,?_,kp _ _ h3,h4.mono sb⟩
  cases q:F' a with
  | none=>rfl
  | some u =>
   rcases fn a u q with z|z
   ·rw[h2]at z;cases z
   ·rw[h3]at z;cases z
noncomputable def okRes:Sl->Bool
 | .fz d=>noMut d
 | .ow (.list ds)=>noMutAll ds
 | _=>false
noncomputable def dCallL(con:Con)(as:List AD):TD:=λρ Q=>dArgs as ρ λxs ρ1=>looksQ ρ1 xs λds=>con (ds.map Sl.fz) λr _=>okRes r=true/\Q r ρ1
theorem Res.calledL{xs:List Opd}(R:Rel K G F σ H ρ){σ1:L2.St}{ρ1:Ev}{v:V}{r:Sl}(R':Rel K ⟨H,lend σ ρ xs F H,λ_=>none⟩ F' σ1 H' ρ1)(q:Res K ⟨H,lend σ ρ xs F H,λ_=>none⟩ F' H' σ1 ρ1 v r)
  (hl:okRes r=true):Res K G (unlend σ ρ xs F') H' σ ρ v r:=by
 have tp:∀b ys,F' b=some (.tup ys)->unlend σ ρ xs F' b=some (.tup ys):=λb ys e=>by
  have n:¬LentA σ ρ xs b:=λz=>by
   obtain⟨_,_,o,_,_,_,_,h,w⟩:=z.own R
   have e2:=R'.sub0 b o (by show lend σ ρ xs F H b=some o;rw[lend_is z];exact h)
   rw[e]at e2;cases e2
   exact w
  rw[unlend_not n];exact e
 cases r with
 | fz d=>exact Da.noMut tp q hl
 | io d=>exact q.elim
 | ow d =>
  obtain⟨a,o,h1,h2,h3,h4,h5,_⟩:=q
  have h5:H a=none:=h5
  have nl:¬LentA σ ρ xs a:=λz=>by
   obtain⟨_,_,o,_,_,_,_,h,w⟩:=z.own R
   rw[h5]at h;cases h
  refine ⟨a,o,h1,by rw[unlend_not nl];exact h2,h3,?_,R.h0 h5,λi s es w z=>?_⟩
  ·cases d with
   | list ds =>
    cases o with
    | lst ys=>exact DaAll.noMut tp h4 hl
    | _=>exact h4.elim
   | _=>cases hl
  ·obtain⟨a',o',g1,_,g3,_⟩:=R.ow i s es w
   rw[z]at g1;cases g1
   rw[h5]at g3;cases g3
theorem l_callL{con:Con}{as:List AD}{E:XK}{Q:VK}(h:lift K (dCallL con as) σ H Q):tCall (conSp K con) [] E (tArgs (as.map (argT K))) σ H Q:=by
 obtain⟨G,F,ρ,Qd,R,w,k⟩:=h
 refine args_ok R w λvs H1 F1 xs ρ1 s1 R1 o w1=>?_
 obtain⟨ds,da,w1⟩:=lend_looks (xs:=xs) R1 (λy hy=>hy) o w1
 rw[K1]
 refine ⟨_,_,ds.map Sl.fz,_,rel_call (lend_le R1) da,w1,λv H' F' r ρ' s' R' r' q=>?_⟩
 obtain⟨sb,R2⟩:=R1.called R'
 exact k v H' _ r ρ1 (s1.trans sb) R2 (Res.calledL R1 R' r' q.1) q.2
end
section
variable {X:Cx}{K:Fg}{e:Expr}{es:List Expr}{as:List AD}{x:Str}{p pos:Pos}
theorem w_fnL{k:Nat}{ps:List Str}{con:Con}(C:Cal X.prog X.w X.K X.mg X.base k x ps (conSp K con))(hr:Room k X.A)(ha:WA X (e :: es) (tArgs (as.map (argT K))))(hg:Gl X x:=by rfl)(hdb:(x==("__debug__":Str))=false:=by decide)
  (he:notStar e=true:=by rfl) (hpl:es.all notStar=true:=by rfl):WE X (.Call (.Name x p) (e :: es) [] pos) (lift K (dCallL con as)):=⟨peM (pe_fn C hr ha.h hg hdb (starEach_of he) (plain_of hpl)) l_callL⟩
end
end L3
namespace SG
open PySem PyProof.Rows
noncomputable def gal:Bool->Keyed->Array Keyed->Nat->Nat->Nat->StateT SortSt Sem (Option Nat):=sortPriv% PySem.Builtin.gallop
noncomputable def mLo:Array Keyed->Array Keyed->StateT SortSt Sem (Array Keyed):=sortPriv% PySem.Builtin.mergeLo
noncomputable def mHi:Array Keyed->Array Keyed->StateT SortSt Sem (Array Keyed):=sortPriv% PySem.Builtin.mergeHi
noncomputable abbrev setG(z:SortSt)(g:Nat):SortSt:=SortSt.mk' (kindOf z) (arrOf z) (pendingOf z) g (failedOf z)
theorem gal_eq(lf:Bool)(ky:Keyed)(xs:Array Keyed)(bs n ht:Nat):gal lf ky xs bs n ht=(do
    let ov (i:Nat):StateT SortSt Sem (Option Bool):=do
      let z<-elem' xs (bs+i)
      if lf then lt' z ky else return (<- lt' ky z).map (!·)
    let mut la:=0
    let mut o:=1
    let mut l:=0
    let mut h:=0
    let some rt<-ov ht|return none
    if rt then
      let mx:=n - ht
      for _ in [0:n] do
        if o ≥ mx then break
        let some mo<-ov (ht+o)|return none
        if !mo then break
        la:=o
        o:=2 * o+1
      l:=ht+la+1
      h:=ht+min o mx
    else
      let mx:=ht+1
      for _ in [0:n] do
        if o ≥ mx then break
        let some fo<-ov (ht - o)|return none
        if fo then break
        la:=o
        o:=2 * o+1
      l:=ht+1 - min o mx
      h:=ht - la
    for _ in [0:n] do
      if l ≥ h then break
      let m:=l+(h - l) / 2
      let some mo<-ov m|return none
      if mo then l:=m+1 else h:=m
    return some h):=rfl
section
variable {prog:Program}{w:World}{A:Around}{E:Value->Shared->Prop}{s:Shared}{κ:SortKind}{rk:Keyed->Nat}{S:Keyed->Prop}
noncomputable def Asks(prog:Program)(w:World)(A:Around)(s:Shared)(κ:SortKind)(rk:Keyed->Nat)(S:Keyed->Prop):Prop :=
 ∀x y:Keyed,S x->S y->∀Q:Bool->Shared->Prop,Q (decide (rk x < rk y)) s->wpAny (model prog w) A (keyLt' κ x.1 y.1) Q (λ_ _=>False) s
theorem w_lt(q:Asks prog w A s κ rk S){x y:Keyed}{st:SortSt}{Q:Option Bool->SortSt->Prop}(hk:kindOf st=κ)(hx:S x)(hy:S y)(h:Q (some (decide (rk x < rk y))) st) :
  wpS (model prog w) A E s (lt' x y) Q st:=by
 rw[lt'_eq]
 refine wpS_bind (wpS_get ?_)
 rw[hk]
 refine wpS_bind (wpS_lift (wpAny_attempt (wpAny_mono (q x y hx hy (λb s'=>b=decide (rk x < rk y)/\s'=s) ⟨rfl,rfl⟩) (λb s' e=>?_) λ_ _ e=>e.elim)))
 obtain⟨rfl,rfl⟩:=e
 exact ⟨rfl,wpS_pure h⟩
theorem w_elem{xs:Array Keyed}{i:Nat}{st:SortSt}{Q:Keyed->SortSt->Prop}(hi:i < xs.size)(h:Q xs[i] st):wpS (model prog w) A E s (elem' xs i) Q st:=by
 rw[elem'_eq,getElem?_pos xs i hi]
 exact wpS_pure h
noncomputable def Ov(prog:Program)(w:World)(A:Around)(E:Value->Shared->Prop)(s:Shared)(n:Nat)(b:Nat->Bool)(st:SortSt)(ov:Nat->StateT SortSt Sem (Option Bool)):Prop :=
 ∀i,i < n->∀Q:Option Bool->SortSt->Prop,Q (some (b i)) st->wpS (model prog w) A E s (ov i) Q st
noncomputable def binL(ov:Nat->StateT SortSt Sem (Option Bool))(n l₀ h₀:Nat):StateT SortSt Sem (Option Nat):=do
 let mut l:=l₀
 let mut h:=h₀
 for _ in [0:n] do
  if l ≥ h then break
  let m:=l+(h - l) / 2
  let some mo<-ov m|return none
  if mo then l:=m+1 else h:=m
 return some h
theorem w_bin{ov:Nat->StateT SortSt Sem (Option Bool)}{n l h':Nat}{b:Nat->Bool}{st:SortSt}{Q:Option Nat->SortSt->Prop}(hO:Ov prog w A E s n b st ov)
  (hm:∀i j,i<=j->j < n->b j=true->b i=true) (h1:l<=h') (h2:h'<=n) (h3:∀i,i < l->b i=true) (h4:∀i,h'<=i->i < n->b i=false)
  (h:∀k,k<=n->(∀i,i < k->b i=true)->(∀i,k<=i->i < n->b i=false)->Q (some k) st):wpS (model prog w) A E s (binL ov n l h') Q st:=by
 unfold binL
 refine wpS_bind (wpS_mono (wpS_forRange (I:=λx c st'=>st'=st/\∃l h',c=(none,l,h')/\l<=h'/\h'<=n/\h' - l<=n - x/\(∀i,i < l->b i=true)/\∀i,h'<=i->i < n->b i=false)
   (Q:=λc st'=>st'=st/\∃k,c=(none,k,k)/\k<=n/\(∀i,i < k->b i=true)/\∀i,k<=i->i < n->b i=false) ?step ?fin ⟨rfl,l,h',rfl,h1,h2,by omega,h3,h4⟩) ?post)
 case fin =>
  rintro c st' ⟨rfl,l,h',rfl,a1,a2,a3,a4,a5⟩
  have:l=h':=by omega
  subst this
  exact ⟨rfl,l,rfl,a2,a4,a5⟩
 case post =>
  rintro c st' ⟨rfl,k,rfl,a1,a2,a3⟩
  exact wpS_pure (h k a1 a2 a3)
 case step =>
  rintro x c st' _ hx ⟨rfl,l,h',rfl,a1,a2,a3,a4,a5⟩
  dsimp only
  by_cases hge:l ≥ h'
  ·rw[if_pos hge]
   have:l=h':=by omega
   subst this
   exact wpS_pure ⟨rfl,l,rfl,a2,a4,a5⟩
  ·rw[if_neg hge]
   refine wpS_bind (hO _ (by omega) _ ?_)
   cases hb:b (l+(h' - l) / 2) with
   | true =>
    refine wpS_pure ⟨rfl,_,_,rfl,by omega,a2,by omega,λi hi=>hm _ _ (by omega) (by omega) hb,a5⟩
   | false =>
    refine wpS_pure ⟨rfl,_,_,rfl,by omega,by omega,by omega,a4,λi i1 i2=>?_⟩
    cases hbi:b i with
    | false=>rfl
    | true=>rw[hm _ _ i1 i2 hbi]at hb;cases hb
theorem w_gal{lf:Bool}{ky:Keyed}{xs:Array Keyed}{bs n ht:Nat}{st:SortSt}{Q:Option Nat->SortSt->Prop}{b:Nat->Bool}
  (hO:Ov prog w A E s n b st (λi=>do
    let z<-elem' xs (bs+i)
    if lf then lt' z ky else return (<- lt' ky z).map (!·)))
  (hm:∀i j,i<=j->j < n->b j=true->b i=true) (hh:ht < n)
  (h:∀k,k<=n->(∀i,i < k->b i=true)->(∀i,k<=i->i < n->b i=false)->Q (some k) st):wpS (model prog w) A E s (gal lf ky xs bs n ht) Q st:=by
 rw[gal_eq]
 generalize hov:(λi=>(do
     let z<-elem' xs (bs+i)
     if lf then lt' z ky else return (<- lt' ky z).map (!·):StateT SortSt Sem (Option Bool)))=ov at hO
 dsimp only
 clear hov
 refine wpS_bind (hO ht hh _ ?_)
 cases hb:b ht with
 | true =>
  dsimp only
  rw[if_pos rfl]
  refine wpS_bind (wpS_mono (wpS_forRange (I:=λx c st'=>st'=st/\∃la o:Nat,c=(none,la,o)/\la < o/\x+1<=o/\ht+la < n/\b (ht+la)=true)
    (Q:=λc st'=>st'=st/\∃la o:Nat,c=(none,la,o)/\la < o/\ht+la < n/\b (ht+la)=true/\(n - ht<=o\/b (ht+o)=false)) ?step ?fin ⟨rfl,0,1,rfl,by omega,by omega,by omega,hb⟩) ?post)
  case fin =>
   rintro c st' ⟨rfl,la,o,rfl,a1,a2,a3,a4⟩
   exact ⟨rfl,la,o,rfl,a1,a3,a4,.inl (by omega)⟩
  case step =>
   rintro x c st' _ hx ⟨rfl,la,o,rfl,a1,a2,a3,a4⟩
   dsimp only
   by_cases hge:o ≥ n - ht
   ·rw[if_pos hge]
    exact wpS_pure ⟨rfl,la,o,rfl,a1,a3,a4,.inl hge⟩
   ·rw[if_neg hge]
    refine wpS_bind (hO _ (by omega) _ ?_)
    cases hbo:b (ht+o) with
    | true=>exact wpS_pure ⟨rfl,o,2 * o+1,rfl,by omega,by omega,by omega,hbo⟩
    | false=>exact wpS_pure ⟨rfl,la,o,rfl,a1,a3,a4,.inr hbo⟩
  case post =>
   rintro c st' ⟨rfl,la,o,rfl,a1,a3,a4,a5⟩
   refine w_bin hO hm (l:=ht+la+1) (h':=ht+min o (n - ht)) (by omega) (by omega) (λi hi=>hm _ _ (by omega) a3 a4) (λi i1 i2=>?_) h
   rcases a5 with a5|a5
   ·omega
   ·cases hbi:b i with
    | false=>rfl
    | true=>rw[hm (ht+o) i (by omega) i2 hbi]at a5;cases a5
 | false =>
  dsimp only
  rw[if_neg (by decide)]
  refine wpS_bind (wpS_mono (wpS_forRange (I:=λx c st'=>st'=st/\∃la o:Nat,c=(none,la,o)/\la < o/\x+1<=o/\la<=ht/\b (ht - la)=false)
    (Q:=λc st'=>st'=st/\∃la o:Nat,c=(none,la,o)/\la < o/\la<=ht/\b (ht - la)=false/\(ht+1<=o\/b (ht - o)=true)) ?step2 ?fin2 ⟨rfl,0,1,rfl,by omega,by omega,by omega,hb⟩) ?post2)
  case fin2 =>
   rintro c st' ⟨rfl,la,o,rfl,a1,a2,a3,a4⟩
   exact ⟨rfl,la,o,rfl,a1,a3,a4,.inl (by omega)⟩
  case step2 =>
   rintro x c st' _ hx ⟨rfl,la,o,rfl,a1,a2,a3,a4⟩
   dsimp only
   by_cases hge:o ≥ ht+1
   ·rw[if_pos hge]
    exact wpS_pure ⟨rfl,la,o,rfl,a1,a3,a4,.inl hge⟩
   ·rw[if_neg hge]
    refine wpS_bind (hO _ (by omega) _ ?_)
    cases hbo:b (ht - o) with
    | false=>exact wpS_pure ⟨rfl,o,2 * o+1,rfl,by omega,by omega,by omega,hbo⟩
    | true=>exact wpS_pure ⟨rfl,la,o,rfl,a1,a3,a4,.inr hbo⟩
  case post2 =>
   rintro c st' ⟨rfl,la,o,rfl,a1,a3,a4,a5⟩
   have up:∀i,ht - la<=i->i < n->b i=false:=λi i1 i2=>by
    cases hbi:b i with
    | false=>rfl
    | true=>rw[hm (ht - la) i i1 i2 hbi]at a4;cases a4
   refine w_bin hO hm (l:=ht+1 - min o (ht+1)) (h':=ht - la) (by omega) (by omega) (λi hi=>?_) up h
   rcases a5 with a5|a5
   ·omega
   ·exact hm _ (ht - o) (by omega) (by omega) a5
theorem w_gallop(q:Asks prog w A s κ rk S){lf:Bool}{ky:Keyed}{xs:Array Keyed}{bs n ht:Nat}{st:SortSt}{Q:Option Nat->SortSt->Prop}(hk:kindOf st=κ)(hy:S ky)(hS:∀i (h:i < xs.size),S xs[i])
  (hn:bs+n<=xs.size) (hs:∀i j (h:j < xs.size) (h2:i<=j),bs<=i->j < bs+n->rk (xs[i]'(by omega))<=rk xs[j]) (hh:ht < n)
  (h:∀k,k<=n->(∀i (h:i < xs.size),bs<=i->i < bs+k->if lf=true then rk xs[i] < rk ky else rk xs[i]<=rk ky)->(∀i (h:i < xs.size),bs+k<=i->i < bs+n->if lf=true then rk ky<=rk xs[i] else rk ky < rk xs[i])->Q (some k) st) :
  wpS (model prog w) A E s (gal lf ky xs bs n ht) Q st:=by
 refine w_gal (b:=λi=>if hi:bs+i < xs.size then (if lf=true then decide (rk xs[bs+i] < rk ky) else !decide (rk ky < rk xs[bs+i])) else false) ?_ ?_ hh ?_
 ·intro i hi Q hQ
  have hi':bs+i < xs.size:=by omega
  simp only[dif_pos hi']at hQ
  refine wpS_bind (w_elem hi' ?_)
  cases lf with
  | true=>exact w_lt q hk (hS _ _) hy hQ
  | false=>exact wpS_bind (w_lt q hk hy (hS _ _) (wpS_pure hQ))
 ·intro i j hij hj hb
  have hj':bs+j < xs.size:=by omega
  have hi':bs+i < xs.size:=by omega
  have hle:=hs (bs+i) (bs+j) hj' (by omega) (by omega) (by omega)
  simp only[dif_pos hj']at hb
  simp only[dif_pos hi']
  cases lf with
  | true=>simp at hb ⊢;omega
  | false=>simp at hb ⊢;omega
 ·intro k hk h1 h2
  refine h k hk (λi hi i1 i2=>?_) (λi hi i1 i2=>?_)
  ·have:=h1 (i - bs) (by omega)
   have e:bs+(i - bs)=i:=by omega
   simp only[e,dif_pos hi]at this
   cases lf with
   | true=>simpa using this
   | false=>simpa using this
  ·have:=h2 (i - bs) (by omega) (by omega)
   have e:bs+(i - bs)=i:=by omega
   simp only[e,dif_pos hi]at this
   cases lf with
   | true=>simpa using this
   | false=>simpa using this
end
section
variable {α:Type}{le:α->α->Prop}{a b out:List α}{i j:Nat}
structure Mg(le:α->α->Prop)(a b out:List α)(i j:Nat):Prop where
 perm:out.Perm (a.take i++b.take j)
 srt:out.Pairwise le
 la:∀x∈out,∀y∈a.drop i,le x y
 lb:∀x∈out,∀y∈b.drop j,le x y
theorem Mg.comm(h:Mg le a b out i j):Mg le b a out j i:=⟨h.perm.trans t6,h.srt,h.lb,h.la⟩
theorem Mg.takeA(h:Mg le a b out i j)(ha:a.Pairwise le)(k:Nat)(hk:∀x∈(a.drop i).take k,∀y∈b.drop j,le x y):Mg le a b (out++(a.drop i).take k) (i+k) j where
 perm:=by
  rw[List.take_add]
  refine (h.perm.append_right _).trans ?_
  rw[L1,L1]
  exact List.Perm.append_left _ t6
 srt:=Q5.mpr ⟨h.srt,(ha.sublist (U6 _ _)).sublist (T7 _ _),λx hx y hy=>h.la x hx y (Q8 hy)⟩
 la:=λx hx y hy=>by
  rw[<- O8]at hy
  rcases W1.mp hx with hx|hx
  ·exact h.la x hx y (List.mem_of_mem_drop hy)
  ·have p:=ha.sublist (U6 i _)
   rw[<- J4 k (a.drop i)]at p
   exact (Q5.mp p).2.2 x hx y hy
 lb:=λx hx y hy=>by
  rcases W1.mp hx with hx|hx
  ·exact h.lb x hx y hy
  ·exact hk x hx y hy
theorem Mg.oneA(h:Mg le a b out i j)(ha:a.Pairwise le)(hi:i < a.length)(hk:∀y∈b.drop j,le a[i] y):Mg le a b (out++[a[i]]) (i+1) j:=by
 have e:(a.drop i).take 1=[a[i]]:=by rw[T3 hi];rfl
 have:=h.takeA ha 1 (by rw[e];simpa using hk)
 rwa [e]at this
theorem Mg.fin(h:Mg le a b out i j)(ha:a.Pairwise le)(hb:b.Pairwise le)(hx:∀x∈a.drop i,∀y∈b.drop j,le x y):(out++a.drop i++b.drop j).Perm (a++b)/\(out++a.drop i++b.drop j).Pairwise le:=by
 constructor
 ·have e:(a.take i++b.take j++a.drop i++b.drop j).Perm (a.take i++a.drop i++(b.take j++b.drop j)):=by
   simp only[L1]
   refine List.Perm.append_left _ ?_
   rw[<- L1,<- L1]
   exact t6.append_right _
  rw[J4,J4]at e
  exact ((h.perm.append_right _).append_right _).trans e
 ·rw[L1]
  refine Q5.mpr ⟨h.srt,Q5.mpr ⟨ha.sublist (U6 _ _),hb.sublist (U6 _ _),hx⟩,λx hx y hy=>?_⟩
  rcases W1.mp hy with hy|hy
  ·exact h.la x hx y hy
  ·exact h.lb x hx y hy
theorem Mg.finC(h:Mg le a b out i j)(ha:a.Pairwise le)(hb:b.Pairwise le)(hx:∀x∈b.drop j,∀y∈a.drop i,le x y):(out++b.drop j++a.drop i).Perm (a++b)/\(out++b.drop j++a.drop i).Pairwise le:=by
 obtain⟨h1,h2⟩:=h.comm.fin hb ha hx
 exact ⟨h1.trans t6,h2⟩
end
noncomputable abbrev LoT:=Option (Array Keyed)×Array Keyed×Nat×Nat×Nat×Nat×Nat
noncomputable abbrev LoS:=Option (Array Keyed)×Array Keyed×Nat×Nat×Nat×Nat
noncomputable abbrev LoO:=Option (Array Keyed)×Array Keyed×Nat×Nat×Nat
section
variable (x y:Array Keyed)
noncomputable def dn(o:Array Keyed)(i j:Nat):Array Keyed:=o++x.extract i x.size++y.extract j y.size
noncomputable def ls(o:Array Keyed)(i j:Nat):Array Keyed:=o++y.extract j y.size++x.extract i x.size
noncomputable def lo2(o:Array Keyed)(i j g ac bc:Nat):StateT SortSt Sem (ForInStep LoT):=do
 let z<-elem' x i
 if (i+1+1==x.size)=true then pure (.done (some (ls x y (o.push z) (i+1) j),o.push z,i+1,j,g,ac,bc))
 else if (decide (ac < 7)&&decide (bc < 7))=true then pure (.done (none,o.push z,i+1,j,g,ac,bc))
 else pure (.yield (none,o.push z,i+1,j,g,ac,bc))
noncomputable def lo1(o:Array Keyed)(i j g ac bc:Nat):StateT SortSt Sem (ForInStep LoT):=do
 let z<-elem' y j
 if (j+1==y.size)=true then pure (.done (some (dn x y (o.push z) i (j+1)),o.push z,i,j+1,g,ac,bc))
 else do
  let u<-elem' x i
  let some k<-gal true u y (j+1) (y.size - (j+1)) 0|pure (.done (some (dn x y (o.push z) i (j+1)),o.push z,i,j+1,g,ac,bc))
  if k > 0 then
   if (j+1+k==y.size)=true then pure (.done (some (dn x y (o.push z++y.extract (j+1) (j+1+k)) i (j+1+k)),o.push z++y.extract (j+1) (j+1+k),i,j+1+k,g,ac,k))
   else lo2 x y (o.push z++y.extract (j+1) (j+1+k)) i (j+1+k) g ac k
  else lo2 x y (o.push z) i (j+1) g ac k
noncomputable def lo0(o:Array Keyed)(i j g ac bc:Nat):StateT SortSt Sem (ForInStep LoT):=do
 modify λv=>setG v g
 let z<-elem' y j
 let some k<-gal false z x i (x.size - i) 0|pure (.done (some (dn x y o i j),o,i,j,g,ac,bc))
 if k > 0 then
   if (i+k+1==x.size)=true then pure (.done (some (ls x y (o++x.extract i (i+k)) (i+k) j),o++x.extract i (i+k),i+k,j,g,k,bc))
   else if (i+k==x.size)=true then pure (.done (some (dn x y (o++x.extract i (i+k)) (i+k) j),o++x.extract i (i+k),i+k,j,g,k,bc))
   else lo1 x y (o++x.extract i (i+k)) (i+k) j g k bc
 else lo1 x y o i j g k bc
noncomputable def loG(t:LoT):StateT SortSt Sem (ForInStep LoT) :=
 if t.2.2.2.2.1 > 1 then lo0 x y t.2.1 t.2.2.1 t.2.2.2.1 (t.2.2.2.2.1 - 1) t.2.2.2.2.2.1 t.2.2.2.2.2.2
 else lo0 x y t.2.1 t.2.2.1 t.2.2.2.1 t.2.2.2.2.1 t.2.2.2.2.2.1 t.2.2.2.2.2.2
noncomputable def loS(g:Nat)(t:LoS):StateT SortSt Sem (ForInStep LoS):=do
 let z<-elem' y t.2.2.2.1
 let u<-elem' x t.2.2.1
 let some yw<-lt' z u|pure (.done (some (dn x y t.2.1 t.2.2.1 t.2.2.2.1),t.2.1,t.2.2.1,t.2.2.2.1,t.2.2.2.2.1,t.2.2.2.2.2))
 if yw=true then do
   let z<-elem' y t.2.2.2.1
   if (t.2.2.2.1+1==y.size)=true then pure (.done (some (dn x y (t.2.1.push z) t.2.2.1 (t.2.2.2.1+1)),t.2.1.push z,t.2.2.1,t.2.2.2.1+1,0,t.2.2.2.2.2+1))
   else if t.2.2.2.2.2+1 ≥ g then pure (.done (none,t.2.1.push z,t.2.2.1,t.2.2.2.1+1,0,t.2.2.2.2.2+1))
   else pure (.yield (none,t.2.1.push z,t.2.2.1,t.2.2.2.1+1,0,t.2.2.2.2.2+1))
 else do
   let z<-elem' x t.2.2.1
   if (t.2.2.1+1+1==x.size)=true then pure (.done (some (ls x y (t.2.1.push z) (t.2.2.1+1) t.2.2.2.1),t.2.1.push z,t.2.2.1+1,t.2.2.2.1,t.2.2.2.2.1+1,0))
   else if t.2.2.2.2.1+1 ≥ g then pure (.done (none,t.2.1.push z,t.2.2.1+1,t.2.2.2.1,t.2.2.2.2.1+1,0))
   else pure (.yield (none,t.2.1.push z,t.2.2.1+1,t.2.2.2.1,t.2.2.2.2.1+1,0))
noncomputable def loB(t:LoO):StateT SortSt Sem (ForInStep LoO):=do
 let v<-forIn [:x.size+y.size] ((none,t.2.1,t.2.2.1,t.2.2.2.1,0,0):LoS) λ_ v=>loS x y t.2.2.2.2 v
 match v.1 with
 | some r=>pure (.done (some r,v.2.1,v.2.2.1,v.2.2.2.1,t.2.2.2.2))
 | none=>do
  liftM (rule "list.sort.gallop")
  let u<-forIn [:x.size+y.size] ((none,v.2.1,v.2.2.1,v.2.2.2.1,t.2.2.2.2+1,v.2.2.2.2.1,v.2.2.2.2.2):LoT) λ_ u=>loG x y u
  match u.1 with
  | some r=>pure (.done (some r,u.2.1,u.2.2.1,u.2.2.2.1,u.2.2.2.2.1))
  | none=>do
   modify λz=>setG z (u.2.2.2.2.1+1)
   pure (.yield (none,u.2.1,u.2.2.1,u.2.2.2.1,u.2.2.2.2.1+1))
end
theorem mLo_eq0(x y:Array Keyed):mLo x y=(do
    rule "list.sort.merge-lo"
    let tt:=x.size+y.size
    let dn (o:Array Keyed) (i j:Nat):=o++x.extract i x.size++y.extract j y.size
    let ls (o:Array Keyed) (i j:Nat):=o++y.extract j y.size++x.extract i x.size
    let mut o:Array Keyed:=#[<- elem' y 0]
    let mut i:=0
    let mut j:=1
    if j==y.size then return dn o i j
    if i+1==x.size then return ls o i j
    let mut g:=gallopOf (<- get)
    for _ in [0:tt] do
      let mut ac:=0
      let mut bc:=0
      for _ in [0:tt] do
        let some yw<-lt' (<- elem' y j) (<- elem' x i)|return dn o i j
        if yw then
          o:=o.push (<- elem' y j);j:=j+1;bc:=bc+1;ac:=0
          if j==y.size then return dn o i j
          if bc ≥ g then break
        else
          o:=o.push (<- elem' x i);i:=i+1;ac:=ac+1;bc:=0
          if i+1==x.size then return ls o i j
          if ac ≥ g then break
      rule "list.sort.gallop"
      g:=g+1
      for _ in [0:tt] do
        if g > 1 then g:=g - 1
        modify (setG · g)
        let some k<-gal false (<- elem' y j) x i (x.size - i) 0|return dn o i j
        ac:=k
        if k > 0 then
          o:=o++x.extract i (i+k);i:=i+k
          if i+1==x.size then return ls o i j
          if i==x.size then return dn o i j
        o:=o.push (<- elem' y j);j:=j+1
        if j==y.size then return dn o i j
        let some k<-gal true (<- elem' x i) y j (y.size - j) 0|return dn o i j
        bc:=k
        if k > 0 then
          o:=o++y.extract j (j+k);j:=j+k
          if j==y.size then return dn o i j
        o:=o.push (<- elem' x i);i:=i+1
        if i+1==x.size then return ls o i j
        if ac < 7&&bc < 7 then break
      g:=g+1
      modify (setG · g)
    unsupported "internal:list.sort.merge-bound"):=rfl
theorem mLo_eq(x y:Array Keyed):mLo x y=(do
    liftM (rule "list.sort.merge-lo")
    let z<-elem' y 0
    if (1==y.size)=true then pure (dn x y #[z] 0 1)
    else if (0+1==x.size)=true then pure (ls x y #[z] 0 1)
    else do
      let s<-get
      let v<-forIn [:x.size+y.size] ((none,#[z],0,1,gallopOf s):LoO) λ_ v=>loB x y v
      match v.1 with
      | some r=>pure r
      | none=>unsupported "internal:list.sort.merge-bound"):=by
 rw[mLo_eq0]
 dsimp only
 refine congrArg (bind _) (funext λ_=>?_)
 refine congrArg (bind _) (funext λz=>?_)
 refine congr (congrArg _ rfl) ?_
 refine congr (congrArg _ rfl) ?_
 refine congrArg (bind _) (funext λs=>?_)
 refine congr (congrArg bind ?A) (funext λv=>by obtain⟨r,v⟩:=v;cases r<;>rfl)
 refine congrArg _ (funext λ_=>funext λv=>?_)
 unfold loB
 refine congr (congrArg bind rfl) (funext λv=>?_)
 obtain⟨r,v⟩:=v
 cases r with
 | some r=>rfl
 | none =>
  refine congrArg (bind _) (funext λ_=>?_)
  refine congr (congrArg bind ?A2) (funext λv=>by obtain⟨r,v⟩:=v;cases r<;>rfl)
  rfl
section
variable {α:Type}{x y o:Array α}{i j k:Nat}
theorem ext_all:(x.extract i x.size).toList=x.toList.drop i:=by
 rw[j4,A3,e6 (by simp)]
theorem ext_k:(x.extract i (i+k)).toList=(x.toList.drop i).take k:=by
 rw[j4,A3,W5]
theorem mem_dropA{v:α}(h:v∈x.toList.drop i):∃(n:Nat) (hn:n < x.size),i<=n/\v=x[n]:=by
 obtain⟨n,hn,e⟩:=B4 h
 rw[h8,Q0]at hn
 refine ⟨i+n,by omega,by omega,?_⟩
 rw[<- e,List.getElem_drop,T2]
theorem mem_dropTA{v:α}(h:v∈(x.toList.drop i).take k):∃(n:Nat) (hn:n < x.size),i<=n/\n < i+k/\v=x[n]:=by
 obtain⟨n,hn,e⟩:=B4 h
 rw[T4,h8,Q0]at hn
 refine ⟨i+n,by omega,by omega,by omega,?_⟩
 rw[<- e,List.getElem_take,List.getElem_drop,T2]
end
theorem dn_list(x y o:Array Keyed)(i j:Nat):(dn x y o i j).toList=o.toList++x.toList.drop i++y.toList.drop j:=by
 unfold dn
 rw[E2,E2,ext_all,ext_all]
theorem ls_list(x y o:Array Keyed)(i j:Nat):(ls x y o i j).toList=o.toList++y.toList.drop j++x.toList.drop i:=by
 unfold ls
 rw[E2,E2,ext_all,ext_all]
section
variable {prog:Program}{w:World}{A:Around}{E:Value->Shared->Prop}{s:Shared}{κ:SortKind}{rk:Keyed->Nat}{S:Keyed->Prop}{x y:Array Keyed}
noncomputable abbrev leK(rk:Keyed->Nat):Keyed->Keyed->Prop:=λa b=>rk a<=rk b
structure Hy(rk:Keyed->Nat)(S:Keyed->Prop)(x y:Array Keyed):Prop where
 hx:x.toList.Pairwise (leK rk)
 hy:y.toList.Pairwise (leK rk)
 Sx:∀i (h:i < x.size),S x[i]
 Sy:∀i (h:i < y.size),S y[i]
 x0:0 < x.size
 y0:0 < y.size
 hl:∀i (h:i < y.size),rk y[i]<=rk x[x.size - 1]
 hf:∀i (h:i < x.size),rk y[0]<=rk x[i]
theorem srt_at{x:Array Keyed}(h:x.toList.Pairwise (leK rk)){i j:Nat}(hj:j < x.size)(hij:i<=j):rk (x[i]'(by omega))<=rk x[j]:=by
 rcases m9 i j with h1|h1
 ·have:=Q2.mp h i j (by simpa using (by omega:i < x.size)) (by simpa using hj) h1
  simpa using this
 ·have:i=j:=by omega
  subst this
  exact R0 _
noncomputable def Po(rk:Keyed->Nat)(x y r:Array Keyed):Prop:=r.toList.Perm (x.toList++y.toList)/\r.toList.Pairwise (leK rk)
theorem Po_dn(H:Hy rk S x y){o:Array Keyed}{i j:Nat}(m:Mg (leK rk) x.toList y.toList o.toList i j)(h:y.size<=j\/x.size<=i):Po rk x y (dn x y o i j):=by
 unfold Po
 rw[dn_list]
 refine m.fin H.hx H.hy λv hv u hu=>?_
 obtain⟨n,hn,n1,_⟩:=mem_dropA hv
 obtain⟨k,hk,k1,_⟩:=mem_dropA hu
 omega
theorem Po_ls(H:Hy rk S x y){o:Array Keyed}{i j:Nat}(m:Mg (leK rk) x.toList y.toList o.toList i j)(h:i+1=x.size):Po rk x y (ls x y o i j):=by
 unfold Po
 rw[ls_list]
 refine m.finC H.hx H.hy λv hv u hu=>?_
 obtain⟨n,hn,n1,rfl⟩:=mem_dropA hv
 obtain⟨k,hk,k1,rfl⟩:=mem_dropA hu
 have:k=x.size - 1:=by omega
 subst this
 exact H.hl n hn
theorem push_list{α:Type}(o:Array α)(z:α):(o.push z).toList=o.toList++[z]:=V7
structure J(rk:Keyed->Nat)(x y:Array Keyed)(N:Nat)(o:Array Keyed)(i j:Nat):Prop where
 m:Mg (leK rk) x.toList y.toList o.toList i j
 hi:i+1 < x.size
 hj:j < y.size
 hN:N<=i+j
theorem J.pushX(H:Hy rk S x y){N:Nat}{o:Array Keyed}{i j:Nat}(m:Mg (leK rk) x.toList y.toList o.toList i j)(hi:i < x.size)(h:∀n (hn:n < y.size),j<=n->rk x[i]<=rk y[n]):Mg (leK rk) x.toList y.toList (o.push x[i]).toList (i+1) j:=by
 rw[push_list]
 have:=m.oneA H.hx (by simpa using hi) λv hv=>by
  obtain⟨n,hn,n1,rfl⟩:=mem_dropA hv
  simpa using h n hn n1
 simpa using this
theorem J.pushY(H:Hy rk S x y){N:Nat}{o:Array Keyed}{i j:Nat}(m:Mg (leK rk) x.toList y.toList o.toList i j)(hj:j < y.size)(h:∀n (hn:n < x.size),i<=n->rk y[j]<=rk x[n]):Mg (leK rk) x.toList y.toList (o.push y[j]).toList i (j+1):=by
 rw[push_list]
 have:=m.comm.oneA H.hy (by simpa using hj) λv hv=>by
  obtain⟨n,hn,n1,rfl⟩:=mem_dropA hv
  simpa using h n hn n1
 have:=this.comm
 simpa using this
noncomputable def RT(rk:Keyed->Nat)(x y:Array Keyed)(N:Nat)(c:LoT):Prop:=(∃t,c.1=some t/\Po rk x y t)\/(c.1=none/\J rk x y N c.2.1 c.2.2.1 c.2.2.2.1)
noncomputable def Gs(z z':SortSt):Prop:=∃g,z'=setG z g
theorem Gs.refl(z:SortSt):Gs z z:=⟨gallopOf z,rfl⟩
theorem Gs.set{z z':SortSt}(h:Gs z z')(g:Nat):Gs z (setG z' g):=by obtain⟨_,rfl⟩:=h;exact ⟨g,rfl⟩
theorem Gs.kind{z z':SortSt}(h:Gs z z'):kindOf z'=kindOf z:=by obtain⟨_,rfl⟩:=h;rfl
noncomputable def StT(rk:Keyed->Nat)(x y:Array Keyed)(N:Nat)(st:SortSt)(r:ForInStep LoT)(st':SortSt):Prop :=
 Gs st st'/\match r with
  | .done c=>RT rk x y N c
  | .yield c=>c.1=none/\J rk x y N c.2.1 c.2.2.1 c.2.2.2.1
theorem w_lo2(H:Hy rk S x y){N:Nat}{o:Array Keyed}{i j g ac bc:Nat}{st st':SortSt}(hg:Gs st st')(m:Mg (leK rk) x.toList y.toList o.toList i j)(hi:i+1 < x.size)(hj:j < y.size)(hN:N<=i+j+1)
  (h:∀n (hn:n < y.size),j<=n->rk (x[i]'(by omega))<=rk y[n]):wpS (model prog w) A E s (lo2 x y o i j g ac bc) (StT rk x y N st) st':=by
 unfold lo2
 have m':=J.pushX H (N:=N) m (by omega) h
 refine wpS_bind (w_elem (by omega) ?_)
 by_cases h1:i+1+1=x.size
 ·rw[if_pos (by simpa using h1)]
  exact wpS_pure ⟨hg,.inl ⟨_,rfl,Po_ls H m' h1⟩⟩
 ·rw[if_neg (by simpa using h1)]
  have jj:J rk x y N (o.push (x[i]'(by omega))) (i+1) j:=⟨m',by omega,hj,by omega⟩
  by_cases h2:(decide (ac < 7)&&decide (bc < 7))=true
  ·rw[if_pos h2]
   exact wpS_pure ⟨hg,.inr ⟨rfl,jj⟩⟩
  ·rw[if_neg h2]
   exact wpS_pure ⟨hg,rfl,jj⟩
theorem w_lo1(q:Asks prog w A s κ rk S)(H:Hy rk S x y){N:Nat}{o:Array Keyed}{i j g ac bc:Nat}{st st':SortSt}(hk:kindOf st=κ)(hg:Gs st st')(m:Mg (leK rk) x.toList y.toList o.toList i j)(hi:i+1 < x.size)(hj:j < y.size)(hN:N<=i+j+1)
  (h:∀n (hn:n < x.size),i<=n->rk (y[j]'(by omega))<=rk x[n]):wpS (model prog w) A E s (lo1 x y o i j g ac bc) (StT rk x y N st) st':=by
 unfold lo1
 have m':=J.pushY H (N:=N) m hj h
 refine wpS_bind (w_elem hj ?_)
 by_cases h1:j+1=y.size
 ·rw[if_pos (by simpa using h1)]
  exact wpS_pure ⟨hg,.inl ⟨_,rfl,Po_dn H m' (.inl (by omega))⟩⟩
 ·rw[if_neg (by simpa using h1)]
  refine wpS_bind (w_elem (by omega) ?_)
  refine wpS_bind (w_gallop q (hg.kind.trans hk) (H.Sx _ _) H.Sy (by omega) (λa b hb hab _ _=>srt_at H.hy hb hab) (by omega) λk kn k1 k2=>?_)
  dsimp only
  by_cases hk0:k > 0
  ·rw[if_pos hk0]
   have m2:Mg (leK rk) x.toList y.toList (o.push (y[j]'hj)++y.extract (j+1) (j+1+k)).toList i (j+1+k):=by
    rw[E2,ext_k]
    refine (m'.comm.takeA H.hy k λv hv u hu=>?_).comm
    obtain⟨n,hn,n1,n2,rfl⟩:=mem_dropTA hv
    obtain⟨p,hp,p1,rfl⟩:=mem_dropA hu
    have:=k1 n hn n1 n2
    rw[if_pos rfl]at this
    have:=srt_at H.hx hp p1
    show rk _<=rk _
    omega
   by_cases h2:j+1+k=y.size
   ·rw[if_pos (by simpa using h2)]
    exact wpS_pure ⟨hg,.inl ⟨_,rfl,Po_dn H m2 (.inl (by omega))⟩⟩
   ·rw[if_neg (by simpa using h2)]
    refine w_lo2 H hg m2 hi (by omega) (by omega) λn hn n1=>?_
    have:=k2 n hn (by omega) (by omega)
    rw[if_pos rfl]at this
    exact this
  ·rw[if_neg hk0]
   refine w_lo2 H hg m' hi (by omega) (by omega) λn hn n1=>?_
   have:=k2 n hn (by omega) (by omega)
   rw[if_pos rfl]at this
   exact this
theorem w_lo0(q:Asks prog w A s κ rk S)(H:Hy rk S x y){N:Nat}{o:Array Keyed}{i j g ac bc:Nat}{st st':SortSt}(hk:kindOf st=κ)(hg:Gs st st')(m:Mg (leK rk) x.toList y.toList o.toList i j)(hi:i+1 < x.size)(hj:j < y.size)(hN:N<=i+j+1) :
  wpS (model prog w) A E s (lo0 x y o i j g ac bc) (StT rk x y N st) st':=by
 unfold lo0
 refine wpS_bind (wpS_modify ?_)
 have hg':=hg.set g
 refine wpS_bind (w_elem hj ?_)
 refine wpS_bind (w_gallop q (hg'.kind.trans hk) (H.Sy _ _) H.Sx (by omega) (λa b hb hab _ _=>srt_at H.hx hb hab) (by omega) λk kn k1 k2=>?_)
 dsimp only
 by_cases hk0:k > 0
 ·rw[if_pos hk0]
  have m2:Mg (leK rk) x.toList y.toList (o++x.extract i (i+k)).toList (i+k) j:=by
   rw[E2,ext_k]
   refine m.takeA H.hx k λv hv u hu=>?_
   obtain⟨n,hn,n1,n2,rfl⟩:=mem_dropTA hv
   obtain⟨p,hp,p1,rfl⟩:=mem_dropA hu
   have:=k1 n hn n1 n2
   rw[if_neg (by decide)]at this
   have:=srt_at H.hy hp p1
   show rk _<=rk _
   omega
  by_cases h2:i+k+1=x.size
  ·rw[if_pos (by simpa using h2)]
   exact wpS_pure ⟨hg',.inl ⟨_,rfl,Po_ls H m2 h2⟩⟩
  ·rw[if_neg (by simpa using h2)]
   by_cases h3:i+k=x.size
   ·rw[if_pos (by simpa using h3)]
    exact wpS_pure ⟨hg',.inl ⟨_,rfl,Po_dn H m2 (.inr (by omega))⟩⟩
   ·rw[if_neg (by simpa using h3)]
    refine w_lo1 q H hk hg' m2 (by omega) hj (by omega) λn hn n1=>?_
    have:=k2 n hn (by omega) (by omega)
    rw[if_neg (by decide)]at this
    omega
 ·rw[if_neg hk0]
  refine w_lo1 q H hk hg' m hi hj (by omega) λn hn n1=>?_
  have:=k2 n hn (by omega) (by omega)
  rw[if_neg (by decide)]at this
  omega
theorem w_loG(q:Asks prog w A s κ rk S)(H:Hy rk S x y){N:Nat}{c:LoT}{st st':SortSt}(hk:kindOf st=κ)(hg:Gs st st')(hJ:J rk x y N c.2.1 c.2.2.1 c.2.2.2.1) :
  wpS (model prog w) A E s (loG x y c) (StT rk x y (N+1) st) st':=by
 unfold loG
 have:=hJ.hN
 split
 ·exact w_lo0 q H hk hg hJ.m hJ.hi hJ.hj (by omega)
 ·exact w_lo0 q H hk hg hJ.m hJ.hi hJ.hj (by omega)
theorem w_loS(q:Asks prog w A s κ rk S)(H:Hy rk S x y){N g:Nat}{c:LoS}{st:SortSt}(hk:kindOf st=κ)(hJ:J rk x y N c.2.1 c.2.2.1 c.2.2.2.1) :
  wpS (model prog w) A E s (loS x y g c) (λr st'=>st'=st/\match r with
    | .done c=>(∃t,c.1=some t/\Po rk x y t)\/(c.1=none/\J rk x y (N+1) c.2.1 c.2.2.1 c.2.2.2.1)
    | .yield c=>c.1=none/\J rk x y (N+1) c.2.1 c.2.2.1 c.2.2.2.1) st:=by
 unfold loS
 obtain⟨m,hi,hj,hN⟩:=hJ
 refine wpS_bind (w_elem hj ?_)
 refine wpS_bind (w_elem (by omega) ?_)
 refine wpS_bind (w_lt q hk (H.Sy _ _) (H.Sx _ _) ?_)
 dsimp only
 by_cases hlt:rk (y[c.2.2.2.1]'hj) < rk (x[c.2.2.1]'(by omega))
 ·rw[if_pos (by simpa using hlt)]
  have m':=J.pushY H (N:=N) m hj λn hn n1=>by have:=srt_at H.hx hn n1;omega
  refine wpS_bind (w_elem hj ?_)
  by_cases h1:c.2.2.2.1+1=y.size
  ·rw[if_pos (by simpa using h1)]
   exact wpS_pure ⟨rfl,.inl ⟨_,rfl,Po_dn H m' (.inl (by omega))⟩⟩
  ·rw[if_neg (by simpa using h1)]
   have jj:J rk x y (N+1) (c.2.1.push (y[c.2.2.2.1]'hj)) c.2.2.1 (c.2.2.2.1+1):=⟨m',hi,by omega,by omega⟩
   split
   ·exact wpS_pure ⟨rfl,.inr ⟨rfl,jj⟩⟩
   ·exact wpS_pure ⟨rfl,rfl,jj⟩
 ·rw[if_neg (by simpa using hlt)]
  have m':=J.pushX H (N:=N) m (by omega) λn hn n1=>by have:=srt_at H.hy hn n1;omega
  refine wpS_bind (w_elem (by omega) ?_)
  by_cases h1:c.2.2.1+1+1=x.size
  ·rw[if_pos (by simpa using h1)]
   exact wpS_pure ⟨rfl,.inl ⟨_,rfl,Po_ls H m' h1⟩⟩
  ·rw[if_neg (by simpa using h1)]
   have jj:J rk x y (N+1) (c.2.1.push (x[c.2.2.1]'(by omega))) (c.2.2.1+1) c.2.2.2.1:=⟨m',by omega,hj,by omega⟩
   split
   ·exact wpS_pure ⟨rfl,.inr ⟨rfl,jj⟩⟩
   ·exact wpS_pure ⟨rfl,rfl,jj⟩
theorem w_loB(q:Asks prog w A s κ rk S)(H:Hy rk S x y){N:Nat}{c:LoO}{st st':SortSt}(hk:kindOf st=κ)(hg:Gs st st')(hJ:J rk x y N c.2.1 c.2.2.1 c.2.2.2.1) :
  wpS (model prog w) A E s (loB x y c) (λr st'=>Gs st st'/\match r with
    | .done c=>∃t,c.1=some t/\Po rk x y t
    | .yield c=>c.1=none/\J rk x y (N+1) c.2.1 c.2.2.1 c.2.2.2.1) st':=by
 unfold loB
 refine wpS_bind (wpS_mono (wpS_forRange (I:=λn c st''=>st''=st'/\c.1=none/\J rk x y (N+n) c.2.1 c.2.2.1 c.2.2.2.1)
   (Q:=λc st''=>st''=st'/\((∃t,c.1=some t/\Po rk x y t)\/(c.1=none/\J rk x y N c.2.1 c.2.2.1 c.2.2.2.1))) ?step ?fin ⟨rfl,rfl,hJ⟩) ?post)
 case fin =>
  rintro c st'' ⟨rfl,_,h⟩
  have h1:=h.hi
  have h2:=h.hj
  have h3:=h.hN
  omega
 case step =>
  rintro n c st'' _ _ ⟨rfl,_,h⟩
  refine wpS_mono (w_loS q H (hg.kind.trans hk) h) ?_
  rintro r st3 ⟨rfl,h⟩
  cases r with
  | done c =>
   refine ⟨rfl,h.imp id λh=>⟨h.1,h.2.m,h.2.hi,h.2.hj,?_⟩⟩
   have:=h.2.hN
   omega
  | yield c=>exact ⟨rfl,h.1,h.2⟩
 case post =>
  rintro c st'' ⟨rfl,h⟩
  obtain⟨r,c⟩:=c
  rcases h with⟨t,e,h⟩|⟨e,h⟩
  ·cases e
   exact wpS_pure ⟨hg,_,rfl,h⟩
  ·cases e
   dsimp only
   refine wpS_bind (wpS_lift (wpAny_rule ⟨rfl,?_⟩))
   refine wpS_bind (wpS_mono (wpS_forRange (I:=λn c st''=>Gs st st''/\c.1=none/\J rk x y (N+n) c.2.1 c.2.2.1 c.2.2.2.1)
     (Q:=λc st''=>Gs st st''/\RT rk x y (N+1) c) ?step2 ?fin2 ⟨hg,rfl,h⟩) ?post2)
   case fin2 =>
    rintro c st'' ⟨_,_,h⟩
    have h1:=h.hi
    have h2:=h.hj
    have h3:=h.hN
    omega
   case step2 =>
    rintro n c st'' _ _ ⟨hg2,_,h⟩
    refine wpS_mono (w_loG q H hk hg2 h) ?_
    rintro r st3 ⟨hg3,h⟩
    cases r with
    | done c =>
     refine ⟨hg3,Or.imp id (λh=>⟨h.1,h.2.m,h.2.hi,h.2.hj,?_⟩) h⟩
     have:=h.2.hN
     omega
    | yield c=>exact ⟨hg3,h.1,h.2⟩
   case post2 =>
    rintro c st'' ⟨hg2,h⟩
    obtain⟨r,c⟩:=c
    rcases h with⟨t,e,h⟩|⟨e,h⟩
    ·cases e
     exact wpS_pure ⟨hg2,_,rfl,h⟩
    ·cases e
     exact wpS_bind (wpS_modify (wpS_pure ⟨hg2.set _,rfl,h⟩))
theorem w_mLo(q:Asks prog w A s κ rk S)(H:Hy rk S x y){st:SortSt}{Q:Array Keyed->SortSt->Prop}(hk:kindOf st=κ)(h:∀r st',Gs st st'->Po rk x y r->Q r st'):wpS (model prog w) A E s (mLo x y) Q st:=by
 rw[mLo_eq]
 refine wpS_bind (wpS_lift (wpAny_rule ⟨rfl,?_⟩))
 refine wpS_bind (w_elem H.y0 ?_)
 have m0:Mg (leK rk) x.toList y.toList (#[]:Array Keyed).toList 0 0:=⟨by simp,by simp,by simp,by simp⟩
 have m1:=J.pushY H (N:=0) m0 H.y0 λn hn _=>H.hf n hn
 have e1:(#[]:Array Keyed).push (y[0]'H.y0)=#[y[0]'H.y0]:=rfl
 rw[e1]at m1
 have hy0:=H.y0
 have hx0:=H.x0
 by_cases h1:1=y.size
 ·rw[if_pos (by simpa using h1)]
  exact wpS_pure (h _ _ (Gs.refl _) (Po_dn H m1 (.inl (by omega))))
 ·rw[if_neg (by simpa using h1)]
  by_cases h2:0+1=x.size
  ·rw[if_pos (by simpa using h2)]
   exact wpS_pure (h _ _ (Gs.refl _) (Po_ls H m1 h2))
  ·rw[if_neg (by simpa using h2)]
   refine wpS_bind (wpS_get ?_)
   refine wpS_bind (wpS_mono (wpS_forRange (I:=λn c st''=>Gs st st''/\c.1=none/\J rk x y n c.2.1 c.2.2.1 c.2.2.2.1)
     (Q:=λc st''=>Gs st st''/\∃t,c.1=some t/\Po rk x y t) ?step ?fin ⟨Gs.refl _,rfl,m1,by show 0+1 < x.size;omega,by show 1 < y.size;omega,by omega⟩) ?post)
   case fin =>
    rintro c st'' ⟨_,_,h⟩
    have h1:=h.hi
    have h2:=h.hj
    have h3:=h.hN
    omega
   case step =>
    rintro n c st'' _ _ ⟨hg2,_,h⟩
    refine wpS_mono (w_loB q H hk hg2 h) ?_
    rintro r st3 ⟨hg3,h⟩
    cases r with
    | done c=>exact ⟨hg3,h⟩
    | yield c=>exact ⟨hg3,h⟩
   case post =>
    rintro c st'' ⟨hg2,t,e,hP⟩
    obtain⟨r,c⟩:=c
    cases e
    exact wpS_pure (h _ _ hg2 hP)
end
noncomputable abbrev HiT:=Option (Array Keyed)×Nat×Nat×Array Keyed×Nat×Nat×Nat
noncomputable abbrev HiS:=Option (Array Keyed)×Nat×Nat×Array Keyed×Nat×Nat
noncomputable abbrev HiO:=Option (Array Keyed)×Nat×Nat×Array Keyed×Nat
section
variable (x y:Array Keyed)
noncomputable def dnH(o:Array Keyed)(i j:Nat):Array Keyed:=x.extract 0 i++y.extract 0 j++o.reverse
noncomputable def lsH(o:Array Keyed)(i j:Nat):Array Keyed:=y.extract 0 j++x.extract 0 i++o.reverse
noncomputable def hi2(i j:Nat)(o:Array Keyed)(g ac bc:Nat):StateT SortSt Sem (ForInStep HiT):=do
 let z<-elem' x (i - 1)
 if (i - 1==0)=true then pure (.done (some (dnH x y (o.push z) (i - 1) j),i - 1,j,o.push z,g,ac,bc))
 else if (decide (ac < 7)&&decide (bc < 7))=true then pure (.done (none,i - 1,j,o.push z,g,ac,bc))
 else pure (.yield (none,i - 1,j,o.push z,g,ac,bc))
noncomputable def hi1(i j:Nat)(o:Array Keyed)(g ac bc:Nat):StateT SortSt Sem (ForInStep HiT):=do
 let z<-elem' y (j - 1)
 if (j - 1==1)=true then pure (.done (some (lsH x y (o.push z) i (j - 1)),i,j - 1,o.push z,g,ac,bc))
 else do
  let u<-elem' x (i - 1)
  let some p<-gal true u y 0 (j - 1) (j - 1 - 1)|pure (.done (some (dnH x y (o.push z) i (j - 1)),i,j - 1,o.push z,g,ac,bc))
  if j - 1 - p > 0 then
   if (p==1)=true then pure (.done (some (lsH x y (o.push z++(y.extract p (j - 1)).reverse) i p),i,p,o.push z++(y.extract p (j - 1)).reverse,g,ac,j - 1 - p))
   else if (p==0)=true then pure (.done (some (dnH x y (o.push z++(y.extract p (j - 1)).reverse) i p),i,p,o.push z++(y.extract p (j - 1)).reverse,g,ac,j - 1 - p))
   else hi2 x y i p (o.push z++(y.extract p (j - 1)).reverse) g ac (j - 1 - p)
  else hi2 x y i (j - 1) (o.push z) g ac (j - 1 - p)
noncomputable def hi0(i j:Nat)(o:Array Keyed)(g ac bc:Nat):StateT SortSt Sem (ForInStep HiT):=do
 modify λv=>setG v g
 let z<-elem' y (j - 1)
 let some p<-gal false z x 0 i (i - 1)|pure (.done (some (dnH x y o i j),i,j,o,g,ac,bc))
 if i - p > 0 then
   if (p==0)=true then pure (.done (some (dnH x y (o++(x.extract p i).reverse) p j),p,j,o++(x.extract p i).reverse,g,i - p,bc))
   else hi1 x y p j (o++(x.extract p i).reverse) g (i - p) bc
 else hi1 x y i j o g (i - p) bc
noncomputable def hiG(t:HiT):StateT SortSt Sem (ForInStep HiT) :=
 if t.2.2.2.2.1 > 1 then hi0 x y t.2.1 t.2.2.1 t.2.2.2.1 (t.2.2.2.2.1 - 1) t.2.2.2.2.2.1 t.2.2.2.2.2.2
 else hi0 x y t.2.1 t.2.2.1 t.2.2.2.1 t.2.2.2.2.1 t.2.2.2.2.2.1 t.2.2.2.2.2.2
noncomputable def hiS(g:Nat)(t:HiS):StateT SortSt Sem (ForInStep HiS):=do
 let z<-elem' y (t.2.2.1 - 1)
 let u<-elem' x (t.2.1 - 1)
 let some xw<-lt' z u|pure (.done (some (dnH x y t.2.2.2.1 t.2.1 t.2.2.1),t.2.1,t.2.2.1,t.2.2.2.1,t.2.2.2.2.1,t.2.2.2.2.2))
 if xw=true then do
   let z<-elem' x (t.2.1 - 1)
   if (t.2.1 - 1==0)=true then pure (.done (some (dnH x y (t.2.2.2.1.push z) (t.2.1 - 1) t.2.2.1),t.2.1 - 1,t.2.2.1,t.2.2.2.1.push z,t.2.2.2.2.1+1,0))
   else if t.2.2.2.2.1+1 ≥ g then pure (.done (none,t.2.1 - 1,t.2.2.1,t.2.2.2.1.push z,t.2.2.2.2.1+1,0))
   else pure (.yield (none,t.2.1 - 1,t.2.2.1,t.2.2.2.1.push z,t.2.2.2.2.1+1,0))
 else do
   let z<-elem' y (t.2.2.1 - 1)
   if (t.2.2.1 - 1==1)=true then pure (.done (some (lsH x y (t.2.2.2.1.push z) t.2.1 (t.2.2.1 - 1)),t.2.1,t.2.2.1 - 1,t.2.2.2.1.push z,0,t.2.2.2.2.2+1))
   else if t.2.2.2.2.2+1 ≥ g then pure (.done (none,t.2.1,t.2.2.1 - 1,t.2.2.2.1.push z,0,t.2.2.2.2.2+1))
   else pure (.yield (none,t.2.1,t.2.2.1 - 1,t.2.2.2.1.push z,0,t.2.2.2.2.2+1))
noncomputable def hiB(t:HiO):StateT SortSt Sem (ForInStep HiO):=do
 let v<-forIn [:x.size+y.size] ((none,t.2.1,t.2.2.1,t.2.2.2.1,0,0):HiS) λ_ v=>hiS x y t.2.2.2.2 v
 match v.1 with
 | some r=>pure (.done (some r,v.2.1,v.2.2.1,v.2.2.2.1,t.2.2.2.2))
 | none=>do
  liftM (rule "list.sort.gallop")
  let u<-forIn [:x.size+y.size] ((none,v.2.1,v.2.2.1,v.2.2.2.1,t.2.2.2.2+1,v.2.2.2.2.1,v.2.2.2.2.2):HiT) λ_ u=>hiG x y u
  match u.1 with
  | some r=>pure (.done (some r,u.2.1,u.2.2.1,u.2.2.2.1,u.2.2.2.2.1))
  | none=>do
   modify λz=>setG z (u.2.2.2.2.1+1)
   pure (.yield (none,u.2.1,u.2.2.1,u.2.2.2.1,u.2.2.2.2.1+1))
end
theorem mHi_eq0(x y:Array Keyed):mHi x y=(do
    rule "list.sort.merge-hi"
    let tt:=x.size+y.size
    let dn (o:Array Keyed) (i j:Nat):=x.extract 0 i++y.extract 0 j++o.reverse
    let fs (o:Array Keyed) (i j:Nat):=y.extract 0 j++x.extract 0 i++o.reverse
    let mut i:=x.size - 1
    let mut j:=y.size
    let mut o:Array Keyed:=#[<- elem' x i]
    if i==0 then return dn o i j
    if j==1 then return fs o i j
    let mut g:=gallopOf (<- get)
    for _ in [0:tt] do
      let mut ac:=0
      let mut bc:=0
      for _ in [0:tt] do
        let some xw<-lt' (<- elem' y (j - 1)) (<- elem' x (i - 1))|return dn o i j
        if xw then
          i:=i - 1;o:=o.push (<- elem' x i);ac:=ac+1;bc:=0
          if i==0 then return dn o i j
          if ac ≥ g then break
        else
          j:=j - 1;o:=o.push (<- elem' y j);bc:=bc+1;ac:=0
          if j==1 then return fs o i j
          if bc ≥ g then break
      rule "list.sort.gallop"
      g:=g+1
      for _ in [0:tt] do
        if g > 1 then g:=g - 1
        modify (setG · g)
        let some p<-gal false (<- elem' y (j - 1)) x 0 i (i - 1)|return dn o i j
        let k:=i - p
        ac:=k
        if k > 0 then
          o:=o++(x.extract p i).reverse;i:=p
          if i==0 then return dn o i j
        j:=j - 1;o:=o.push (<- elem' y j)
        if j==1 then return fs o i j
        let some p<-gal true (<- elem' x (i - 1)) y 0 j (j - 1)|return dn o i j
        let k:=j - p
        bc:=k
        if k > 0 then
          o:=o++(y.extract p j).reverse;j:=p
          if j==1 then return fs o i j
          if j==0 then return dn o i j
        i:=i - 1;o:=o.push (<- elem' x i)
        if i==0 then return dn o i j
        if ac < 7&&bc < 7 then break
      g:=g+1
      modify (setG · g)
    unsupported "internal:list.sort.merge-bound"):=rfl
theorem mHi_eq(x y:Array Keyed):mHi x y=(do
    liftM (rule "list.sort.merge-hi")
    let z<-elem' x (x.size - 1)
    if (x.size - 1==0)=true then pure (dnH x y #[z] (x.size - 1) y.size)
    else if (y.size==1)=true then pure (lsH x y #[z] (x.size - 1) y.size)
    else do
      let s<-get
      let v<-forIn [:x.size+y.size] ((none,x.size - 1,y.size,#[z],gallopOf s):HiO) λ_ v=>hiB x y v
      match v.1 with
      | some r=>pure r
      | none=>unsupported "internal:list.sort.merge-bound"):=by
 rw[mHi_eq0]
 dsimp only
 refine congrArg (bind _) (funext λ_=>?_)
 refine congrArg (bind _) (funext λz=>?_)
 refine congr (congrArg _ rfl) ?_
 refine congr (congrArg _ rfl) ?_
 refine congrArg (bind _) (funext λs=>?_)
 refine congr (congrArg bind ?A) (funext λv=>by obtain⟨r,v⟩:=v;cases r<;>rfl)
 refine congrArg _ (funext λ_=>funext λv=>?_)
 unfold hiB
 refine congr (congrArg bind rfl) (funext λv=>?_)
 obtain⟨r,v⟩:=v
 cases r with
 | some r=>rfl
 | none =>
  refine congrArg (bind _) (funext λ_=>?_)
  refine congr (congrArg bind ?A2) (funext λv=>by obtain⟨r,v⟩:=v;cases r<;>rfl)
  rfl
section
variable {α:Type}{x:Array α}{i j k:Nat}
theorem rev_drop(hi:i<=x.size):x.toList.reverse.drop (x.size - i)=(x.toList.take i).reverse:=by
 rw[List.drop_reverse,Q0,Nat.sub_sub_self hi]
theorem mem_revD{v:α}(hi:i<=x.size)(h:v∈x.toList.reverse.drop (x.size - i)):∃(n:Nat) (hn:n < x.size),n < i/\v=x[n]:=by
 rw[rev_drop hi,List.mem_reverse]at h
 obtain⟨n,hn,e⟩:=B4 h
 rw[T4,Q0]at hn
 refine ⟨n,by omega,by omega,?_⟩
 rw[<- e,List.getElem_take,T2]
theorem rev_ext(hk:k<=i)(hi:i<=x.size):(x.extract k i).reverse.toList=(x.toList.reverse.drop (x.size - i)).take (i - k):=by
 rw[A6,j4,A3,rev_drop hi,List.take_reverse,T4,Q0,Nat.min_eq_left hi,Nat.sub_sub_self hk,List.drop_take]
theorem ext_0:(x.extract 0 i).toList=x.toList.take i:=by
 rw[j4,A3,List.drop_zero,Nat.sub_zero]
end
section
variable {prog:Program}{w:World}{A:Around}{E:Value->Shared->Prop}{s:Shared}{κ:SortKind}{rk:Keyed->Nat}{S:Keyed->Prop}{x y:Array Keyed}
noncomputable abbrev geK(rk:Keyed->Nat):Keyed->Keyed->Prop:=λa b=>rk b<=rk a
structure MH(rk:Keyed->Nat)(x y:Array Keyed)(o:Array Keyed)(i j:Nat):Prop where
 m:Mg (geK rk) x.toList.reverse y.toList.reverse o.toList (x.size - i) (y.size - j)
 hi:i<=x.size
 hj:j<=y.size
theorem MH.comm{o:Array Keyed}{i j:Nat}(h:MH rk x y o i j):MH rk y x o j i:=⟨h.m.comm,h.hj,h.hi⟩
theorem MH.chunk(hx:x.toList.Pairwise (leK rk)){o:Array Keyed}{i j p:Nat}(h:MH rk x y o i j)(hp:p<=i)(hk:∀n (hn:n < x.size) k (hk:k < y.size),p<=n->n < i->k < j->rk y[k]<=rk x[n]) :
  MH rk x y (o++(x.extract p i).reverse) p j:=by
 have hi:=h.hi
 refine ⟨?_,by omega,h.hj⟩
 rw[E2,rev_ext hp hi]
 have e:x.size - p=x.size - i+(i - p):=by omega
 rw[e]
 refine h.m.takeA (K4.mpr hx) (i - p) λv hv u hu=>?_
 obtain⟨k,hk1,hk2,rfl⟩:=mem_revD h.hj hu
 rw[<- rev_ext hp hi,A6,List.mem_reverse,j4,A3]at hv
 obtain⟨n,hn,n1,n2,rfl⟩:=mem_dropTA hv
 exact hk n hn k hk1 n1 (by omega) hk2
theorem MH.push(hx:x.toList.Pairwise (leK rk)){o:Array Keyed}{i j:Nat}(h:MH rk x y o i j)(h0:0 < i)(hk:∀k (hk:k < y.size),k < j->rk y[k]<=rk (x[i - 1]'(by have:=h.hi;omega))) :
  MH rk x y (o.push (x[i - 1]'(by have:=h.hi;omega))) (i - 1) j:=by
 have hi:=h.hi
 have e:o.push (x[i - 1]'(by omega))=o++(x.extract (i - 1) i).reverse:=by
  apply Array.toList_inj.mp
  rw[V7,E2,rev_ext (by omega) hi,show i - (i - 1)=1 by omega,T3 (by simp;omega)]
  simp only[List.take_succ_cons,List.take_zero,List.getElem_reverse,T2,Q0]
  congr 3
  omega
 rw[e]
 refine h.chunk hx (by omega) λn hn k hk1 n1 n2 k2=>?_
 have:n=i - 1:=by omega
 subst this
 exact hk k hk1 k2
theorem rev_fin{a b o r:List Keyed}(h:(o++a++b).Perm (x.toList.reverse++y.toList.reverse)/\(o++a++b).Pairwise (geK rk))(e:r=(o++a++b).reverse):r.Perm (x.toList++y.toList)/\r.Pairwise (leK rk):=by
 subst e
 exact ⟨((W7 _).trans h.1).trans ((W7 _).append (W7 _)),K4.mpr h.2⟩
theorem Po_dnH(H:Hy rk S x y){o:Array Keyed}{i j:Nat}(m:MH rk x y o i j)(h:i=0\/j=0):Po rk x y (dnH x y o i j):=by
 refine rev_fin (m.m.finC (K4.mpr H.hx) (K4.mpr H.hy) λv hv u hu=>?_) ?_
 ·obtain⟨n,hn,n1,_⟩:=mem_revD m.hj hv
  obtain⟨k,hk,k1,_⟩:=mem_revD m.hi hu
  omega
 ·unfold dnH
  rw[E2,E2,ext_0,ext_0,rev_drop m.hi,rev_drop m.hj,A6]
  simp
theorem Po_lsH(H:Hy rk S x y){o:Array Keyed}{i j:Nat}(m:MH rk x y o i j)(h:j=1):Po rk x y (lsH x y o i j):=by
 refine rev_fin (m.m.fin (K4.mpr H.hx) (K4.mpr H.hy) λv hv u hu=>?_) ?_
 ·obtain⟨n,hn,n1,rfl⟩:=mem_revD m.hi hv
  obtain⟨k,hk,k1,rfl⟩:=mem_revD m.hj hu
  have:k=0:=by omega
  subst this
  exact H.hf n hn
 ·unfold lsH
  rw[E2,E2,ext_0,ext_0,rev_drop m.hi,rev_drop m.hj,A6]
  simp
structure JH(rk:Keyed->Nat)(x y:Array Keyed)(N:Nat)(i j:Nat)(o:Array Keyed):Prop where
 m:MH rk x y o i j
 hi:1<=i
 hj:2<=j
 hN:N+i+j<=x.size+y.size
noncomputable def RH(rk:Keyed->Nat)(x y:Array Keyed)(N:Nat)(c:HiT):Prop:=(∃t,c.1=some t/\Po rk x y t)\/(c.1=none/\JH rk x y N c.2.1 c.2.2.1 c.2.2.2.1)
noncomputable def StH(rk:Keyed->Nat)(x y:Array Keyed)(N:Nat)(st:SortSt)(r:ForInStep HiT)(st':SortSt):Prop :=
 Gs st st'/\match r with
  | .done c=>RH rk x y N c
  | .yield c=>c.1=none/\JH rk x y N c.2.1 c.2.2.1 c.2.2.2.1
theorem w_hi2(H:Hy rk S x y){N:Nat}{o:Array Keyed}{i j g ac bc:Nat}{st st':SortSt}(hg:Gs st st')(m:MH rk x y o i j)(hi:1<=i)(hj:2<=j)(hN:N+i+j<=x.size+y.size+1)
  (h:∀n (hn:n < y.size),n < j->rk y[n]<=rk (x[i - 1]'(by have:=m.hi;omega))):wpS (model prog w) A E s (hi2 x y i j o g ac bc) (StH rk x y N st) st':=by
 unfold hi2
 have hi':=m.hi
 have m':=m.push H.hx hi h
 refine wpS_bind (w_elem (by omega) ?_)
 by_cases h1:i - 1=0
 ·rw[if_pos (by simpa using h1)]
  exact wpS_pure ⟨hg,.inl ⟨_,rfl,Po_dnH H m' (.inl h1)⟩⟩
 ·rw[if_neg (by simpa using h1)]
  have jj:JH rk x y N (i - 1) j (o.push (x[i - 1]'(by omega))):=⟨m',by omega,hj,by omega⟩
  by_cases h2:(decide (ac < 7)&&decide (bc < 7))=true
  ·rw[if_pos h2]
   exact wpS_pure ⟨hg,.inr ⟨rfl,jj⟩⟩
  ·rw[if_neg h2]
   exact wpS_pure ⟨hg,rfl,jj⟩
theorem w_hi1(q:Asks prog w A s κ rk S)(H:Hy rk S x y){N:Nat}{o:Array Keyed}{i j g ac bc:Nat}{st st':SortSt}(hk:kindOf st=κ)(hg:Gs st st')(m:MH rk x y o i j)(hi:1<=i)(hj:2<=j)(hN:N+i+j<=x.size+y.size+1)
  (h:∀n (hn:n < x.size),n < i->rk x[n]<=rk (y[j - 1]'(by have:=m.hj;omega))):wpS (model prog w) A E s (hi1 x y i j o g ac bc) (StH rk x y N st) st':=by
 unfold hi1
 have hi':=m.hi
 have hj':=m.hj
 have m':=(m.comm.push H.hy (by omega) h).comm
 refine wpS_bind (w_elem (by omega) ?_)
 by_cases h1:j - 1=1
 ·rw[if_pos (by simpa using h1)]
  exact wpS_pure ⟨hg,.inl ⟨_,rfl,Po_lsH H m' h1⟩⟩
 ·rw[if_neg (by simpa using h1)]
  refine wpS_bind (w_elem (by omega) ?_)
  refine wpS_bind (w_gallop q (hg.kind.trans hk) (H.Sx _ _) H.Sy (by omega) (λa b hb hab _ _=>srt_at H.hy hb hab) (by omega) λp pn k1 k2=>?_)
  dsimp only
  have k1':∀n (hn:n < y.size),n < p->rk y[n] < rk (x[i - 1]'(by omega)):=λn hn hp=>by
   have:=k1 n hn (S4 _) (by omega)
   rw[if_pos rfl]at this
   exact this
  by_cases hk0:j - 1 - p > 0
  ·rw[if_pos hk0]
   have m2:=(m'.comm.chunk H.hy (p:=p) pn λn hn k hk1 n1 n2 n3=>by
     have:=k2 n hn (by omega) (by omega)
     rw[if_pos rfl]at this
     have:=srt_at H.hx (i:=k) (j:=i - 1) (by omega) (by omega)
     omega).comm
   by_cases h2:p=1
   ·rw[if_pos (by simpa using h2)]
    exact wpS_pure ⟨hg,.inl ⟨_,rfl,Po_lsH H m2 h2⟩⟩
   ·rw[if_neg (by simpa using h2)]
    by_cases h3:p=0
    ·rw[if_pos (by simpa using h3)]
     exact wpS_pure ⟨hg,.inl ⟨_,rfl,Po_dnH H m2 (.inr h3)⟩⟩
    ·rw[if_neg (by simpa using h3)]
     exact w_hi2 H hg m2 hi (by omega) (by omega) λn hn n1=>K5 (k1' n hn n1)
  ·rw[if_neg hk0]
   exact w_hi2 H hg m' hi (by omega) (by omega) λn hn n1=>K5 (k1' n hn (by omega))
theorem w_hi0(q:Asks prog w A s κ rk S)(H:Hy rk S x y){N:Nat}{o:Array Keyed}{i j g ac bc:Nat}{st st':SortSt}(hk:kindOf st=κ)(hg:Gs st st')(m:MH rk x y o i j)(hi:1<=i)(hj:2<=j)(hN:N+i+j<=x.size+y.size+1) :
  wpS (model prog w) A E s (hi0 x y i j o g ac bc) (StH rk x y N st) st':=by
 unfold hi0
 have hi':=m.hi
 have hj':=m.hj
 refine wpS_bind (wpS_modify ?_)
 have hg':=hg.set g
 refine wpS_bind (w_elem (by omega) ?_)
 refine wpS_bind (w_gallop q (hg'.kind.trans hk) (H.Sy _ _) H.Sx (by omega) (λa b hb hab _ _=>srt_at H.hx hb hab) (by omega) λp pn k1 k2=>?_)
 dsimp only
 have k1':∀n (hn:n < x.size),n < p->rk x[n]<=rk (y[j - 1]'(by omega)):=λn hn hp=>by
  have:=k1 n hn (S4 _) (by omega)
  rw[if_neg (by decide)]at this
  exact this
 by_cases hk0:i - p > 0
 ·rw[if_pos hk0]
  have m2:=m.chunk H.hx (p:=p) pn λn hn k hk1 n1 n2 n3=>by
   have:=k2 n hn (by omega) (by omega)
   rw[if_neg (by decide)]at this
   have:=srt_at H.hy (i:=k) (j:=j - 1) (by omega) (by omega)
   omega
  by_cases h3:p=0
  ·rw[if_pos (by simpa using h3)]
   exact wpS_pure ⟨hg',.inl ⟨_,rfl,Po_dnH H m2 (.inl h3)⟩⟩
  ·rw[if_neg (by simpa using h3)]
   exact w_hi1 q H hk hg' m2 (by omega) hj (by omega) k1'
 ·rw[if_neg hk0]
  exact w_hi1 q H hk hg' m hi hj (by omega) λn hn n1=>k1' n hn (by omega)
theorem w_hiG(q:Asks prog w A s κ rk S)(H:Hy rk S x y){N:Nat}{c:HiT}{st st':SortSt}(hk:kindOf st=κ)(hg:Gs st st')(hJ:JH rk x y N c.2.1 c.2.2.1 c.2.2.2.1) :
  wpS (model prog w) A E s (hiG x y c) (StH rk x y (N+1) st) st':=by
 unfold hiG
 have:=hJ.hN
 split
 ·exact w_hi0 q H hk hg hJ.m hJ.hi hJ.hj (by omega)
 ·exact w_hi0 q H hk hg hJ.m hJ.hi hJ.hj (by omega)
theorem w_hiS(q:Asks prog w A s κ rk S)(H:Hy rk S x y){N g:Nat}{c:HiS}{st:SortSt}(hk:kindOf st=κ)(hJ:JH rk x y N c.2.1 c.2.2.1 c.2.2.2.1) :
  wpS (model prog w) A E s (hiS x y g c) (λr st'=>st'=st/\match r with
    | .done c=>(∃t,c.1=some t/\Po rk x y t)\/(c.1=none/\JH rk x y (N+1) c.2.1 c.2.2.1 c.2.2.2.1)
    | .yield c=>c.1=none/\JH rk x y (N+1) c.2.1 c.2.2.1 c.2.2.2.1) st:=by
 unfold hiS
 obtain⟨m,hi,hj,hN⟩:=hJ
 have hi':=m.hi
 have hj':=m.hj
 refine wpS_bind (w_elem (by omega) ?_)
 refine wpS_bind (w_elem (by omega) ?_)
 refine wpS_bind (w_lt q hk (H.Sy _ _) (H.Sx _ _) ?_)
 dsimp only
 by_cases hlt:rk (y[c.2.2.1 - 1]'(by omega)) < rk (x[c.2.1 - 1]'(by omega))
 ·rw[if_pos (by simpa using hlt)]
  have m':=m.push H.hx hi λn hn n1=>by have:=srt_at H.hy (i:=n) (j:=c.2.2.1 - 1) (by omega) (by omega);omega
  refine wpS_bind (w_elem (by omega) ?_)
  by_cases h1:c.2.1 - 1=0
  ·rw[if_pos (by simpa using h1)]
   exact wpS_pure ⟨rfl,.inl ⟨_,rfl,Po_dnH H m' (.inl h1)⟩⟩
  ·rw[if_neg (by simpa using h1)]
   have jj:JH rk x y (N+1) (c.2.1 - 1) c.2.2.1 (c.2.2.2.1.push (x[c.2.1 - 1]'(by omega))):=⟨m',by omega,hj,by omega⟩
   split
   ·exact wpS_pure ⟨rfl,.inr ⟨rfl,jj⟩⟩
   ·exact wpS_pure ⟨rfl,rfl,jj⟩
 ·rw[if_neg (by simpa using hlt)]
  have m':=(m.comm.push H.hy (by omega) λn hn n1=>by have:=srt_at H.hx (i:=n) (j:=c.2.1 - 1) (by omega) (by omega);omega).comm
  refine wpS_bind (w_elem (by omega) ?_)
  by_cases h1:c.2.2.1 - 1=1
  ·rw[if_pos (by simpa using h1)]
   exact wpS_pure ⟨rfl,.inl ⟨_,rfl,Po_lsH H m' h1⟩⟩
  ·rw[if_neg (by simpa using h1)]
   have jj:JH rk x y (N+1) c.2.1 (c.2.2.1 - 1) (c.2.2.2.1.push (y[c.2.2.1 - 1]'(by omega))):=⟨m',by omega,by omega,by omega⟩
   split
   ·exact wpS_pure ⟨rfl,.inr ⟨rfl,jj⟩⟩
   ·exact wpS_pure ⟨rfl,rfl,jj⟩
theorem JH.false{N i j:Nat}{o:Array Keyed}(h:JH rk x y N i j o)(hN:x.size+y.size<=N):False:=by
 have h1:=h.hi
 have h2:=h.hj
 have h3:=h.hN
 omega
theorem w_hiB(q:Asks prog w A s κ rk S)(H:Hy rk S x y){N:Nat}{c:HiO}{st st':SortSt}(hk:kindOf st=κ)(hg:Gs st st')(hJ:JH rk x y N c.2.1 c.2.2.1 c.2.2.2.1) :
  wpS (model prog w) A E s (hiB x y c) (λr st'=>Gs st st'/\match r with
    | .done c=>∃t,c.1=some t/\Po rk x y t
    | .yield c=>c.1=none/\JH rk x y (N+1) c.2.1 c.2.2.1 c.2.2.2.1) st':=by
 unfold hiB
 refine wpS_bind (wpS_mono (wpS_forRange (I:=λn c st''=>st''=st'/\c.1=none/\JH rk x y (N+n) c.2.1 c.2.2.1 c.2.2.2.1)
   (Q:=λc st''=>st''=st'/\((∃t,c.1=some t/\Po rk x y t)\/(c.1=none/\JH rk x y N c.2.1 c.2.2.1 c.2.2.2.1))) ?step ?fin ⟨rfl,rfl,hJ⟩) ?post)
 case fin =>
  rintro c st'' ⟨rfl,_,h⟩
  exact (h.false (by omega)).elim
 case step =>
  rintro n c st'' _ _ ⟨rfl,_,h⟩
  refine wpS_mono (w_hiS q H (hg.kind.trans hk) h) ?_
  rintro r st3 ⟨rfl,h⟩
  cases r with
  | done c =>
   refine ⟨rfl,h.imp id λh=>⟨h.1,h.2.m,h.2.hi,h.2.hj,?_⟩⟩
   have:=h.2.hN
   omega
  | yield c=>exact ⟨rfl,h.1,h.2⟩
 case post =>
  rintro c st'' ⟨rfl,h⟩
  obtain⟨r,c⟩:=c
  rcases h with⟨t,e,h⟩|⟨e,h⟩
  ·cases e
   exact wpS_pure ⟨hg,_,rfl,h⟩
  ·cases e
   dsimp only
   refine wpS_bind (wpS_lift (wpAny_rule ⟨rfl,?_⟩))
   refine wpS_bind (wpS_mono (wpS_forRange (I:=λn c st''=>Gs st st''/\c.1=none/\JH rk x y (N+n) c.2.1 c.2.2.1 c.2.2.2.1)
     (Q:=λc st''=>Gs st st''/\RH rk x y (N+1) c) ?step2 ?fin2 ⟨hg,rfl,h⟩) ?post2)
   case fin2 =>
    rintro c st'' ⟨_,_,h⟩
    exact (h.false (by omega)).elim
   case step2 =>
    rintro n c st'' _ _ ⟨hg2,_,h⟩
    refine wpS_mono (w_hiG q H hk hg2 h) ?_
    rintro r st3 ⟨hg3,h⟩
    cases r with
    | done c =>
     refine ⟨hg3,Or.imp id (λh=>⟨h.1,h.2.m,h.2.hi,h.2.hj,?_⟩) h⟩
     have:=h.2.hN
     omega
    | yield c=>exact ⟨hg3,h.1,h.2⟩
   case post2 =>
    rintro c st'' ⟨hg2,h⟩
    obtain⟨r,c⟩:=c
    rcases h with⟨t,e,h⟩|⟨e,h⟩
    ·cases e
     exact wpS_pure ⟨hg2,_,rfl,h⟩
    ·cases e
     exact wpS_bind (wpS_modify (wpS_pure ⟨hg2.set _,rfl,h⟩))
theorem w_mHi(q:Asks prog w A s κ rk S)(H:Hy rk S x y){st:SortSt}{Q:Array Keyed->SortSt->Prop}(hk:kindOf st=κ)(h:∀r st',Gs st st'->Po rk x y r->Q r st'):wpS (model prog w) A E s (mHi x y) Q st:=by
 rw[mHi_eq]
 have hy0:=H.y0
 have hx0:=H.x0
 refine wpS_bind (wpS_lift (wpAny_rule ⟨rfl,?_⟩))
 refine wpS_bind (w_elem (by omega) ?_)
 have m0:MH rk x y #[] x.size y.size:=⟨⟨by simp,by simp,by simp,by simp⟩,R0 _,R0 _⟩
 have m1:=m0.push H.hx hx0 λn hn _=>H.hl n hn
 have e1:(#[]:Array Keyed).push (x[x.size - 1]'(by omega))=#[x[x.size - 1]'(by omega)]:=rfl
 rw[e1]at m1
 by_cases h1:x.size - 1=0
 ·rw[if_pos (by simpa using h1)]
  exact wpS_pure (h _ _ (Gs.refl _) (Po_dnH H m1 (.inl h1)))
 ·rw[if_neg (by simpa using h1)]
  by_cases h2:y.size=1
  ·rw[if_pos (by simpa using h2)]
   exact wpS_pure (h _ _ (Gs.refl _) (Po_lsH H m1 h2))
  ·rw[if_neg (by simpa using h2)]
   refine wpS_bind (wpS_get ?_)
   refine wpS_bind (wpS_mono (wpS_forRange (I:=λn c st''=>Gs st st''/\c.1=none/\JH rk x y n c.2.1 c.2.2.1 c.2.2.2.1)
     (Q:=λc st''=>Gs st st''/\∃t,c.1=some t/\Po rk x y t) ?step ?fin ⟨Gs.refl _,rfl,m1,by show 1<=x.size - 1;omega,by show 2<=y.size;omega,by show 0+(x.size - 1)+y.size<=_;omega⟩) ?post)
   case fin =>
    rintro c st'' ⟨_,_,h⟩
    exact (h.false (by omega)).elim
   case step =>
    rintro n c st'' _ _ ⟨hg2,_,h⟩
    refine wpS_mono (w_hiB q H hk hg2 h) ?_
    rintro r st3 ⟨hg3,h⟩
    cases r with
    | done c=>exact ⟨hg3,h⟩
    | yield c=>exact ⟨hg3,h⟩
   case post =>
    rintro c st'' ⟨hg2,t,e,hP⟩
    obtain⟨r,c⟩:=c
    cases e
    exact wpS_pure (h _ _ hg2 hP)
end
noncomputable def KR(rk:Keyed->Nat)(xs:Array Keyed)(i:Nat):Nat:=match xs[i]? with
 | some p=>rk p
 | none=>0
theorem KR_at{rk:Keyed->Nat}{xs:Array Keyed}{i:Nat}(h:i < xs.size):KR rk xs i=rk xs[i]:=by
 unfold KR;rw[getElem?_pos xs i h]
theorem KR_congr{rk:Keyed->Nat}{xs ys:Array Keyed}{i j:Nat}(h:xs[i]?=ys[j]?):KR rk xs i=KR rk ys j:=by unfold KR;rw[h]
theorem KR_mirror{rk:Keyed->Nat}{xs:Array Keyed}{i j:Nat}(hj:j<=xs.size)(k:Nat) :
  KR rk (mirror xs i j ((j - i) / 2)) k=if i<=k/\k < j then KR rk xs (i+j - 1 - k) else KR rk xs k:=by
 have e:=getElem?_mirror_all (i:=i) hj k
 split
 ·rename_i h1;rw[if_pos h1]at e;exact KR_congr e
 ·rename_i h1;rw[if_neg h1]at e;exact KR_congr e
theorem KR_bubble{rk:Keyed->Nat}{xs:Array Keyed}{c d:Nat}(hs:c < xs.size)(hd:d<=c)(k:Nat) :
  KR rk (bubble xs c d) k=if k=c - d then KR rk xs c else if c - d < k/\k<=c then KR rk xs (k - 1) else KR rk xs k:=by
 have e:=getElem?_bubble hs d hd k
 split
 ·rename_i h1;rw[if_pos h1]at e;exact KR_congr e
 ·rename_i h1
  rw[if_neg h1]at e
  split
  ·rename_i h2;rw[if_pos h2]at e;exact KR_congr e
  ·rename_i h2;rw[if_neg h2]at e;exact KR_congr e
noncomputable def Sg(rk:Keyed->Nat)(xs:Array Keyed)(lo n:Nat):Prop:=∀i j,lo<=i->i<=j->j < lo+n->KR rk xs i<=KR rk xs j
noncomputable def Dg(rk:Keyed->Nat)(xs:Array Keyed)(lo n:Nat):Prop:=∀i j,lo<=i->i<=j->j < lo+n->KR rk xs j<=KR rk xs i
structure Bs(κ:SortKind)(st:SortSt)(lo n:Nat)(st':SortSt):Prop where
 perm:(arrOf st').Perm (arrOf st)
 kind:kindOf st'=κ
 failed:failedOf st'=none
 pend:pendingOf st'=pendingOf st
 keep:∀i,i < lo\/lo+n<=i->(arrOf st')[i]?=(arrOf st)[i]?
theorem Bs.size{κ:SortKind}{st st':SortSt}{lo n:Nat}(h:Bs κ st lo n st'):(arrOf st').size=(arrOf st).size:=h.perm.size_eq
theorem Bs.mir{κ:SortKind}{st st':SortSt}{lo n i j:Nat}(h:Bs κ st lo n st')(hj:j<=(arrOf st).size)(h1:lo<=i)(h2:j<=lo+n):Bs κ st lo n (setArr st' (mirror (arrOf st') i j ((j - i) / 2))) :=
 ⟨(mirror_perm _ _ _ _).trans h.perm,h.kind,h.failed,h.pend,λk hk=>by
   show (mirror (arrOf st') i j ((j - i) / 2))[k]?=_
   rw[getElem?_mirror_all (by rw[h.size];exact hj),if_neg (by omega)]
   exact h.keep k hk⟩
section
variable {prog:Program}{w:World}{A:Around}{E:Value->Shared->Prop}{s:Shared}{κ:SortKind}{rk:Keyed->Nat}{S:Keyed->Prop}{st:SortSt}
noncomputable abbrev AllS(S:Keyed->Prop)(xs:Array Keyed):Prop:=∀p,p∈xs.toList->S p
theorem Bs.inS{st':SortSt}{lo n:Nat}(hS:AllS S (arrOf st))(h:Bs κ st lo n st'){i:Nat}(hi:i < (arrOf st').size):S (arrOf st')[i] :=
 hS _ ((Z4.mp h.perm).mem_iff.mp (by simp))
theorem w_ltAt(q:Asks prog w A s κ rk S){st':SortSt}{lo n i j:Nat}{Q:Option Bool->SortSt->Prop}(hS:AllS S (arrOf st))(hB:Bs κ st lo n st')(hi:i < (arrOf st).size)(hj:j < (arrOf st).size)
  (h:Q (some (decide (KR rk (arrOf st') i < KR rk (arrOf st') j))) st'):wpS (model prog w) A E s (ltAt' i j) Q st':=by
 have hi':i < (arrOf st').size:=by rw[hB.size];exact hi
 have hj':j < (arrOf st').size:=by rw[hB.size];exact hj
 rw[ltAt'_eq]
 refine wpS_bind (wpS_get ?_)
 refine wpS_bind (w_elem hi' (wpS_bind (w_elem hj' ?_)))
 refine w_lt q hB.kind (hB.inS hS _) (hB.inS hS _) ?_
 rw[KR_at hi',KR_at hj']at h
 exact h
noncomputable def ascL(lo a nrem:Nat):StateT SortSt Sem AscSt :=
 forIn [a:nrem] ((none,a):AscSt) λ_ z=>do
  let some sm<-ltAt' (lo+z.2) (lo+z.2 - 1)|pure (.done (some none,z.2))
  if sm=true then pure (.done (none,z.2)) else pure (.yield (none,z.2+1))
noncomputable def t3L(lo n nrem:Nat):StateT SortSt Sem (Option Nat):=do
 reverseSlice' lo (lo+n)
 let z<-ascL lo n nrem
 match z.1 with
 | some r=>pure r
 | none=>pure (some z.2)
noncomputable def descL(lo n nrem:Nat):StateT SortSt Sem DescSt :=
 forIn [n:nrem] ((none,n,0):DescSt) λ_ z=>do
  let some sm<-ltAt' (lo+z.2.1) (lo+z.2.1 - 1)|pure (.done (some none,z.2.1,z.2.2))
  if sm=true then
   if z.2.2 > 0 then do
    reverseSlice' (lo+z.2.1 - (z.2.2+1)) (lo+z.2.1)
    pure (.yield (none,z.2.1+1,0))
   else pure (.yield (none,z.2.1+1,0))
  else do
   let some la<-ltAt' (lo+z.2.1 - 1) (lo+z.2.1)|pure (.done (some none,z.2.1,z.2.2))
   if la=true then pure (.done (none,z.2.1,z.2.2)) else pure (.yield (none,z.2.1+1,z.2.2+1))
noncomputable def dpL(lo n nrem:Nat):StateT SortSt Sem (Option Nat):=do
 liftM (rule "list.sort.descending-run")
 let z<-descL lo (n+1) nrem
 match z.1 with
 | some r=>pure r
 | none =>
  if z.2.2 > 0 then do
   reverseSlice' (lo+z.2.1 - (z.2.2+1)) (lo+z.2.1)
   t3L lo z.2.1 nrem
  else t3L lo z.2.1 nrem
theorem crL_eq(lo nrem:Nat):countRun' lo nrem=(do
    let z<-ascL lo 1 nrem
    match z.1 with
    | some r=>pure r
    | none =>
      if (z.2==nrem)=true then pure (some z.2)
      else if z.2 > 1 then do
        let some ro<-ltAt' lo (lo+z.2 - 1)|pure none
        if ro=true then pure (some z.2) else do
          reverseSlice' lo (lo+z.2)
          dpL lo z.2 nrem
      else dpL lo z.2 nrem):=by
 have te:∀m,(do
     reverseSlice' lo (lo+m)
     let z<-ascL lo m nrem
     match z.1 with
     | some r=>pure r
     | none=>pure (some z.2))=t3L lo m nrem:=λm=>rfl
 rw[countRun'_eq]
 unfold dpL t3L descL ascL
 refine congr (congrArg bind rfl) (funext λz=>?_)
 obtain⟨r,n⟩:=z
 cases r with
 | some r=>rfl
 | none =>
  dsimp only
  have tl:∀z:AscSt,(match z.1 with|some r=>pure r|none=>pure (some z.2):StateT SortSt Sem (Option Nat))=match z.1 with|some r=>pure r|none=>pure (some z.2):=λz=>rfl
  split
  ·rfl
  ·split
   ·congr 1
    funext x
    cases x with
    | none=>rfl
    | some ro =>
     dsimp only
     split
     ·rfl
     ·congr 1
      funext _
      congr 1
      funext _
      congr 1
      funext z
      obtain⟨r,m,q⟩:=z
      cases r with
      | some r=>rfl
      | none =>
       dsimp only
       split
       ·congr 1;funext _;congr 1;funext _;congr 1;funext z;obtain⟨r,k⟩:=z;cases r<;>rfl
       ·congr 1;funext _;congr 1;funext z;obtain⟨r,k⟩:=z;cases r<;>rfl
   ·congr 1
    funext _
    congr 1
    funext z
    obtain⟨r,m,q⟩:=z
    cases r with
    | some r=>rfl
    | none =>
     dsimp only
     split
     ·congr 1;funext _;congr 1;funext _;congr 1;funext z;obtain⟨r,k⟩:=z;cases r<;>rfl
     ·congr 1;funext _;congr 1;funext z;obtain⟨r,k⟩:=z;cases r<;>rfl
theorem w_rev{i j:Nat}{st':SortSt}{Q:Unit->SortSt->Prop}(h:Q () (setArr st' (mirror (arrOf st') i j ((j - i) / 2)))):wpS (model prog w) A E s (reverseSlice' i j) Q st':=by
 rw[reverseSlice'_eq]
 exact wpS_modify h
theorem w_asc(q:Asks prog w A s κ rk S){st':SortSt}{lo N a nrem:Nat}{Q:AscSt->SortSt->Prop}(hS:AllS S (arrOf st))(hn:lo+nrem<=(arrOf st).size)(ha:1<=a)(han:a<=nrem)(hB:Bs κ st lo N st')(hs:Sg rk (arrOf st') lo a)
  (h:∀n,a<=n->n<=nrem->Sg rk (arrOf st') lo n->(n=nrem\/KR rk (arrOf st') (lo+n) < KR rk (arrOf st') (lo+n - 1))->Q (none,n) st'):wpS (model prog w) A E s (ascL lo a nrem) Q st':=by
 unfold ascL
 refine wpS_forRange (I:=λx c z=>z=st'/\c=(none,x)/\Sg rk (arrOf st') lo x) ?step ?fin ⟨rfl,rfl,hs⟩
 case fin =>
  rintro c z ⟨rfl,rfl,h1⟩
  rw[show max a nrem=nrem by omega]at h1 ⊢
  exact h nrem han (R0 _) h1 (.inl rfl)
 case step =>
  rintro x c z hax hxn ⟨rfl,rfl,h1⟩
  dsimp only
  refine wpS_bind (w_ltAt q hS hB (by omega) (by omega) ?_)
  dsimp only
  by_cases hl:KR rk (arrOf z) (lo+x) < KR rk (arrOf z) (lo+x - 1)
  ·rw[if_pos (by simpa using hl)]
   exact wpS_pure (h x hax (by omega) h1 (.inr hl))
  ·rw[if_neg (by simpa using hl)]
   refine wpS_pure ⟨rfl,rfl,λi j hi hij hj=>?_⟩
   by_cases hjx:j < lo+x
   ·exact h1 i j hi hij hjx
   ·have:j=lo+x:=by omega
    subst this
    by_cases hi':i=lo+x
    ·subst hi';exact R0 _
    ·have:=h1 i (lo+x - 1) hi (by omega) (by omega)
     omega
theorem w_t3(q:Asks prog w A s κ rk S){st':SortSt}{lo n nrem:Nat}{Q:Option Nat->SortSt->Prop}(hS:AllS S (arrOf st))(hn:lo+nrem<=(arrOf st).size)(h1:1<=n)(hnn:n<=nrem)(hB:Bs κ st lo nrem st')(hs:Dg rk (arrOf st') lo n)
  (h:∀m z,Bs κ st lo nrem z->1<=m->m<=nrem->Sg rk (arrOf z) lo m->Q (some m) z):wpS (model prog w) A E s (t3L lo n nrem) Q st':=by
 unfold t3L
 refine wpS_bind (w_rev ?_)
 have hz:lo+n<=(arrOf st').size:=by rw[hB.size];omega
 have hB':=hB.mir (i:=lo) (j:=lo+n) (by omega) (R0 _) (by omega)
 refine wpS_bind (w_asc q hS hn h1 hnn hB' (λi j hi hij hj=>?_) λm m1 m2 hm _=>wpS_pure (h m _ hB' (by omega) m2 hm))
 show KR rk (mirror _ _ _ _) i<=KR rk (mirror _ _ _ _) j
 rw[KR_mirror hz,KR_mirror hz,if_pos (by omega),if_pos (by omega)]
 exact hs _ _ (by omega) (by omega) (by omega)
theorem KR_alike{xs:Array Keyed}{i j:Nat}(hj:j<=xs.size)(he:∀k,i<=k->k < j->KR rk xs k=KR rk xs (j - 1))(k:Nat):KR rk (mirror xs i j ((j - i) / 2)) k=KR rk xs k:=by
 rw[KR_mirror hj]
 split
 ·rw[he _ (by omega) (by omega),he k (by omega) (by omega)]
 ·rfl
theorem w_desc(q:Asks prog w A s κ rk S){st':SortSt}{lo n nrem:Nat}{Q:DescSt->SortSt->Prop}(hS:AllS S (arrOf st))(hn:lo+nrem<=(arrOf st).size)(h1:1<=n)(hnn:n<=nrem)(hB:Bs κ st lo nrem st')(hs:Dg rk (arrOf st') lo n)
  (h:∀m e z,Bs κ st lo nrem z->n<=m->m<=nrem->Dg rk (arrOf z) lo m->e+1<=m->(∀i,lo+m - (e+1)<=i->i < lo+m->KR rk (arrOf z) i=KR rk (arrOf z) (lo+m - 1))->Q (none,m,e) z) :
  wpS (model prog w) A E s (descL lo n nrem) Q st':=by
 unfold descL
 refine wpS_forRange (I:=λx c z=>∃e,c=(none,x,e)/\Bs κ st lo nrem z/\Dg rk (arrOf z) lo x/\e+1<=x/\∀i,lo+x - (e+1)<=i->i < lo+x->KR rk (arrOf z) i=KR rk (arrOf z) (lo+x - 1)) ?step ?fin
  ⟨0,rfl,hB,hs,by omega,λi i1 i2=>by congr 1;omega⟩
 case fin =>
  rintro c z ⟨e,rfl,b,d,e1,e2⟩
  rw[show max n nrem=nrem by omega]at d e1 e2 ⊢
  exact h nrem e z b hnn (R0 _) d e1 e2
 case step =>
  rintro x c z hax hxn ⟨e,rfl,b,d,e1,e2⟩
  dsimp only
  have hz:lo+x<=(arrOf z).size:=by rw[b.size];omega
  refine wpS_bind (w_ltAt q hS b (by omega) (by omega) ?_)
  dsimp only
  by_cases hl:KR rk (arrOf z) (lo+x) < KR rk (arrOf z) (lo+x - 1)
  ·rw[if_pos (by simpa using hl)]
   have st1:∀xs:Array Keyed,(∀k,KR rk xs k=KR rk (arrOf z) k)->Dg rk xs lo (x+1):=λxs hk i j hi hij hj=>by
    rw[hk,hk]
    by_cases hjx:j < lo+x
    ·exact d i j hi hij hjx
    ·have:j=lo+x:=by omega
     subst this
     by_cases hi':i=lo+x
     ·subst hi';exact R0 _
     ·have:=d i (lo+x - 1) hi (by omega) (by omega)
      omega
   by_cases he:e > 0
   ·rw[if_pos he]
    exact wpS_bind (w_rev (wpS_pure ⟨0,rfl,b.mir (by omega) (by omega) (by omega),st1 _ (KR_alike hz e2),by omega,λi i1 i2=>by congr 1;omega⟩))
   ·rw[if_neg he]
    exact wpS_pure ⟨0,rfl,b,st1 _ (λ_=>rfl),by omega,λi i1 i2=>by congr 1;omega⟩
  ·rw[if_neg (by simpa using hl)]
   refine wpS_bind (w_ltAt q hS b (by omega) (by omega) ?_)
   dsimp only
   by_cases hg:KR rk (arrOf z) (lo+x - 1) < KR rk (arrOf z) (lo+x)
   ·rw[if_pos (by simpa using hg)]
    exact wpS_pure (h x e z b hax (by omega) d e1 e2)
   ·rw[if_neg (by simpa using hg)]
    refine wpS_pure ⟨e+1,rfl,b,λi j hi hij hj=>?_,by omega,λi i1 i2=>?_⟩
    ·by_cases hjx:j < lo+x
     ·exact d i j hi hij hjx
     ·have:j=lo+x:=by omega
      subst this
      by_cases hi':i=lo+x
      ·subst hi';exact R0 _
      ·have:=d i (lo+x - 1) hi (by omega) (by omega)
       omega
    ·rw[show lo+(x+1) - 1=lo+x by omega]
     by_cases hix:i=lo+x
     ·subst hix;rfl
     ·have:=e2 i (by omega) (by omega)
      omega
theorem w_dp(q:Asks prog w A s κ rk S){st':SortSt}{lo n nrem:Nat}{Q:Option Nat->SortSt->Prop}(hS:AllS S (arrOf st))(hn:lo+nrem<=(arrOf st).size)(hnn:n+1<=nrem)(hB:Bs κ st lo nrem st')(hs:Dg rk (arrOf st') lo (n+1))
  (h:∀m z,Bs κ st lo nrem z->1<=m->m<=nrem->Sg rk (arrOf z) lo m->Q (some m) z):wpS (model prog w) A E s (dpL lo n nrem) Q st':=by
 unfold dpL
 refine wpS_bind (wpS_lift (wpAny_rule ⟨rfl,?_⟩))
 refine wpS_bind (w_desc q hS hn (by omega) hnn hB hs λm e z b m1 m2 d e1 e2=>?_)
 dsimp only
 have hz:lo+m<=(arrOf z).size:=by rw[b.size];omega
 by_cases he:e > 0
 ·rw[if_pos he]
  refine wpS_bind (w_rev (w_t3 q hS hn (by omega) m2 (b.mir (by omega) (by omega) (by omega)) (λi j hi hij hj=>?_) h))
  show KR rk (mirror _ _ _ _) j<=KR rk (mirror _ _ _ _) i
  rw[KR_alike hz e2,KR_alike hz e2]
  exact d i j hi hij hj
 ·rw[if_neg he]
  exact w_t3 q hS hn (by omega) m2 b d h
theorem w_cr(q:Asks prog w A s κ rk S){lo nrem:Nat}{Q:Option Nat->SortSt->Prop}(hS:AllS S (arrOf st))(hn:lo+nrem<=(arrOf st).size)(h1:1<=nrem)(hB:Bs κ st lo nrem st)
  (h:∀m z,Bs κ st lo nrem z->1<=m->m<=nrem->Sg rk (arrOf z) lo m->Q (some m) z):wpS (model prog w) A E s (countRun' lo nrem) Q st:=by
 rw[crL_eq]
 refine wpS_bind (w_asc q hS hn (R0 1) h1 hB (λi j hi hij hj=>by have:i=j:=(by omega);subst this;exact R0 _) λn n1 n2 sn hor=>?_)
 dsimp only
 by_cases hnn:n=nrem
 ·rw[if_pos (by simpa using hnn)]
  exact wpS_pure (h n st hB n1 n2 sn)
 ·rw[if_neg (by simpa using hnn)]
  have hlt:=hor.resolve_left hnn
  by_cases hgt:n > 1
  ·rw[if_pos hgt]
   refine wpS_bind (w_ltAt q hS hB (by omega) (by omega) ?_)
   dsimp only
   by_cases hr:KR rk (arrOf st) lo < KR rk (arrOf st) (lo+n - 1)
   ·rw[if_pos (by simpa using hr)]
    exact wpS_pure (h n st hB n1 n2 sn)
   ·rw[if_neg (by simpa using hr)]
    have hz:lo+n<=(arrOf st).size:=by omega
    have all:∀k,lo<=k->k < lo+n->KR rk (arrOf st) k=KR rk (arrOf st) (lo+n - 1):=λk k1 k2=>by
     have a1:=sn lo k (by omega) k1 k2
     have a2:=sn k (lo+n - 1) k1 (by omega) (by omega)
     omega
    refine wpS_bind (w_rev (w_dp q hS hn (by omega) (hB.mir (by omega) (by omega) (by omega)) (λi j hi hij hj=>?_) h))
    show KR rk (mirror _ _ _ _) j<=KR rk (mirror _ _ _ _) i
    rw[KR_alike hz all,KR_alike hz all]
    by_cases hjn:j < lo+n
    ·have:=all i hi (by omega)
     have:=all j (by omega) hjn
     omega
    ·have:j=lo+n:=by omega
     subst this
     by_cases hi':i=lo+n
     ·subst hi';exact R0 _
     ·have:=all i hi (by omega)
      omega
  ·rw[if_neg hgt]
   have:n=1:=by omega
   subst this
   refine w_dp q hS hn (by omega) hB (λi j hi hij hj=>?_) h
   by_cases hi':i=j
   ·subst hi';exact R0 _
   ·have e1:i=lo:=by omega
    have e2:j=lo+1:=by omega
    subst e1;subst e2
    exact K5 hlt
theorem w_bins(q:Asks prog w A s κ rk S){st':SortSt}{lo N n ok:Nat}{Q:Bool->SortSt->Prop}(hS:AllS S (arrOf st))(hn:lo+n<=(arrOf st).size)(hnN:n<=N)(hok:ok<=n)(hB:Bs κ st lo N st')(hs:Sg rk (arrOf st') lo ok)
  (h:∀z,Bs κ st lo N z->Sg rk (arrOf z) lo n->Q true z):wpS (model prog w) A E s (binarySort' lo n ok) Q st':=by
 rw[binarySort'_eq]
 refine wpS_bind (wpS_mono (wpS_forRange (I:=λk c z=>c=(none,())/\Bs κ st lo N z/\Sg rk (arrOf z) lo (min k n)) (Q:=λc z=>c=(none,())/\Bs κ st lo N z/\Sg rk (arrOf z) lo n) ?step ?fin ?init) ?post)
 case post =>
  rintro c z ⟨rfl,b,hs'⟩
  exact wpS_pure (h z b hs')
 case init =>
  refine ⟨rfl,hB,λi j hi hij hj=>?_⟩
  by_cases h1:ok=0
  ·have:i=j:=by omega
   subst this;exact R0 _
  ·exact hs i j hi hij (by omega)
 case fin =>
  rintro c z ⟨hc,b,hs'⟩
  refine ⟨hc,b,?_⟩
  rwa [show min (max (max ok 1) n) n=n by omega]at hs'
 case step =>
  rintro k c z hak hkn ⟨rfl,b,hs'⟩
  rw[show min k n=k by omega]at hs'
  refine wpS_bind (wpS_mono (wpS_forRange (I:=λx c z'=>z'=z/\∃l r,c=(none,l,r)/\l<=r/\r<=k/\r - l<=k - x/\(∀i,i < l->KR rk (arrOf z) (lo+i)<=KR rk (arrOf z) (lo+k))/\(∀i,r<=i->i < k->KR rk (arrOf z) (lo+k) < KR rk (arrOf z) (lo+i)))
    (Q:=λc z'=>z'=z/\∃l r,c=(none,l,r)/\l<=k/\(∀i,i < l->KR rk (arrOf z) (lo+i)<=KR rk (arrOf z) (lo+k))/\(∀i,l<=i->i < k->KR rk (arrOf z) (lo+k) < KR rk (arrOf z) (lo+i))) ?istep ?ifin ?iinit) ?ipost)
  case iinit=>exact ⟨rfl,0,k,rfl,by omega,by omega,by omega,λi hi=>by omega,λi h1 h2=>by omega⟩
  case ifin =>
   rintro c z' ⟨rfl,l,r,rfl,hlr,hrk,hm,hlo,hhi⟩
   have:l=r:=by omega
   subst this
   exact ⟨rfl,l,l,rfl,hrk,hlo,hhi⟩
  case istep =>
   rintro x c z' _ hxk ⟨rfl,l,r,rfl,hlr,hrk,hm,hlo,hhi⟩
   dsimp only
   by_cases hge:l ≥ r
   ·rw[if_pos hge]
    have:l=r:=by omega
    subst this
    exact wpS_pure ⟨rfl,l,l,rfl,hrk,hlo,hhi⟩
   ·rw[if_neg hge]
    refine wpS_bind (w_ltAt q hS b (by omega) (by omega) ?_)
    dsimp only
    by_cases hl:KR rk (arrOf z') (lo+k) < KR rk (arrOf z') (lo+(l+r) / 2)
    ·rw[if_pos (by simpa using hl)]
     refine wpS_pure ⟨rfl,l,(l+r) / 2,rfl,by omega,by omega,by omega,hlo,λi h1 h2=>?_⟩
     have:=hs' (lo+(l+r) / 2) (lo+i) (by omega) (by omega) (by omega)
     omega
    ·rw[if_neg (by simpa using hl)]
     refine wpS_pure ⟨rfl,(l+r) / 2+1,r,rfl,by omega,by omega,by omega,λi h1=>?_,hhi⟩
     have:=hs' (lo+i) (lo+(l+r) / 2) (by omega) (by omega) (by omega)
     omega
  case ipost =>
   rintro c z' ⟨rfl,l,r,rfl,hlk,hlo,hhi⟩
   show wpS _ _ _ _ (do moveDown' (lo+k) (lo+l);pure (ForInStep.yield (none,()))) _ _
   rw[moveDown'_eq]
   have hks:lo+k < (arrOf z').size:=by rw[b.size];omega
   refine wpS_bind (wpS_modify (wpS_pure ⟨rfl,⟨(bubble_perm _ _ _).trans b.perm,b.kind,b.failed,b.pend,λi hi=>?_⟩,?_⟩))
   ·show (bubble (arrOf z') _ _)[i]?=_
    rw[getElem?_bubble hks _ (by omega),if_neg (by omega),if_neg (by omega)]
    exact b.keep i hi
   ·rw[show min (k+1) n=k+1 by omega]
    intro i j hi hij hj
    show KR rk (bubble (arrOf z') (lo+k) (lo+k - (lo+l))) i<=KR rk (bubble (arrOf z') (lo+k) (lo+k - (lo+l))) j
    rw[KR_bubble hks (by omega),KR_bubble hks (by omega),show lo+k - (lo+k - (lo+l))=lo+l by omega]
    have hlo':∀i,lo<=i->i < lo+l->KR rk (arrOf z') i<=KR rk (arrOf z') (lo+k):=λi h1 h2=>by
     have:=hlo (i - lo) (by omega)
     rwa [show lo+(i - lo)=i by omega]at this
    have hhi':∀i,lo+l<=i->i < lo+k->KR rk (arrOf z') (lo+k) < KR rk (arrOf z') i:=λi h1 h2=>by
     have:=hhi (i - lo) (by omega) (by omega)
     rwa [show lo+(i - lo)=i by omega]at this
    repeat' split
    all_goals first
     | (exfalso;omega)
     | exact R0 _
     | exact hlo' _ (by omega) (by omega)
     | exact K5 (hhi' _ (by omega) (by omega))
     | exact hs' _ _ (by omega) (by omega) (by omega)
end
noncomputable def wb(xs:Array Keyed)(c:Nat)(m:List Keyed)(n:Nat):Array Keyed:=(m.zipIdx n).foldl (λa pj=>a.setIfInBounds (c+pj.2) pj.1) xs
theorem mAt_eq(i:Nat):mergeAt' i=(do
    let z<-get
    let (some (sa,na,pw),some (sb,nb,_)):=((pendingOf z)[i]?,(pendingOf z)[i+1]?)|unsupported "internal:list.sort.pending"
    set (setPending z (((pendingOf z).setIfInBounds i (sa,na+nb,pw)).eraseIdxIfInBounds (i+1)))
    let some k<-gal false (<- elem' (arrOf z) sb) (arrOf z) sa na 0|return false
    let (sa,na):=(sa+k,na - k)
    if na==0 then return true
    let some nb<-gal true (<- elem' (arrOf z) (sa+na - 1)) (arrOf z) sb nb (nb - 1)|return false
    if nb==0 then return true
    let x:=(arrOf z).extract sa sb
    let y:=(arrOf z).extract sb (sb+nb)
    let r<-if na<=nb then mLo x y else mHi x y
    modify λv=>setArr v (wb (arrOf v) sa r.toList 0)
    return (failedOf (<- get)).isNone):=rfl
theorem wb_get:∀(m:List Keyed) (n c:Nat) (xs:Array Keyed),c+n+m.length<=xs.size->∀k,(wb xs c m n)[k]?=if c+n<=k/\k < c+n+m.length then m[k - (c+n)]? else xs[k]?
 | [],n,c,xs,_,k=>by
  show xs[k]?=_
  rw[if_neg (by simp)]
 | p :: m,n,c,xs,h,k=>by
  have hl:(p :: m).length=m.length+1:=rfl
  show (wb (xs.setIfInBounds (c+n) p) c m (n+1))[k]?=_
  rw[wb_get m (n+1) c _ (by rw[Array.size_setIfInBounds];omega),Array.getElem?_setIfInBounds]
  by_cases h1:c+n=k
  ·subst h1
   rw[if_neg (by omega),if_pos rfl,if_pos (by omega),if_pos (by omega)]
   simp
  ·by_cases h2:c+(n+1)<=k/\k < c+(n+1)+m.length
   ·rw[if_pos h2,if_pos (by omega)]
    have e:k - (c+n)=(k - (c+(n+1)))+1:=by omega
    rw[e,O3]
   ·rw[if_neg h2,if_neg h1,if_neg (by omega)]
theorem wb_list{xs:Array Keyed}{c:Nat}{m:List Keyed}(h:c+m.length<=xs.size):(wb xs c m 0).toList=xs.toList.take c++m++xs.toList.drop (c+m.length):=by
 apply List.ext_getElem?
 intro k
 rw[J3,wb_get m 0 c xs (by omega)]
 have hl:(xs.toList.take c).length=c:=by rw[T4,Q0];omega
 rw[L1]
 by_cases h1:k < c
 ·rw[if_neg (by omega),P2 (by omega),Z7 h1,J3]
 ·rw[S1 (by omega),hl]
  by_cases h2:k - c < m.length
  ·rw[if_pos (by omega),P2 h2]
   rfl
  ·rw[if_neg (by omega),S1 (by omega),X8,J3]
   congr 1
   omega
section
variable {prog:Program}{w:World}{A:Around}{E:Value->Shared->Prop}{s:Shared}{κ:SortKind}{rk:Keyed->Nat}{S:Keyed->Prop}{st:SortSt}
theorem ext_at{xs:Array Keyed}{a b i:Nat}(hb:b<=xs.size)(hi:i < (xs.extract a b).size):(xs.extract a b)[i]=xs[a+i]'(by rw[N6]at hi;omega):=by
 rw[Array.getElem_extract]
theorem ext_pw{xs:Array Keyed}{a b:Nat}(hb:b<=xs.size)(h:∀i j,a<=i->i<=j->j < b->KR rk xs i<=KR rk xs j):(xs.extract a b).toList.Pairwise (leK rk):=by
 rw[Q2]
 intro i j hi hj hij
 rw[Q0]at hi hj
 rw[T2,T2,ext_at hb,ext_at hb]
 have hz:(xs.extract a b).size=b - a:=by rw[N6];omega
 have:=h (a+i) (a+j) (by omega) (by omega) (by omega)
 rwa [KR_at (by omega),KR_at (by omega)]at this
structure Mt(κ:SortKind)(rk:Keyed->Nat)(st:SortSt)(i sa na nb pw:Nat)(st':SortSt):Prop where
 perm:(arrOf st').Perm (arrOf st)
 kind:kindOf st'=κ
 failed:failedOf st'=none
 pend:pendingOf st'=((pendingOf st).setIfInBounds i (sa,na+nb,pw)).eraseIdxIfInBounds (i+1)
 keep:∀j,j < sa\/sa+(na+nb)<=j->(arrOf st')[j]?=(arrOf st)[j]?
 sg:Sg rk (arrOf st') sa (na+nb)
theorem w_mAt(q:Asks prog w A s κ rk S){i sa na nb pw pw':Nat}{Q:Bool->SortSt->Prop}(hS:AllS S (arrOf st))(hk:kindOf st=κ)(hF:failedOf st=none)(p1:(pendingOf st)[i]?=some (sa,na,pw))(p2:(pendingOf st)[i+1]?=some (sa+na,nb,pw'))
  (hz:sa+na+nb<=(arrOf st).size) (n1:1<=na) (n2:1<=nb) (s1:Sg rk (arrOf st) sa na) (s2:Sg rk (arrOf st) (sa+na) nb) (h:∀st',Mt κ rk st i sa na nb pw st'->Q true st') :
  wpS (model prog w) A E s (mergeAt' i) Q st:=by
 rw[mAt_eq]
 refine wpS_bind (wpS_get ?_)
 rw[p1,p2]
 dsimp only
 refine wpS_bind (wpS_modify (f:=λ_=>setPending st (((pendingOf st).setIfInBounds i (sa,na+nb,pw)).eraseIdxIfInBounds (i+1))) ?_)
 generalize hst1:setPending st (((pendingOf st).setIfInBounds i (sa,na+nb,pw)).eraseIdxIfInBounds (i+1))=st1
 have hk1:kindOf st1=κ:=by rw[<- hst1];exact hk
 have hF1:failedOf st1=none:=by rw[<- hst1];exact hF
 have hA1:arrOf st1=arrOf st:=by rw[<- hst1]
 have hP1:pendingOf st1=((pendingOf st).setIfInBounds i (sa,na+nb,pw)).eraseIdxIfInBounds (i+1):=by rw[<- hst1]
 have hSi:∀j (hj:j < (arrOf st).size),S (arrOf st)[j]:=λj hj=>hS _ (by simp)
 have s1':∀a b,sa<=a->a<=b->b < sa+na->KR rk (arrOf st) a<=KR rk (arrOf st) b:=s1
 have s2':∀a b,sa+na<=a->a<=b->b < sa+na+nb->KR rk (arrOf st) a<=KR rk (arrOf st) b:=s2
 refine wpS_bind (w_elem (by omega) ?_)
 refine wpS_bind (w_gallop q hk1 (hSi _ _) hSi (by omega) (λa b hb hab h1 h2=>by
   have:=s1' a b h1 hab h2
   rwa [KR_at (by omega),KR_at hb]at this) (by omega) λk kn k1 k2=>?_)
 dsimp only
 have k1':∀a,sa<=a->a < sa+k->KR rk (arrOf st) a<=KR rk (arrOf st) (sa+na):=λa h1 h2=>by
  have:=k1 a (by omega) h1 h2
  rw[if_neg (by decide)]at this
  rwa [KR_at (by omega),KR_at (by omega)]
 have k2':∀a,sa+k<=a->a < sa+na->KR rk (arrOf st) (sa+na) < KR rk (arrOf st) a:=λa h1 h2=>by
  have:=k2 a (by omega) h1 h2
  rw[if_neg (by decide)]at this
  rwa [KR_at (by omega),KR_at (by omega)]
 by_cases h0:na - k=0
 ·rw[if_pos (by simpa using h0)]
  refine wpS_pure (h st1 ⟨by rw[hA1],hk1,hF1,hP1,λj _=>by rw[hA1],λa b h1 h2 h3=>?_⟩)
  rw[hA1]
  by_cases hb:b < sa+na
  ·exact s1' a b h1 h2 hb
  ·by_cases ha:a < sa+na
   ·exact X0 (k1' a h1 (by omega)) (s2' (sa+na) b (by omega) (by omega) (by omega))
   ·exact s2' a b (by omega) h2 (by omega)
 ·rw[if_neg (by simpa using h0)]
  refine wpS_bind (w_elem (by omega) ?_)
  refine wpS_bind (w_gallop q hk1 (hSi _ _) hSi (by omega) (λa b hb hab h1 h2=>by
    have:=s2' a b h1 hab h2
    rwa [KR_at (by omega),KR_at hb]at this) (by omega) λl ln l1 l2=>?_)
  dsimp only
  have l1':∀a,sa+na<=a->a < sa+na+l->KR rk (arrOf st) a < KR rk (arrOf st) (sa+k+(na - k) - 1):=λa h1 h2=>by
   have:=l1 a (by omega) h1 h2
   rw[if_pos rfl]at this
   rwa [KR_at (by omega),KR_at (by omega)]
  have l2':∀a,sa+na+l<=a->a < sa+na+nb->KR rk (arrOf st) (sa+k+(na - k) - 1)<=KR rk (arrOf st) a:=λa h1 h2=>by
   have:=l2 a (by omega) h1 h2
   rw[if_pos rfl]at this
   rwa [KR_at (by omega),KR_at (by omega)]
  have el:sa+k+(na - k) - 1=sa+na - 1:=by omega
  rw[el]at l1' l2'
  by_cases hl0:l=0
  ·rw[if_pos (by simpa using hl0)]
   refine wpS_pure (h st1 ⟨by rw[hA1],hk1,hF1,hP1,λj _=>by rw[hA1],λa b h1 h2 h3=>?_⟩)
   rw[hA1]
   by_cases hb:b < sa+na
   ·exact s1' a b h1 h2 hb
   ·by_cases ha:a < sa+na
    ·exact X0 (s1' a (sa+na - 1) h1 (by omega) (by omega)) (l2' b (by omega) (by omega))
    ·exact s2' a b (by omega) h2 (by omega)
  ·rw[if_neg (by simpa using hl0)]
   have hxz:((arrOf st).extract (sa+k) (sa+na)).size=na - k:=by rw[N6];omega
   have hyz:((arrOf st).extract (sa+na) (sa+na+l)).size=l:=by rw[N6];omega
   have H:Hy rk S ((arrOf st).extract (sa+k) (sa+na)) ((arrOf st).extract (sa+na) (sa+na+l)):=by
    refine ⟨ext_pw (by omega) λa b h1 h2 h3=>s1' a b (by omega) h2 h3,ext_pw (by omega) λa b h1 h2 h3=>s2' a b h1 h2 (by omega),λj hj=>?_,λj hj=>?_,by omega,by omega,λj hj=>?_,λj hj=>?_⟩
    ·rw[ext_at (by omega)];exact hSi _ _
    ·rw[ext_at (by omega)];exact hSi _ _
    ·rw[ext_at (by omega),ext_at (by omega)]
     have:=l1' (sa+na+j) (by omega) (by omega)
     rw[KR_at (by omega),KR_at (by omega)]at this
     simp only[hxz]
     have e2:sa+k+(na - k - 1)=sa+na - 1:=by omega
     simp only[e2]
     exact K5 this
    ·rw[ext_at (by omega),ext_at (by omega)]
     have:=k2' (sa+k+j) (by omega) (by omega)
     rw[KR_at (by omega),KR_at (by omega)]at this
     simp only[Nat.add_zero]
     exact K5 this
   have go:∀(r:Array Keyed) (st2:SortSt),Gs st1 st2->Po rk ((arrOf st).extract (sa+k) (sa+na)) ((arrOf st).extract (sa+na) (sa+na+l)) r->wpS (model prog w) A E s (do
       modify λv=>setArr v (wb (arrOf v) (sa+k) r.toList 0)
       let v<-get
       pure (failedOf v).isNone) Q st2:=by
    rintro r st2 ⟨g,rfl⟩ ⟨hp,hw⟩
    refine wpS_bind (wpS_modify (wpS_bind (wpS_get ?_)))
    have hlen:r.toList.length=na - k+l:=by rw[hp.length_eq,M0,Q0,Q0,hxz,hyz]
    have hb:sa+k+r.toList.length<=(arrOf st).size:=by omega
    have eA:arrOf (setArr (setG st1 g) (wb (arrOf (setG st1 g)) (sa+k) r.toList 0))=wb (arrOf st) (sa+k) r.toList 0:=by
     show wb (arrOf st1) _ _ _=_
     rw[hA1]
    have eF:failedOf (setArr (setG st1 g) (wb (arrOf (setG st1 g)) (sa+k) r.toList 0))=none:=hF1
    rw[eF]
    have gt:∀j,(wb (arrOf st) (sa+k) r.toList 0)[j]?=if sa+k<=j/\j < sa+k+r.toList.length then r.toList[j - (sa+k)]? else (arrOf st)[j]?:=λj=>wb_get r.toList 0 (sa+k) (arrOf st) hb j
    have mid:∀j,sa+k<=j->j < sa+na+l->∃n,sa+k<=n/\n < sa+na+l/\KR rk (wb (arrOf st) (sa+k) r.toList 0) j=KR rk (arrOf st) n:=λj j1 j2=>by
     have hj:j - (sa+k) < r.toList.length:=by omega
     have e:KR rk (wb (arrOf st) (sa+k) r.toList 0) j=rk (r.toList[j - (sa+k)]'hj):=by
      unfold KR
      rw[gt,if_pos (by omega),O0 hj]
     have hm:=hp.mem_iff.mp (i4 hj)
     rw[e]
     rcases W1.mp hm with hm|hm
     ·obtain⟨n,hn,en⟩:=B4 hm
      rw[Q0]at hn
      rw[T2,ext_at (by omega)]at en
      refine ⟨sa+k+n,by omega,by omega,?_⟩
      rw[<- en,KR_at (by omega)]
     ·obtain⟨n,hn,en⟩:=B4 hm
      rw[Q0]at hn
      rw[T2,ext_at (by omega)]at en
      refine ⟨sa+na+n,by omega,by omega,?_⟩
      rw[<- en,KR_at (by omega)]
    have out:∀j,j < sa+k\/sa+na+l<=j->(wb (arrOf st) (sa+k) r.toList 0)[j]?=(arrOf st)[j]?:=λj hj=>by rw[gt,if_neg (by omega)]
    refine wpS_pure (h _ ⟨?_,hk1,hF1,hP1,?_,?_⟩)
    ·rw[eA,Z4,wb_list hb]
     have e:(arrOf st).toList=(arrOf st).toList.take (sa+k)++(((arrOf st).extract (sa+k) (sa+na)).toList++((arrOf st).extract (sa+na) (sa+na+l)).toList)++(arrOf st).toList.drop (sa+k+r.toList.length):=by
      rw[j4,j4,A3,A3]
      have e1:(arrOf st).toList.drop (sa+na)=((arrOf st).toList.drop (sa+k)).drop (na - k):=by rw[O8];congr 1;omega
      rw[e1,show sa+na - (sa+k)=na - k by omega,show sa+na+l - (sa+na)=l by omega,<- List.take_add,hlen]
      have e2:(arrOf st).toList.drop (sa+k+(na - k+l))=((arrOf st).toList.drop (sa+k)).drop (na - k+l):=by rw[O8]
      rw[e2,L1,J4,J4]
     conv=>rhs;rw[e]
     exact (hp.append_left _).append_right _
    ·intro j hj
     rw[eA]
     exact out j (by omega)
    ·rw[eA]
     intro a b h1 h2 h3
     have kA:∀a,a < sa+k->KR rk (wb (arrOf st) (sa+k) r.toList 0) a=KR rk (arrOf st) a:=λa ha=>KR_congr (out a (.inl ha))
     have kB:∀a,sa+na+l<=a->KR rk (wb (arrOf st) (sa+k) r.toList 0) a=KR rk (arrOf st) a:=λa ha=>KR_congr (out a (.inr ha))
     by_cases ha:a < sa+k
     ·rw[kA a ha]
      by_cases hb1:b < sa+k
      ·rw[kA b hb1];exact s1' a b h1 h2 (by omega)
      ·by_cases hb2:b < sa+na+l
       ·obtain⟨n,m1,m2,en⟩:=mid b (by omega) hb2
        rw[en]
        by_cases hn:n < sa+na
        ·exact s1' a n h1 (by omega) hn
        ·exact X0 (k1' a h1 ha) (s2' (sa+na) n (by omega) (by omega) (by omega))
       ·rw[kB b (by omega)]
        exact X0 (k1' a h1 ha) (s2' (sa+na) b (by omega) (by omega) (by omega))
     ·by_cases ha2:a < sa+na+l
      ·by_cases hb2:b < sa+na+l
       ·have ha':a - (sa+k) < r.toList.length:=by omega
        have hb':b - (sa+k) < r.toList.length:=by omega
        have ea:KR rk (wb (arrOf st) (sa+k) r.toList 0) a=rk (r.toList[a - (sa+k)]'ha'):=by
         unfold KR
         rw[gt,if_pos (by omega),O0 ha']
        have eb:KR rk (wb (arrOf st) (sa+k) r.toList 0) b=rk (r.toList[b - (sa+k)]'hb'):=by
         unfold KR
         rw[gt,if_pos (by omega),O0 hb']
        rw[ea,eb]
        rcases m9 a b with hab|hab
        ·exact Q2.mp hw _ _ ha' hb' (by omega)
        ·have:a=b:=by omega
         subst this
         exact R0 _
       ·obtain⟨n,m1,m2,en⟩:=mid a (by omega) ha2
        rw[en,kB b (by omega)]
        by_cases hn:n < sa+na
        ·exact X0 (s1' n (sa+na - 1) (by omega) (by omega) (by omega)) (l2' b (by omega) (by omega))
        ·exact s2' n b (by omega) (by omega) (by omega)
      ·rw[kB a (by omega),kB b (by omega)]
       exact s2' a b (by omega) h2 (by omega)
   by_cases hle:na - k<=l
   ·simp only[if_pos hle]
    exact wpS_bind (w_mLo q H hk1 λr st2 hg hP=>go r st2 hg hP)
   ·simp only[if_neg hle]
    exact wpS_bind (w_mHi q H hk1 λr st2 hg hP=>go r st2 hg hP)
end
noncomputable def Ch(rk:Keyed->Nat)(xs:Array Keyed):List (Nat×Nat×Nat)->Nat->Nat->Prop
 | [],b,e=>b=e
 | p :: l,b,e=>p.1=b/\1<=p.2.1/\Sg rk xs b p.2.1/\Ch rk xs l (b+p.2.1) e
theorem Ch.len{rk:Keyed->Nat}{xs:Array Keyed}:∀{l:List (Nat×Nat×Nat)}{b e:Nat},Ch rk xs l b e->b+l.length<=e
 | [],b,e,h=>by cases h;simp
 | p :: l,b,e,h=>by
  have:=h.2.2.2.len
  have:=h.2.1
  rw[V1]
  omega
theorem Ch.append{rk:Keyed->Nat}{xs:Array Keyed}:∀{l l':List (Nat×Nat×Nat)}{b e:Nat},Ch rk xs (l++l') b e ↔ ∃m,Ch rk xs l b m/\Ch rk xs l' m e
 | [],l',b,e=>⟨λh=>⟨b,rfl,h⟩,λ⟨m,h1,h2⟩=>by cases h1;exact h2⟩
 | p :: l,l',b,e=>⟨λ⟨h1,h2,h3,h4⟩=>by
     obtain⟨m,h5,h6⟩:=Ch.append.mp h4
     exact ⟨m,⟨h1,h2,h3,h5⟩,h6⟩,λ⟨m,⟨h1,h2,h3,h5⟩,h6⟩=>⟨h1,h2,h3,Ch.append.mpr ⟨m,h5,h6⟩⟩⟩
theorem Ch.congr{rk:Keyed->Nat}{xs ys:Array Keyed}:∀{l:List (Nat×Nat×Nat)}{b e:Nat},(∀i,b<=i->i < e->ys[i]?=xs[i]?)->Ch rk xs l b e->Ch rk ys l b e
 | [],_,_,_,h=>h
 | p :: l,b,e,k,⟨h1,h2,h3,h4⟩=>by
  have:=h4.len
  refine ⟨h1,h2,λi j hi hij hj=>?_,h4.congr λi hi he=>k i (by omega) he⟩
  rw[KR_congr (k i hi (by omega)),KR_congr (k j (by omega) (by omega))]
  exact h3 i j hi hij hj
structure In(κ:SortKind)(rk:Keyed->Nat)(st:SortSt)(lo:Nat)(st':SortSt):Prop where
 perm:(arrOf st').Perm (arrOf st)
 kind:kindOf st'=κ
 failed:failedOf st'=none
 ch:Ch rk (arrOf st') (pendingOf st').toList 0 lo
theorem In.size{κ:SortKind}{rk:Keyed->Nat}{st st':SortSt}{lo:Nat}(h:In κ rk st lo st'):(arrOf st').size=(arrOf st).size:=h.perm.size_eq
section
variable {prog:Program}{w:World}{A:Around}{E:Value->Shared->Prop}{s:Shared}{κ:SortKind}{rk:Keyed->Nat}{S:Keyed->Prop}{st:SortSt}
theorem AllS.perm{xs ys:Array Keyed}(h:AllS S xs)(p:ys.Perm xs):AllS S ys:=λq hq=>h q ((Z4.mp p).mem_iff.mp hq)
theorem w_mIn(q:Asks prog w A s κ rk S){i lo:Nat}{st':SortSt}{Q:Bool->SortSt->Prop}(hS:AllS S (arrOf st))(hI:In κ rk st lo st')(hlo:lo<=(arrOf st).size)(hi:i+1 < (pendingOf st').size)
  (h:∀st'',In κ rk st lo st''->(pendingOf st'').size+1=(pendingOf st').size->(∀j,lo<=j->(arrOf st'')[j]?=(arrOf st')[j]?)->Q true st''):wpS (model prog w) A E s (mergeAt' i) Q st':=by
 obtain⟨perm,kind,failed,ch⟩:=hI
 have hl:(pendingOf st').toList.length=(pendingOf st').size:=Q0
 obtain⟨pre,p,p',post,e,ep⟩:∃pre p p' post,(pendingOf st').toList=pre++p :: p' :: post/\pre.length=i:=by
  refine ⟨(pendingOf st').toList.take i,(pendingOf st').toList[i]'(by omega),(pendingOf st').toList[i+1]'(by omega),(pendingOf st').toList.drop (i+2),?_,by rw[T4];omega⟩
  have e1:=T3 (l:=(pendingOf st').toList) (i:=i) (by omega)
  have e2:=T3 (l:=(pendingOf st').toList) (i:=i+1) (by omega)
  rw[<- e2,<- e1,J4]
 rw[e]at ch
 obtain⟨m,c1,c2⟩:=Ch.append.mp ch
 obtain⟨sa,na,pw⟩:=p
 obtain⟨sb,nb,pw'⟩:=p'
 obtain⟨f1,f2,f3,g1,g2,g3,c3⟩:=c2
 dsimp only at f1 f2 f3 g1 g2 g3 c3
 subst f1
 subst g1
 have hlen:=c3.len
 have q1:(pendingOf st')[i]?=some (sa,na,pw):=by rw[<- J3,e,S1 (by omega),ep,Nat.sub_self];rfl
 have q2:(pendingOf st')[i+1]?=some (sa+na,nb,pw'):=by rw[<- J3,e,S1 (by omega),ep,W5];rfl
 have hz:=perm.size_eq
 refine w_mAt q (hS.perm perm) kind failed q1 q2 (by omega) f2 g2 f3 g3 λst'' M=>?_
 have el:(pendingOf st'').toList=pre++(sa,na+nb,pw) :: post:=by
  rw[M.pend,Array.toList_eraseIdxIfInBounds,Array.toList_setIfInBounds,e,<- ep,List.set_append_right _ _ (R0 _),Nat.sub_self,List.eraseIdx_append_of_length_le (by omega),W5]
  rfl
 refine h st'' ⟨M.perm.trans perm,M.kind,M.failed,?_⟩ ?_ λj hj=>M.keep j (.inr (by omega))
 ·rw[el]
  refine Ch.append.mpr ⟨sa,c1.congr λj _ hj=>M.keep j (.inl hj),rfl,by show 1<=na+nb;omega,M.sg,?_⟩
  show Ch rk _ post (sa+(na+nb)) lo
  rw[<- Nat.add_assoc]
  exact c3.congr λj hj _=>M.keep j (.inr (by omega))
 ·have e1:=congrArg Y3 el
  have e2:=congrArg Y3 e
  rw[Q0]at e1 e2
  simp only[M0,V1]at e1 e2
  omega
theorem Ch.modify{xs:Array Keyed}(pw:Nat):∀{l:List (Nat×Nat×Nat)}{i b e:Nat},Ch rk xs l b e->Ch rk xs (l.modify i λx=>(x.1,x.2.1,pw)) b e
 | [],i,_,_,h=>by cases i<;>exact h
 | p :: l,0,_,_,h=>h
 | p :: l,i+1,_,_,⟨h1,h2,h3,h4⟩=>⟨h1,h2,h3,h4.modify pw (i:=i)⟩
theorem In.put{lo n pw:Nat}{z:SortSt}(h:In κ rk st lo z):In κ rk st lo (setPending z ((pendingOf z).modify ((pendingOf z).size - 1) λx=>(x.1,x.2.1,pw))) :=
 ⟨h.perm,h.kind,h.failed,by
   show Ch rk (arrOf z) ((pendingOf z).modify ((pendingOf z).size - 1) λx=>(x.1,x.2.1,pw)).toList 0 lo
   rw[Array.toList_modify]
   exact h.ch.modify pw⟩
theorem In.push{lo n:Nat}{z:SortSt}(h:In κ rk st lo z)(hn:1<=n)(hs:Sg rk (arrOf z) lo n):In κ rk st (lo+n) (setPending z ((pendingOf z).push (lo,n,0))) :=
 ⟨h.perm,h.kind,h.failed,by
   show Ch rk (arrOf z) ((pendingOf z).push (lo,n,0)).toList 0 (lo+n)
   rw[V7]
   exact Ch.append.mpr ⟨lo,h.ch,rfl,hn,hs,rfl⟩⟩
theorem In.run{lo n:Nat}{z z':SortSt}(h:In κ rk st lo z)(b:Bs κ z lo n z'):In κ rk st lo z' :=
 ⟨b.perm.trans h.perm,b.kind,b.failed,by
   rw[b.pend]
   exact h.ch.congr λi _ hi=>b.keep i (.inl hi)⟩
theorem Sg.congr{xs ys:Array Keyed}{lo n:Nat}(h:Sg rk xs lo n)(k:∀j,lo<=j->ys[j]?=xs[j]?):Sg rk ys lo n:=λi j hi hij hj=>by
 rw[KR_congr (k i hi),KR_congr (k j (by omega))]
 exact h i j hi hij hj
theorem w_sort(q:Asks prog w A s κ rk S){Q:Unit->SortSt->Prop}(hS:AllS S (arrOf st))(hk:kindOf st=κ)(hF:failedOf st=none)(hP:pendingOf st=#[])
  (h:∀st',(arrOf st').Perm (arrOf st)->failedOf st'=none->Sg rk (arrOf st') 0 (arrOf st).size->Q () st'):wpS (model prog w) A E s sortRuns' Q st:=by
 rw[sortRuns'_eq]
 refine wpS_bind (wpS_get ?_)
 dsimp only
 have I0:In κ rk st 0 st:=⟨Array.Perm.refl _,hk,hF,by rw[hP];rfl⟩
 refine wpS_bind (wpS_mono (wpS_forRange (I:=λx c z=>∃lo,c=(none,lo)/\In κ rk st lo z/\lo<=(arrOf st).size/\(x<=lo\/lo=(arrOf st).size)) (Q:=λc z=>c=(none,(arrOf st).size)/\In κ rk st (arrOf st).size z) ?step ?fin ⟨0,rfl,I0,S4 _,.inl (R0 _)⟩) ?post)
 case fin =>
  rintro c z ⟨lo,rfl,hI,h1,h2⟩
  have:lo=(arrOf st).size:=by omega
  subst this
  exact ⟨rfl,hI⟩
 case step =>
  rintro x c z _ hx ⟨lo,rfl,hI,h1,h2⟩
  dsimp only
  by_cases hge:lo ≥ (arrOf st).size
  ·rw[if_pos hge]
   have:lo=(arrOf st).size:=by omega
   subst this
   exact wpS_pure ⟨rfl,hI⟩
  ·rw[if_neg hge]
   have hz:=hI.size
   have hS':AllS S (arrOf z):=AllS.perm hS hI.perm
   refine wpS_bind (w_cr q hS' (by omega) (by omega) ⟨Array.Perm.refl _,hI.kind,hI.failed,rfl,λ_ _=>rfl⟩ λn z1 b1 n1 n2 g1=>?_)
   dsimp only
   have rest:∀(n:Nat) (z1:SortSt),In κ rk st lo z1->1<=n->lo+n<=(arrOf st).size->Sg rk (arrOf z1) lo n->∃c,c=n/\In κ rk st lo z1/\Sg rk (arrOf z1) lo c/\1<=c/\lo+c<=(arrOf st).size:=λn z1 a b c d=>⟨n,rfl,a,d,b,c⟩
   by_cases hlt:n < minRun' (arrOf st).size (arrOf st).size 0
   case' pos =>
    rw[if_pos hlt]
    refine wpS_bind (wpS_lift (wpAny_rule ⟨rfl,?_⟩))
    refine wpS_bind (w_bins (N:=(arrOf st).size - lo) q hS' (n:=min ((arrOf st).size - lo) (minRun' (arrOf st).size (arrOf st).size 0)) (by omega) (by omega) (by omega) b1 g1 λz2 b2 g2=>?_)
    simp only[U8,J2,if_false]
    have hI2:=hI.run b2
    have m1:1<=min ((arrOf st).size - lo) (minRun' (arrOf st).size (arrOf st).size 0):=by omega
    have m2:lo+min ((arrOf st).size - lo) (minRun' (arrOf st).size (arrOf st).size 0)<=(arrOf st).size:=by omega
    clear b2 b1 g1
    generalize min ((arrOf st).size - lo) (minRun' (arrOf st).size (arrOf st).size 0)=m at *
   case' neg =>
    rw[if_neg hlt]
    have hI2:=hI.run b1
    have m1:=n1
    have m2:lo+n<=(arrOf st).size:=by omega
    have g2:=g1
    clear b1 g1 n1 n2 hlt
    generalize n=m at *
    generalize z1=z2 at *
   all_goals
    refine wpS_bind (wpS_get ?_)
    cases hb:(pendingOf z2).back? with
    | none=>exact wpS_bind (wpS_modify (wpS_pure ⟨lo+m,rfl,hI2.push m1 g2,m2,.inl (by omega)⟩))
    | some pb =>
     obtain⟨s1,n1,pv⟩:=pb
     dsimp only
     refine wpS_bind (wpS_mono (wpS_forRange (I:=λ_ c z=>c=(none,())/\In κ rk st lo z/\∀j,lo<=j->(arrOf z)[j]?=(arrOf z2)[j]?) (Q:=λc z=>c=(none,())/\In κ rk st lo z/\∀j,lo<=j->(arrOf z)[j]?=(arrOf z2)[j]?) ?_ (λ_ _ hh=>hh) ⟨rfl,hI2,λ_ _=>rfl⟩) ?_)
     ·rintro y c z _ _ ⟨rfl,hI3,k3⟩
      refine wpS_bind (wpS_get ?_)
      by_cases hp:(pendingOf z).size > 1
      ·rw[if_pos hp]
       cases hq:(pendingOf z)[(pendingOf z).size - 2]? with
       | none=>exact wpS_pure ⟨rfl,hI3,k3⟩
       | some pq =>
        obtain⟨u1,u2,older⟩:=pq
        dsimp only
        split
        ·exact wpS_pure ⟨rfl,hI3,k3⟩
        ·refine wpS_bind (w_mIn q hS hI3 (by omega) (by omega) λz4 hI4 _ k4=>?_)
         simp only[U8,J2,if_false]
         exact wpS_pure ⟨rfl,hI4,λj hj=>(k4 j hj).trans (k3 j hj)⟩
      ·rw[if_neg hp]
       exact wpS_pure ⟨rfl,hI3,k3⟩
     ·rintro c z ⟨rfl,hI3,k3⟩
      exact wpS_bind (wpS_modify (wpS_bind (wpS_modify (wpS_pure ⟨lo+m,rfl,(hI3.put (n:=0)).push m1 (g2.congr k3),m2,.inl (by omega)⟩))))
 case post =>
  rintro c z ⟨rfl,hI⟩
  dsimp only
  refine wpS_bind (wpS_mono (wpS_forRange (I:=λx c z=>c=(none,())/\In κ rk st (arrOf st).size z/\(pendingOf z).size+x<=(arrOf st).size) (Q:=λc z=>c=(none,())/\In κ rk st (arrOf st).size z/\(pendingOf z).size<=1) ?_ ?_ ⟨rfl,hI,?_⟩) ?_)
  ·rintro x c z _ hx ⟨rfl,hI,hx2⟩
   refine wpS_bind (wpS_get ?_)
   by_cases hp:(pendingOf z).size<=1
   ·rw[if_pos hp]
    exact wpS_pure ⟨rfl,hI,hp⟩
   ·rw[if_neg hp]
    refine wpS_bind (w_mIn q hS hI (R0 _) (by (repeat' split)<;>omega) λz4 hI4 hs4 _=>?_)
    simp only[U8,J2,if_false]
    exact wpS_pure ⟨rfl,hI4,by omega⟩
  ·rintro c z ⟨rfl,hI,hx2⟩
   exact ⟨rfl,hI,by omega⟩
  ·have:=hI.ch.len
   rw[Q0]at this
   omega
  ·rintro c z ⟨rfl,hI,hp⟩
   refine wpS_pure (h z hI.perm hI.failed ?_)
   have hc:=hI.ch
   have hl:(pendingOf z).toList.length<=1:=by rw[Q0];exact hp
   match (pendingOf z).toList,hc,hl with
   | [],hc,_ =>
    have:0=(arrOf st).size:=hc
    intro i j _ _ hj
    omega
   | [p],⟨h1,h2,h3,h4⟩,_ =>
    have h4:0+p.2.1=(arrOf st).size:=h4
    rw[i9]at h4
    rw[h4]at h3
    exact h3
end
end SG
namespace L2
open PySem PySem.Spec PyProof.Rows PySem.W
section
variable {prog:Program}{w:World}{A:Around}{E:Value->Shared->Prop}{s:Shared}{κ:SortKind}{vs:List Value}{rk:Value->Nat}
theorem pairs_mem{p:Keyed}(h:p∈(pairsOf vs).toList):p.1=p.2/\p.2∈vs:=by
 have h:p∈(vs.toArray.zip vs.toArray).toList:=h
 rw[Array.toList_zip]at h
 obtain⟨i,hi,e⟩:=B4 h
 rw[j7]at e
 subst e
 exact ⟨rfl,i4 _⟩
theorem list_sort_rk{a:Addr}{n:Nat}{P:Fin->Shared->Prop}(ho:s.heap.get? a=some (seqObj "list" vs.toArray n))(hz:vs.length<=sizeLine)
  (hk:2<=vs.length->∀s':Shared,(∀b o,b≠a->s.heap.get? b=some o->s'.heap.get? b=some o)->∀Q':SortKind->Shared->Prop,Q' κ s'->wpAny (model prog w) A (keyKind' vs.toArray) Q' E s')
  (hlt:∀s':Shared,(∀b o,b≠a->s.heap.get? b=some o->s'.heap.get? b=some o)->∀x y,x∈vs->y∈vs->∀Q':Bool->Shared->Prop,Q' (decide (rk x < rk y)) s'->wpAny (model prog w) A (keyLt' κ x y) Q' (λ_ _=>False) s')
  (h:∀out:List Value,out.Perm vs->out.Pairwise (λx y=>rk x<=rk y)->P (.done (.ret .none)) { s with heap:=sortedHeap s.heap a vs out.toArray }) :
  wpAny (model prog w) A (Builtin.«list.sort» ⟨[.ref a],[]⟩) P E s:=by
 rw[list_sort_plain]
 have ha:a < s.heap.objs.size:=G0 ho
 refine wpAny_bind (listItems_at ho rfl ?_)
 refine wpAny_bind (listUpdate_at ho rfl ?_)
 obtain⟨e1,ho1⟩:∃e1,(s.heap.update a (O2 λ_=>#[])).get? a=some (seqObj "list" #[] e1):=⟨_,get?_update_seq ho (λ_=>#[])⟩
 refine wpAny_bind (seqEpoch_at ho1 rfl ?_)
 refine wpAny_bind (wpAny_newTuple ?_)
 refine wpAny_bind (wpAny_newList ?_)
 refine wpAny_holding ?_
 have ho6:(((s.heap.update a (O2 λ_=>#[])).push (seqObj "tuple" vs.toArray 0)).push (seqObj "list" #[] 0)).get? a=some (seqObj "list" #[] e1):=by
  rw[V6 _ _ _ (by rw[size_push',i8];exact E1 (W6 ha)),V6 _ _ _ (by rw[i8];exact E1 ha)]
  exact ho1
 have kp:∀b o,b≠a->s.heap.get? b=some o->(((s.heap.update a (O2 λ_=>#[])).push (seqObj "tuple" vs.toArray 0)).push (seqObj "list" #[] 0)).get? b=some o:=λb o hb e=>by
  refine g0 _ (g0 _ ?_)
  rw[J7 _ _ _ _ hb]
  exact e
 show wpAny (model prog w) A _ P E { s with heap:=((s.heap.update a (O2 λ_=>#[])).push (seqObj "tuple" vs.toArray 0)).push (seqObj "list" #[] 0) }
 dsimp only
 have hsz:vs.toArray.size=vs.length:=by simp
 have out0:((pairsOf vs).map (·.2))=vs.toArray:=by
  apply Array.toList_inj.mp
  rw[m7]
  show (vs.toArray.zip vs.toArray).toList.map (·.2)=_
  simp only[Array.toList_zip]
  exact List.map_snd_zip (R0 _)
 by_cases h2:vs.toArray.size < 2
 ·rw[if_pos h2,if_pos h2]
  refine wpAny_bind (wpAny_pure ?_)
  rw[StateT.run_pure]
  refine wpAny_bind (wpAny_pure ?_)
  dsimp only
  refine wpAny_bind (seqEpoch_at ho6 rfl ?_)
  refine wpAny_bind (listUpdate_at ho6 rfl ?_ (hsz2:=by rw[Array.size_map];show (pairsOf vs).size<=_;rw[pairsOf_size];exact Nat.le_succ_of_le hz))
  simp only[bne_self_eq_false,J2,if_false]
  have h':=h vs (List.Perm.refl _) (by
    match vs,h2 with
    | [],_=>exact .nil
    | [x],_=>exact P3 _ _
    | x :: y :: z,h2=>simp at h2;omega)
  rw[<- out0]at h'
  exact wpAny_pure h'
 ·rw[if_neg h2,if_neg h2]
  have h2':2<=vs.length:=by omega
  refine wpAny_bind (hk h2' _ kp _ ?_)
  have run:=SG.w_sort (prog:=prog) (w:=w) (A:=A) (E:=E) (κ:=κ) (rk:=λp=>rk p.1) (S:=λp=>p.1∈vs) (st:=SortSt.mk' κ (pairsOf vs) #[] 7 none)
   (s:={ s with heap:=((s.heap.update a (O2 λ_=>#[])).push (seqObj "tuple" vs.toArray 0)).push (seqObj "list" #[] 0) })
   (Q:=λ_ st'=>(arrOf st').Perm (pairsOf vs)/\failedOf st'=none/\SG.Sg (λp=>rk p.1) (arrOf st') 0 (pairsOf vs).size)
   (λx y hx hy Q' hQ'=>hlt _ kp _ _ hx hy Q' hQ') (λp hp=>by have:=pairs_mem hp;show p.1∈vs;rw[this.1];exact this.2) rfl rfl rfl λst' p1 p2 p3=>⟨p1,p2,p3⟩
  refine wpAny_bind (wpAny_mono run ?_ λ_ _ e=>e)
  rintro⟨⟨⟩,st'⟩ s' ⟨rfl,hp,hf,hs⟩
  dsimp only at hp hf hs ⊢
  refine wpAny_bind (seqEpoch_at ho6 rfl ?_)
  have hpl:=Z4.mp hp
  have eq12:∀p∈(arrOf st').toList,p.1=p.2:=λp h=>(pairs_mem (hpl.mem_iff.mp h)).1
  have hO:((arrOf st').map (·.2)).toList.Perm vs:=by
   rw[m7]
   have e:(pairsOf vs).toList.map (·.2)=vs:=by rw[<- m7,out0]
   have:=hpl.map (·.2)
   rw[e]at this
   exact this
  have hL:((arrOf st').map (·.2)).toList.length=vs.length:=hO.length_eq
  rw[Q0]at hL
  refine wpAny_bind (listUpdate_at ho6 rfl ?_ (hsz2:=by rw[hL];exact Nat.le_succ_of_le hz))
  rw[hf]
  simp only[bne_self_eq_false,J2,if_false]
  refine wpAny_pure ?_
  have:=h ((arrOf st').map (·.2)).toList hO (by
    rw[m7,u4,Q2]
    intro i j hi hj hij
    rw[Q0]at hi hj
    have hz2:(arrOf st').size=(pairsOf vs).size:=hp.size_eq
    have:=hs i j (S4 _) (by omega) (by omega)
    rw[SG.KR_at hi,SG.KR_at hj]at this
    rw[T2,T2,<- eq12 _ (by simp),<- eq12 _ (by simp)]
    exact this)
  rw[Array.toArray_toList]at this
  exact this
theorem sorted_rk{l:Addr}{Q:Value->Shared->Prop}(hl:s.heap.IsList l vs.toArray)(hz:vs.length<=sizeLine)
  (hk:2<=vs.length->∀s':Shared,(∀b o,s.heap.get? b=some o->s'.heap.get? b=some o)->∀(E:Value->Shared->Prop) (Q':SortKind->Shared->Prop),Q' κ s'->wpAny (model prog w) A.in1.in1 (keyKind' vs.toArray) Q' E s')
  (hlt:∀s':Shared,(∀b o,s.heap.get? b=some o->s'.heap.get? b=some o)->∀x y,x∈vs->y∈vs->∀Q':Bool->Shared->Prop,Q' (decide (rk x < rk y)) s'->wpAny (model prog w) A.in1.in1 (keyLt' κ x y) Q' (λ_ _=>False) s')
  (h:∀out:List Value,out.Perm vs->out.Pairwise (λx y=>rk x<=rk y)->Q (.ref (s.heap.objs.size+1)) { s with heap:=sortedAll s.heap vs out.toArray }) :
  wpAny (model prog w) A (call (.builtin "sorted") [.ref l]) Q E s:=by
 refine Calls.call_function_entry kind_sorted plain_sorted entry_sorted (args_sorted1 _) ?_
 unfold Builtin.«sorted»
 refine wpAny_bind (m:=checkCount "sorted" 1 1 _) (wpAny_pure ?_)
 refine wpAny_bind (collect_list hl ?_ (hsz:=hz))
 refine wpAny_bind (wpAny_newList ?_ hz)
 have hsz:((s.heap.push (seqObj "list" #[] 0)).update s.heap.objs.size (O2 (·++vs.toArray))).objs.size=s.heap.objs.size+1:=by
  rw[i8,size_push']
 have hoL:(((s.heap.push (seqObj "list" #[] 0)).update s.heap.objs.size (O2 (·++vs.toArray))).push (seqObj "list" vs.toArray 0)).get? (s.heap.objs.size+1)=some (seqObj "list" vs.toArray 0):=by
  rw[<- hsz];exact K0 _ rfl
 have keep:∀b o,s.heap.get? b=some o->b≠s.heap.objs.size+1/\(((s.heap.push (seqObj "list" #[] 0)).update s.heap.objs.size (O2 (·++vs.toArray))).push (seqObj "list" vs.toArray 0)).get? b=some o:=λb o q=>by
  have hlt:b < s.heap.objs.size:=G0 q
  refine ⟨E1 (W6 hlt),?_⟩
  rw[V6 _ _ _ (by rw[hsz];exact E1 (W6 hlt)),J7 _ _ _ _ (E1 hlt),V6 _ _ _ (E1 hlt)]
  exact q
 show wpAny _ _ _ _ _ { s with heap:=((s.heap.push (seqObj "list" #[] 0)).update s.heap.objs.size (O2 (·++vs.toArray))).push (seqObj "list" vs.toArray 0) }
 rw[hsz]
 refine wpAny_bind (wpAny_holding (wpAny_call_entry slot_list_sort ⟨_,hoL,rfl⟩ entry_list_sort (list_sort_rk (κ:=κ) (rk:=rk) hoL hz (λh2 s' k Q' q=>hk h2 s' (λb o e=>k b o (keep b o e).1 (keep b o e).2) _ Q' q)
   (λs' k x y hx hy Q' q=>hlt s' (λb o e=>k b o (keep b o e).1 (keep b o e).2) x y hx hy Q' q) λout o1 o2=>⟨_,rfl,?_⟩) (args_list_sort _)))
 exact wpAny_pure ⟨_,rfl,h out o1 o2⟩
end
end L2
namespace SG
structure Wk{α:Type}(lt:α->α->Bool):Prop where
 irr:∀a,lt a a=false
 tr:∀a b c,lt a b=true->lt b c=true->lt a c=true
 nt:∀a b c,lt a b=false->lt b c=false->lt a c=false
theorem cnt_le{α:Type}{p q:α->Bool}:∀{l:List α},(∀a∈l,p a=true->q a=true)->l.countP p<=l.countP q
 | [],_=>R0 _
 | a :: l,h=>by
  have ih:=cnt_le (l:=l) λx hx=>h x (A0 _ hx)
  rw[U4,U4]
  have:=h a B0
  cases hp:p a
  ·simp;omega
  ·rw[this hp];simp;omega
theorem cnt_lt{α:Type}{p q:α->Bool}:∀{l:List α},(∀a∈l,p a=true->q a=true)->(∃a∈l,p a=false/\q a=true)->l.countP p < l.countP q
 | [],_,⟨_,h,_⟩=>by simp at h
 | a :: l,h,⟨x,hx,h1,h2⟩=>by
  rw[U4,U4]
  rcases Y0.mp hx with rfl|hx
  ·have:=cnt_le (l:=l) λx hx=>h x (A0 _ hx)
   rw[h1,h2]
   simp
   omega
  ·have ih:=cnt_lt (l:=l) (λx hx=>h x (A0 _ hx)) ⟨x,hx,h1,h2⟩
   have:=h a B0
   cases hp:p a
   ·simp;omega
   ·rw[this hp];simp;omega
theorem rank{α:Type}{lt:α->α->Bool}(W:Wk lt){l:List α}{x y:α}(hx:x∈l)(hy:y∈l):decide (l.countP (λa=>lt a x) < l.countP (λa=>lt a y))=lt x y:=by
 cases h:lt x y
 ·rw[decide_eq_false_iff_not,Nat.not_lt]
  refine cnt_le λa _ ha=>?_
  cases h2:lt a x
  ·rw[W.nt a x y h2 h]at ha;cases ha
  ·rfl
 ·rw[decide_eq_true_eq]
  exact cnt_lt (λa _ ha=>W.tr a x y ha h) ⟨x,hx,W.irr x,h⟩
theorem lex_wk:Wk HT.lexLt:=by
 refine ⟨λa=>?_,λa=>?_,λa=>?_⟩
 ·induction a with
  | nil=>rfl
  | cons x a ih=>rw[HT.lexLt_cons,if_pos rfl];exact ih
 ·induction a with
  | nil =>
   intro b c h1 h2
   cases c with
   | nil=>cases b<;>cases h2
   | cons z c=>rfl
  | cons x a ih =>
   intro b c h1 h2
   cases b with
   | nil=>cases h1
   | cons y b =>
    cases c with
    | nil=>cases h2
    | cons z c =>
     rw[HT.lexLt_cons]at h1 h2 ⊢
     by_cases e1:x=y
     ·subst e1
      rw[if_pos rfl]at h1
      by_cases e2:x=z
      ·subst e2
       rw[if_pos rfl]at h2 ⊢
       exact ih b c h1 h2
      ·rw[if_neg e2]at h2 ⊢;exact h2
     ·rw[if_neg e1]at h1
      have h1:=of_decide_eq_true h1
      by_cases e2:y=z
      ·subst e2
       rw[if_neg e1]
       exact decide_eq_true h1
      ·rw[if_neg e2]at h2
       have h2:=of_decide_eq_true h2
       rw[if_neg (by omega)]
       exact decide_eq_true (by omega)
 ·induction a with
  | nil =>
   intro b c h1 h2
   cases b with
   | nil=>exact h2
   | cons y b=>cases h1
  | cons x a ih =>
   intro b c h1 h2
   cases c with
   | nil=>rfl
   | cons z c =>
    cases b with
    | nil=>cases h2
    | cons y b =>
     rw[HT.lexLt_cons]at h1 h2 ⊢
     by_cases e1:x=y
     ·subst e1
      rw[if_pos rfl]at h1
      by_cases e2:x=z
      ·subst e2
       rw[if_pos rfl]at h2 ⊢
       exact ih b c h1 h2
      ·rw[if_neg e2]at h2 ⊢;exact h2
     ·rw[if_neg e1]at h1
      have h1:=of_decide_eq_false h1
      by_cases e2:y=z
      ·subst e2
       rw[if_neg e1]
       exact decide_eq_false h1
      ·rw[if_neg e2]at h2
       have h2:=of_decide_eq_false h2
       rw[if_neg (by omega)]
       exact decide_eq_false (by omega)
theorem lex_eq:∀{a b:List Int},HT.lexLt a b=false->HT.lexLt b a=false->a=b
 | [],[],_,_=>rfl
 | [],_ :: _,h,_=>by cases h
 | _ :: _,[],_,h=>by cases h
 | x :: a,y :: b,h1,h2=>by
  rw[HT.lexLt_cons]at h1 h2
  by_cases e:x=y
  ·subst e
   rw[if_pos rfl]at h1 h2
   rw[lex_eq h1 h2]
  ·rw[if_neg e]at h1
   rw[if_neg (λz=>e z.symm)]at h2
   have h1:=of_decide_eq_false h1
   have h2:=of_decide_eq_false h2
   omega
theorem sorted_uniq{α:Type}{lt:α->α->Bool}(an:∀a b,lt a b=false->lt b a=false->a=b):∀{l m:List α},l.Perm m->l.Pairwise (λa b=>lt b a=false)->m.Pairwise (λa b=>lt b a=false)->l=m
 | [],m,p,_,_=>by rw[List.nil_perm.mp p]
 | x :: l,[],p,_,_=>by simp at p
 | x :: l,y :: m,p,h1,h2=>by
  have e:x=y:=by
   have hx:x∈y :: m:=p.mem_iff.mp B0
   have hy:y∈x :: l:=p.mem_iff.mpr B0
   rcases Y0.mp hx with e|hx
   ·exact e
   ·rcases Y0.mp hy with e|hy
    ·exact e.symm
    ·exact an x y ((O6.mp h2).1 x hx) ((O6.mp h1).1 y hy)
  subst e
  rw[sorted_uniq an (List.perm_cons x |>.mp p) (O6.mp h1).2 (O6.mp h2).2]
end SG
namespace L2
open PySem PySem.Spec PyProof.Rows PySem.W
section
variable {X:Cx}{α:Type}[Inhabited α]
noncomputable def rSortG(K:u0)(Rep:Hp->Addr->α->Prop)(fn:Hp->V->α)(lt:α->α->Bool):List V->Hp->VK->Prop:=λxs H Q=>∃(a:Addr) (us:List V),xs=[.ref a]/\SqL K H a us/\us.length<=sizeLine /\
 (∀v∈us,∃c x,v=.ref c/\Rep H c x)/\∀(p:Addr) (us':List V),H p=none->us'.Perm us->(us'.map (fn H)).Pairwise (λa b=>lt b a=false)->Q (.ref p) (upd H p (.lst us'))
theorem vals_perm{us:List V}{its:List Value}:∀{out:List Value},out.Perm its->Vals us its->∃us':List V,us'.Perm us/\Vals us' out:=by
 intro out p
 induction p generalizing us with
 | nil=>intro h;exact ⟨us,List.Perm.refl _,h⟩
 | cons x _ ih =>
  intro h
  cases h with
  | cons h t =>
   obtain⟨us',p,r⟩:=ih t
   exact ⟨_,p.cons _,.cons h r⟩
 | swap x y l =>
  intro h
  cases h with
  | cons h1 t=>cases t with|cons h2 t=>exact ⟨_,List.Perm.swap _ _ _,.cons h2 (.cons h1 t)⟩
 | trans _ _ ih1 ih2 =>
  intro h
  obtain⟨u2,p2,r2⟩:=ih2 h
  obtain⟨u1,p1,r1⟩:=ih1 r2
  exact ⟨u1,p1.trans p2,r1⟩
end
section
variable {X:Cx}{α:Type}[Inhabited α]{Rep:Hp->Addr->α->Prop}{fn:Hp->V->α}{lt:α->α->Bool}{κ:SortKind}
theorem relV_ref{c:Addr}{u:Value}(h:RelV (.ref c) u):u=.ref c:=h
noncomputable def ofVal(fn:Hp->V->α)(H:Hp):Value->α
 | .ref c=>fn H (.ref c)
 | _=>default
theorem call_sortG(W:SG.Wk lt)(hf:∀H c a,Rep H c a->fn H (.ref c)=a)
  (hkind:∀{pins:List (Addr×Obj)}{s:Shared}{σ:St}{H:Hp},Inv X pins σ H s->∀its:List Value,2<=its.length->(∀u∈its,∃c x,u=.ref c/\Rep H c x)->∀(s':Shared),(∀b o,s.heap.get? b=some o->s'.heap.get? b=some o)->∀(E:Value->Shared->Prop) (Q':SortKind->Shared->Prop),Q' κ s'->wpAny (model X.prog X.w) X.A.in1.in1 (keyKind' its.toArray) Q' E s')
  (hcmp:∀{pins:List (Addr×Obj)}{s:Shared}{σ:St}{H:Hp},Inv X pins σ H s->∀(c d:Addr) (x y:α),Rep H c x->Rep H d y->∀(s':Shared),(∀b o,s.heap.get? b=some o->s'.heap.get? b=some o)->∀Q':Bool->Shared->Prop,Q' (lt x y) s'->wpAny (model X.prog X.w) X.A.in1.in1 (keyLt' κ (.ref c) (.ref d)) Q' (λ_ _=>False) s') :
  CallR X (.builtin "sorted") (rSortG X.K Rep fn lt):=by
 intro pins s σ H xs us Q I r h
 obtain⟨a,vs,rfl,hs,hz,hrep,q⟩:=h
 obtain⟨u,rfl,ru⟩:=vals1 r
 cases ru
 obtain⟨its,rv,⟨o,n,e,c,d1,d2⟩,hz'⟩:=I.list hs
 have hl:=rv.length
 have at':∀u∈its,∃c x,u=.ref c/\Rep H c x:=λu hu=>by
  obtain⟨i,hi,rfl⟩:=B4 hu
  have hi2:i < vs.length:=by omega
  obtain⟨c,x,hv,hr⟩:=hrep _ (i4 hi2)
  obtain⟨u,hu,ru⟩:=rv.get (O0 hi2)
  rw[hv]at ru
  rw[O0 hi]at hu
  have:its[i]=u:=X1 hu
  rw[this]
  exact ⟨c,x,relV_ref ru,hr⟩
 have key:∀x∈its,∀y∈its,decide ((its.map (ofVal fn H)).countP (λa=>lt a (ofVal fn H x)) < (its.map (ofVal fn H)).countP (λa=>lt a (ofVal fn H y)))=lt (ofVal fn H x) (ofVal fn H y):=λx hx y hy =>
  SG.rank W (S8 hx) (S8 hy)
 refine sorted_rk (κ:=κ) (rk:=λv=>(its.map (ofVal fn H)).countP (λa=>lt a (ofVal fn H v))) (vs:=its) ⟨o,e,c,n,by first|exact d2|exact d1⟩ (by omega) (λh2 s' k E' Q' q'=>?_) (λs' k x y hx hy Q' q'=>?_) (λout o1 o2=>?_)
 ·exact hkind I its h2 at' s' k E' Q' q'
 ·rw[key x hx y hy]at q'
  obtain⟨c,x',rfl,hx'⟩:=at' x hx
  obtain⟨d,y',rfl,hy'⟩:=at' y hy
  refine hcmp I c d x' y' hx' hy' s' k Q' ?_
  have e1:ofVal fn H (.ref c)=x':=hf H c x' hx'
  have e2:ofVal fn H (.ref d)=y':=hf H d y' hy'
  rw[e1,e2]at q'
  exact q'
 ·obtain⟨ep,he⟩:=sortedAll_at s.heap its out.toArray
  have hn:H (s.heap.objs.size+1)=none:=I.hok.fresh (Q7 _)
  obtain⟨us',p',r'⟩:=vals_perm o1 rv
  refine ⟨.ref (s.heap.objs.size+1),upd H (s.heap.objs.size+1) (.lst us'),I.laid (t':=s.toks) (λb u e=>sortedAll_old e) (Q7 _) ?_,rfl,q _ us' hn p' ?_⟩
  ·exact ⟨by rw[p'.length_eq];exact hz,out,ep,r',by rw[he]⟩
  ·rw[u4,Q2]
   intro i j hi hj hij
   have hl':=r'.length
   have o3:=Q2.mp o2 i j (by omega) (by omega) hij
   have hxm:out[i]'(by omega)∈its:=o1.mem_iff.mp (i4 _)
   have hym:out[j]'(by omega)∈its:=o1.mem_iff.mp (i4 _)
   have k2:=key _ hym _ hxm
   rw[decide_eq_false (Nat.not_lt.mpr o3)]at k2
   have ev:∀(m:Nat) (hm:m < us'.length),fn H us'[m]=ofVal fn H (out[m]'(by omega)):=λm hm=>by
    obtain⟨c,x,hv,hr⟩:=hrep _ (p'.mem_iff.mp (i4 hm))
    obtain⟨u,hu,ru⟩:=r'.get (O0 hm)
    rw[O0 (by omega)]at hu
    have hu:out[m]'(by omega)=u:=X1 hu
    rw[hv]at ru ⊢
    rw[hu,relV_ref ru]
    rfl
   rw[ev i hi,ev j hj]
   exact k2.symm
end
section
variable {prog:Program}{w:World}{A:Around}{s:Shared}
theorem one_int(b:Bool){n m:Int}{t u:Tok}{Q:Bool->Shared->Prop}{E:Value->Shared->Prop}(h:Q (decide (n < m)) s):wpAny (model prog w) A (oneLt' b (.int n t) (.int m u)) Q E s:=by
 cases b with
 | true=>exact oneLt_int h
 | false=>exact kat_one _ _ (lt_int h)
theorem kat_ints{b:Bool}{Q:Bool->Shared->Prop}:∀{ns ms:List Int}{xs ys:List Value} (i:Nat),IntsAre xs ns->IntsAre ys ms->Q (HT.lexLt ns ms) s->KatLex prog w A b (decide (xs.length < ys.length)) Q (xs.zip ys) i s
 | _,_,_,_,i,.nil,.nil,h=>h
 | _,_,_,_,i,.nil,.cons m u r,h=>h
 | _,_,_,_,i,.cons n t r,.nil,h=>h
 | _,_,_,_,i,.cons (vs:=xs) (ns:=ns) n t r,.cons (vs:=ys) (ns:=ms) m u r',h=>by
  have e:decide ((e8 n t :: xs).length < (e8 m u :: ys).length)=decide (xs.length < ys.length):=by simp
  rw[e]
  rw[HT.lexLt_cons]at h
  show KatLex prog w A b _ Q ((e8 n t,e8 m u) :: xs.zip ys) i s
  refine kat_cons (SeqAt.EqAt.int_int n t m u _ _ _ _ ?_)
  refine kat_go (λq=>kat_yes ?_) (λq=>kat_no ?_)
  ·rw[if_pos (by simpa using q)]at h
   exact kat_ints (i+1) r r' h
  ·rw[if_neg (by simpa using q)]at h
   exact one_int _ h
end
noncomputable def RepT(H:Hp)(c:Addr)(r:List Int):Prop:=H c=some (.tup (r.map V.int))/\r≠[]
noncomputable def fnT(H:Hp):V->List Int
 | .ref c=>match H c with
  | some (.tup xs)=>xs.map unV
  | _=>[]
 | _=>[]
theorem fnT_of(H:Hp)(c:Addr)(r:List Int)(h:RepT H c r):fnT H (.ref c)=r:=by
 show (match H c with|some (.tup xs)=>xs.map unV|_=>[])=r
 rw[h.1]
 exact unV_ints r
theorem call_sortT{X:Cx}:CallR X (.builtin "sorted") (rSortG X.K RepT fnT HT.lexLt):=by
 refine call_sortG (κ:=tuples' true) SG.lex_wk fnT_of (λ{pins s σ H} I its h2 at' s' k E' Q' q'=>?_) (λ{pins s σ H} I c d x y hx hy s' k Q' q'=>?_)
 ·have gen:∀(l:List Value),(∀v∈l,∃(c:Addr) (r:List Int),v=.ref c/\RepT H c r)->∃fs:List Value,KatTups s'.heap l fs/\fs.length=l.length/\∀v∈fs,Looks (model X.prog X.w) s'.heap (typeOf v) (.type "int"):=by
   intro l
   induction l with
   | nil=>intro _;exact ⟨[],.nil,rfl,λv hv=>by simp at hv⟩
   | cons v l ih =>
    intro hl
    obtain⟨fs,f1,f2,f3⟩:=ih λx hx=>hl x (A0 _ hx)
    obtain⟨c,r,rfl,hc,hr⟩:=hl v B0
    obtain⟨_,itc,rc,ob,e1,e2,m,e3,_⟩:=(show ObjOk X.prog X.w H s.heap c (.tup (r.map V.int)) from I.hok c _ hc)
    cases r with
    | nil=>exact absurd rfl hr
    | cons n r =>
     rw[Z2]at rc
     cases rc with
     | cons h1 rc =>
      obtain⟨t,rfl⟩:=h1
      refine ⟨.int n t :: fs,.cons (k _ _ e1) e2 e3 rfl f1,by simp[f2],λv hv=>?_⟩
      rcases Y0.mp hv with rfl|hv
      ·exact Looks.of_pure rfl
      ·exact f3 v hv
  obtain⟨fs,f1,f2,f3⟩:=gen its at'
  exact kat_kind (T:=.type "int") f1 (by omega) f3 (by decide) q'
 ·obtain⟨_,ic,rc,oc,c1,c2,m1,c3,_⟩:=(show ObjOk X.prog X.w H s.heap c (.tup (x.map V.int)) from I.hok c _ hx.1)
  obtain⟨_,id',rd,od,d1,d2,m2,d3,_⟩:=(show ObjOk X.prog X.w H s.heap d (.tup (y.map V.int)) from I.hok d _ hy.1)
  refine kat_lt (k _ _ c1) c3 (k _ _ d1) d3 ?_
  have:=kat_ints (prog:=X.prog) (w:=X.w) (A:=X.A.in1.in1) (s:=s') (b:=true) (Q:=Q') 0 (intsAre_of rc) (intsAre_of rd) q'
  simpa using this
end L2
namespace L3
open PySem PySem.Spec PyProof.Rows L2
noncomputable def fSortT:D->(Sl->Prop)->Prop
 | .list ds,Q=>∃rows:List (List Int),ds=rows.map (λr=>.tuple (r.map j0))/\rows.length<=sizeLine/\(∀r∈rows,r≠[])/\∀rows':List (List Int),rows'.Perm rows->rows'.Pairwise (λa b=>HT.lexLt b a=false)->Q (.ow (.list (rows'.map λr=>.tuple (r.map j0))))
 | _,_=>False
theorem DaAll.mem{K:Fg}{F:Hp}:∀{us:List V}{ds:List D},DaAll K F us ds->∀v∈us,∃d∈ds,Da K F v d
 | _,_,.nil,v,h=>by simp at h
 | _,_,.cons a t,v,h=>by
  rcases Y0.mp h with rfl|h
  ·exact ⟨_,B0,a⟩
  ·obtain⟨d,h1,h2⟩:=DaAll.mem t v h
   exact ⟨d,A0 _ h1,h2⟩
theorem DaAll.map_of{K:Fg}{F:Hp}{f:V->D}:∀{us:List V},(∀v∈us,Da K F v (f v))->DaAll K F us (us.map f)
 | [],_=>.nil
 | v :: us,h=>.cons (h v B0) (DaAll.map_of λx hx=>h x (A0 _ hx))
theorem DaAll.map_eq{K:Fg}{F:Hp}{α:Type}{g:α->D}{f:V->α}(hg:∀v a,Da K F v (g a)->f v=a):∀{us:List V}{as:List α},DaAll K F us (as.map g)->us.map f=as
 | [],[],_=>rfl
 | _ :: _,[],h=>by cases h
 | [],_ :: _,h=>by cases h
 | v :: us,a :: as,h=>by
  cases h with
  | cons h t=>rw[Z2,hg v a h,DaAll.map_eq hg t]
theorem da_tup{K:Fg}{F:Hp}{v:V}{r:List Int}(h:Da K F v (.tuple (r.map j0))):∃c,v=.ref c/\F c=some (.tup (r.map V.int)):=by
 cases h with
 | tup h t =>
  have:=t.ints_of
  subst this
  exact ⟨_,rfl,h⟩
theorem ok_sortT{K:Fg}:OpOk K (rSortG K RepT fnT HT.lexLt) (o1 fSortT):=ok1 λG F σ H ρ x d Q Qd R h1 w k=>by
 cases d<;>first|exact w.elim|skip
 case list ds =>
  obtain⟨rows,e,hz,hne,w⟩:=w
  subst e
  obtain⟨a,us,rfl,e1,d1⟩:=h1.list R.sub
  have hl:=d1.length
  rw[i0]at hl
  have hrep:∀v∈us,∃c r,v=.ref c/\RepT F c r/\r∈rows:=λv hv=>by
   obtain⟨d,hd,dv⟩:=d1.mem v hv
   obtain⟨r,hr,rfl⟩:=J0.mp hd
   obtain⟨c,rfl,hc⟩:=da_tup dv
   exact ⟨c,r,rfl,⟨hc,hne r hr⟩,hr⟩
  have hfe:∀v∈us,fnT H v=fnT F v:=λv hv=>by
   obtain⟨c,r,rfl,hc,_⟩:=hrep v hv
   rw[fnT_of F c r hc,fnT_of H c r ⟨R.sub _ _ hc.1,hc.2⟩]
  refine ⟨a,us,rfl,SqL.of e1,by omega,λv hv=>?_,λp us' hp p' o'=>?_⟩
  ·obtain⟨c,r,rfl,hc,_⟩:=hrep v hv
   exact ⟨c,r,rfl,R.sub _ _ hc.1,hc.2⟩
  ·have em:us.map (fnT F)=rows:=by
    refine DaAll.map_eq (K:=K) (F:=F) (g:=λr:List Int=>S0 (r.map j0)) (λv a h=>?_) d1
    obtain⟨c,rfl,hc⟩:=da_tup h
    show (match F c with|some (.tup xs)=>xs.map unV|_=>[])=a
    rw[hc]
    exact unV_ints a
   have ee:us'.map (fnT H)=us'.map (fnT F):=G3 λv hv=>hfe v (p'.mem_iff.mp hv)
   rw[ee]at o'
   have dall:DaAll K F us' ((us'.map (fnT F)).map λr=>S0 (r.map j0)):=by
    rw[L0]
    refine DaAll.map_of λv hv=>?_
    obtain⟨c,r,rfl,hc,_⟩:=hrep v (p'.mem_iff.mp hv)
    show Da K F (.ref c) (.tuple ((fnT F (.ref c)).map j0))
    rw[fnT_of F c r hc]
    exact .tup hc.1 (DaAll.ints r)
   obtain⟨R',r'⟩:=R.newOw (o:=.lst us') (d:=.list _) hp dall
   exact k _ _ F _ (Sub.refl _) R' r' (w _ (by rw[<- em];exact p'.map _) o')
theorem call_sortTK{X:Cx}{K:Fg}(h:X.K=K):CallR X (.builtin "sorted") (rSortG K RepT fnT HT.lexLt):=by subst h;exact call_sortT
noncomputable def frz(ρ:Ev):Ev:=ρ.map λx=>x.map λs=>Sl.fz s.d
section
variable {K:Fg}{G:Gh}{F H H':Hp}{σ:L2.St}{ρ:Ev}{a:Addr}{o:HO}{d:D}{v:V}
theorem Rel.nobody(R:Rel K G F σ H ρ)(h:H a=none):∀(i:Nat) (s:Sl),ρ[i]?=some (some s)->isOw s=true->σ[i]?≠some (some (V.ref a)):=λi s e w z=>by
 obtain⟨b,u,g1,g2,g3,g4⟩:=R.ow i s e w
 rw[z]at g1
 cases g1
 rw[h]at g3;cases g3
end
noncomputable def only(a:Addr)(o:HO):Hp:=λb=>if b=a then some o else none
theorem only_is{a b:Addr}{o u:HO}(h:only a o b=some u):b=a/\u=o:=by
 unfold only at h
 split at h
 ·rename_i e;exact ⟨e,by cases h;rfl⟩
 ·cases h
section
variable {X:Cx}{K:Fg}{ec:Expr}{p p1 p2 p3 p4 p5 p6 p7 p8 p9 pa pb pc pd pe pf pg ph pi' pj:Pos}{x y a b:Str}{tc:TTD}
end
end L3
namespace L2
open PySem PySem.Spec PyProof.Rows
theorem ne_add{b n:Nat}(k:Nat)(h:b < n):b≠n+k:=by omega
theorem zip_no_keys:typeLookup (.type "zip") "keys"=pure none:=by rw[typeLookup_type,builtinLookup_eq_fast];kernel_rfl
theorem zip_no_getattr:typeLookup (.type "zip") "__getattr__"=pure none:=by rw[typeLookup_type,builtinLookup_eq_fast];kernel_rfl
theorem entry_zip_getattribute:entryFor table "zip.__getattribute__"=some Builtin.«object.__getattribute__»:=entryFor_alias (id':="object.__getattribute__") (by kernel_rfl) (by decide +kernel) (by decide +kernel) (by kernel_rfl)
theorem zip_attr_miss(a:Addr)(fs:Array Value)(sl:Array (Option Value))(u:Tok) :
  Meets (Builtin.«object.__getattribute__» ⟨[.ref a,.str "keys" u],[]⟩) (λA R s=>s.heap.get? a=some { cls:=.type "zip",dict:=none,data:=.fields fs,slots:=sl }/\raisesAttr (.ref a) "keys" A R s):=.of_wp λprog w A R s hs=>by
 obtain⟨hp,g,d,tk,os⟩:=s
 obtain⟨hx,hs⟩:=hs
 have hT:(⟨hp,g,d,tk,os⟩:Shared).TypeIs (.ref a) "zip":=⟨_,hx,rfl⟩
 have hmiss:=zip_no_keys
 have hname:(["__module__","__name__","__qualname__","__doc__","__annotations__"]:List Str).contains "keys"=false:=by decide +kernel
 unfold Builtin.«object.__getattribute__»
 repeat (any_goals (first|assumption|wp_step))
 all_goals (try simp only[hname,J2,if_false])
 repeat (any_goals (first|assumption|wp_step))
 exact wpAny_raiseAttrError hs.1 hs.2 (attrMsg_fits (by decide +kernel) (by size_fits))
section
variable {prog:Program}{w:World}{A:Around}{E:Value->Shared->Prop}{s:Shared}
theorem zip_keys_none{a:Addr}{fs:Array Value}{sl:Array (Option Value)}{Q:Option Value->Shared->Prop}(hx:s.heap.get? a=some { cls:=.type "zip",dict:=none,data:=.fields fs,slots:=sl })(hA:A.handled=none)
  (h:∀h' tk,(∀b o,s.heap.get? b=some o->h'.get? b=some o)->Q none { s with heap:=h',toks:=tk }) :
  wpAny (model prog w) A (getAttr? (.ref a) "keys") Q E s:=by
 obtain⟨hp,g,d,tk,os⟩:=s
 have hT:∀tk',(⟨hp,g,d,tk',os⟩:Shared).TypeIs (.ref a) "zip":=λ_=>⟨_,hx,rfl⟩
 have f1:=sub_AttributeError
 have f3:=F.slot_zip_getattribute.lookup
 have f4:=F.slot_zip_getattribute.bind (.ref a)
 have f5:=zip_no_getattr
 unfold getAttr? getAttrBy? getAttrBy
 repeat (any_goals (first|assumption|exact hT _|((with_reducible show wpAny _ _ (call (Value.builtin "zip.__getattribute__") _ _) _ _ _);refine call_meets F.slot_zip_getattribute (hT _) entry_zip_getattribute (F.args_zip_getattribute_2 _ _) (zip_attr_miss a fs sl _) ⟨hx,hA,λh' tk' e hx'=>?_⟩)|wp_step))
 obtain⟨t',u',he⟩:=hx'.there
 show wpAny _ _ (getattributeRaised _ _ _ _ _ _ _) _ _ _
 unfold getattributeRaised
 repeat (any_goals (first|assumption|wp_step))
 exact h _ _ hx'.keeps
end
section
variable {prog:Program}{w:World}{A:Around}{R:Result->Shared->Prop}
theorem upd_loopZ{z TI TO d i1 i2 l1 l2:Addr}{k1 k2:Kd}{xs1 xs2:Array Value}{n:Nat}(hh:A.handled=none)(D:ZAp2 z TI TO i1 i2 l1 l2)(n1:z≠d)(n2:TI≠d)(n3:TO≠d)(n4:i1≠d)(n5:i2≠d)(n6:l1≠d)(n7:l2≠d)
  (hn1:n<=xs1.size) (hn2:n<=xs2.size) (hend:xs1[n]?=none\/xs2[n]?=none) (J:Nat->Heap->Prop)
  (hfr:∀i h h',J i h->(∀b o,b≠z->b≠TO->b≠i1->b≠i2->h.get? b=some o->h'.get? b=some o)->J i h')
  (step:∀(i:Nat) (x y:Value) (s:Shared) (Q:Unit->Shared->Prop) (E:Value->Shared->Prop),i < n->xs1[i]?=some x->xs2[i]?=some y->J i s.heap ->
    (∀h' tk,J (i+1) h'->K2 d s.heap h'->Q () { s with heap:=h',toks:=tk })->wpAny (model prog w) A.in1 (dictSet d x y) Q E s) :
  ∀(k i:Nat) (s:Shared) (tA:Tok),n - i=k->i<=n->ZSt s.heap z TI TO d i1 i2 l1 l2 k1 k2 i->SqAt k1 s.heap l1 xs1->SqAt k2 s.heap l2 xs2->J i s.heap->d < s.heap.objs.size ->
  (∀h' tk,J n h'->R (.ok (.ret .none)) { s with heap:=h',toks:=tk }) ->
  codeAny (model prog w) A (.builtin "dict.update.loop" ⟨[.ref d,.ref z,.int i tA,.none],[]⟩) R s:=by
 intro k
 induction k with
 | zero =>
  intro i s tA hk hi hst q1 q2 hJ hd hR
  have hin:i=n:=by omega
  subst hin
  refine codeAny_builtin entry_upd_loop ?_
  rw[Around.under_plainId plain_upd_loop _]
  show wpAny _ A.in1 (pyNext (.ref z) >>= _) _ _ s
  refine wpAny_bind (next_keptEnd2 (A:=A.in1) hh D hst q1 q2 hend λh' he=>?_)
  show wpAny _ _ (Builtin.Dict.addKeywords d [] >>= _) _ _ _
  exact wpAny_bind (wpAny_pure (wpAny_pure (hR h' s.toks (hfr _ _ _ hJ he))))
 | succ k ih =>
  intro i s tA hk hi hst q1 q2 hJ hd hR
  have hlt:i < n:=by omega
  obtain⟨x,hx⟩:∃p,xs1[i]?=some p:=⟨xs1[i],u5 (by omega)⟩
  obtain⟨y,hy⟩:∃p,xs2[i]?=some p:=⟨xs2[i],u5 (by omega)⟩
  refine codeAny_builtin entry_upd_loop ?_
  rw[Around.under_plainId plain_upd_loop _]
  show wpAny _ A.in1 (pyNext (.ref z) >>= _) _ _ s
  refine wpAny_bind (next_kept2 (S:=d) D hd hst q1 q2 hx hy λh' hst' ht hz hkp=>?_)
  have hJ':=hfr _ _ _ hJ hkp
  show wpAny _ A.in1 (holding [.ref s.heap.objs.size] _ >>= _) _ _ _
  refine wpAny_bind (wpAny_holding ?_)
  refine wpAny_bind (wpAny_tryCatch ?_)
  unfold Builtin.Dict.pairItems
  refine wpAny_bind (wpAny_typeOf (T:="tuple") ⟨_,ht,rfl⟩ ?_)
  rw[if_pos (by decide)]
  refine wpAny_bind (wpAny_seqItems ht rfl (wpAny_pure ?_))
  show wpAny _ A.in1 (holding [x,y] (dictSet d x y)) _ _ _
  refine wpAny_holding (wpAny_mono (step i x y { s with heap:=h' } (λ_ s''=>∃h'' tk',s''={ s with heap:=h'',toks:=tk' }/\J (i+1) h''/\K2 d h' h'') (λ_ _=>False) hlt hx hy hJ' λh'' tk' j sb=>⟨h'',tk',rfl,j,sb⟩) (λ_ s'' z=>?_) λ_ _ z=>z.elim)
  obtain⟨h'',tk',rfl,j,sb⟩:=z
  have kp:∀b o,b≠d->h'.get? b=some o->h''.get? b=some o:=λb o nb e=>(sb.2 b nb).trans e
  refine wpAny_pure ⟨plainId_quiet plain_upd_loop _,?_⟩
  refine ih (i+1) { s with heap:=h'',toks:=tk' } 0 (by omega) hlt (hst'.keep kp n1 n2 n3 n4 n5) (q1.at λo e=>kp _ _ n6 (hkp _ o D.l1z D.l1TO D.l1i1 D.l1i2 e)) (q2.at λo e=>kp _ _ n7 (hkp _ o D.l2z D.l2TO D.l2i1 D.l2i2 e)) j ?_ λh3 tk3 j3=>hR h3 tk3 j3
  have:IsTup2 h'' s.heap.objs.size x y:=kp _ _ (B2 hd) ht
  exact Nat.lt_trans hd (G0 this)
end
theorem call_dict_zip{prog:Program}{w:World}{A:Around}{E:Value->Shared->Prop}{s:Shared}{z TI TO i1 i2 l1 l2:Addr}{k1 k2:Kd}{xs1 xs2:Array Value}{n:Nat}{Q:Value->Shared->Prop}(J:Nat->Heap->Prop)(hh:A.handled=none)(D:ZAp2 z TI TO i1 i2 l1 l2)
  (hn1:n<=xs1.size) (hn2:n<=xs2.size) (hend:xs1[n]?=none\/xs2[n]?=none) {a1 a2:Value}
  (hz:IsZip s.heap z TI TO .none) (hTI:IsTup2 s.heap TI (.ref i1) (.ref i2)) (hTO:IsTup2 s.heap TO a1 a2) (h1:ItAt k1 s.heap i1 l1 0) (h2:ItAt k2 s.heap i2 l2 0) (hl1:SqAt k1 s.heap l1 xs1) (hl2:SqAt k2 s.heap l2 xs2) (b1:l1 < s.heap.objs.size) (b2:l2 < s.heap.objs.size)
  (h0:∀h',(∀b ob,s.heap.get? b=some ob->h'.get? b=some ob)->h'.get? s.heap.objs.size=some { cls:=.type "dict",data:=.dict #[] }->J 0 h')
  (hfr:∀i h h',J i h->(∀b o,b≠z->b≠TO->b≠i1->b≠i2->h.get? b=some o->h'.get? b=some o)->J i h')
  (step:∀(i:Nat) (x y:Value) (s':Shared) (Q':Unit->Shared->Prop) (E':Value->Shared->Prop),i < n->xs1[i]?=some x->xs2[i]?=some y->J i s'.heap ->
    (∀h' tk,J (i+1) h'->K2 s.heap.objs.size s'.heap h'->Q' () { s' with heap:=h',toks:=tk })->wpAny (model prog w) A.in1.in1 (dictSet s.heap.objs.size x y) Q' E' s')
  (h:∀h' tk,J n h'->Q (.ref s.heap.objs.size) { s with heap:=h',toks:=tk }) :
  wpAny (model prog w) A (call (.type "dict") [.ref z]) Q E s:=by
 refine callType_codes (Q₁:=λobj s₁=>obj=.ref s.heap.objs.size/\s₁={ s with heap:=s.heap.push { cls:=.type "dict",data:=.dict #[] } }) F.kt_called_dict (F.kt_typeCall_dict_1 _) F.entry_dict_init (kt_code_dict_new _ ⟨rfl,rfl⟩) ?_
 rintro obj s₁ ⟨rfl,rfl⟩
 have hnew:(s.heap.push { cls:=.type "dict",data:=.dict #[] }).get? s.heap.objs.size=some { cls:=.type "dict",data:=.dict #[] }:=K0 _ rfl
 have hkp:∀b ob,s.heap.get? b=some ob->(s.heap.push { cls:=.type "dict",data:=.dict #[] }).get? b=some ob:=λb ob e=>g0 _ e
 refine ⟨⟨_,hnew,rfl⟩,F.args_dict_init_2 _ _,?_⟩
 unfold Builtin.«dict.__init__»
 refine wpAny_bind ?_
 unfold Builtin.Dict.selfAndRest
 refine wpAny_bind (wpAny_notOrdered_dict ⟨_,hnew,rfl⟩ ?_)
 show wpAny _ _ (pure (s.heap.objs.size,[Z1 z])) _ _ _
 refine wpAny_pure ?_
 show wpAny _ _ (m8 "dict.__init__" s.heap.objs.size (.ref z) [] .none) _ _ _
 unfold m8
 refine wpAny_bind (wpAny_typeOf (T:="zip") ⟨_,hkp _ _ hz,rfl⟩ ?_)
 rw[if_pos (by decide)]
 refine wpAny_bind (zip_keys_none (hkp _ _ hz) hh λh1' tk1 kk1=>?_)
 simp only[b9,if_true]
 refine wpAny_bind (wpAny_rule ?_)
 refine wpAny_bind (wpAny_pyIter_zip (s:={ s with heap:=h1',toks:=tk1 }) (kk1 _ _ (hkp _ _ hz)) ?_)
 have kp:∀b ob,s.heap.get? b=some ob->h1'.get? b=some ob:=λb ob e=>kk1 b ob (hkp b ob e)
 obtain⟨o1,g1,_⟩:=h1.obj
 obtain⟨o2,g2,_⟩:=h2.obj
 have hlt:s.heap.objs.size < h1'.objs.size:=G0 (kk1 _ _ hnew)
 refine wpAny_pure ⟨plainId_quiet plain_upd_loop _,upd_loopZ (A:=A.in1) hh D (E1 (G0 hz)) (E1 (G0 hTI)) (E1 (G0 hTO)) (E1 (G0 g1)) (E1 (G0 g2)) (E1 b1) (E1 b2) hn1 hn2 hend J hfr step n 0 _ 0 rfl (S4 _)
   ⟨kp _ _ hTI,h1.at λo e=>kp _ _ e,h2.at λo e=>kp _ _ e,.inl ⟨kp _ _ hz,a1,a2,kp _ _ hTO⟩⟩ (hl1.at λo e=>kp _ _ e) (hl2.at λo e=>kp _ _ e) (h0 h1' kp (kk1 _ _ hnew)) hlt λh' tk j=>⟨rfl,h h' tk j⟩⟩
end L2
namespace L3
open PySem PySem.Spec PyProof.Rows L2
section
variable {X:Cx}{K:Fg}{e e1 e2:Expr}{a b:AD}{p pos pos' p2:Pos}
end
end L3
namespace L2
open PySem PySem.Spec PyProof.Rows
end L2
namespace L3
open PySem PySem.Spec PyProof.Rows L2
theorem cutS{t u:TDS}{E:DE}{ρ:Ev}(J:Ev->Prop)(h1:∀N:Ev->Prop,(∀ρ',J ρ'->N ρ')->t { nx:=N,rt:=E.rt,bk:=E.bk,ct:=E.ct } ρ)(h2:∀ρ',J ρ'->u E ρ'):dSeq t u E ρ:=h1 _ h2
theorem gnC{i:Nat}{d:D}{ρ:Ev}{Q:Ev->Prop}(h:dGN i d ρ Q=Q (ρ.set i (some (.fz d))))(w:Q (ρ.set i (some (.fz d)))):dGN i d ρ Q:=by rw[h];exact w
end L3
namespace L2
open PySem PySem.Spec PyProof.Rows PySem.W
noncomputable abbrev Bxx:=List Int×List Int
noncomputable def ltB(x y:Bxx):Bool:=if x.1=y.1 then HT.lexLt x.2 y.2 else HT.lexLt x.1 y.1
theorem ltB_wk:SG.Wk ltB:=by
 have W:=SG.lex_wk
 refine ⟨λa=>?_,λa b c h1 h2=>?_,λa b c h1 h2=>?_⟩
 ·unfold ltB;rw[if_pos rfl];exact W.irr _
 ·unfold ltB at h1 h2 ⊢
  by_cases e1:a.1=b.1
  ·rw[if_pos e1]at h1
   by_cases e2:b.1=c.1
   ·rw[if_pos e2]at h2
    rw[if_pos (e1.trans e2)]
    exact W.tr _ _ _ h1 h2
   ·rw[if_neg e2]at h2
    rw[if_neg (by rw[e1];exact e2),e1]
    exact h2
  ·rw[if_neg e1]at h1
   by_cases e2:b.1=c.1
   ·rw[if_neg (by rw[<- e2];exact e1),<- e2]
    exact h1
   ·rw[if_neg e2]at h2
    have h3:=W.tr _ _ _ h1 h2
    rw[if_neg (λz=>by rw[z,W.irr]at h3;cases h3)]
    exact h3
 ·unfold ltB at h1 h2 ⊢
  by_cases e1:a.1=b.1
  ·rw[if_pos e1]at h1
   by_cases e2:b.1=c.1
   ·rw[if_pos e2]at h2
    rw[if_pos (e1.trans e2)]
    exact W.nt _ _ _ h1 h2
   ·rw[if_neg e2]at h2
    rw[if_neg (by rw[e1];exact e2),e1]
    exact h2
  ·rw[if_neg e1]at h1
   by_cases e2:b.1=c.1
   ·rw[if_neg (by rw[<- e2];exact e1),<- e2]
    exact h1
   ·rw[if_neg e2]at h2
    have h3:=W.nt _ _ _ h1 h2
    by_cases e3:a.1=c.1
    ·exfalso
     rw[<- e3]at h2
     exact e1 (SG.lex_eq h1 h2)
    ·rw[if_neg e3];exact h3
theorem ltB_eq{a b:Bxx}(h1:ltB a b=false)(h2:ltB b a=false):a=b:=by
 unfold ltB at h1 h2
 by_cases e:a.1=b.1
 ·rw[if_pos e]at h1
  rw[if_pos e.symm]at h2
  have:=SG.lex_eq h1 h2
  cases a;cases b;cases e;cases this;rfl
 ·rw[if_neg e]at h1
  rw[if_neg (λz=>e z.symm)]at h2
  exact absurd (SG.lex_eq h1 h2) e
noncomputable def RepB(H:Hp)(c:Addr)(x:Bxx):Prop:=∃a b,H c=some (.tup [.ref a,.ref b])/\H a=some (.tup (x.1.map V.int))/\H b=some (.tup (x.2.map V.int))
noncomputable def fnB(H:Hp):V->Bxx
 | .ref c=>match H c with
  | some (.tup [x,y])=>(fnT H x,fnT H y)
  | _=>([],[])
 | _=>([],[])
theorem fnT_is{H:Hp}{c:Addr}{r:List Int}(h:H c=some (.tup (r.map V.int))):fnT H (.ref c)=r:=by
 show (match H c with|some (.tup xs)=>xs.map unV|_=>[])=r
 rw[h]
 exact unV_ints r
theorem fnB_of(H:Hp)(c:Addr)(x:Bxx)(h:RepB H c x):fnB H (.ref c)=x:=by
 obtain⟨a,b,h1,h2,h3⟩:=h
 show (match H c with|some (.tup [x,y])=>(fnT H x,fnT H y)|_=>([],[]))=x
 rw[h1]
 show (fnT H (.ref a),fnT H (.ref b))=x
 rw[fnT_is h2,fnT_is h3]
theorem eqTupB{X:Cx}{pins:List (Addr×Obj)}{σ:St}{H:Hp}{s:Shared}{a b:Addr}{x y:List Int}{A:Around}(I:Inv X pins σ H s)(hu:A.units < cLine)(ha:H a=some (.tup (x.map V.int)))(hb:H b=some (.tup (y.map V.int))){s':Shared}(k:∀b o,s.heap.get? b=some o->s'.heap.get? b=some o) :
  SeqAt.EqAt A s' (.ref a) (.ref b) (decide (x=y)):=by
 by_cases e:a=b
 ·subst e
  rw[ha]at hb
  injection hb with hb;injection hb with hb
  rw[ints_inj hb,decide_eq_true rfl]
  exact SeqAt.EqAt.same _
 ·have I':Inv X pins σ H { s with heap:=s'.heap }:=I.kept (t':=s.toks) k
  obtain⟨_,ia,ra,ta⟩:=(show ObjOk X.prog X.w H s'.heap a (.tup (x.map V.int)) from I'.hok a _ ha)
  obtain⟨_,ib,rb,tb⟩:=(show ObjOk X.prog X.w H s'.heap b (.tup (y.map V.int)) from I'.hok b _ hb)
  have la:=ra.length
  have lb:=rb.length
  rw[i0]at la lb
  have h:=SeqAt.RcAt.tuples (A:=A) (s:=s') (e:=λk=>x.getD k 0==y.getD k 0) ta.t tb.t hu λj h1 h2=>by
   obtain⟨t1,e1⟩:=vals_intsAt ra (k:=j) (by simpa using h1)
   obtain⟨t2,e2⟩:=vals_intsAt rb (k:=j) (by simpa using h2)
   simp only[List.getElem_toArray]
   rw[e1,e2]
   exact SeqAt.EqAt.int_int _ _ _ _
  have hv:((U2 (min ia.toArray.size ib.toArray.size)).all (λk=>x.getD k 0==y.getD k 0)&&ia.toArray.size==ib.toArray.size)=decide (x=y):=by
   simp only[T0,<- la,<- lb]
   by_cases z:x=y
   ·subst z
    rw[decide_eq_true rfl]
    simp
   ·rw[decide_eq_false z,W3]
    intro hb
    rw[Z3,List.all_eq_true,beq_iff_eq]at hb
    refine z (List.ext_getElem hb.2 λk k1 k2=>?_)
    have:=hb.1 k (w6.mpr (by omega))
    rw[beq_iff_eq,Q3,Q3,O0 k1,O0 k2]at this
    exact this
  rw[<- hv]
  exact SeqAt.EqAt.of_refs e h
theorem call_sortB{X:Cx}(hu:X.A.units+2 < cLine):CallR X (.builtin "sorted") (rSortG X.K RepB fnB ltB):=by
 have hu1:X.A.in1.in1.units < cLine:=by show X.A.units+2 < cLine;exact hu
 refine call_sortG (κ:=tuples' false) ltB_wk fnB_of (λ{pins s σ H} I its h2 at' s' k E' Q' q'=>?_) (λ{pins s σ H} I c d x y hx hy s' k Q' q'=>?_)
 ·have gen:∀(l:List Value),(∀v∈l,∃(c:Addr) (r:Bxx),v=.ref c/\RepB H c r)->∃fs:List Value,KatTups s'.heap l fs/\fs.length=l.length/\∀v∈fs,Looks (model X.prog X.w) s'.heap (typeOf v) (.type "tuple"):=by
   intro l
   induction l with
   | nil=>intro _;exact ⟨[],.nil,rfl,λv hv=>by simp at hv⟩
   | cons v l ih =>
    intro hl
    obtain⟨fs,f1,f2,f3⟩:=ih λx hx=>hl x (A0 _ hx)
    obtain⟨c,r,rfl,a,b,hc,ha,hb⟩:=hl v B0
    obtain⟨_,itc,rc,ob,e1,e2,m,e3,_⟩:=(show ObjOk X.prog X.w H s.heap c (.tup [.ref a,.ref b]) from I.hok c _ hc)
    obtain⟨u1,u2,rfl,r1,r2⟩:=vals2 rc
    cases r1
    obtain⟨_,itb,rb,oa,g1,g2,_⟩:=(show ObjOk X.prog X.w H s.heap a (.tup (r.1.map V.int)) from I.hok a _ ha)
    refine ⟨.ref a :: fs,.cons (k _ _ e1) e2 e3 rfl f1,by simp[f2],λv hv=>?_⟩
    rcases Y0.mp hv with rfl|hv
    ·have:=(show Looks (model X.prog X.w) s'.heap (typeOf (.ref a)) oa.cls from (Looks.ld (k _ _ g1)).andThen .now)
     rw[g2]at this
     exact this
    ·exact f3 v hv
  obtain⟨fs,f1,f2,f3⟩:=gen its at'
  exact kat_kind (T:=.type "tuple") f1 (by omega) f3 (by decide) q'
 ·obtain⟨a1,b1,hc1,ha1,hb1⟩:=hx
  obtain⟨a2,b2,hc2,ha2,hb2⟩:=hy
  obtain⟨_,ic,rc,oc,c1,c2,m1,c3,_⟩:=(show ObjOk X.prog X.w H s.heap c (.tup [.ref a1,.ref b1]) from I.hok c _ hc1)
  obtain⟨_,id',rd,od,d1,d2,m2,d3,_⟩:=(show ObjOk X.prog X.w H s.heap d (.tup [.ref a2,.ref b2]) from I.hok d _ hc2)
  obtain⟨u1,u2,rfl,r1,r2⟩:=vals2 rc
  cases r1;cases r2
  obtain⟨w1,w2,rfl,r3,r4⟩:=vals2 rd
  cases r3;cases r4
  have I':Inv X pins σ H { s with heap:=s'.heap }:=I.kept (t':=s.toks) k
  have lt1:∀{a b:Addr}{x y:List Int}{Q:Bool->Shared->Prop},H a=some (.tup (x.map V.int))->H b=some (.tup (y.map V.int))->Q (HT.lexLt x y) s'->wpAny (model X.prog X.w) X.A.in1.in1 (oneLt' false (.ref a) (.ref b)) Q (λ_ _=>False) s':=λ{a b x y Q} ha hb hq=>by
   obtain⟨_,ia,ra,ta⟩:=(show ObjOk X.prog X.w H s'.heap a (.tup (x.map V.int)) from I'.hok a _ ha)
   obtain⟨_,ib,rb,tb⟩:=(show ObjOk X.prog X.w H s'.heap b (.tup (y.map V.int)) from I'.hok b _ hb)
   exact kat_one _ _ (HT.lt_tupInts ta.t tb.t (intsAre_of ra) (intsAre_of rb) hu1 hq)
  refine kat_lt (k _ _ c1) c3 (k _ _ d1) d3 (kat_cons ?_)
  refine eqTupB I hu1 ha1 ha2 k _ _ _ _ ?_
  unfold ltB at q'
  refine kat_go (λq=>kat_yes (kat_cons ?_)) (λq=>kat_no ?_)
  ·have q:=of_decide_eq_true q
   rw[if_pos q]at q'
   refine eqTupB I hu1 hb1 hb2 k _ _ _ _ ?_
   refine kat_go (λz=>kat_yes ?_) (λz=>kat_no ?_)
   ·have z:=of_decide_eq_true z
    rw[z,SG.lex_wk.irr]at q'
    exact q'
   ·exact lt1 hb1 hb2 q'
  ·have q:=of_decide_eq_false q
   rw[if_neg q]at q'
   exact lt1 ha1 ha2 q'
end L2
namespace L3
open PySem PySem.Spec PyProof.Rows L2
noncomputable abbrev boxD(b:Bxx):D:=.tuple [.tuple (b.1.map j0),.tuple (b.2.map j0)]
noncomputable def fSortB:D->(Sl->Prop)->Prop
 | .list ds,Q=>∃rows:List Bxx,ds=rows.map boxD/\rows.length<=sizeLine/\∀rows':List Bxx,rows'.Perm rows->rows'.Pairwise (λa b=>ltB b a=false)->Q (.ow (.list (rows'.map boxD)))
 | _,_=>False
theorem da_box{K:Fg}{F:Hp}{v:V}{r:Bxx}(h:Da K F v (boxD r)):∃c,v=.ref c/\RepB F c r:=by
 cases h with
 | tup h t =>
  cases t with
  | cons h1 t =>
   cases t with
   | cons h2 t =>
    cases t
    obtain⟨a,rfl,ha⟩:=da_tup h1
    obtain⟨b,rfl,hb⟩:=da_tup h2
    exact ⟨_,rfl,a,b,h,ha,hb⟩
theorem repB_da{K:Fg}{F:Hp}{c:Addr}{r:Bxx}(h:RepB F c r):Da K F (.ref c) (boxD r):=by
 obtain⟨a,b,h1,h2,h3⟩:=h
 exact .tup h1 (.cons (.tup h2 (DaAll.ints _)) (.cons (.tup h3 (DaAll.ints _)) .nil))
theorem ok_sortB{K:Fg}:OpOk K (rSortG K RepB fnB ltB) (o1 fSortB):=ok1 λG F σ H ρ x d Q Qd R h1 w k=>by
 cases d<;>first|exact w.elim|skip
 case list ds =>
  obtain⟨rows,e,hz,w⟩:=w
  subst e
  obtain⟨a,us,rfl,e1,d1⟩:=h1.list R.sub
  have hl:=d1.length
  rw[i0]at hl
  have hrep:∀v∈us,∃c r,v=.ref c/\RepB F c r/\r∈rows:=λv hv=>by
   obtain⟨d,hd,dv⟩:=d1.mem v hv
   obtain⟨r,hr,rfl⟩:=J0.mp hd
   obtain⟨c,rfl,hc⟩:=da_box dv
   exact ⟨c,r,rfl,hc,hr⟩
  have up:∀{c:Addr}{r:Bxx},RepB F c r->RepB H c r:=λ{c r} ⟨a,b,h1,h2,h3⟩=>⟨a,b,R.sub _ _ h1,R.sub _ _ h2,R.sub _ _ h3⟩
  have hfe:∀v∈us,fnB H v=fnB F v:=λv hv=>by
   obtain⟨c,r,rfl,hc,_⟩:=hrep v hv
   rw[fnB_of F c r hc,fnB_of H c r (up hc)]
  refine ⟨a,us,rfl,SqL.of e1,by omega,λv hv=>?_,λp us' hp p' o'=>?_⟩
  ·obtain⟨c,r,rfl,hc,_⟩:=hrep v hv
   exact ⟨c,r,rfl,up hc⟩
  ·have em:us.map (fnB F)=rows:=by
    refine DaAll.map_eq (K:=K) (F:=F) (g:=boxD) (λv a h=>?_) d1
    obtain⟨c,rfl,hc⟩:=da_box h
    exact fnB_of F c a hc
   have ee:us'.map (fnB H)=us'.map (fnB F):=G3 λv hv=>hfe v (p'.mem_iff.mp hv)
   rw[ee]at o'
   have dall:DaAll K F us' ((us'.map (fnB F)).map boxD):=by
    rw[L0]
    refine DaAll.map_of λv hv=>?_
    obtain⟨c,r,rfl,hc,_⟩:=hrep v (p'.mem_iff.mp hv)
    show Da K F (.ref c) (boxD (fnB F (.ref c)))
    rw[fnB_of F c r hc]
    exact repB_da hc
   obtain⟨R',r'⟩:=R.newOw (o:=.lst us') (d:=.list _) hp dall
   exact k _ _ F _ (Sub.refl _) R' r' (w _ (by rw[<- em];exact p'.map _) o')
theorem call_sortBK{X:Cx}{K:Fg}(h:X.K=K)(hu:X.A.units+2 < cLine):CallR X (.builtin "sorted") (rSortG K RepB fnB ltB):=by subst h;exact call_sortB hu
end L3
namespace L2
open PySem PySem.Spec PyProof.Rows
noncomputable def lexG(e l:Nat->Bool)(b:Bool):Nat->Nat->Bool
 | _,0=>b
 | k,m+1=>if e k=true then lexG e l b (k+1) m else l k
section
open PySem.SeqAt
open PySem.AutoSeq1 (wpAny_loadPart')
open PySem.MeetsSeq PySem.MeetsSeq2 PySem.MeetsSeq3
theorem tuple_lt_gen(l b:Addr)(items items2:Array Value)(n n2:Nat)(dd dd2:Option Addr)(sl sl2:Array (Option Value))(e lt:Nat->Bool) :
  Meets (Builtin.«tuple.__lt__» ⟨[.ref l,.ref b],[]⟩) (λA R s=>s.heap.get? l=some { cls:=.type "tuple",dict:=dd,data:=.seq items n,slots:=sl }/\s.heap.get? b=some { cls:=.type "tuple",dict:=dd2,data:=.seq items2 n2,slots:=sl2 } /\
    (∀(k:Nat) (x y:Value),items[k]?=some x->items2[k]?=some y->SeqAt.EqAt A.in1 s x y (e k)) /\
    (∀(k:Nat) (x y:Value),items[k]?=some x->items2[k]?=some y->e k=false->∀(prog:Program) (w:World) (E:Value->Shared->Prop) (Q:Value->Shared->Prop),Q (.bool (lt k)) s->wpAny (model prog w) A.in1 (richCompare .Lt x y) Q E s) /\
    R (.ok (.ret (.bool (lexG e lt (decide (items.size < items2.size)) 0 (min items.size items2.size))))) s):=.of_wp λprog w A R s h=>by
 obtain⟨hp,g,d,tk,os⟩:=s
 obtain⟨hl,hb,hE,hL,h⟩:=h
 have f2:=AutoSeq1.sub_tuple_tuple
 wp_walk using wpAny_loadPart' hl,wpAny_loadPart' hb,wpAny_forIn_list _ (λrest b s'=>b.1=none/\s'=⟨hp,g,d,tk,os⟩/\∃k,rest=(items.toList.zip items2.toList).drop k/\k<=min items.size items2.size/\R (.ok (.ret (.bool (lexG e lt (decide (items.size < items2.size)) k (min items.size items2.size - k))))) ⟨hp,g,d,tk,os⟩) _
 case turn =>
  rintro⟨y,x⟩ rest b s' ⟨hb',rfl,k,hz,hk,hR⟩
  have hlt:k < (items.toList.zip items2.toList).length:=by
   by_cases q:k < (items.toList.zip items2.toList).length
   ·exact q
   ·rw[Y6 (by omega)]at hz;cases hz
  rw[T3 hlt]at hz
  injection hz with hyx hrest
  rw[j7]at hyx
  injection hyx with hy hx
  rw[Y1,Q0,Q0]at hlt
  have g1:items[k]?=some y:=by rw[hy,<- J3];exact O0 _
  have g2:items2[k]?=some x:=by rw[hx,<- J3];exact O0 _
  obtain⟨m,hm⟩:∃m,min items.size items2.size - k=m+1:=⟨min items.size items2.size - k - 1,by omega⟩
  rw[hm]at hR
  refine wpAny_bind (hE k y x g1 g2 prog w _ _ ?_)
  have hR:R (.ok (.ret (.bool (if e k=true then lexG e lt (decide (items.size < items2.size)) (k+1) m else lt k)))) ⟨hp,g,d,tk,os⟩:=hR
  cases he:e k with
  | true =>
   rw[he,if_pos rfl]at hR
   wp_walk
   exact ⟨rfl,rfl,k+1,hrest,by omega,by rw[show min items.size items2.size - (k+1)=m by omega];exact hR⟩
  | false =>
   rw[he,if_neg A1]at hR
   have hri:=hL k y x g1 g2 he prog w
   wp_walk using hri
   exact ⟨_,rfl,by simpa using hR⟩
 case fin =>
  rintro⟨b1,b2⟩ s' ⟨hb',rfl,k,hz,hk,hR⟩
  simp only at hb'
  subst hb'
  have hk2:min items.size items2.size - k=0:=by
   have:=congrArg Y3 hz
   rw[h8,Y1,Q0,Q0]at this
   simp at this
   omega
  rw[hk2]at hR
  have hR:R (.ok (.ret (.bool (decide (items.size < items2.size))))) ⟨hp,g,d,tk,os⟩:=hR
  wp_walk
  exact ⟨_,rfl,by simpa [e7]using hR⟩
 case h =>
  exact ⟨rfl,rfl,0,rfl,S4 _,h⟩
end
section
variable {prog:Program}{w:World}{A:Around}{R:Result->Shared->Prop}{I:Addr}{fp wr:List Addr}{n:Nat}{P:Nat->Value->Prop}{St:Nat->Heap->Prop}{base:Heap}
end
end L2
namespace L3
open PySem PySem.Spec PyProof.Rows L2
end L3
namespace L2
open PySem PySem.Spec PyProof.Rows PySem.W
theorem eqBoxB{X:Cx}{pins:List (Addr×Obj)}{σ:St}{H:Hp}{s:Shared}{c d:Addr}{x y:Bxx}{A:Around}(I:Inv X pins σ H s)(hu:A.units+1 < cLine)(hx:RepB H c x)(hy:RepB H d y):SeqAt.EqAt A s (.ref c) (.ref d) (decide (x=y)):=by
 by_cases e:c=d
 ·subst e
  have:=(fnB_of H c x hx).symm.trans (fnB_of H c y hy)
  rw[decide_eq_true this]
  exact SeqAt.EqAt.same _
 ·obtain⟨a1,b1,hc1,ha1,hb1⟩:=hx
  obtain⟨a2,b2,hc2,ha2,hb2⟩:=hy
  obtain⟨_,ic,rc,tc⟩:=(show ObjOk X.prog X.w H s.heap c (.tup [.ref a1,.ref b1]) from I.hok c _ hc1)
  obtain⟨_,id',rd,td⟩:=(show ObjOk X.prog X.w H s.heap d (.tup [.ref a2,.ref b2]) from I.hok d _ hc2)
  obtain⟨u1,u2,rfl,r1,r2⟩:=vals2 rc
  obtain⟨w1,w2,rfl,r3,r4⟩:=vals2 rd
  cases r1;cases r2;cases r3;cases r4
  have hu1:A.in1.units < cLine:=hu
  have h:=SeqAt.RcAt.tuples (A:=A) (s:=s) (e:=λk=>if k=0 then decide (x.1=y.1) else decide (x.2=y.2)) tc.t td.t (v6 hu) λj h1 h2=>by
   rcases j with _|_|j
   ·exact eqTupB I hu1 ha1 ha2 λ_ _ z=>z
   ·exact eqTupB I hu1 hb1 hb2 λ_ _ z=>z
   ·exact absurd h1 (by simp)
  have hv:((U2 (min #[Z1 a1,Z1 b1].size #[Z1 a2,Z1 b2].size)).all (λk=>if k=0 then decide (x.1=y.1) else decide (x.2=y.2))&&#[Z1 a1,Z1 b1].size==#[Z1 a2,Z1 b2].size)=decide (x=y):=by
   show ((U2 2).all (λk=>if k=0 then decide (x.1=y.1) else decide (x.2=y.2))&&true)=_
   rw[show U2 2=[0,1] from rfl,i6]
   cases x;cases y
   simp
  rw[<- hv]
  exact SeqAt.EqAt.of_refs e h
noncomputable def evB(H:Hp)(x:Bxx)(y:Value):Bool:=@decide (∃c,y=.ref c/\RepB H c x) (Classical.propDecidable _)
end L2
namespace L3
open PySem PySem.Spec PyProof.Rows L2
section
variable {X:Cx}{K:Fg}{e1 e2:Expr}{a b:AD}{pos:Pos}
end
end L3
namespace L2
open PySem PySem.Spec PyProof.Rows
section
variable {P:Program}{w:World}{κ:Type}[DecidableEq κ]{kd:KeyKind P w κ}
variable {A:Around}{E:Value->Shared->Prop}{s:Shared}
end
section
variable {X:Cx}
end
end L2
namespace L3
open PySem PySem.Spec L2 PyProof.Rows
section
variable {X:Cx}{K:Fg}{e e1:Expr}{a:AD}{p pos p2:Pos}
theorem hu6_of{A:Around}{k:Nat}(hr:Room k A):A.units+6 < cLine:=G2 (G7 (by decide:6<=64) _) hr.units
end
end L3
namespace L2
open PySem PySem.Spec PyProof.Rows
section
variable {prog:Program}{w:World}{A:Around}{E:Value->Shared->Prop}{s:Shared}
theorem own_items:E7 "dict_itemiterator"=true:=by decide
theorem no_none(d:Addr):¬((Z1 d==L4)=true):=A1
theorem it_next{it d:Addr}{i ep:Nat}{es:Array DictEntry}{ok ov:Value}{od:Obj}{Q:Option Value->Shared->Prop}(x:IsItemIter s.heap it d i es.size ep ok ov)(y:s.heap.get? d=some od)(yd:od.data=.dict es ep)(hi:i < es.size)
  (q:∀h',IsItemIterOut h' it d (i+1) es.size ep es[i].key es[i].val s.heap.objs.size->h'.get? s.heap.objs.size=some { cls:=.type "tuple",data:=.seq #[es[i].key,es[i].val] }->h'.objs.size=s.heap.objs.size+1 ->
    (∀b o,b≠it->s.heap.get? b=some o->h'.get? b=some o)->Q (some (.ref s.heap.objs.size)) { s with heap:=h' }) :
  wpAny (model prog w) A (pyNext (.ref it)) Q E s:=by
 obtain⟨hp,g,dr,tk,os⟩:=s
 have ty:Shared.TypeIs ⟨hp,g,dr,tk,os⟩ (.ref it) "dict_itemiterator":=⟨_,x,rfl⟩
 have lt0:it < hp.objs.size:=G0 x
 have ne0:hp.objs.size≠it:=B2 lt0
 unfold pyNext
 refine wpAny_bind (wpAny_attempt (wpAny_callSpecial?_slot (name:=Str.ofString "__next__") ty F.slot_dict_itemiterator_next (wpAny_call_entry F.slot_dict_itemiterator_next ty F.entry_dict_itemiterator_next ?_ (F.args_dict_itemiterator_next_1 _))))
 refine wpAny_bind (wpAny_pure (wpAny_bind (wpAny_bind ?_)))
 first|refine wpAny_bind (wpAny_typeNameOfWhole_itemiter ty (wpAny_pure ?_))|refine wpAny_bind (wpAny_typeNameOf_itemiter ty (wpAny_pure ?_))
 refine wpAny_bind (wpAny_fieldsOf x rfl ?_)
 simp only[own_items,if_true]
 show wpAny _ _ (if (Z1 d==L4)=true then _ else _) _ _ _
 rw[if_neg (no_none d)]
 refine wpAny_bind (wpAny_pure (wpAny_bind (wpAny_dictEntries y yd ?_)))
 rw[if_neg (by simp)]
 refine wpAny_bind (wpAny_pure (wpAny_bind (wpAny_dictEpoch y yd ?_)))
 rw[if_neg (by simp)]
 refine wpAny_pure ?_
 simp only[show ¬((i:Int) < 0) from by omega,if_false,O5,u5 hi]
 refine wpAny_bind ?_
 first|refine wpAny_bind (wpAny_typeNameOfWhole_itemiter ty (wpAny_pure ?_))|refine wpAny_bind (wpAny_typeNameOf_itemiter ty (wpAny_pure ?_))
 refine wpAny_bind (wpAny_isOneOf_itemiter ty ?_)
 show wpAny _ _ (setField (.ref it) 3 (rawInt ((i:Int)+1)) >>= _) _ _ ⟨hp,g,dr,tk,os⟩
 refine wpAny_bind (wpAny_setField_rec x (by simp) λh1 x1 s1=>?_)
 have s1:K2 it hp h1:=s1
 have x1:IsItemIter h1 it d (i+1) es.size ep ok ov:=by
  unfold IsItemIter
  rw[show ((i+1:Nat):Int)=(i:Int)+1 by omega]
  simpa [rawInt]using x1
 have ty1:Shared.TypeIs ⟨h1,g,dr,tk,os⟩ (.ref it) "dict_itemiterator":=⟨_,x1,rfl⟩
 refine wpAny_bind (wpAny_holding (wpAny_bind (wpAny_isOneOf_itemiter ty1 (wpAny_bind (wpAny_isOneOf_itemiter ty1 ?_)))))
 show wpAny _ _ (Z6 (.ref it) 6 es[i].key es[i].val) _ _ ⟨h1,g,dr,tk,os⟩
 unfold Z6
 refine wpAny_bind (wpAny_newTuple ?_)
 have z1:h1.objs.size=hp.objs.size:=s1.1
 obtain⟨h2,e2⟩:∃h2,h2=h1.push { cls:=.type "tuple",data:=.seq #[es[i].key,es[i].val] }:=⟨_,rfl⟩
 have x2:IsItemIter h2 it d (i+1) es.size ep ok ov:=by rw[e2];exact g0 _ x1
 have t2:h2.get? hp.objs.size=some { cls:=.type "tuple",data:=.seq #[es[i].key,es[i].val] }:=by rw[e2,<- z1];exact K0 _ rfl
 have z2:h2.objs.size=hp.objs.size+1:=by rw[e2,O1,z1]
 have k2:∀b o,b≠it->hp.get? b=some o->h2.get? b=some o:=λb o hb e=>by rw[e2];exact g0 _ (s1.extBut b o hb e)
 rw[<- e2]
 show wpAny _ _ (E6 (.ref it) >>= _) _ _ ⟨h2,g,dr,tk,os⟩
 rw[z1]
 refine wpAny_bind ?_
 unfold E6
 refine wpAny_bind (wpAny_field x2 rfl (x:=.none) rfl (wpAny_pure ?_))
 simp only[if_true]
 refine wpAny_bind (wpAny_field x2 rfl (x:=ok) rfl (wpAny_bind (wpAny_field x2 rfl (x:=ov) rfl ?_)))
 refine wpAny_bind (wpAny_setField_rec x2 (by simp) λh3 x3 s3=>?_)
 have s3:K2 it h2 h3:=s3
 have x3:IsItemIter h3 it d (i+1) es.size ep es[i].key ov:=x3
 refine wpAny_bind (wpAny_setField_rec x3 (by simp) λh4 x4 s4=>?_)
 have s4:K2 it h3 h4:=s4
 have x4:IsItemIter h4 it d (i+1) es.size ep es[i].key es[i].val:=x4
 refine wpAny_bind (wpAny_setField_rec x4 (by simp) λh5 x5 s5=>?_)
 have s5:K2 it h4 h5:=s5
 have x5:IsItemIterOut h5 it d (i+1) es.size ep es[i].key es[i].val hp.objs.size:=x5
 refine wpAny_bind (wpAny_setField_rec x5 (by simp) λh6 x6 s6=>?_)
 have s6:K2 it h5 h6:=s6
 have go:∀b o,b≠it->h2.get? b=some o->h6.get? b=some o:=λb o hb e=>s6.extBut b o hb (s5.extBut b o hb (s4.extBut b o hb (s3.extBut b o hb e)))
 refine wpAny_bind (wpAny_letGo (wpAny_pure (wpAny_pure ⟨_,rfl,wpAny_pure (q h6 x6 (go _ _ ne0 t2) ?_ λb o hb e=>go b o hb (k2 b o hb e))⟩)))
 show h6.objs.size=hp.objs.size+1
 rw[s6.1,s5.1,s4.1,s3.1,z2]
theorem it_end{it d:Addr}{i ep:Nat}{es:Array DictEntry}{ok ov:Value}{od:Obj}{Q:Option Value->Shared->Prop}(hh:A.handled=none)(x:IsItemIter s.heap it d i es.size ep ok ov)(y:s.heap.get? d=some od)(yd:od.data=.dict es ep)(hi:es.size<=i)
  (q:∀h',K8 it s.heap h'->Q none { s with heap:=h' }):wpAny (model prog w) A (pyNext (.ref it)) Q E s:=by
 have ty:s.TypeIs (.ref it) "dict_itemiterator":=⟨_,x,rfl⟩
 unfold pyNext
 refine wpAny_bind (wpAny_attempt (wpAny_callSpecial?_slot (name:=Str.ofString "__next__") ty F.slot_dict_itemiterator_next (wpAny_call_entry F.slot_dict_itemiterator_next ty F.entry_dict_itemiterator_next ?_ (F.args_dict_itemiterator_next_1 _))))
 refine wpAny_bind (wpAny_pure (wpAny_bind (wpAny_bind ?_)))
 first|refine wpAny_bind (wpAny_typeNameOfWhole_itemiter ty (wpAny_pure ?_))|refine wpAny_bind (wpAny_typeNameOf_itemiter ty (wpAny_pure ?_))
 refine wpAny_bind (wpAny_fieldsOf x rfl ?_)
 simp only[own_items,if_true]
 show wpAny _ _ (if (Z1 d==L4)=true then _ else _) _ _ s
 rw[if_neg (no_none d)]
 refine wpAny_bind (wpAny_pure (wpAny_bind (wpAny_dictEntries y yd ?_)))
 rw[if_neg (by simp)]
 refine wpAny_bind (wpAny_pure (wpAny_bind (wpAny_dictEpoch y yd ?_)))
 rw[if_neg (by simp)]
 refine wpAny_pure ?_
 simp only[show ¬((i:Int) < 0) from by omega,if_false,O5,x8 hi]
 refine wpAny_bind ?_
 first|refine wpAny_bind (wpAny_typeNameOfWhole_itemiter ty (wpAny_pure ?_))|refine wpAny_bind (wpAny_typeNameOf_itemiter ty (wpAny_pure ?_))
 show wpAny _ _ (setField (.ref it) 2 .none >>= _) _ _ s
 refine wpAny_bind (wpAny_setField x rfl (by simp) ?_)
 show wpAny _ _ (newExc (.type "StopIteration") [] >>= _) _ _ _
 refine wpAny_bind ?_
 simp only[newExc,newTuple]
 refine wpAny_bind (wpAny_newObj_type ?_ (by size_fits))
 refine wpAny_bind (m:=firstArgMember _ _) (wpAny_of_eq (a:=L4) (by first|rfl|(simp only[firstArgMember];rfl)) ?_)
 refine wpAny_newObj_type ?_ (by size_fits)
 simp only[raiseNew]
 refine wpAny_bind (wpAny_handled ?_)
 rw[show A.in1.handled=none from hh]
 refine wpAny_bind (wpAny_pure (wpAny_throw ?_))
 refine wpAny_bind (wpAny_isInstance (b:=true) (T:="StopIteration") ⟨_,K0 _ rfl,rfl⟩ isSubtype_stop ?_)
 exact wpAny_pure (q _ (((A4 ..).extBut.push _).push _))
theorem it_view{v d:Addr}{es:Array DictEntry}{ep:Nat}{od:Obj}{Q:Value->Shared->Prop}(hv:s.heap.IsItemsView v d)(y:s.heap.get? d=some od)(yd:od.data=.dict es ep)
  (q:Q (.ref s.heap.objs.size) { s with heap:=s.heap.push { cls:=.type "dict_itemiterator",data:=.fields #[.none,.bool false,.ref d,.int 0 0,.int es.size 0,.int ep 0,.none,.none] } }) :
  wpAny (model prog w) A (pyIter (.ref v)) Q E s:=by
 obtain⟨ov,e1,e2,e3⟩:=id hv
 refine wpAny_pyIter_slot hv.typeIs F.slot_dict_items_iter (wpAny_call_entry F.slot_dict_items_iter hv.typeIs F.entry_dict_items_iter ?_ (F.args_dict_items_iter_1 _))
 unfold Builtin.«dict_items.__iter__»
 refine wpAny_bind (wpAny_pure (wpAny_bind ?_))
 unfold Builtin.Dict_items.dictOf
 refine wpAny_bind (wpAny_field e1 e3 (x:=.ref d) rfl (wpAny_pure (wpAny_bind ?_)))
 unfold Builtin.Dict_items.newIterator
 refine wpAny_bind (wpAny_dictEntries y yd (wpAny_bind (wpAny_dictEpoch y yd ?_)))
 simp only[own_items,if_true]
 refine wpAny_newObj_type (wpAny_pure ⟨_,rfl,"dict_itemiterator",_,⟨_,K0 _ rfl,rfl⟩,F.slot_dict_itemiterator_next.lookup,?_⟩)
  (by simp only[sizeOk,G6,T0,M0,V1,B5,sizeLine_eq];omega)
 simpa [rawInt,G6]using q
end
theorem entry_items_self:entryFor table "dict_itemiterator.__iter__"=some Builtin.«dict_keyiterator.__iter__»:=entryFor_alias (id':="dict_keyiterator.__iter__") (by kernel_rfl) (by decide +kernel) (by decide +kernel) (by kernel_rfl)
noncomputable def Iti{κ:Type}(hs:κ->Int)(d d':Addr)(ep:Nat)(xs:List (κ×Addr×V)):It :=
 ⟨λi H=>H d=some (extD hs d' ep xs)/\i < xs.length,
  λi H x H'=>∃T k b v,H T=none/\x=.ref T/\H'=upd H T (.tup [.ref b,v])/\xs[i]?=some (k,b,v),
  λi H=>H d=some (extD hs d' ep xs)/\xs.length<=i⟩
theorem prd_get{α β:Type}{R:α->β->Prop}:∀{l:List α}{m:List β},Paired R l m->∀{i:Nat}{x:α},l[i]?=some x->∃y,m[i]?=some y/\R x y
 | _,_,.nil,i,x,h=>by simp at h
 | _,_,.cons r t,0,x,h=>by
  simp only[n8,Option.some.injEq]at h
  subst h
  exact ⟨_,rfl,r⟩
 | _,_,.cons r t,i+1,x,h=>by
  simp only[O3]at h
  obtain⟨y,e,ry⟩:=prd_get t h
  exact ⟨y,e,ry⟩
section
variable {κ:Type}{hs:κ->Int}
theorem ext_same{P:Program}{w:World}{H:Hp}{h:Heap}{d d':Addr}{ep:Nat}{xs:List (κ×Addr×V)}(e:ObjOk P w H h d (extD hs d' ep xs)):d'=d:=by
 obtain⟨f,⟨o,ho⟩,st⟩:=e
 by_cases z:d'=d
 ·exact z
 exfalso
 obtain⟨⟨vs,pr,o',es,e1,e2,e3,e4⟩,_⟩:=id f
 obtain⟨⟨vs2,_,o2,es2,g1,g2,_⟩,_⟩:=st h (h.update d' λ_=>{ cls:=.type "tuple",data:=.seq #[] }) f λq hq=>by rw[J7 _ d d' _ (V2 z)];exact hq
 have g3:(h.update d' λ_=>{ cls:=.type "tuple",data:=.seq #[] }).get? d'=some { cls:=.type "tuple",data:=.seq #[] }:=E4 _ e1 rfl
 rw[g3]at g1
 injection g1 with g1
 rw[<- g1]at g2
 exact absurd g2.1 (by decide)
theorem ext_at{X:Cx}{pins:List (Addr×Obj)}{σ:St}{H:Hp}{s:Shared}{d d':Addr}{ep:Nat}{xs:List (κ×Addr×V)}(I:Inv X pins σ H s)(e:H d=some (extD hs d' ep xs)) :
  ∃(vs:List (κ×Addr×Value)) (o:Obj) (es:Array DictEntry),Paired (λx v=>x.1=v.1/\x.2.1=v.2.1/\RelV x.2.2 v.2.2) xs vs/\s.heap.get? d=some o/\o.ExactDict/\o.data=.dict es ep/\(es.toList=vs.map λx=>⟨hs x.1,.ref x.2.1,x.2.2⟩)/\es.size=xs.length/\(xs.map (·.1)).Nodup/\xs.length<=sizeLine/\(d==sysModules)=false:=by
 have ed:=ext_same (show ObjOk X.prog X.w H s.heap d (extD hs d' ep xs) from I.hok d _ e)
 subst ed
 obtain⟨⟨⟨vs,pr,o,es,e1,e2,e3,e4⟩,nd,hl,hm⟩,_⟩:=(show ObjOk X.prog X.w H s.heap d' (extD hs d' ep xs) from I.hok d' _ e)
 refine ⟨vs,o,es,pr,e1,e2,e3,e4,?_,nd,hl,hm⟩
 have:=congrArg Y3 e4
 rw[i0,<- pr.length]at this
 simpa using this
theorem turn_items{P:Program}{w:World}{K:u0}{ts:List Expr}{kk:Nat}{pos:Pos}(it d d':Addr)(ep:Nat)(xs:List (κ×Addr×V))(ne:d≠it):Turn P w K (.Tuple ts kk pos) (Iti hs d d' ep xs) [it] it
  (λi h=>∃ok ov,IsItemIter h it d i xs.length ep ok ov) where
 mem:=by simp
 obj:=λi h st b hb=>by
  obtain⟨ok,ov,he⟩:=st
  have hb:b=it:=by simpa using hb
  subst hb
  exact ⟨_,he,λv e=>by cases e⟩
 keep:=λi h h' st kp=>by
  obtain⟨ok,ov,he⟩:=st
  exact ⟨ok,ov,kp _ (by simp) _ he⟩
 item:=by
  intro X hP hw hK hc i pins s σ H E I hf st hg
  subst hP hw hK
  obtain⟨ok,ov,he⟩:=st
  obtain⟨hd,hi⟩:=hg
  obtain⟨vs,o,es,pr,e1,e2,e3,e4,hz,_⟩:=ext_at I hd
  obtain⟨⟨k,b,v⟩,hx⟩:∃x,xs[i]?=some x:=⟨_,O0 hi⟩
  obtain⟨⟨k',b',u⟩,hv,r1,r2,r3⟩:=prd_get pr hx
  have r2:b=b':=r2
  subst r2
  have r3:RelV v u:=r3
  have hi':i < es.size:=by rw[hz];exact hi
  have hent:es[i]=⟨hs k',.ref b,u⟩:=by
   have q:es.toList[i]?=some (⟨hs k',.ref b,u⟩:DictEntry):=by rw[e4,J1,hv];rfl
   have q2:es.toList[i]?=some es[i]:=by simp[hi']
   rw[q2]at q
   exact X1 q
  rw[<- hz]at he
  refine it_next he e1 e3 hi' λh' b1 b3 b4 b5=>?_
  rw[hent]at b1 b3
  have hTn:s.heap.objs.size≠it:=B2 (G0 he)
  refine ⟨_,rfl,wpAny_letOwnedTupleGo_items (s:={ s with heap:=h' }) b1 λh2 he2 hs2=>?_⟩
  have kp:∀c oc,c∉[it]->s.heap.get? c=some oc->h2.get? c=some oc:=λc oc hc' ec=>by
   have hc':c≠it:=by simpa using hc'
   exact hs2.extBut _ _ hc' (b5 c oc hc' ec)
  have hT2:h2.get? s.heap.objs.size=some { cls:=.type "tuple",data:=.seq #[.ref b,u] }:=hs2.extBut _ _ hTn b3
  have hfr:H s.heap.objs.size=none:=I.hok.fresh (R0 _)
  have I2:Inv X pins σ (upd H s.heap.objs.size (.tup [.ref b,v])) { s with heap:=h2 }:=by
   have nfp:∀c y,H c=some y->c∉[it]:=λc y ec hb=>by have:=(hf c hb).1;rw[ec]at this;cases this
   refine I.step (g':=s.gens) (d':=s.drawn) (ch:=[it]) (λc hb=>?_) (λc oc _ _ hc' ec _=>kp c oc hc' ec) (λc oc _ _ hc' ec _=>⟨oc.slots,kp c oc hc' ec⟩) (λc oc _ ec n=>?_)
    (λc oc hc' ec=>⟨oc,kp c oc hc' ec⟩) (λc zs ec=>?_) (λc oc zs ec=>?_) (λc zs ec=>⟨#[],?_⟩) (λm hm=>?_) (λc oc ec=>?_) I.bare
   ·obtain⟨f0,f1,f2,f3,f4,f5⟩:=hf c hb
    exact ⟨f3,f1,f4,f5⟩
   ·rw[upd_ne (E1 (G0 ec))];exact n
   ·rw[upd_ne (ne_of_none ec hfr)];exact ec
   ·rw[upd_ne (ne_of_none ec hfr)];exact ec
   ·rw[upd_ne (ne_of_none ec hfr),ec];simp
   ·obtain⟨om,es',ep',ho,r⟩:=hm
    exact ⟨om,es',ep',kp _ om (λhb=>(hf _ hb).2.1 rfl) ho,r⟩
   ·by_cases hb:c=s.heap.objs.size
    ·subst hb
     rw[upd_same]at ec
     cases ec
     exact ⟨by show 2<=sizeLine;decide,[.ref b,u],.cons rfl (.cons r3 .nil),_,hT2,rfl,_,rfl,rfl⟩
    ·rw[upd_ne hb]at ec
     refine (I.hok c oc ec).stay (λe y hc' q=>kp e y ?_ q) (λe q=>by rw[upd_ne (ne_of_none q hfr)];exact q) λe zs q=>by rw[upd_ne (ne_of_none q hfr)];exact q
     rcases hc' with rfl|hc'
     ·exact nfp _ _ ec
     ·exact nfp _ _ hc'
  refine ⟨.ref s.heap.objs.size,_,I2,rfl,⟨_,k,b,v,hfr,rfl,rfl,hx⟩,⟨_,_,by rw[<- hz];exact he2⟩,λc hb=>?_⟩
  have hb:c=it:=by simpa using hb
  subst hb
  rw[upd_ne (V2 hTn)]
  exact (hf c (by simp)).1
 done:=by
  intro X hP hw hK hc i pins s σ H E I hf st hg
  subst hP hw hK
  obtain⟨ok,ov,he⟩:=st
  obtain⟨hd,hi⟩:=hg
  obtain⟨vs,o,es,pr,e1,e2,e3,e4,hz,_⟩:=ext_at I hd
  rw[<- hz]at he
  refine it_end (I.ok.hd hc) he e1 e3 (by omega) λh' hx=>⟨rfl,?_⟩
  have nfp:∀c y,H c=some y->c∉[it]:=λc y ec hb=>by have:=(hf c hb).1;rw[ec]at this;cases this
  have kp:∀c oc,c∉[it]->s.heap.get? c=some oc->h'.get? c=some oc:=λc oc hc' ec=>hx c oc (by simpa using hc') ec
  refine I.step (g':=s.gens) (d':=s.drawn) (ch:=[it]) (λc hb=>?_) (λc oc _ _ hc' ec _=>kp c oc hc' ec) (λc oc _ _ hc' ec _=>⟨oc.slots,kp c oc hc' ec⟩) (λc oc _ ec n=>n)
   (λc oc hc' ec=>⟨oc,kp c oc hc' ec⟩) (λc zs ec=>ec) (λc oc zs ec=>ec) (λc zs ec=>⟨#[],by rw[ec];simp⟩) (λm hm=>?_) (λc oc ec=>?_) I.bare
  ·obtain⟨f0,f1,f2,f3,f4,f5⟩:=hf c hb
   exact ⟨f3,f1,f4,f5⟩
  ·obtain⟨om,es',ep',ho,r⟩:=hm
   exact ⟨om,es',ep',kp _ om (λhb=>(hf _ hb).2.1 rfl) ho,r⟩
  ·refine (I.hok c oc ec).stay (λe y hc' q=>kp e y ?_ q) (λ_ q=>q) λ_ _ q=>q
   rcases hc' with rfl|hc'
   ·exact nfp _ _ ec
   ·exact nfp _ _ hc'
 self:=λ_ _ s _ _ st h=>by
  obtain⟨ok,ov,he⟩:=st
  have ty:s.TypeIs (.ref it) "dict_itemiterator":=⟨_,he,rfl⟩
  refine wpAny_pyIter_slot ty PySem.F.slot_dict_itemiterator_iter (wpAny_call_entry PySem.F.slot_dict_itemiterator_iter ty entry_items_self ?_ (PySem.F.args_dict_itemiterator_iter_1 _))
  show wpAny _ _ (ret (.ref it)) _ _ s
  exact wpAny_pure ⟨_,rfl,"dict_itemiterator",_,ty,PySem.F.slot_dict_itemiterator_next.lookup,h⟩
noncomputable def iItems(hs:κ->Int)(to:TE):TI:=λσ H R=>to σ H λx H1=>∃(d d':Addr) (ep:Nat) (xs:List (κ×Addr×V)),x=.ref d/\H1 d=some (extD hs d' ep xs)/\R (Iti hs d d' ep xs) H1
theorem items_call{prog:Program}{w:World}{A:Around}{E:Value->Shared->Prop}{s:Shared}{d:Addr}{o:Obj}{Q:Value->Shared->Prop}(hm:(d==sysModules)=false)(e:s.heap.get? d=some o)(hx:o.ExactDict)
  (q:Q (.ref s.heap.objs.size) { s with heap:=s.heap.push { cls:=.type "dict_items",data:=.fields #[.ref d] } }):wpAny (model prog w) A (call (.builtin "dict.items") [.ref d]) Q E s:=by
 have ty:s.TypeIs (.ref d) "dict":=⟨o,e,hx.1⟩
 refine wpAny_call_entry PySem.F.slot_dict_items ty PySem.F.entry_dict_items ?_ (PySem.F.args_dict_items_1 _)
 unfold Builtin.«dict.items»
 refine wpAny_bind ?_
 unfold Builtin.Dict.noArgs
 refine wpAny_bind (wpAny_notOrdered_dict ty ?_)
 show wpAny _ _ (pure d) _ _ s
 refine wpAny_pure ?_
 show wpAny _ _ (u6 d >>= _) _ _ s
 unfold u6
 rw[if_neg (by rw[hm];decide)]
 exact wpAny_bind (wpAny_pure (wpAny_bind (wpAny_newObj_type (wpAny_pure ⟨_,rfl,q⟩))))
theorem pi_items{X:Cx}{ts:List Expr}{kk:Nat}{tpos:Pos}{o:Expr}{to:TE}{apos cpos:Pos}(ho:PE X o to)
  (hbase:attributeBase o "items" X.env (eval o X.env)=eval o X.env:=by rfl) (hline:(apos.endLine==cpos.line)=true:=by rfl):PI X (.Tuple ts kk tpos) (.Call (.Attribute o "items" apos) [] [] cpos) (iItems hs to):=by
 intro pins s σ H R I h
 refine wpAny_Call_method0_late hbase hline (thn (ho pins s σ H _ I h) λv s1 ⟨x,H1,I1,r1,d,d',ep,xs,ex,hd,q1⟩=>?_)
 subst ex
 cases r1
 obtain⟨vs,ob,es,pr,e1,e2,e3,e4,hz,_,_,hm⟩:=ext_at I1 hd
 refine ⟨"dict","dict.items",PySem.F.plainAttrs_dict,PySem.F.slot_dict_items,PySem.F.type_dict_items,⟨ob,e1,e2.1⟩,λa z=>?_,Calls.callWith_builtin rfl (PySem.evalArgs_none (items_call hm e1 e2 ?_))⟩
 ·cases z
  exact ⟨ob,e1,e2.2.1⟩
 have lt:d < s1.heap.objs.size:=G0 e1
 have g1:(s1.heap.push { cls:=.type "dict_items",data:=.fields #[.ref d] }).get? s1.heap.objs.size=some { cls:=.type "dict_items",data:=.fields #[.ref d] }:=K0 _ rfl
 have z1:(s1.heap.push { cls:=.type "dict_items",data:=.fields #[.ref d] }).objs.size=s1.heap.objs.size+1:=by simp[O1]
 refine it_view (s:={ s1 with heap:=s1.heap.push { cls:=.type "dict_items",data:=.fields #[.ref d] } }) ⟨_,g1,rfl,rfl⟩ (g0 _ e1) e3 ?_
 show PIE _ _ _ _ _ (.ref (s1.heap.push { cls:=.type "dict_items",data:=.fields #[.ref d] }).objs.size) _
 rw[z1,hz]
 have gE:((s1.heap.push { cls:=.type "dict_items",data:=.fields #[.ref d] }).push { cls:=.type "dict_itemiterator",data:=.fields #[.none,.bool false,.ref d,.int 0 0,.int xs.length 0,.int ep 0,.none,.none] }).get? (s1.heap.push { cls:=.type "dict_items",data:=.fields #[.ref d] }).objs.size=some { cls:=.type "dict_itemiterator",data:=.fields #[.none,.bool false,.ref d,.int 0 0,.int xs.length 0,.int ep 0,.none,.none] }:=K0 _ rfl
 rw[z1]at gE
 have kp:∀b oc,s1.heap.get? b=some oc->((s1.heap.push { cls:=.type "dict_items",data:=.fields #[.ref d] }).push { cls:=.type "dict_itemiterator",data:=.fields #[.none,.bool false,.ref d,.int 0 0,.int xs.length 0,.int ep 0,.none,.none] }).get? b=some oc:=λb oc e=>g0 _ (g0 _ e)
 refine ⟨_,[s1.heap.objs.size+1],_,_,H1,rfl,I1.kept (t':=s1.toks) kp,turn_items (hs:=hs) (s1.heap.objs.size+1) d d' ep xs (E1 (W6 lt)),⟨.none,.none,gE⟩,λb hb=>?_,q1⟩
 have hb:b=s1.heap.objs.size+1:=by simpa using hb
 subst hb
 exact I1.fpOk (Q7 _) (I1.hok.fresh (Q7 _))
end
noncomputable def rDP(K:u0):List V->Hp->VK->Prop:=λvs H1 Q=>∃(k1:Kd) (l1:Addr) (k2:Kd) (l2:Addr) (xs:List (List Int×Addr×V)),vs=[.ref l1,.ref l2]/\Sq k1 K H1 l1 (xs.map λx=>V.ref x.2.1)/\Sq k2 K H1 l2 (xs.map λx=>x.2.2) /\
 (∀x∈xs,H1 x.2.1=some (.tup (x.1.map V.int)))/\(xs.map (·.1)).Nodup/\∀l ep,H1 l=none->Q (.ref l) (upd H1 l (extD hL l ep xs))
noncomputable def tDP(K:u0)(ta:TA):TE:=λσ H Q=>ta σ H λvs H1=>rDP K vs H1 Q
theorem ints_are{P:Program}{w:World}:∀{ks:List Int}{us:List Value},Vals (ks.map V.int) us->ItemsAre (intKind P w) ks us
 | [],_,r=>by cases r;exact .nil
 | k :: ks,_,r=>by
  cases r with
  | cons h t =>
   obtain⟨tk,rfl⟩:=h
   exact .cons (by show v9 k (.int k tk)=true;simp[v9]) (ints_are t)
theorem prd_snoc{α β:Type}{R:α->β->Prop}{x:α}{y:β}:∀{l:List α}{m:List β},Paired R l m->R x y->Paired R (l++[x]) (m++[y])
 | _,_,.nil,r=>.cons r .nil
 | _,_,.cons r0 t,r=>.cons r0 (prd_snoc t r)
theorem prd_keys{κ:Type}:∀{xs:List (κ×Addr×V)}{vs:List (κ×Addr×Value)},Paired (λx v=>x.1=v.1/\x.2.1=v.2.1/\RelV x.2.2 v.2.2) xs vs->vs.map (·.1)=xs.map (·.1)
 | _,_,.nil=>rfl
 | _,_,.cons r t=>by simp only[Z2,prd_keys t,r.1]
theorem prd_len{α β:Type}{R:α->β->Prop}:∀{l:List α}{m:List β},Paired R l m->l.length=m.length
 | _,_,.nil=>rfl
 | _,_,.cons _ t=>by simp[prd_len t]
theorem prd_mem{α β:Type}{R:α->β->Prop}:∀{l:List α}{m:List β},Paired R l m->∀y∈m,∃x∈l,R x y
 | _,_,.nil,y,h=>by cases h
 | _,_,.cons r t,y,h=>by
  rcases Y0.mp h with z|z
  ·subst z;exact ⟨_,B0,r⟩
  ·obtain⟨x,hx,r'⟩:=prd_mem t y z
   exact ⟨x,A0 _ hx,r'⟩
theorem at_new{κ:Type}[DecidableEq κ]{vs:List (κ×Addr×Value)}{k:κ}(h:k∉vs.map (·.1)):atKey vs k=none:=atKey_none_of_get λj p e=>h (J0.mpr ⟨_,S2 e,rfl⟩)
theorem take_get{α:Type}{l:List α}{i:Nat}{x:α}(h:l[i]?=some x):l.take (i+1)=l.take i++[x]:=by
 have hi:=(W0.mp h).1
 have e:=(W0.mp h).2
 rw[List.take_add_one,h]
 rfl
theorem key_fresh{κ:Type}{xs:List (κ×Addr×V)}{i:Nat}{x:κ×Addr×V}(nd:(xs.map (·.1)).Nodup)(h:xs[i]?=some x):x.1∉(xs.take i).map (·.1):=λz=>by
 obtain⟨y,hy,e⟩:=J0.mp z
 obtain⟨j,hj⟩:=i5.mp hy
 rw[List.getElem?_take]at hj
 split at hj
 ·rename_i hlt
  have a1:(xs.map (·.1))[j]?=some x.1:=by rw[J1,hj,Q4,e]
  have a2:(xs.map (·.1))[i]?=some x.1:=by rw[J1,h];rfl
  have:=(List.getElem?_inj (W0.mp a1).1 nd).mp (a1.trans a2.symm)
  omega
 ·cases hj
theorem pe_DP{X:Cx}{a b:Expr}{ta:TA}{p pos p0 pos0:Pos}(hcm:X.calm=true)(hu:X.A.units+2 < cLine)(hg0:Gl X "dict")(hm0:X.mg "dict"=none)(hv0:bootBuiltins "dict"=some (.type "dict"))(hg:Gl X "zip")(hm:X.mg "zip"=none)(ha:PA X [a,b] ta)
  (hs:starEach [a,b] X.env=(false,eval a X.env) :: starEach [b] X.env) (hpl:(backTo pos (starEach [b] X.env)).any (·.1)=false)
  (hs0:starEach [.Call (.Name "zip" p) [a,b] [] pos] X.env=(false,eval (.Call (.Name "zip" p) [a,b] [] pos) X.env) :: starEach [] X.env) (hpl0:(backTo pos0 (starEach [] X.env)).any (·.1)=false) :
  PE X (.Call (.Name "dict" p0) [.Call (.Name "zip" p) [a,b] [] pos] [] pos0) (tDP X.K ta):=by
 intro pins s σ H Q I h
 refine wpAny_Call_Name_kw (ld_blt I hg0 hm0 hv0 ?_ (by decide) (by decide))
 refine K3 ?_ hs0 hpl0
 rw[hs0]
 show wpAny _ _ (spliced ((false,eval (.Call (.Name "zip" p) [a,b] [] pos) X.env) :: backTo pos0 (starEach [] X.env))) _ _ s
 refine Calls.spliced_cons ?_
 refine Call_ (ld_blt I hg hm boot_zip (K3 (thn (ha pos pins s σ H _ I h) λus s1 ⟨vs,H1,I1,r1,q1⟩=>?_) hs hpl))
 obtain⟨k1,l1,k2,l2,xs,e,q1,q2,hky,hnd,q⟩:=q1
 subst e
 obtain rfl:us=[.ref l1,.ref l2]:=by
  cases r1 with|cons r rr=>cases r;cases rr with|cons r rr=>cases r;cases rr;rfl
 obtain⟨its1,rv1,p1,z1⟩:=I1.sq q1
 obtain⟨its2,rv2,p2,z2⟩:=I1.sq q2
 have lt:∀{k:Kd}{l:Addr}{xs:Array Value},SqAt k s1.heap l xs->l < s1.heap.objs.size:=λ{k l xs} p=>by
  cases k with
  | l=>obtain⟨o,e,_⟩:=p;exact G0 e
  | t=>obtain⟨o,e,_⟩:=p;exact G0 e
 refine callType_new F.called_zip (by decide) (F.typeCall_zip_2 _ _) (F.newCall_zip_2 _ _) (λobj=>F.args_object_init_3 obj _ _) F.entry_zip_new (zip_new2 k1 k2 l1 l2 its1.toArray its2.toArray) ⟨p1,p2,?_⟩
 have zI:(zh2I s1.heap k1 k2 l1 l2).objs.size=s1.heap.objs.size+2:=by simp[O1]
 have zT:(zh2T s1.heap k1 k2 l1 l2).objs.size=s1.heap.objs.size+3:=by simp[O1]
 have zO:(zh2O s1.heap k1 k2 l1 l2).objs.size=s1.heap.objs.size+4:=by simp[O1]
 have zZ:(zh2Z s1.heap k1 k2 l1 l2).objs.size=s1.heap.objs.size+5:=by simp[O1]
 have gZ:(zh2Z s1.heap k1 k2 l1 l2).get? (zh2O s1.heap k1 k2 l1 l2).objs.size=some _:=K0 _ rfl
 have gO:(zh2Z s1.heap k1 k2 l1 l2).get? (zh2T s1.heap k1 k2 l1 l2).objs.size=some _:=g0 _ (K0 _ rfl)
 have gT:(zh2Z s1.heap k1 k2 l1 l2).get? (zh2I s1.heap k1 k2 l1 l2).objs.size=some _:=g0 _ (g0 _ (K0 _ rfl))
 have g1:(zh2Z s1.heap k1 k2 l1 l2).get? s1.heap.objs.size=some (itObj k1 l1):=g0 _ (g0 _ (g0 _ (g0 _ (K0 _ (by cases k1<;>rfl)))))
 have g2:(zh2Z s1.heap k1 k2 l1 l2).get? (s1.heap.push (itObj k1 l1)).objs.size=some (itObj k2 l2):=g0 _ (g0 _ (g0 _ (K0 _ (by cases k2<;>rfl))))
 have zz2:(s1.heap.push (itObj k1 l1)).objs.size=s1.heap.objs.size+1:=by simp[O1]
 rw[zO,zT,zI]at gZ
 rw[zI,zz2]at gT
 rw[zT]at gO
 rw[zz2]at g2
 show _/\_
 rw[zO]
 have kp:∀b o,s1.heap.get? b=some o->(zh2Z s1.heap k1 k2 l1 l2).get? b=some o:=λb o e=>g0 _ (g0 _ (g0 _ (g0 _ (g0 _ (e)))))
 refine ⟨⟨_,gZ,rfl⟩,Calls.spliced_nil ?_⟩
 have len1:=rv1.length
 have len2:=rv2.length
 have DD:=zap2 s1.heap.objs.size l1 l2 (lt p1) (lt p2)
 have hxl:its1.length=xs.length:=by rw[<- len1,i0]
 have hxl2:its2.length=xs.length:=by rw[<- len2,i0]
 have key:∀{x:List Int×Addr×V}{h':Heap},x∈xs->(∀b ob,s1.heap.get? b=some ob->h'.get? b=some ob)->(tupleKind (intKind X.prog X.w)).is h' x.1 x.2.1:=λ{x h'} hx kk=>by
  obtain⟨_,its,r,o,h1,h2,n,h3,_⟩:=(show ObjOk X.prog X.w H1 s1.heap x.2.1 (.tup (x.1.map V.int)) from I1.hok _ _ (hky x hx))
  exact ⟨o,its.toArray,n,kk _ _ h1,h2,h3,by simpa using ints_are r⟩
 have hb:(s1.heap.objs.size+5==sysModules)=false:=beq_eq_false_iff_ne.mpr (V2 (E1 (P0 I1.big (M4 _ _))))
 have hz5:xs.length<=sizeLine:=by omega
 refine call_dict_zip (s:={ s1 with heap:=zh2Z s1.heap k1 k2 l1 l2 }) (xs1:=its1.toArray) (xs2:=its2.toArray) (n:=xs.length) (λi h=>(∀b ob,s1.heap.get? b=some ob->h.get? b=some ob)/\∃vs:List (List Int×Addr×Value),Paired (λx v=>x.1=v.1/\x.2.1=v.2.1/\RelV x.2.2 v.2.2) (xs.take i) vs/\∃o es ep,h.get? (s1.heap.objs.size+5)=some o/\o.ExactDict/\o.data=.dict es ep/\es.toList=vs.map λx=>⟨hL x.1,.ref x.2.1,x.2.2⟩)
  (I1.ok.hd hcm) DD (by simp only[T0];omega) (by simp only[T0];omega) (.inl (by simp;omega)) gZ gT gO (ItAt.new k1 g1) (ItAt.new k2 g2)
  (p1.at λo e=>kp _ _ e) (p2.at λo e=>kp _ _ e) (by show l1 < (zh2Z s1.heap k1 k2 l1 l2).objs.size;rw[zZ];exact P0 (lt p1) (M4 _ _)) (by show l2 < (zh2Z s1.heap k1 k2 l1 l2).objs.size;rw[zZ];exact P0 (lt p2) (M4 _ _)) ?_ ?_ ?_ ?_
 ·intro h' kk e
  dsimp only at e
  rw[zZ]at e
  exact ⟨λb o x=>kk b o (kp b o x),[],.nil,_,#[],0,e,⟨rfl,rfl,rfl⟩,rfl,rfl⟩
 ·rintro i h1 h2 ⟨kk,vs,rel,o',es,ep,ho,rest⟩ k3
  have far:∀{b:Addr},b < s1.heap.objs.size->b≠s1.heap.objs.size+4/\b≠s1.heap.objs.size+3/\b≠s1.heap.objs.size/\b≠s1.heap.objs.size+1:=λ{b} z=>⟨ne_add 4 z,ne_add 3 z,ne_add 0 z,ne_add 1 z⟩
  refine ⟨λb o x=>?_,vs,rel,o',es,ep,?_,rest⟩
  ·obtain⟨f1,f2,f3,f4⟩:=far (G0 x)
   exact k3 b o f1 f2 f3 f4 (kk b o x)
  ·refine k3 _ _ ?_ ?_ ?_ ?_ ho<;>(show ¬(@Eq Nat _ _))<;>omega
 ·rintro i x y s' Q' E' hi hx hy ⟨kk,vs,rel,o',es,ep,ho,a1,a2,a3⟩ hq'
  dsimp only at hq' ⊢
  rw[zZ]at hq' ⊢
  obtain⟨y1,ey1,ry1⟩:=rv1.getV (by simpa using hx)
  obtain⟨y2,ey2,ry2⟩:=rv2.getV (by simpa using hy)
  obtain⟨⟨k,b,v⟩,hxi⟩:∃x,xs[i]?=some x:=⟨_,O0 hi⟩
  rw[J1,hxi]at ey1 ey2
  cases ey1
  cases ey2
  cases ry1
  have hxm:(k,b,v)∈xs:=S2 hxi
  have hvl:=prd_len rel
  rw[T4]at hvl
  have hz2:vs.length<=sizeLine:=by omega
  have hfr:=key_fresh hnd hxi
  rw[<- prd_keys rel]at hfr
  have hvn:(vs.map (·.1)).Nodup:=by rw[prd_keys rel,List.map_take];exact hnd.sublist (T7 _ _)
  refine wpAny_dictSet_heap (hsz:=hz2) (knd:=tupleKind (intKind X.prog X.w)) hu (key hxm kk) ⟨o',es,ep,ho,a1,a2,a3,λu hu'=>?_,hvn⟩ λh' dd' sb=>hq' h' _ ⟨λc o e=>?_,vs++[(k,b,y)],?_,?_⟩ sb
  ·obtain⟨x',hx',r1,r2,_⟩:=prd_mem rel u hu'
   have:=key (Q8 hx') kk
   rw[r1,r2]at this
   exact this
  ·have hc:c < s1.heap.objs.size:=G0 e
   exact (sb.2 c (ne_add 5 hc)).trans (kk c o e)
  ·rw[take_get hxi]
   exact prd_snoc rel ⟨rfl,rfl,ry2⟩
  ·obtain⟨q,es,ep,hq,h2,h3,h4,_,h5⟩:=dd'
   rw[storedH_new (at_new hfr)]at h4
   exact ⟨q,es,ep,hq,h2,h3,h4⟩
 ·rintro h' tk ⟨kk,vs,rel,o',es,ep,f1,f2,f3,f4⟩
  rw[e6 (R0 _)]at rel
  have hfr:H1 (s1.heap.objs.size+5)=none:=I1.hok.fresh (M4 _ _)
  dsimp only
  rw[zZ]
  refine ⟨.ref (s1.heap.objs.size+5),_,I1.laid (t':=tk) kk (M4 _ _) (show ObjOk X.prog X.w _ h' _ (extD hL (s1.heap.objs.size+5) ep xs) from ⟨⟨⟨vs,rel,o',es,f1,f2,f3,f4⟩,hnd,hz5,hb⟩,⟨o',f1⟩,λh1 h2 z k=>?_⟩),rfl,q _ ep hfr⟩
  obtain⟨⟨vs,r,o,es,g1,g2⟩,g3⟩:=z
  exact ⟨⟨vs,r,o,es,k _ g1,g2⟩,g3⟩
section
variable {X:Cx}{pins:List (Addr×Obj)}{σ:St}{H:Hp}{s:Shared}
end
end L2
namespace L3
open PySem PySem.Spec PyProof.Rows L2
noncomputable abbrev tI(k:List Int):D:=.tuple (k.map j0)
noncomputable abbrev b2(k:List Int×List Int):D:=.tuple [tI k.1,tI k.2]
section
variable {K:Fg}{F H:Hp}
theorem ints_da:∀{ks:List Int}{xs:List V},DaAll K F xs (ks.map j0)->xs=ks.map V.int
 | [],_,h=>by cases h;rfl
 | k :: ks,_,h=>by
  cases h with
  | cons h t =>
   rw[ints_da t]
   cases h
   rfl
theorem da_tI{v:V}{k:List Int}(h:Da K F v (tI k)):∃b,v=.ref b/\F b=some (.tup (k.map V.int)):=by
 cases h with
 | tup e t =>
  have:=ints_da t
  subst this
  exact ⟨_,rfl,e⟩
theorem da_mark{v:V}{d0:D}(h:Da K F v (.dict [(.bool false,d0)])):(∃a,v=.ref a/\d0=.none/\F a=some (opqO a))\/(∃a a' ep xs ps,v=.ref a/\F a=some (extD hL a' ep xs)/\DaPd K F xs ps/\d0=.list (ps.map λp=>.tuple [tI p.1,p.2])) \/
  ∃a ep xs ps,v=.ref a/\F a=some (extD hB a ep xs)/\DaBd K F xs ps/\d0=.tuple (ps.map λp=>.tuple [b2 p.1,p.2]):=by
 generalize e0:(PyData.dict [(.bool false,d0)])=d at h
 cases h with
 | opq q=>cases e0;exact .inl ⟨_,rfl,rfl,q⟩
 | pd q t=>injection e0 with e0;injection e0 with e0 _;injection e0 with _ e0;exact .inr (.inl ⟨_,_,_,_,_,rfl,q,t,e0⟩)
 | bd q t=>injection e0 with e0;injection e0 with e0 _;injection e0 with _ e0;exact .inr (.inr ⟨_,_,_,_,rfl,q,t,e0⟩)
 | dk q t =>
  injection e0 with e0
  subst e0
  generalize e9:([(J5 false,d0)]:List (D×D))=es at t
  cases t with
  | nil=>cases e9
  | @cons k _ _ _ _ _ _=>cases k<;>cases e9
 | dt q t =>
  injection e0 with e0
  subst e0
  generalize e9:([(J5 false,d0)]:List (D×D))=es at t
  cases t with
  | nil=>cases e9
  | cons _ _=>cases e9
 | _=>cases e0
theorem DaPd.get:∀{xs:List (List Int×Addr×V)}{ps:List (List Int×D)},DaPd K F xs ps->∀{i:Nat}{x:List Int×Addr×V},xs[i]?=some x->∃d,ps[i]?=some (x.1,d)/\F x.2.1=some (.tup (x.1.map V.int))/\Da K F x.2.2 d
 | _,_,.nil,i,x,h=>by simp at h
 | _,_,.cons e h t,0,x,z=>by
  simp only[n8,Option.some.injEq]at z
  subst z
  exact ⟨_,rfl,e,h⟩
 | _,_,.cons e h t,i+1,x,z=>by
  simp only[O3]at z
  exact DaPd.get t z
theorem DaPd.length:∀{xs:List (List Int×Addr×V)}{ps:List (List Int×D)},DaPd K F xs ps->xs.length=ps.length
 | _,_,.nil=>rfl
 | _,_,.cons _ _ t=>by simp[DaPd.length t]
theorem Rel.newE{G:Gh}{σ:L2.St}{ρ:Ev}{a:Addr}{o:HO}(R:Rel K G F σ H ρ)(h:H a=none):Sub F (upd F a o)/\Rel K G (upd F a o) σ (upd H a o) ρ:=by
 have R1:Rel K G F σ (upd H a o) ρ:=R.laid h
 refine R1.grow (a:=a) (o:=o) (R.h0 h) upd_same λi s e w z=>?_
 obtain⟨a',o',h1,h2,h3,h4⟩:=R.ow i s e w
 rw[z]at h1
 cases h1
 rw[h]at h3
 cases h3
end
noncomputable def fDP:D->D->(Sl->Prop)->Prop:=λd e Q=>∃ps:List (List Int×D),sqD d=some (ps.map λp=>tI p.1)/\sqD e=some (ps.map (·.2))/\(ps.map (·.1)).Nodup/\Q (.fz (pdD ps))
theorem zip_xs{K:Fg}{F:Hp}:∀{ps:List (List Int×D)}{ys1 ys2:List V},DaAll K F ys1 (ps.map λp=>tI p.1)->DaAll K F ys2 (ps.map (·.2)) ->
  ∃xs:List (List Int×Addr×V),xs.map (·.1)=ps.map (·.1)/\ys1=xs.map (λx=>V.ref x.2.1)/\ys2=xs.map (λx=>x.2.2)/\(∀x∈xs,F x.2.1=some (.tup (x.1.map V.int)))/\DaPd K F xs ps
 | [],_,_,h1,h2=>by
  cases h1;cases h2
  exact ⟨[],rfl,rfl,rfl,λx hx=>(by cases hx),.nil⟩
 | p :: ps,_,_,h1,h2=>by
  cases h1 with
  | @cons v _ _ _ h1 t1 =>
   cases h2 with
   | @cons u _ _ _ h2 t2 =>
    obtain⟨xs,e1,e2,e3,e4,e5⟩:=zip_xs t1 t2
    obtain⟨b,rfl,eb⟩:=da_tI h1
    refine ⟨(p.1,b,u) :: xs,by simp[e1],by simp[e2],by simp[e3],λx hx=>?_,.cons eb h2 e5⟩
    rcases Y0.mp hx with z|z
    ·subst z;exact eb
    ·exact e4 x z
theorem ok_DP{K:Fg}:OpOk K (rDP K) (o2 fDP):=by
 intro G F σ H ρ vs ds Q Qd R ha w k
 rcases ds with _|⟨d,_|⟨e,_|⟨e3,ds⟩⟩⟩<;>first|exact w.elim|skip
 ·obtain⟨v1,v2,rfl,h1,h2⟩:=ha.two
  obtain⟨ps,e1,e2,nd,w⟩:=w
  obtain⟨k1,l1,ys1,rfl,q1,d1⟩:=h1.seq R.sub e1
  obtain⟨k2,l2,ys2,rfl,q2,d2⟩:=h2.seq R.sub e2
  obtain⟨xs,g1,g2,g3,g4,g5⟩:=zip_xs d1 d2
  rw[g2]at q1
  rw[g3]at q2
  refine ⟨k1,l1,k2,l2,xs,rfl,q1,q2,λx hx=>R.sub _ _ (g4 x hx),by rw[g1];exact nd,λl ep hl=>?_⟩
  obtain⟨sb,R'⟩:=R.newE (o:=extD hL l ep xs) hl
  exact k _ _ _ (.fz (pdD ps)) sb R' (Da.pd upd_same (g5.mono sb)) w
noncomputable def fDictBd:D->(Sl->Prop)->Prop
 | .list ds,Q=>∃ps:List ((List Int×List Int)×D),(ds=ps.map λp=>.tuple [b2 p.1,p.2])/\(ps.map (·.1)).Nodup/\Q (.fz (bdD ps))
 | _,_=>False
noncomputable def dIItems(a:AD):TDI:=λρ Q=>dArgs [a] ρ λxs ρ1=>match lentAny ρ1 xs with
 | true=>False
 | false=>looksQ ρ1 xs λds=>match ds with
  | [.dict [(.bool false,.list L)]]=>Q L ρ1
  | _=>False
theorem walks_items{K:Fg}{F:Hp}{a a':Addr}{ep:Nat}{xs:List (List Int×Addr×V)}{ps:List (List Int×D)}(e1:F a=some (extD hL a' ep xs))(h1:DaPd K F xs ps):Walks K (Iti hL a a' ep xs) F (ps.map λp=>.tuple [tI p.1,p.2]):=λi H F1 s1 s2=>by
 have hl:=h1.length
 refine ⟨λd ed=>?_,λhz=>⟨s2 _ _ (s1 _ _ e1),by rw[i0]at hz;omega⟩⟩
 have hi:i < xs.length:=by
  have:=(W0.mp ed).1
  rw[i0]at this
  omega
 refine ⟨⟨s2 _ _ (s1 _ _ e1),hi⟩,λz H' ⟨T,k,b,v,hT,ex,eH,hx⟩=>?_⟩
 subst ex eH
 obtain⟨d',g1,g2,g3⟩:=h1.get hx
 rw[J1,g1]at ed
 cases ed
 have fT:F1 T=none:=by
  cases z:F1 T with
  | none=>rfl
  | some o=>rw[s2 _ _ z]at hT;cases hT
 have sF:Sub F1 (upd F1 T (.tup [.ref b,v])):=Sub.new fT
 refine ⟨upd F1 T (.tup [.ref b,v]),sF,λc o ec=>?_,λc o ec=>?_,Sub.new hT,.tup upd_same (.cons (.tup (sF _ _ (s1 _ _ g2)) (DaAll.ints _)) (.cons (g3.mono (s1.trans sF)) .nil))⟩
 ·by_cases z:c=T
  ·subst z;exact .inr hT
  ·rw[upd_ne z]at ec;exact .inl ec
 ·by_cases z:c=T
  ·subst z;rw[upd_same]at ec ⊢;exact ec
  ·rw[upd_ne z]at ec ⊢;exact s2 _ _ ec
theorem l_items{K:Fg}{a:AD}{σ:L2.St}{H:Hp}{R:It->Hp->Prop}(h:liftI K (dIItems a) σ H R):iItems hL (argT K a) σ H R:=by
 obtain⟨G,F,ρ,Qd,Rl,w,k⟩:=h
 refine arg1 (P:=λx H1=>∃(d d':Addr) (ep:Nat) (xs:List (List Int×Addr×V)),x=.ref d/\H1 d=some (extD hL d' ep xs)/\R (Iti hL d d' ep xs) H1) (args_ok Rl w λvs H' F' xs ρ' sb R' o w1=>?_)
 split at w1
 ·exact w1.elim
 rename_i m
 obtain⟨ds,da,w1⟩:=noLent_looks R' m o w1
 split at w1
 ·rename_i L
  cases da with
  | cons d1 t =>
   cases t
   rcases da_mark d1 with⟨a,_,z,_⟩|⟨a,a',ep,ys,qs,rfl,e1,g1,z⟩|⟨a,ep,ys,qs,_,_,_,z⟩
   ·cases z
   ·injection z with z
    subst z
    exact ⟨_,rfl,a,a',ep,ys,rfl,R'.sub _ _ e1,k _ H' F' _ ρ' sb R' (walks_items e1 g1) w1⟩
   ·cases z
 ·exact w1.elim
section
variable {X:Cx}{K:Fg}{e e1 e2:Expr}{a b:AD}{p pos pos' p2 tpos apos cpos:Pos}
theorem w_DP(hK:X.K=K)(hc:X.calm=true)(hu:X.A.units+2 < cLine)(hm:X.mg "dict"=none)(hv:bootBuiltins "dict"=some (.type "dict"))(hm2:X.mg "zip"=none)(ha:WA X [e1,e2] (tArgs ([a,b].map (argT K))))(hg:Gl X "dict":=by rfl)(hg2:Gl X "zip":=by rfl)(he:notStar e1=true:=by rfl)(he2:notStar e2=true:=by rfl) :
  WE X (.Call (.Name "dict" p) [.Call (.Name "zip" p2) [e1,e2] [] pos'] [] pos) (lift K (dOp [a,b] (o2 fDP))):=by
 subst hK
 exact ⟨peM (pe_DP hc hu hg hm hv hg2 hm2 ha.h (starEach_of he) (plain_of (by simp[he2])) (starEach_of rfl) (plain_of rfl)) λq=>l_op ok_DP q⟩
theorem i_items{ts:List Expr}{kk:Nat}(ha:WE X e1 (argT K a))(hbase:attributeBase e1 "items" X.env (eval e1 X.env)=eval e1 X.env:=by rfl)(hline:(apos.endLine==cpos.line)=true:=by rfl):WI X (.Tuple ts kk tpos) (.Call (.Attribute e1 "items" apos) [] [] cpos) (liftI K (dIItems a)) :=
 ⟨piM (pi_items ha.h hbase hline) l_items⟩
end
end L3
namespace L2
open PySem PySem.Spec PyProof.Rows PySem.W
theorem lexG_B(x y:Bxx)(f:Bool)(hf:f=false):lexG (λj=>if j=0 then decide (x.1=y.1) else decide (x.2=y.2)) (λj=>if j=0 then HT.lexLt x.1 y.1 else HT.lexLt x.2 y.2) f 0 2=ltB x y:=by
 unfold ltB
 subst hf
 by_cases z1:x.1=y.1
 ·by_cases z2:x.2=y.2
  ·simp[lexG,z1,z2,SG.lex_wk.irr]
  ·simp[lexG,z1,z2]
 ·simp[lexG,z1]
theorem lt_bxG{X:Cx}{prog:Program}{w:World}{pins:List (Addr×Obj)}{σ:St}{H:Hp}{s s':Shared}{A:Around}{c d a1 b1 a2 b2:Addr}{r:List V}{x y:Bxx}{Q E:Value->Shared->Prop}(I:Inv X pins σ H s)(k:∀b o,s.heap.get? b=some o->s'.heap.get? b=some o)(hu:A.units+1 < cLine)
  (hc:H c=some (.tup (.ref a1 :: .ref b1 :: r))) (ha1:H a1=some (.tup (x.1.map V.int))) (hb1:H b1=some (.tup (x.2.map V.int))) (hd:H d=some (.tup [.ref a2,.ref b2])) (ha2:H a2=some (.tup (y.1.map V.int))) (hb2:H b2=some (.tup (y.2.map V.int))) (h:Q (.bool (ltB x y)) s') :
  wpAny (model prog w) A (richCompare .Lt (.ref c) (.ref d)) Q E s':=by
 have I':Inv X pins σ H { s with heap:=s'.heap }:=I.kept (t':=s.toks) k
 obtain⟨_,ic,rc,⟨oc1,oc2,oc3,oc4⟩,c1,c2,m1,c3,_⟩:=(show ObjOk X.prog X.w H s.heap c (.tup (.ref a1 :: .ref b1 :: r)) from I.hok c _ hc)
 obtain⟨_,id',rd,⟨od1,od2,od3,od4⟩,d1,d2,m2,d3,_⟩:=(show ObjOk X.prog X.w H s.heap d (.tup [.ref a2,.ref b2]) from I.hok d _ hd)
 obtain⟨w1,w2,rfl,r3,r4⟩:=vals2 rd
 cases rc with
 | cons r1 rc =>
  cases rc with
  | cons r2 rc =>
   rename_i us
   cases r1
   cases r2
   cases r3
   cases r4
   simp only at c2 c3 d2 d3
   subst c2 c3 d2 d3
   have hu0:A.in1.units < cLine:=by show A.units+1 < cLine;exact hu
   have lt1:∀{prog:Program}{w:World}{a b:Addr}{x y:List Int}{Q E:Value->Shared->Prop},H a=some (.tup (x.map V.int))->H b=some (.tup (y.map V.int))->Q (.bool (HT.lexLt x y)) s'->wpAny (model prog w) A.in1 (richCompare .Lt (.ref a) (.ref b)) Q E s':=λ{prog w a b x y Q E} ha hb hq=>by
    obtain⟨_,ia,ra,ta⟩:=(show ObjOk X.prog X.w H s'.heap a (.tup (x.map V.int)) from I'.hok a _ ha)
    obtain⟨_,ib,rb,tb⟩:=(show ObjOk X.prog X.w H s'.heap b (.tup (y.map V.int)) from I'.hok b _ hb)
    exact HT.lt_tupInts (prog:=prog) (w:=w) ta.t tb.t (intsAre_of ra) (intsAre_of rb) hu0 hq
   refine richCompare_meets_room (op:=.Lt) ⟨_,k _ _ c1,rfl⟩ ⟨_,k _ _ d1,rfl⟩ PySem.F.slot_tuple_lt PySem.F.entry_tuple_lt (PySem.F.args_tuple_lt_2 _ _)
    (tuple_lt_gen c d _ _ m1 m2 oc2 od2 oc4 od4 (λj=>if j=0 then decide (x.1=y.1) else decide (x.2=y.2)) (λj=>if j=0 then HT.lexLt x.1 y.1 else HT.lexLt x.2 y.2)) ⟨k _ _ c1,k _ _ d1,λj u v hx hy=>?_,λj u v hx hy he prog w E Q hq=>?_,?_⟩ (v6 hu)
   ·rcases j with _|_|j
    ·cases hx;cases hy
     rw[if_pos rfl]
     exact eqTupB I hu0 ha1 ha2 k
    ·cases hx;cases hy
     rw[if_neg (by decide)]
     exact eqTupB I hu0 hb1 hb2 k
    ·simp at hy
   ·rcases j with _|_|j
    ·cases hx;cases hy
     exact lt1 ha1 ha2 hq
    ·cases hx;cases hy
     exact lt1 hb1 hb2 hq
    ·simp at hy
   ·have es:min (Z1 a1 :: Z1 b1 :: us).toArray.size [Z1 a2,Z1 b2].toArray.size=2:=by
     simp only[T0,V1,B5]
     omega
    rw[es]
    have hf:decide ((Z1 a1 :: Z1 b1 :: us).toArray.size < [Z1 a2,Z1 b2].toArray.size)=false:=by
     refine decide_eq_false ?_
     simp only[T0,V1,B5]
     omega
    rw[lexG_B x y _ hf]
    exact ⟨(λz=>by cases z),h⟩
theorem lt_enG{X:Cx}{prog:Program}{w:World}{pins:List (Addr×Obj)}{σ:St}{H:Hp}{s:Shared}{A:Around}{c d a1 a2:Addr}{t:V}{x y:Bxx}{Q E:Value->Shared->Prop}(I:Inv X pins σ H s)(hu:A.units+2 < cLine)
  (hc:H c=some (.tup [.ref a1,t])) (h1:RepB H a1 x) (hd:H d=some (.tup [.ref a2])) (h2:RepB H a2 y) (h:Q (.bool (ltB x y)) s) :
  wpAny (model prog w) A (richCompare .Lt (.ref c) (.ref d)) Q E s:=by
 obtain⟨_,ic,rc,⟨oc1,oc2,oc3,oc4⟩,c1,c2,m1,c3,_⟩:=(show ObjOk X.prog X.w H s.heap c (.tup [.ref a1,t]) from I.hok c _ hc)
 obtain⟨_,id',rd,⟨od1,od2,od3,od4⟩,d1,d2,m2,d3,_⟩:=(show ObjOk X.prog X.w H s.heap d (.tup [.ref a2]) from I.hok d _ hd)
 obtain⟨u1,u2,rfl,r1,r2⟩:=vals2 rc
 cases rd with
 | cons r3 rd =>
  cases rd
  cases r1
  cases r3
  simp only at c2 c3 d2 d3
  subst c2 c3 d2 d3
  have hu0:A.in1.units+1 < cLine:=by show A.units+1+1 < cLine;exact hu
  refine richCompare_meets_room (op:=.Lt) ⟨_,c1,rfl⟩ ⟨_,d1,rfl⟩ PySem.F.slot_tuple_lt PySem.F.entry_tuple_lt (PySem.F.args_tuple_lt_2 _ _)
   (tuple_lt_gen c d _ _ m1 m2 oc2 od2 oc4 od4 (λ_=>decide (x=y)) (λ_=>ltB x y)) ⟨c1,d1,λj u v hx hy=>?_,λj u v hx hy he prog w E Q hq=>?_,?_⟩ (v6 (v6 hu))
  ·rcases j with _|j
   ·cases hx;cases hy
    exact eqBoxB I hu0 h1 h2
   ·simp at hy
  ·rcases j with _|j
   ·cases hx;cases hy
    obtain⟨p1,q1,g1,g2,g3⟩:=h1
    obtain⟨p2,q2,f1,f2,f3⟩:=h2
    exact lt_bxG I (λb o e=>e) hu0 g1 g2 g3 f1 f2 f3 hq
   ·simp at hy
  ·have e:lexG (λ_=>decide (x=y)) (λ_=>ltB x y) (decide ((2:Nat) < 1)) 0 1=ltB x y:=by
    by_cases z:x=y
    ·subst z
     simp[lexG,ltB_wk.irr]
    ·simp[lexG,z]
   show V8 (lexG _ _ (decide ((2:Nat) < 1)) 0 1)≠P8/\Q (.bool (lexG _ _ (decide ((2:Nat) < 1)) 0 1)) s
   rw[e]
   exact ⟨(λz=>by cases z),h⟩
noncomputable def rLtB:R2:=λp q H Q=>∃(c d:Addr) (x y:Bxx),p=.ref c/\q=.ref d/\((∃(a1 b1 a2 b2:Addr) (r:List V),H c=some (.tup (.ref a1 :: .ref b1 :: r))/\H a1=some (.tup (x.1.map V.int))/\H b1=some (.tup (x.2.map V.int))/\H d=some (.tup [.ref a2,.ref b2])/\H a2=some (.tup (y.1.map V.int))/\H b2=some (.tup (y.2.map V.int))) \/
  (∃(a1 a2:Addr) (t:V),H c=some (.tup [.ref a1,t])/\RepB H a1 x/\H d=some (.tup [.ref a2])/\RepB H a2 y))/\Q (.bl (ltB x y)) H
theorem op_ltB{X:Cx}(hu:X.A.units+2 < cLine):OpR X (compareOp .Lt) rLtB:=by
 intro pins s σ H p q v u Q I rx ry h
 obtain⟨c,d,x,y,rfl,rfl,h,hq⟩:=h
 cases rx
 cases ry
 rcases h with⟨a1,b1,a2,b2,r,g1,g2,g3,g4,g5,g6⟩|⟨a1,a2,t,g1,g2,g3,g4⟩
 ·exact lt_bxG I (λb o e=>e) (v6 hu) g1 g2 g3 g4 g5 g6 ⟨.bl (ltB x y),H,I,rfl,hq⟩
 ·exact lt_enG I hu g1 g2 g3 g4 ⟨.bl (ltB x y),H,I,rfl,hq⟩
end L2
namespace L3
open PySem PySem.Spec PyProof.Rows L2
noncomputable def fLtB:D->D->(Sl->Prop)->Prop:=λd e Q=>∃x y:Bxx,((∃r,d=.tuple (.tuple (x.1.map j0) :: .tuple (x.2.map j0) :: r)/\e=boxD y)\/(∃t,d=.tuple [boxD x,t]/\e=.tuple [boxD y]))/\Q (.fz (.bool (ltB x y)))
theorem ok_ltB{K:Fg}:OpOk K (r2L rLtB) (o2 fLtB):=ok2 λG F σ H ρ p q d e Q Qd R h1 h2 w k=>by
 obtain⟨x,y,w,hq⟩:=w
 have fin:Q (.bl (ltB x y)) H:=k _ H F (.fz _) (Sub.refl _) R (Da.bl _) hq
 have up:∀{c:Addr}{r:Bxx},RepB F c r->RepB H c r:=λ{c r} ⟨a,b,h1,h2,h3⟩=>⟨a,b,R.sub _ _ h1,R.sub _ _ h2,R.sub _ _ h3⟩
 rcases w with⟨r,rfl,rfl⟩|⟨t,rfl,rfl⟩
 ·obtain⟨c,us,rfl,_,e1,d1⟩:=h1.tuple R.sub
  obtain⟨d,vs,rfl,_,e2,d2⟩:=h2.tuple R.sub
  cases d1 with
  | cons p1 d1 =>
   cases d1 with
   | cons p2 d1 =>
    cases d2 with
    | cons p3 d2 =>
     cases d2 with
     | cons p4 d2 =>
      cases d2
      obtain⟨a1,rfl,ha1⟩:=da_tup p1
      obtain⟨b1,rfl,hb1⟩:=da_tup p2
      obtain⟨a2,rfl,ha2⟩:=da_tup p3
      obtain⟨b2,rfl,hb2⟩:=da_tup p4
      exact ⟨c,d,x,y,rfl,rfl,.inl ⟨a1,b1,a2,b2,_,e1,R.sub _ _ ha1,R.sub _ _ hb1,e2,R.sub _ _ ha2,R.sub _ _ hb2⟩,fin⟩
 ·obtain⟨c,us,rfl,_,e1,d1⟩:=h1.tuple R.sub
  obtain⟨d,vs,rfl,_,e2,d2⟩:=h2.tuple R.sub
  cases d1 with
  | cons p1 d1 =>
   cases d1 with
   | cons p2 d1 =>
    cases d1
    cases d2 with
    | cons p3 d2 =>
     cases d2
     obtain⟨a1,rfl,ha1⟩:=da_box p1
     obtain⟨a2,rfl,ha2⟩:=da_box p3
     exact ⟨c,d,x,y,rfl,rfl,.inr ⟨a1,a2,_,e1,up ha1,e2,up ha2⟩,fin⟩
end L3
namespace L2
open PySem PySem.Spec PyProof.Rows
section
variable {prog:Program}{w:World}{A:Around}{E:Value->Shared->Prop}{s:Shared}
theorem own_keys:E7 "dict_keyiterator"=false:=by decide
theorem ky_next{it d:Addr}{i ep:Nat}{es:Array DictEntry}{od:Obj}{Q:Option Value->Shared->Prop}(x:s.heap.IsKeyIter it d i es.size ep)(y:s.heap.get? d=some od)(yd:od.data=.dict es ep)(hi:i < es.size)
  (q:∀h',h'.IsKeyIter it d (i+1) es.size ep->K2 it s.heap h'->Q (some es[i].key) { s with heap:=h' }):wpAny (model prog w) A (pyNext (.ref it)) Q E s:=by
 obtain⟨o,e1,e2,e3⟩:=id x
 have ty:=x.typeIs
 unfold pyNext
 refine wpAny_bind (wpAny_attempt (wpAny_callSpecial?_slot (name:=Str.ofString "__next__") ty F.slot_dict_keyiterator_next (wpAny_call_entry F.slot_dict_keyiterator_next ty F.entry_dict_keyiterator_next ?_ (F.args_dict_keyiterator_next_1 _))))
 refine wpAny_bind (wpAny_pure (wpAny_bind (wpAny_bind ?_)))
 first|refine wpAny_bind (wpAny_typeNameOfWhole_keyiter ty (wpAny_pure ?_))|refine wpAny_bind (wpAny_typeNameOf_keyiter ty (wpAny_pure ?_))
 refine wpAny_bind (wpAny_fieldsOf e1 e3 ?_)
 simp only[own_keys,J2,if_false]
 show wpAny _ _ (if (Z1 d==L4)=true then _ else _) _ _ _
 rw[if_neg (no_none d)]
 refine wpAny_bind (wpAny_pure (wpAny_bind (wpAny_dictEntries y yd ?_)))
 rw[if_neg (by simp)]
 refine wpAny_bind (wpAny_pure (wpAny_bind (wpAny_dictEpoch y yd ?_)))
 rw[if_neg (by simp)]
 refine wpAny_pure ?_
 simp only[show ¬((i:Int) < 0) from by omega,if_false,O5,u5 hi]
 refine wpAny_bind ?_
 first|refine wpAny_bind (wpAny_typeNameOfWhole_keyiter ty (wpAny_pure ?_))|refine wpAny_bind (wpAny_typeNameOf_keyiter ty (wpAny_pure ?_))
 refine wpAny_bind (wpAny_isOneOf_keyiter ty ?_)
 show wpAny _ _ (setField (.ref it) 1 (rawInt ((i:Int)+1)) >>= _) _ _ s
 refine wpAny_bind (wpAny_setField e1 e3 (by simp) ?_)
 obtain⟨h1,z1⟩:∃h1,h1=s.heap.update it (Obj.mapFields (·.setIfInBounds 1 (rawInt ((i:Int)+1)))):=⟨_,rfl⟩
 have x1:h1.IsKeyIter it d (i+1) es.size ep:=by
  rw[z1]
  exact ⟨_,E4 _ e1 (F8 (M6 e3 _)),(Obj.cls_mapFields ..).trans e2,by rw[M6 e3];simp[rawInt]⟩
 have b1:K2 it s.heap h1:=by rw[z1];exact A4 ..
 rw[<- z1]
 refine wpAny_bind (wpAny_holding (wpAny_bind (wpAny_isOneOf_keyiter (s:={ s with heap:=h1 }) x1.typeIs ?_)))
 show wpAny _ _ (pure es[i].key) _ _ _
 exact wpAny_pure (wpAny_pure ⟨_,rfl,wpAny_pure (q h1 x1 b1)⟩)
theorem ky_end{it d:Addr}{i ep:Nat}{es:Array DictEntry}{od:Obj}{Q:Option Value->Shared->Prop}(hh:A.handled=none)(x:s.heap.IsKeyIter it d i es.size ep)(y:s.heap.get? d=some od)(yd:od.data=.dict es ep)(hi:es.size<=i)
  (q:∀h',K8 it s.heap h'->Q none { s with heap:=h' }):wpAny (model prog w) A (pyNext (.ref it)) Q E s:=by
 obtain⟨o,e1,e2,e3⟩:=id x
 have ty:=x.typeIs
 unfold pyNext
 refine wpAny_bind (wpAny_attempt (wpAny_callSpecial?_slot (name:=Str.ofString "__next__") ty F.slot_dict_keyiterator_next (wpAny_call_entry F.slot_dict_keyiterator_next ty F.entry_dict_keyiterator_next ?_ (F.args_dict_keyiterator_next_1 _))))
 refine wpAny_bind (wpAny_pure (wpAny_bind (wpAny_bind ?_)))
 first|refine wpAny_bind (wpAny_typeNameOfWhole_keyiter ty (wpAny_pure ?_))|refine wpAny_bind (wpAny_typeNameOf_keyiter ty (wpAny_pure ?_))
 refine wpAny_bind (wpAny_fieldsOf e1 e3 ?_)
 simp only[own_keys,J2,if_false]
 show wpAny _ _ (if (Z1 d==L4)=true then _ else _) _ _ s
 rw[if_neg (no_none d)]
 refine wpAny_bind (wpAny_pure (wpAny_bind (wpAny_dictEntries y yd ?_)))
 rw[if_neg (by simp)]
 refine wpAny_bind (wpAny_pure (wpAny_bind (wpAny_dictEpoch y yd ?_)))
 rw[if_neg (by simp)]
 refine wpAny_pure ?_
 simp only[show ¬((i:Int) < 0) from by omega,if_false,O5,x8 hi]
 refine wpAny_bind ?_
 first|refine wpAny_bind (wpAny_typeNameOfWhole_keyiter ty (wpAny_pure ?_))|refine wpAny_bind (wpAny_typeNameOf_keyiter ty (wpAny_pure ?_))
 show wpAny _ _ (setField (.ref it) 0 .none >>= _) _ _ s
 refine wpAny_bind (wpAny_setField e1 e3 (by simp) ?_)
 show wpAny _ _ (newExc (.type "StopIteration") [] >>= _) _ _ _
 refine wpAny_bind ?_
 simp only[newExc,newTuple]
 refine wpAny_bind (wpAny_newObj_type ?_ (by size_fits))
 refine wpAny_bind (m:=firstArgMember _ _) (wpAny_of_eq (a:=L4) (by first|rfl|(simp only[firstArgMember];rfl)) ?_)
 refine wpAny_newObj_type ?_ (by size_fits)
 simp only[raiseNew]
 refine wpAny_bind (wpAny_handled ?_)
 rw[show A.in1.handled=none from hh]
 refine wpAny_bind (wpAny_pure (wpAny_throw ?_))
 refine wpAny_bind (wpAny_isInstance (b:=true) (T:="StopIteration") ⟨_,K0 _ rfl,rfl⟩ isSubtype_stop ?_)
 exact wpAny_pure (q _ (((A4 ..).extBut.push _).push _))
theorem ky_iter{d:Addr}{es:Array DictEntry}{ep:Nat}{od:Obj}{Q:Value->Shared->Prop}(hm:(d==sysModules)=false)(y:s.heap.get? d=some od)(hx:od.ExactDict)(yd:od.data=.dict es ep)
  (q:Q (.ref s.heap.objs.size) { s with heap:=s.heap.push { cls:=.type "dict_keyiterator",data:=.fields #[.ref d,.int 0 0,.int es.size 0,.int ep 0] } }):wpAny (model prog w) A (pyIter (.ref d)) Q E s:=by
 have ty:s.TypeIs (.ref d) "dict":=⟨od,y,hx.1⟩
 refine wpAny_pyIter_slot ty F.slot_dict_iter (wpAny_call_entry F.slot_dict_iter ty F.entry_dict_iter ?_ (F.args_dict_iter_1 _))
 unfold Builtin.«dict.__iter__»
 refine wpAny_bind ?_
 unfold Builtin.Dict.dictSlotNone
 refine wpAny_bind (wpAny_notOrdered_dict ty ?_)
 show wpAny _ _ (pure (Z1 d)) _ _ s
 refine wpAny_pure ?_
 show wpAny _ _ (u6 d >>= _) _ _ s
 unfold u6
 rw[if_neg (by rw[hm];decide)]
 refine wpAny_bind (wpAny_pure (wpAny_bind (wpAny_dictEntries y yd (wpAny_bind (wpAny_dictEpoch y yd ?_)))))
 refine wpAny_bind (wpAny_newObj_type (wpAny_pure ⟨_,rfl,"dict_keyiterator",_,⟨_,K0 _ rfl,rfl⟩,F.slot_dict_keyiterator_next.lookup,?_⟩))
 simpa [rawInt]using q
end
noncomputable def Itk{κ:Type}(hs:κ->Int)(d d':Addr)(ep:Nat)(xs:List (κ×Addr×V)):It :=
 ⟨λi H=>H d=some (extD hs d' ep xs)/\i < xs.length,
  λi H x H'=>∃k b v,x=.ref b/\H'=H/\xs[i]?=some (k,b,v),
  λi H=>H d=some (extD hs d' ep xs)/\xs.length<=i⟩
section
variable {κ:Type}{hs:κ->Int}
theorem turn_keys{P:Program}{w:World}{K:u0}{tg:Expr}(it d d':Addr)(ep:Nat)(xs:List (κ×Addr×V)):Turn P w K tg (Itk hs d d' ep xs) [it] it (λi h=>h.IsKeyIter it d i xs.length ep) where
 mem:=by simp
 obj:=λi h st b hb=>by
  have e:b=it:=by simpa using hb
  subst e
  obtain⟨o,e,c,d⟩:=st
  exact ⟨o,e,λv z=>by rw[d]at z;cases z⟩
 keep:=λi h h' st k=>st.at λo e=>k it (by simp) o e
 item:=by
  intro X hP hw hK hc i pins s σ H E I hf st hg
  subst hP hw hK
  obtain⟨hd,hi⟩:=hg
  obtain⟨vs,o,es,pr,e1,e2,e3,e4,hz,_⟩:=ext_at I hd
  obtain⟨⟨k,b,v⟩,hx⟩:∃x,xs[i]?=some x:=⟨_,O0 hi⟩
  obtain⟨⟨k',b',u⟩,hv,r1,r2,r3⟩:=prd_get pr hx
  have r2:b=b':=r2
  subst r2
  have hi':i < es.size:=by rw[hz];exact hi
  have hent:es[i].key=.ref b:=by
   have q:es.toList[i]?=some (⟨hs k',.ref b,u⟩:DictEntry):=by rw[e4,J1,hv];rfl
   have q2:es.toList[i]?=some es[i]:=by simp[hi']
   rw[q2]at q
   rw[X1 q]
  obtain⟨f0,f1,f2,f3,f4,f5⟩:=hf it (by simp)
  rw[<- hz]at st
  refine ky_next st e1 e3 hi' λh' st' sb=>?_
  have I1:Inv X pins σ H { s with heap:=h' }:=I.turned (t':=s.toks) (λb o hb e=>(sb.2 b hb).trans e) f0 f1 f3 f4 f5
  obtain⟨o',g1,g2,g3⟩:=id st'
  rw[hent]
  rw[hz]at st'
  exact ⟨.ref b,rfl,go_of (s:={ s with heap:=h' }) g1 g2 g3 (by decide) ⟨.ref b,H,I1,rfl,⟨k,b,v,rfl,rfl,hx⟩,st',λc hb=>(hf c hb).1⟩⟩
 done:=by
  intro X hP hw hK hc i pins s σ H E I hf st hg
  subst hP hw hK
  obtain⟨hd,hi⟩:=hg
  obtain⟨vs,o,es,pr,e1,e2,e3,e4,hz,_⟩:=ext_at I hd
  obtain⟨f0,f1,f2,f3,f4,f5⟩:=hf it (by simp)
  rw[<- hz]at st
  exact ky_end (I.ok.hd hc) st e1 e3 (by omega) λh' eb=>⟨rfl,I.turned (t':=s.toks) (λb o hb e=>eb b o hb e) f0 f1 f3 f4 f5⟩
 self:=λ_ _ _ _ _ st h=>wpAny_pyIter_keyiter st h
noncomputable def iKeys(hs:κ->Int)(to:TE):TI:=λσ H R=>to σ H λx H1=>∃(d d':Addr) (ep:Nat) (xs:List (κ×Addr×V)),x=.ref d/\H1 d=some (extD hs d' ep xs)/\R (Itk hs d d' ep xs) H1
theorem pi_keys{X:Cx}{tg o:Expr}{to:TE}(ho:PE X o to):PI X tg o (iKeys hs to):=by
 intro pins s σ H R I h
 refine thn (ho pins s σ H _ I h) λv s1 ⟨x,H1,I1,r1,d,d',ep,xs,ex,hd,q1⟩=>?_
 subst ex
 cases r1
 obtain⟨vs,ob,es,pr,e1,e2,e3,e4,hz,_,_,hm⟩:=ext_at I1 hd
 refine ky_iter hm e1 e2 e3 ?_
 rw[hz]
 refine ⟨_,[s1.heap.objs.size],_,_,H1,rfl,I1.kept (t':=s1.toks) (λb oc e=>g0 _ e),turn_keys (hs:=hs) s1.heap.objs.size d d' ep xs,⟨_,K0 _ rfl,rfl,rfl⟩,λb hb=>?_,q1⟩
 have hb:b=s1.heap.objs.size:=by simpa using hb
 subst hb
 exact I1.fpOk (R0 _) (I1.hok.fresh (R0 _))
end
end L2
namespace L3
open PySem PySem.Spec PyProof.Rows L2
noncomputable def firsts(L:List D):List D:=L.map λd=>match d with
 | .tuple (x :: _)=>x
 | _=>.none
noncomputable def dIKeys(a:AD):TDI:=λρ Q=>dArgs [a] ρ λxs ρ1=>match lentAny ρ1 xs with
 | true=>False
 | false=>looksQ ρ1 xs λds=>match ds with
  | [.dict [(.bool false,.list L)]]=>Q (firsts L) ρ1
  | _=>False
theorem firsts_pd(ps:List (List Int×D)):firsts (ps.map λp=>.tuple [tI p.1,p.2])=ps.map λp=>tI p.1:=by
 unfold firsts
 rw[L0]
 rfl
theorem walks_keys{K:Fg}{F:Hp}{a a':Addr}{ep:Nat}{xs:List (List Int×Addr×V)}{ps:List (List Int×D)}(e1:F a=some (extD hL a' ep xs))(h1:DaPd K F xs ps):Walks K (Itk hL a a' ep xs) F (ps.map λp=>tI p.1):=λi H F1 s1 s2=>by
 have hl:=h1.length
 refine ⟨λd ed=>?_,λhz=>⟨s2 _ _ (s1 _ _ e1),by rw[i0]at hz;omega⟩⟩
 have hi:i < xs.length:=by
  have:=(W0.mp ed).1
  rw[i0]at this
  omega
 refine ⟨⟨s2 _ _ (s1 _ _ e1),hi⟩,λz H' ⟨k,b,v,ex,eH,hx⟩=>?_⟩
 subst ex eH
 obtain⟨d',g1,g2,g3⟩:=h1.get hx
 rw[J1,g1]at ed
 cases ed
 exact ⟨F1,Sub.refl _,λc o ec=>.inl ec,λc o ec=>s2 _ _ ec,Sub.refl _,.tup (s1 _ _ g2) (DaAll.ints _)⟩
theorem l_keys{K:Fg}{a:AD}{σ:L2.St}{H:Hp}{R:It->Hp->Prop}(h:liftI K (dIKeys a) σ H R):iKeys hL (argT K a) σ H R:=by
 obtain⟨G,F,ρ,Qd,Rl,w,k⟩:=h
 refine arg1 (P:=λx H1=>∃(d d':Addr) (ep:Nat) (xs:List (List Int×Addr×V)),x=.ref d/\H1 d=some (extD hL d' ep xs)/\R (Itk hL d d' ep xs) H1) (args_ok Rl w λvs H' F' xs ρ' sb R' o w1=>?_)
 split at w1
 ·exact w1.elim
 rename_i m
 obtain⟨ds,da,w1⟩:=noLent_looks R' m o w1
 split at w1
 ·rename_i L
  cases da with
  | cons d1 t =>
   cases t
   rcases da_mark d1 with⟨a,_,z,_⟩|⟨a,a',ep,ys,qs,rfl,e1,g1,z⟩|⟨a,ep,ys,qs,_,_,_,z⟩
   ·cases z
   ·injection z with z
    subst z
    rw[firsts_pd]at w1
    exact ⟨_,rfl,a,a',ep,ys,rfl,R'.sub _ _ e1,k _ H' F' _ ρ' sb R' (walks_keys e1 g1) w1⟩
   ·cases z
 ·exact w1.elim
section
variable {X:Cx}{K:Fg}{e1 tg:Expr}{a:AD}
theorem i_keys(ha:WE X e1 (argT K a)):WI X tg e1 (liftI K (dIKeys a)):=⟨piM (pi_keys ha.h) l_keys⟩
end
end L3
namespace L2
open PySem PySem.Spec PyProof.Rows
noncomputable def putP{α:Type}(xs:List (List Int×Addr×α))(k:List Int)(b:Addr)(v:α):List (List Int×Addr×α) :=
 if k∈xs.map (·.1) then xs.map (λx=>if x.1=k then (x.1,x.2.1,v) else x) else xs++[(k,b,v)]
theorem putP_stored{vs:List (List Int×Addr×Value)}{k:List Int}{b:Addr}{u:Value}:storedH vs k b u=putP vs k b u:=by
 unfold storedH putP
 have e:(atKey vs k).isSome=true ↔ k∈vs.map (·.1):=by
  unfold atKey
  rw[Option.isSome_map,List.find?_isSome]
  constructor
  ·rintro⟨x,hx,e⟩
   exact J0.mpr ⟨x,hx,of_decide_eq_true e⟩
  ·intro h
   obtain⟨x,hx,e⟩:=J0.mp h
   exact ⟨x,hx,decide_eq_true e⟩
 by_cases z:k∈vs.map (·.1)
 ·rw[if_pos (e.mpr z),if_pos z];rfl
 ·rw[if_neg (λy=>z (e.mp y)),if_neg z]
theorem putP_len{α:Type}(xs:List (List Int×Addr×α))(k:List Int)(b:Addr)(v:α):(putP xs k b v).length<=xs.length+1:=by
 unfold putP
 split
 ·rw[i0];omega
 ·rw[M0];simp
theorem putP_nodup{α:Type}{xs:List (List Int×Addr×α)}{k:List Int}{b:Addr}{v:α}(h:(xs.map (·.1)).Nodup):((putP xs k b v).map (·.1)).Nodup:=by
 unfold putP
 split
 ·rw[L0]
  have e:((λx:List Int×Addr×α=>x.1) ∘ λx=>if x.1=k then (x.1,x.2.1,v) else x)=λx=>x.1:=by
   funext x
   show (if x.1=k then (x.1,x.2.1,v) else x).1=x.1
   split<;>rfl
  rw[e]
  exact h
 ·rename_i z
  rw[X2,X7]
  refine ⟨h,by simp,λa ha b hb e=>?_⟩
  have hb:b=k:=by simpa using hb
  rw[e,hb]at ha
  exact z ha
theorem putP_prd{xs:List (List Int×Addr×V)}{vs:List (List Int×Addr×Value)}{k:List Int}{b:Addr}{v:V}{u:Value}(h:Paired (λx v=>x.1=v.1/\x.2.1=v.2.1/\RelV x.2.2 v.2.2) xs vs)(r:RelV v u) :
  Paired (λx v=>x.1=v.1/\x.2.1=v.2.1/\RelV x.2.2 v.2.2) (putP xs k b v) (putP vs k b u):=by
 unfold putP
 rw[prd_keys h]
 split
 ·rename_i z
  clear z
  induction h with
  | nil=>exact .nil
  | @cons x y l m r1 t ih =>
   refine .cons ?_ ih
   obtain⟨a1,a2,a3⟩:=r1
   by_cases z:x.1=k
   ·have z2:y.1=k:=a1.symm.trans z
    dsimp only
    rw[if_pos z,if_pos z2]
    exact ⟨a1,a2,r⟩
   ·have z2:¬y.1=k:=λq=>z (a1.trans q)
    dsimp only
    rw[if_neg z,if_neg z2]
    exact ⟨a1,a2,a3⟩
 ·exact prd_snoc h ⟨rfl,rfl,r⟩
theorem d_setItemP{X:Cx}{pins:List (Addr×Obj)}{σ:St}{H:Hp}{s:Shared}{A:Around}{E:Value->Shared->Prop}{d d' b:Addr}{ep:Nat}{xs:List (List Int×Addr×V)}{k:List Int}{v:V}{u:Value}{Q:Unit->Shared->Prop}(hu:A.units+1 < cLine)(I:Inv X pins σ H s)
  (e:H d=some (extD hL d' ep xs)) (hky:∀x∈xs,H x.2.1=some (.tup (x.1.map V.int))) (hk:H b=some (.tup (k.map V.int))) (rv:RelV v u) (hl:xs.length < sizeLine)
  (q:∀ep' s',Inv X pins σ (upd H d (extD hL d ep' (putP xs k b v))) s'->Q () s'):wpAny (model X.prog X.w) A (setItem (.ref d) (.ref b) u) Q E s:=by
 obtain⟨vs,o,es,pr,e1,e2,e3,e4,hz,nd,_,hm⟩:=ext_at I e
 have key:∀{k:List Int}{b:Addr},H b=some (.tup (k.map V.int))->(tupleKind (intKind X.prog X.w)).is s.heap k b:=λ{k b} hb=>by
  obtain⟨_,its,r,o,h1,h2,n,h3,_⟩:=(show ObjOk X.prog X.w H s.heap b (.tup (k.map V.int)) from I.hok _ _ hb)
  exact ⟨o,its.toArray,n,h1,h2,h3,by simpa using ints_are r⟩
 have hvl:=prd_len pr
 refine wpAny_setItem_heap (hsz:=by omega) (knd:=tupleKind (intKind X.prog X.w)) (tupleKind_room_in1 hu) (key hk) ⟨o,es,ep,e1,e2,e3,e4,λx hx=>?_,by rw[prd_keys pr];exact nd⟩ λh' dd' sb=>?_
 ·obtain⟨y,hy,r1,r2,_⟩:=prd_mem pr x hx
  have:=key (hky y hy)
  rw[r1,r2]at this
  exact this
 ·obtain⟨o2,es2,ep2,g1,g2,g3,g4,_,g5⟩:=dd'
  rw[putP_stored]at g4
  have hlen:=putP_len xs k b v
  refine q ep2 _ (d_write I (by rw[e];exact True.intro) sb ⟨o2,g1⟩ ⟨⟨⟨putP vs k b u,putP_prd pr rv,o2,es2,g1,g2,g3,g4⟩,putP_nodup nd,by omega,hm⟩,⟨o2,g1⟩,λh1 h2 z k'=>?_⟩)
  obtain⟨⟨vs',r',o',es',f1,f2⟩,f3⟩:=z
  exact ⟨⟨vs',r',o',es',k' _ f1,f2⟩,f3⟩
noncomputable def sPPut(td ty tv:TE):TS:=λE σ H=>tv σ H λv H1=>td σ H1 λx H2=>ty σ H2 λy H3=>∃(d d' b:Addr) (ep:Nat) (xs:List (List Int×Addr×V)) (k:List Int),x=.ref d/\y=.ref b/\H3 d=some (extD hL d' ep xs)/\(∀z∈xs,H3 z.2.1=some (.tup (z.1.map V.int))) /\
 H3 b=some (.tup (k.map V.int))/\xs.length < sizeLine/\∀ep',E.nx σ (upd H3 d (extD hL d ep' (putP xs k b v)))
theorem ps_pput{X:Cx}{o i value:Expr}{td ty tv:TE}{pos pos':Pos}(hu:X.A.units+1 < cLine)(ho:PE X o td)(hi:PE X i ty)(hv:PE X value tv)(hs:swapsWith value (some (.Subscript o i pos')) pos.line X.env=pure false) :
  PS X (.Assign [.Subscript o i pos'] value pos) (sPPut td ty tv):=by
 intro pins s σ H D I h
 refine wpAny_Assign_Subscript (thn (hv pins s σ H _ I h) λr s1 ⟨v,H1,I1,rv,q1⟩=>thn (ho pins s1 σ H1 _ I1 q1) λu s2 ⟨x,H2,I2,rx,q2⟩=>thn (hi pins s2 σ H2 _ I2 q2) λiv s3 ⟨y,H3,I3,ry,d,d',b,ep,xs,k,ex,ey,e1,e2,e3,e4,q3⟩=>?_) hs
 subst ex ey
 obtain rfl:u=Z1 d:=rx
 obtain rfl:iv=Z1 b:=ry
 exact d_setItemP hu I3 e1 e2 e3 rv e4 λep' s4 I4=>⟨σ,_,I4,q3 ep'⟩
end L2
namespace L3
open PySem PySem.Spec PyProof.Rows L2
noncomputable def putPs(ps:List (List Int×D))(k:List Int)(d:D):List (List Int×D) :=
 if k∈ps.map (·.1) then ps.map (λx=>if x.1=k then (x.1,d) else x) else ps++[(k,d)]
theorem DaPd.keys{K:Fg}{F:Hp}:∀{xs:List (List Int×Addr×V)}{ps:List (List Int×D)},DaPd K F xs ps->xs.map (·.1)=ps.map (·.1)
 | _,_,.nil=>rfl
 | _,_,.cons _ _ t=>by simp only[Z2,DaPd.keys t]
theorem DaPd.at{K:Fg}{F:Hp}:∀{xs:List (List Int×Addr×V)}{ps:List (List Int×D)},DaPd K F xs ps->∀z∈xs,F z.2.1=some (.tup (z.1.map V.int))
 | _,_,.nil,z,h=>by cases h
 | _,_,.cons e _ t,z,h=>by
  rcases Y0.mp h with q|q
  ·subst q;exact e
  ·exact DaPd.at t z q
theorem DaPd.snoc{K:Fg}{F:Hp}{k:List Int}{b:Addr}{v:V}{d:D}(hb:F b=some (.tup (k.map V.int)))(hv:Da K F v d):∀{xs:List (List Int×Addr×V)}{ps:List (List Int×D)},DaPd K F xs ps->DaPd K F (xs++[(k,b,v)]) (ps++[(k,d)])
 | _,_,.nil=>.cons hb hv .nil
 | _,_,.cons e h t=>.cons e h (DaPd.snoc hb hv t)
theorem DaPd.repl{K:Fg}{F:Hp}{k:List Int}{v:V}{d:D}(hv:Da K F v d):∀{xs:List (List Int×Addr×V)}{ps:List (List Int×D)},DaPd K F xs ps->DaPd K F (xs.map λx=>if x.1=k then (x.1,x.2.1,v) else x) (ps.map λx=>if x.1=k then (x.1,d) else x)
 | _,_,.nil=>.nil
 | _,_,@DaPd.cons _ _ k' b' v' d' xs ps e h t=>by
  have ih:=DaPd.repl (k:=k) hv t
  rw[Z2,Z2]
  by_cases z:k'=k
  ·dsimp only
   rw[if_pos z,if_pos z]
   exact .cons e hv ih
  ·dsimp only
   rw[if_neg z,if_neg z]
   exact .cons e h ih
theorem DaPd.put{K:Fg}{F:Hp}{k:List Int}{b:Addr}{v:V}{d:D}{xs:List (List Int×Addr×V)}{ps:List (List Int×D)}(h:DaPd K F xs ps)(hb:F b=some (.tup (k.map V.int)))(hv:Da K F v d):DaPd K F (putP xs k b v) (putPs ps k d):=by
 unfold putP putPs
 rw[h.keys]
 split
 ·exact h.repl hv
 ·exact h.snoc hb hv
noncomputable def dSetP(j:Nat)(ak:AD)(te:TD):TDS:=λE ρ=>te ρ λr ρ1=>match ρ1[j]? with
 | some (some _)=>dArgs [ak] ρ1 λxs ρ2=>match lentAny ρ2 xs with
  | true=>False
  | false=>looksQ ρ2 xs λds=>match ρ2[j]? with
   | some (some s)=>∃(k:List Int) (ps:List (List Int×D)),ds=[tI k]/\s.d=pdD ps/\isOw s=true/\ps.length < sizeLine/\E.nx (ρ2.set j (some (s.put (pdD (putPs ps k r.d)))))
   | _=>False
 | _=>False
theorem l_setP{K:Fg}{j:Nat}{ak:AD}{te:TD}{σ:L2.St}{H:Hp}{E:Ends}(h:liftS K (dSetP j ak te) E σ H):sPPut (tVar j) (argT K ak) (lift K te) E σ H:=by
 obtain⟨G,F,ρ,D,R,w,n,r,b,c⟩:=h
 refine ⟨G,F,ρ,_,R,w,λv H1 F1 x ρ1 s1 R1 r1 w1=>?_⟩
 obtain⟨F2,s2,R2,d2⟩:=r1.frz R1
 split at w1
 ·rename_i s0 e0
  obtain⟨u,eu⟩:=R2.bound e0
  refine ⟨u,eu,arg1 (P:=λy H3=>∃(d d' b:Addr) (ep:Nat) (xs:List (List Int×Addr×V)) (k:List Int),u=.ref d/\y=.ref b/\H3 d=some (extD hL d' ep xs)/\(∀z∈xs,H3 z.2.1=some (.tup (z.1.map V.int))) /\
    H3 b=some (.tup (k.map V.int))/\xs.length < sizeLine/\∀ep',E.nx σ (upd H3 d (extD hL d ep' (putP xs k b v)))) (args_ok R2 w1 λvs H3 F3 xs ρ3 s3 R3 o3 w3=>?_)⟩
  split at w3
  ·exact w3.elim
  rename_i m
  obtain⟨ds,ha,w3⟩:=noLent_looks R3 m o3 w3
  split at w3
  ·rename_i s e
   obtain⟨k,ps,rfl,p1,p2,p3,w3⟩:=w3
   cases ha with
   | cons hk ht =>
    cases ht
    obtain⟨kb,rfl,hb⟩:=da_tup hk
    obtain⟨a,o,g1,g2,g3,g4⟩:=R3.ow j s e p2
    rw[eu]at g1;cases g1
    rw[p1]at g4
    cases o with
    | ext φ =>
     obtain⟨a',ep,ys,qs,z,z2,t⟩:=g4.ext
     have t:DaPd K F3 ys ps:=by
      have e2:ps.map (λp=>S0 [S0 (p.1.map j0),p.2])=qs.map (λp=>S0 [S0 (p.1.map j0),p.2]):=by
       injection z2 with z2;injection z2 with z2 _;injection z2 with _ z2;injection z2
      have e3:ps=qs:=(P6 (λx y q=>by
        injection q with q
        injection q with q1 q2
        injection q2 with q2 _
        injection q1 with q1
        exact Prod.ext ((P6 (λx y z=>by injection z)).mp q1) q2)).mp e2
      rw[e3];exact t
     rw[z]at g3
     refine ⟨_,rfl,a,a',kb,ep,ys,k,rfl,rfl,g3,λq hq=>R3.sub _ _ (t.at q hq),R3.sub _ _ hb,by have:=congrArg Y3 t.keys;rw[i0,i0]at this;omega,λep'=>?_⟩
     have R4:=R3.change (o':=extD hL a ep' (putP ys k kb v)) (d':=pdD (putPs ps k x.d)) e p2 eu (Own1.pd (t.put hb (d2.mono s3)))
     exact n σ _ F3 _ (s1.trans (s2.trans s3)) R4 w3
    | dK kvs =>
     exfalso
     have h:DaKV K F3 kvs [(J5 false,B1 (ps.map λp=>S0 [S0 (p.1.map j0),p.2]))]:=g4
     generalize e9:[(J5 false,B1 (ps.map λp=>S0 [S0 (p.1.map j0),p.2]))]=es at h
     cases h with
     | nil=>cases e9
     | @cons k _ _ _ _ _ _=>cases k<;>cases e9
    | dT kvs =>
     exfalso
     have h:DaKT K F3 kvs [(J5 false,B1 (ps.map λp=>S0 [S0 (p.1.map j0),p.2]))]:=g4
     generalize e9:[(J5 false,B1 (ps.map λp=>S0 [S0 (p.1.map j0),p.2]))]=es at h
     cases h with
     | nil=>cases e9
     | cons _ _=>cases e9
    | _=>exact g4.elim
  ·exact w3.elim
 ·exact w1.elim
section
variable {X:Cx}{K:Fg}{e e1 e2:Expr}{a:AD}{td:TD}{pos pos':Pos}
theorem s_keyP{j:Nat}(hu:X.A.units+1 < cLine)(ho:WE X e1 (argT K (.inl j)))(hi:WE X e2 (argT K a))(hv:WE X e (lift K td))(hs:notComp e=true:=by rfl):WS X (.Assign [.Subscript e1 e2 pos'] e pos) (liftS K (dSetP j a td)):=⟨psM (ps_pput hu ho.h hi.h hv.h (swaps_of hs)) l_setP⟩
end
end L3
namespace L2
open PySem PySem.Spec PyProof.Rows
end L2
namespace L3
open PySem PySem.Spec PyProof.Rows L2
theorem pd_at{K:Fg}{F H:Hp}{v:V}{L:List D}(s:Sub F H)(h1:At K F H v (.dict [(.bool false,.list L)])):∃(b b':Addr) (ep:Nat) (ys:List (List Int×Addr×V)) (qs:List (List Int×D)),v=.ref b/\H b=some (extD hL b' ep ys)/\DaPd K F ys qs/\L=qs.map λp=>.tuple [tI p.1,p.2]:=by
 rcases h1 with h1|⟨b,o,rfl,g1,g2,g3⟩
 ·rcases da_mark h1 with⟨_,_,z,_⟩|⟨c,a',ep,ys,qs,rfl,e1,g1,z⟩|⟨_,_,_,_,_,_,_,z⟩
  ·cases z
  ·injection z with z
   exact ⟨c,a',ep,ys,qs,rfl,s _ _ e1,g1,z⟩
  ·cases z
 ·cases o with
  | ext φ =>
   obtain⟨a',ep,ys,qs,z,z2,t⟩:=g3.ext
   rw[z]at g2
   refine ⟨b,a',ep,ys,qs,rfl,g2,t,?_⟩
   injection z2 with z2;injection z2 with z2 _;injection z2 with _ z2;injection z2
  | dK kvs =>
   exfalso
   have h:DaKV K F kvs [(J5 false,B1 L)]:=g3
   generalize e9:[(J5 false,B1 L)]=es at h
   cases h with
   | nil=>cases e9
   | @cons k _ _ _ _ _ _=>cases k<;>cases e9
  | dT kvs =>
   exfalso
   have h:DaKT K F kvs [(J5 false,B1 L)]:=g3
   generalize e9:[(J5 false,B1 L)]=es at h
   cases h with
   | nil=>cases e9
   | cons _ _=>cases e9
  | _=>exact g3.elim
theorem scr_part{K:Fg}{F:Hp}{c:Addr}{xs:List V}(h:SqL K F c xs):∃F0:Hp,Sub F0 F/\SqL K F0 c xs/\∀b φ,F0 b≠some (.ext φ):=by
 rcases h with h|h
 ·have go:∀o,F c=some o->(∀φ,o≠.ext φ)->(∀F':Hp,F' c=some o->Rd F' c (.lst xs))->∃F0:Hp,Sub F0 F/\SqL K F0 c xs/\∀b φ,F0 b≠some (.ext φ):=λo e n k =>
   ⟨only c o,λb u z=>by obtain⟨rfl,rfl⟩:=only_is z;exact e,.inl (k _ (by unfold only;rw[if_pos rfl])),λb φ z=>by obtain⟨_,z⟩:=only_is z;exact n φ z.symm⟩
  rcases h with h|⟨o,h⟩
  ·exact go _ h (λφ z=>by cases z) λF' e=>.inl e
  ·exact go _ h (λφ z=>by cases z) λF' e=>.inr ⟨o,e⟩
 ·exact ⟨λ_=>none,λb u z=>(by cases z),.inr h,λb φ z=>(by cases z)⟩
theorem SqL.part{K:Fg}{F F':Hp}{c:Addr}{xs:List V}(h:SqL K F c xs)(k:∀b o,F b=some o->(∀φ,o≠.ext φ)->F' b=some o):SqL K F' c xs:=by
 rcases h with (h|⟨o,h⟩)|h
 ·exact .inl (.inl (k _ _ h λφ z=>by cases z))
 ·exact .inl (.inr ⟨o,k _ _ h λφ z=>by cases z⟩)
 ·exact .inr h
theorem DaPd.part{K:Fg}{F F':Hp}(k:∀b o,F b=some o->(∀φ,o≠.ext φ)->F' b=some o):∀{xs:List (List Int×Addr×V)}{rows:List (List Int×Int)},DaPd K F xs (rows.map λq=>(q.1,j0 q.2))->DaPd K F' xs (rows.map λq=>(q.1,j0 q.2))
 | [],[],.nil=>.nil
 | _ :: _,_ :: _,.cons e h t=>by
  cases h
  exact .cons (k _ _ e λφ z=>by cases z) (.int _) (DaPd.part k t)
theorem tI_part{K:Fg}{F F':Hp}{v:V}{p:List Int}(k:∀b o,F b=some o->(∀φ,o≠.ext φ)->F' b=some o)(h:Da K F v (tI p)):Da K F' v (tI p):=by
 obtain⟨b,rfl,hb⟩:=da_tup h
 exact .tup (k _ _ hb λφ z=>by cases z) (DaAll.ints p)
theorem rel_pen{K:Fg}{H F0:Hp}{g:Addr}{o:HO}{d:D}(s:Sub F0 H)(h1:F0 g=none)(h2:H g=some o)(h3:Own1 K F0 o d) :
  Rel K ⟨H,F0,λi=>if i=0 then some g else none⟩ F0 [some (.ref g)] H [some (.io d)]:=by
 refine ⟨rfl,s,Sub.refl _,λ_ _ e=>.inl e,λ_ _ e _=>e,λi d e=>?_,λi t e w=>?_,λi d a e ea=>?_,λi a e=>?_,λi d e=>?_,λi j t u a e1 w1 e2 w2 _ _=>?_⟩
 ·match i,e with
  | 0,e=>cases e
  | i+1,e=>simp at e
 ·match i,e with
  | 0,e=>cases e;exact ⟨g,o,rfl,h1,h2,h3⟩
  | i+1,e=>simp at e
 ·match i,e with
  | 0,e=>cases e
  | i+1,e=>simp at e
 ·by_cases z:i=0
  ·subst z;cases e;exact ⟨_,rfl,rfl⟩
  ·have e:(if i=0 then some g else none)=some a:=e
   rw[if_neg z]at e;cases e
 ·match i,e with
  | 0,e=>exact ⟨g,rfl⟩
  | i+1,e=>simp at e
 ·match i,j,e1,e2 with
  | 0,0,_,_=>rfl
  | 0,j+1,_,e2=>simp at e2
  | i+1,_,e1,_=>simp at e1
noncomputable abbrev pn3(ns:List Int)(k l:Int):D:=.list [scrD ns,.int k,.int l]
noncomputable abbrev rwD(rows:List (List Int×Int)):D:=pdD (rows.map λq=>(q.1,j0 q.2))
noncomputable def dNestD(x y i:Nat)(con:Con):TDS:=λE ρ=>∃(ns:List Int) (k l:Int) (s:Sl),ρ[i]?=some (some s)/\isOw s=true/\s.d=pn3 ns k l/\noIo ρ x/\noIo ρ y/\x≠y/\i≠x/\i≠y /\
 con [.io (pn3 ns k l)] λr o=>∃(k' l':Int) (p q:List Int) (rows:List (List Int×Int)),o[0]?=some (some (.io (pn3 ns k' l')))/\r=.fz (.tuple [.tuple [tI p,tI q],rwD rows]) /\
  E.nx (((ρ.set i (some (s.put (pn3 ns k' l')))).set x (some (.fz (.tuple [tI p,tI q])))).set y (some (.ow (rwD rows))))
theorem pd_inj{ps qs:List (List Int×D)}(z2:pdD ps=pdD qs):ps=qs:=by
 have e2:ps.map (λp=>S0 [S0 (p.1.map j0),p.2])=qs.map (λp=>S0 [S0 (p.1.map j0),p.2]):=by
  injection z2 with z2;injection z2 with z2 _;injection z2 with _ z2;injection z2
 exact (P6 (λx y q=>by
   injection q with q
   injection q with q1 q2
   injection q2 with q2 _
   injection q1 with q1
   exact Prod.ext ((P6 (λx y z=>by injection z)).mp q1) q2)).mp e2
theorem noIo_set{ρ:Ev}{i x:Nat}{t:Option Sl}(n:i≠x)(h:noIo ρ x):noIo (ρ.set i t) x:=by
 unfold noIo at h ⊢
 rw[V0 n]
 exact h
theorem DaAll.both{K:Fg}{F:Hp}{xs:List V}{d e:D}(h:DaAll K F xs [d,e]):∃u v,xs=[u,v]/\Da K F u d/\Da K F v e:=by
 cases h with
 | cons h1 h =>
  cases h with
  | cons h2 h=>cases h;exact ⟨_,_,rfl,h1,h2⟩
theorem l_nestD{K:Fg}{x y i:Nat}{con:Con}{E:Ends}{σ:L2.St}{H:Hp}(h:liftS K (dNestD x y i con) E σ H) :
  tAsg (tCall (conSp K con) [] E0 (tCons (tVar i) tNil)) (gTup K 2 (gCons (gName x) (gCons (gName y) gNil))) E σ H:=by
 obtain⟨G,F,ρ,D,R,⟨ns,k,l,s,ei,wi,es,nx,ny,hxy,hix,hiy,w⟩,n,r,b,ct⟩:=h
 obtain⟨g,og,hvi,fg,hg,owg⟩:=R.ow i s ei wi
 rw[es]at owg
 cases og with
 | lst ys =>
  have owg:DaAll K F ys [scrD ns,.int k,.int l]:=owg
  have key:∃c,ys=[.ref c,.int k,.int l]/\SqL K F c (ns.map V.int):=by
   cases owg with
   | cons d1 dt =>
    obtain⟨c,ec,hc⟩:=d1.scr_inv rfl
    cases dt with
    | cons d2 dt =>
     cases dt with
     | cons d3 dt=>cases d2;cases d3;cases dt;exact ⟨c,by rw[ec],hc⟩
  obtain⟨c,rfl,hc⟩:=key
  have d3:∀F':Hp,DaAll K F' [.int k,.int l] [.int k,.int l]:=λF'=>.cons (.int _) (.cons (.int _) .nil)
  obtain⟨F0,s0,c0,n0⟩:=scr_part hc
  have f0g:F0 g=none:=by
   cases z:F0 g with
   | none=>rfl
   | some o=>rw[s0 _ _ z]at fg;cases fg
  have Rc:=rel_pen (K:=K) (d:=pn3 ns k l) (s0.trans R.sub) f0g hg (show DaAll K F0 _ _ from .cons (.scr c0) (d3 F0))
  refine ⟨_,hvi,⟨_,_,_,_,Rc,w,λv H1 F1 r1 ρ1 s1 R1 res1 ⟨k',l',p,q,rows,o1,er,w1⟩=>?_⟩⟩
  subst er
  have res1:Da K F1 v (.tuple [.tuple [tI p,tI q],rwD rows]):=res1
  obtain⟨g',og',gv,fg1,hg1,owg1⟩:=R1.ow 0 _ o1 rfl
  cases gv
  cases res1 with
  | tup hta hda =>
   rename_i ta xs
   obtain⟨u1,u2,rfl,e1,e2⟩:=hda.both
   obtain⟨a,a',ep,zs,rfl,ha,hpd⟩:∃(a a':Addr) (ep:Nat) (zs:List (List Int×Addr×V)),u2=.ref a/\F1 a=some (extD hL a' ep zs)/\DaPd K F1 zs (rows.map λq=>(q.1,j0 q.2)):=by
    rcases da_mark e2 with⟨_,_,z,_⟩|⟨a,a',ep,zs,qs,rfl,e1,g1,z⟩|⟨_,_,_,_,_,_,_,z⟩
    ·cases z
    ·refine ⟨a,a',ep,zs,rfl,e1,?_⟩
     rw[pd_inj (ps:=rows.map λq=>(q.1,j0 q.2)) (qs:=qs) (by unfold pdD;rw[z])]
     exact g1
    ·cases z
   have na:H a=none:=by
    rcases R1.fn a _ ha with z|z
    ·exact (n0 _ _ z).elim
    ·exact z
   have fa:F a=none:=R.f0 na
   obtain⟨F2,hF2⟩:∃F2:Hp,F2=λb=>if b=a then none else match F b with
    | some o=>some o
    | none=>F1 b:=⟨_,rfl⟩
   have f2a:F2 a=none:=by rw[hF2];exact if_pos rfl
   have sF:Sub F F2:=λb o e=>by
    have nb:b≠a:=λz=>by rw[z,fa]at e;cases e
    rw[hF2]
    show (if b=a then none else _)=_
    rw[if_neg nb,e]
   have s1F:∀b o,F1 b=some o->(∀φ,o≠.ext φ)->F2 b=some o:=λb o e ne=>by
    have nb:b≠a:=λz=>by rw[z,ha]at e;cases e;exact ne _ rfl
    rw[hF2]
    show (if b=a then none else _)=_
    rw[if_neg nb]
    cases z:F b with
    | none=>exact e
    | some o' =>
     rcases R1.fn b o e with q|q
     ·have:=s0 _ _ q
      rw[z]at this
      exact this
     ·have:=R.f0 q
      rw[z]at this;cases this
   have inv:∀b o,F2 b=some o->b≠a/\(F b=some o\/F b=none/\F1 b=some o):=λb o e=>by
    have nb:b≠a:=λz=>by rw[z,f2a]at e;cases e
    refine ⟨nb,?_⟩
    rw[hF2]at e
    have e:(if b=a then none else match F b with
      | some o=>some o
      | none=>F1 b)=some o:=e
    rw[if_neg nb]at e
    cases z:F b with
    | none=>rw[z]at e;exact .inr ⟨rfl,e⟩
    | some o'=>rw[z]at e;exact .inl e
   have f2g:F2 g=none:=by
    cases z:F2 g with
    | none=>rfl
    | some o =>
     rcases (inv g o z).2 with q|⟨_,q⟩
     ·rw[fg]at q;cases q
     ·rw[fg1]at q;cases q
   have kp:∀b o,H b=some o->b≠g->H1 b=some o:=λb o e nb=>R1.keep b o e λj hj=>by
    have hj:(if j=0 then some g else none)=some b:=hj
    split at hj
    ·cases hj;exact nb rfl
    ·cases hj
   have Rg:Rel K G F2 σ (upd H1 g (.lst [.ref c,.int k,.int l])) ρ:=by
    refine R.grown sF (λb o e=>?_) (λb o e=>?_) λb o e=>?_
    ·have nb:b≠g:=λz=>by rw[z,f2g]at e;cases e
     rw[upd_ne nb]
     rcases (inv b o e).2 with q|⟨_,q⟩
     ·exact kp b o (R.sub _ _ q) nb
     ·exact R1.sub _ _ q
    ·rcases (inv b o e).2 with q|⟨q0,q⟩
     ·exact .inl q
     ·rcases R1.fn b o q with z|z
      ·have:=s0 _ _ z
       rw[q0]at this;cases this
      ·exact .inr z
    ·by_cases z:b=g
     ·subst z;rw[upd_same,<- hg,e]
     ·rw[upd_ne z];exact kp b o e z
   have owg2:Own1 K F2 og' (pn3 ns k' l'):=by
    cases og' with
    | lst us =>
     have owg1:DaAll K F1 us [scrD ns,.int k',.int l']:=owg1
     show DaAll K F2 us [scrD ns,.int k',.int l']
     cases owg1 with
     | cons q1 qt =>
      obtain⟨c',ec',hc'⟩:=q1.scr_inv rfl
      subst ec'
      refine .cons (.scr (SqL.part hc' s1F)) ?_
      cases qt with
      | cons q2 qt =>
       cases qt with
       | cons q3 qt=>cases q2;cases q3;cases qt;exact .cons (.int _) (.cons (.int _) .nil)
    | _=>exact (owg1:False).elim
   have R2:=Rg.change (o':=og') (d':=pn3 ns k' l') ei wi hvi owg2
   have eh:upd (upd H1 g (.lst [.ref c,.int k,.int l])) g og'=H1:=by
    funext b
    by_cases z:b=g
    ·subst z;rw[upd_same];exact hg1.symm
    ·rw[upd_ne z,upd_ne z]
   rw[eh]at R2
   have du1:Da K F2 u1 (.tuple [tI p,tI q]):=by
    cases e1 with
    | tup ht hd =>
     cases hd with
     | cons m1 hd =>
      cases hd with
      | cons m2 hd =>
       cases hd
       exact .tup (s1F _ _ ht λφ z=>by cases z) (.cons (tI_part s1F m1) (.cons (tI_part s1F m2) .nil))
   have R3:=R2.asg (s:=.fz (.tuple [tI p,tI q])) (noIo_set hix nx) du1
   have hag:a≠g:=λz=>by rw[z,hg]at na;cases na
   have R4:=R3.asg (i:=y) (v:=.ref a) (s:=.ow (rwD rows)) (noIo_set hxy (noIo_set hiy ny)) ⟨a,_,rfl,f2a,R1.sub _ _ ha,Own1.pd (DaPd.part s1F hpd),R.h0 na,λj t e wt z=>by
     rcases get_set e with⟨rfl,u⟩|⟨nj,u⟩
     · cases u;cases wt
     · rw[V0 (V2 nj)]at z
       rcases get_set u with⟨rfl,u⟩|⟨nj2,u⟩
       · rw[hvi]at z;cases z;exact hag rfl
       · exact R.nobody na j t u wt z⟩
   refine ⟨ta,_,rfl,SqT.of (R1.sub _ _ hta),rfl,⟨_,_,rfl,⟨_,_,rfl,rfl,?_⟩⟩⟩
   exact n _ _ F2 _ sF R4 w1
 | _=>exact (owg:False).elim
section
variable {X:Cx}{K:Fg}{p p1 p2 p3 p4 pos pos':Pos}{f a x y:Str}
theorem s_nestD{i n m k:Nat}{kk:Nat}{ps:List Str}{con:Con}(C:Cal X.prog X.w X.K X.mg X.base k f ps (conSp K con))(hr:Room k X.A)(hK:X.K=K)(hc:X.calm=true)(hi:WE X (.Name a p1) (argT K (.inl i)))
  (hN:X.N.Nodup) (hx:X.N[n]?=some x) (hy:X.N[m]?=some y) (lx:Loc X.env.scope x) (ly:Loc X.env.scope y)
  (hfx:X.fn x=true\/X.env.scope.names.lookup x=some .local:=by first|exact .inl rfl|exact .inr rfl|assumption) (hfy:X.fn y=true\/X.env.scope.names.lookup y=some .local:=by first|exact .inl rfl|exact .inr rfl|assumption) (hg:Gl X f:=by rfl) (hdb:(f==("__debug__":Str))=false:=by decide)
  (hs:swapsWithSole [.Tuple [.Name x p2,.Name y p3] kk p4] (.Call (.Name f p) [.Name a p1] [] pos) pos'.line X.env=pure false:=by rfl) (hw:swappedStores [.Tuple [.Name x p2,.Name y p3] kk p4] (.Call (.Name f p) [.Name a p1] [] pos) X.env=pure none:=by rfl)
  (h1:(assignEach [.Tuple [.Name x p2,.Name y p3] kk p4] X.env).map (·.2)=[assign (.Tuple [.Name x p2,.Name y p3] kk p4) X.env]:=by rfl) :
  WS X (.Assign [.Tuple [.Name x p2,.Name y p3] kk p4] (.Call (.Name f p) [.Name a p1] [] pos) pos') (liftS K (dNestD n m i con)):=by
 subst hK
 exact ⟨psM (ps_asg (pe_fn C hr (pa_cons hi.h pa_nil) hg hdb) (pg_tupK rfl hc (pgs_cons (pg_name hN hx lx hfx) (pgs_cons (pg_name hN hy ly hfy) pgs_nil))) hs hw h1) l_nestD⟩
end
end L3
namespace L2
open PySem PySem.Spec PyProof.Rows
theorem set_all{prog:Program}{w:World}{A:Around}{E:Value->Shared->Prop}{s:Shared}{l sl m:Addr}{xs ys:Array Value}{n:Nat}{ol:Obj}{Q:Unit->Shared->Prop}(hl:s.heap.get? l=some ol)(hc:ol.cls=.type "list")(hd:ol.data=.seq xs n)
  (hs:s.heap.IsSliceOf sl .none .none .none) (hm:s.heap.IsList m ys) (hne:l≠m) (hz:xs.size+ys.size<=sizeLine) (q:Q () { s with heap:=s.heap.update l (O2 λzs=>zs.extract 0 0++ys++zs.extract xs.size zs.size) }) :
  wpAny (model prog w) A (setItem (.ref l) (.ref sl) (.ref m)) Q E s:=by
 have tl:s.TypeIs (.ref l) "list":=⟨ol,hl,hc⟩
 obtain⟨om,g1,g2,nm,g3⟩:=id hm
 obtain⟨os,e1,e2,e3⟩:=id hs
 have ts:s.TypeIs (.ref sl) "slice":=⟨os,e1,e2⟩
 unfold setItem
 try with_reducible refine wpAny_holding ?_
 first|refine wpAny_bind (wpAny_pure ?_)|skip
 refine wpAny_bind (wpAny_sequenceKey tl (by decide) (wpAny_bind (wpAny_callSpecial?_slot (name:=Str.ofString "__setitem__") tl slot_list_setitem (wpAny_call_entry slot_list_setitem tl entry_list_setitem ?_ (args_list_setitem _ _ _)))))
 show wpAny _ _ (M7 (.ref sl) >>= _) _ _ s
 refine wpAny_bind ?_
 unfold M7
 refine wpAny_bind (wpAny_specialOf ts slice_no_index ?_)
 simp only[b9,if_true]
 refine wpAny_pure ?_
 show wpAny _ _ (typeOf (.ref sl) >>= _) _ _ s
 refine wpAny_bind (wpAny_typeOf ts ?_)
 rw[if_neg (by decide),listSliceParts_eq]
 refine wpAny_bind (wpAny_bind (wpAny_field e1 e3 (x:=.none) rfl (wpAny_bind (wpAny_listPart .none ?_))))
 rw[if_neg (by exact A1)]
 refine wpAny_bind (wpAny_field e1 e3 (x:=.none) rfl (wpAny_bind (wpAny_listPart .none (wpAny_bind (wpAny_field e1 e3 (x:=.none) rfl (wpAny_bind (wpAny_listPart .none (wpAny_pure ?_))))))))
 have hsm:b8 (.ref l) (.ref m)=false:=by simp[b8,hne]
 dsimp only
 simp only[hsm,J2,if_false]
 refine wpAny_bind ?_
 unfold Builtin.List.listAllItems
 refine wpAny_bind (wpAny_typeOf (T:="list") ⟨om,g1,g2⟩ ?_)
 rw[if_pos (by decide)]
 unfold Builtin.List.listItems
 refine wpAny_bind (wpAny_seqItems g1 g3 (wpAny_pure ?_))
 refine wpAny_bind (wpAny_bind (wpAny_seqItems hl hd (wpAny_pure ?_)))
 refine wpAny_bind (wpAny_of_eq (sliceIndices_raw none none none xs.size (by simp)) ?_)
 have eb:sliceBounds none none none xs.size=(0,(xs.size:Int),1):=by simp[sliceBounds]
 have em:(max (0:Int) (xs.size:Int)).toNat=xs.size:=by omega
 have ez:(0:Int).toNat=0:=rfl
 have el:X3 (xs.size+ys.size)=false:=by unfold X3;exact decide_eq_false (by omega)
 simp only[eb,em,ez,el]
 rw[if_pos (by decide)]
 refine wpAny_bind (wpAny_rule ?_)
 simp only[J2,if_false]
 show wpAny _ _ (updateSeq l _ >>= _) _ _ s
 refine wpAny_bind (wpAny_updateSeq hl hd (wpAny_bind (wpAny_letGo (wpAny_pure ⟨.none,rfl,wpAny_pure q⟩))) (hz:=by omega) (_hz':=by simp;omega))
theorem mapSeq_all(its jts:List Value)(n:Nat):∃n',O2 (λzs=>zs.extract 0 0++jts.toArray++zs.extract its.toArray.size zs.size) { cls:=.type "list",data:=.seq its.toArray n }={ cls:=.type "list",data:=.seq jts.toArray n' }:=by
 refine ⟨if jts.length=its.length then n else n+1,?_⟩
 by_cases z:jts.length=its.length
 ·simp[O2,z]
 ·simp[O2,z]
noncomputable def sAllSet(td tv:TE):TS:=λE σ H=>tv σ H λv H1=>td σ H1 λx H2=>∃(p m:Addr) (xs ys:List V),x=.ref p/\v=.ref m/\p≠m/\H2 p=some (.lst xs)/\H2 m=some (.lst ys)/\xs.length+ys.length<=sizeLine/\E.nx σ (upd H2 p (.lst ys))
theorem ps_allset{X:Cx}{o value:Expr}{td tv:TE}{p2 pos pos':Pos}(ho:PE X o td)(hv:PE X value tv)(hs:swapsWith value (some (.Subscript o (.Slice none none none p2) pos')) pos.line X.env=pure false) :
  PS X (.Assign [.Subscript o (.Slice none none none p2) pos'] value pos) (sAllSet td tv):=by
 intro pins s σ H D I h
 refine wpAny_Assign_Subscript (thn (hv pins s σ H _ I h) λr s1 ⟨v,H1,I1,rv,q1⟩=>thn (ho pins s1 σ H1 _ I1 q1) λu s2 ⟨x,H2,I2,rx,p,m,xs,ys,ex,ev,ne,e1,e2,hz,q2⟩=>?_) hs
 subst ex ev
 obtain rfl:u=Z1 p:=rx
 obtain rfl:r=Z1 m:=rv
 refine wpAny_Slice ?_
 rw[evalPart_none]
 refine wpAny_pure (wpAny_pure (wpAny_pure ?_))
 obtain⟨its,n,r1,g1,z1⟩:=I2.lst e1
 obtain⟨jts,n2,r2,g2,z2⟩:=I2.lst e2
 have l1:=r1.length
 have l2:=r2.length
 have I3:Inv X pins σ H2 { s2 with heap:=s2.heap.push { cls:=.type "slice",data:=.fields #[.none,.none,.none] } }:=I2.kept (t':=s2.toks) λb ob q=>g0 _ q
 have k1:=g0 { cls:=.type "slice",data:=.fields #[.none,.none,.none] } g1
 have k2:=g0 { cls:=.type "slice",data:=.fields #[.none,.none,.none] } g2
 obtain⟨n',hn'⟩:=mapSeq_all its jts n
 refine set_all (xs:=its.toArray) (ys:=jts.toArray) (n:=n) k1 rfl rfl (Heap.IsSliceOf.new ..) ⟨_,k2,rfl,n2,rfl⟩ ne (by simp;omega) ⟨σ,_,I3.lstUpd (t:=s2.toks) e1 k1 (its':=jts) (n':=n') hn' r2 (by omega),q2⟩
end L2
namespace L3
open PySem PySem.Spec PyProof.Rows L2
noncomputable def dSetAll(j:Nat)(te:TD):TDS:=λE ρ=>te ρ λr ρ1=>match ρ1[j]? with
 | some (some s)=>∃ds es:List D,s.d=.list ds/\isOw s=true/\r=.ow (.list es)/\ds.length+es.length<=sizeLine/\E.nx (ρ1.set j (some (s.put (.list es))))
 | _=>False
theorem l_setAll{K:Fg}{j:Nat}{te:TD}{σ:L2.St}{H:Hp}{E:Ends}(h:liftS K (dSetAll j te) E σ H):sAllSet (tVar j) (lift K te) E σ H:=by
 obtain⟨G,F,ρ,D,R,w,n,r,b,c⟩:=h
 refine ⟨G,F,ρ,_,R,w,λv H1 F1 x ρ1 s1 R1 r1 w1=>?_⟩
 split at w1
 ·rename_i s e
  obtain⟨ds,es,p1,p2,rfl,hz,w1⟩:=w1
  obtain⟨a,o,rfl,g2,g3,g4,g5,g6⟩:=r1
  obtain⟨p,o',q1,q2,q3,q4⟩:=R1.ow j s e p2
  rw[p1]at q4
  cases o with
  | lst ys =>
   cases o' with
   | lst xs =>
    have q4:DaAll K F1 xs ds:=q4
    have g4:DaAll K F1 ys es:=g4
    refine ⟨_,q1,p,a,xs,ys,rfl,rfl,λz=>g6 j s e p2 (by rw[q1,z]),q3,g3,by rw[q4.length,g4.length];exact hz,?_⟩
    exact n σ _ F1 _ s1 (R1.change (o':=.lst ys) (d':=.list es) e p2 q1 g4) w1
   | _=>exact (q4:False).elim
  | _=>exact (g4:False).elim
 ·exact w1.elim
section
variable {X:Cx}{K:Fg}{e e1:Expr}{td:TD}{p2 pos pos':Pos}
theorem s_setAll{j:Nat}(ho:WE X e1 (argT K (.inl j)))(hv:WE X e (lift K td))(hs:notComp e=true:=by rfl):WS X (.Assign [.Subscript e1 (.Slice none none none p2) pos'] e pos) (liftS K (dSetAll j td)):=⟨psM (ps_allset ho.h hv.h (swaps_of hs)) l_setAll⟩
end
noncomputable def ioC(a b c:Addr):Nat->Option Addr:=λj=>match j with
 | 0=>some a
 | 2=>some b
 | 3=>some c
 | _=>none
theorem ioC_some{a b c x:Addr}{j:Nat}(h:ioC a b c j=some x):(j=0/\x=a)\/(j=2/\x=b)\/(j=3/\x=c):=by
 unfold ioC at h
 split at h
 ·cases h;exact .inl ⟨rfl,rfl⟩
 ·cases h;exact .inr (.inl ⟨rfl,rfl⟩)
 ·cases h;exact .inr (.inr ⟨rfl,rfl⟩)
 ·cases h
section
variable {K:Fg}{G:Gh}{F F' H H':Hp}{σ:L2.St}{ρ:Ev}
theorem own3{v1 v5:V}{a b c x:Addr}{d e f d1 d5:D}{i:Nat}{t:Sl}(q:([some (.io d),some (.fz d1),some (.io e),some (.io f),some (.fz d5)]:Ev)[i]?=some (some t))(w:isOw t=true)(z:([some (.ref a),some v1,some (.ref b),some (.ref c),some v5]:L2.St)[i]?=some (some (.ref x))) :
  (i=0/\x=a)\/(i=2/\x=b)\/(i=3/\x=c):=by
 match i,q,z with
 | 0,q,z=>cases z;exact .inl ⟨rfl,rfl⟩
 | 1,q,z=>cases q;cases w
 | 2,q,z=>cases z;exact .inr (.inl ⟨rfl,rfl⟩)
 | 3,q,z=>cases z;exact .inr (.inr ⟨rfl,rfl⟩)
 | 4,q,z=>cases q;cases w
 | i+5,q,z=>cases q
theorem rel_call3{v1 v5:V}{d1 d5 d e f:D}{a b c:Addr}{o p r:HO}(s:Sub F H)(hab:a≠b)(hac:a≠c)(hbc:b≠c)(h1:F a=none)(h2:H a=some o)(h3:Own1 K F o d)(g1:F b=none)(g2:H b=some p)(g3:Own1 K F p e)(k1:F c=none)(k2:H c=some r)(k3:Own1 K F r f)
  (da1:Da K F v1 d1) (da5:Da K F v5 d5):Rel K ⟨H,F,ioC a b c⟩ F [some (.ref a),some v1,some (.ref b),some (.ref c),some v5] H [some (.io d),some (.fz d1),some (.io e),some (.io f),some (.fz d5)] where
 len:=rfl
 sub:=s
 sub0:=Sub.refl _
 fn:=λ_ _ e=>.inl e
 keep:=λ_ _ e _=>e
 fz:=λi d' q=>by
  match i,q with
  | 0,q=>cases q
  | 1,q=>cases q;exact ⟨v1,rfl,da1⟩
  | 2,q=>cases q
  | 3,q=>cases q
  | 4,q=>cases q;exact ⟨v5,rfl,da5⟩
  | i+5,q=>cases q
 ow:=λi t q w=>by
  match i,q with
  | 0,q=>cases q;exact ⟨a,o,rfl,h1,h2,h3⟩
  | 1,q=>cases q;cases w
  | 2,q=>cases q;exact ⟨b,p,rfl,g1,g2,g3⟩
  | 3,q=>cases q;exact ⟨c,r,rfl,k1,k2,k3⟩
  | 4,q=>cases q;cases w
  | i+5,q=>cases q
 new:=λi d' x q _=>by
  match i,q with
  | 0,q=>cases q
  | 1,q=>cases q
  | 2,q=>cases q
  | 3,q=>cases q
  | 4,q=>cases q
  | i+5,q=>cases q
 io:=λi x q=>by
  rcases ioC_some q with⟨rfl,rfl⟩|⟨rfl,rfl⟩|⟨rfl,rfl⟩
  ·exact ⟨d,rfl,rfl⟩
  ·exact ⟨e,rfl,rfl⟩
  ·exact ⟨f,rfl,rfl⟩
 ioi:=λi d' q=>by
  match i,q with
  | 0,q=>exact ⟨a,rfl⟩
  | 1,q=>cases q
  | 2,q=>exact ⟨b,rfl⟩
  | 3,q=>exact ⟨c,rfl⟩
  | 4,q=>cases q
  | i+5,q=>cases q
 ap:=λi j t u x e1 w1 e2 w2 x1 x2=>by
  rcases own3 e1 w1 x1 with⟨rfl,rfl⟩|⟨rfl,rfl⟩|⟨rfl,rfl⟩<;>rcases own3 e2 w2 x2 with⟨rfl,z⟩|⟨rfl,z⟩|⟨rfl,z⟩
  ·rfl
  ·exact (hab z).elim
  ·exact (hac z).elim
  ·exact (hab z.symm).elim
  ·rfl
  ·exact (hbc z).elim
  ·exact (hac z.symm).elim
  ·exact (hbc z.symm).elim
  ·rfl
theorem OpdsAt.five{vs:List V}{x1 x2 x3 x4 x5:Opd}(h:OpdsAt K F σ vs [x1,x2,x3,x4,x5]):∃v1 v2 v3 v4 v5,vs=[v1,v2,v3,v4,v5]/\OpdAt K F σ v1 x1/\OpdAt K F σ v2 x2/\OpdAt K F σ v3 x3/\OpdAt K F σ v4 x4/\OpdAt K F σ v5 x5:=by
 cases h with
 | cons h1 h =>
  cases h with
  | cons h2 h =>
   cases h with
   | cons h3 h =>
    cases h with
    | cons h4 h =>
     cases h with
     | cons h5 h=>cases h;exact ⟨_,_,_,_,_,rfl,h1,h2,h3,h4,h5⟩
noncomputable def dCall3(con:Con)(i j m:Nat)(ta tb:TD):TD:=λρ Q=>dArgs [.inl i,.inr ta,.inl j,.inl m,.inr tb] ρ λxs ρ1=>match xs with
 | [.inl i,.inr d1,.inl j,.inl m,.inr d5]=>match ρ1[i]?,ρ1[j]?,ρ1[m]? with
  | some (some s),some (some t),some (some u)=>isOw s=true/\isOw t=true/\isOw u=true/\i≠j/\i≠m/\j≠m/\con [.io s.d,.fz d1,.io t.d,.io u.d,.fz d5] λr outs=>match r,outs with
   | .fz d0,some (.io d') :: _ :: some (.io e') :: some (.io f') :: _=>Q (.fz d0) (((ρ1.set i (some (s.put d'))).set j (some (t.put e'))).set m (some (u.put f')))
   | _,_=>False
  | _,_,_=>False
 | _=>False
theorem l_call3{con:Con}{i j m:Nat}{ta tb:TD}{E:XK}{Q:VK}(h:lift K (dCall3 con i j m ta tb) σ H Q):tCall (conSp K con) [] E (tArgs ([.inl i,.inr ta,.inl j,.inl m,.inr tb].map (argT K))) σ H Q:=by
 obtain⟨G,F,ρ,Qd,R,w,k⟩:=h
 refine args_ok R w λvs H1 F1 xs ρ1 s1 R1 op w1=>?_
 split at w1
 rotate_left
 ·exact w1.elim
 rename_i i d1 j m d5
 split at w1
 rotate_left
 ·exact w1.elim
 rename_i s t u e1 e2 e3
 obtain⟨ws,wt,wu,hij,him,hjm,w1⟩:=w1
 obtain⟨v0,v1,v2,v3,v4,rfl,o1,o2,o3,o4,o5⟩:=op.five
 have o1:σ[i]?=some (some v0):=o1
 have o3:σ[j]?=some (some v2):=o3
 have o4:σ[m]?=some (some v3):=o4
 obtain⟨a,o,a1,a2,a3,a4⟩:=R1.ow i s e1 ws
 obtain⟨b,p,b1,b2,b3,b4⟩:=R1.ow j t e2 wt
 obtain⟨c,r0,c1,c2,c3,c4⟩:=R1.ow m u e3 wu
 rw[o1]at a1;cases a1
 rw[o3]at b1;cases b1
 rw[o4]at c1;cases c1
 have hab:a≠b:=λz=>hij (R1.ap i j s t a e1 ws e2 wt o1 (by rw[o3,z]))
 have hac:a≠c:=λz=>him (R1.ap i m s u a e1 ws e3 wu o1 (by rw[o4,z]))
 have hbc:b≠c:=λz=>hjm (R1.ap j m t u b e2 wt e3 wu o3 (by rw[o4,z]))
 refine ⟨_,F1,[.io s.d,.fz d1,.io t.d,.io u.d,.fz d5],_,rel_call3 R1.sub hab hac hbc a2 a3 a4 b2 b3 b4 c2 c3 c4 o2 o5,w1,λv H' F' r ρ' s' R' r' q=>?_⟩
 split at q
 ·rename_i d0 d' y e' f' ρ2
  obtain⟨a',oa,x1,x2,x3,x4⟩:=R'.ow 0 (.io d') rfl rfl
  cases x1
  obtain⟨b',pb,y1,y2,y3,y4⟩:=R'.ow 2 (.io e') rfl rfl
  cases y1
  obtain⟨c',rc,z1,z2,z3,z4⟩:=R'.ow 3 (.io f') rfl rfl
  cases z1
  have R2:Rel K G F' σ (upd (upd (upd H' a o) b p) c r0) ρ1:=by
   refine R1.grown R'.sub0 (λx u z=>?_) (λx u z=>R'.fn x u z) λx u z=>?_
   ·have n1:x≠a:=λe=>by rw[e,x2]at z;cases z
    have n2:x≠b:=λe=>by rw[e,y2]at z;cases z
    have n3:x≠c:=λe=>by rw[e,z2]at z;cases z
    rw[upd_ne n3,upd_ne n2,upd_ne n1]
    exact R'.sub _ _ z
   ·by_cases n3:x=c
    ·subst n3;rw[upd_same,<- c3,z]
    ·rw[upd_ne n3]
     by_cases n2:x=b
     ·subst n2;rw[upd_same,<- b3,z]
     ·rw[upd_ne n2]
      by_cases n1:x=a
      ·subst n1;rw[upd_same,<- a3,z]
      ·rw[upd_ne n1]
       refine R'.keep x u z λl zl=>?_
       rcases ioC_some zl with⟨_,h⟩|⟨_,h⟩|⟨_,h⟩
       ·exact n1 h
       ·exact n2 h
       ·exact n3 h
  have R3:=R2.change (o':=oa) (d':=d') e1 ws o1 x4
  have e2':(ρ1.set i (some (s.put d')))[j]?=some (some t):=by rw[V0 hij];exact e2
  have R4:=R3.change (o':=pb) (d':=e') e2' wt o3 y4
  have e3':((ρ1.set i (some (s.put d'))).set j (some (t.put e')))[m]?=some (some u):=by rw[V0 hjm,V0 him];exact e3
  have R5:=R4.change (o':=rc) (d':=f') e3' wu o4 z4
  have eh:upd (upd (upd (upd (upd (upd H' a o) b p) c r0) a oa) b pb) c rc=H':=by
   funext x
   by_cases n3:x=c
   ·subst n3;rw[upd_same];exact z3.symm
   ·rw[upd_ne n3]
    by_cases n2:x=b
    ·subst n2;rw[upd_same];exact y3.symm
    ·rw[upd_ne n2]
     by_cases n1:x=a
     ·subst n1;rw[upd_same];exact x3.symm
     ·rw[upd_ne n1,upd_ne n3,upd_ne n2,upd_ne n1]
  rw[eh]at R5
  exact k v H' F' (.fz d0) _ (s1.trans s') R5 r' q
 ·exact q.elim
end
section
variable {X:Cx}{K:Fg}{e:Expr}{es:List Expr}{x:Str}{p pos:Pos}
theorem w_fn3{k i j m:Nat}{ta tb:TD}{ps:List Str}{con:Con}(C:Cal X.prog X.w X.K X.mg X.base k x ps (conSp K con))(hr:Room k X.A)(ha:WA X (e :: es) (tArgs ([Sum.inl i,Sum.inr ta,Sum.inl j,Sum.inl m,Sum.inr tb].map (argT K))))(hg:Gl X x:=by rfl)(hdb:(x==("__debug__":Str))=false:=by decide)
  (he:notStar e=true:=by rfl) (hpl:es.all notStar=true:=by rfl):WE X (.Call (.Name x p) (e :: es) [] pos) (lift K (dCall3 con i j m ta tb)):=⟨peM (pe_fn C hr ha.h hg hdb (starEach_of he) (plain_of hpl)) l_call3⟩
end
end L3
namespace L2
open PySem PySem.Spec PyProof.Rows
noncomputable def rPGet:R2:=λx y H Q=>∃(d d' b:Addr) (ep:Nat) (xs:List (List Int×Addr×V)) (k:List Int) (c:Addr) (v:V),x=.ref d/\y=.ref b/\H d=some (extD hL d' ep xs)/\(∀z∈xs,H z.2.1=some (.tup (z.1.map V.int)))/\H b=some (.tup (k.map V.int))/\(k,c,v)∈xs/\Q v H
theorem pe_pget{X:Cx}{o i:Expr}{td ty:TE}{pos:Pos}(hu:X.A.units+6 < cLine)(ho:PE X o td)(hi:PE X i ty)(hs:NoSl i):PE X (.Subscript o i pos) (tOp rPGet td ty):=by
 intro pins s σ H Q I h
 refine subD_of PySem.F.slot_dict_getitem.lookup hs (thn (ho pins s σ H _ I h) λu s1 ⟨x,H1,I1,rx,q1⟩=>thn (hi pins s1 σ H1 _ I1 q1) λiv s2 ⟨y,H2,I2,ry,q2⟩=>?_)
 obtain⟨d,d',b,ep,xs,k,c,v,ex,ey,hd,hk,hb,hm,q⟩:=q2
 subst ex ey
 obtain rfl:u=Z1 d:=rx
 obtain rfl:iv=Z1 b:=ry
 obtain⟨vs,ob,es,pr,e1,e2,e3,e4,hz,hnd,_,_⟩:=ext_at I2 hd
 have key:∀{k:List Int}{b:Addr},H2 b=some (.tup (k.map V.int))->(tupleKind (intKind X.prog X.w)).is s2.heap k b:=λ{k b} hb=>by
  obtain⟨_,its,r,o,h1,h2,n,h3,_⟩:=(show ObjOk X.prog X.w H2 s2.heap b (.tup (k.map V.int)) from I2.hok _ _ hb)
  exact ⟨o,its.toArray,n,h1,h2,h3,by simpa using ints_are r⟩
 refine ⟨⟨ob,e1,e2.1⟩,?_⟩
 obtain⟨j,hj⟩:=i5.mp hm
 obtain⟨⟨k',b',w'⟩,hv,r1,r2,r3⟩:=prd_get pr hj
 have r1:k=k':=r1
 subst r1
 have hvn:(vs.map (·.1)).Nodup:=by rw[prd_keys pr];exact hnd
 have hall:∀x∈vs,(tupleKind (intKind X.prog X.w)).is s2.heap x.1 x.2.1:=λx hx=>by
  obtain⟨x',hx',r1,r2,_⟩:=prd_mem pr x hx
  have:=key (hk x' hx')
  rw[r1,r2]at this
  exact this
 exact wpAny_getItem_heap (knd:=tupleKind (intKind X.prog X.w)) (tupleKind_room_in1 (show X.A.units+1 < cLine by omega)) (key hb) ⟨ob,es,ep,e1,e2,e3,e4,hall,hvn⟩ (atKey_of_get hvn hv) ⟨v,H2,I2.tok _,r3,q⟩
end L2
namespace L3
open PySem PySem.Spec PyProof.Rows L2
noncomputable def fPGet:D->D->(Sl->Prop)->Prop
 | .dict [(.bool false,.list L)],.tuple ds,Q=>∃(ps:List (List Int×D)) (k:List Int) (d:D),L=ps.map (λp=>.tuple [tI p.1,p.2])/\ds=k.map j0/\(k,d)∈ps/\Q (.fz d)
 | _,_,_=>False
theorem DaPd.has{K:Fg}{F:Hp}{k:List Int}{d:D}:∀{xs:List (List Int×Addr×V)}{ps:List (List Int×D)},DaPd K F xs ps->(k,d)∈ps->∃b v,(k,b,v)∈xs/\Da K F v d
 | _,_,.nil,h=>by cases h
 | _,_,.cons e h t,z=>by
  rcases Y0.mp z with q|q
  ·cases q;exact ⟨_,_,B0,h⟩
  ·obtain⟨b,v,hb,hv⟩:=DaPd.has t q
   exact ⟨b,v,A0 _ hb,hv⟩
theorem ok_pget{K:Fg}:OpOk K (r2L rPGet) (o2 fPGet):=ok2 λG F σ H ρ x y d e Q Qd R h1 h2 w k=>by
 unfold fPGet at w
 split at w
 rotate_left
 ·exact w.elim
 rename_i L ds w
 obtain⟨ps,kk,d0,hL',rfl,hm,w⟩:=w
 obtain⟨b,b',ep,ys,qs,rfl,hb,t,hq⟩:=pd_at R.sub h1
 have e3:ps=qs:=pd_inj (by unfold pdD;rw[<- hL',hq])
 subst e3
 obtain⟨c,us,rfl,hc1,hc2,hd⟩:=h2.tuple R.sub
 rw[hd.intsV]at hc2
 obtain⟨b0,v,hv,dv⟩:=t.has hm
 exact ⟨b,b',c,ep,ys,kk,b0,v,rfl,rfl,hb,λz hz=>R.sub _ _ (t.at z hz),hc2,hv,k _ _ F (.fz d0) (Sub.refl _) R dv w⟩
section
variable {X:Cx}{K:Fg}{e1 e2:Expr}{a b:AD}{pos:Pos}
theorem w_pget(hu:X.A.units+6 < cLine)(ha:WE X e1 (argT K a))(hb:WE X e2 (argT K b))(hs:NoSl e2:=by exact λ_ _=>rfl):WE X (.Subscript e1 e2 pos) (lift K (dOp [a,b] (o2 fPGet))):=⟨cv2 ok_pget (pe_pget hu ha.h hb.h hs)⟩
end
end L3
namespace R17
open PySem L2 L3 PyProof.Rows
noncomputable def top(i:Nat):Stmt:=PySem.Challenge.pw_boxsums_k17_box_covers_and_answers.main.body.getD i (.Pass ⟨0,0,0,0⟩)
structure Txt(mg:Str->Option Value):Prop where
 len_:mg "len"=none
 abs_:mg "abs"=none
 max_:mg "max"=none
 min_:mg "min"=none
 zip_:mg "zip"=none
 int_:mg "int"=none
 bool_:mg "bool"=none
 range_:mg "range"=none
 repr_:mg "repr"=none
 sorted_:mg "sorted"=none
 isinstance_:mg "isinstance"=none
 list_:mg "list"=none
 tuple_:mg "tuple"=none
 all_:mg "all"=none
 sum_:mg "sum"=none
 dict_:mg "dict"=none
section
variable {P:Program}{w:World}{K:u0}{mg:Str->Option Value}{base:Heap}
noncomputable abbrev penD(ns:List Int)(k l:Int):PyData:=.list [scrD ns,.int k,.int l]
noncomputable def cPen:Con:=λargs Q=>∃ns:List Int,args=[.fz (scrD ns)]/\∀o,Q (.ow (penD ns 0 0)) o
theorem scPen:FnScope ["_law_script"] ["_law_script"] (defScope (top 13)):=⟨rfl,rfl,rfl,by decide +kernel,rfl,by decide +kernel,by decide +kernel⟩
theorem ok_pen{f:Addr}{fd:FuncData}(F:Fun K "_law_pen" "_law_pen" (top 13) f fd):FnOk P w K mg base CX0 1 f fd ["_law_script"] (conSp K cPen):=by
 have S:=scPen
 refine wfn F S (λcdv A outer s H E hr=>(s_one (s_ret (w_lst (wa_cons (wx (wv 0)) (wa_cons (wx w_int) (wa_cons (wx w_int) wa_nil))))))) ?_ ?_
 ·rintro args Qd ⟨ns,rfl,_⟩;rfl
 ·rintro args Qd ⟨ns,rfl,q⟩
  exact ⟨noOw_of rfl,q _⟩
noncomputable def cTake:Con:=λargs Q=>∃(ns:List Int) (k l m:Int),args=[.io (penD ns k l),.fz (.int m)]/\0<=k/\0<=l/\0 < m/\m < 1000000 /\
 ∀(r k' l':Int) (o:Ev),0<=r->r < m->0<=k'->0<=l'->Q (.fz (.int r)) (some (.io (penD ns k' l')) :: o)
theorem scTake:FnScope ["_law_pen_here","_law_most_here","_law_found","_law_at","_law_cell","_law_number_here"] ["_law_pen_here","_law_most_here"] (defScope (top 14)):=⟨rfl,rfl,rfl,by decide +kernel,rfl,by decide +kernel,by decide +kernel⟩
theorem ok_take{f:Addr}{fd:FuncData}(F:Fun K "_law_take" "_law_take" (top 14) f fd)(T:Txt mg):FnOk P w K mg base CX0 1 f fd ["_law_pen_here","_law_most_here"] (conSp K cTake):=by
 have S:=scTake
 refine wfn F S (λcdv A outer s H E hr=>(s_cons (s_if (t_cmp ok_gt op_gt (wx (w_ix rfl (wn 0) (wx w_int))) (wx w_int)) (s_cons (s_set (i:=2) S.nd rfl (Or.inl rfl) (w_bin ok_mod op_mod (wx (w_ix rfl (wn 0) (wx w_int))) (wn 1)))
     (s_cons (s_ix (w_bin ok_fdiv op_fdiv (wx (w_ix rfl (wn 0) (wx w_int))) (wn 1)) (wn 0) (wx w_int))
     (s_one (s_retV (wn 2))))) s_nil)
     (s_cons (s_set (i:=3) S.nd rfl (Or.inl rfl) (w_ix rfl (wn 0) (wx w_int)))
     (s_cons (s_ix (w_bin ok_add op_addD (wn 3) (wx w_int)) (wn 0) (wx w_int))
     (s_cons (s_set (i:=4) S.nd rfl (Or.inl rfl) w_int)
     (s_cons (s_if (t_cmp ok_gt op_gt (wx (w_callB ok_len (call_lenK (K:=K) rfl) T.len_ PySem.boot_len (wa_cons (wx (w_ix rfl (wn 0) (wx w_int))) wa_nil))) (wx w_int)) (s_one (s_set (i:=4) S.nd rfl (Or.inl rfl) (w_ix rfl (wx (w_ix rfl (wn 0) (wx w_int))) (wx (w_bin ok_mod op_mod (wn 3) (wx (w_callB ok_len (call_lenK (K:=K) rfl) T.len_ PySem.boot_len (wa_cons (wx (w_ix rfl (wn 0) (wx w_int))) wa_nil)))))))) s_nil)
     (s_cons (s_if (t_w (t_and (t_cmp ok_lt op_lt (wn 3) (wx (w_callB ok_len (call_lenK (K:=K) rfl) T.len_ PySem.boot_len (wa_cons (wx (w_ix rfl (wn 0) (wx w_int))) wa_nil)))) (t_and1 (t_cmp ok_ge op_ge (wx (w_callB ok_abs call_abs T.abs_ boot_abs (wa_cons (wn 4) wa_nil))) (wx (w_bin ok_pow op_pow (wx w_int) (wx w_int))))))) (s_cons (s_ix (w_bin ok_fdiv op_fdiv (wx (w_callB ok_abs call_abs T.abs_ boot_abs (wa_cons (wn 4) wa_nil))) (wn 1)) (wn 0) (wx w_int))
     (s_one (s_ret (w_bin ok_mod op_mod (wx (w_callB ok_abs call_abs T.abs_ boot_abs (wa_cons (wn 4) wa_nil))) (wn 1))))) s_nil)
     (s_cons (s_set (i:=5) S.nd rfl (Or.inl rfl) (w_bin ok_mod op_mod (wx (w_bin ok_mul op_mulD (wx (w_bin ok_add op_addD (wx (w_bin ok_add op_addD (wx (w_bin ok_mod op_mod (wn 4) (wx w_int))) (wx (w_bin ok_mul op_mulD (wx w_int) (wn 3))))) (wx w_int))) (wx w_int))) (wx w_int)))
     (s_cons (s_set (i:=5) S.nd rfl (Or.inl rfl) (w_bin ok_mod op_mod (wx (w_bin ok_add op_addD (wx (w_bin ok_add op_addD (wx (w_bin ok_mul op_mulD (wn 5) (wn 5))) (wx (w_bin ok_mul op_mulD (wx w_int) (wn 5))))) (wn 3))) (wx w_int)))
     (s_one (s_ret (w_bin ok_mod op_mod (wx (w_bin ok_fdiv op_fdiv (wn 5) (wx w_int))) (wn 1))))))))))))) ?_ ?_
 ·rintro args Qd ⟨ns,k,l,m,rfl,_⟩;rfl
 ·rintro args Qd ⟨ns,k,l,m,rfl,hk,hl,m0,m1,q⟩
  have hmd:∀x:Int,0<=x % m/\x % m < m:=λx=>⟨Int.emod_nonneg _ (by omega),Int.emod_lt_of_pos _ m0⟩
  refine ⟨noOw_of rfl,?_⟩
  refine ⟨_,rfl,?_⟩
  refine ite2 (λh1=>?_) (λh1=>?_)
  ·refine ⟨_,rfl,m0,_,rfl,⟨m0,by omega⟩,2,rfl,?_⟩
   exact q _ _ _ _ (hmd _).1 (hmd _).2 hk (Int.ediv_nonneg hl (by omega))
  refine ⟨_,rfl,?_⟩
  refine ⟨1,rfl,?_⟩
  refine ⟨_,rfl,ns,rfl,?_⟩
  have ab:∀c:Int,0<=(if c < 0 then -c else c):=λc=>by split<;>omega
  have pos:∀n:Nat,0 < n->0<=k % (n:Int)/\k % (n:Int) < n:=λn hn=>⟨Int.emod_nonneg _ (by omega),Int.emod_lt_of_pos _ (by omega)⟩
  refine ite2 (λh2=>?_) (λh2=>?_)
  ·have h2:0 < ns.length:=by have:(0:Int) < (ns.length:Int):=of_decide_eq_true h2;omega
   obtain⟨j,hj⟩:=Int.eq_ofNat_of_zero_le (pos _ h2).1
   have hjl:j < ns.length:=by have:=(pos _ h2).2;omega
   refine ⟨_,rfl,_,rfl,ns,rfl,by show (0:Int) < (ns.length:Int);omega,ns,ns[j],rfl,by rw[hj];exact atI_nat (O0 hjl),?_⟩
   refine ⟨_,rfl,ns,rfl,?_⟩
   refine ite2 (λh3=>?_) (λh3=>?_)
   ·refine ⟨⟨by decide,by decide,by decide⟩,?_⟩
    refine ite2 (λh4=>?_) (λh4=>?_)
    ·refine ⟨⟨m0,by omega⟩,2,rfl,m0,?_⟩
     exact q _ _ _ _ (hmd _).1 (hmd _).2 (by omega) (Int.ediv_nonneg (ab _) (by omega))
    ·refine ⟨by show (0:Int) < 2147483587;decide,.inl ⟨by decide,by decide⟩,.inr ⟨by decide,by decide⟩,by show (0:Int) < 2147483647;decide,?_⟩
     refine ⟨.inl ⟨by omega,by omega⟩,.inl ⟨by decide,by decide⟩,by show (0:Int) < 2147483629;decide,?_⟩
     exact ⟨⟨by decide,by decide⟩,m0,q _ _ _ _ (hmd _).1 (hmd _).2 (by omega) hl⟩
   ·refine ⟨by show (0:Int) < 2147483587;decide,.inl ⟨by decide,by decide⟩,.inr ⟨by decide,by decide⟩,by show (0:Int) < 2147483647;decide,?_⟩
    refine ⟨.inl ⟨by omega,by omega⟩,.inl ⟨by decide,by decide⟩,by show (0:Int) < 2147483629;decide,?_⟩
    exact ⟨⟨by decide,by decide⟩,m0,q _ _ _ _ (hmd _).1 (hmd _).2 (by omega) hl⟩
  ·refine ⟨_,rfl,ns,rfl,?_⟩
   refine ite2 (λh3=>?_) (λh3=>?_)
   ·exfalso
    have h3:k < (ns.length:Int):=of_decide_eq_true h3
    refine h2 (decide_eq_true ?_)
    omega
   ·refine ⟨by show (0:Int) < 2147483587;decide,.inl ⟨by decide,by decide⟩,.inr ⟨by decide,by decide⟩,by show (0:Int) < 2147483647;decide,?_⟩
    refine ⟨.inl ⟨by omega,by omega⟩,.inl ⟨by decide,by decide⟩,by show (0:Int) < 2147483629;decide,?_⟩
    exact ⟨⟨by decide,by decide⟩,m0,q _ _ _ _ (hmd _).1 (hmd _).2 (by omega) hl⟩
end
open PySem PySem.Spec L2 L3 PyProof.Rows
noncomputable def hl(lo hi:Int):List (List Int):=[lo,hi] :: if h:lo < hi then hl ((lo+hi) / 2+1) hi++hl lo ((lo+hi) / 2) else []
termination_by (hi - lo).toNat
decreasing_by all_goals omega
theorem hl_lt{lo hi:Int}(h:lo < hi):hl lo hi=[lo,hi] :: (hl ((lo+hi) / 2+1) hi++hl lo ((lo+hi) / 2)):=by rw[hl,dif_pos h]
theorem hl_ge{lo hi:Int}(h:¬lo < hi):hl lo hi=[[lo,hi]]:=by rw[hl,dif_neg h]
theorem hl_len:∀(n:Nat) (lo hi:Int),(hi - lo).toNat=n->lo<=hi->((hl lo hi).length:Int)=2 * (hi - lo+1) - 1:=by
 intro n
 induction n using J6 with
 | _ n ih =>
  intro lo hi e h
  by_cases hlt:lo < hi
  ·rw[hl_lt hlt,V1,M0]
   have h1:=ih _ (by omega) ((lo+hi) / 2+1) hi rfl (by omega)
   have h2:=ih _ (by omega) lo ((lo+hi) / 2) rfl (by omega)
   omega
  ·rw[hl_ge hlt]
   simp
   omega
noncomputable abbrev prD(p:Int×Int):PyData:=.tuple [.int p.1,.int p.2]
noncomputable abbrev rwD(r:List Int):PyData:=.tuple (r.map j0)
noncomputable def pile(wt:List (Int×Int)):List (List Int):=wt.reverse.flatMap λp=>hl p.1 p.2
theorem pile_snoc(wt:List (Int×Int))(p:Int×Int):pile (wt++[p])=hl p.1 p.2++pile wt:=by simp[pile]
theorem hl_pos(a b:Int):1<=(hl a b).length:=by rw[hl];simp
theorem pile_len(wt:List (Int×Int)):wt.length<=(pile wt).length:=by
 induction wt with
 | nil=>simp
 | cons p wt ih =>
  have e:pile (p :: wt)=pile wt++hl p.1 p.2:=by simp[pile]
  have:=hl_pos p.1 p.2
  rw[e,M0,V1]
  omega
theorem hl_ne:∀(n:Nat) (lo hi:Int),(hi - lo).toNat=n->∀r∈hl lo hi,r≠[]:=by
 intro n
 induction n using J6 with
 | _ n ih =>
  intro lo hi e r hr
  by_cases hlt:lo < hi
  ·rw[hl_lt hlt]at hr
   rcases Y0.mp hr with rfl|hr
   ·simp
   ·rcases W1.mp hr with hr|hr
    ·exact ih _ (by omega) _ _ rfl r hr
    ·exact ih _ (by omega) _ _ rfl r hr
  ·rw[hl_ge hlt]at hr
   simp at hr
   subst hr
   simp
theorem hl_in:∀(n:Nat) (lo hi:Int),(hi - lo).toNat=n->lo<=hi->∀r∈hl lo hi,∃a b:Int,r=[a,b]/\lo<=a/\a<=b/\b<=hi:=by
 intro n
 induction n using J6 with
 | _ n ih =>
  intro lo hi e h r hr
  by_cases hlt:lo < hi
  ·rw[hl_lt hlt]at hr
   rcases Y0.mp hr with rfl|hr
   ·exact ⟨lo,hi,rfl,by omega,by omega,by omega⟩
   ·rcases W1.mp hr with hr|hr
    ·obtain⟨a,b,e,h1,h2,h3⟩:=ih _ (by omega) _ _ rfl (by omega) r hr
     exact ⟨a,b,e,by omega,h2,by omega⟩
    ·obtain⟨a,b,e,h1,h2,h3⟩:=ih _ (by omega) _ _ rfl (by omega) r hr
     exact ⟨a,b,e,by omega,h2,by omega⟩
  ·rw[hl_ge hlt]at hr
   simp at hr
   subst hr
   exact ⟨lo,hi,rfl,by omega,by omega,by omega⟩
section
variable {P:Program}{w:World}{K:u0}{mg:Str->Option Value}{base:Heap}
noncomputable def cTwo:Con:=λargs Q=>∃a b:Int,args=[.fz (prD (a,b))]/\0<=a/\0<=b/\a<=10000/\b<=10000/\∀o,Q (.ow (.list [prD (a,(a+b) / 2),prD ((a+b) / 2+1,b)])) o
theorem scTwo:FnScope ["stretch","middle"] ["stretch"] (defScope (top 4)):=⟨rfl,rfl,rfl,by decide +kernel,rfl,by decide +kernel,by decide +kernel⟩
theorem ok_two{f:Addr}{fd:FuncData}(F:Fun K "two_halves" "two_halves" (top 4) f fd):FnOk P w K mg base CX0 1 f fd ["stretch"] (conSp K cTwo):=by
 have S:=scTwo
 refine wfn F S (λcdv A outer s H E hr=>(s_cons (s_set (i:=1) S.nd rfl (Or.inl rfl) (w_bin ok_fdiv op_fdiv (wx (w_bin ok_add op_addD (wx (w_ix rfl (wn 0) (wx w_int))) (wx (w_ix rfl (wn 0) (wx w_int))))) (wx w_int)))
     (s_one (s_ret (w_lst (wa_cons (wx (w_tup (wa_cons (wx (w_ix rfl (wn 0) (wx w_int))) (wa_cons (wx (wv 1)) wa_nil)))) (wa_cons (wx (w_tup (wa_cons (wx (w_bin ok_add op_addD (wn 1) (wx w_int))) (wa_cons (wx (w_ix rfl (wn 0) (wx w_int))) wa_nil)))) wa_nil))))))) ?_ ?_
 ·rintro args Qd ⟨a,b,rfl,_⟩;rfl
 ·rintro args Qd ⟨a,b,rfl,a0,b0,a1,b1,q⟩
  refine ⟨noOw_of rfl,?_⟩
  refine ⟨_,rfl,_,rfl,⟨by decide,by decide⟩,?_⟩
  refine ⟨_,rfl,_,rfl,?_⟩
  exact q _
structure CalsS(P:Program)(w:World)(K:u0)(mg:Str->Option Value)(base:Heap):Prop where
 two_halves:Cal P w K mg base 1 "two_halves" ["stretch"] (conSp K cTwo)
end
section
variable {P:Program}{w:World}{K:u0}{mg:Str->Option Value}{base:Heap}
theorem wt_nice(wt:List (Int×Int)):Nice 2 (.list (wt.map prD)):=.list λd hd=>by
 obtain⟨p,_,rfl⟩:=J0.mp hd
 exact Nice.tup [p.1,p.2]
theorem wt_mix(wt:List (Int×Int)):SeqAt.noMix (.list (wt.map prD)) (.list [])=true:=by cases wt<;>simp[SeqAt.noMix,SeqAt.noMixAll]
theorem wt_same(wt:List (Int×Int)):same (.list (wt.map prD)) (.list [])=decide (wt=[]):=by cases wt<;>simp[same,sameAll]
noncomputable def cLSt:Con:=λargs Q=>∃n:Int,args=[.fz (.int n)]/\1<=n/\n<=1000/\∀(rows:List (List Int)) (o:Ev),rows.Perm (hl 0 (n - 1))->rows.Pairwise (λa b=>HT.lexLt b a=false)->Q (.ow (.list (rows.map rwD))) o
theorem scLSt:FnScope ["_law_side","_law_found","_law_waiting","_law_low","_law_high"] ["_law_side"] (defScope (top 21)):=⟨rfl,rfl,rfl,by decide +kernel,rfl,by decide +kernel,by decide +kernel⟩
theorem ok_lst_{f:Addr}{fd:FuncData}(F:Fun K "_law_stretches" "_law_stretches" (top 21) f fd)(T:Txt mg):FnOk P w K mg base CX0 1 f fd ["_law_side"] (conSp K cLSt):=by
 have S:=scLSt
 refine wfn F S (λcdv A outer s H E hr=>(s_cons (s_set (i:=1) S.nd rfl (Or.inl rfl) (w_lst wa_nil))
     (s_cons (s_set (i:=2) S.nd rfl (Or.inl rfl) (w_lst (wa_cons (wx (w_tup (wa_cons (wx w_int) (wa_cons (wx (w_bin ok_sub op_sub (wn 0) (wx w_int))) wa_nil)))) wa_nil)))
     (s_cons (s_while PassesOwn.never (t_cmp ok_ne (op_neE (K:=K) rfl hr.units) (wn 2) (wx (w_lst wa_nil))) (s_cons (s_asgG (w_m0 ok_pop rfl PySem.F.slot_list_pop PySem.F.type_list_pop mt_pop (wn 2)) (g_tup rfl rfl (gs_cons (g_name (i:=3) S.nd rfl (Or.inl rfl)) (gs_cons (g_name (i:=4) S.nd rfl (Or.inl rfl)) gs_nil))))
     (s_cons (s_expr (w_m ok_append rfl PySem.F.slot_list_append PySem.F.type_list_append mt_append (wn 1) (wa_cons (wx (w_tup (wa_cons (wx (wv 3)) (wa_cons (wx (wv 4)) wa_nil)))) wa_nil)))
     (s_one (s_if (t_cmp ok_lt op_lt (wn 3) (wn 4)) (s_cons (s_expr (w_m ok_append rfl PySem.F.slot_list_append PySem.F.type_list_append mt_append (wn 2) (wa_cons (wx (w_tup (wa_cons (wx (wv 3)) (wa_cons (wx (w_bin ok_fdiv op_fdiv (wx (w_bin ok_add op_addD (wn 3) (wn 4))) (wx w_int))) wa_nil)))) wa_nil)))
     (s_one (s_expr (w_m ok_append rfl PySem.F.slot_list_append PySem.F.type_list_append mt_append (wn 2) (wa_cons (wx (w_tup (wa_cons (wx (w_bin ok_add op_addD (wx (w_bin ok_fdiv op_fdiv (wx (w_bin ok_add op_addD (wn 3) (wn 4))) (wx w_int))) (wx w_int))) (wa_cons (wx (wv 4)) wa_nil)))) wa_nil))))) s_nil)))))
     (s_one (s_ret (w_callB ok_sortT (call_sortTK rfl) T.sorted_ boot_sorted (wa_cons (wn 1) wa_nil)))))))) ?_ ?_
 ·rintro args Qd ⟨n,rfl,_⟩;rfl
 ·rintro args Qd ⟨n,rfl,n1,n2,q⟩
  refine ⟨noOw_of rfl,?_⟩
  have hlen:=hl_len _ 0 (n - 1) rfl (by omega)
  refine ⟨λm ρ=>∃(dn:List (List Int)) (wt:List (Int×Int)) (x y:Option Sl),ρ=[some (.fz (.int n)),some (.ow (.list (dn.map rwD))),some (.ow (.list (wt.map prD))),x,y]/\dn++pile wt=hl 0 (n - 1)/\(∀p∈wt,0<=p.1/\p.1<=p.2/\p.2<=1000)/\m=(pile wt).length/\((x=none/\y=none)\/∃d e,x=some (.fz d)/\y=some (.fz e)),⟨_,[],[(0,n - 1)],none,none,rfl,by simp[pile],by simp;omega,rfl,.inl ⟨rfl,rfl⟩⟩,?_⟩
  rintro m ρ ⟨dn,wt,x,y,rfl,hp,hw,rfl,hx⟩
  have nw:=wt_nice wt
  rcases hx with⟨rfl,rfl⟩|⟨xd,xe,rfl,rfl⟩
  all_goals
   refine ⟨nw.p,rfl,nw.sh (by decide),rfl,wt_mix wt,?_⟩
   refine ite2 (λh=>?_) (λh=>?_)
   ·refine ⟨λρ'=>∃m',m' < (pile wt).length/\_,λρ' h=>h,?_⟩
    obtain⟨wt',p,rfl⟩:∃wt' p,wt=wt'++[p]:=by
     rcases G8 wt with e|⟨a,b,e⟩
     ·subst e;exact absurd h (by show ¬((!same (.list (([]:List (Int×Int)).map prD)) (.list []))=true);rw[wt_same];decide)
     ·exact ⟨a,b,by simpa using e⟩
    have e1:((wt'++[p]).map prD)[((wt'++[p]).map prD).length - 1]?=some (prD p):=by simp
    have e2:((wt'++[p]).map prD).dropLast=wt'.map prD:=by simp
    have ea:(dn++[[p.1,p.2]]).map rwD=dn.map rwD++[prD p]:=by rw[X2];rfl
    have eb:(wt'++[(p.1,(p.1+p.2) / 2),((p.1+p.2) / 2+1,p.2)]).map prD=wt'.map prD++[prD (p.1,(p.1+p.2) / 2),prD ((p.1+p.2) / 2+1,p.2)]:=by rw[X2];rfl
    have eb2:(wt'++[(p.1,(p.1+p.2) / 2),((p.1+p.2) / 2+1,p.2)]).map prD=wt'.map prD++[prD (p.1,(p.1+p.2) / 2)]++[prD ((p.1+p.2) / 2+1,p.2)]:=by rw[eb];simp
    have hpp:=hw p (by simp)
    have hw':∀p∈wt',0<=p.1/\p.1<=p.2/\p.2<=1000:=λx hx=>hw x (by simp[hx])
    rw[pile_snoc]at hp ⊢
    have hL:=congrArg Y3 hp
    rw[M0,M0]at hL
    have hwl:wt'.length<=(pile wt').length:=pile_len wt'
    refine ⟨_,e1,?_⟩
    rw[e2]
    refine ⟨rfl,?_⟩
    refine ⟨by rw[i0];exact G2 (show dn.length<=1999 by omega) (by decide),?_⟩
    refine ite2 (λh3=>?_) (λh3=>?_)
    ·have h3:p.1 < p.2:=of_decide_eq_true h3
     refine ⟨⟨by decide,by decide⟩,by rw[i0];exact G2 (show wt'.length<=3000 by omega) (by decide),?_⟩
     refine ⟨⟨by decide,by decide⟩,by rw[M0,i0];exact G2 (show wt'.length+1<=3000 by omega) (by decide),?_⟩
     rw[hl_lt h3]at hp hL ⊢
     refine ⟨(pile (wt'++[(p.1,(p.1+p.2) / 2),((p.1+p.2) / 2+1,p.2)])).length,?_,dn++[[p.1,p.2]],wt'++[(p.1,(p.1+p.2) / 2),((p.1+p.2) / 2+1,p.2)],_,_,by rw[ea,eb2];rfl,?_,?_,rfl,.inr ⟨_,_,rfl,rfl⟩⟩
     ·simp[pile]
     ·rw[<- hp];simp[pile]
     ·intro x hx
      simp only[W1,Y0,V5,or_false]at hx
      rcases hx with hx|rfl|rfl
      ·exact hw' x hx
      ·exact ⟨by omega,by show p.1<=(p.1+p.2) / 2;omega,by show (p.1+p.2) / 2<=1000;omega⟩
      ·exact ⟨by show 0<=(p.1+p.2) / 2+1;omega,by show (p.1+p.2) / 2+1<=p.2;omega,by show p.2<=1000;omega⟩
    ·have h3:¬p.1 < p.2:=λz=>h3 (decide_eq_true z)
     rw[hl_ge h3]at hp hL ⊢
     refine ⟨(pile wt').length,by simp,dn++[[p.1,p.2]],wt',_,_,by rw[ea];rfl,?_,hw',rfl,.inr ⟨_,_,rfl,rfl⟩⟩
     rw[<- hp];simp
   ·have e:wt=[]:=by
     have h:¬((!same (.list (wt.map prD)) (.list []))=true):=h
     rw[wt_same]at h
     simpa using h
    subst e
    have hp:dn=hl 0 (n - 1):=by simpa [pile]using hp
    subst hp
    refine ⟨hl 0 (n - 1),rfl,X0 (show _<=3000 by omega) (by decide),hl_ne _ _ _ rfl,λrows r1 r2=>?_⟩
    exact q rows _ r1 r2
end
noncomputable def prodI:List Int->Int
 | []=>1
 | a :: r=>a * prodI r
theorem prodI_pos:∀{l:List Int},(∀c∈l,1<=c)->1<=prodI l
 | [],_=>Y5 _
 | a :: r,h=>by
  have h1:=h a B0
  have h2:=prodI_pos (l:=r) λc hc=>h c (A0 _ hc)
  show 1<=a * prodI r
  have:=X4 h1 h2 (by decide) (by omega)
  omega
structure Sd(sd:List Int):Prop where
 l1:1<=sd.length
 l3:sd.length<=3
 p:∀c∈sd,1<=c
 m:prodI sd<=120
noncomputable abbrev tupD(p:List Int):PyData:=.tuple (p.map j0)
noncomputable def eachA{α:Type}(acc:List (List α)):List (List α)->List (List α)
 | []=>acc
 | c :: cs=>eachA (acc.flatMap λp=>c.map λx=>p++[x]) cs
noncomputable def lenP{α:Type}:List (List α)->Nat
 | []=>1
 | c :: cs=>c.length * lenP cs
theorem lenP_pos{α:Type}:∀{cs:List (List α)},(∀c∈cs,c≠[])->1<=lenP cs
 | [],_=>R0 _
 | c :: cs,h=>by
  have h1:1<=c.length:=S5.mpr (h c B0)
  have h2:=lenP_pos (cs:=cs) λd hd=>h d (A0 _ hd)
  exact Nat.mul_le_mul h1 h2
theorem flat_len{α:Type}(c:List α):∀acc:List (List α),(acc.flatMap λp=>c.map λx=>p++[x]).length=acc.length * c.length
 | []=>by simp
 | p :: acc=>by rw[P1,M0,flat_len c acc,i0,V1,K7,g9]
theorem eachA_len{α:Type}:∀(cs acc:List (List α)),(eachA acc cs).length=acc.length * lenP cs
 | [],acc=>by simp[eachA,lenP]
 | c :: cs,acc=>by rw[eachA,eachA_len cs,flat_len,lenP,v7]
noncomputable def rng(s:Int):List Int:=(U2 s.toNat).map λ(n:Nat)=>(n:Int)
theorem rangeD_rng(s:Int):rangeD 0 s.toNat=(rng s).map j0:=by simp[rangeD,rng,L0,Function.comp_def]
theorem rng_len(s:Int):(rng s).length=s.toNat:=by simp[rng]
noncomputable def plc(sd:List Int):List (List Int):=eachA [[]] (sd.map rng)
theorem lenP_rng:∀{sd:List Int},(∀c∈sd,1<=c)->(lenP (sd.map rng):Int)=prodI sd
 | [],_=>rfl
 | a :: r,h=>by
  have h1:=h a B0
  have h2:=lenP_rng (sd:=r) λc hc=>h c (A0 _ hc)
  show ((((rng a).length * lenP (r.map rng):Nat)):Int)=a * prodI r
  rw[rng_len,K6,h2]
  congr 1
  omega
theorem zipD_ints(a b:List Int):zipD (a.map j0) (b.map j0)=(a.zip b).map λp=>S0 [.int p.1,.int p.2]:=by
 rw[zipD,o9,L0];rfl
noncomputable def rng2(a b:Int):List Int:=(U2 (b+1 - a).toNat).map λ(n:Nat)=>a+(n:Int)
theorem rangeD_rng2(a b:Int):rangeD a (b+1 - a).toNat=(rng2 a b).map j0:=by simp[rangeD,rng2,L0,Function.comp_def]
theorem rng2_zero(s:Int):rng2 0 (s - 1)=rng s:=by
 unfold rng2 rng
 rw[show s - 1+1 - 0=s by omega]
 simp
noncomputable def btw(low high:List Int):List (List Int):=eachA [[]] ((low.zip high).map λp=>rng2 p.1 p.2)
theorem le_prodI:∀{sd:List Int},(∀c∈sd,1<=c)->∀c∈sd,c<=prodI sd
 | a :: r,h,c,hc=>by
  have h1:=h a B0
  have hr:∀c∈r,1<=c:=λc hc=>h c (A0 _ hc)
  have h2:=prodI_pos hr
  show c<=a * prodI r
  rcases Y0.mp hc with rfl|hc
  ·have:=Int.mul_le_mul_of_nonneg_left h2 (show (0:Int)<=c by omega);omega
  ·have h3:=le_prodI hr c hc
   have:=u7 h1 (show (0:Int)<=prodI r by omega);omega
noncomputable def idx(sd pl:List Int):Int:=(sd.zip pl).foldl (λi p=>i * p.1+p.2) 0
noncomputable def InW{α:Type}:List α->List (List α)->Prop
 | [],[]=>True
 | x :: xs,c :: cs=>x∈c/\InW xs cs
 | _,_=>False
theorem each_mem{α:Type}:∀{cs acc:List (List α)}{p:List α},p∈eachA acc cs->∃a∈acc,∃q,p=a++q/\InW q cs
 | [],acc,p,h=>⟨p,h,[],by simp,trivial⟩
 | c :: cs,acc,p,h=>by
  obtain⟨a',ha',q,rfl,hq⟩:=each_mem (cs:=cs) h
  obtain⟨a,ha,hb⟩:=Y2.mp ha'
  obtain⟨x,hx,rfl⟩:=J0.mp hb
  exact ⟨a,ha,x :: q,by simp,hx,hq⟩
theorem each_mem0{α:Type}{cs:List (List α)}{p:List α}(h:p∈eachA [[]] cs):InW p cs:=by
 obtain⟨a,ha,q,rfl,hq⟩:=each_mem h
 simp at ha
 subst ha
 exact hq
theorem mem_rng{x s:Int}(h:x∈rng s):0<=x/\x < s:=by
 unfold rng at h
 obtain⟨n,hn,rfl⟩:=J0.mp h
 have:=w6.mp hn
 omega
noncomputable def Wi:List Int->List Int->Prop
 | [],[]=>True
 | x :: xs,s :: ss=>(0<=x/\x < s)/\Wi xs ss
 | _,_=>False
theorem plc_wi{sd p:List Int}(hm:p∈plc sd):Wi p sd:=by
 have h:=each_mem0 hm
 clear hm
 induction sd generalizing p with
 | nil=>cases p with
  | nil=>trivial
  | cons _ _=>exact h.elim
 | cons s ss ih=>cases p with
  | nil=>exact h.elim
  | cons x xs=>exact ⟨mem_rng h.1,ih h.2⟩
theorem plc_len{sd:List Int}(hp:∀c∈sd,1<=c):((plc sd).length:Int)=prodI sd:=by
 rw[plc,eachA_len,<- lenP_rng hp]
 simp
theorem wi_len:∀{p sd:List Int},Wi p sd->p.length=sd.length
 | [],[],_=>rfl
 | [],_ :: _,h=>h.elim
 | _ :: _,[],h=>h.elim
 | _ :: _,_ :: _,h=>by simp[wi_len h.2]
theorem idx_b:∀{sd pl:List Int}{i m:Int},Wi pl sd->0<=i->i < m->0<=(sd.zip pl).foldl (λi p=>i * p.1+p.2) i/\(sd.zip pl).foldl (λi p=>i * p.1+p.2) i < m * prodI sd
 | [],[],i,m,_,h0,h1=>by simp[prodI];omega
 | [],_ :: _,_,_,h,_,_=>h.elim
 | _ :: _,[],_,_,h,_,_=>h.elim
 | s :: ss,x :: xs,i,m,h,h0,h1=>by
  have hx:=h.1
  have hs:0<=s:=by omega
  have e1:0<=i * s:=Int.mul_nonneg h0 hs
  have e2:i * s<=(m - 1) * s:=u7 (by omega) hs
  rw[Int.sub_mul,x9]at e2
  have:=idx_b (sd:=ss) (pl:=xs) (i:=i * s+x) (m:=m * s) h.2 (by omega) (by omega)
  rw[Int.mul_assoc]at this
  exact this
theorem rng_at{s:Int}{j:Nat}{x:Int}(h:(rng s)[j]?=some x):x=j/\(j:Int) < s:=by
 unfold rng at h
 rw[J1,Z5]at h
 obtain⟨n,hn,rfl⟩:=h
 rw[W0]at hn
 obtain⟨h1,h2⟩:=hn
 simp at h1 h2
 omega
theorem flat_at{s:Int}(hs:1<=s):∀{acc:List (List Int)}{j':Nat}{a':List Int},(acc.flatMap λp=>(rng s).map λx=>p++[x])[j']?=some a' ->
  ∃(j:Nat) (a:List Int) (x:Int),acc[j]?=some a/\a'=a++[x]/\(0<=x/\x < s)/\(j':Int)=j * s+x
 | [],j',a',h=>by simp at h
 | a :: acc,j',a',h=>by
  rw[P1]at h
  rcases m9 j' ((rng s).map λx=>a++[x]).length with g|g
  ·rw[P2 g,J1,Z5]at h
   obtain⟨x,hx,rfl⟩:=h
   obtain⟨rfl,h2⟩:=rng_at hx
   exact ⟨0,a,_,rfl,rfl,⟨by omega,h2⟩,by simp⟩
  ·rw[S1 g]at h
   obtain⟨j,b,x,h1,h2,h3,h4⟩:=flat_at hs h
   rw[i0,rng_len]at g h4
   refine ⟨j+1,b,x,h1,h2,h3,?_⟩
   rw[show ((j+1:Nat):Int)=(j:Int)+1 by omega,Int.add_mul,x9]
   omega
theorem each_at:∀{sd:List Int}{acc:List (List Int)}{k:Nat}{p:List Int},(∀c∈sd,1<=c)->(eachA acc (sd.map rng))[k]?=some p ->
  ∃(j:Nat) (a q:List Int),acc[j]?=some a/\p=a++q/\Wi q sd/\(sd.zip q).foldl (λi p=>i * p.1+p.2) (j:Int)=k
 | [],acc,k,p,_,h=>⟨k,p,[],h,by simp,trivial,rfl⟩
 | s :: ss,acc,k,p,hp,h=>by
  obtain⟨j',a',q',h1,h2,h3,h4⟩:=each_at (sd:=ss) (λc hc=>hp c (A0 _ hc)) h
  obtain⟨j,a,x,g1,g2,g3,g4⟩:=flat_at (hp s B0) h1
  refine ⟨j,a,x :: q',g1,by rw[h2,g2];simp,⟨g3,h3⟩,?_⟩
  rw[g4]at h4
  exact h4
theorem plc_at{sd:List Int}(hp:∀c∈sd,1<=c){k:Nat}{p:List Int}(h:(plc sd)[k]?=some p):Wi p sd/\idx sd p=k:=by
 obtain⟨j,a,q,h1,h2,h3,h4⟩:=each_at hp h
 have hj:j=0:=by
  rcases j with _|j
  ·rfl
  ·simp at h1
 subst hj
 simp at h1
 subst h1
 simp at h2
 subst h2
 exact ⟨h3,h4⟩
theorem lex_app:∀{a b:List Int} (x y:Int),a.length=b.length->HT.lexLt a b=true->HT.lexLt (a++[x]) (b++[y])=true
 | [],[],x,y,_,h=>by cases h
 | [],_ :: _,x,y,e,_=>by simp at e
 | _ :: _,[],x,y,e,_=>by simp at e
 | u :: a,v :: b,x,y,e,h=>by
  rw[B6,B6,HT.lexLt_cons]
  rw[HT.lexLt_cons]at h
  by_cases q:u=v
  ·rw[if_pos q]at h ⊢
   exact lex_app x y (by simpa using e) h
  ·rw[if_neg q]at h ⊢
   exact h
theorem lex_end:∀(a:List Int) {x y:Int},x < y->HT.lexLt (a++[x]) (a++[y])=true
 | [],x,y,h=>by
  show HT.lexLt [x] [y]=true
  rw[HT.lexLt_cons,if_neg (by omega)]
  exact decide_eq_true h
 | u :: a,x,y,h=>by
  rw[B6,B6,HT.lexLt_cons,if_pos rfl]
  exact lex_end a h
theorem eachA_sorted:∀{cs acc:List (List Int)}{n:Nat},acc.Pairwise (λa b=>HT.lexLt a b=true)->(∀p∈acc,p.length=n)->(∀c∈cs,c.Pairwise (· < ·))->(eachA acc cs).Pairwise (λa b=>HT.lexLt a b=true)
 | [],_,_,h,_,_=>h
 | c :: cs,acc,n,h,hn,hc=>by
  refine eachA_sorted (cs:=cs) (n:=n+1) ?_ ?_ λd hd=>hc d (A0 _ hd)
  ·rw[J8]
   refine ⟨λp hp=>?_,?_⟩
   ·rw[u4]
    exact (hc c B0).imp λh=>lex_end p h
   ·refine List.Pairwise.imp_of_mem (λ{a b} ha hb h=>?_) h
    intro x hx y hy
    obtain⟨u,_,rfl⟩:=J0.mp hx
    obtain⟨v,_,rfl⟩:=J0.mp hy
    exact lex_app u v (by rw[hn a ha,hn b hb]) h
  ·intro p hp
   obtain⟨q,hq,hx⟩:=Y2.mp hp
   obtain⟨x,_,rfl⟩:=J0.mp hx
   rw[M0,hn q hq]
   rfl
theorem rng2_lt(a b:Int):(rng2 a b).Pairwise (· < ·):=by
 unfold rng2
 rw[u4]
 exact List.pairwise_lt_range.imp λh=>by omega
theorem btw_sorted(lo hi:List Int):(btw lo hi).Pairwise (λa b=>HT.lexLt b a=false):=by
 have h:=eachA_sorted (cs:=(lo.zip hi).map λp=>rng2 p.1 p.2) (acc:=[[]]) (n:=0) (P3 _ _) (by simp) λc hc=>by
  obtain⟨p,_,rfl⟩:=J0.mp hc
  exact rng2_lt _ _
 refine List.Pairwise.imp (λ{a b} h=>?_) h
 cases e:HT.lexLt b a
 ·rfl
 ·have:=SG.lex_wk.tr a b a h e
  rw[SG.lex_wk.irr]at this
  cases this
theorem rng2_len(a b:Int):(rng2 a b).length=(b+1 - a).toNat:=by simp[rng2]
theorem each_in2{α:Type}:∀{cs acc:List (List α)}{a q:List α},a∈acc->InW q cs->a++q∈eachA acc cs
 | [],acc,a,[],ha,_=>by simpa [eachA]using ha
 | [],_,_,_ :: _,_,h=>h.elim
 | _ :: _,_,_,[],_,h=>h.elim
 | c :: cs,acc,a,x :: q,ha,h=>by
  have:=each_in2 (cs:=cs) (acc:=acc.flatMap λp=>c.map λx=>p++[x]) (a:=a++[x]) (q:=q) (Y2.mpr ⟨a,ha,J0.mpr ⟨x,h.1,rfl⟩⟩) h.2
  simpa [eachA]using this
theorem rng_mem{x s:Int}(h0:0<=x)(h1:x < s):x∈rng s:=J0.mpr ⟨x.toNat,w6.mpr (by omega),by omega⟩
theorem wi_inW:∀{p sd:List Int},Wi p sd->InW p (sd.map rng)
 | [],[],_=>trivial
 | [],_ :: _,h=>h.elim
 | _ :: _,[],h=>h.elim
 | x :: p,s :: sd,h=>⟨rng_mem h.1.1 h.1.2,wi_inW h.2⟩
theorem wi_mem{p sd:List Int}(h:Wi p sd):p∈plc sd:=each_in2 (a:=[]) (by simp) (wi_inW h)
noncomputable abbrev fldD(sd cl:List Int):PyData:=.tuple [tupD sd,tupD cl]
noncomputable def cel(sd cl p:List Int):Int:=cl.getD (idx sd p).toNat 0
noncomputable def unI:PyData->Int
 | .int i=>i
 | _=>0
theorem unI_int(ns:List Int):(ns.map j0).map unI=ns:=by
 rw[L0];exact L8 ns
theorem eachA_map{α β:Type}(f:α->β):∀(cs acc:List (List α)),(eachA acc cs).map (G5 f)=eachA (acc.map (G5 f)) (cs.map (G5 f))
 | [],acc=>rfl
 | c :: cs,acc=>by
  show (eachA (acc.flatMap λp=>c.map λx=>p++[x]) cs).map (G5 f)=eachA ((acc.map (G5 f)).flatMap λp=>(c.map f).map λx=>p++[x]) (cs.map (G5 f))
  rw[eachA_map f cs]
  congr 1
  rw[List.map_flatMap,List.flatMap_map]
  congr 1
  funext p
  simp[L0,Function.comp_def]
section
variable {P:Program}{w:World}{K:u0}{mg:Str->Option Value}{base:Heap}
noncomputable def cEach:Con:=λargs Q=>∃cs:List (List PyData),args=[.fz (.list (cs.map B1))]/\(∀c∈cs,c≠[])/\lenP cs<=1000/\cs.length<=1000/\∀o,Q (.ow (.list ((eachA [[]] cs).map S0))) o
theorem scEach:FnScope ["choices","chosen","things","longer","ahead","thing"] ["choices"] (defScope (top 1)):=⟨rfl,rfl,rfl,by decide +kernel,rfl,by decide +kernel,by decide +kernel⟩
theorem ok_each{f:Addr}{fd:FuncData}(F:Fun K "one_of_each" "one_of_each" (top 1) f fd):FnOk P w K mg base CX0 1 f fd ["choices"] (conSp K cEach):=by
 have S:=scEach
 refine wfn F S (λcdv A outer s H E hr=>(s_cons (s_set (i:=1) S.nd rfl (Or.inl rfl) (w_lst (wa_cons (wx (w_tup wa_nil)) wa_nil)))
     (s_cons (s_for [2,3,4] PassesOwn.never rfl (i_seq rfl (wv 0)) (g_name (i:=2) S.nd rfl (Or.inl rfl)) (s_cons (s_set (i:=3) S.nd rfl (Or.inl rfl) (w_lst wa_nil))
     (s_cons (s_for [4,5] PassesOwn.never rfl (i_seq rfl (wv 1)) (g_name (i:=4) S.nd rfl (Or.inl rfl)) (s_one (s_for [5] PassesOwn.never rfl (i_seq rfl (wv 2)) (g_name (i:=5) S.nd rfl (Or.inl rfl)) (s_one (s_expr (w_m ok_append rfl PySem.F.slot_list_append PySem.F.type_list_append mt_append (wn 3) (wa_cons (wx (w_bin ok_add op_addD (wn 4) (wx (w_tup (wa_cons (wx (wv 5)) wa_nil))))) wa_nil)))))))
     (s_one (s_move (i:=1) S.nd rfl (Or.inl rfl) (wn 3))))))
     (s_one (s_retV (wn 1)))))) ?_ ?_
 ·rintro args Qd ⟨cs,rfl,_⟩;rfl
 ·rintro args Qd ⟨cs,rfl,hne,hlen,hcl,q⟩
  refine ⟨noOw_of rfl,?_⟩
  refine loopC (λrest ρ=>∃(acc rs:List (List PyData)),ρ=[some (.fz (.list (cs.map B1))),some (.ow (.list (acc.map S0))),none,none,none,none]/\rest=rs.map B1/\(∀c∈rs,c≠[])/\acc.length * lenP rs=lenP cs/\eachA acc rs=eachA [[]] cs/\(∀p∈acc,p.length+rs.length<=1000)) ?_ ?_
   ⟨[[]],cs,rfl,rfl,hne,by simp,rfl,λp hp=>by simp at hp;subst hp;simpa using hcl⟩
  ·rintro d ds ρ ⟨acc,rs,rfl,er,hne',hln,hacc,hpl⟩ N hN
   cases rs with
   | nil=>cases er
   | cons c rs =>
    cases er
    have hr2:∀c∈rs,c≠[]:=λc hc=>hne' c (A0 _ hc)
    have hlp:=lenP_pos hr2
    have htot:(acc.flatMap λp=>c.map λx=>p++[x]).length<=1000:=by
     rw[flat_len]
     have h1:acc.length * (c.length * lenP rs)=lenP cs:=hln
     rw[<- v7]at h1
     have:acc.length * c.length<=acc.length * c.length * lenP rs:=X5 _ hlp
     omega
    refine loopC (λrest ρ=>∃(lg rp:List (List PyData)),ρ=[some (.fz (.list (cs.map B1))),some (.fz (.list (acc.map S0))),some (.fz (.list c)),some (.ow (.list (lg.map S0))),none,none]/\rest=rp.map S0/\(lg++rp.flatMap λp=>c.map λx=>p++[x])=(acc.flatMap λp=>c.map λx=>p++[x])/\(∀p∈rp,p∈acc)) ?_ ?_
     ⟨[],acc,rfl,rfl,rfl,λp hp=>hp⟩
    ·rintro d ds ρ ⟨lg,rp,rfl,er,he,hin⟩ M hM
     cases rp with
     | nil=>cases er
     | cons p rp =>
      cases er
      have hp1:=hpl p (hin p B0)
      have hl5:lg.length+c.length<=1000:=by
       have:=congrArg Y3 he
       rw[M0,P1,M0,i0]at this
       omega
      refine loopC (λrest ρ=>∃(pre:List PyData),c=pre++rest/\ρ=[some (.fz (.list (cs.map B1))),some (.fz (.list (acc.map S0))),some (.fz (.list c)),some (.ow (.list ((lg++pre.map λx=>p++[x]).map S0))),some (.fz (.tuple p)),none]) ?_ ?_
       ⟨[],rfl,by simp;rfl⟩
      ·rintro x ds' ρ ⟨pre,hc,rfl⟩ L hL
       refine ⟨by simp at hp1 ⊢;exact le_size (by omega),by rw[i0,M0,i0];have:=congrArg Y3 hc;simp at this;exact P0 (show _ < 1000 by omega) (by decide),?_⟩
       refine hL _ ⟨pre++[x],by rw[hc];simp,?_⟩
       have e1:((lg++pre.map λx=>p++[x]).map S0)++[S0 (p++[x])]=((lg++(pre++[x]).map λx=>p++[x]).map S0):=by simp
       rw[<- e1];rfl
      ·rintro ρ ⟨pre,hc,rfl⟩
       rw[K1]at hc
       subst hc
       exact hM _ ⟨lg++c.map λx=>p++[x],rp,rfl,rfl,by rw[L1,<- he,P1],λp' hp'=>hin p' (A0 _ hp')⟩
    ·rintro ρ ⟨lg,rp,rfl,er,he,hin⟩
     cases rp with
     | cons p rp=>cases er
     | nil =>
      rw[o7,K1]at he
      refine hN _ ⟨acc.flatMap λp=>c.map λx=>p++[x],rs,by rw[he];rfl,rfl,hr2,?_,hacc,λp hp=>?_⟩
      ·rw[flat_len,v7];exact hln
      ·obtain⟨p',hp',hx⟩:=Y2.mp hp
       obtain⟨x,_,rfl⟩:=J0.mp hx
       have:=hpl p' hp'
       simp at this ⊢
       omega
  ·rintro ρ ⟨acc,rs,rfl,er,hne',hln,hacc,hpl⟩
   cases rs with
   | cons a rs=>cases er
   | nil =>
    have hacc:acc=eachA [[]] cs:=hacc
    rw[hacc]
    exact q _
structure CalsBt(P:Program)(w:World)(K:u0)(mg:Str->Option Value)(base:Heap):Prop where
 one_of_each:Cal P w K mg base 1 "one_of_each" ["choices"] (conSp K cEach)
end
noncomputable def Bx:List Int->List Int->List Int->Prop
 | [],[],[]=>True
 | x :: lo,y :: hi,s :: sd=>(0<=x/\x<=y/\y < s)/\Bx lo hi sd
 | _,_,_=>False
theorem bx_len:∀{lo hi sd:List Int},Bx lo hi sd->lo.length=sd.length/\hi.length=sd.length
 | [],[],[],_=>⟨rfl,rfl⟩
 | x :: lo,y :: hi,s :: sd,h=>by
  have:=bx_len h.2
  simp[this.1,this.2]
 | [],[],_ :: _,h=>h.elim
 | [],_ :: _,z,h=>by cases z<;>exact h.elim
 | _ :: _,[],z,h=>by cases z<;>exact h.elim
 | _ :: _,_ :: _,[],h=>h.elim
theorem bx_snoc:∀{lo hi sd:List Int}{x y s:Int},Bx lo hi sd->0<=x->x<=y->y < s->Bx (lo++[x]) (hi++[y]) (sd++[s])
 | [],[],[],_,_,_,_,h1,h2,h3=>⟨⟨h1,h2,h3⟩,trivial⟩
 | a :: lo,b :: hi,c :: sd,_,_,_,h,h1,h2,h3=>⟨h.1,bx_snoc h.2 h1 h2 h3⟩
 | [],[],_ :: _,_,_,_,h,_,_,_=>h.elim
 | [],_ :: _,z,_,_,_,h,_,_,_=>by cases z<;>exact h.elim
 | _ :: _,[],z,_,_,_,h,_,_,_=>by cases z<;>exact h.elim
 | _ :: _,_ :: _,[],_,_,_,h,_,_,_=>h.elim
theorem bx_last:∀{lo hi sd:List Int},Bx lo hi sd->1<=sd.length->∃ls hs ss a b s,lo=ls++[a]/\hi=hs++[b]/\sd=ss++[s]/\Bx ls hs ss/\0<=a/\a<=b/\b < s
 | [],[],[],_,h=>by simp at h
 | x :: lo,y :: hi,s :: sd,h,_=>by
  cases sd with
  | nil =>
   cases lo with
   | nil =>
    cases hi with
    | nil=>exact ⟨[],[],[],x,y,s,rfl,rfl,rfl,trivial,h.1⟩
    | cons _ _=>exact h.2.elim
   | cons _ _=>cases hi<;>exact h.2.elim
  | cons s2 sd =>
   obtain⟨ls,hs,ss,a,b,t,e1,e2,e3,h1,h2⟩:=bx_last (sd:=s2 :: sd) h.2 (by simp)
   exact ⟨x :: ls,y :: hs,s :: ss,a,b,t,by rw[e1];rfl,by rw[e2];rfl,by rw[e3];rfl,⟨h.1,h1⟩,h2⟩
 | [],[],_ :: _,h,_=>h.elim
 | [],_ :: _,z,h,_=>by cases z<;>exact h.elim
 | _ :: _,[],z,h,_=>by cases z<;>exact h.elim
 | _ :: _,_ :: _,[],h,_=>h.elim
theorem mem_rng2{a b x:Int}(h:x∈rng2 a b):a<=x/\x<=b:=by
 unfold rng2 at h
 obtain⟨n,hn,rfl⟩:=J0.mp h
 have:=w6.mp hn
 omega
theorem bx_inW:∀{lo hi sd p:List Int},Bx lo hi sd->InW p ((lo.zip hi).map λq=>rng2 q.1 q.2)->Wi p sd
 | [],[],[],[],_,_=>trivial
 | [],[],[],_ :: _,_,h=>h.elim
 | x :: lo,y :: hi,s :: sd,[],_,h=>h.elim
 | x :: lo,y :: hi,s :: sd,z :: p,h,k=>by
  have:=mem_rng2 k.1
  have hx:=h.1
  simp only at this
  exact ⟨by omega,bx_inW h.2 k.2⟩
 | [],[],_ :: _,_,h,_=>h.elim
 | [],_ :: _,z,_,h,_=>by cases z<;>exact h.elim
 | _ :: _,[],z,_,h,_=>by cases z<;>exact h.elim
 | _ :: _,_ :: _,[],_,h,_=>h.elim
theorem btw_wi{lo hi sd p:List Int}(h:Bx lo hi sd)(hp:p∈btw lo hi):Wi p sd:=bx_inW h (each_mem0 hp)
theorem bx_pair:∀{lo hi sd:List Int},Bx lo hi sd->∀p∈lo.zip hi,0<=p.1/\p.1<=p.2/\∃s∈sd,p.2 < s
 | [],[],[],_,p,hp=>by simp at hp
 | x :: lo,y :: hi,s :: sd,h,p,hp=>by
  rw[Y4]at hp
  rcases Y0.mp hp with rfl|hp
  ·exact ⟨h.1.1,h.1.2.1,s,B0,h.1.2.2⟩
  ·obtain⟨h1,h2,t,ht,h3⟩:=bx_pair h.2 p hp
   exact ⟨h1,h2,t,A0 _ ht,h3⟩
 | [],[],_ :: _,h,_,_=>h.elim
 | [],_ :: _,z,h,_,_=>by cases z<;>exact h.elim
 | _ :: _,[],z,h,_,_=>by cases z<;>exact h.elim
 | _ :: _,_ :: _,[],h,_,_=>h.elim
theorem bx_lenP:∀{lo hi sd:List Int},Bx lo hi sd->(lenP ((lo.zip hi).map λq=>rng2 q.1 q.2):Int)<=prodI sd/\1<=prodI sd
 | [],[],[],_=>by simp[lenP,prodI]
 | x :: lo,y :: hi,s :: sd,h=>by
  obtain⟨h1,h2⟩:=bx_lenP h.2
  have hx:=h.1
  show (((rng2 x y).length * lenP ((lo.zip hi).map λq=>rng2 q.1 q.2):Nat):Int)<=s * prodI sd/\1<=s * prodI sd
  rw[rng2_len,K6]
  refine ⟨X4 (by omega) h1 (Int.natCast_nonneg _) (by omega),?_⟩
  have:=X4 (show (1:Int)<=s by omega) h2 (by decide) (by omega)
  omega
 | [],[],_ :: _,h=>h.elim
 | [],_ :: _,z,h=>by cases z<;>exact h.elim
 | _ :: _,[],z,h=>by cases z<;>exact h.elim
 | _ :: _,_ :: _,[],h=>h.elim
theorem idx_nn{sd p:List Int}(h:Wi p sd):0<=idx sd p/\idx sd p < prodI sd:=by
 have:=idx_b h (Y5 0) (by decide:(0:Int) < 1)
 rw[x9]at this
 exact this
noncomputable def cels(sd cl lo hi:List Int):List Int:=(btw lo hi).map (cel sd cl)
section
variable {P:Program}{w:World}{K:u0}{mg:Str->Option Value}{base:Heap}
end
noncomputable def Big(c:Int):Prop:=-(10 ^ 27) < c/\c < 10 ^ 27
noncomputable def LeP:List Int->List Int->Prop
 | [],[]=>True
 | c :: cs,m :: ms=>(1<=c/\c<=m)/\LeP cs ms
 | _,_=>False
theorem LeP.snoc:∀{cs ms:List Int}{c m:Int},LeP cs ms->1<=c->c<=m->LeP (cs++[c]) (ms++[m])
 | [],[],_,_,_,h1,h2=>⟨⟨h1,h2⟩,trivial⟩
 | _ :: _,_ :: _,_,_,h,h1,h2=>⟨h.1,LeP.snoc h.2 h1 h2⟩
 | [],_ :: _,_,_,h,_,_=>h.elim
 | _ :: _,[],_,_,h,_,_=>h.elim
theorem LeP.len:∀{cs ms:List Int},LeP cs ms->cs.length=ms.length
 | [],[],_=>rfl
 | _ :: _,_ :: _,h=>by simp[LeP.len h.2]
 | [],_ :: _,h=>h.elim
 | _ :: _,[],h=>h.elim
theorem LeP.pos:∀{cs ms:List Int},LeP cs ms->∀c∈cs,1<=c
 | [],[],_,_,hc=>by cases hc
 | c :: cs,m :: ms,h,x,hx=>by
  rcases Y0.mp hx with z|z
  ·subst z;exact h.1.1
  ·exact LeP.pos h.2 x z
 | [],_ :: _,h,_,_=>h.elim
 | _ :: _,[],h,_,_=>h.elim
theorem LeP.prod:∀{cs ms:List Int},LeP cs ms->prodI cs<=prodI ms
 | [],[],_=>Y5 _
 | c :: cs,m :: ms,h=>by
  have h1:=LeP.prod h.2
  have h2:=prodI_pos (LeP.pos h.2)
  show c * prodI cs<=m * prodI ms
  exact X4 h.1.2 h1 (by omega) (by have:=h.1.1;have:=h.1.2;omega)
 | [],_ :: _,h=>h.elim
 | _ :: _,[],h=>h.elim
structure Mst(ms:List Int):Prop where
 l1:1<=ms.length
 l3:ms.length<=3
 p:∀c∈ms,1<=c/\c<=120
 m:prodI ms<=120
theorem LeP.sd{cs ms:List Int}(h:LeP cs ms)(hm:Mst ms):Sd cs:=⟨by rw[h.len];exact hm.l1,by rw[h.len];exact hm.l3,h.pos,Int.le_trans h.prod hm.m⟩
theorem pick2{r:Int}(r0:0<=r)(r1:r < 2):∃a b:List Int,atI [B1 ([10,6].map j0),B1 ([2,30].map j0)] r=some (.list (a.map j0))/\Mst a/\atI [B1 ([4,4,4].map j0),B1 ([2,2,14].map j0)] r=some (.list (b.map j0))/\Mst b:=by
 rcases (show r=0\/r=1 by omega) with rfl|rfl
 ·exact ⟨[10,6],[4,4,4],rfl,⟨by decide,by decide,by decide,by decide⟩,rfl,⟨by decide,by decide,by decide,by decide⟩⟩
 ·exact ⟨[2,30],[2,2,14],rfl,⟨by decide,by decide,by decide,by decide⟩,rfl,⟨by decide,by decide,by decide,by decide⟩⟩
section
variable {P:Program}{w:World}{K:u0}{mg:Str->Option Value}{base:Heap}
structure CalsB(P:Program)(w:World)(K:u0)(mg:Str->Option Value)(base:Heap):Prop where
 law_take:Cal P w K mg base 1 "_law_take" ["_law_pen_here","_law_most_here"] (conSp K cTake)
noncomputable def cNumber:Con:=λargs Q=>∃(ns:List Int) (k l:Int),args=[.io (penD ns k l)]/\0<=k/\0<=l/\∀(r k' l':Int) (o:Ev),Big r->0<=k'->0<=l'->Q (.fz (.int r)) (some (.io (penD ns k' l')) :: o)
theorem scNumber:FnScope ["_law_pen_here","_law_way"] ["_law_pen_here"] (defScope (top 15)):=⟨rfl,rfl,rfl,by decide +kernel,rfl,by decide +kernel,by decide +kernel⟩
theorem ok_number{f:Addr}{fd:FuncData}(F:Fun K "_law_number" "_law_number" (top 15) f fd)(T:Txt mg)(C:CalsB P w K mg base):FnOk P w K mg base CX0 2 f fd ["_law_pen_here"] (conSp K cNumber):=by
 have S:=scNumber
 refine wfn F S (λcdv A outer s H E hr=>(s_cons (s_set (i:=1) S.nd rfl (Or.inl rfl) (w_fnI C.law_take (hr.mono (by first|decide|omega)) (wa_cons (wn 0) (wa_cons (wx w_int) wa_nil))))
     (s_cons (s_if (t_cmp ok_eq (op_eqE (K:=K) rfl hr.units) (wn 1) (wx w_int)) (s_one (s_ret (w_bin ok_mul op_mulD (wx (w_bin ok_sub op_sub (wx (w_bin ok_sub op_sub (wx (w_bin ok_pow op_pow (wx w_int) (wx w_int))) (wx w_int))) (wx (w_fnI C.law_take (hr.mono (by first|decide|omega)) (wa_cons (wn 0) (wa_cons (wx w_int) wa_nil)))))) (wx (w_bin ok_sub op_sub (wx w_int) (wx (w_bin ok_mul op_mulD (wx w_int) (wx (w_fnI C.law_take (hr.mono (by first|decide|omega)) (wa_cons (wn 0) (wa_cons (wx w_int) wa_nil))))))))))) s_nil)
     (s_cons (s_if (t_cmp ok_gt op_gt (wn 1) (wx w_int)) (s_one (s_ret (w_bin ok_sub op_sub (wx (w_fnI C.law_take (hr.mono (by first|decide|omega)) (wa_cons (wn 0) (wa_cons (wx w_int) wa_nil)))) (wx w_int)))) s_nil)
     (s_one (s_ret (w_bin ok_sub op_sub (wx (w_fnI C.law_take (hr.mono (by first|decide|omega)) (wa_cons (wn 0) (wa_cons (wx w_int) wa_nil)))) (wx w_int)))))))) ?_ ?_
 ·rintro args Qd ⟨ns,k,l,rfl,_⟩;rfl
 ·rintro args Qd ⟨ns,k,l,rfl,hk,hl,q⟩
  refine ⟨noOw_of rfl,?_⟩
  refine ⟨ns,k,l,_,rfl,hk,hl,by decide,by decide,λr k1 l1 _ r0 r1 hk1 hl1=>?_⟩
  refine ite2 (λh=>?_) (λh=>?_)
  ·refine ⟨⟨by decide,by decide,by decide⟩,?_⟩
   refine ⟨ns,k1,l1,_,rfl,hk1,hl1,by decide,by decide,λa k2 l2 _ a0 a1 hk2 hl2=>?_⟩
   refine ⟨ns,k2,l2,_,rfl,hk2,hl2,by decide,by decide,λb k3 l3 _ b0 b1 hk3 hl3=>?_⟩
   refine ⟨.inl ⟨by decide,by decide⟩,.inr ⟨by omega,by omega⟩,?_⟩
   refine q _ _ _ _ ?_ hk3 hl3
   show Big ((10 ^ (27:Int).toNat - 1 - a) * (1 - 2 * b))
   have e:(10:Int) ^ (27:Int).toNat=10 ^ 27:=rfl
   rw[e]
   rcases (show b=0\/b=1 by omega) with rfl|rfl
   ·exact ⟨by omega,by omega⟩
   ·exact ⟨by omega,by omega⟩
  refine ite2 (λh=>?_) (λh=>?_)
  ·refine ⟨ns,k1,l1,_,rfl,hk1,hl1,by decide,by decide,λa k2 l2 _ a0 a1 hk2 hl2=>?_⟩
   exact q _ _ _ _ ⟨by omega,by omega⟩ hk2 hl2
  ·refine ⟨ns,k1,l1,_,rfl,hk1,hl1,by decide,by decide,λa k2 l2 _ a0 a1 hk2 hl2=>?_⟩
   exact q _ _ _ _ ⟨by omega,by omega⟩ hk2 hl2
noncomputable def cSides:Con:=λargs Q=>∃(ns:List Int) (k l:Int),args=[.io (penD ns k l)]/\0<=k/\0<=l/\∀(sd:List Int) (k' l':Int) (o:Ev),Sd sd->0<=k'->0<=l'->Q (.fz (tupD sd)) (some (.io (penD ns k' l')) :: o)
theorem scSides:FnScope ["_law_pen_here","_law_most_here","_law_wide"] ["_law_pen_here"] (defScope (top 16)):=⟨rfl,rfl,rfl,by decide +kernel,rfl,by decide +kernel,by decide +kernel⟩
theorem ok_sides{f:Addr}{fd:FuncData}(F:Fun K "_law_sides" "_law_sides" (top 16) f fd)(T:Txt mg)(C:CalsB P w K mg base):FnOk P w K mg base CX0 2 f fd ["_law_pen_here"] (conSp K cSides):=by
 have S:=scSides
 refine wfn F S (λcdv A outer s H E hr=>(s_cons (s_set (i:=1) S.nd rfl (Or.inl rfl) (w_ix rfl (wx (w_lst (wa_cons (wx (w_lst (wa_cons (wx w_int) wa_nil))) (wa_cons (wx (w_lst (wa_cons (wx w_int) (wa_cons (wx w_int) wa_nil)))) (wa_cons (wx (w_lst (wa_cons (wx w_int) (wa_cons (wx w_int) (wa_cons (wx w_int) wa_nil))))) wa_nil))))) (wx (w_fnI C.law_take (hr.mono (by first|decide|omega)) (wa_cons (wn 0) (wa_cons (wx w_int) wa_nil))))))
     (s_cons (s_if (t_cmp ok_eq (op_eqE (K:=K) rfl hr.units) (wx (w_fnI C.law_take (hr.mono (by first|decide|omega)) (wa_cons (wn 0) (wa_cons (wx w_int) wa_nil)))) (wx w_int)) (s_cons (s_set (i:=2) S.nd rfl (Or.inl rfl) (w_fnI C.law_take (hr.mono (by first|decide|omega)) (wa_cons (wn 0) (wa_cons (wx w_int) wa_nil))))
     (s_one (s_set (i:=1) S.nd rfl (Or.inl rfl) (w_ix rfl (wx (w_lst (wa_cons (wx (w_lst (wa_cons (wx w_int) wa_nil))) (wa_cons (wx (w_ix rfl (wx (w_lst (wa_cons (wx (w_lst (wa_cons (wx w_int) (wa_cons (wx w_int) wa_nil)))) (wa_cons (wx (w_lst (wa_cons (wx w_int) (wa_cons (wx w_int) wa_nil)))) wa_nil)))) (wn 2))) (wa_cons (wx (w_ix rfl (wx (w_lst (wa_cons (wx (w_lst (wa_cons (wx w_int) (wa_cons (wx w_int) (wa_cons (wx w_int) wa_nil))))) (wa_cons (wx (w_lst (wa_cons (wx w_int) (wa_cons (wx w_int) (wa_cons (wx w_int) wa_nil))))) wa_nil)))) (wn 2))) wa_nil))))) (wx (w_bin ok_sub op_sub (wx (w_callB ok_len (call_lenK (K:=K) rfl) T.len_ PySem.boot_len (wa_cons (wn 1) wa_nil))) (wx w_int))))))) s_nil)
     (s_one (s_ret (w_callT ok_tuple (call_tupleK (K:=K) rfl) T.tuple_ boot_tuple (wa_cons (wx (w_comp rfl (own:=["_law_side"]) (fr:=[0]) (by kernel_rfl) (i_seq rfl (wv 1)) (λ_ _ _ _=>(g_name (i:=0) (by decide +kernel:Q1 (["_law_side","_law_pen_here"]:List Str)) rfl (Or.inl rfl))) (λ_ _ _ _=>if0) (λ_ _ _ _=>(w_bin ok_add op_addD (wx w_int) (wx (w_fnI C.law_take (hr.mono (by first|decide|omega)) (wa_cons (wn 1) (wa_cons (wn 0) wa_nil)))))))) wa_nil))))))) ?_ ?_
 ·rintro args Qd ⟨ns,k,l,rfl,_⟩;rfl
 ·rintro args Qd ⟨ns,k,l,rfl,hk,hl,q⟩
  refine ⟨noOw_of rfl,?_⟩
  with_reducible refine cutS (λρ=>∃(ms:List Int) (k1 l1:Int),Mst ms/\0<=k1/\0<=l1/\ρ=[some (.io (penD ns k1 l1)),some (.fz (.list (ms.map j0))),none]) ?_ ?_
  ·intro N hN
   refine ⟨ns,k,l,3,rfl,hk,hl,by decide,by decide,λr k1 l1 _ r0 r1 hk1 hl1=>?_⟩
   rcases (show r=0\/r=1\/r=2 by omega) with rfl|rfl|rfl
   ·exact ⟨.list ([16].map j0),rfl,hN _ ⟨[16],k1,l1,⟨by decide,by decide,by decide,by decide⟩,hk1,hl1,rfl⟩⟩
   ·exact ⟨.list ([6,5].map j0),rfl,hN _ ⟨[6,5],k1,l1,⟨by decide,by decide,by decide,by decide⟩,hk1,hl1,rfl⟩⟩
   ·exact ⟨.list ([3,3,3].map j0),rfl,hN _ ⟨[3,3,3],k1,l1,⟨by decide,by decide,by decide,by decide⟩,hk1,hl1,rfl⟩⟩
  rintro _ ⟨ms,k1,l1,hM,hk1,hl1,rfl⟩
  with_reducible refine cutS (λρ=>∃(ms:List Int) (k1 l1:Int) (o2:Option Sl),Mst ms/\0<=k1/\0<=l1/\ρ=[some (.io (penD ns k1 l1)),some (.fz (.list (ms.map j0))),o2]) ?_ ?_
  ·intro N hN
   refine ⟨ns,k1,l1,8,rfl,hk1,hl1,by decide,by decide,λr k2 l2 _ r0 r1 hk2 hl2=>?_⟩
   refine ite2 (λh=>?_) (λh=>hN _ ⟨ms,k2,l2,none,hM,hk2,hl2,rfl⟩)
   with_reducible refine cutS (λρ=>∃(wd:Int) (k1 l1:Int),0<=wd/\wd < 2/\0<=k1/\0<=l1/\ρ=[some (.io (penD ns k1 l1)),some (.fz (.list (ms.map j0))),some (.fz (.int wd))]) ?_ ?_
   ·intro M hM'
    exact ⟨ns,k2,l2,2,rfl,hk2,hl2,by decide,by decide,λr k3 l3 _ r0 r1 hk3 hl3=>hM' _ ⟨r,k3,l3,r0,r1,hk3,hl3,rfl⟩⟩
   rintro _ ⟨wd,k3,l3,w0,w1,hk3,hl3,rfl⟩
   obtain⟨a,b,ha,hA,hb,hB⟩:=pick2 w0 w1
   have hml:(ms.map j0).length=ms.length:=i0 _
   have h1:=hM.l1
   have h3:=hM.l3
   refine ⟨_,ha,_,hb,?_⟩
   obtain⟨c,hc,hC⟩:∃c:List Int,atI [B1 ([120].map j0),.list (a.map j0),.list (b.map j0)] (((ms.map j0).length:Int) - 1)=some (.list (c.map j0))/\Mst c:=by
    rw[hml]
    rcases (show ms.length=1\/ms.length=2\/ms.length=3 by omega) with e|e|e<;>rw[e]
    ·exact ⟨[120],rfl,⟨by decide,by decide,by decide,by decide⟩⟩
    ·exact ⟨a,rfl,hA⟩
    ·exact ⟨b,rfl,hB⟩
   exact ⟨_,hc,hN _ ⟨c,k3,l3,_,hC,hk3,hl3,rfl⟩⟩
  rintro _ ⟨ms,k2,l2,o2,hM,hk2,hl2,rfl⟩
  have h3:=hM.l3
  refine ⟨le_size (by rw[i0];omega),compN (λrest acc τ=>∃(dn rs cs:List Int) (k4 l4:Int),ms=dn++rs/\rest=rs.map j0/\acc=cs.map j0/\LeP cs dn/\τ=[none,some (.io (penD ns k4 l4))]/\0<=k4/\0<=l4) ?_ ?_ ⟨[],ms,[],k2,l2,rfl,rfl,rfl,trivial,rfl,hk2,hl2⟩⟩
  ·rintro d ds acc τ ⟨dn,rs,cs,k4,l4,em,er,rfl,hle,rfl,hk4,hl4⟩ N' hN'
   cases rs with
   | nil=>cases er
   | cons m rs =>
    cases er
    have hm:=hM.p m (by rw[em];simp)
    refine ⟨ns,k4,l4,m,rfl,hk4,hl4,by omega,by omega,λx k5 l5 _ x0 x1 hk5 hl5=>?_⟩
    exact hN' _ _ ⟨dn++[m],rs,cs++[1+x],k5,l5,by rw[em];simp,rfl,by simp[Sl.d],hle.snoc (by omega) (by omega),rfl,hk5,hl5⟩
  ·rintro acc τ ⟨dn,rs,cs,k4,l4,em,er,rfl,hle,rfl,hk4,hl4⟩
   cases rs with
   | cons _ _=>cases er
   | nil =>
    rw[K1]at em
    subst em
    exact q cs k4 l4 _ (hle.sd hM) hk4 hl4
noncomputable def cPlaces:Con:=λargs Q=>∃sd:List Int,args=[.fz (tupD sd)]/\(∀c∈sd,1<=c)/\prodI sd<=1000/\sd.length<=3/\∀o,Q (.ow (.list ((plc sd).map tupD))) o
theorem scPlaces:FnScope ["_law_sides_here","_law_found","_law_side","_law_longer","_law_place"] ["_law_sides_here"] (defScope (top 17)):=⟨rfl,rfl,rfl,by decide +kernel,rfl,by decide +kernel,by decide +kernel⟩
theorem ok_places{f:Addr}{fd:FuncData}(F:Fun K "_law_places" "_law_places" (top 17) f fd)(T:Txt mg):FnOk P w K mg base CX0 1 f fd ["_law_sides_here"] (conSp K cPlaces):=by
 have S:=scPlaces
 refine wfn F S (λcdv A outer s H E hr=>(s_cons (s_set (i:=1) S.nd rfl (Or.inl rfl) (w_lst (wa_cons (wx (w_tup wa_nil)) wa_nil)))
     (s_cons (s_for [2,3,4] PassesOwn.never rfl (i_seq rfl (wv 0)) (g_name (i:=2) S.nd rfl (Or.inl rfl)) (s_cons (s_set (i:=3) S.nd rfl (Or.inl rfl) (w_lst wa_nil))
     (s_cons (s_for [4] PassesOwn.never rfl (i_seq rfl (wv 1)) (g_name (i:=4) S.nd rfl (Or.inr rfl)) (s_one (s_expr (w_m ok_extend rfl PySem.F.slot_list_extend PySem.F.type_list_extend mt_extend (wn 3) (wa_cons (wx (w_comp rfl (own:=["_law_number_here"]) (fr:=[4]) (by kernel_rfl) (i_rng1 T.range_ (wa_cons (wn 2) wa_nil)) (λ_ _ _ _=>(g_name (i:=0) (by decide +kernel:Q1 (["_law_number_here","_law_place"]:List Str)) rfl (Or.inl rfl))) (λ_ _ _ _=>if0) (λ_ _ _ _=>(w_bin ok_add op_addD (wn 1) (wx (w_tup (wa_cons (wx (wv 0)) wa_nil))))))) wa_nil)))))
     (s_one (s_move (i:=1) S.nd rfl (Or.inl rfl) (wn 3))))))
     (s_one (s_retV (wn 1)))))) ?_ ?_
 ·rintro args Qd ⟨sd,rfl,_⟩;rfl
 ·rintro args Qd ⟨sd,rfl,hp,hm,h3,q⟩
  refine ⟨noOw_of rfl,?_⟩
  with_reducible refine cutS (λρ=>ρ=[some (.fz (tupD sd)),some (.ow (.list [.tuple []])),none,none,none]) ?_ ?_
  ·intro N hN
   exact hN _ rfl
  rintro _ rfl
  with_reducible refine cutS (λρ=>ρ=[some (.fz (tupD sd)),some (.ow (.list ((plc sd).map tupD))),none,none,none]) ?_ ?_
  rotate_left
  ·rintro _ rfl
   exact q _
  intro NE hE
  refine loopC (λrest ρ=>∃(acc:List (List Int)) (rs:List Int),ρ=[some (.fz (tupD sd)),some (.ow (.list (acc.map tupD))),none,none,none]/\rest=rs.map j0/\(∀c∈rs,1<=c)/\eachA acc (rs.map rng)=plc sd/\(∀p∈acc,p.length+rs.length<=3)) ?_ ?_
   ⟨[[]],sd,rfl,rfl,hp,rfl,λp hp=>by simp at hp;subst hp;simpa using h3⟩
  ·rintro d ds ρ ⟨acc,rs,rfl,er,hr1,hacc,hl3⟩ N hN
   cases rs with
   | nil=>cases er
   | cons a rs =>
    cases er
    have ha1:=hr1 a B0
    have hr2:∀c∈rs,1<=c:=λc hc=>hr1 c (A0 _ hc)
    have hlp:=lenP_pos (cs:=rs.map rng) λc hc=>by
     obtain⟨x,hx,rfl⟩:=J0.mp hc
     intro z
     have:=congrArg Y3 z
     rw[rng_len]at this
     have:=hr2 x hx
     simp at *
     omega
    have htot:(acc.flatMap λp=>(rng a).map λx=>p++[x]).length<=1000:=by
     have h1:=eachA_len (rs.map rng) (acc.flatMap λp=>(rng a).map λx=>p++[x])
     have h2:(eachA (acc.flatMap λp=>(rng a).map λx=>p++[x]) (rs.map rng))=plc sd:=hacc
     rw[h2]at h1
     have h3:=eachA_len (sd.map rng) [[]]
     have h4:=lenP_rng hp
     unfold plc at h1
     have:(acc.flatMap λp=>(rng a).map λx=>p++[x]).length<=(acc.flatMap λp=>(rng a).map λx=>p++[x]).length * lenP (rs.map rng):=X5 _ hlp
     simp only[G4,R7]at h3
     omega
    refine loopC (λrest ρ=>∃(lg rp:List (List Int)),ρ=[some (.fz (tupD sd)),some (.fz (.list (acc.map tupD))),some (.fz (.int a)),some (.ow (.list (lg.map tupD))),none]/\rest=rp.map tupD/\(lg++rp.flatMap λp=>(rng a).map λx=>p++[x])=(acc.flatMap λp=>(rng a).map λx=>p++[x])/\(∀p∈rp,p∈acc)) ?_ ?_
     ⟨[],acc,rfl,rfl,rfl,λp hp=>hp⟩
    ·rintro d ds ρ ⟨lg,rp,rfl,er,he,hin⟩ M hM
     cases rp with
     | nil=>cases er
     | cons p rp =>
      cases er
      have hpl:=hl3 p (hin p B0)
      have hl5:lg.length+(rng a).length<=1000:=by
       have:=congrArg Y3 he
       rw[M0,P1,M0,i0]at this
       omega
      have hra:a.toNat<=1000:=by rw[rng_len]at hl5;omega
      refine ⟨by omega,by omega,by rw[rangeD,i0,Y7];exact le_size hra,mapC (λd=>.tuple (p.map j0++[d])) ?_ ?_⟩
      ·rintro d hd R hR
       exact ⟨by simp only[i0,G4];simp at hpl;exact le_size (by omega),hR⟩
      ·refine ⟨by rw[i0,i0,rangeD,i0,Y7];rw[rng_len]at hl5;exact le_size (by omega),?_⟩
       refine hM _ ⟨lg++(rng a).map λx=>p++[x],rp,?_,rfl,by rw[L1,<- he,P1],λp' hp'=>hin p' (A0 _ hp')⟩
       have e1:(lg.map tupD)++((rangeD 0 a.toNat).map λd=>S0 (p.map j0++[d]))=(lg++(rng a).map λx=>p++[x]).map tupD:=by
        rw[rangeD_rng,X2,L0,L0]
        congr 1
        refine G3 λx _=>?_
        simp[tupD]
       rw[<- e1];rfl
    ·rintro ρ ⟨lg,rp,rfl,er,he,hin⟩
     cases rp with
     | cons p rp=>cases er
     | nil =>
      rw[o7,K1]at he
      refine hN _ ⟨acc.flatMap λp=>(rng a).map λx=>p++[x],rs,?_,rfl,hr2,hacc,λp hp=>?_⟩
      ·rw[he];rfl
      ·obtain⟨p',hp',hx⟩:=Y2.mp hp
       obtain⟨x,_,rfl⟩:=J0.mp hx
       have:=hl3 p' hp'
       simp at this ⊢
       omega
  ·rintro ρ ⟨acc,rs,rfl,er,hr1,hacc,hl3⟩
   cases rs with
   | cons a rs=>cases er
   | nil =>
    have hacc:acc=plc sd:=hacc
    rw[hacc]
    exact hE _ rfl
end
theorem plc_nodup{sd:List Int}(hp:∀c∈sd,1<=c):(plc sd).Nodup:=by
 rw[List.nodup_iff_pairwise_ne,Q2]
 intro i j hi hj hij e
 have h1:=plc_at hp (k:=i) (p:=(plc sd)[i]) (by simp[hi])
 have h2:=plc_at hp (k:=j) (p:=(plc sd)[j]) (by simp[hj])
 rw[e]at h1
 have:=h1.2.symm.trans h2.2
 omega
theorem lex_no{a b:List Int}(h:HT.lexLt a b=true):HT.lexLt b a=false:=by
 cases e:HT.lexLt b a
 ·rfl
 ·have:=SG.lex_wk.tr a b a h e
  rw[SG.lex_wk.irr]at this
  cases this
theorem plc_sorted(sd:List Int):(plc sd).Pairwise (λa b=>HT.lexLt b a=false):=by
 have h:=eachA_sorted (cs:=sd.map rng) (acc:=[[]]) (n:=0) (P3 _ _) (by simp) λc hc=>by
  obtain⟨s,_,rfl⟩:=J0.mp hc
  rw[<- rng2_zero]
  exact rng2_lt _ _
 exact h.imp lex_no
theorem lt_nodup{l:List (List Int)}(h:l.Pairwise (λa b=>HT.lexLt a b=true)):l.Nodup:=h.imp λ{a b} z e=>by
 rw[e,SG.lex_wk.irr]at z
 cases z
theorem btw_nodup(lo hi:List Int):(btw lo hi).Nodup:=by
 unfold btw
 exact lt_nodup (eachA_sorted (cs:=(lo.zip hi).map λp=>rng2 p.1 p.2) (acc:=[[]]) (n:=0) (P3 _ _) (by simp) λc hc=>by
   obtain⟨p,_,rfl⟩:=J0.mp hc
   exact rng2_lt _ _)
noncomputable def inB:List Int->List Int->List Int->Bool
 | a :: lo,x :: p,b :: hi=>(decide (a<=x)&&decide (x<=b))&&inB lo p hi
 | _,_,_=>true
theorem rng2_mem{a b x:Int}:x∈rng2 a b ↔ a<=x/\x<=b:=by
 refine ⟨mem_rng2,λh=>?_⟩
 unfold rng2
 exact J0.mpr ⟨(x - a).toNat,w6.mpr (by omega),by omega⟩
theorem inB_inW:∀{lo hi sd p:List Int},Bx lo hi sd->p.length=sd.length->inB lo p hi=true->InW p ((lo.zip hi).map λq=>rng2 q.1 q.2)
 | [],[],[],[],_,_,_=>trivial
 | a :: lo,b :: hi,s :: sd,x :: p,h,hl,hi'=>by
  have hi':((decide (a<=x)&&decide (x<=b))&&inB lo p hi)=true:=hi'
  rw[Z3,Z3,decide_eq_true_eq,decide_eq_true_eq]at hi'
  exact ⟨rng2_mem.mpr hi'.1,inB_inW h.2 (by simpa using hl) hi'.2⟩
 | [],[],[],_ :: _,_,h,_=>by simp at h
 | _ :: _,_ :: _,_ :: _,[],_,h,_=>by simp at h
 | [],[],_ :: _,_,h,_,_=>h.elim
 | [],_ :: _,z,_,h,_,_=>by cases z<;>exact h.elim
 | _ :: _,[],z,_,h,_,_=>by cases z<;>exact h.elim
 | _ :: _,_ :: _,[],_,h,_,_=>h.elim
theorem inW_inB:∀{lo hi p:List Int},lo.length=hi.length->InW p ((lo.zip hi).map λq=>rng2 q.1 q.2)->inB lo p hi=true
 | [],_,_,_,_=>by simp[inB]
 | a :: lo,b :: hi,x :: p,hl,h=>by
  show ((decide (a<=x)&&decide (x<=b))&&inB lo p hi)=true
  have h1:=rng2_mem.mp h.1
  rw[inW_inB (by simpa using hl) h.2,decide_eq_true h1.1,decide_eq_true h1.2]
  rfl
 | _ :: _,[],_,hl,_=>by simp at hl
 | _ :: _,_ :: _,[],_,h=>h.elim
theorem plc_in{lo hi sd:List Int}(h:Bx lo hi sd):(plc sd).filter (λp=>inB lo p hi)=btw lo hi:=by
 have hl:=bx_len h
 have hp:∀c∈sd,1<=c:=by
  have gen:∀{lo hi sd:List Int},Bx lo hi sd->∀c∈sd,1<=c:=by
   intro lo
   induction lo with
   | nil=>intro hi sd h c hc;cases hi<;>cases sd<;>first|exact h.elim|cases hc
   | cons a lo ih =>
    intro hi sd h c hc
    cases hi with
    | nil=>cases sd<;>exact h.elim
    | cons b hi =>
     cases sd with
     | nil=>exact h.elim
     | cons s sd =>
      rcases Y0.mp hc with z|z
      ·subst z;have:=h.1;omega
      ·exact ih h.2 c z
  exact gen h
 refine SG.sorted_uniq (lt:=HT.lexLt) (λa b=>SG.lex_eq) ((List.perm_ext_iff_of_nodup ((plc_nodup hp).filter _) (btw_nodup lo hi)).mpr λp=>?_) ((plc_sorted sd).filter _) (btw_sorted lo hi)
 rw[A5]
 constructor
 ·rintro⟨h1,h2⟩
  exact each_in2 (a:=[]) (by simp) (inB_inW h (wi_len (plc_wi h1)) h2)
 ·intro h1
  exact ⟨wi_mem (btw_wi h h1),inW_inB (by omega) (each_mem0 h1)⟩
noncomputable def win(sd cl lo hi:List Int):List Int:=(((plc sd).zip cl).filter λr=>inB lo r.1 hi).map (·.2)
theorem zip_cel{sd cl:List Int}(hp:∀c∈sd,1<=c)(hl:cl.length=(plc sd).length):(plc sd).zip cl=(plc sd).map λp=>(p,cel sd cl p):=by
 refine List.ext_getElem? λi=>?_
 by_cases hi:i < (plc sd).length
 ·have hz:i < ((plc sd).zip cl).length:=by rw[Y1];omega
  rw[J1,O0 hi,O0 hz,j7]
  have h1:=plc_at hp (k:=i) (p:=(plc sd)[i]) (by simp[hi])
  show some ((plc sd)[i],cl[i])=some ((plc sd)[i],cel sd cl (plc sd)[i])
  have e:cel sd cl (plc sd)[i]=cl[i]:=by
   unfold cel
   rw[h1.2,show ((i:Int)).toNat=i by omega,Q3,O0 (by omega)]
   rfl
  rw[e]
 ·rw[q5.mpr (by rw[Y1];omega),q5.mpr (by rw[i0];omega)]
theorem win_cels{sd cl lo hi:List Int}(hp:∀c∈sd,1<=c)(hl:cl.length=(plc sd).length)(h:Bx lo hi sd):win sd cl lo hi=cels sd cl lo hi:=by
 unfold win cels
 rw[zip_cel hp hl,List.filter_map,L0,<- plc_in h]
 rfl
theorem zip3_ints(a b c:List Int):zip3D (a.map j0) (b.map j0) (c.map j0)=(a.zip (b.zip c)).map λq=>S0 [.int q.1,.int q.2.1,.int q.2.2]:=by
 unfold zip3D
 rw[o9,o9,L0]
 rfl
noncomputable def outT:PyData->Bool
 | .tuple [.int a,.int p,.int b]=>decide (p < a)||decide (b < p)
 | _=>false
theorem out_nil:∀{lo p hi:List Int},(((lo.zip (p.zip hi)).map λq=>S0 [.int q.1,.int q.2.1,.int q.2.2]).filter outT=[] ↔ inB lo p hi=true)
 | [],_,_=>by simp[inB]
 | _ :: _,[],_=>by simp[inB]
 | _ :: _,_ :: _,[]=>by simp[inB]
 | a :: lo,x :: p,b :: hi=>by
  have ih:=out_nil (lo:=lo) (p:=p) (hi:=hi)
  rw[Y4,Y4,Z2,V4]
  show (if (decide (x < a)||decide (b < x))=true then _ else _)=[] ↔ ((decide (a<=x)&&decide (x<=b))&&inB lo p hi)=true
  by_cases h:a<=x/\x<=b
  ·rw[if_neg (by simp;omega),decide_eq_true h.1,decide_eq_true h.2]
   simpa using ih
  ·rw[if_pos (by simp;omega)]
   constructor
   ·intro z;cases z
   ·intro z
    rw[Z3,Z3,decide_eq_true_eq,decide_eq_true_eq]at z
    exact absurd z.1 h
noncomputable def rowsP(sd cl:List Int):List (List Int×PyData):=((plc sd).zip cl).map λr=>(r.1,j0 r.2)
section
variable {P:Program}{w:World}{K:u0}{mg:Str->Option Value}{base:Heap}
structure CalsFd(P:Program)(w:World)(K:u0)(mg:Str->Option Value)(base:Heap):Prop where
 law_sides:Cal P w K mg base 2 "_law_sides" ["_law_pen_here"] (conSp K cSides)
 law_places:Cal P w K mg base 1 "_law_places" ["_law_sides_here"] (conSp K cPlaces)
 law_number:Cal P w K mg base 2 "_law_number" ["_law_pen_here"] (conSp K cNumber)
noncomputable def cField:Con:=λargs Q=>∃(ns:List Int) (k l:Int),args=[.io (penD ns k l)]/\0<=k/\0<=l/\∀(sd cl:List Int) (k' l':Int) (o:Ev),Sd sd->cl.length=(plc sd).length->(∀c∈cl,Big c)->0<=k'->0<=l'->Q (.fz (.tuple [fldD sd cl,pdD (rowsP sd cl)])) (some (.io (penD ns k' l')) :: o)
theorem scField:FnScope ["_law_pen_here","_law_sides_here","_law_places_here","_law_cells"] ["_law_pen_here"] (defScope (top 18)):=⟨rfl,rfl,rfl,by decide +kernel,rfl,by decide +kernel,by decide +kernel⟩
theorem ok_field{f:Addr}{fd:FuncData}(F:Fun K "_law_field" "_law_field" (top 18) f fd)(T:Txt mg)(C:CalsFd P w K mg base):FnOk P w K mg base CX0 3 f fd ["_law_pen_here"] (conSp K cField):=by
 have S:=scField
 refine wfn F S (λcdv A outer s H E hr=>(s_cons (s_set (i:=1) S.nd rfl (Or.inl rfl) (w_fnI C.law_sides (hr.mono (by first|decide|omega)) (wa_cons (wn 0) wa_nil)))
     (s_cons (s_set (i:=2) S.nd rfl (Or.inl rfl) (w_fn C.law_places (hr.mono (by first|decide|omega)) (wa_cons (wn 1) wa_nil)))
     (s_cons (s_set (i:=3) S.nd rfl (Or.inl rfl) (w_callT ok_tuple (call_tupleK (K:=K) rfl) T.tuple_ boot_tuple (wa_cons (wx (w_comp rfl (own:=["_law_place"]) (fr:=[0]) (by kernel_rfl) (i_seq rfl (wv 2)) (λ_ _ _ _=>(g_name (i:=0) (by decide +kernel:Q1 (["_law_place","_law_pen_here"]:List Str)) rfl (Or.inl rfl))) (λ_ _ _ _=>if0) (λ_ _ _ _=>(w_fnI C.law_number (hr.mono (by first|decide|omega)) (wa_cons (wn 1) wa_nil))))) wa_nil)))
     (s_one (s_ret (w_tup (wa_cons (wx (w_tup (wa_cons (wx (wv 1)) (wa_cons (wx (wv 3)) wa_nil)))) (wa_cons (wx (w_DP rfl rfl (hu2_of hr) T.dict_ (by decide +kernel) T.zip_ (wa_cons (wn 2) (wa_cons (wn 3) wa_nil)))) wa_nil))))))))) ?_ ?_
 ·rintro args Qd ⟨ns,k,l,rfl,_⟩;rfl
 ·rintro args Qd ⟨ns,k,l,rfl,hk,hl,q⟩
  refine ⟨noOw_of rfl,?_⟩
  with_reducible refine cutS (λρ=>∃(sd:List Int) (k1 l1:Int),Sd sd/\0<=k1/\0<=l1/\ρ=[some (.io (penD ns k1 l1)),some (.fz (tupD sd)),none,none]) ?_ ?_
  ·intro N hN
   exact ⟨ns,k,l,rfl,hk,hl,λsd k1 l1 _ hsd hk1 hl1=>hN _ ⟨sd,k1,l1,hsd,hk1,hl1,rfl⟩⟩
  rintro _ ⟨sd,k1,l1,hsd,hk1,hl1,rfl⟩
  have hm:=hsd.m
  have hpl:=plc_len hsd.p
  with_reducible refine cutS (λρ=>ρ=[some (.io (penD ns k1 l1)),some (.fz (tupD sd)),some (.ow (.list ((plc sd).map tupD))),none]) ?_ ?_
  ·intro N hN
   exact ⟨sd,rfl,hsd.p,by omega,hsd.l3,λo=>hN _ rfl⟩
  rintro _ rfl
  with_reducible refine cutS (λρ=>∃(cl:List Int) (k1 l1:Int),cl.length=(plc sd).length/\(∀c∈cl,Big c)/\0<=k1/\0<=l1/\ρ=[some (.io (penD ns k1 l1)),some (.fz (tupD sd)),some (.fz (.list ((plc sd).map tupD))),some (.fz (tupD cl))]) ?_ ?_
  ·intro N hN
   refine ⟨le_size (by rw[i0];omega),compN (λrest acc τ=>∃(cs:List Int) (k4 l4:Int),acc=cs.map j0/\cs.length+rest.length=(plc sd).length/\(∀c∈cs,Big c)/\τ=[none,some (.io (penD ns k4 l4))]/\0<=k4/\0<=l4) ?_ ?_ ⟨[],k1,l1,rfl,by simp,λc hc=>(by cases hc),rfl,hk1,hl1⟩⟩
   ·rintro d ds acc τ ⟨cs,k4,l4,rfl,hlen,hB,rfl,hk4,hl4⟩ N' hN'
    refine ⟨ns,k4,l4,rfl,hk4,hl4,λx k5 l5 _ hx hk5 hl5=>?_⟩
    refine hN' _ _ ⟨cs++[x],k5,l5,by simp[Sl.d],by simp at hlen ⊢;omega,λc hc=>?_,rfl,hk5,hl5⟩
    rcases W1.mp hc with z|z
    ·exact hB c z
    ·rw[B3.mp z];exact hx
   ·rintro acc τ ⟨cs,k4,l4,rfl,hlen,hB,rfl,hk4,hl4⟩
    exact hN _ ⟨cs,k4,l4,by simpa using hlen,hB,hk4,hl4,rfl⟩
  rintro _ ⟨cl,k2,l2,hcl,hB,hk2,hl2,rfl⟩
  have e1:(plc sd).map tupD=(rowsP sd cl).map λp=>tI p.1:=by
   unfold rowsP
   rw[L0]
   have e:(plc sd).map tupD=(((plc sd).zip cl).map (·.1)).map tupD:=by rw[t7 (by omega)]
   rw[e,L0]
   rfl
  have e2:cl.map j0=(rowsP sd cl).map (·.2):=by
   unfold rowsP
   rw[L0]
   have e:cl.map j0=(((plc sd).zip cl).map (·.2)).map j0:=by rw[List.map_snd_zip (by omega)]
   rw[e,L0]
   rfl
  have e3:(rowsP sd cl).map (·.1)=plc sd:=by
   unfold rowsP
   rw[L0]
   exact t7 (by omega)
  refine ⟨rowsP sd cl,congrArg some e1,congrArg some e2,by rw[e3];exact plc_nodup hsd.p,?_⟩
  exact q sd cl k2 l2 _ hsd hcl hB hk2 hl2
noncomputable def cWithin:Con:=λargs Q=>∃sd cl lo hi:List Int,args=[.fz (pdD (rowsP sd cl)),.fz (tupD lo),.fz (tupD hi)]/\(plc sd).length<=1000/\lo.length<=3/\∀o,Q (.ow (.list ((win sd cl lo hi).map j0))) o
theorem scWithin:FnScope ["_law_known","_law_low","_law_high","_law_found","_law_place","_law_number_here"] ["_law_known","_law_low","_law_high"] (defScope (top 19)):=⟨rfl,rfl,rfl,by decide +kernel,rfl,by decide +kernel,by decide +kernel⟩
theorem ok_within{f:Addr}{fd:FuncData}(F:Fun K "_law_within" "_law_within" (top 19) f fd)(T:Txt mg):FnOk P w K mg base CX0 1 f fd ["_law_known","_law_low","_law_high"] (conSp K cWithin):=by
 have S:=scWithin
 refine wfn F S (λcdv A outer s H E hr=>(s_cons (s_set (i:=3) S.nd rfl (Or.inl rfl) (w_lst wa_nil))
     (s_cons (s_for [4,5] PassesOwn.never rfl (i_items (wn 0)) (g_tup rfl rfl (gs_cons (g_name (i:=4) S.nd rfl (Or.inl rfl)) (gs_cons (g_name (i:=5) S.nd rfl (Or.inl rfl)) gs_nil))) (s_one (s_if (t_cmp ok_eq (op_eqE (K:=K) rfl hr.units) (wx (w_comp rfl (own:=["_law_a","_law_p","_law_b"]) (fr:=[]) (by kernel_rfl) (i_zip3 rfl T.zip_ (wa_cons (wn 1) (wa_cons (wn 4) (wa_cons (wn 2) wa_nil)))) (λ_ _ _ _=>(g_tup rfl rfl (gs_cons (g_name (i:=0) (by decide +kernel:Q1 (["_law_a","_law_p","_law_b"]:List Str)) rfl (Or.inl rfl)) (gs_cons (g_name (i:=1) (by decide +kernel:Q1 (["_law_a","_law_p","_law_b"]:List Str)) rfl (Or.inl rfl)) (gs_cons (g_name (i:=2) (by decide +kernel:Q1 (["_law_a","_law_p","_law_b"]:List Str)) rfl (Or.inl rfl)) gs_nil))))) (λ_ _ _ _=>if1 (t_w (t_or (t_cmp ok_lt op_lt (wn 1) (wn 0)) (t_or1 (t_cmp ok_gt op_gt (wn 1) (wn 2)))))) (λ_ _ _ _=>w_int))) (wx (w_lst wa_nil))) (s_one (s_expr (w_m ok_append rfl PySem.F.slot_list_append PySem.F.type_list_append mt_append (wn 3) (wa_cons (wx (wv 5)) wa_nil)))) s_nil)))
     (s_one (s_retV (wn 3)))))) ?_ ?_
 ·rintro args Qd ⟨sd,cl,lo,hi,rfl,_⟩;rfl
 ·rintro args Qd ⟨sd,cl,lo,hi,rfl,hn,h3,q⟩
  refine ⟨noOw_of rfl,?_⟩
  with_reducible refine cutS (λρ=>ρ=[some (.fz (pdD (rowsP sd cl))),some (.fz (tupD lo)),some (.fz (tupD hi)),some (.ow (.list [])),none,none]) ?_ ?_
  ·intro N hN
   exact hN _ rfl
  rintro _ rfl
  with_reducible refine cutS (λρ=>ρ=[some (.fz (pdD (rowsP sd cl))),some (.fz (tupD lo)),some (.fz (tupD hi)),some (.ow (.list ((win sd cl lo hi).map j0))),none,none]) ?_ ?_
  ·intro N hN
   have hzl:((plc sd).zip cl).length<=1000:=by rw[Y1];omega
   refine (?_:dLoopC _ _ _ _ ((rowsP sd cl).map λp=>.tuple [tI p.1,p.2]) _)
   have er:(rowsP sd cl).map (λp=>S0 [tI p.1,p.2])=((plc sd).zip cl).map λr=>S0 [tupD r.1,.int r.2]:=by
    unfold rowsP
    rw[L0]
    rfl
   rw[er]
   unfold win at hN
   generalize (plc sd).zip cl=zs at hN hzl ⊢
   refine loopC (λrest ρ=>∃dn rs:List (List Int×Int),zs=dn++rs/\rest=rs.map (λr=>S0 [tupD r.1,.int r.2])/\ρ=[some (.fz (pdD (rowsP sd cl))),some (.fz (tupD lo)),some (.fz (tupD hi)),some (.ow (.list (((dn.filter λr=>inB lo r.1 hi).map (·.2)).map j0))),none,none]) ?_ ?_ ⟨[],zs,rfl,rfl,rfl⟩
   ·rintro d ds ρ ⟨dn,rs,ez,es,rfl⟩ M hM
    cases rs with
    | nil=>cases es
    | cons r rs =>
     cases es
     obtain⟨p,c⟩:=r
     refine ⟨rfl,?_⟩
     have hz:=zip3_ints lo p hi
     have hdl:(dn.filter λr=>inB lo r.1 hi).length<=dn.length:=g7 _ _
     have hzd:dn.length<=1000:=by rw[ez,M0]at hzl;omega
     refine ⟨by rw[hz,i0,Y1];exact le_size (by omega),filC outT (λ_=>.int 1) ?_ ?_⟩
     ·intro d hd N' M' hN' hM'
      rw[hz]at hd
      obtain⟨⟨a,x,b⟩,_,rfl⟩:=J0.mp hd
      refine ⟨rfl,ite2 (λh=>?_) (λh=>ite2 (λh2=>?_) (λh2=>?_))⟩
      ·have h:decide (x < a)=true:=h
       exact hN' (by show (decide (x < a)||decide (b < x))=true;rw[h];rfl)
      ·have h2:decide (b < x)=true:=h2
       exact hN' (by show (decide (x < a)||decide (b < x))=true;rw[h2,Bool.or_true])
      ·have h:¬decide (x < a)=true:=h
       have h2:¬decide (b < x)=true:=h2
       exact hM' (by show (decide (x < a)||decide (b < x))=false;rw[W3.mpr h,W3.mpr h2];rfl)
     rw[hz]
     have eo:=out_nil (lo:=lo) (p:=p) (hi:=hi)
     generalize ((lo.zip (p.zip hi)).map λq=>S0 [.int q.1,.int q.2.1,.int q.2.2]).filter outT=us at eo
     have el:us.map (λ_=>j0 1)=(us.map λ_=>(1:Int)).map j0:=by rw[L0];rfl
     rw[el]
     have n1:=Nice.ints (us.map λ_=>(1:Int))
     have n2:=Nice.ints []
     have es:same (.list ((us.map λ_=>(1:Int)).map j0)) (.list [])=decide (us=[]):=by
      cases us<;>simp[same,sameAll]
     have em:SeqAt.noMix (.list ((us.map λ_=>(1:Int)).map j0)) (.list [])=true:=by
      cases us<;>simp[SeqAt.noMix,SeqAt.noMixAll]
     refine ⟨n1.p,n2.p,n1.sh (by decide),n2.sh (by decide),em,ite2 (λh=>?_) (λh=>?_)⟩
     ·have h:same (.list ((us.map λ_=>(1:Int)).map j0)) (.list [])=true:=h
      rw[es,decide_eq_true_eq]at h
      have hin:=eo.mp h
      refine ⟨by rw[i0,i0];exact G2 (show _<=1000 by omega) (by decide),?_⟩
      refine hM _ ⟨dn++[(p,c)],rs,by rw[ez];simp,rfl,?_⟩
      rw[Q6,V4,if_pos hin]
      simp only[List.filter_nil,X2,Z2,o8]
      rfl
     ·have h:¬same (.list ((us.map λ_=>(1:Int)).map j0)) (.list [])=true:=h
      have hin:¬inB lo p hi=true:=λz=>h (by rw[es,eo.mpr z];rfl)
      refine hM _ ⟨dn++[(p,c)],rs,by rw[ez];simp,rfl,?_⟩
      rw[Q6,V4,if_neg hin]
      simp only[List.filter_nil,K1]
      rfl
   ·rintro ρ ⟨dn,rs,ez,es,rfl⟩
    cases rs with
    | cons _ _=>cases es
    | nil =>
     rw[K1]at ez
     subst ez
     exact hN _ rfl
  rintro _ rfl
  exact q _
end
noncomputable def srtL{α:Type}(lt:α->α->Bool)(l:List α):List α:=l.mergeSort λa b=>!lt b a
theorem srtL_perm{α:Type}(lt:α->α->Bool)(l:List α):(srtL lt l).Perm l:=List.mergeSort_perm _ _
theorem srtL_up{α:Type}{lt:α->α->Bool}(h:SG.Wk lt)(l:List α):(srtL lt l).Pairwise λa b=>lt b a=false:=by
 have:=List.pairwise_mergeSort (le:=λa b=>!lt b a) (λa b c h1 h2=>by
   simp only[Bool.not_eq_true']at h1 h2 ⊢
   exact h.nt c b a h2 h1) (λa b=>by
   cases e1:lt b a with
   | false=>rfl
   | true =>
     cases e2:lt a b with
     | false=>rfl
     | true=>have:=h.tr _ _ _ e1 e2;rw[h.irr]at this;cases this) l
 exact this.imp λ{a b} z=>by simpa using z
noncomputable def strS(n:Int):List (List Int):=srtL HT.lexLt (hl 0 (n - 1))
theorem strS_eq{n:Int}{rows:List (List Int)}(h1:rows.Perm (hl 0 (n - 1)))(h2:rows.Pairwise λa b=>HT.lexLt b a=false):rows=strS n :=
 SG.sorted_uniq (lt:=HT.lexLt) (λa b=>SG.lex_eq) (h1.trans (srtL_perm _ _).symm) h2 (srtL_up SG.lex_wk _)
theorem strS_mem{n:Int}{r:List Int}:r∈strS n ↔ r∈hl 0 (n - 1):=(srtL_perm _ _).mem_iff
noncomputable def prI(r:List Int):Int×Int:=(r.getD 0 0,r.getD 1 0)
noncomputable def strP(n:Int):List (Int×Int):=(strS n).map prI
theorem strP_row{n:Int}(h:1<=n):(strS n).map rwD=(strP n).map prD:=by
 unfold strP
 rw[L0]
 refine G3 λr hr=>?_
 obtain⟨a,b,rfl,_⟩:=hl_in _ 0 (n - 1) rfl (by omega) r (strS_mem.mp hr)
 rfl
theorem strP_in{n:Int}(h:1<=n){p:Int×Int}(hp:p∈strP n):[p.1,p.2]∈hl 0 (n - 1)/\0<=p.1/\p.1<=p.2/\p.2 < n:=by
 obtain⟨r,hr,rfl⟩:=J0.mp hp
 have hr:=strS_mem.mp hr
 obtain⟨a,b,rfl,h1,h2,h3⟩:=hl_in _ 0 (n - 1) rfl (by omega) r hr
 exact ⟨hr,h1,h2,by show b < n;omega⟩
theorem strP_of{n:Int}{a b:Int}(h:[a,b]∈hl 0 (n - 1)):(a,b)∈strP n:=J0.mpr ⟨[a,b],strS_mem.mpr h,rfl⟩
theorem strP_len{n:Int}(h:1<=n):((strP n).length:Int)=2 * n - 1:=by
 unfold strP strS
 rw[i0,(srtL_perm _ _).length_eq]
 have:=hl_len _ 0 (n - 1) rfl (by omega)
 omega
noncomputable def bo(ps:List (Int×Int)):Bxx:=(ps.map (·.1),ps.map (·.2))
noncomputable def hb0(sd:List Int):List Bxx:=(eachA [[]] (sd.map strP)).map bo
noncomputable def hbs(sd:List Int):List Bxx:=srtL ltB (hb0 sd)
theorem hbs_eq{sd:List Int}{rows:List Bxx}(h1:rows.Perm (hb0 sd))(h2:rows.Pairwise λa b=>ltB b a=false):rows=hbs sd :=
 SG.sorted_uniq (lt:=ltB) (λa b=>ltB_eq) (h1.trans (srtL_perm _ _).symm) h2 (srtL_up ltB_wk _)
theorem lenP_str:∀{sd:List Int},(∀c∈sd,1<=c)->(lenP (sd.map strP):Int)<=2 ^ sd.length * prodI sd
 | [],_=>by show (1:Int)<=2 ^ 0 * 1;decide
 | s :: sd,h=>by
  have hs:=h s B0
  have ih:=lenP_str (sd:=sd) λc hc=>h c (A0 _ hc)
  have hp:=prodI_pos (l:=sd) λc hc=>h c (A0 _ hc)
  have e:(lenP ((s :: sd).map strP):Int)=((strP s).length:Int) * (lenP (sd.map strP):Int):=by
   show (((strP s).length * lenP (sd.map strP):Nat):Int)=_
   exact K6 _ _
  rw[e,strP_len hs]
  show (2 * s - 1) * (lenP (sd.map strP):Int)<=2 ^ (sd.length+1) * (s * prodI sd)
  have h1:(2 * s - 1) * (lenP (sd.map strP):Int)<=(2 * s) * (2 ^ sd.length * prodI sd):=X4 (by omega) ih (by omega) (by omega)
  have e2:(2 * s) * (2 ^ sd.length * prodI sd)=2 ^ (sd.length+1) * (s * prodI sd):=by
   rw[t8]
   simp only[Int.mul_assoc,Int.mul_comm,Int.mul_left_comm]
  omega
theorem lenP_960{sd:List Int}(h:Sd sd):lenP (sd.map strP)<=960:=by
 have h1:=lenP_str h.p
 have h2:=h.m
 have h3:=h.l3
 have hp:=prodI_pos h.p
 have h4:(2:Int) ^ sd.length<=8:=by
  rcases (show sd.length=0\/sd.length=1\/sd.length=2\/sd.length=3 by omega) with e|e|e|e<;>rw[e]<;>decide
 have h5:(2:Int) ^ sd.length * prodI sd<=8 * 120:=X4 h4 h2 (by omega) (by decide)
 omega
theorem hb0_len{sd:List Int}(h:Sd sd):(hb0 sd).length<=960:=by
 have h1:=lenP_960 h
 unfold hb0
 rw[i0,eachA_len]
 simpa using h1
theorem hbs_len{sd:List Int}(h:Sd sd):(hbs sd).length<=960:=by
 unfold hbs
 rw[(srtL_perm _ _).length_eq]
 exact hb0_len h
theorem bo_bx:∀{sd:List Int}{ps:List (Int×Int)},(∀c∈sd,1<=c)->InW ps (sd.map strP)->Bx (bo ps).1 (bo ps).2 sd
 | [],[],_,_=>trivial
 | s :: sd,p :: ps,hp,h=>by
  have h1:=strP_in (hp s B0) h.1
  exact ⟨⟨h1.2.1,h1.2.2.1,h1.2.2.2⟩,bo_bx (λc hc=>hp c (A0 _ hc)) h.2⟩
 | [],_ :: _,_,h=>h.elim
 | _ :: _,[],_,h=>h.elim
theorem hbs_mem{sd:List Int}{b:Bxx}:b∈hbs sd ↔ ∃ps,InW ps (sd.map strP)/\b=bo ps:=by
 unfold hbs
 rw[(srtL_perm _ _).mem_iff]
 unfold hb0
 constructor
 ·intro h
  obtain⟨ps,hps,rfl⟩:=J0.mp h
  exact ⟨ps,each_mem0 hps,rfl⟩
 ·rintro⟨ps,hps,rfl⟩
  exact J0.mpr ⟨ps,each_in2 (a:=[]) (by simp) hps,rfl⟩
theorem hbs_bx{sd:List Int}(h:∀c∈sd,1<=c){b:Bxx}(hb:b∈hbs sd):Bx b.1 b.2 sd:=by
 obtain⟨ps,h1,rfl⟩:=hbs_mem.mp hb
 exact bo_bx h h1
noncomputable def dpI:PyData->PyData
 | .tuple (x :: _)=>x
 | _=>.none
noncomputable def dpJ:PyData->PyData
 | .tuple (_ :: y :: _)=>y
 | _=>.none
section
variable {P:Program}{w:World}{K:u0}{mg:Str->Option Value}{base:Heap}
noncomputable def cBo:Con:=λargs Q=>∃ps:List (Int×Int),args=[.fz (.tuple (ps.map prD))]/\ps.length<=1000/\∀o,Q (.fz (boxD (bo ps))) o
theorem scBo:FnScope ["pairs"] ["pairs"] (defScope (top 7)):=⟨rfl,rfl,rfl,by decide +kernel,rfl,by decide +kernel,by decide +kernel⟩
theorem ok_bo{f:Addr}{fd:FuncData}(F:Fun K "box_of" "box_of" (top 7) f fd)(T:Txt mg):FnOk P w K mg base CX0 1 f fd ["pairs"] (conSp K cBo):=by
 have S:=scBo
 refine wfn F S (λcdv A outer s H E hr=>(s_one (s_ret (w_tup (wa_cons (wx (w_callT ok_tuple (call_tupleK (K:=K) rfl) T.tuple_ boot_tuple (wa_cons (wx (w_comp rfl (own:=["pair"]) (fr:=[]) (by kernel_rfl) (i_seq rfl (wv 0)) (λ_ _ _ _=>(g_name (i:=0) (by decide +kernel:Q1 (["pair"]:List Str)) rfl (Or.inl rfl))) (λ_ _ _ _=>if0) (λ_ _ _ _=>(w_ix rfl (wn 0) (wx w_int))))) wa_nil))) (wa_cons (wx (w_callT ok_tuple (call_tupleK (K:=K) rfl) T.tuple_ boot_tuple (wa_cons (wx (w_comp rfl (own:=["pair"]) (fr:=[]) (by kernel_rfl) (i_seq rfl (wv 0)) (λ_ _ _ _=>(g_name (i:=0) (by decide +kernel:Q1 (["pair"]:List Str)) rfl (Or.inl rfl))) (λ_ _ _ _=>if0) (λ_ _ _ _=>(w_ix rfl (wn 0) (wx w_int))))) wa_nil))) wa_nil)))))) ?_ ?_
 ·rintro args Qd ⟨ps,rfl,_⟩;rfl
 ·rintro args Qd ⟨ps,rfl,hl,q⟩
  refine ⟨noOw_of rfl,?_⟩
  have hm:(ps.map prD).length=ps.length:=i0 _
  refine ⟨le_size (by omega),mapC dpI ?_ ⟨le_size (by omega),mapC dpJ ?_ ?_⟩⟩
  ·intro d hd N hN
   obtain⟨p,_,rfl⟩:=J0.mp hd
   exact ⟨_,rfl,hN⟩
  ·intro d hd N hN
   obtain⟨p,_,rfl⟩:=J0.mp hd
   exact ⟨_,rfl,hN⟩
  ·have e1:(ps.map prD).map dpI=(bo ps).1.map j0:=by unfold bo;rw[L0,L0];rfl
   have e2:(ps.map prD).map dpJ=(bo ps).2.map j0:=by unfold bo;rw[L0,L0];rfl
   have q:=q
   unfold boxD at q
   rw[<- e1,<- e2]at q
   exact q _
structure CalsBy(P:Program)(w:World)(K:u0)(mg:Str->Option Value)(base:Heap):Prop where
 one_of_each:Cal P w K mg base 1 "one_of_each" ["choices"] (conSp K cEach)
 box_of:Cal P w K mg base 1 "box_of" ["pairs"] (conSp K cBo)
noncomputable def unP:PyData->Int×Int
 | .tuple [.int a,.int b]=>(a,b)
 | _=>(0,0)
noncomputable def fBo:PyData->PyData
 | .tuple ds=>boxD (bo (ds.map unP))
 | _=>.none
theorem fBo_ps(ps:List (Int×Int)):fBo (.tuple (ps.map prD))=boxD (bo ps):=by
 show boxD (bo ((ps.map prD).map unP))=_
 rw[L0]
 have:ps.map (unP ∘ prD)=ps:=by
  conv=>rhs;rw[<- L8 ps]
  exact G3 λp _=>rfl
 rw[this]
end
noncomputable def mnL:List Int->Int
 | []=>0
 | [x]=>x
 | x :: y :: l=>min x (mnL (y :: l))
noncomputable def mxL:List Int->Int
 | []=>0
 | [x]=>x
 | x :: y :: l=>max x (mxL (y :: l))
theorem mnL_spec:∀{l:List Int},l≠[]->mnL l∈l/\∀y∈l,mnL l<=y
 | [],h=>absurd rfl h
 | [x],_=>⟨by simp[mnL],λy hy=>by
   have e:y=x:=by simpa using hy
   rw[e]
   exact Y5 _⟩
 | x :: y :: l,_=>by
  obtain⟨h1,h2⟩:=mnL_spec (l:=y :: l) (by simp)
  show min x (mnL (y :: l))∈x :: y :: l/\_
  constructor
  ·rcases (show min x (mnL (y :: l))=x\/min x (mnL (y :: l))=mnL (y :: l) by omega) with e|e<;>rw[e]
   ·exact B0
   ·exact A0 _ h1
  ·intro z hz
   show min x (mnL (y :: l))<=z
   rcases Y0.mp hz with e|e
   ·omega
   ·have:=h2 z e;omega
theorem mxL_spec:∀{l:List Int},l≠[]->mxL l∈l/\∀y∈l,y<=mxL l
 | [],h=>absurd rfl h
 | [x],_=>⟨by simp[mxL],λy hy=>by
   have e:y=x:=by simpa using hy
   rw[e]
   exact Y5 _⟩
 | x :: y :: l,_=>by
  obtain⟨h1,h2⟩:=mxL_spec (l:=y :: l) (by simp)
  show max x (mxL (y :: l))∈x :: y :: l/\_
  constructor
  ·rcases (show max x (mxL (y :: l))=x\/max x (mxL (y :: l))=mxL (y :: l) by omega) with e|e<;>rw[e]
   ·exact B0
   ·exact A0 _ h1
  ·intro z hz
   show z<=max x (mxL (y :: l))
   rcases Y0.mp hz with e|e
   ·omega
   ·have:=h2 z e;omega
theorem mnL_eq{l:List Int}{m:Int}(h1:m∈l)(h2:∀y∈l,m<=y):m=mnL l:=by
 have hs:=mnL_spec (l:=l) (λz=>by rw[z]at h1;cases h1)
 have a:=h2 _ hs.1
 have b:=hs.2 _ h1
 omega
theorem mxL_eq{l:List Int}{m:Int}(h1:m∈l)(h2:∀y∈l,y<=m):m=mxL l:=by
 have hs:=mxL_spec (l:=l) (λz=>by rw[z]at h1;cases h1)
 have a:=h2 _ hs.1
 have b:=hs.2 _ h1
 omega
noncomputable def tl3(l:List Int):List Int:=[l.sum,mnL l,mxL l]
noncomputable def tlB(sd cl:List Int)(b:Bxx):List Int:=tl3 (cels sd cl b.1 b.2)
noncomputable abbrev enX(sd cl:List Int)(b:Bxx):PyData:=.tuple [boxD b,tupD (tlB sd cl b)]
theorem btw_ne{lo hi sd:List Int}(h:Bx lo hi sd):btw lo hi≠[]:=λz=>by
 have:lo∈btw lo hi:=by
  refine each_in2 (a:=[]) (by simp) ?_
  clear z
  induction lo generalizing hi sd with
  | nil=>cases hi with
   | nil=>trivial
   | cons b hi=>cases sd<;>exact h.elim
  | cons a lo ih =>
   cases hi with
   | nil=>cases sd<;>exact h.elim
   | cons b hi =>
    cases sd with
    | nil=>exact h.elim
    | cons s sd=>exact ⟨rng2_mem.mpr ⟨Y5 _,h.1.2.1⟩,ih h.2⟩
 rw[z]at this
 cases this
theorem cels_ne{sd cl lo hi:List Int}(h:Bx lo hi sd):cels sd cl lo hi≠[]:=λz=>btw_ne h (T5.mp z)
noncomputable def fHo(sd cl:List Int):PyData->PyData
 | .tuple [.tuple lo,.tuple hi]=>enX sd cl (lo.map unI,hi.map unI)
 | _=>.none
section
variable {P:Program}{w:World}{K:u0}{mg:Str->Option Value}{base:Heap}
structure CalsLh(P:Program)(w:World)(K:u0)(mg:Str->Option Value)(base:Heap):Prop where
 law_stretches:Cal P w K mg base 1 "_law_stretches" ["_law_side"] (conSp K cLSt)
noncomputable def cLh:Con:=λargs Q=>∃sd:List Int,args=[.fz (tupD sd)]/\Sd sd/\∀o,Q (.ow (.list ((hbs sd).map boxD))) o
theorem bo_snoc(ps:List (Int×Int))(p:Int×Int):boxD (bo (ps++[p]))=.tuple [.tuple ((bo ps).1.map j0++[.int p.1]),.tuple ((bo ps).2.map j0++[.int p.2])]:=by
 unfold bo boxD
 simp only[X2,Z2,o8]
noncomputable def fSn(ps:List (Int×Int)):PyData->PyData
 | .tuple [a,b]=>.tuple [.tuple ((bo ps).1.map j0++[a]),.tuple ((bo ps).2.map j0++[b])]
 | _=>.none
theorem scLh:FnScope ["_law_sides_here","_law_found","_law_side","_law_longer","_law_low","_law_high"] ["_law_sides_here"] (defScope (top 23)):=⟨rfl,rfl,rfl,by decide +kernel,rfl,by decide +kernel,by decide +kernel⟩
theorem ok_lh{f:Addr}{fd:FuncData}(F:Fun K "_law_half_boxes" "_law_half_boxes" (top 23) f fd)(T:Txt mg)(C:CalsLh P w K mg base):FnOk P w K mg base CX0 2 f fd ["_law_sides_here"] (conSp K cLh):=by
 have S:=scLh
 refine wfn F S (λcdv A outer s H E hr=>(s_cons (s_set (i:=1) S.nd rfl (Or.inl rfl) (w_lst (wa_cons (wx (w_tup (wa_cons (wx (w_tup wa_nil)) (wa_cons (wx (w_tup wa_nil)) wa_nil)))) wa_nil)))
     (s_cons (s_for [2,3,4,5] PassesOwn.never rfl (i_seq rfl (wv 0)) (g_name (i:=2) S.nd rfl (Or.inl rfl)) (s_cons (s_set (i:=3) S.nd rfl (Or.inl rfl) (w_lst wa_nil))
     (s_cons (s_for [4,5] PassesOwn.never rfl (i_seq rfl (wv 1)) (g_tup rfl rfl (gs_cons (g_name (i:=4) S.nd rfl (Or.inr rfl)) (gs_cons (g_name (i:=5) S.nd rfl (Or.inr rfl)) gs_nil))) (s_one (s_expr (w_m ok_extend rfl PySem.F.slot_list_extend PySem.F.type_list_extend mt_extend (wn 3) (wa_cons (wx (w_comp rfl (own:=["_law_a","_law_b"]) (fr:=[4,5]) (by kernel_rfl) (i_seq rfl (w_fn C.law_stretches (hr.mono (by first|decide|omega)) (wa_cons (wn 2) wa_nil))) (λ_ _ _ _=>(g_tup rfl rfl (gs_cons (g_name (i:=0) (by decide +kernel:Q1 (["_law_a","_law_b","_law_low","_law_high"]:List Str)) rfl (Or.inl rfl)) (gs_cons (g_name (i:=1) (by decide +kernel:Q1 (["_law_a","_law_b","_law_low","_law_high"]:List Str)) rfl (Or.inl rfl)) gs_nil)))) (λ_ _ _ _=>if0) (λ_ _ _ _=>(w_tup (wa_cons (wx (w_bin ok_add op_addD (wn 2) (wx (w_tup (wa_cons (wx (wv 0)) wa_nil))))) (wa_cons (wx (w_bin ok_add op_addD (wn 3) (wx (w_tup (wa_cons (wx (wv 1)) wa_nil))))) wa_nil)))))) wa_nil)))))
     (s_one (s_move (i:=1) S.nd rfl (Or.inl rfl) (wn 3))))))
     (s_one (s_ret (w_callB ok_sortB (call_sortBK rfl (hu2_of hr)) T.sorted_ boot_sorted (wa_cons (wn 1) wa_nil))))))) ?_ ?_
 ·rintro args Qd ⟨sd,rfl,_⟩;rfl
 ·rintro args Qd ⟨sd,rfl,hsd,q⟩
  refine ⟨noOw_of rfl,?_⟩
  have h3:=hsd.l3
  have hm:=hsd.m
  have h9:=lenP_960 hsd
  with_reducible refine cutS (λρ=>ρ=[some (.fz (tupD sd)),some (.ow (.list ([[]].map λps=>boxD (bo ps)))),none,none,none,none]) ?_ ?_
  ·intro N hN
   exact hN _ rfl
  rintro _ rfl
  with_reducible refine cutS (λρ=>ρ=[some (.fz (tupD sd)),some (.ow (.list ((hb0 sd).map boxD))),none,none,none,none]) ?_ ?_
  ·intro N hN
   have hini:∀p∈([[]]:List (List (Int×Int))),p.length+sd.length<=3:=λp hp=>by
    have e:p=[]:=by simpa using hp
    rw[e]
    simpa using h3
   refine loopC (λrest ρ=>∃(acc:List (List (Int×Int))) (rs:List Int),rest=rs.map j0/\(∀c∈rs,1<=c/\c<=120)/\eachA acc (rs.map strP)=eachA [[]] (sd.map strP)/\(∀p∈acc,p.length+rs.length<=3)/\ρ=[some (.fz (tupD sd)),some (.ow (.list (acc.map λps=>boxD (bo ps)))),none,none,none,none]) ?_ ?_
    ⟨[[]],sd,rfl,λc hc=>⟨hsd.p c hc,by have:=le_prodI hsd.p c hc;omega⟩,rfl,hini,rfl⟩
   ·rintro d ds ρ ⟨acc,rs,er,hr1,hacc,hl3,rfl⟩ M hM
    cases rs with
    | nil=>cases er
    | cons s rs =>
     cases er
     have hs:=hr1 s B0
     have hrs:∀c∈rs,1<=c/\c<=120:=λc hc=>hr1 c (A0 _ hc)
     have hacc':eachA (acc.flatMap λp=>(strP s).map λx=>p++[x]) (rs.map strP)=eachA [[]] (sd.map strP):=hacc
     have hlp:=lenP_pos (cs:=rs.map strP) λc hc=>by
      obtain⟨x,hx,rfl⟩:=J0.mp hc
      intro z
      have h1:=strP_len (hrs x hx).1
      rw[z]at h1
      have:=(hrs x hx).1
      simp at h1
      omega
     have htot:(acc.flatMap λp=>(strP s).map λx=>p++[x]).length<=960:=by
      have h1:=eachA_len (rs.map strP) (acc.flatMap λp=>(strP s).map λx=>p++[x])
      rw[hacc',eachA_len]at h1
      have h2:(acc.flatMap λp=>(strP s).map λx=>p++[x]).length<=(acc.flatMap λp=>(strP s).map λx=>p++[x]).length * lenP (rs.map strP):=X5 _ hlp
      simp only[G4,R7]at h1
      omega
     have hsl:=strP_len hs.1
     with_reducible refine gnC rfl ?_
     with_reducible refine cutS (λρ=>ρ=[some (.fz (tupD sd)),some (.ow (.list (acc.map λps=>boxD (bo ps)))),some (.fz (.int s)),some (.ow (.list [])),none,none]) ?_ ?_
     ·intro M2 hM2
      exact hM2 _ rfl
     rintro _ rfl
     with_reducible refine cutS (λρ=>ρ=[some (.fz (tupD sd)),some (.fz (.list (acc.map λps=>boxD (bo ps)))),some (.fz (.int s)),some (.ow (.list ((acc.flatMap λp=>(strP s).map λx=>p++[x]).map λps=>boxD (bo ps)))),none,none]) ?_ ?_
     ·intro M2 hM2
      refine loopC (λrest ρ=>∃(lg rp:List (List (Int×Int))),rest=(rp.map λps=>boxD (bo ps))/\(lg++rp.flatMap λp=>(strP s).map λx=>p++[x])=(acc.flatMap λp=>(strP s).map λx=>p++[x])/\(∀p∈rp,p∈acc)/\ρ=[some (.fz (tupD sd)),some (.fz (.list (acc.map λps=>boxD (bo ps)))),some (.fz (.int s)),some (.ow (.list (lg.map λps=>boxD (bo ps)))),none,none]) ?_ ?_ ⟨[],acc,rfl,rfl,λp hp=>hp,rfl⟩
      ·rintro d ds ρ ⟨lg,rp,er,he,hin,rfl⟩ M3 hM3
       cases rp with
       | nil=>cases er
       | cons p rp =>
        cases er
        have hpl:=hl3 p (hin p B0)
        have hb1:(bo p).1.length=p.length:=i0 _
        have hb2:(bo p).2.length=p.length:=i0 _
        have hl5:lg.length+(strP s).length<=960:=by
         have:=congrArg Y3 he
         rw[M0,P1,M0,i0]at this
         omega
        refine ⟨rfl,?_⟩
        refine ⟨s,rfl,hs.1,by omega,λrows o hp hu=>?_⟩
        rw[strS_eq hp hu,strP_row hs.1]
        refine ⟨le_size (by rw[i0];omega),mapC (fSn p) ?_ ?_⟩
        ·intro d hd N' hN'
         obtain⟨x,_,rfl⟩:=J0.mp hd
         exact ⟨rfl,le_size (by simp;simp at hpl;omega),le_size (by simp;simp at hpl;omega),hN'⟩
        ·have e1:((strP s).map prD).map (fSn p)=((strP s).map λx=>p++[x]).map λps=>boxD (bo ps):=by
          rw[L0,L0]
          exact G3 λx _=>(bo_snoc p x).symm
         rw[e1]
         refine ⟨le_size (by simp;omega),hM3 _ ⟨lg++(strP s).map λx=>p++[x],rp,rfl,by rw[L1,<- he,P1],λp' hp'=>hin p' (A0 _ hp'),?_⟩⟩
         rw[X2]
         rfl
      ·rintro ρ ⟨lg,rp,er,he,hin,rfl⟩
       cases rp with
       | cons p rp=>cases er
       | nil =>
        rw[o7,K1]at he
        rw[<- he]at hM2
        exact hM2 _ rfl
     rintro _ rfl
     refine hM _ ⟨acc.flatMap λp=>(strP s).map λx=>p++[x],rs,rfl,hrs,hacc',λp hp=>?_,rfl⟩
     obtain⟨p',hp',hx⟩:=Y2.mp hp
     obtain⟨x,_,rfl⟩:=J0.mp hx
     have:=hl3 p' hp'
     simp at this ⊢
     omega
   ·rintro ρ ⟨acc,rs,er,hr1,hacc,hl3,rfl⟩
    cases rs with
    | cons a rs=>cases er
    | nil =>
     have hacc:acc=eachA [[]] (sd.map strP):=hacc
     have e:(hb0 sd).map boxD=acc.map λps=>boxD (bo ps):=by unfold hb0;rw[<- hacc,L0];rfl
     rw[e]at hN
     exact hN _ rfl
  rintro _ rfl
  refine ⟨hb0 sd,rfl,X0 (hb0_len hsd) (by decide),λrows hp hu=>?_⟩
  rw[hbs_eq hp hu]
  exact q _
structure CalsDu(P:Program)(w:World)(K:u0)(mg:Str->Option Value)(base:Heap):Prop where
 law_half_boxes:Cal P w K mg base 2 "_law_half_boxes" ["_law_sides_here"] (conSp K cLh)
 law_within:Cal P w K mg base 1 "_law_within" ["_law_known","_law_low","_law_high"] (conSp K cWithin)
noncomputable def cDu:Con:=λargs Q=>∃sd cl:List Int,args=[.fz (tupD sd),.fz (pdD (rowsP sd cl))]/\Sd sd/\cl.length=(plc sd).length/\∀o,Q (.ow (.list ((hbs sd).map (enX sd cl)))) o
theorem scDu:FnScope ["_law_sides_here","_law_known","_law_found","_law_low","_law_high","_law_some"] ["_law_sides_here","_law_known"] (defScope (top 24)):=⟨rfl,rfl,rfl,by decide +kernel,rfl,by decide +kernel,by decide +kernel⟩
theorem ok_du{f:Addr}{fd:FuncData}(F:Fun K "_law_due" "_law_due" (top 24) f fd)(T:Txt mg)(C:CalsDu P w K mg base):FnOk P w K mg base CX0 3 f fd ["_law_sides_here","_law_known"] (conSp K cDu):=by
 have S:=scDu
 refine wfn F S (λcdv A outer s H E hr=>(s_cons (s_set (i:=2) S.nd rfl (Or.inl rfl) (w_lst wa_nil))
     (s_cons (s_for [3,4,5] PassesOwn.never rfl (i_seq rfl (w_fn C.law_half_boxes (hr.mono (by first|decide|omega)) (wa_cons (wn 0) wa_nil))) (g_tup rfl rfl (gs_cons (g_name (i:=3) S.nd rfl (Or.inl rfl)) (gs_cons (g_name (i:=4) S.nd rfl (Or.inl rfl)) gs_nil))) (s_cons (s_set (i:=5) S.nd rfl (Or.inl rfl) (w_fn C.law_within (hr.mono (by first|decide|omega)) (wa_cons (wn 1) (wa_cons (wn 3) (wa_cons (wn 4) wa_nil)))))
     (s_one (s_expr (w_m ok_append rfl PySem.F.slot_list_append PySem.F.type_list_append mt_append (wn 2) (wa_cons (wx (w_tup (wa_cons (wx (w_tup (wa_cons (wx (wv 3)) (wa_cons (wx (wv 4)) wa_nil)))) (wa_cons (wx (w_tup (wa_cons (wx (w_callB ok_sum (call_sumK (K:=K) rfl rfl) T.sum_ boot_sum (wa_cons (wn 5) wa_nil))) (wa_cons (wx (w_callB ok_mnI (call_mnI (K:=K) rfl rfl) T.min_ boot_min (wa_cons (wn 5) wa_nil))) (wa_cons (wx (w_callB ok_mxI (call_mxI (K:=K) rfl rfl) T.max_ boot_max (wa_cons (wn 5) wa_nil))) wa_nil))))) wa_nil)))) wa_nil))))))
     (s_one (s_retV (wn 2)))))) ?_ ?_
 ·rintro args Qd ⟨sd,cl,rfl,_⟩;rfl
 ·rintro args Qd ⟨sd,cl,rfl,hsd,hcl,q⟩
  refine ⟨noOw_of rfl,?_⟩
  have hl:=hbs_len hsd
  have hm:=hsd.m
  have h3:=hsd.l3
  have hpl:=plc_len hsd.p
  with_reducible refine cutS (λρ=>ρ=[some (.fz (tupD sd)),some (.fz (pdD (rowsP sd cl))),some (.ow (.list [])),none,none,none]) ?_ ?_
  ·intro N hN
   exact hN _ rfl
  rintro _ rfl
  with_reducible refine cutS (λρ=>ρ=[some (.fz (tupD sd)),some (.fz (pdD (rowsP sd cl))),some (.ow (.list ((hbs sd).map (enX sd cl)))),none,none,none]) ?_ ?_
  ·intro N hN
   refine ⟨sd,rfl,hsd,λo=>?_⟩
   refine (?_:dLoopC _ _ _ _ ((hbs sd).map boxD) [some (.fz (tupD sd)),some (.fz (pdD (rowsP sd cl))),some (.ow (.list [])),none,none,none])
   refine loopC (λrest ρ=>∃dn rs:List Bxx,hbs sd=dn++rs/\rest=rs.map boxD/\ρ=[some (.fz (tupD sd)),some (.fz (pdD (rowsP sd cl))),some (.ow (.list (dn.map (enX sd cl)))),none,none,none]) ?_ ?_ ⟨[],hbs sd,rfl,rfl,rfl⟩
   ·rintro d ds ρ ⟨dn,rs,ez,es,rfl⟩ M hM
    cases rs with
    | nil=>cases es
    | cons b rs =>
     cases es
     have hb:b∈hbs sd:=by rw[ez];simp
     have hbx:=hbs_bx hsd.p hb
     have hbl:=bx_len hbx
     have hne:=cels_ne (cl:=cl) hbx
     have h0:0 < (cels sd cl b.1 b.2).length:=S5.mpr hne
     have hdl:dn.length<=960:=by rw[ez,M0]at hl;omega
     refine ⟨rfl,?_⟩
     refine ⟨sd,cl,b.1,b.2,rfl,by omega,by omega,λo=>?_⟩
     rw[win_cels hsd.p hcl hbx]
     refine ⟨cels sd cl b.1 b.2,rfl,cels sd cl b.1 b.2,rfl,h0,λm hm' hmy=>⟨cels sd cl b.1 b.2,rfl,h0,λM2 hM2 hMy=>?_⟩⟩
     rw[mnL_eq hm' hmy,mxL_eq hM2 hMy]
     refine ⟨G2 (show _<=1000 by rw[i0];omega) (by decide),?_⟩
     refine hM _ ⟨dn++[b],rs,by rw[ez];simp,rfl,?_⟩
     rw[X2]
     rfl
   ·rintro ρ ⟨dn,rs,ez,es,rfl⟩
    cases rs with
    | cons _ _=>cases es
    | nil =>
     rw[K1]at ez
     rw[<- ez]  at *
     exact hN _ rfl
  rintro _ rfl
  exact q _
end
theorem hl_nodup:∀(n:Nat) (lo hi:Int),(hi - lo).toNat=n->lo<=hi->(hl lo hi).Nodup:=by
 intro n
 induction n using J6 with
 | _ n ih =>
  intro lo hi e h
  by_cases hlt:lo < hi
  ·rw[hl_lt hlt,O4,X7]
   have r1:=hl_in _ ((lo+hi) / 2+1) hi rfl (by omega)
   have r2:=hl_in _ lo ((lo+hi) / 2) rfl (by omega)
   refine ⟨λz=>?_,ih _ (by omega) _ _ rfl (by omega),ih _ (by omega) _ _ rfl (by omega),λx hx y hy z=>?_⟩
   ·rcases W1.mp z with z|z
    ·obtain⟨a,b,e1,h1,h2,h3⟩:=r1 _ z
     injection e1 with e1 _
     omega
    ·obtain⟨a,b,e1,h1,h2,h3⟩:=r2 _ z
     injection e1 with _ e1
     injection e1 with e1 _
     omega
   ·obtain⟨a,b,e1,h1,h2,h3⟩:=r1 _ hx
    obtain⟨a',b',e2,h1',h2',h3'⟩:=r2 _ hy
    rw[e1,e2]at z
    injection z with z1 _
    omega
  ·rw[hl_ge hlt]
   exact P3 _ _
theorem strP_nodup{n:Int}(h:1<=n):(strP n).Nodup:=by
 unfold strP
 have h1:(strS n).Nodup:=(srtL_perm _ _).nodup_iff.mpr (hl_nodup _ 0 (n - 1) rfl (by omega))
 refine u4.mpr (List.Pairwise.imp_of_mem (λ{a b} ha hb hne z=>?_) h1)
 obtain⟨x,y,e1,_⟩:=hl_in _ 0 (n - 1) rfl (by omega) a (strS_mem.mp ha)
 obtain⟨x',y',e2,_⟩:=hl_in _ 0 (n - 1) rfl (by omega) b (strS_mem.mp hb)
 rw[e1,e2]at z hne
 have z:(x,y)=(x',y'):=z
 injection z with z1 z2
 exact hne (by rw[z1,z2])
theorem each_nodup{α:Type}:∀{cs:List (List α)}{acc:List (List α)},acc.Nodup->(∀c∈cs,c.Nodup)->(eachA acc cs).Nodup
 | [],_,h,_=>h
 | c :: cs,acc,h,hc=>by
  refine each_nodup (cs:=cs) ?_ λd hd=>hc d (A0 _ hd)
  refine J8.mpr ⟨λp hp=>?_,h.imp λ{a b} hab x hx y hy z=>?_⟩
  ·refine u4.mpr ((hc c B0).imp λ{a b} hab z=>hab ?_)
   have:=List.append_cancel_left z
   injection this
  ·obtain⟨u,_,rfl⟩:=J0.mp hx
   obtain⟨v,_,rfl⟩:=J0.mp hy
   exact hab (List.append_inj' z rfl).1
theorem bo_inj{ps qs:List (Int×Int)}(h:bo ps=bo qs):ps=qs:=by
 unfold bo at h
 injection h with h1 h2
 have e:∀l:List (Int×Int),l=(l.map (·.1)).zip (l.map (·.2)):=λl=>by
  induction l with
  | nil=>rfl
  | cons a l ih=>rw[Z2,Z2,Y4,<- ih]
 rw[e ps,e qs,h1,h2]
theorem hbs_nodup{sd:List Int}(h:∀c∈sd,1<=c):(hbs sd).Nodup:=by
 refine (srtL_perm _ _).nodup_iff.mpr ?_
 unfold hb0
 refine u4.mpr ((each_nodup (P3 _ _) λc hc=>?_).imp λ{a b} hab z=>hab (bo_inj z))
 obtain⟨s,hs,rfl⟩:=J0.mp hc
 exact strP_nodup (h s hs)
theorem perm_sum:∀{l m:List Int},l.Perm m->l.sum=m.sum:=λh=>by
 induction h with
 | nil=>rfl
 | cons x _ ih=>rw[j6,j6,ih]
 | swap x y l=>rw[j6,j6,j6,j6];omega
 | trans _ _ h1 h2=>rw[h1,h2]
noncomputable def cov(lo hi a b:Int):List (Int×Int):=if a<=lo/\hi<=b then [(lo,hi)] else if h:lo < hi then cov lo ((lo+hi) / 2) a b++cov ((lo+hi) / 2+1) hi a b else []
termination_by (hi - lo).toNat
decreasing_by all_goals omega
theorem cov_in{lo hi a b:Int}(h:a<=lo/\hi<=b):cov lo hi a b=[(lo,hi)]:=by rw[cov,if_pos h]
theorem cov_sp{lo hi a b:Int}(h:¬(a<=lo/\hi<=b))(hl:lo < hi):cov lo hi a b=cov lo ((lo+hi) / 2) a b++cov ((lo+hi) / 2+1) hi a b:=by rw[cov,if_neg h,dif_pos hl]
theorem cov_no{lo hi a b:Int}(h:¬(a<=lo/\hi<=b))(hl:¬lo < hi):cov lo hi a b=[]:=by rw[cov,if_neg h,dif_neg hl]
theorem halves{p:Int->Int->Prop}(h:∀lo hi:Int,lo<=hi->(lo < hi->p lo ((lo+hi) / 2))->(lo < hi->p ((lo+hi) / 2+1) hi)->p lo hi):∀lo hi:Int,lo<=hi->p lo hi:=by
 have gen:∀(n:Nat) (lo hi:Int),(hi - lo).toNat=n->lo<=hi->p lo hi:=by
  intro n
  induction n using J6 with
  | _ n ih =>
   intro lo hi e hle
   exact h lo hi hle (λhl=>ih _ (by omega) _ _ rfl (by omega)) (λhl=>ih _ (by omega) _ _ rfl (by omega))
 exact λlo hi hle=>gen _ lo hi rfl hle
theorem cov_out{a b:Int}:∀lo hi:Int,lo<=hi->(b < lo\/hi < a)->cov lo hi a b=[]:=by
 refine halves λlo hi hle h1 h2 h=>?_
 have hn:¬(a<=lo/\hi<=b):=by omega
 by_cases hl:lo < hi
 ·rw[cov_sp hn hl,h1 hl (by omega),h2 hl (by omega)]
  rfl
 ·exact cov_no hn hl
noncomputable abbrev rw2(p:Int×Int):List Int:=[p.1,p.2]
theorem cov_node{a b:Int}:∀lo hi:Int,lo<=hi->∀p∈cov lo hi a b,rw2 p∈hl lo hi/\a<=p.1/\p.1<=p.2/\p.2<=b/\lo<=p.1/\p.2<=hi:=by
 refine halves λlo hi hle h1 h2 p hp=>?_
 by_cases hw:a<=lo/\hi<=b
 ·rw[cov_in hw]at hp
  have:p=(lo,hi):=by simpa using hp
  subst this
  exact ⟨by rw[hl];exact B0,hw.1,hle,hw.2,Y5 _,Y5 _⟩
 ·by_cases hlt:lo < hi
  ·rw[cov_sp hw hlt]at hp
   rcases W1.mp hp with hp|hp
   ·obtain⟨m1,m2,m3,m4,m5,m6⟩:=h1 hlt p hp
    exact ⟨by rw[hl_lt hlt];exact A0 _ (G1 _ m1),m2,m3,m4,m5,by omega⟩
   ·obtain⟨m1,m2,m3,m4,m5,m6⟩:=h2 hlt p hp
    exact ⟨by rw[hl_lt hlt];exact A0 _ (P5 _ m1),m2,m3,m4,by omega,m6⟩
  ·rw[cov_no hw hlt]at hp
   simp at hp
theorem hl_mem{lo hi:Int}(hle:lo<=hi){p q:Int}(h:[p,q]∈hl lo hi):lo<=p/\p<=q/\q<=hi:=by
 obtain⟨a,b,e,h1,h2,h3⟩:=hl_in _ lo hi rfl hle _ h
 cases e
 exact ⟨h1,h2,h3⟩
theorem hl_cases{lo hi p q:Int}(hlt:lo < hi)(h:[p,q]∈hl lo hi):(p=lo/\q=hi)\/[p,q]∈hl lo ((lo+hi) / 2)\/[p,q]∈hl ((lo+hi) / 2+1) hi:=by
 rw[hl_lt hlt]at h
 rcases Y0.mp h with h|h
 ·cases h;exact .inl ⟨rfl,rfl⟩
 ·rcases W1.mp h with h|h
  ·exact .inr (.inr h)
  ·exact .inr (.inl h)
theorem hl_one{lo p q:Int}(h:[p,q]∈hl lo lo):p=lo/\q=lo:=by
 rw[hl_ge (by omega)]at h
 have:[p,q]=[lo,lo]:=by simpa using h
 cases this
 exact ⟨rfl,rfl⟩
theorem cov_has{a b:Int}:∀lo hi:Int,lo<=hi->∀p q:Int,[p,q]∈hl lo hi->a<=p->q<=b->∃x∈cov lo hi a b,x.1<=p/\q<=x.2:=by
 refine halves λlo hi hle h1 h2 p q hm hp hq=>?_
 have hb:=hl_mem hle hm
 by_cases hw:a<=lo/\hi<=b
 ·rw[cov_in hw]
  exact ⟨(lo,hi),by simp,hb.1,hb.2.2⟩
 ·by_cases hlt:lo < hi
  ·rw[cov_sp hw hlt]
   rcases hl_cases hlt hm with⟨rfl,rfl⟩|hm|hm
   ·exact absurd ⟨hp,hq⟩ hw
   ·obtain⟨x,hx,h3⟩:=h1 hlt p q hm hp hq
    exact ⟨x,P5 _ hx,h3⟩
   ·obtain⟨x,hx,h3⟩:=h2 hlt p q hm hp hq
    exact ⟨x,G1 _ hx,h3⟩
  ·have:lo=hi:=by omega
   subst this
   obtain⟨rfl,rfl⟩:=hl_one hm
   exact absurd ⟨hp,hq⟩ hw
theorem cov_max{a b:Int}:∀lo hi:Int,lo<=hi->∀x∈cov lo hi a b,∀p q:Int,[p,q]∈hl lo hi->a<=p->q<=b->p<=x.1->x.2<=q->p=x.1/\q=x.2:=by
 refine halves λlo hi hle h1 h2 x hx p q hm hp hq h3 h4=>?_
 have hb:=hl_mem hle hm
 by_cases hw:a<=lo/\hi<=b
 ·rw[cov_in hw]at hx
  have:x=(lo,hi):=by simpa using hx
  subst this
  exact ⟨by dsimp only at *;omega,by dsimp only at *;omega⟩
 ·by_cases hlt:lo < hi
  ·rw[cov_sp hw hlt]at hx
   rcases hl_cases hlt hm with⟨rfl,rfl⟩|hm|hm
   ·exact absurd ⟨hp,hq⟩ hw
   ·have hm':=hl_mem (by omega) hm
    rcases W1.mp hx with hx|hx
    ·exact h1 hlt x hx p q hm hp hq h3 h4
    ·have:=cov_node _ _ (by omega) x hx
     omega
   ·have hm':=hl_mem (by omega) hm
    rcases W1.mp hx with hx|hx
    ·have:=cov_node _ _ (by omega) x hx
     omega
    ·exact h2 hlt x hx p q hm hp hq h3 h4
  ·rw[cov_no hw hlt]at hx
   simp at hx
noncomputable def Tl:Int->Int->List (Int×Int)->Prop
 | s,e,[]=>s=e+1
 | s,e,p :: l=>p.1=s/\p.1<=p.2/\Tl (p.2+1) e l
theorem Tl.app:∀{l l':List (Int×Int)}{s m e:Int},Tl s m l->Tl (m+1) e l'->Tl s e (l++l')
 | [],_,_,_,_,h,h'=>by
  have h:_=_:=h
  subst h
  exact h'
 | p :: l,l',s,m,e,⟨h1,h2,h3⟩,h'=>⟨h1,h2,h3.app h'⟩
theorem cov_tl{a b:Int}(hab:a<=b):∀lo hi:Int,lo<=hi->lo<=b->a<=hi->Tl (max lo a) (min hi b) (cov lo hi a b):=by
 refine halves λlo hi hle h1 h2 hb ha=>?_
 by_cases hw:a<=lo/\hi<=b
 ·rw[cov_in hw]
  exact ⟨by show lo=max lo a;omega,hle,by show hi+1=min hi b+1;omega⟩
 ·by_cases hlt:lo < hi
  ·rw[cov_sp hw hlt]
   by_cases c1:(lo+hi) / 2 < a
   ·rw[cov_out lo ((lo+hi) / 2) (by omega) (by omega),y8]
    have:=h2 hlt (by omega) ha
    rwa [show max ((lo+hi) / 2+1) a=max lo a by omega]at this
   ·by_cases c2:b < (lo+hi) / 2+1
    ·rw[cov_out ((lo+hi) / 2+1) hi (by omega) (by omega),K1]
     have:=h1 hlt hb (by omega)
     rwa [show min ((lo+hi) / 2) b=min hi b by omega]at this
    ·have t1:=h1 hlt hb (by omega)
     have t2:=h2 hlt (by omega) ha
     rw[show min ((lo+hi) / 2) b=(lo+hi) / 2 by omega]at t1
     rw[show max ((lo+hi) / 2+1) a=(lo+hi) / 2+1 by omega]at t2
     exact t1.app t2
  ·omega
theorem cov_pre{a b:Int}:∀(h:Nat) (lo hi:Int),lo<=hi->hi - lo+1<=2 ^ h->a<=lo->b < hi->(cov lo hi a b).length<=h
 | 0,lo,hi,hle,hs,ha,hb=>by
  have:hi=lo:=by simp at hs;omega
  subst this
  rw[cov_out _ _ hle (by omega)]
  simp
 | h+1,lo,hi,hle,hs,ha,hb=>by
  have e2:(2:Int) ^ (h+1)=2 ^ h * 2:=t8 ..
  by_cases hlt:lo < hi
  ·rw[cov_sp (by omega) hlt,M0]
   by_cases c:b < (lo+hi) / 2+1
   ·rw[cov_out ((lo+hi) / 2+1) hi (by omega) (by omega)]
    by_cases c2:b < (lo+hi) / 2
    ·have:=cov_pre h lo ((lo+hi) / 2) (by omega) (by omega) ha c2
     simp
     omega
    ·rw[cov_in ⟨ha,by omega⟩]
     simp
   ·rw[cov_in (lo:=lo) ⟨ha,by omega⟩]
    have:=cov_pre (a:=a) h ((lo+hi) / 2+1) hi (by omega) (by omega) (by omega) hb
    simp
    omega
  ·rw[cov_out _ _ hle (by omega)]
   simp
theorem cov_suf{a b:Int}:∀(h:Nat) (lo hi:Int),lo<=hi->hi - lo+1<=2 ^ h->lo < a->hi<=b->(cov lo hi a b).length<=h
 | 0,lo,hi,hle,hs,ha,hb=>by
  have:hi=lo:=by simp at hs;omega
  subst this
  rw[cov_out _ _ hle (by omega)]
  simp
 | h+1,lo,hi,hle,hs,ha,hb=>by
  have e2:(2:Int) ^ (h+1)=2 ^ h * 2:=t8 ..
  by_cases hlt:lo < hi
  ·rw[cov_sp (by omega) hlt,M0]
   by_cases c:(lo+hi) / 2 < a
   ·rw[cov_out lo ((lo+hi) / 2) (by omega) (by omega)]
    by_cases c2:(lo+hi) / 2+1 < a
    ·have:=cov_suf h ((lo+hi) / 2+1) hi (by omega) (by omega) c2 hb
     simp
     omega
    ·rw[cov_in ⟨by omega,hb⟩]
     simp
   ·rw[cov_in (lo:=(lo+hi) / 2+1) ⟨by omega,hb⟩]
    have:=cov_suf (b:=b) h lo ((lo+hi) / 2) (by omega) (by omega) ha (by omega)
    simp
    omega
  ·rw[cov_out _ _ hle (by omega)]
   simp
theorem cov_most{a b:Int}:∀(h:Nat) (lo hi:Int),lo<=hi->hi - lo+1<=2 ^ h->(cov lo hi a b).length<=max 1 (2 * h)
 | 0,lo,hi,hle,hs=>by
  have:hi=lo:=by simp at hs;omega
  subst this
  by_cases hw:a<=hi/\hi<=b
  ·rw[cov_in hw];simp
  ·rw[cov_no hw (by omega)];simp
 | h+1,lo,hi,hle,hs=>by
  have e2:(2:Int) ^ (h+1)=2 ^ h * 2:=t8 ..
  by_cases hw:a<=lo/\hi<=b
  ·rw[cov_in hw]
   simp
   omega
  ·by_cases hlt:lo < hi
   ·by_cases ca:a<=lo
    ·have:=cov_pre (h+1) lo hi hle hs ca (by omega:b < hi)
     omega
    ·by_cases cb:hi<=b
     ·have:=cov_suf (h+1) lo hi hle hs (by omega:lo < a) cb
      omega
     ·rw[cov_sp hw hlt,M0]
      by_cases c1:(lo+hi) / 2 < a
      ·rw[cov_out lo ((lo+hi) / 2) (by omega) (by omega)]
       have:=cov_most (a:=a) (b:=b) h ((lo+hi) / 2+1) hi (by omega) (by omega)
       simp
       omega
      ·by_cases c2:b < (lo+hi) / 2+1
       ·rw[cov_out ((lo+hi) / 2+1) hi (by omega) (by omega)]
        have:=cov_most (a:=a) (b:=b) h lo ((lo+hi) / 2) (by omega) (by omega)
        simp
        omega
       ·have t1:=cov_suf (b:=b) h lo ((lo+hi) / 2) (by omega) (by omega) (by omega:lo < a) (by omega)
        have t2:=cov_pre (a:=a) h ((lo+hi) / 2+1) hi (by omega) (by omega) (by omega) (by omega:b < hi)
        omega
   ·rw[cov_no hw hlt]
    simp
theorem cov_len{a b:Int}:∀lo hi:Int,lo<=hi->((cov lo hi a b).length:Int)<=hi - lo+1:=by
 refine halves λlo hi hle h1 h2=>?_
 by_cases hw:a<=lo/\hi<=b
 ·rw[cov_in hw]
  simp
  omega
 ·by_cases hlt:lo < hi
  ·rw[cov_sp hw hlt,M0]
   have:=h1 hlt
   have:=h2 hlt
   omega
  ·rw[cov_no hw hlt]
   simp
   omega
theorem cov_rise{a b:Int}:∀lo hi:Int,lo<=hi->(cov lo hi a b).Pairwise λp q=>p.1 < q.1:=by
 refine halves λlo hi hle h1 h2=>?_
 by_cases hw:a<=lo/\hi<=b
 ·rw[cov_in hw]
  exact P3 ..
 ·by_cases hlt:lo < hi
  ·rw[cov_sp hw hlt,Q5]
   refine ⟨h1 hlt,h2 hlt,λp hp q hq=>?_⟩
   have:=cov_node _ _ (by omega) p hp
   have:=cov_node _ _ (by omega) q hq
   omega
  ·rw[cov_no hw hlt]
   exact List.Pairwise.nil
theorem lex2{a b c d:Int}(h:a < c):HT.lexLt [c,d] [a,b]=false:=by
 rw[HT.lexLt_cons,if_neg (by omega)]
 exact decide_eq_false (by omega)
theorem cov_sorted{lo hi a b:Int}(h:lo<=hi):((cov lo hi a b).map rw2).Pairwise λx y=>HT.lexLt y x=false:=by
 rw[u4]
 exact (cov_rise lo hi h).imp λh=>lex2 h
noncomputable abbrev covD(n a b:Int):PyData:=.list ((cov 0 (n - 1) a b).map prD)
theorem rw2_map(l:List (Int×Int)):l.map prD=(l.map rw2).map rwD:=by rw[L0];rfl
section
variable {P:Program}{w:World}{K:u0}{mg:Str->Option Value}{base:Heap}
structure CalsC(P:Program)(w:World)(K:u0)(mg:Str->Option Value)(base:Heap):Prop where
 two_halves:Cal P w K mg base 1 "two_halves" ["stretch"] (conSp K cTwo)
noncomputable def cCov:Con:=λargs Q=>∃n a b:Int,args=[.fz (.int n),.fz (.int a),.fz (.int b)]/\1<=n/\n<=1000/\0<=a/\a<=b/\b < n/\∀o,Q (.ow (covD n a b)) o
theorem scCov:FnScope ["side","low","high","found","waiting","stretch"] ["side","low","high"] (defScope (top 5)):=⟨rfl,rfl,rfl,by decide +kernel,rfl,by decide +kernel,by decide +kernel⟩
theorem ok_cov{f:Addr}{fd:FuncData}(F:Fun K "cover" "cover" (top 5) f fd)(T:Txt mg)(C:CalsC P w K mg base):FnOk P w K mg base CX0 2 f fd ["side","low","high"] (conSp K cCov):=by
 have S:=scCov
 refine wfn F S (λcdv A outer s H E hr=>(s_cons (s_set (i:=3) S.nd rfl (Or.inl rfl) (w_lst wa_nil))
     (s_cons (s_set (i:=4) S.nd rfl (Or.inl rfl) (w_lst (wa_cons (wx (w_tup (wa_cons (wx w_int) (wa_cons (wx (w_bin ok_sub op_sub (wn 0) (wx w_int))) wa_nil)))) wa_nil)))
     (s_cons (s_while PassesOwn.never (t_cmp ok_gt op_gt (wx (w_callB ok_len (call_lenK (K:=K) rfl) T.len_ PySem.boot_len (wa_cons (wn 4) wa_nil))) (wx w_int)) (s_cons (s_set (i:=5) S.nd rfl (Or.inl rfl) (w_m0 ok_pop rfl PySem.F.slot_list_pop PySem.F.type_list_pop mt_pop (wn 4)))
     (s_one (s_if (t_w (t_and (t_cmp ok_le op_le (wn 1) (wx (w_ix rfl (wn 5) (wx w_int)))) (t_and1 (t_cmp ok_le op_le (wx (w_ix rfl (wn 5) (wx w_int))) (wn 2))))) (s_one (s_expr (w_m ok_append rfl PySem.F.slot_list_append PySem.F.type_list_append mt_append (wn 3) (wa_cons (wx (wv 5)) wa_nil)))) (s_one (s_if (t_w (t_and (t_cmp ok_le op_le (wx (w_ix rfl (wn 5) (wx w_int))) (wn 2)) (t_and1 (t_cmp ok_le op_le (wn 1) (wx (w_ix rfl (wn 5) (wx w_int))))))) (s_one (s_expr (w_m ok_extend rfl PySem.F.slot_list_extend PySem.F.type_list_extend mt_extend (wn 4) (wa_cons (wx (w_fn C.two_halves (hr.mono (by first|decide|omega)) (wa_cons (wn 5) wa_nil))) wa_nil)))) s_nil))))))
     (s_one (s_ret (w_callB ok_sortT (call_sortTK rfl) T.sorted_ boot_sorted (wa_cons (wn 3) wa_nil)))))))) ?_ ?_
 ·rintro args Qd ⟨n,a,b,rfl,_⟩;rfl
 ·rintro args Qd ⟨n,a,b,rfl,n1,n2,a0,ab,bn,q⟩
  refine ⟨noOw_of rfl,?_⟩
  have hlen:=hl_len _ 0 (n - 1) rfl (by omega)
  have hcl:=cov_len (a:=a) (b:=b) 0 (n - 1) (by omega)
  refine ⟨λm ρ=>∃(dn wt:List (Int×Int)) (x:Option Sl),ρ=[some (.fz (.int n)),some (.fz (.int a)),some (.fz (.int b)),some (.ow (.list (dn.map prD))),some (.ow (.list (wt.map prD))),x]/\(dn++wt.flatMap λp=>cov p.1 p.2 a b).Perm (cov 0 (n - 1) a b)/\(∀p∈wt,0<=p.1/\p.1<=p.2/\p.2<=1000)/\m=(pile wt).length/\m<=1999/\(x=none\/∃d,x=some (.fz d)),⟨_,[],[(0,n - 1)],none,rfl,by simp,by simp;omega,rfl,by simp[pile];omega,.inl rfl⟩,?_⟩
  rintro m ρ ⟨dn,wt,x,rfl,hp,hw,rfl,hm,hx⟩
  rcases hx with rfl|⟨xd,rfl⟩
  all_goals
   refine ite2 (λh=>?_) (λh=>?_)
   ·refine ⟨λρ'=>∃m',m' < (pile wt).length/\_,λρ' h=>h,?_⟩
    obtain⟨wt',p,rfl⟩:∃wt' p,wt=wt'++[p]:=by
     rcases G8 wt with e|⟨a,b,e⟩
     ·subst e;simp at h
     ·exact ⟨a,b,by simpa using e⟩
    have e1:((wt'++[p]).map prD)[((wt'++[p]).map prD).length - 1]?=some (prD p):=by simp
    have e2:((wt'++[p]).map prD).dropLast=wt'.map prD:=by simp
    have ea:(dn++[p]).map prD=dn.map prD++[prD p]:=by rw[X2];rfl
    have eb:(wt'++[(p.1,(p.1+p.2) / 2),((p.1+p.2) / 2+1,p.2)]).map prD=wt'.map prD++[prD (p.1,(p.1+p.2) / 2),prD ((p.1+p.2) / 2+1,p.2)]:=by rw[X2];rfl
    have hpp:=hw p (by simp)
    have hw':∀p∈wt',0<=p.1/\p.1<=p.2/\p.2<=1000:=λx hx=>hw x (by simp[hx])
    have hL:=hp.length_eq
    rw[M0]at hL
    have hwl:wt'.length<=(pile wt').length:=pile_len wt'
    have hm':=hm
    rw[pile_snoc,M0]at hm' ⊢
    have hpos:=hl_pos p.1 p.2
    have efm:((wt'++[p]).flatMap λp=>cov p.1 p.2 a b)=(wt'.flatMap λp=>cov p.1 p.2 a b)++cov p.1 p.2 a b:=by simp
    rw[efm]at hp
    refine ⟨_,e1,?_⟩
    rw[e2]
    refine ⟨_,rfl,ite2 (λh3=>⟨_,rfl,ite2 (λh4=>?_) (λh4=>?_)⟩) (λh3=>?_)⟩
    ·have h3:a<=p.1:=of_decide_eq_true h3
     have h4:p.2<=b:=of_decide_eq_true h4
     rw[cov_in ⟨h3,h4⟩]at hp
     refine ⟨by rw[i0];exact G2 (show dn.length<=1999 by omega) (by decide),?_⟩
     refine ⟨(pile wt').length,by omega,dn++[p],wt',_,by rw[ea];rfl,?_,hw',rfl,by omega,.inr ⟨_,rfl⟩⟩
     refine List.Perm.trans ?_ hp
     rw[L1]
     exact List.Perm.append_left _ t6
    all_goals
     have ni:¬(a<=p.1/\p.2<=b):=by first|exact λz=>h4 (decide_eq_true z.2)|exact λz=>h3 (decide_eq_true z.1)
     refine ⟨_,rfl,ite2 (λh5=>⟨_,rfl,ite2 (λh6=>?_) (λh6=>?_)⟩) (λh5=>?_)⟩
     ·have h5:p.1<=b:=of_decide_eq_true h5
      have h6:a<=p.2:=of_decide_eq_true h6
      have hlt:p.1 < p.2:=by omega
      rw[cov_sp ni hlt]at hp
      rw[hl_lt hlt]at hm' ⊢
      refine ⟨p.1,p.2,rfl,by omega,by omega,by omega,by omega,λo=>?_⟩
      refine ⟨by rw[i0];exact X0 (show wt'.length+2<=3000 by omega) (by decide),?_⟩
      simp only[V1,M0]at hm' ⊢
      have epl:(pile (wt'++[(p.1,(p.1+p.2) / 2),((p.1+p.2) / 2+1,p.2)])).length=(hl ((p.1+p.2) / 2+1) p.2).length+(hl p.1 ((p.1+p.2) / 2)).length+(pile wt').length:=by simp[pile];omega
      refine ⟨(pile (wt'++[(p.1,(p.1+p.2) / 2),((p.1+p.2) / 2+1,p.2)])).length,by omega,dn,wt'++[(p.1,(p.1+p.2) / 2),((p.1+p.2) / 2+1,p.2)],_,by rw[eb];rfl,?_,?_,rfl,by omega,.inr ⟨_,rfl⟩⟩
      ·simpa using hp
      ·intro x hx
       simp only[W1,Y0,V5,or_false]at hx
       rcases hx with hx|rfl|rfl
       ·exact hw' x hx
       ·exact ⟨by omega,by show p.1<=(p.1+p.2) / 2;omega,by show (p.1+p.2) / 2<=1000;omega⟩
       ·exact ⟨by show 0<=(p.1+p.2) / 2+1;omega,by show (p.1+p.2) / 2+1<=p.2;omega,by show p.2<=1000;omega⟩
     all_goals
      have no:b < p.1\/p.2 < a:=by
       first
       | exact .inr (Int.not_le.mp λz=>h6 (decide_eq_true z))
       | exact .inl (Int.not_le.mp λz=>h5 (decide_eq_true z))
      rw[cov_out _ _ hpp.2.1 no,K1]at hp
      exact ⟨(pile wt').length,by omega,dn,wt',_,rfl,hp,hw',rfl,by omega,.inr ⟨_,rfl⟩⟩
   ·have e:wt=[]:=by
     cases wt with
     | nil=>rfl
     | cons a b=>exact absurd (decide_eq_true (by simp)) h
    subst e
    have hp:dn.Perm (cov 0 (n - 1) a b):=by simpa using hp
    have hdl:=hp.length_eq
    refine ⟨dn.map rw2,rw2_map dn,by rw[i0];exact X0 (show _<=3000 by omega) (by decide),λr hr=>?_,λrows r1 r2=>?_⟩
    ·obtain⟨p,_,rfl⟩:=J0.mp hr
     simp
    ·have e:rows=(cov 0 (n - 1) a b).map rw2:=SG.sorted_uniq (λa b=>SG.lex_eq) (r1.trans (hp.map _)) r2 (cov_sorted (by omega))
     subst e
     have:=q
     rw[<- rw2_map]
     exact q _
end
theorem prs_of{lo hi:Int}(h:lo<=hi):∀rows:List (List Int),(∀r∈rows,r∈hl lo hi)->∃ps:List (Int×Int),rows=ps.map rw2
 | [],_=>⟨[],rfl⟩
 | r :: rows,hr=>by
  obtain⟨ps,e⟩:=prs_of h rows λx hx=>hr x (A0 _ hx)
  obtain⟨a,b,e',_⟩:=hl_in _ lo hi rfl h r (hr r B0)
  exact ⟨(a,b) :: ps,by rw[e,e'];rfl⟩
theorem hl_nd2:∀lo hi:Int,lo<=hi->(hl lo hi).Nodup:=by
 refine halves λlo hi hle h1 h2=>?_
 by_cases hlt:lo < hi
 ·rw[hl_lt hlt,O4,X7]
  refine ⟨λz=>?_,h2 hlt,h1 hlt,λx hx y hy e=>?_⟩
  ·rcases W1.mp z with z|z
   ·have:=hl_mem (by omega) z;omega
   ·have:=hl_mem (by omega) z;omega
  ·subst e
   obtain⟨a,b,e,q1,q2,q3⟩:=hl_in _ _ _ rfl (by omega) x hx
   obtain⟨a',b',e',q1',q2',q3'⟩:=hl_in _ _ _ rfl (by omega) x hy
   rw[e]at e'
   cases e'
   omega
 ·rw[hl_ge hlt]
  simp
structure Prs(n:Int)(ps:List (Int×Int)):Prop where
 perm:(ps.map rw2).Perm (hl 0 (n - 1))
 srt:(ps.map rw2).Pairwise λx y=>HT.lexLt y x=false
theorem rw2_inj{p q:Int×Int}(h:rw2 p=rw2 q):p=q:=by
 obtain⟨a,b⟩:=p
 obtain⟨c,d⟩:=q
 cases h
 rfl
theorem Prs.mem{n:Int}{ps:List (Int×Int)}(h:Prs n ps)(p:Int×Int):p∈ps ↔ [p.1,p.2]∈hl 0 (n - 1):=by
 rw[<- h.perm.mem_iff,J0]
 refine ⟨λz=>⟨p,z,rfl⟩,λ⟨q,z,e⟩=>?_⟩
 rw[<- rw2_inj e]
 exact z
theorem Prs.nodup{n:Int}{ps:List (Int×Int)}(h:Prs n ps)(hn:1<=n):ps.Nodup:=by
 have:=(h.perm.nodup_iff).mpr (hl_nd2 0 (n - 1) (by omega))
 exact List.Pairwise.of_map _ (λa b z e=>z (by rw[e])) this
theorem perm_of{α:Type}[DecidableEq α]{l m:List α}(hl:l.Nodup)(hm:m.Nodup)(h:∀x,x∈l ↔ x∈m):l.Perm m:=by
 rw[List.perm_iff_count]
 intro x
 rw[hl.count,hm.count]
 by_cases z:x∈l
 ·rw[if_pos z,if_pos ((h x).mp z)]
 ·rw[if_neg z,if_neg λy=>z ((h x).mpr y)]
noncomputable def innP(a b:Int)(p:Int×Int):Bool:=decide (a<=p.1)&&decide (p.2<=b)
noncomputable def aroP(p q:Int×Int):Bool:=decide (q.1<=p.1)&&decide (p.2<=q.2)
theorem due_eq{n a b:Int}{ps:List (Int×Int)}(hn:1<=n)(h:Prs n ps):(ps.filter (innP a b)).filter (λp=>decide ((ps.filter (innP a b)).filter (aroP p)=[p]))=cov 0 (n - 1) a b:=by
 have hnd:=h.nodup hn
 have mi:∀x,x∈ps.filter (innP a b) ↔ ([x.1,x.2]∈hl 0 (n - 1)/\a<=x.1/\x.2<=b):=λx=>by
  rw[A5,h.mem]
  simp[innP]
 have key:∀p∈ps.filter (innP a b),((ps.filter (innP a b)).filter (aroP p)=[p] ↔ p∈cov 0 (n - 1) a b):=λp hp=>by
  have hp':=(mi p).mp hp
  constructor
  ·intro e
   obtain⟨x,hx,x1,x2⟩:=cov_has 0 (n - 1) (by omega) p.1 p.2 hp'.1 hp'.2.1 hp'.2.2
   have hx':=cov_node 0 (n - 1) (by omega) x hx
   have:x∈(ps.filter (innP a b)).filter (aroP p):=by
    rw[A5,mi]
    refine ⟨⟨hx'.1,hx'.2.1,by omega⟩,?_⟩
    simp[aroP,x1,x2]
   rw[e]at this
   have:x=p:=by simpa using this
   rw[<- this]
   exact hx
  ·intro hc
   refine List.perm_singleton.mp (perm_of ((hnd.filter _).filter _) (O4.mpr ⟨by simp,List.nodup_nil⟩) λx=>?_)
   rw[A5,mi,B3]
   constructor
   ·rintro⟨⟨m1,m2,m3⟩,m4⟩
    have m4:x.1<=p.1/\p.2<=x.2:=by simpa [aroP]using m4
    have:=cov_max 0 (n - 1) (by omega) p hc x.1 x.2 m1 m2 m3 m4.1 m4.2
    obtain⟨u,v⟩:=x
    obtain⟨c,d⟩:=p
    simp at this
    rw[this.1,this.2]
   ·rintro rfl
    exact ⟨hp',by simp[aroP]⟩
 have hperm:((ps.filter (innP a b)).filter (λp=>decide ((ps.filter (innP a b)).filter (aroP p)=[p]))).Perm (cov 0 (n - 1) a b):=by
  refine perm_of ((hnd.filter _).filter _) ((cov_rise 0 (n - 1) (by omega)).imp λh e=>by rw[e]at h;omega) λx=>?_
  rw[A5]
  constructor
  ·rintro⟨m1,m2⟩
   exact (key x m1).mp (of_decide_eq_true m2)
  ·intro hx
   have hx':=cov_node 0 (n - 1) (by omega) x hx
   have hi:x∈ps.filter (innP a b):=(mi x).mpr ⟨hx'.1,hx'.2.1,by omega⟩
   exact ⟨hi,decide_eq_true ((key x hi).mpr hx)⟩
 have e:=SG.sorted_uniq (lt:=HT.lexLt) (λa b=>SG.lex_eq) (hperm.map rw2) (((h.srt.sublist (((T8).trans (T8)).map rw2)))) (cov_sorted (by omega))
 have inj:∀{l m:List (Int×Int)},l.map rw2=m.map rw2->l=m:=λ{l m}=>by
  induction l generalizing m with
  | nil=>intro e;cases m with
   | nil=>rfl
   | cons=>cases e
  | cons x l ih=>intro e;cases m with
   | nil=>cases e
   | cons y m =>
    simp only[Z2,List.cons.injEq]at e
    rw[rw2_inj (p:=x) (q:=y) (by simpa using e.1),ih (by simpa using e.2)]
 exact inj e
noncomputable def dpr:PyData->Int×Int
 | .tuple [.int a,.int b]=>(a,b)
 | _=>(0,0)
theorem fil_prs(p:Int×Int->Bool)(ps:List (Int×Int)):((ps.map prD).filter (λd=>p (dpr d))).map id=(ps.filter p).map prD:=by
 rw[L8,List.filter_map]
 rfl
theorem prs_mix1(l:List (Int×Int))(p:Int×Int):SeqAt.noMix (.list (l.map prD)) (.list [prD p])=true:=by
 cases l with
 | nil=>rfl
 | cons x l=>cases l<;>simp[SeqAt.noMix,SeqAt.noMixAll]
theorem prs_same1(l:List (Int×Int))(p:Int×Int):same (.list (l.map prD)) (.list [prD p])=decide (l=[p]):=by
 obtain⟨c,d⟩:=p
 cases l with
 | nil=>simp[same,sameAll]
 | cons x l =>
  obtain⟨a,b⟩:=x
  cases l with
  | nil =>
   rw[i6]
   simp[same,sameAll]
  | cons y l=>simp[same,sameAll]
section
variable {P:Program}{w:World}{K:u0}{mg:Str->Option Value}{base:Heap}
end
section
variable {P:Program}{w:World}{K:u0}{mg:Str->Option Value}{base:Heap}
structure CalsLcv(P:Program)(w:World)(K:u0)(mg:Str->Option Value)(base:Heap):Prop where
 law_stretches:Cal P w K mg base 1 "_law_stretches" ["_law_side"] (conSp K cLSt)
noncomputable def cLcv:Con:=λargs Q=>∃n a b:Int,args=[.fz (.int n),.fz (.int a),.fz (.int b)]/\1<=n/\n<=1000/\∀o,Q (.ow (covD n a b)) o
theorem scLcv:FnScope ["_law_side","_law_low","_law_high","_law_inner","_law_found","_law_a","_law_b"] ["_law_side","_law_low","_law_high"] (defScope (top 25)):=⟨rfl,rfl,rfl,by decide +kernel,rfl,by decide +kernel,by decide +kernel⟩
theorem ok_lcv{f:Addr}{fd:FuncData}(F:Fun K "_law_cover" "_law_cover" (top 25) f fd)(T:Txt mg)(C:CalsLcv P w K mg base):FnOk P w K mg base CX0 2 f fd ["_law_side","_law_low","_law_high"] (conSp K cLcv):=by
 have S:=scLcv
 refine wfn F S (λcdv A outer s H E hr=>(s_cons (s_setC (i:=3) S.nd rfl rfl rfl (own:=["_law_one"]) (fr:=[1,2]) (by kernel_rfl) (i_seq rfl (w_fn C.law_stretches (hr.mono (by first|decide|omega)) (wa_cons (wn 0) wa_nil))) (λ_ _ _ _=>(g_name (i:=0) (by decide +kernel:Q1 (["_law_one","_law_low","_law_high"]:List Str)) rfl (Or.inl rfl))) (λ_ _ _ _=>if1 (t_w (t_and (t_cmp ok_le op_le (wn 1) (wx (w_ix rfl (wn 0) (wx w_int)))) (t_and1 (t_cmp ok_le op_le (wx (w_ix rfl (wn 0) (wx w_int))) (wn 2)))))) (λ_ _ _ _=>(wv 0)))
     (s_cons (s_set (i:=4) S.nd rfl (Or.inl rfl) (w_lst wa_nil))
     (s_cons (s_for [5,6] PassesOwn.never rfl (i_seq rfl (wv 3)) (g_tup rfl rfl (gs_cons (g_name (i:=5) S.nd rfl (Or.inr rfl)) (gs_cons (g_name (i:=6) S.nd rfl (Or.inr rfl)) gs_nil))) (s_one (s_if (t_cmp ok_eq (op_eqE (K:=K) rfl hr.units) (wx (w_comp rfl (own:=["_law_one"]) (fr:=[5,6]) (by kernel_rfl) (i_seq rfl (wv 3)) (λ_ _ _ _=>(g_name (i:=0) (by decide +kernel:Q1 (["_law_one","_law_a","_law_b"]:List Str)) rfl (Or.inl rfl))) (λ_ _ _ _=>if1 (t_w (t_and (t_cmp ok_le op_le (wx (w_ix rfl (wn 0) (wx w_int))) (wn 1)) (t_and1 (t_cmp ok_le op_le (wn 2) (wx (w_ix rfl (wn 0) (wx w_int)))))))) (λ_ _ _ _=>(wv 0)))) (wx (w_lst (wa_cons (wx (w_tup (wa_cons (wx (wv 5)) (wa_cons (wx (wv 6)) wa_nil)))) wa_nil)))) (s_one (s_expr (w_m ok_append rfl PySem.F.slot_list_append PySem.F.type_list_append mt_append (wn 4) (wa_cons (wx (w_tup (wa_cons (wx (wv 5)) (wa_cons (wx (wv 6)) wa_nil)))) wa_nil)))) s_nil)))
     (s_one (s_retV (wn 4))))))) ?_ ?_
 ·rintro args Qd ⟨n,a,b,rfl,_⟩;rfl
 ·rintro args Qd ⟨n,a,b,rfl,n1,n2,q⟩
  refine ⟨noOw_of rfl,?_⟩
  have hlen:=hl_len _ 0 (n - 1) rfl (by omega)
  with_reducible refine cutS (λρ=>∃ps:List (Int×Int),Prs n ps/\ρ=[some (.fz (.int n)),some (.fz (.int a)),some (.fz (.int b)),some (.ow (.list ((ps.filter (innP a b)).map prD))),none,none,none]) ?_ ?_
  ·intro N0 hN0
   refine ⟨n,rfl,n1,n2,λrows o hp hs=>?_⟩
   obtain⟨ps,rfl⟩:=prs_of (lo:=0) (hi:=n - 1) (by omega) rows λr hr=>hp.mem_iff.mp hr
   have hps:Prs n ps:=⟨hp,hs⟩
   rw[<- rw2_map]
   have hpl:(ps.length:Int)=2 * n - 1:=by have:=hp.length_eq;rw[i0]at this;omega
   refine ⟨by rw[i0];exact X0 (show ps.length<=2000 by omega) (by decide),?_⟩
   refine filC (λd=>innP a b (dpr d)) id ?_ ?_
   ·intro d hd N M hN hM
    obtain⟨x,_,rfl⟩:=J0.mp hd
    have hN:innP a b x=true->_:=hN
    have hM:innP a b x=false->_:=hM
    refine ⟨_,rfl,ite2 (λh3=>⟨_,rfl,ite2 (λh4=>?_) (λh4=>?_)⟩) (λh3=>?_)⟩
    ·exact hN (by unfold innP;rw[h3,h4];rfl)
    ·exact hM (by unfold innP;rw[W3.mpr h4,M8])
    ·exact hM (by unfold innP;rw[W3.mpr h3,S6])
   ·rw[fil_prs]
    exact hN0 _ ⟨ps,hps,rfl⟩
  rintro _ ⟨ps,hps,rfl⟩
  have hpl:(ps.length:Int)=2 * n - 1:=by have:=hps.perm.length_eq;rw[i0]at this;omega
  obtain⟨inn,ein⟩:∃inn,inn=ps.filter (innP a b):=⟨_,rfl⟩
  rw[<- ein]
  have hil:inn.length<=2000:=by
   have:=g7 (innP a b) ps
   rw[<- ein]at this
   omega
  with_reducible refine cutS (λρ=>ρ=[some (.fz (.int n)),some (.fz (.int a)),some (.fz (.int b)),some (.ow (.list (inn.map prD))),some (.ow (.list [])),none,none]) ?_ ?_
  ·intro N0 hN0
   exact hN0 _ rfl
  rintro _ rfl
  refine loopC (λrest ρ=>∃pre suf:List (Int×Int),rest=suf.map prD/\inn=pre++suf/\ρ=[some (.fz (.int n)),some (.fz (.int a)),some (.fz (.int b)),some (.fz (.list (inn.map prD))),some (.ow (.list ((pre.filter λp=>decide (inn.filter (aroP p)=[p])).map prD))),none,none]) ?_ ?_ ⟨[],inn,rfl,rfl,rfl⟩
  ·rintro d ds ρ ⟨pre,suf,e1,e2,rfl⟩ N hN
   cases suf with
   | nil=>cases e1
   | cons x suf =>
    cases e1
    refine ⟨rfl,?_⟩
    refine ⟨by rw[i0];exact X0 hil (by decide),?_⟩
    refine filC (λd=>aroP x (dpr d)) id ?_ ?_
    ·intro d hd N M hN hM
     obtain⟨y,_,rfl⟩:=J0.mp hd
     have hN:aroP x y=true->_:=hN
     have hM:aroP x y=false->_:=hM
     refine ⟨_,rfl,ite2 (λh3=>⟨_,rfl,ite2 (λh4=>?_) (λh4=>?_)⟩) (λh3=>?_)⟩
     ·exact hN (by unfold aroP;rw[h3,h4];rfl)
     ·exact hM (by unfold aroP;rw[W3.mpr h4,M8])
     ·exact hM (by unfold aroP;rw[W3.mpr h3,S6])
    ·rw[fil_prs]
     have n1:=wt_nice (inn.filter (aroP x))
     have n2:=wt_nice [x]
     refine ⟨n1.p,n2.p,n1.sh (by decide),n2.sh (by decide),prs_mix1 _ _,ite2 (λh=>?_) (λh=>?_)⟩
     ·have h:same (.list ((inn.filter (aroP x)).map prD)) (.list [prD x])=true:=h
      rw[prs_same1]at h
      have hl:(pre.filter λp=>decide (inn.filter (aroP p)=[p])).length<=2000:=by
       have:=g7 (λp=>decide (inn.filter (aroP p)=[p])) pre
       rw[e2,M0]at hil
       omega
      refine ⟨by rw[i0];exact G2 hl (by decide),?_⟩
      refine hN _ ⟨pre++[x],suf,rfl,by rw[e2];simp,?_⟩
      rw[Q6,V4,if_pos h,X2]
      rfl
     ·have h:¬same (.list ((inn.filter (aroP x)).map prD)) (.list [prD x])=true:=h
      rw[prs_same1]at h
      refine hN _ ⟨pre++[x],suf,rfl,by rw[e2];simp,?_⟩
      rw[Q6,V4,if_neg h]
      simp
      rfl
  ·rintro ρ ⟨pre,suf,e1,e2,rfl⟩
   have:suf=[]:=by cases suf with
    | nil=>rfl
    | cons=>cases e1
   subst this
   rw[K1]at e2
   subst e2
   have:=due_eq (a:=a) (b:=b) n1 hps
   rw[<- ein]at this
   rw[this]
   exact q _
end
theorem gsC{gs:List TDG}{ds:List PyData}{ρ ρ':Ev}{Q:Ev->Prop}(h:dGs gs ds ρ Q=Q ρ')(w:Q ρ'):dGs gs ds ρ Q:=by rw[h];exact w
theorem inW_len{α:Type}:∀{p:List α}{cs:List (List α)},InW p cs->p.length=cs.length
 | [],[],_=>rfl
 | _ :: _,_ :: _,h=>by rw[V1,V1,inW_len h.2]
 | [],_ :: _,h=>h.elim
 | _ :: _,[],h=>h.elim
noncomputable def cvT(q:Int×Int×Int):List (Int×Int):=cov 0 (q.1 - 1) q.2.1 q.2.2
noncomputable def cvs(sd lo hi:List Int):List (List (Int×Int)):=(sd.zip (lo.zip hi)).map cvT
noncomputable def cb0(sd lo hi:List Int):List Bxx:=(eachA [[]] (cvs sd lo hi)).map bo
noncomputable def cbs(sd lo hi:List Int):List Bxx:=srtL ltB (cb0 sd lo hi)
theorem bx_tri:∀{sd lo hi:List Int},Bx lo hi sd->∀q∈sd.zip (lo.zip hi),q.1∈sd/\0<=q.2.1/\q.2.1<=q.2.2/\q.2.2 < q.1
 | [],[],[],_,q,h=>by simp at h
 | s :: sd,a :: lo,b :: hi,h,q,hq=>by
  have hq:q∈(s,a,b) :: sd.zip (lo.zip hi):=hq
  rcases Y0.mp hq with rfl|hq
  ·exact ⟨B0,h.1.1,h.1.2.1,h.1.2.2⟩
  ·have:=bx_tri h.2 q hq
   exact ⟨A0 _ this.1,this.2⟩
 | _ :: _,[],[],h,_,_=>h.elim
 | z,[],_ :: _,h,_,_=>by cases z<;>exact h.elim
 | z,_ :: _,[],h,_,_=>by cases z<;>exact h.elim
 | [],_ :: _,_ :: _,h,_,_=>h.elim
theorem cvT_ok{q:Int×Int×Int}(h0:0<=q.2.1)(h1:q.2.1<=q.2.2)(h2:q.2.2 < q.1):cvT q≠[]/\((cvT q).length:Int)<=q.1/\Tl q.2.1 q.2.2 (cvT q):=by
 have t:=cov_tl h1 0 (q.1 - 1) (by omega) (by omega) (by omega)
 rw[show max 0 q.2.1=q.2.1 by omega,show min (q.1 - 1) q.2.2=q.2.2 by omega]at t
 have l:=cov_len (a:=q.2.1) (b:=q.2.2) 0 (q.1 - 1) (by omega)
 refine ⟨λz=>?_,by unfold cvT;omega,t⟩
 have t:Tl q.2.1 q.2.2 (cvT q):=t
 rw[z]at t
 have t:q.2.1=q.2.2+1:=t
 omega
theorem cvs_len:∀{sd lo hi:List Int},Bx lo hi sd->(lenP (cvs sd lo hi):Int)<=prodI sd
 | [],[],[],_=>by show (1:Int)<=1;decide
 | s :: sd,a :: lo,b :: hi,h=>by
  have ih:=cvs_len h.2
  obtain⟨_,l,_⟩:=cvT_ok (q:=(s,a,b)) h.1.1 h.1.2.1 h.1.2.2
  have e:(lenP (cvs (s :: sd) (a :: lo) (b :: hi)):Int)=((cvT (s,a,b)).length:Int) * (lenP (cvs sd lo hi):Int):=by
   show (((cvT (s,a,b)).length * lenP (cvs sd lo hi):Nat):Int)=_
   exact K6 _ _
  rw[e]
  show _<=s * prodI sd
  have h1:=h.1
  exact X4 l ih (by omega) (by omega)
 | _ :: _,[],[],h=>h.elim
 | z,[],_ :: _,h=>by cases z<;>exact h.elim
 | z,_ :: _,[],h=>by cases z<;>exact h.elim
 | [],_ :: _,_ :: _,h=>h.elim
theorem cvs_ne{sd lo hi:List Int}(h:Bx lo hi sd):∀c∈cvs sd lo hi,c≠[]:=λc hc=>by
 obtain⟨q,hq,rfl⟩:=J0.mp hc
 obtain⟨_,h0,h1,h2⟩:=bx_tri h q hq
 exact (cvT_ok h0 h1 h2).1
theorem cvs_n{sd lo hi:List Int}(h:Bx lo hi sd):(cvs sd lo hi).length=sd.length:=by
 have hl:=bx_len h
 unfold cvs
 rw[i0,Y1,Y1]
 omega
theorem cb0_len{sd lo hi:List Int}(hs:Sd sd)(h:Bx lo hi sd):(cb0 sd lo hi).length<=120:=by
 have h1:=cvs_len h
 have h2:=hs.m
 unfold cb0
 rw[i0,eachA_len]
 simp
 omega
theorem cbs_eq{sd lo hi:List Int}{rows:List Bxx}(h1:rows.Perm (cb0 sd lo hi))(h2:rows.Pairwise λa b=>ltB b a=false):rows=cbs sd lo hi :=
 SG.sorted_uniq (lt:=ltB) (λa b=>ltB_eq) (h1.trans (srtL_perm _ _).symm) h2 (srtL_up ltB_wk _)
noncomputable def fCv:PyData->PyData
 | .tuple [.int s,.int a,.int b]=>covD s a b
 | _=>.none
section
variable {P:Program}{w:World}{K:u0}{mg:Str->Option Value}{base:Heap}
noncomputable def cBy:Con:=λargs Q=>∃sd lo hi:List Int,args=[.fz (.list ((cvs sd lo hi).map λc=>.list (c.map prD)))]/\Sd sd/\Bx lo hi sd/\∀o,Q (.ow (.list ((cbs sd lo hi).map boxD))) o
theorem scBy:FnScope ["choices"] ["choices"] (defScope (top 8)):=⟨rfl,rfl,rfl,by decide +kernel,rfl,by decide +kernel,by decide +kernel⟩
theorem ok_by{f:Addr}{fd:FuncData}(F:Fun K "boxes_by" "boxes_by" (top 8) f fd)(T:Txt mg)(C:CalsBy P w K mg base):FnOk P w K mg base CX0 2 f fd ["choices"] (conSp K cBy):=by
 have S:=scBy
 refine wfn F S (λcdv A outer s H E hr=>(s_one (s_ret (w_callB ok_sortB (call_sortBK rfl (hu2_of hr)) T.sorted_ boot_sorted (wa_cons (wx (w_comp rfl (own:=["pairs"]) (fr:=[]) (by kernel_rfl) (i_seq rfl (w_fn C.one_of_each (hr.mono (by first|decide|omega)) (wa_cons (wn 0) wa_nil))) (λ_ _ _ _=>(g_name (i:=0) (by decide +kernel:Q1 (["pairs"]:List Str)) rfl (Or.inl rfl))) (λ_ _ _ _=>if0) (λ_ _ _ _=>(w_fn C.box_of (hr.mono (by first|decide|omega)) (wa_cons (wn 0) wa_nil))))) wa_nil))))) ?_ ?_
 ·rintro args Qd ⟨sd,lo,hi,rfl,_⟩;rfl
 ·rintro args Qd ⟨sd,lo,hi,rfl,hsd,hbx,q⟩
  refine ⟨noOw_of rfl,?_⟩
  have h3:=hsd.l3
  have h9:=cvs_len hbx
  have hm:=hsd.m
  have hcn:=cvs_n hbx
  have e0:((cvs sd lo hi).map λc=>B1 (c.map prD))=((cvs sd lo hi).map (G5 prD)).map B1:=by rw[L0];rfl
  have hlp:lenP ((cvs sd lo hi).map (G5 prD))=lenP (cvs sd lo hi):=by
   generalize cvs sd lo hi=cs
   induction cs with
   | nil=>rfl
   | cons c cs ih=>show (c.map prD).length * _=c.length * _;rw[ih,i0]
  refine ⟨(cvs sd lo hi).map (G5 prD),by rw[<- e0];rfl,λc hc=>?_,by omega,by rw[i0];omega,λo=>?_⟩
  ·obtain⟨c',hc',rfl⟩:=J0.mp hc
   intro z
   exact cvs_ne hbx c' hc' (T5.mp z)
  have e1:(eachA [[]] ((cvs sd lo hi).map (G5 prD))).map S0=(eachA [[]] (cvs sd lo hi)).map λps=>S0 (ps.map prD):=by
   have:=eachA_map prD (cvs sd lo hi) [[]]
   have e:([[]]:List (List (Int×Int))).map (G5 prD)=[[]]:=rfl
   rw[e]at this
   rw[<- this,L0]
   rfl
  rw[e1]
  have hel:(eachA [[]] (cvs sd lo hi)).length<=960:=by rw[eachA_len];simp;omega
  refine ⟨le_size (by rw[i0];omega),mapC fBo ?_ ?_⟩
  ·intro d hd N hN
   obtain⟨ps,hps,rfl⟩:=J0.mp hd
   rw[fBo_ps]at hN
   have hpl:ps.length<=1000:=by
    have:=inW_len (each_mem0 hps)
    omega
   exact ⟨ps,rfl,hpl,λo=>hN⟩
  ·have e2:((eachA [[]] (cvs sd lo hi)).map λps=>S0 (ps.map prD)).map fBo=(cb0 sd lo hi).map boxD:=by
    unfold cb0
    rw[L0,L0]
    exact G3 λps _=>fBo_ps ps
   rw[e2]
   refine ⟨cb0 sd lo hi,rfl,X0 (cb0_len hsd hbx) (by decide),λrows hp hu=>?_⟩
   rw[cbs_eq hp hu]
   exact q _
structure CalsBc(P:Program)(w:World)(K:u0)(mg:Str->Option Value)(base:Heap):Prop where
 boxes_by:Cal P w K mg base 2 "boxes_by" ["choices"] (conSp K cBy)
 cover:Cal P w K mg base 2 "cover" ["side","low","high"] (conSp K cCov)
noncomputable def cBc:Con:=λargs Q=>∃sd lo hi:List Int,args=[.fz (tupD sd),.fz (boxD (lo,hi))]/\Sd sd/\Bx lo hi sd/\∀o,Q (.ow (.list ((cbs sd lo hi).map boxD))) o
theorem scBc:FnScope ["sides","box"] ["sides","box"] (defScope (top 10)):=⟨rfl,rfl,rfl,by decide +kernel,rfl,by decide +kernel,by decide +kernel⟩
theorem ok_bc{f:Addr}{fd:FuncData}(F:Fun K "box_cover" "box_cover" (top 10) f fd)(T:Txt mg)(C:CalsBc P w K mg base):FnOk P w K mg base CX0 3 f fd ["sides","box"] (conSp K cBc):=by
 have S:=scBc
 refine wfn F S (λcdv A outer s H E hr=>(s_one (s_ret (w_fn C.boxes_by (hr.mono (by first|decide|omega)) (wa_cons (wx (w_comp rfl (own:=["side","low","high"]) (fr:=[]) (by kernel_rfl) (i_zip3 rfl T.zip_ (wa_cons (wn 0) (wa_cons (wx (w_ix rfl (wn 1) (wx w_int))) (wa_cons (wx (w_ix rfl (wn 1) (wx w_int))) wa_nil)))) (λ_ _ _ _=>(g_tup rfl rfl (gs_cons (g_name (i:=0) (by decide +kernel:Q1 (["side","low","high"]:List Str)) rfl (Or.inl rfl)) (gs_cons (g_name (i:=1) (by decide +kernel:Q1 (["side","low","high"]:List Str)) rfl (Or.inl rfl)) (gs_cons (g_name (i:=2) (by decide +kernel:Q1 (["side","low","high"]:List Str)) rfl (Or.inl rfl)) gs_nil))))) (λ_ _ _ _=>if0) (λ_ _ _ _=>(w_fn C.cover (hr.mono (by first|decide|omega)) (wa_cons (wn 0) (wa_cons (wn 1) (wa_cons (wn 2) wa_nil))))))) wa_nil))))) ?_ ?_
 ·rintro args Qd ⟨sd,lo,hi,rfl,_⟩;rfl
 ·rintro args Qd ⟨sd,lo,hi,rfl,hsd,hbx,q⟩
  refine ⟨noOw_of rfl,?_⟩
  have h3:=hsd.l3
  have hm:=hsd.m
  have hbl:=bx_len hbx
  have hz:=zip3_ints sd lo hi
  refine ⟨_,rfl,_,rfl,by rw[hz,i0,Y1];exact le_size (by omega),mapC fCv ?_ ?_⟩
  ·intro d hd N hN
   rw[hz]at hd
   obtain⟨⟨s,a,b⟩,hx,rfl⟩:=J0.mp hd
   obtain⟨t0,t1,t2,t3⟩:=bx_tri hbx _ hx
   have h2:=le_prodI hsd.p s t0
   simp only at t1 t2 t3
   exact ⟨rfl,s,a,b,rfl,by omega,by omega,t1,t2,t3,λo=>hN⟩
  ·refine ⟨sd,lo,hi,?_,hsd,hbx,λo=>q _⟩
   rw[hz,L0]
   unfold cvs
   rw[L0]
   rfl
structure CalsLb(P:Program)(w:World)(K:u0)(mg:Str->Option Value)(base:Heap):Prop where
 law_cover:Cal P w K mg base 2 "_law_cover" ["_law_side","_law_low","_law_high"] (conSp K cLcv)
noncomputable def cLb:Con:=λargs Q=>∃sd lo hi:List Int,args=[.fz (tupD sd),.fz (boxD (lo,hi))]/\Sd sd/\Bx lo hi sd/\∀o,Q (.ow (.list ((cbs sd lo hi).map boxD))) o
theorem scLb:FnScope ["_law_sides_here","_law_box_here","_law_found","_law_side","_law_here","_law_there","_law_longer","_law_low","_law_high"] ["_law_sides_here","_law_box_here"] (defScope (top 26)):=⟨rfl,rfl,rfl,by decide +kernel,rfl,by decide +kernel,by decide +kernel⟩
theorem ok_lb{f:Addr}{fd:FuncData}(F:Fun K "_law_box_cover" "_law_box_cover" (top 26) f fd)(T:Txt mg)(C:CalsLb P w K mg base):FnOk P w K mg base CX0 3 f fd ["_law_sides_here","_law_box_here"] (conSp K cLb):=by
 have S:=scLb
 refine wfn F S (λcdv A outer s H E hr=>(s_cons (s_set (i:=2) S.nd rfl (Or.inl rfl) (w_lst (wa_cons (wx (w_tup (wa_cons (wx (w_tup wa_nil)) (wa_cons (wx (w_tup wa_nil)) wa_nil)))) wa_nil)))
     (s_cons (s_for [3,4,5,6,7,8] PassesOwn.never rfl (i_zip3 rfl T.zip_ (wa_cons (wn 0) (wa_cons (wx (w_ix rfl (wn 1) (wx w_int))) (wa_cons (wx (w_ix rfl (wn 1) (wx w_int))) wa_nil)))) (g_tup rfl rfl (gs_cons (g_name (i:=3) S.nd rfl (Or.inl rfl)) (gs_cons (g_name (i:=4) S.nd rfl (Or.inl rfl)) (gs_cons (g_name (i:=5) S.nd rfl (Or.inl rfl)) gs_nil)))) (s_cons (s_set (i:=6) S.nd rfl (Or.inl rfl) (w_lst wa_nil))
     (s_cons (s_for [7,8] PassesOwn.never rfl (i_seq rfl (wv 2)) (g_tup rfl rfl (gs_cons (g_name (i:=7) S.nd rfl (Or.inr rfl)) (gs_cons (g_name (i:=8) S.nd rfl (Or.inr rfl)) gs_nil))) (s_one (s_expr (w_m ok_extend rfl PySem.F.slot_list_extend PySem.F.type_list_extend mt_extend (wn 6) (wa_cons (wx (w_comp rfl (own:=["_law_a","_law_b"]) (fr:=[7,8]) (by kernel_rfl) (i_seq rfl (w_fn C.law_cover (hr.mono (by first|decide|omega)) (wa_cons (wn 3) (wa_cons (wn 4) (wa_cons (wn 5) wa_nil))))) (λ_ _ _ _=>(g_tup rfl rfl (gs_cons (g_name (i:=0) (by decide +kernel:Q1 (["_law_a","_law_b","_law_low","_law_high"]:List Str)) rfl (Or.inl rfl)) (gs_cons (g_name (i:=1) (by decide +kernel:Q1 (["_law_a","_law_b","_law_low","_law_high"]:List Str)) rfl (Or.inl rfl)) gs_nil)))) (λ_ _ _ _=>if0) (λ_ _ _ _=>(w_tup (wa_cons (wx (w_bin ok_add op_addD (wn 2) (wx (w_tup (wa_cons (wx (wv 0)) wa_nil))))) (wa_cons (wx (w_bin ok_add op_addD (wn 3) (wx (w_tup (wa_cons (wx (wv 1)) wa_nil))))) wa_nil)))))) wa_nil)))))
     (s_one (s_move (i:=2) S.nd rfl (Or.inl rfl) (wn 6))))))
     (s_one (s_ret (w_callB ok_sortB (call_sortBK rfl (hu2_of hr)) T.sorted_ boot_sorted (wa_cons (wn 2) wa_nil))))))) ?_ ?_
 ·rintro args Qd ⟨sd,lo,hi,rfl,_⟩;rfl
 ·rintro args Qd ⟨sd,lo,hi,rfl,hsd,hbx,q⟩
  refine ⟨noOw_of rfl,?_⟩
  have h3:=hsd.l3
  have hm:=hsd.m
  have h9:=cvs_len hbx
  have hbl:=bx_len hbx
  have htri:=bx_tri hbx
  have hz:=zip3_ints sd lo hi
  with_reducible refine cutS (λρ=>ρ=[some (.fz (tupD sd)),some (.fz (boxD (lo,hi))),some (.ow (.list ([[]].map λps=>boxD (bo ps)))),none,none,none,none,none,none]) ?_ ?_
  ·intro N hN
   exact hN _ rfl
  rintro _ rfl
  with_reducible refine cutS (λρ=>ρ=[some (.fz (tupD sd)),some (.fz (boxD (lo,hi))),some (.ow (.list ((cb0 sd lo hi).map boxD))),none,none,none,none,none,none]) ?_ ?_
  ·intro N hN
   have hini:∀p∈([[]]:List (List (Int×Int))),p.length+(sd.zip (lo.zip hi)).length<=3:=λp hp=>by
    have e:p=[]:=by simpa using hp
    rw[e,Y1,Y1]
    simp
    omega
   refine ⟨_,rfl,_,rfl,?_⟩
   refine (?_:dLoopC _ _ _ _ (zip3D (sd.map j0) (lo.map j0) (hi.map j0)) _)
   rw[hz]
   refine loopC (λrest ρ=>∃(acc:List (List (Int×Int))) (rs:List (Int×Int×Int)),rest=(rs.map λq=>S0 [.int q.1,.int q.2.1,.int q.2.2])/\(∀c∈rs,c∈sd.zip (lo.zip hi))/\eachA acc (rs.map cvT)=eachA [[]] (cvs sd lo hi)/\(∀p∈acc,p.length+rs.length<=3)/\ρ=[some (.fz (tupD sd)),some (.fz (boxD (lo,hi))),some (.ow (.list (acc.map λps=>boxD (bo ps)))),none,none,none,none,none,none]) ?_ ?_
    ⟨[[]],sd.zip (lo.zip hi),rfl,λc hc=>hc,rfl,hini,rfl⟩
   ·rintro d ds ρ ⟨acc,rs,er,hr1,hacc,hl3,rfl⟩ M hM
    cases rs with
    | nil=>cases er
    | cons t rs =>
     cases er
     obtain⟨t0,t1,t2,t3⟩:=htri t (hr1 t B0)
     have tp:=le_prodI hsd.p t.1 t0
     have hrs:∀c∈rs,c∈sd.zip (lo.zip hi):=λc hc=>hr1 c (A0 _ hc)
     have hacc':eachA (acc.flatMap λp=>(cvT t).map λx=>p++[x]) (rs.map cvT)=eachA [[]] (cvs sd lo hi):=hacc
     have hlp:=lenP_pos (cs:=rs.map cvT) λc hc=>by
      obtain⟨x,hx,rfl⟩:=J0.mp hc
      obtain⟨_,x1,x2,x3⟩:=htri x (hrs x hx)
      exact (cvT_ok x1 x2 x3).1
     have htot:(acc.flatMap λp=>(cvT t).map λx=>p++[x]).length<=960:=by
      have h1:=eachA_len (rs.map cvT) (acc.flatMap λp=>(cvT t).map λx=>p++[x])
      rw[hacc',eachA_len]at h1
      have h2:(acc.flatMap λp=>(cvT t).map λx=>p++[x]).length<=(acc.flatMap λp=>(cvT t).map λx=>p++[x]).length * lenP (rs.map cvT):=X5 _ hlp
      simp only[G4,R7]at h1
      omega
     obtain⟨_,hsl,_⟩:=cvT_ok t1 t2 t3
     refine ⟨rfl,?_⟩
     with_reducible refine gsC (ρ':=[some (.fz (tupD sd)),some (.fz (boxD (lo,hi))),some (.ow (.list (acc.map λps=>boxD (bo ps)))),some (.fz (.int t.1)),some (.fz (.int t.2.1)),some (.fz (.int t.2.2)),none,none,none]) rfl ?_
     with_reducible refine cutS (λρ=>ρ=[some (.fz (tupD sd)),some (.fz (boxD (lo,hi))),some (.ow (.list (acc.map λps=>boxD (bo ps)))),some (.fz (.int t.1)),some (.fz (.int t.2.1)),some (.fz (.int t.2.2)),some (.ow (.list [])),none,none]) ?_ ?_
     ·intro M2 hM2
      exact hM2 _ rfl
     rintro _ rfl
     with_reducible refine cutS (λρ=>ρ=[some (.fz (tupD sd)),some (.fz (boxD (lo,hi))),some (.fz (.list (acc.map λps=>boxD (bo ps)))),some (.fz (.int t.1)),some (.fz (.int t.2.1)),some (.fz (.int t.2.2)),some (.ow (.list ((acc.flatMap λp=>(cvT t).map λx=>p++[x]).map λps=>boxD (bo ps)))),none,none]) ?_ ?_
     ·intro M2 hM2
      refine loopC (λrest ρ=>∃(lg rp:List (List (Int×Int))),rest=(rp.map λps=>boxD (bo ps))/\(lg++rp.flatMap λp=>(cvT t).map λx=>p++[x])=(acc.flatMap λp=>(cvT t).map λx=>p++[x])/\(∀p∈rp,p∈acc)/\ρ=[some (.fz (tupD sd)),some (.fz (boxD (lo,hi))),some (.fz (.list (acc.map λps=>boxD (bo ps)))),some (.fz (.int t.1)),some (.fz (.int t.2.1)),some (.fz (.int t.2.2)),some (.ow (.list (lg.map λps=>boxD (bo ps)))),none,none]) ?_ ?_ ⟨[],acc,rfl,rfl,λp hp=>hp,rfl⟩
      ·rintro d ds ρ ⟨lg,rp,er,he,hin,rfl⟩ M3 hM3
       cases rp with
       | nil=>cases er
       | cons p rp =>
        cases er
        have hpl:=hl3 p (hin p B0)
        have hb1:(bo p).1.length=p.length:=i0 _
        have hb2:(bo p).2.length=p.length:=i0 _
        have hl5:lg.length+(cvT t).length<=960:=by
         have:=congrArg Y3 he
         rw[M0,P1,M0,i0]at this
         omega
        refine ⟨rfl,?_⟩
        refine ⟨t.1,t.2.1,t.2.2,rfl,by omega,by omega,λo=>?_⟩
        have ecv:covD t.1 t.2.1 t.2.2=.list ((cvT t).map prD):=rfl
        rw[ecv]
        refine ⟨le_size (by rw[i0];omega),mapC (fSn p) ?_ ?_⟩
        ·intro d hd N' hN'
         obtain⟨x,_,rfl⟩:=J0.mp hd
         exact ⟨rfl,le_size (by simp;simp at hpl;omega),le_size (by simp;simp at hpl;omega),hN'⟩
        ·have e1:((cvT t).map prD).map (fSn p)=((cvT t).map λx=>p++[x]).map λps=>boxD (bo ps):=by
          rw[L0,L0]
          exact G3 λx _=>(bo_snoc p x).symm
         rw[e1]
         refine ⟨le_size (by simp;omega),hM3 _ ⟨lg++(cvT t).map λx=>p++[x],rp,rfl,by rw[L1,<- he,P1],λp' hp'=>hin p' (A0 _ hp'),?_⟩⟩
         rw[X2]
         rfl
      ·rintro ρ ⟨lg,rp,er,he,hin,rfl⟩
       cases rp with
       | cons p rp=>cases er
       | nil =>
        rw[o7,K1]at he
        rw[<- he]at hM2
        exact hM2 _ rfl
     rintro _ rfl
     refine hM _ ⟨acc.flatMap λp=>(cvT t).map λx=>p++[x],rs,rfl,hrs,hacc',λp hp=>?_,rfl⟩
     obtain⟨p',hp',hx⟩:=Y2.mp hp
     obtain⟨x,_,rfl⟩:=J0.mp hx
     have:=hl3 p' hp'
     simp at this ⊢
     omega
   ·rintro ρ ⟨acc,rs,er,hr1,hacc,hl3,rfl⟩
    cases rs with
    | cons a rs=>cases er
    | nil =>
     have hacc:acc=eachA [[]] (cvs sd lo hi):=hacc
     have e:(cb0 sd lo hi).map boxD=acc.map λps=>boxD (bo ps):=by unfold cb0;rw[<- hacc,L0];rfl
     rw[e]at hN
     exact hN _ rfl
  rintro _ rfl
  refine ⟨cb0 sd lo hi,rfl,X0 (cb0_len hsd hbx) (by decide),λrows hp hu=>?_⟩
  rw[cbs_eq hp hu]
  exact q _
end
noncomputable def hit:List (Int×Int)->List Int->Bool
 | p :: ps,x :: xs=>(decide (p.1<=x)&&decide (x<=p.2))&&hit ps xs
 | _,_=>true
theorem hit_inB:∀(ps:List (Int×Int)) (xs:List Int),inB (bo ps).1 xs (bo ps).2=hit ps xs
 | [],xs=>by simp[bo,inB,hit]
 | p :: ps,[]=>by simp[bo,inB,hit]
 | p :: ps,x :: xs=>by
  show ((decide (p.1<=x)&&decide (x<=p.2))&&inB (bo ps).1 xs (bo ps).2)=_
  rw[hit_inB ps xs]
  rfl
theorem hit_snoc:∀{p:List (Int×Int)}{xa:List Int} (y:Int×Int) (x:Int),p.length=xa.length->hit (p++[y]) (xa++[x])=(hit p xa&&(decide (y.1<=x)&&decide (x<=y.2)))
 | [],[],y,x,_=>by simp[hit]
 | q :: p,z :: xa,y,x,h=>by
  show ((decide (q.1<=z)&&decide (z<=q.2))&&hit (p++[y]) (xa++[x]))=(((decide (q.1<=z)&&decide (z<=q.2))&&hit p xa)&&_)
  rw[hit_snoc y x (by simpa using h)]
  simp only[Bool.and_assoc]
 | [],_ :: _,_,_,h=>by simp at h
 | _ :: _,[],_,_,h=>by simp at h
noncomputable def cntP:List (List (Int×Int))->List Int->Nat
 | c :: cs,x :: xs=>c.countP (λp=>decide (p.1<=x)&&decide (x<=p.2)) * cntP cs xs
 | _,_=>1
theorem cnt_flat{xa:List Int}(x:Int)(c:List (Int×Int)):∀(acc:List (List (Int×Int))),(∀p∈acc,p.length=xa.length) ->
  (acc.flatMap λp=>c.map λy=>p++[y]).countP (λps=>hit ps (xa++[x]))=acc.countP (λps=>hit ps xa) * c.countP (λp=>decide (p.1<=x)&&decide (x<=p.2))
 | [],_=>by simp
 | p :: acc,h=>by
  have ih:=cnt_flat x c acc λq hq=>h q (A0 _ hq)
  have hp:=h p B0
  rw[P1,List.countP_append,ih,U4,Nat.add_mul,g9,E8]
  congr 1
  have e:((λps=>hit ps (xa++[x])) ∘ λy=>p++[y])=λy:Int×Int=>hit p xa&&(decide (y.1<=x)&&decide (x<=y.2)):=by
   funext y
   exact hit_snoc y x hp
  rw[e]
  cases hit p xa with
  | true=>simp
  | false=>simp
theorem cnt_each:∀(cs acc:List (List (Int×Int))) (xa xs:List Int),(∀p∈acc,p.length=xa.length)->xs.length=cs.length->(eachA acc cs).countP (λps=>hit ps (xa++xs))=acc.countP (λps=>hit ps xa) * cntP cs xs
 | [],acc,xa,xs,_,hl=>by
  have e:xs=[]:=List.length_eq_zero_iff.mp hl
  subst e
  rw[K1]
  show acc.countP _=_ * 1
  rw[Nat.mul_one]
 | c :: cs,acc,xa,[],_,hl=>by simp at hl
 | c :: cs,acc,xa,x :: xs,h,hl=>by
  have e:xa++x :: xs=(xa++[x])++xs:=by simp
  rw[e]
  show (eachA (acc.flatMap λp=>c.map λy=>p++[y]) cs).countP _=_ * (c.countP _ * cntP cs xs)
  rw[cnt_each cs _ (xa++[x]) xs (λq hq=>?_) (by simpa using hl),cnt_flat x c acc h,v7]
  obtain⟨p,hp,hq⟩:=Y2.mp hq
  obtain⟨y,_,rfl⟩:=J0.mp hq
  rw[M0,M0,h p hp]
  rfl
theorem Tl.le:∀{l:List (Int×Int)}{s e:Int},Tl s e l->s<=e+1
 | [],s,e,h=>by have h:s=e+1:=h;omega
 | p :: l,s,e,h=>by
  have h1:=Tl.le h.2.2
  have h2:=h.1
  have h3:=h.2.1
  omega
theorem Tl.cnt(x:Int):∀{l:List (Int×Int)}{s e:Int},Tl s e l->l.countP (λp=>decide (p.1<=x)&&decide (x<=p.2))=if s<=x/\x<=e then 1 else 0
 | [],s,e,h=>by
  have h:s=e+1:=h
  rw[if_neg (by omega)]
  rfl
 | p :: l,s,e,h=>by
  have ih:=Tl.cnt x h.2.2
  have h1:=Tl.le h.2.2
  have h2:=h.1
  have h3:=h.2.1
  rw[U4,ih]
  by_cases c1:p.1<=x/\x<=p.2
  ·rw[if_neg (by omega),if_pos (by rw[decide_eq_true c1.1,decide_eq_true c1.2];rfl),if_pos (by omega)]
  ·rw[if_neg (show ¬(decide (p.1<=x)&&decide (x<=p.2))=true from λz=>c1 (by simpa using z))]
   by_cases c2:p.2+1<=x/\x<=e
   ·rw[if_pos c2,if_pos (by omega)]
   ·rw[if_neg c2,if_neg (by omega)]
theorem cnt_cvs:∀{sd lo hi xs:List Int},Bx lo hi sd->xs.length=sd.length->cntP (cvs sd lo hi) xs=if inB lo xs hi=true then 1 else 0
 | [],[],[],[],_,_=>by simp[cvs,cntP,inB]
 | s :: sd,a :: lo,b :: hi,x :: xs,h,hl=>by
  have ih:=cnt_cvs (xs:=xs) h.2 (by simpa using hl)
  have h1:=h.1
  obtain⟨_,_,t⟩:=cvT_ok (q:=(s,a,b)) h1.1 h1.2.1 h1.2.2
  have tc:=Tl.cnt x t
  show (cvT (s,a,b)).countP _ * cntP (cvs sd lo hi) xs=if ((decide (a<=x)&&decide (x<=b))&&inB lo xs hi)=true then 1 else 0
  rw[tc,ih]
  simp only
  by_cases c1:a<=x/\x<=b
  ·rw[if_pos c1,decide_eq_true c1.1,decide_eq_true c1.2,R7]
   rfl
  ·rw[if_neg c1,Nat.zero_mul,if_neg]
   intro z
   rw[Z3,Z3,decide_eq_true_eq,decide_eq_true_eq]at z
   exact c1 z.1
 | [],[],[],_ :: _,_,h=>by simp at h
 | _ :: _,_ :: _,_ :: _,[],_,h=>by simp at h
 | _ :: _,[],[],_,h,_=>h.elim
 | z,[],_ :: _,_,h,_=>by cases z<;>exact h.elim
 | z,_ :: _,[],_,h,_=>by cases z<;>exact h.elim
 | [],_ :: _,_ :: _,_,h,_=>h.elim
theorem cb_once{sd lo hi xs:List Int}(h:Bx lo hi sd)(hl:xs.length=sd.length):(cbs sd lo hi).countP (λb=>inB b.1 xs b.2)=if inB lo xs hi=true then 1 else 0:=by
 unfold cbs
 rw[(srtL_perm _ _).countP_eq]
 unfold cb0
 rw[E8]
 have e:((λb:Bxx=>inB b.1 xs b.2) ∘ bo)=λps=>hit ps ([]++xs):=by
  funext ps
  exact hit_inB ps xs
 rw[e,cnt_each _ [[]] [] xs (by simp) (by rw[cvs_n h];exact hl),cnt_cvs h hl]
 show 1 * _=_
 rw[R7]
theorem flat_split{α β:Type}(f g:β->List α):∀bs:List β,(bs.flatMap λb=>f b++g b).Perm (bs.flatMap f++bs.flatMap g)
 | []=>.refl _
 | b :: bs=>by
  have ih:=flat_split f g bs
  rw[P1,P1,P1]
  have h1:(f b++g b++bs.flatMap λb=>f b++g b).Perm (f b++g b++(bs.flatMap f++bs.flatMap g)):=ih.append_left _
  refine h1.trans ?_
  rw[L1,L1]
  refine List.Perm.append_left _ ?_
  rw[<- L1,<- L1]
  exact t6.append_right _
theorem fil_many{α β:Type}{p:α->Bool}{q:β->α->Bool}(bs:List β):∀{l:List α},(∀x∈l,bs.countP (λb=>q b x)=if p x=true then 1 else 0)->(l.filter p).Perm (bs.flatMap λb=>l.filter (q b))
 | [],_=>by
  have e:(bs.flatMap λb=>([]:List α).filter (q b))=[]:=by simp
  rw[e]
  exact .refl _
 | x :: l,h=>by
  have ih:=fil_many bs (l:=l) λy hy=>h y (A0 _ hy)
  have hx:=h x B0
  have e:(bs.flatMap λb=>(x :: l).filter (q b))=bs.flatMap λb=>(if q b x=true then [x] else [])++l.filter (q b):=by
   congr 1
   funext b
   rw[V4]
   split<;>rfl
  rw[e]
  refine List.Perm.trans ?_ (flat_split _ _ bs).symm
  have e2:(bs.flatMap λb=>if q b x=true then [x] else [])=U1 (bs.countP λb=>q b x) x:=by
   clear h ih hx e
   induction bs with
   | nil=>rfl
   | cons b bs ih =>
    rw[P1,U4,ih]
    by_cases z:q b x=true
    ·rw[if_pos z,if_pos z,U3]
     rfl
    ·rw[if_neg z,if_neg z]
     rfl
  rw[e2,hx,V4]
  by_cases z:p x=true
  ·rw[if_pos z,if_pos z]
   exact ih.cons x
  ·rw[if_neg z,if_neg z]
   exact ih
theorem cb_in{sd lo hi:List Int}(h:Bx lo hi sd){b:Bxx}(hb:b∈cbs sd lo hi):b∈hbs sd:=by
 unfold cbs at hb
 rw[(srtL_perm _ _).mem_iff]at hb
 obtain⟨ps,hps,rfl⟩:=J0.mp hb
 refine hbs_mem.mpr ⟨ps,?_,rfl⟩
 have gen:∀{sd lo hi:List Int}{ps:List (Int×Int)},Bx lo hi sd->InW ps (cvs sd lo hi)->InW ps (sd.map strP):=by
  intro sd
  induction sd with
  | nil =>
   intro lo hi ps h hp
   cases ps with
   | nil=>trivial
   | cons=>cases lo<;>cases hi<;>first|exact h.elim|exact hp.elim
  | cons s sd ih =>
   intro lo hi ps h hp
   cases lo with
   | nil=>cases hi<;>exact h.elim
   | cons a lo =>
    cases hi with
    | nil=>exact h.elim
    | cons b hi =>
     cases ps with
     | nil=>exact hp.elim
     | cons p ps =>
      have h1:=h.1
      have hm:p∈cov 0 (s - 1) a b:=hp.1
      exact ⟨strP_of (cov_node _ _ (by omega) p hm).1,ih h.2 hp.2⟩
 exact gen h (each_mem0 hps)
theorem cb_ne{sd lo hi:List Int}(h:Bx lo hi sd):cbs sd lo hi≠[]:=λz=>by
 have h1:=lenP_pos (cvs_ne h)
 have h2:=congrArg Y3 z
 unfold cbs at h2
 rw[(srtL_perm _ _).length_eq]at h2
 unfold cb0 at h2
 rw[i0,eachA_len]at h2
 simp at h2
 omega
theorem cb_perm{sd cl lo hi:List Int}(hp:∀c∈sd,1<=c)(h:Bx lo hi sd):(cels sd cl lo hi).Perm ((cbs sd lo hi).flatMap λb=>cels sd cl b.1 b.2):=by
 have e:((cbs sd lo hi).flatMap λb=>cels sd cl b.1 b.2)=((cbs sd lo hi).flatMap λb=>(plc sd).filter λp=>inB b.1 p b.2).map (cel sd cl):=by
  rw[List.map_flatMap]
  have gen:∀l:List Bxx,(∀b∈l,b∈hbs sd)->(l.flatMap λb=>cels sd cl b.1 b.2)=l.flatMap λb=>((plc sd).filter λp=>inB b.1 p b.2).map (cel sd cl):=λl=>by
   induction l with
   | nil=>intro _;rfl
   | cons b l ih =>
    intro hl
    rw[P1,P1,ih λc hc=>hl c (A0 _ hc)]
    rw[plc_in (hbs_bx hp (hl b B0))]
    rfl
  exact gen _ λb hb=>cb_in h hb
 rw[e]
 unfold cels
 refine List.Perm.map _ ?_
 rw[<- plc_in h]
 exact fil_many _ λx hx=>cb_once h (wi_len (plc_wi hx))
theorem tl3_many{l:List Int}{bs:List Bxx}{f:Bxx->List Int}(h:l.Perm (bs.flatMap f))(hb:bs≠[])(hf:∀b∈bs,f b≠[]):tl3 l=[(bs.map λb=>(f b).sum).sum,mnL (bs.map λb=>mnL (f b)),mxL (bs.map λb=>mxL (f b))]:=by
 unfold tl3
 have e1:l.sum=(bs.map λb=>(f b).sum).sum:=by
  rw[perm_sum h]
  clear h hb hf
  induction bs with
  | nil=>rfl
  | cons b bs ih=>rw[P1,List.sum_append,ih];rfl
 have hn1:(bs.map λb=>mnL (f b))≠[]:=λz=>hb (T5.mp z)
 have hn2:(bs.map λb=>mxL (f b))≠[]:=λz=>hb (T5.mp z)
 have e2:mnL (bs.map λb=>mnL (f b))=mnL l:=by
  refine mnL_eq (h.mem_iff.mpr ?_) λy hy=>?_
  ·obtain⟨b,hb',e⟩:=J0.mp (mnL_spec hn1).1
   rw[<- e]
   exact Y2.mpr ⟨b,hb',(mnL_spec (hf b hb')).1⟩
  ·obtain⟨b,hb',hy⟩:=Y2.mp (h.mem_iff.mp hy)
   have h1:=(mnL_spec hn1).2 _ (J0.mpr ⟨b,hb',rfl⟩)
   have h2:=(mnL_spec (hf b hb')).2 y hy
   omega
 have e3:mxL (bs.map λb=>mxL (f b))=mxL l:=by
  refine mxL_eq (h.mem_iff.mpr ?_) λy hy=>?_
  ·obtain⟨b,hb',e⟩:=J0.mp (mxL_spec hn2).1
   rw[<- e]
   exact Y2.mpr ⟨b,hb',(mxL_spec (hf b hb')).1⟩
  ·obtain⟨b,hb',hy⟩:=Y2.mp (h.mem_iff.mp hy)
   have h1:=(mxL_spec hn2).2 _ (J0.mpr ⟨b,hb',rfl⟩)
   have h2:=(mxL_spec (hf b hb')).2 y hy
   omega
 rw[e1,e2,e3]
theorem hbs_lt{sd:List Int}(hp:∀c∈sd,1<=c):(hbs sd).Pairwise λa b=>ltB a b=true:=by
 have h1:(hbs sd).Pairwise λa b=>ltB b a=false:=srtL_up ltB_wk _
 refine (h1.and (hbs_nodup hp)).imp λ{a b} ⟨x,y⟩=>?_
 cases z:ltB a b with
 | true=>rfl
 | false=>exact absurd (ltB_eq z x) y
theorem lt_at{L:List Bxx}(hl:L.Pairwise λa b=>ltB a b=true){t:Nat}{b:Bxx}(hb:L[t]?=some b){m:Nat}{c:Bxx}(hc:L[m]?=some c):ltB c b=decide (m < t):=by
 obtain⟨h1,e1⟩:=W0.mp hb
 obtain⟨h2,e2⟩:=W0.mp hc
 have hp:=Q2.mp hl
 by_cases q:m < t
 ·rw[decide_eq_true q,<- e1,<- e2]
  exact hp m t h2 h1 q
 ·rw[decide_eq_false q]
  by_cases q2:m=t
  ·subst q2
   rw[e1]at e2
   rw[<- e2]
   exact ltB_wk.irr b
  ·have h3:=hp t m h1 h2 (by omega)
   rw[e1,e2]at h3
   cases h4:ltB c b with
   | false=>rfl
   | true =>
    have:=ltB_wk.tr _ _ _ h3 h4
    rw[ltB_wk.irr]at this
    cases this
section
variable {P:Program}{w:World}{K:u0}{mg:Str->Option Value}{base:Heap}
noncomputable def cEa:Con:=λargs Q=>∃(sd cl:List Int) (b:Bxx),args=[.fz (.list ((hbs sd).map (enX sd cl))),.fz (.tuple [boxD b])]/\Sd sd/\b∈hbs sd/\∀o,Q (.fz (enX sd cl b)) o
theorem scEa:FnScope ["table","key","low","high","middle"] ["table","key"] (defScope (top 2)):=⟨rfl,rfl,rfl,by decide +kernel,rfl,by decide +kernel,by decide +kernel⟩
theorem ok_ea{f:Addr}{fd:FuncData}(F:Fun K "entry_at" "entry_at" (top 2) f fd)(T:Txt mg):FnOk P w K mg base CX0 1 f fd ["table","key"] (conSp K cEa):=by
 have S:=scEa
 refine wfn F S (λcdv A outer s H E hr=>(s_cons (s_set (i:=2) S.nd rfl (Or.inl rfl) w_int)
     (s_cons (s_set (i:=3) S.nd rfl (Or.inl rfl) (w_bin ok_sub op_sub (wx (w_callB ok_len (call_lenK (K:=K) rfl) T.len_ PySem.boot_len (wa_cons (wn 0) wa_nil))) (wx w_int)))
     (s_cons (s_while PassesOwn.never (t_cmp ok_lt op_lt (wn 2) (wn 3)) (s_cons (s_set (i:=4) S.nd rfl (Or.inl rfl) (w_bin ok_fdiv op_fdiv (wx (w_bin ok_add op_addD (wn 2) (wn 3))) (wx w_int)))
     (s_one (s_if (t_cmp ok_ltB (op_ltB (hu2_of hr)) (wx (w_ix rfl (wn 0) (wn 4))) (wn 1)) (s_one (s_set (i:=2) S.nd rfl (Or.inl rfl) (w_bin ok_add op_addD (wn 4) (wx w_int)))) (s_one (s_move (i:=3) S.nd rfl (Or.inl rfl) (wn 4)))))))
     (s_one (s_ret (w_ix rfl (wn 0) (wn 2)))))))) ?_ ?_
 ·rintro args Qd ⟨sd,cl,b,rfl,_⟩;rfl
 ·rintro args Qd ⟨sd,cl,b,rfl,hsd,hb,q⟩
  refine ⟨noOw_of rfl,?_⟩
  have hn:=hbs_len hsd
  obtain⟨t,ht,et⟩:=R8.mp hb
  have hbt:(hbs sd)[t]?=some b:=by rw[O0 ht,et]
  have hlt:=hbs_lt hsd.p
  generalize hbs sd=L at hn ht et hbt hlt ⊢
  have hat:∀{m:Nat},m < L.length->∃c,L[m]?=some c/\atI (L.map (enX sd cl)) (m:Int)=some (enX sd cl c):=λ{m} hm=>⟨L[m],O0 hm,atI_nat (by rw[J1,O0 hm];rfl)⟩
  have hlen:(L.map (enX sd cl)).length=L.length:=i0 _
  with_reducible refine cutS (λρ=>ρ=[some (.fz (.list (L.map (enX sd cl)))),some (.fz (.tuple [boxD b])),some (.fz (.int 0)),none,none]) ?_ ?_
  ·intro N hN
   exact hN _ rfl
  rintro _ rfl
  with_reducible refine cutS (λρ=>ρ=[some (.fz (.list (L.map (enX sd cl)))),some (.fz (.tuple [boxD b])),some (.fz (.int 0)),some (.fz (.int ((L.length:Int) - 1))),none]) ?_ ?_
  ·intro N hN
   rw[<- hlen]at hN
   exact hN _ rfl
  rintro _ rfl
  with_reducible refine cutS (λρ=>∃mo:Option Sl,ρ=[some (.fz (.list (L.map (enX sd cl)))),some (.fz (.tuple [boxD b])),some (.fz (.int (t:Nat))),some (.fz (.int (t:Nat))),mo]) ?_ ?_
  ·intro N hN
   refine ⟨λm ρ=>∃(lo hi:Nat) (mo:Option Sl),(mo=none\/∃d,mo=some (.fz d))/\lo<=t/\t<=hi/\hi < L.length/\m=hi - lo/\ρ=[some (.fz (.list (L.map (enX sd cl)))),some (.fz (.tuple [boxD b])),some (.fz (.int (lo:Nat))),some (.fz (.int (hi:Nat))),mo],⟨L.length - 1,0,L.length - 1,none,.inl rfl,S4 _,by omega,by omega,rfl,?_⟩,?_⟩
   ·rw[show ((L.length - 1:Nat):Int)=(L.length:Int) - 1 by omega]
    rfl
   rintro m ρ ⟨lo,hi,mo,hmo,h1,h2,h3,rfl,rfl⟩
   refine ite2 (λh=>?_) (λh=>?_)
   ·have h:(lo:Int) < (hi:Int):=of_decide_eq_true h
    refine ⟨λρ=>∃(lo' hi':Nat) (d:PyData),hi' - lo' < hi - lo/\lo'<=t/\t<=hi'/\hi' < L.length/\ρ=[some (.fz (.list (L.map (enX sd cl)))),some (.fz (.tuple [boxD b])),some (.fz (.int (lo':Nat))),some (.fz (.int (hi':Nat))),some (.fz d)],?_,?_⟩
    ·rintro ρ' ⟨lo',hi',d,k1,k2,k3,k4,rfl⟩
     exact ⟨hi' - lo',k1,lo',hi',some (.fz d),.inr ⟨d,rfl⟩,k2,k3,k4,rfl,rfl⟩
    have em:((lo:Int)+(hi:Int)) / 2=(((lo+hi) / 2:Nat):Int):=by omega
    have hmid:(lo+hi) / 2 < L.length:=by omega
    obtain⟨c,hc,hac⟩:=hat hmid
    have hltc:=lt_at hlt hbt hc
    with_reducible refine cutS (λρ=>ρ=[some (.fz (.list (L.map (enX sd cl)))),some (.fz (.tuple [boxD b])),some (.fz (.int (lo:Nat))),some (.fz (.int (hi:Nat))),some (.fz (.int (((lo+hi) / 2:Nat):Int)))]) ?_ ?_
    ·intro N2 hN2
     rw[<- em]at hN2
     rcases hmo with rfl|⟨d,rfl⟩
     ·exact ⟨⟨by decide,by decide⟩,hN2 _ rfl⟩
     ·exact ⟨⟨by decide,by decide⟩,hN2 _ rfl⟩
    rintro _ rfl
    refine ⟨_,hac,c,b,.inr ⟨_,rfl,rfl⟩,?_⟩
    refine ite2 (λh5=>?_) (λh5=>?_)
    ·have h5:ltB c b=true:=h5
     rw[hltc]at h5
     have h5:=of_decide_eq_true h5
     exact ⟨(lo+hi) / 2+1,hi,_,by omega,by omega,h2,h3,by rw[show (((lo+hi) / 2+1:Nat):Int)=(((lo+hi) / 2:Nat):Int)+1 by omega];rfl⟩
    ·have h5:¬ltB c b=true:=h5
     rw[hltc]at h5
     have h5:¬(lo+hi) / 2 < t:=λz=>h5 (decide_eq_true z)
     exact ⟨lo,(lo+hi) / 2,_,by omega,h1,by omega,by omega,rfl⟩
   ·have h:¬(lo:Int) < (hi:Int):=λz=>h (decide_eq_true z)
    have e1:lo=t:=by omega
    have e2:hi=t:=by omega
    subst e1
    subst e2
    exact hN _ ⟨mo,rfl⟩
  rintro _ ⟨mo,rfl⟩
  obtain⟨c,hc,hac⟩:=hat ht
  have ec:c=b:=by rw[hbt]at hc;injection hc with hc;exact hc.symm
  subst ec
  exact ⟨_,hac,q _⟩
end
noncomputable def f30:PyData->PyData
 | .tuple [a,_,_]=>a
 | _=>.none
noncomputable def f31:PyData->PyData
 | .tuple [_,b,_]=>b
 | _=>.none
noncomputable def f32:PyData->PyData
 | .tuple [_,_,c]=>c
 | _=>.none
noncomputable def fTl(sd cl:List Int):PyData->PyData
 | .tuple [.tuple p,.tuple q]=>tupD (tlB sd cl (p.map unI,q.map unI))
 | _=>.none
theorem fTl_bx(sd cl:List Int)(b:Bxx):fTl sd cl (boxD b)=tupD (tlB sd cl b):=by
 show tupD (tlB sd cl ((b.1.map j0).map unI,(b.2.map j0).map unI))=_
 rw[unI_int,unI_int]
theorem lenP_snoc{α:Type}(c:List α):∀cs:List (List α),lenP (cs++[c])=lenP cs * c.length
 | []=>by show c.length * 1=1 * c.length;omega
 | d :: cs=>by
  show d.length * lenP (cs++[c])=d.length * lenP cs * c.length
  rw[lenP_snoc c cs,v7]
theorem cvs_snoc{sd lo hi:List Int}(s a b:Int)(h1:lo.length=sd.length)(h2:hi.length=sd.length):cvs (sd++[s]) (lo++[a]) (hi++[b])=cvs sd lo hi++[cvT (s,a,b)]:=by
 unfold cvs
 rw[List.zip_append (by omega),List.zip_append (by rw[Y1];omega),X2]
 rfl
section
variable {P:Program}{w:World}{K:u0}{mg:Str->Option Value}{base:Heap}
noncomputable def cPt:Con:=λargs Q=>∃es:List (Int×Int×Int),args=[.fz (.list (es.map λe=>tupD [e.1,e.2.1,e.2.2]))]/\es≠[]/\es.length<=1000/\∀o,Q (.fz (tupD [(es.map λe=>e.1).sum,mnL (es.map λe=>e.2.1),mxL (es.map λe=>e.2.2)])) o
theorem scPt:FnScope ["parts","total"] ["parts"] (defScope (top 9)):=⟨rfl,rfl,rfl,by decide +kernel,rfl,by decide +kernel,by decide +kernel⟩
theorem ok_pt{f:Addr}{fd:FuncData}(F:Fun K "put_together" "put_together" (top 9) f fd)(T:Txt mg):FnOk P w K mg base CX0 1 f fd ["parts"] (conSp K cPt):=by
 have S:=scPt
 refine wfn F S (λcdv A outer s H E hr=>(s_cons (s_set (i:=1) S.nd rfl (Or.inl rfl) (w_callB ok_sum (call_sumK (K:=K) rfl rfl) T.sum_ boot_sum (wa_cons (wx (w_comp rfl (own:=["part"]) (fr:=[]) (by kernel_rfl) (i_seq rfl (wv 0)) (λ_ _ _ _=>(g_name (i:=0) (by decide +kernel:Q1 (["part"]:List Str)) rfl (Or.inl rfl))) (λ_ _ _ _=>if0) (λ_ _ _ _=>(w_ix rfl (wn 0) (wx w_int))))) wa_nil)))
     (s_one (s_ret (w_tup (wa_cons (wx (wv 1)) (wa_cons (wx (w_callB ok_mnI (call_mnI (K:=K) rfl rfl) T.min_ boot_min (wa_cons (wx (w_comp rfl (own:=["part"]) (fr:=[]) (by kernel_rfl) (i_seq rfl (wv 0)) (λ_ _ _ _=>(g_name (i:=0) (by decide +kernel:Q1 (["part"]:List Str)) rfl (Or.inl rfl))) (λ_ _ _ _=>if0) (λ_ _ _ _=>(w_ix rfl (wn 0) (wx w_int))))) wa_nil))) (wa_cons (wx (w_callB ok_mxI (call_mxI (K:=K) rfl rfl) T.max_ boot_max (wa_cons (wx (w_comp rfl (own:=["part"]) (fr:=[]) (by kernel_rfl) (i_seq rfl (wv 0)) (λ_ _ _ _=>(g_name (i:=0) (by decide +kernel:Q1 (["part"]:List Str)) rfl (Or.inl rfl))) (λ_ _ _ _=>if0) (λ_ _ _ _=>(w_ix rfl (wn 0) (wx w_int))))) wa_nil))) wa_nil)))))))) ?_ ?_
 ·rintro args Qd ⟨es,rfl,_⟩;rfl
 ·rintro args Qd ⟨es,rfl,hne,hl,q⟩
  refine ⟨noOw_of rfl,?_⟩
  have h0:0 < es.length:=S5.mpr hne
  have e0:(es.map λe=>tupD [e.1,e.2.1,e.2.2]).map f30=(es.map λe=>e.1).map j0:=by rw[L0,L0];rfl
  have e1:(es.map λe=>tupD [e.1,e.2.1,e.2.2]).map f31=(es.map λe=>e.2.1).map j0:=by rw[L0,L0];rfl
  have e2:(es.map λe=>tupD [e.1,e.2.1,e.2.2]).map f32=(es.map λe=>e.2.2).map j0:=by rw[L0,L0];rfl
  with_reducible refine cutS (λρ=>ρ=[some (.fz (.list (es.map λe=>tupD [e.1,e.2.1,e.2.2]))),some (.fz (.int (es.map λe=>e.1).sum))]) ?_ ?_
  ·intro N hN
   refine ⟨le_size (by rw[i0];omega),mapC f30 ?_ ?_⟩
   ·intro d hd N' hN'
    obtain⟨e,_,rfl⟩:=J0.mp hd
    exact ⟨_,rfl,hN'⟩
   rw[e0]
   exact ⟨_,rfl,hN _ rfl⟩
  rintro _ rfl
  refine ⟨le_size (by rw[i0];omega),mapC f31 ?_ ?_⟩
  ·intro d hd N hN
   obtain⟨e,_,rfl⟩:=J0.mp hd
   exact ⟨_,rfl,hN⟩
  rw[e1]
  refine ⟨es.map λe=>e.2.1,rfl,by rw[i0];exact h0,λm hm hmy=>?_⟩
  refine ⟨le_size (by rw[i0];omega),mapC f32 ?_ ?_⟩
  ·intro d hd N hN
   obtain⟨e,_,rfl⟩:=J0.mp hd
   exact ⟨_,rfl,hN⟩
  rw[e2]
  refine ⟨es.map λe=>e.2.2,rfl,by rw[i0];exact h0,λM hM hMy=>?_⟩
  rw[mnL_eq hm hmy,mxL_eq hM hMy]
  exact q _
structure CalsBh(P:Program)(w:World)(K:u0)(mg:Str->Option Value)(base:Heap):Prop where
 box_cover:Cal P w K mg base 3 "box_cover" ["sides","box"] (conSp K cBc)
 entry_at:Cal P w K mg base 1 "entry_at" ["table","key"] (conSp K cEa)
 put_together:Cal P w K mg base 1 "put_together" ["parts"] (conSp K cPt)
noncomputable def cBh:Con:=λargs Q=>∃sd cl lo hi:List Int,args=[.fz (tupD sd),.fz (.list ((hbs sd).map (enX sd cl))),.fz (boxD (lo,hi))]/\Sd sd/\Bx lo hi sd/\∀o,Q (.fz (tupD (tlB sd cl (lo,hi)))) o
theorem scBh:FnScope ["sides","table","box"] ["sides","table","box"] (defScope (top 11)):=⟨rfl,rfl,rfl,by decide +kernel,rfl,by decide +kernel,by decide +kernel⟩
theorem ok_bh{f:Addr}{fd:FuncData}(F:Fun K "by_halves" "by_halves" (top 11) f fd)(T:Txt mg)(C:CalsBh P w K mg base):FnOk P w K mg base CX0 4 f fd ["sides","table","box"] (conSp K cBh):=by
 have S:=scBh
 refine wfn F S (λcdv A outer s H E hr=>(s_one (s_ret (w_fn C.put_together (hr.mono (by first|decide|omega)) (wa_cons (wx (w_comp rfl (own:=["piece"]) (fr:=[1]) (by kernel_rfl) (i_seq rfl (w_fn C.box_cover (hr.mono (by first|decide|omega)) (wa_cons (wn 0) (wa_cons (wn 2) wa_nil)))) (λ_ _ _ _=>(g_name (i:=0) (by decide +kernel:Q1 (["piece","table"]:List Str)) rfl (Or.inl rfl))) (λ_ _ _ _=>if0) (λ_ _ _ _=>(w_ix rfl (wx (w_fn C.entry_at (hr.mono (by first|decide|omega)) (wa_cons (wn 1) (wa_cons (wx (w_tup (wa_cons (wx (wv 0)) wa_nil))) wa_nil)))) (wx w_int))))) wa_nil))))) ?_ ?_
 ·rintro args Qd ⟨sd,cl,lo,hi,rfl,_⟩;rfl
 ·rintro args Qd ⟨sd,cl,lo,hi,rfl,hsd,hbx,q⟩
  refine ⟨noOw_of rfl,?_⟩
  have hcl:(cbs sd lo hi).length<=120:=by unfold cbs;rw[(srtL_perm _ _).length_eq];exact cb0_len hsd hbx
  refine ⟨sd,lo,hi,rfl,hsd,hbx,λo=>⟨le_size (by rw[i0];omega),mapC (fTl sd cl) ?_ ?_⟩⟩
  ·intro d hd N hN
   obtain⟨b,hb,rfl⟩:=J0.mp hd
   rw[fTl_bx]at hN
   exact ⟨sd,cl,b,rfl,hsd,cb_in hbx hb,λo=>⟨_,rfl,hN⟩⟩
  have e:((cbs sd lo hi).map boxD).map (fTl sd cl)=((cbs sd lo hi).map λb=>((cels sd cl b.1 b.2).sum,mnL (cels sd cl b.1 b.2),mxL (cels sd cl b.1 b.2))).map λe=>tupD [e.1,e.2.1,e.2.2]:=by
   rw[L0,L0]
   exact G3 λb _=>fTl_bx sd cl b
  rw[e]
  refine ⟨_,rfl,λz=>cb_ne hbx (T5.mp z),by rw[i0];omega,λo=>?_⟩
  have h:=tl3_many (f:=λb=>cels sd cl b.1 b.2) (cb_perm (cl:=cl) hsd.p hbx) (cb_ne hbx) λb hb=>cels_ne (hbs_bx hsd.p (cb_in hbx hb))
  unfold tlB at q
  rw[h]at q
  have q2:∀o,Qd (.fz (tupD [(((cbs sd lo hi).map λb=>((cels sd cl b.1 b.2).sum,mnL (cels sd cl b.1 b.2),mxL (cels sd cl b.1 b.2))).map λe=>e.1).sum,mnL (((cbs sd lo hi).map λb=>((cels sd cl b.1 b.2).sum,mnL (cels sd cl b.1 b.2),mxL (cels sd cl b.1 b.2))).map λe=>e.2.1),mxL (((cbs sd lo hi).map λb=>((cels sd cl b.1 b.2).sum,mnL (cels sd cl b.1 b.2),mxL (cels sd cl b.1 b.2))).map λe=>e.2.2)])) o:=λo=>by rw[L0,L0,L0];exact q o
  exact q2 _
noncomputable def cMo:Con:=λargs Q=>∃sd:List Int,args=[.fz (tupD sd)]/\Sd sd/\∀(m:Int) (o:Ev),(∀lo hi,Bx lo hi sd->(lenP (cvs sd lo hi):Int)<=m)->Q (.fz (.int m)) o
theorem scMo:FnScope ["_law_sides_here","_law_found","_law_side","_law_reach"] ["_law_sides_here"] (defScope (top 27)):=⟨rfl,rfl,rfl,by decide +kernel,rfl,by decide +kernel,by decide +kernel⟩
theorem ok_mo{f:Addr}{fd:FuncData}(F:Fun K "_law_most" "_law_most" (top 27) f fd)(T:Txt mg):FnOk P w K mg base CX0 1 f fd ["_law_sides_here"] (conSp K cMo):=by
 have S:=scMo
 refine wfn F S (λcdv A outer s H E hr=>(s_cons (s_set (i:=1) S.nd rfl (Or.inl rfl) w_int)
     (s_cons (s_for [2,3] PassesOwn.never rfl (i_seq rfl (wv 0)) (g_name (i:=2) S.nd rfl (Or.inl rfl)) (s_cons (s_set (i:=3) S.nd rfl (Or.inl rfl) w_int)
     (s_cons (s_while PassesOwn.never (t_cmp ok_lt op_lt (wx (w_bin ok_shl op_shl (wx w_int) (wn 3))) (wn 2)) (s_one (s_set (i:=3) S.nd rfl (Or.inl rfl) (w_bin ok_add op_addD (wn 3) (wx w_int)))))
     (s_one (s_set (i:=1) S.nd rfl (Or.inl rfl) (w_bin ok_mul op_mulD (wn 1) (wx (w_callB ok_2I (call_max2 rfl) T.max_ boot_max (wa_cons (wx w_int) (wa_cons (wx (w_bin ok_mul op_mulD (wx w_int) (wn 3))) wa_nil))))))))))
     (s_one (s_retV (wn 1)))))) ?_ ?_
 ·rintro args Qd ⟨sd,rfl,_⟩;rfl
 ·rintro args Qd ⟨sd,rfl,hsd,q⟩
  refine ⟨noOw_of rfl,?_⟩
  have hm:=hsd.m
  with_reducible refine cutS (λρ=>ρ=[some (.fz (tupD sd)),some (.fz (.int 1)),none,none]) ?_ ?_
  ·intro N hN
   exact hN _ rfl
  rintro _ rfl
  with_reducible refine cutS (λρ=>∃m:Int,(∀lo hi,Bx lo hi sd->(lenP (cvs sd lo hi):Int)<=m)/\ρ=[some (.fz (tupD sd)),some (.fz (.int m)),none,none]) ?_ ?_
  ·intro N hN
   refine loopC (λrest ρ=>∃(dn rs:List Int) (m:Int),sd=dn++rs/\rest=rs.map j0/\0<=m/\(∀lo hi,Bx lo hi dn->(lenP (cvs dn lo hi):Int)<=m)/\ρ=[some (.fz (tupD sd)),some (.fz (.int m)),none,none]) ?_ ?_ ⟨[],sd,1,rfl,rfl,by decide,λlo hi h=>?_,rfl⟩
   ·rintro d ds ρ ⟨dn,rs,m,ez,es,hm0,hmm,rfl⟩ M hM
    cases rs with
    | nil=>cases es
    | cons s rs =>
     cases es
     have hs1:=hsd.p s (by rw[ez];simp)
     have hs2:=le_prodI hsd.p s (by rw[ez];simp)
     with_reducible refine gnC rfl ?_
     with_reducible refine cutS (λρ=>ρ=[some (.fz (tupD sd)),some (.fz (.int m)),some (.fz (.int s)),some (.fz (.int 0))]) ?_ ?_
     ·intro N2 hN2
      exact hN2 _ rfl
     rintro _ rfl
     with_reducible refine cutS (λρ=>∃r:Nat,r<=10/\s<=2 ^ r/\ρ=[some (.fz (tupD sd)),some (.fz (.int m)),some (.fz (.int s)),some (.fz (.int r))]) ?_ ?_
     ·intro N2 hN2
      refine ⟨λk ρ=>∃r:Nat,ρ=[some (.fz (tupD sd)),some (.fz (.int m)),some (.fz (.int s)),some (.fz (.int r))]/\r<=10/\k=1000 - r,⟨_,0,rfl,by decide,rfl⟩,?_⟩
      rintro k ρ ⟨r,rfl,hr,rfl⟩
      have er:(1:Int) * 2 ^ ((r:Int)).toNat=((2 ^ r:Nat):Int):=by simp
      refine ⟨⟨by omega,by omega,by decide⟩,ite2 (λh=>?_) (λh=>?_)⟩
      ·have h:(1:Int) * 2 ^ ((r:Int)).toNat < s:=of_decide_eq_true h
       rw[er]at h
       have hr':r < 10:=by
        refine Nat.lt_of_not_le λz=>?_
        have:=Nat.pow_le_pow_right (n:=2) (by decide) z
        omega
       refine ⟨λρ'=>∃m',m' < 1000 - r/\_,λρ' h=>h,?_⟩
       exact ⟨1000 - (r+1),by omega,r+1,rfl,by omega,rfl⟩
      ·have h:¬(1:Int) * 2 ^ ((r:Int)).toNat < s:=λz=>h (decide_eq_true z)
       rw[er]at h
       have e:((2 ^ r:Nat):Int)=2 ^ r:=by simp
       exact hN2 _ ⟨r,hr,by omega,rfl⟩
     rintro _ ⟨r,hr,hsr,rfl⟩
     obtain⟨z,ez2⟩:∃z:Int,z=if (2 * (r:Int)) > 1 then 2 * (r:Int) else 1:=⟨_,rfl⟩
     have hz:1<=z/\z<=20/\z=max 1 (2 * (r:Int)):=by rw[ez2];split<;>omega
     refine ⟨.inl ⟨by decide,by decide⟩,.inr ?_,hM _ ⟨dn++[s],rs,m * (if (2 * (r:Int)) > 1 then 2 * (r:Int) else 1),by rw[ez];simp,rfl,?_,λlo hi h=>?_,rfl⟩⟩
     ·show (-(2 ^ 64) < (if (2 * (r:Int)) > 1 then 2 * (r:Int) else 1))/\(if (2 * (r:Int)) > 1 then 2 * (r:Int) else 1) < 2 ^ 64
      rw[<- ez2]
      omega
     ·rw[<- ez2]
      exact Int.mul_nonneg hm0 (by omega)
     rw[<- ez2]
     obtain⟨ls,hs,ss,a,b,s',rfl,rfl,e3,hb,b0,b1,b2⟩:=bx_last h (by simp)
     have e4:=List.append_inj' e3 rfl
     obtain⟨rfl,e5⟩:=e4
     have e5:s=s':=by simpa using e5
     subst e5
     have hbl:=bx_len hb
     rw[cvs_snoc s a b hbl.1 hbl.2,lenP_snoc,K6]
     have hmost:=cov_most (a:=a) (b:=b) r 0 (s - 1) (by omega) (by omega)
     have hmost:(cvT (s,a,b)).length<=max 1 (2 * r):=hmost
     exact X4 (hmm ls hs hb) (by omega) (by omega) hm0
   ·rintro ρ ⟨dn,rs,m,ez,es,hm0,hmm,rfl⟩
    cases rs with
    | cons _ _=>cases es
    | nil =>
     rw[K1]at ez
     subst ez
     exact hN _ ⟨m,hmm,rfl⟩
   ·cases lo with
    | nil =>
     cases hi with
     | nil=>show (1:Int)<=1;decide
     | cons=>exact h.elim
    | cons=>cases hi<;>exact h.elim
  rintro _ ⟨m,hmm,rfl⟩
  exact q m _ hmm
noncomputable def cHas:Con:=λargs Q=>∃lo hi p:List Int,args=[.fz (boxD (lo,hi)),.fz (tupD p)]/\lo.length<=3/\∀o,Q (.fz (.bool (inB lo p hi))) o
theorem scHas:FnScope ["_law_box_here","_law_place"] ["_law_box_here","_law_place"] (defScope (top 28)):=⟨rfl,rfl,rfl,by decide +kernel,rfl,by decide +kernel,by decide +kernel⟩
theorem ok_has{f:Addr}{fd:FuncData}(F:Fun K "_law_has" "_law_has" (top 28) f fd)(T:Txt mg):FnOk P w K mg base CX0 1 f fd ["_law_box_here","_law_place"] (conSp K cHas):=by
 have S:=scHas
 refine wfn F S (λcdv A outer s H E hr=>(s_one (s_ret (w_cmp ok_eq (op_eqE (K:=K) rfl hr.units) (wx (w_comp rfl (own:=["_law_a","_law_p","_law_b"]) (fr:=[]) (by kernel_rfl) (i_zip3 rfl T.zip_ (wa_cons (wx (w_ix rfl (wn 0) (wx w_int))) (wa_cons (wn 1) (wa_cons (wx (w_ix rfl (wn 0) (wx w_int))) wa_nil)))) (λ_ _ _ _=>(g_tup rfl rfl (gs_cons (g_name (i:=0) (by decide +kernel:Q1 (["_law_a","_law_p","_law_b"]:List Str)) rfl (Or.inl rfl)) (gs_cons (g_name (i:=1) (by decide +kernel:Q1 (["_law_a","_law_p","_law_b"]:List Str)) rfl (Or.inl rfl)) (gs_cons (g_name (i:=2) (by decide +kernel:Q1 (["_law_a","_law_p","_law_b"]:List Str)) rfl (Or.inl rfl)) gs_nil))))) (λ_ _ _ _=>if1 (t_w (t_or (t_cmp ok_lt op_lt (wn 1) (wn 0)) (t_or1 (t_cmp ok_gt op_gt (wn 1) (wn 2)))))) (λ_ _ _ _=>w_int))) (wx (w_lst wa_nil)))))) ?_ ?_
 ·rintro args Qd ⟨lo,hi,p,rfl,_⟩;rfl
 ·rintro args Qd ⟨lo,hi,p,rfl,h3,q⟩
  refine ⟨noOw_of rfl,?_⟩
  have hz:=zip3_ints lo p hi
  refine ⟨_,rfl,_,rfl,by rw[hz,i0,Y1];exact le_size (by omega),filC outT (λ_=>.int 1) ?_ ?_⟩
  ·intro d hd N' M' hN' hM'
   rw[hz]at hd
   obtain⟨⟨a,x,b⟩,_,rfl⟩:=J0.mp hd
   refine ⟨rfl,ite2 (λh=>?_) (λh=>ite2 (λh2=>?_) (λh2=>?_))⟩
   ·have h:decide (x < a)=true:=h
    exact hN' (by show (decide (x < a)||decide (b < x))=true;rw[h];rfl)
   ·have h2:decide (b < x)=true:=h2
    exact hN' (by show (decide (x < a)||decide (b < x))=true;rw[h2,Bool.or_true])
   ·have h:¬decide (x < a)=true:=h
    have h2:¬decide (b < x)=true:=h2
    exact hM' (by show (decide (x < a)||decide (b < x))=false;rw[W3.mpr h,W3.mpr h2];rfl)
  rw[hz]
  have eo:=out_nil (lo:=lo) (p:=p) (hi:=hi)
  generalize ((lo.zip (p.zip hi)).map λq=>S0 [.int q.1,.int q.2.1,.int q.2.2]).filter outT=us at eo
  have el:us.map (λ_=>j0 1)=(us.map λ_=>(1:Int)).map j0:=by rw[L0];rfl
  rw[el]
  have n1:=Nice.ints (us.map λ_=>(1:Int))
  have n2:=Nice.ints []
  have es:same (.list ((us.map λ_=>(1:Int)).map j0)) (.list [])=inB lo p hi:=by
   have e1:same (.list ((us.map λ_=>(1:Int)).map j0)) (.list [])=decide (us=[]):=by
    cases us<;>simp[same,sameAll]
   rw[e1]
   cases hb:inB lo p hi with
   | true=>exact decide_eq_true (eo.mpr hb)
   | false=>exact decide_eq_false λz=>by rw[eo.mp z]at hb;cases hb
  have em:SeqAt.noMix (.list ((us.map λ_=>(1:Int)).map j0)) (.list [])=true:=by
   cases us<;>simp[SeqAt.noMix,SeqAt.noMixAll]
  rw[<- es]at q
  exact ⟨n1.p,n2.p,n1.sh (by decide),n2.sh (by decide),em,q _⟩
structure CalsOn(P:Program)(w:World)(K:u0)(mg:Str->Option Value)(base:Heap):Prop where
 law_has:Cal P w K mg base 1 "_law_has" ["_law_box_here","_law_place"] (conSp K cHas)
noncomputable def dhB(p:List Int):PyData->Bool
 | .tuple [.tuple a,.tuple b]=>inB (a.map unI) p (b.map unI)
 | _=>false
theorem dhB_bx(p:List Int)(b:Bxx):dhB p (boxD b)=inB b.1 p b.2:=by
 show inB ((b.1.map j0).map unI) p ((b.2.map j0).map unI)=_
 rw[unI_int,unI_int]
noncomputable def cOn:Con:=λargs Q=>∃sd cl lo hi:List Int,args=[.fz (pdD (rowsP sd cl)),.fz (.list ((cbs sd lo hi).map boxD)),.fz (boxD (lo,hi))]/\Sd sd/\cl.length=(plc sd).length/\Bx lo hi sd/\∀o,Q (.fz (.bool true)) o
theorem scOn:FnScope ["_law_known","_law_told","_law_box_here","_law_place"] ["_law_known","_law_told","_law_box_here"] (defScope (top 29)):=⟨rfl,rfl,rfl,by decide +kernel,rfl,by decide +kernel,by decide +kernel⟩
theorem ok_on{f:Addr}{fd:FuncData}(F:Fun K "_law_once" "_law_once" (top 29) f fd)(T:Txt mg)(C:CalsOn P w K mg base):FnOk P w K mg base CX0 2 f fd ["_law_known","_law_told","_law_box_here"] (conSp K cOn):=by
 have S:=scOn
 refine wfn F S (λcdv A outer s H E hr=>(s_cons (s_for [3] PassesOwn.never rfl (i_keys (wn 0)) (g_name (i:=3) S.nd rfl (Or.inr rfl)) (s_one (s_if (t_cmp ok_ne (op_neE (K:=K) rfl hr.units) (wx (w_callB ok_len (call_lenK (K:=K) rfl) T.len_ PySem.boot_len (wa_cons (wx (w_comp rfl (own:=["_law_one"]) (fr:=[3]) (by kernel_rfl) (i_seq rfl (wv 1)) (λ_ _ _ _=>(g_name (i:=0) (by decide +kernel:Q1 (["_law_one","_law_place"]:List Str)) rfl (Or.inl rfl))) (λ_ _ _ _=>if1 (t_val (w_fn C.law_has (hr.mono (by first|decide|omega)) (wa_cons (wn 0) (wa_cons (wn 1) wa_nil))))) (λ_ _ _ _=>(wv 0)))) wa_nil))) (wx (w_callT ok_int call_int1 T.int_ boot_int (wa_cons (wx (w_fn C.law_has (hr.mono (by first|decide|omega)) (wa_cons (wn 2) (wa_cons (wn 3) wa_nil)))) wa_nil)))) (s_one (s_ret w_bl)) s_nil)))
     (s_one (s_ret w_bl)))) ?_ ?_
 ·rintro args Qd ⟨sd,cl,lo,hi,rfl,_⟩;rfl
 ·rintro args Qd ⟨sd,cl,lo,hi,rfl,hsd,hcl,hbx,q⟩
  refine ⟨noOw_of rfl,?_⟩
  have h3:=hsd.l3
  have hbl:=bx_len hbx
  have hlen:(cbs sd lo hi).length<=120:=by unfold cbs;rw[(srtL_perm _ _).length_eq];exact cb0_len hsd hbx
  with_reducible refine cutS (λρ=>ρ=[some (.fz (pdD (rowsP sd cl))),some (.fz (.list ((cbs sd lo hi).map boxD))),some (.fz (boxD (lo,hi))),none]) ?_ ?_
  ·intro N hN
   refine (?_:dLoopC _ _ _ _ (firsts ((rowsP sd cl).map λp=>.tuple [tI p.1,p.2])) _)
   have er:firsts ((rowsP sd cl).map λp=>.tuple [tI p.1,p.2])=(plc sd).map tupD:=by
    rw[firsts_pd]
    unfold rowsP
    rw[L0]
    have e:((λp:List Int×PyData=>tI p.1) ∘ λr:List Int×Int=>(r.1,j0 r.2))=tupD ∘ Prod.fst:=rfl
    first|rw[e]|skip
    rw[<- L0,t7 (by omega)]
   rw[er]
   refine loopC (λrest ρ=>∃dn rs:List (List Int),plc sd=dn++rs/\rest=rs.map tupD/\ρ=[some (.fz (pdD (rowsP sd cl))),some (.fz (.list ((cbs sd lo hi).map boxD))),some (.fz (boxD (lo,hi))),none]) ?_ ?_ ⟨[],plc sd,rfl,rfl,rfl⟩
   ·rintro d ds ρ ⟨dn,rs,ez,es,rfl⟩ M hM
    cases rs with
    | nil=>cases es
    | cons p rs =>
     cases es
     have hp:p∈plc sd:=by rw[ez];simp
     have hpl:=wi_len (plc_wi hp)
     have honce:=cb_once hbx (xs:=p) hpl
     have hM':=hM _ ⟨dn++[p],rs,by rw[ez];simp,rfl,rfl⟩
     clear hM
     have hb3:∀b∈cbs sd lo hi,b.1.length<=3:=λb hb=>by
      have:=bx_len (hbs_bx hsd.p (cb_in hbx hb))
      omega
     generalize cbs sd lo hi=L at hlen honce hM' hb3
     with_reducible refine gnC rfl ?_
     refine ⟨by rw[i0];exact le_size (by omega),filC (dhB p) id ?_ ?_⟩
     ·intro d hd N' M' hN' hM'
      obtain⟨b,hb,rfl⟩:=J0.mp hd
      rw[dhB_bx]at hN' hM'
      refine ⟨b.1,b.2,p,rfl,hb3 b hb,λo=>?_⟩
      cases z:inB b.1 p b.2 with
      | true=>exact hN' z
      | false=>exact hM' z
     have ef:(((L.map boxD).filter (dhB p)).map id).length=if inB lo p hi=true then 1 else 0:=by
      rw[i0,<- List.countP_eq_length_filter,E8]
      have e:(dhB p ∘ boxD)=λb:Bxx=>inB b.1 p b.2:=by funext b;exact dhB_bx p b
      rw[e]
      exact honce
     refine ⟨lo,hi,p,rfl,by omega,λo=>?_⟩
     have e9:(((((L.map boxD).filter (dhB p)).map id).length:Nat):Int)=if inB lo p hi then 1 else 0:=by
      rw[ef]
      cases inB lo p hi<;>rfl
     exact ite2 (λh=>absurd (show (!decide ((((((L.map boxD).filter (dhB p)).map id).length:Nat):Int)=if inB lo p hi then 1 else 0))=true from h) (by rw[decide_eq_true e9];decide)) (λ_=>hM')
   ·rintro ρ ⟨dn,rs,ez,es,rfl⟩
    cases rs with
    | cons _ _=>cases es
    | nil=>exact hN _ rfl
  rintro _ rfl
  exact q _
end
theorem bx_all:∀{sd:List Int},(∀c∈sd,1<=c)->Bx (sd.map λ_=>0) (sd.map λs=>s - 1) sd
 | [],_=>trivial
 | s :: sd,h=>by
  have h1:=h s B0
  exact ⟨⟨by show (0:Int)<=0;decide,by show (0:Int)<=s - 1;omega,by show s - 1 < s;omega⟩,bx_all λc hc=>h c (A0 _ hc)⟩
theorem wi_bx:∀{lo sd:List Int},Wi lo sd->Bx lo lo sd
 | [],[],_=>trivial
 | x :: lo,s :: sd,h=>⟨⟨h.1.1,Y5 _,h.1.2⟩,wi_bx h.2⟩
 | [],_ :: _,h=>h.elim
 | _ :: _,[],h=>h.elim
theorem wiS:∀{lo dn:List Int}{x s:Int},Wi lo dn->0<=x->x < s->Wi (lo++[x]) (dn++[s])
 | [],[],_,_,_,h1,h2=>⟨⟨h1,h2⟩,trivial⟩
 | y :: lo,t :: dn,_,_,h,h1,h2=>⟨h.1,wiS h.2 h1 h2⟩
 | [],_ :: _,_,_,h,_,_=>h.elim
 | _ :: _,[],_,_,h,_,_=>h.elim
noncomputable def fZ0:PyData->PyData
 | _=>.int 0
noncomputable def fM1:PyData->PyData
 | .int s=>.int (s - 1)
 | _=>.none
theorem bx_wi:∀{lo hi sd:List Int},Bx lo hi sd->Wi lo sd
 | [],[],[],_=>trivial
 | a :: lo,b :: hi,s :: sd,h=>⟨⟨h.1.1,by have:=h.1;omega⟩,bx_wi h.2⟩
 | [],[],_ :: _,h=>h.elim
 | [],_ :: _,z,h=>by cases z<;>exact h.elim
 | _ :: _,[],z,h=>by cases z<;>exact h.elim
 | _ :: _,_ :: _,[],h=>h.elim
theorem nice_b2(b:Bxx):Nice 2 (boxD b):=.tuple λd hd=>by
 have hd:d=tupD b.1\/d=tupD b.2:=by simpa using hd
 rcases hd with rfl|rfl
 ·exact Nice.tup _
 ·exact Nice.tup _
theorem ne_self_{s:Str}:(!decide (s=s))=false:=by simp
theorem sh_int{c:Int}(h:c.natAbs < 10 ^ 32):(j0 c).shown.length<=33/\(j0 c).showable=true :=
 ⟨shown_int (k:=32) (by decide) h,showable_int (k:=140) (P0 h (by decide)) (by decide)⟩
theorem sh_tup{l:List Int}(h:∀c∈l,c.natAbs < 10 ^ 32):(tupD l).shown.length<=l.length * 35+3/\(tupD l).showable=true:=by
 refine ⟨?_,L3.showableAll_of λd hd=>?_⟩
 ·have h2:=shown_tuple (l:=l.map j0) (b:=33) λd hd=>by
   obtain⟨c,hc,rfl⟩:=J0.mp hd
   exact (sh_int (h c hc)).1
  rw[i0]at h2
  exact X0 h2 (by omega)
 ·obtain⟨c,hc,rfl⟩:=J0.mp hd
  exact (sh_int (h c hc)).2
theorem sh_two{a b:PyData}{n:Nat}(ha:a.shown.length<=n/\a.showable=true)(hb:b.shown.length<=n/\b.showable=true):(S0 [a,b]).shown.length<=2 * n+7/\(S0 [a,b]).showable=true:=by
 refine ⟨?_,L3.showableAll_of λd hd=>?_⟩
 ·have h2:=shown_tuple (l:=[a,b]) (b:=n) λd hd=>by
   simp only[Y0,V5,or_false]at hd
   rcases hd with rfl|rfl
   ·exact ha.1
   ·exact hb.1
  exact X0 h2 (by simp only[V1,B5];omega)
 ·simp only[Y0,V5,or_false]at hd
  rcases hd with rfl|rfl
  ·exact ha.2
  ·exact hb.2
noncomputable def Sm(cl:List Int):Prop:=∀c∈cl,c.natAbs<=10 ^ 28
theorem big_sm{cl:List Int}(h:∀c∈cl,Big c):Sm cl:=λc hc=>by
 obtain⟨h1,h2⟩:=h c hc
 omega
theorem sum_abs{B:Nat}:∀{l:List Int},(∀x∈l,x.natAbs<=B)->l.sum.natAbs<=l.length * B
 | [],_=>by simp
 | x :: l,h=>by
  have h1:=h x B0
  have h2:=sum_abs (l:=l) λy hy=>h y (A0 _ hy)
  rw[j6,V1,K7]
  omega
theorem tl_small{sd cl:List Int}(hsd:Sd sd)(hl:cl.length=(plc sd).length)(hB:Sm cl){b:Bxx}(hb:Bx b.1 b.2 sd):∀c∈tlB sd cl b,c.natAbs < 10 ^ 32:=by
 have hc:∀x∈cels sd cl b.1 b.2,x.natAbs<=10 ^ 28:=λx hx=>by
  obtain⟨p,hp,rfl⟩:=J0.mp hx
  have hw:=btw_wi hb hp
  have hi:=idx_nn hw
  have hpl:=plc_len hsd.p
  have hlt:(idx sd p).toNat < cl.length:=by omega
  unfold cel
  rw[Q3,O0 hlt]
  exact hB _ (i4 _)
 have hlen:(cels sd cl b.1 b.2).length<=120:=by
  have h1:=(bx_lenP hb).1
  have h2:=hsd.m
  have e:(cels sd cl b.1 b.2).length=lenP ((b.1.zip b.2).map λq=>rng2 q.1 q.2):=by
   unfold cels btw
   rw[i0,eachA_len]
   simp
  omega
 have hs:=sum_abs hc
 have hne:=cels_ne (cl:=cl) hb
 have hm:=hc _ (mnL_spec hne).1
 have hx:=hc _ (mxL_spec hne).1
 have hm2:=Nat.mul_le_mul_right (10 ^ 28) hlen
 intro c hc'
 have hc':c∈[(cels sd cl b.1 b.2).sum,mnL (cels sd cl b.1 b.2),mxL (cels sd cl b.1 b.2)]:=hc'
 simp only[Y0,V5,or_false]at hc'
 have e:(10:Nat) ^ 32=10000 * 10 ^ 28:=by decide
 rcases hc' with rfl|rfl|rfl<;>omega
theorem bx_small{lo hi sd:List Int}(hsd:Sd sd)(h:Bx lo hi sd):(∀c∈lo,c.natAbs < 10 ^ 32)/\∀c∈hi,c.natAbs < 10 ^ 32:=by
 have hbl:=bx_len h
 have hm:=hsd.m
 have hpr:=bx_pair h
 have key:∀i:Nat,∀a c:Int,lo[i]?=some a->hi[i]?=some c->0<=a/\a<=c/\c < 120:=λi a c ha hc=>by
  obtain⟨p1,p2,s,hs,p3⟩:=hpr (a,c) (by
    have:(lo.zip hi)[i]?=some (a,c):=by rw[j5];exact ⟨ha,hc⟩
    exact S2 this)
  have:=le_prodI hsd.p s hs
  simp only at p1 p2 p3
  omega
 have e:(120:Nat) < 10 ^ 32:=by decide
 constructor
 ·intro c hc
  obtain⟨i,hi'⟩:=i5.mp hc
  have hlt:=(W0.mp hi').1
  have:=key i c _ hi' (O0 (by omega))
  omega
 ·intro c hc
  obtain⟨i,hi'⟩:=i5.mp hc
  have hlt:=(W0.mp hi').1
  have:=key i _ c (O0 (by omega)) hi'
  omega
theorem en_sh{sd cl:List Int}(hsd:Sd sd)(hl:cl.length=(plc sd).length)(hB:Sm cl){b:Bxx}(hb:b∈hbs sd):(enX sd cl b).shown.length<=600/\(enX sd cl b).showable=true:=by
 have hbx:=hbs_bx hsd.p hb
 have hbl:=bx_len hbx
 have h3:=hsd.l3
 obtain⟨s1,s2⟩:=bx_small hsd hbx
 have t1:=sh_tup s1
 have t2:=sh_tup s2
 have t3:=sh_tup (tl_small hsd hl hB hbx)
 have e3:(tlB sd cl b).length=3:=rfl
 rw[e3]at t3
 have tb:=sh_two (a:=tupD b.1) (b:=tupD b.2) (n:=110) ⟨by omega,t1.2⟩ ⟨by omega,t2.2⟩
 have te:=sh_two (a:=boxD b) (b:=tupD (tlB sd cl b)) (n:=230) ⟨by have:=tb.1;exact X0 this (by omega),tb.2⟩ ⟨by omega,t3.2⟩
 exact ⟨X0 te.1 (by omega),te.2⟩
theorem nice_en(sd cl:List Int):Nice 4 (.list ((hbs sd).map (enX sd cl))):=.list λd hd=>by
 obtain⟨b,_,rfl⟩:=J0.mp hd
 refine .tuple λd hd=>?_
 have hd:d=boxD b\/d=tupD (tlB sd cl b):=by simpa using hd
 rcases hd with rfl|rfl
 ·exact nice_b2 b
 ·exact (Nice.tup _).mono (by decide)
theorem du_sh{sd cl:List Int}(hsd:Sd sd)(hl:cl.length=(plc sd).length)(hB:Sm cl):(B1 ((hbs sd).map (enX sd cl))).showable=true/\(B1 ((hbs sd).map (enX sd cl))).shown.length<=sizeLine:=by
 have hlen:=hbs_len hsd
 refine ⟨L3.showableAll_of λd hd=>?_,?_⟩
 ·obtain⟨b,hb,rfl⟩:=J0.mp hd
  exact (en_sh hsd hl hB hb).2
 ·have h2:=shown_list (l:=(hbs sd).map (enX sd cl)) (b:=600) λd hd=>by
   obtain⟨b,hb,rfl⟩:=J0.mp hd
   exact (en_sh hsd hl hB hb).1
  rw[i0]at h2
  exact X0 h2 (X0 (show _<=600000 by omega) (by decide))
noncomputable def reC(k:List Int)(v:Int)(ps:List (List Int))(cs:List Int):List Int:=(ps.zip cs).map λr=>if r.1=k then v else r.2
theorem re_rows(k:List Int)(v:Int):∀(ps:List (List Int)) (cs:List Int),((ps.zip cs).map λr=>(r.1,j0 r.2)).map (λx=>if x.1=k then (x.1,j0 v) else x)=(ps.zip (reC k v ps cs)).map λr=>(r.1,j0 r.2)
 | [],_=>by simp
 | _ :: _,[]=>by simp[reC]
 | p :: ps,c :: cs=>by
  have ih:=re_rows k v ps cs
  show (if p=k then (p,j0 v) else (p,j0 c)) :: _=(p,j0 (if p=k then v else c)) :: _
  have ih':G5 (λx:List Int×PyData=>if x.1=k then (x.1,j0 v) else x) (G5 (λr:List Int×Int=>(r.1,j0 r.2)) (q9 Prod.mk ps cs))=G5 (λr:List Int×Int=>(r.1,j0 r.2)) (q9 Prod.mk ps (G5 (λr:List Int×Int=>if r.1=k then v else r.2) (q9 Prod.mk ps cs))):=ih
  rw[ih']
  by_cases e:p=k
  ·rw[if_pos e,if_pos e]
  ·rw[if_neg e,if_neg e]
theorem re_put{sd cl k:List Int}(v:Int)(hl:cl.length=(plc sd).length)(hk:k∈plc sd):putPs (rowsP sd cl) k (.int v)=rowsP sd (reC k v (plc sd) cl):=by
 unfold putPs
 have e:(rowsP sd cl).map (·.1)=plc sd:=by
  unfold rowsP
  rw[L0]
  show ((plc sd).zip cl).map (λr=>r.1)=_
  exact t7 (by omega)
 rw[e,if_pos hk]
 exact re_rows k v _ _
theorem re_len{sd cl k:List Int}{v:Int}(hl:cl.length=(plc sd).length):(reC k v (plc sd) cl).length=(plc sd).length:=by unfold reC;rw[i0,Y1];omega
theorem re_sm{sd cl k:List Int}{v:Int}(hB:Sm cl)(hv:v.natAbs<=10 ^ 28):Sm (reC k v (plc sd) cl):=λc hc=>by
 obtain⟨r,hr,rfl⟩:=J0.mp hc
 split
 ·exact hv
 ·exact hB _ (y7 hr).2
theorem noMut_en(sd cl:List Int):∀l:List Bxx,noMutAll (l.map (enX sd cl))=true
 | []=>rfl
 | b :: l=>by
  show (noMut (enX sd cl b)&&noMutAll (l.map (enX sd cl)))=true
  rw[noMut_en sd cl l,Bool.and_true]
  show ((noMutAll (b.1.map j0)&&(noMutAll (b.2.map j0)&&true))&&(noMutAll ((tlB sd cl b).map j0)&&true))=true
  rw[noMutAll_ints,noMutAll_ints,noMutAll_ints]
  rfl
theorem bx_low{lo hi sd:List Int}(h:Bx lo hi sd):lo∈plc sd:=wi_mem (bx_wi h)
theorem row_at{sd cl k:List Int}(hl:cl.length=(plc sd).length)(hk:k∈plc sd):∃c∈cl,(k,j0 c)∈rowsP sd cl:=by
 obtain⟨i,hi,rfl⟩:=R8.mp hk
 have hz:i < ((plc sd).zip cl).length:=by rw[Y1];omega
 refine ⟨cl[i]'(by omega),i4 _,J0.mpr ⟨((plc sd)[i],cl[i]'(by omega)),?_,rfl⟩⟩
 rw[<- j7 (h:=hz)]
 exact i4 _
theorem mm_sh{sd cl:List Int}(hsd:Sd sd)(hl:cl.length=(plc sd).length)(hB:Sm cl){b:Bxx}(hb:Bx b.1 b.2 sd):(tupD (tlB sd cl b)).showable=true/\(tupD (tlB sd cl b)).shown.length<=sizeLine:=by
 have t:=sh_tup (tl_small hsd hl hB hb)
 have e3:(tlB sd cl b).length=3:=rfl
 rw[e3]at t
 exact ⟨t.2,X0 t.1 (by decide)⟩
section
variable {P:Program}{w:World}{K:u0}{mg:Str->Option Value}{base:Heap}
noncomputable def cBox:Con:=λargs Q=>∃(ns:List Int) (k l:Int) (sd:List Int),args=[.io (penD ns k l),.fz (tupD sd)]/\0<=k/\0<=l/\Sd sd /\
 ∀(lo hi:List Int) (k' l':Int) (o:Ev),Bx lo hi sd->0<=k'->0<=l'->Q (.fz (boxD (lo,hi))) (some (.io (penD ns k' l')) :: o)
theorem scBox:FnScope ["_law_pen_here","_law_sides_here","_law_way","_law_low","_law_high"] ["_law_pen_here","_law_sides_here"] (defScope (top 20)):=⟨rfl,rfl,rfl,by decide +kernel,rfl,by decide +kernel,by decide +kernel⟩
theorem ok_box{f:Addr}{fd:FuncData}(F:Fun K "_law_box" "_law_box" (top 20) f fd)(T:Txt mg)(C:CalsB P w K mg base):FnOk P w K mg base CX0 2 f fd ["_law_pen_here","_law_sides_here"] (conSp K cBox):=by
 have S:=scBox
 refine wfn F S (λcdv A outer s H E hr=>(s_cons (s_set (i:=2) S.nd rfl (Or.inl rfl) (w_fnI C.law_take (hr.mono (by first|decide|omega)) (wa_cons (wn 0) (wa_cons (wx w_int) wa_nil))))
     (s_cons (s_if (t_cmp ok_eq (op_eqE (K:=K) rfl hr.units) (wn 2) (wx w_int)) (s_one (s_ret (w_tup (wa_cons (wx (w_callT ok_tuple (call_tupleK (K:=K) rfl) T.tuple_ boot_tuple (wa_cons (wx (w_comp rfl (own:=["_law_side"]) (fr:=[]) (by kernel_rfl) (i_seq rfl (wv 1)) (λ_ _ _ _=>(g_name (i:=0) (by decide +kernel:Q1 (["_law_side"]:List Str)) rfl (Or.inl rfl))) (λ_ _ _ _=>if0) (λ_ _ _ _=>w_int))) wa_nil))) (wa_cons (wx (w_callT ok_tuple (call_tupleK (K:=K) rfl) T.tuple_ boot_tuple (wa_cons (wx (w_comp rfl (own:=["_law_side"]) (fr:=[]) (by kernel_rfl) (i_seq rfl (wv 1)) (λ_ _ _ _=>(g_name (i:=0) (by decide +kernel:Q1 (["_law_side"]:List Str)) rfl (Or.inl rfl))) (λ_ _ _ _=>if0) (λ_ _ _ _=>(w_bin ok_sub op_sub (wn 0) (wx w_int))))) wa_nil))) wa_nil))))) s_nil)
     (s_cons (s_setC (i:=3) S.nd rfl rfl rfl (own:=["_law_side"]) (fr:=[0]) (by kernel_rfl) (i_seq rfl (wv 1)) (λ_ _ _ _=>(g_name (i:=0) (by decide +kernel:Q1 (["_law_side","_law_pen_here"]:List Str)) rfl (Or.inl rfl))) (λ_ _ _ _=>if0) (λ_ _ _ _=>(w_fnI C.law_take (hr.mono (by first|decide|omega)) (wa_cons (wn 1) (wa_cons (wn 0) wa_nil)))))
     (s_cons (s_if (t_cmp ok_eq (op_eqE (K:=K) rfl hr.units) (wn 2) (wx w_int)) (s_one (s_ret (w_tup (wa_cons (wx (w_callT ok_tuple (call_tupleK (K:=K) rfl) T.tuple_ boot_tuple (wa_cons (wn 3) wa_nil))) (wa_cons (wx (w_callT ok_tuple (call_tupleK (K:=K) rfl) T.tuple_ boot_tuple (wa_cons (wn 3) wa_nil))) wa_nil))))) s_nil)
     (s_cons (s_setC (i:=4) S.nd rfl rfl rfl (own:=["_law_a","_law_side"]) (fr:=[0]) (by kernel_rfl) (i_zip2 rfl T.zip_ (wa_cons (wx (wv 3)) (wa_cons (wx (wv 1)) wa_nil))) (λ_ _ _ _=>(g_tup rfl rfl (gs_cons (g_name (i:=0) (by decide +kernel:Q1 (["_law_a","_law_side","_law_pen_here"]:List Str)) rfl (Or.inl rfl)) (gs_cons (g_name (i:=1) (by decide +kernel:Q1 (["_law_a","_law_side","_law_pen_here"]:List Str)) rfl (Or.inl rfl)) gs_nil)))) (λ_ _ _ _=>if0) (λ_ _ _ _=>(w_bin ok_add op_addD (wn 0) (wx (w_fnI C.law_take (hr.mono (by first|decide|omega)) (wa_cons (wn 2) (wa_cons (wx (w_bin ok_sub op_sub (wn 1) (wn 0))) wa_nil)))))))
     (s_one (s_ret (w_tup (wa_cons (wx (w_callT ok_tuple (call_tupleK (K:=K) rfl) T.tuple_ boot_tuple (wa_cons (wn 3) wa_nil))) (wa_cons (wx (w_callT ok_tuple (call_tupleK (K:=K) rfl) T.tuple_ boot_tuple (wa_cons (wn 4) wa_nil))) wa_nil))))))))))) ?_ ?_
 ·rintro args Qd ⟨ns,k,l,sd,rfl,_⟩;rfl
 ·rintro args Qd ⟨ns,k,l,sd,rfl,hk,hl,hsd,q⟩
  have h3:=hsd.l3
  have hm:=hsd.m
  refine ⟨noOw_of rfl,?_⟩
  with_reducible refine cutS (λρ=>∃(r k1 l1:Int),0<=k1/\0<=l1/\ρ=[some (.io (penD ns k1 l1)),some (.fz (tupD sd)),some (.fz (.int r)),none,none]) ?_ ?_
  ·intro N hN
   exact ⟨ns,k,l,6,rfl,hk,hl,by decide,by decide,λr k1 l1 _ r0 r1 hk1 hl1=>hN _ ⟨r,k1,l1,hk1,hl1,rfl⟩⟩
  rintro _ ⟨r,k1,l1,hk1,hl1,rfl⟩
  with_reducible refine cutS (λρ=>ρ=[some (.io (penD ns k1 l1)),some (.fz (tupD sd)),some (.fz (.int r)),none,none]) ?_ ?_
  ·intro N hN
   refine ite2 (λh=>?_) (λh=>hN _ rfl)
   refine ⟨le_size (by rw[i0];omega),mapC fZ0 (λd hd N' hN'=>hN') ?_⟩
   refine ⟨le_size (by rw[i0];omega),mapC fM1 (λd hd N' hN'=>?_) ?_⟩
   ·obtain⟨s,_,rfl⟩:=J0.mp hd
    exact hN'
   have e1:(sd.map j0).map fZ0=(sd.map λ_=>(0:Int)).map j0:=by rw[L0,L0];rfl
   have e2:(sd.map j0).map fM1=(sd.map λs=>s - 1).map j0:=by rw[L0,L0];rfl
   rw[e1,e2]
   exact q (sd.map λ_=>0) (sd.map λs=>s - 1) k1 l1 _ (bx_all hsd.p) hk1 hl1
  rintro _ rfl
  with_reducible refine cutS (λρ=>∃(lo:List Int) (k2 l2:Int),Wi lo sd/\0<=k2/\0<=l2/\ρ=[some (.io (penD ns k2 l2)),some (.fz (tupD sd)),some (.fz (.int r)),some (.ow (.list (lo.map j0))),none]) ?_ ?_
  ·intro N hN
   refine ⟨le_size (by rw[i0];omega),compN (λrest acc τ=>∃(dn rs lo:List Int) (k4 l4:Int),sd=dn++rs/\rest=rs.map j0/\acc=lo.map j0/\Wi lo dn/\τ=[none,some (.io (penD ns k4 l4))]/\0<=k4/\0<=l4) ?_ ?_ ⟨[],sd,[],k1,l1,rfl,rfl,rfl,trivial,rfl,hk1,hl1⟩⟩
   ·rintro d ds acc τ ⟨dn,rs,lo,k4,l4,em,er,rfl,hw,rfl,hk4,hl4⟩ N' hN'
    cases rs with
    | nil=>cases er
    | cons s rs =>
     cases er
     have hs1:=hsd.p s (by rw[em];simp)
     have hs2:=le_prodI hsd.p s (by rw[em];simp)
     refine ⟨ns,k4,l4,s,rfl,hk4,hl4,by omega,by omega,λx k5 l5 _ x0 x1 hk5 hl5=>?_⟩
     exact hN' _ _ ⟨dn++[s],rs,lo++[x],k5,l5,by rw[em];simp,rfl,by simp[Sl.d],wiS hw x0 x1,rfl,hk5,hl5⟩
   ·rintro acc τ ⟨dn,rs,lo,k4,l4,em,er,rfl,hw,rfl,hk4,hl4⟩
    cases rs with
    | cons _ _=>cases er
    | nil =>
     rw[K1]at em
     subst em
     exact hN _ ⟨lo,k4,l4,hw,hk4,hl4,rfl⟩
  rintro _ ⟨lo,k2,l2,hw,hk2,hl2,rfl⟩
  have hwl:=wi_len hw
  with_reducible refine cutS (λρ=>ρ=[some (.io (penD ns k2 l2)),some (.fz (tupD sd)),some (.fz (.int r)),some (.ow (.list (lo.map j0))),none]) ?_ ?_
  ·intro N hN
   refine ite2 (λh=>?_) (λh=>hN _ rfl)
   exact q lo lo k2 l2 _ (wi_bx hw) hk2 hl2
  rintro _ rfl
  with_reducible refine cutS (λρ=>∃(hi:List Int) (k2 l2:Int),Bx lo hi sd/\0<=k2/\0<=l2/\ρ=[some (.io (penD ns k2 l2)),some (.fz (tupD sd)),some (.fz (.int r)),some (.fz (.list (lo.map j0))),some (.ow (.list (hi.map j0)))]) ?_ ?_
  ·intro N hN
   have hz:=zipD_ints lo sd
   refine ⟨by rw[hz,i0,Y1];exact le_size (by omega),?_⟩
   rw[hz]
   refine compN (λrest acc τ=>∃(dl ds rl rs hi:List Int) (k4 l4:Int),lo=dl++rl/\sd=ds++rs/\Wi rl rs/\rest=((rl.zip rs).map λq=>S0 [.int q.1,.int q.2])/\acc=hi.map j0/\Bx dl hi ds/\τ=[none,none,some (.io (penD ns k4 l4))]/\0<=k4/\0<=l4) ?_ ?_ ⟨[],[],lo,sd,[],k2,l2,rfl,rfl,hw,rfl,rfl,trivial,rfl,hk2,hl2⟩
   ·rintro d dds acc τ ⟨dl,ds,rl,rs,hi,k4,l4,el,es,hwr,er,rfl,hbx,rfl,hk4,hl4⟩ N' hN'
    cases rl with
    | nil=>simp at er
    | cons x rl =>
     cases rs with
     | nil=>simp at er
     | cons s rs =>
      cases er
      have hx:=hwr.1
      have hs2:=le_prodI hsd.p s (by rw[es];simp)
      refine ⟨rfl,ns,k4,l4,s - x,rfl,hk4,hl4,by omega,by omega,λy k5 l5 _ y0 y1 hk5 hl5=>?_⟩
      exact hN' _ _ ⟨dl++[x],ds++[s],rl,rs,hi++[x+y],k5,l5,by rw[el];simp,by rw[es];simp,hwr.2,rfl,by simp[Sl.d],bx_snoc hbx hx.1 (by omega) (by omega),rfl,hk5,hl5⟩
   ·rintro acc τ ⟨dl,ds,rl,rs,hi,k4,l4,el,es,hwr,er,rfl,hbx,rfl,hk4,hl4⟩
    cases rl with
    | cons x rl =>
     cases rs with
     | nil=>exact hwr.elim
     | cons s rs=>simp at er
    | nil =>
     cases rs with
     | cons s rs=>exact hwr.elim
     | nil =>
      rw[K1]at el es
      subst el
      subst es
      exact hN _ ⟨hi,k4,l4,hbx,hk4,hl4,rfl⟩
  rintro _ ⟨hi,k4,l4,hbx,hk4,hl4,rfl⟩
  exact q lo hi k4 l4 _ hbx hk4 hl4
noncomputable def cSame:Con:=λargs Q=>∃(n:Nat) (d:PyData),args=[.fz d,.fz d]/\Nice n d/\n<=60/\d.showable=true/\d.shown.length<=sizeLine/\((∃l,d=.list l)\/∃l,d=.tuple l)/\∀o,Q (.fz (.bool true)) o
theorem scSame:FnScope ["_law_found","_law_due_here"] ["_law_found","_law_due_here"] (defScope (top 22)):=⟨rfl,rfl,rfl,by decide +kernel,rfl,by decide +kernel,by decide +kernel⟩
theorem ok_same{f:Addr}{fd:FuncData}(F:Fun K "_law_same" "_law_same" (top 22) f fd)(T:Txt mg):FnOk P w K mg base CX0 1 f fd ["_law_found","_law_due_here"] (conSp K cSame):=by
 have S:=scSame
 refine wfn F S (λcdv A outer s H E hr=>(s_one (s_ret (w_and (w_cmp ok_eq (op_eqE (K:=K) rfl hr.units) (wn 0) (wn 1)) (w_one (w_cmp ok_eq (op_eqE (K:=K) rfl hr.units) (wx (w_callB ok_repr (call_reprK (K:=K) rfl hr) T.repr_ boot_repr (wa_cons (wn 0) wa_nil))) (wx (w_callB ok_repr (call_reprK (K:=K) rfl hr) T.repr_ boot_repr (wa_cons (wn 1) wa_nil))))))))) ?_ ?_
 ·rintro args Qd ⟨n,d,rfl,_⟩;rfl
 ·rintro args Qd ⟨n,d,rfl,nc,hn,hs,hz,hk,q⟩
  refine ⟨noOw_of rfl,?_⟩
  have hd:=nc.d
  have fin:∀o,Qd (.fz (.bool (decide (d.shown=d.shown)))) o:=λo=>by rw[decide_eq_true (rfl:d.shown=d.shown)];exact q o
  rcases hk with⟨l,rfl⟩|⟨l,rfl⟩
  ·refine ⟨nc.p,nc.p,nc.sh (by omega),nc.sh (by omega),noMix_self _ nc.p,?_⟩
   refine ite2 (λh=>?_) (λh=>?_)
   ·exact ⟨nc.p,hs,by show (B1 l).depth+1<=64;omega,hz,nc.p,hs,by show (B1 l).depth+1<=64;omega,hz,fin _⟩
   ·exact absurd (same_self _) h
  ·refine ⟨nc.p,nc.p,nc.sh (by omega),nc.sh (by omega),noMix_self _ nc.p,?_⟩
   refine ite2 (λh=>?_) (λh=>?_)
   ·exact ⟨nc.p,hs,by show (S0 l).depth+1<=64;omega,hz,nc.p,hs,by show (S0 l).depth+1<=64;omega,hz,fin _⟩
   ·exact absurd (same_self _) h
structure CalsRr(P:Program)(w:World)(K:u0)(mg:Str->Option Value)(base:Heap):Prop where
 law_take:Cal P w K mg base 1 "_law_take" ["_law_pen_here","_law_most_here"] (conSp K cTake)
 law_due:Cal P w K mg base 3 "_law_due" ["_law_sides_here","_law_known"] (conSp K cDu)
 law_within:Cal P w K mg base 1 "_law_within" ["_law_known","_law_low","_law_high"] (conSp K cWithin)
 law_same:Cal P w K mg base 1 "_law_same" ["_law_found","_law_due_here"] (conSp K cSame)
 by_halves:Cal P w K mg base 4 "by_halves" ["sides","table","box"] (conSp K cBh)
noncomputable def cRr:Con:=λargs Q=>∃(ns:List Int) (k l:Int) (sd cl lo hi:List Int),args=[.io (penD ns k l),.fz (tupD sd),.io (pdD (rowsP sd cl)),.io (.list ((hbs sd).map (enX sd cl))),.fz (boxD (lo,hi))]/\0<=k/\0<=l/\Sd sd/\cl.length=(plc sd).length/\(∀c∈cl,Big c)/\Bx lo hi sd /\
 ∀(k' l':Int) (e' f':PyData) (x:Option Sl) (o:Ev),0<=k'->0<=l'->Q (.fz (.bool true)) (some (.io (penD ns k' l')) :: x :: some (.io e') :: some (.io f') :: o)
theorem scRr:FnScope ["_law_pen_here","_law_sides_here","_law_known","_law_table","_law_box_here","_law_one","_law_some"] ["_law_pen_here","_law_sides_here","_law_known","_law_table","_law_box_here"] (defScope (top 30)):=⟨rfl,rfl,rfl,by decide +kernel,rfl,by decide +kernel,by decide +kernel⟩
theorem ok_rr{f:Addr}{fd:FuncData}(F:Fun K "_law_refilled_right" "_law_refilled_right" (top 30) f fd)(T:Txt mg)(C:CalsRr P w K mg base):FnOk P w K mg base CX0 5 f fd ["_law_pen_here","_law_sides_here","_law_known","_law_table","_law_box_here"] (conSp K cRr):=by
 have S:=scRr
 refine wfn F S (λcdv A outer s H E hr=>(s_cons (s_keyP (hu_of hr) (wn 2) (wx (w_ix rfl (wn 4) (wx w_int))) (w_bin ok_add op_addD (wx (w_bin ok_add op_addD (wx (w_pget (hu6_of hr) (wn 2) (wx (w_ix rfl (wn 4) (wx w_int))))) (wx w_int))) (wx (w_fnI C.law_take (hr.mono (by first|decide|omega)) (wa_cons (wn 0) (wa_cons (wx w_int) wa_nil))))))
     (s_cons (s_setAll (wn 3) (w_fnL C.law_due (hr.mono (by first|decide|omega)) (wa_cons (wn 1) (wa_cons (wn 2) wa_nil))))
     (s_cons (s_for [5,6] PassesOwn.never rfl (i_seq rfl (w_lst (wa_cons (wx (wv 4)) (wa_cons (wx (w_tup (wa_cons (wx (w_callT ok_tuple (call_tupleK (K:=K) rfl) T.tuple_ boot_tuple (wa_cons (wx (w_comp rfl (own:=["_law_side"]) (fr:=[]) (by kernel_rfl) (i_seq rfl (wv 1)) (λ_ _ _ _=>(g_name (i:=0) (by decide +kernel:Q1 (["_law_side"]:List Str)) rfl (Or.inl rfl))) (λ_ _ _ _=>if0) (λ_ _ _ _=>w_int))) wa_nil))) (wa_cons (wx (w_callT ok_tuple (call_tupleK (K:=K) rfl) T.tuple_ boot_tuple (wa_cons (wx (w_comp rfl (own:=["_law_side"]) (fr:=[]) (by kernel_rfl) (i_seq rfl (wv 1)) (λ_ _ _ _=>(g_name (i:=0) (by decide +kernel:Q1 (["_law_side"]:List Str)) rfl (Or.inl rfl))) (λ_ _ _ _=>if0) (λ_ _ _ _=>(w_bin ok_sub op_sub (wn 0) (wx w_int))))) wa_nil))) wa_nil)))) wa_nil)))) (g_name (i:=5) S.nd rfl (Or.inl rfl)) (s_cons (s_set (i:=6) S.nd rfl (Or.inl rfl) (w_fnL C.law_within (hr.mono (by first|decide|omega)) (wa_cons (wn 2) (wa_cons (wx (w_ix rfl (wn 5) (wx w_int))) (wa_cons (wx (w_ix rfl (wn 5) (wx w_int))) wa_nil)))))
     (s_one (s_if (t_not (t_val (w_fn C.law_same (hr.mono (by first|decide|omega)) (wa_cons (wx (w_fn C.by_halves (hr.mono (by first|decide|omega)) (wa_cons (wn 1) (wa_cons (wn 3) (wa_cons (wn 5) wa_nil))))) (wa_cons (wx (w_tup (wa_cons (wx (w_callB ok_sum (call_sumK (K:=K) rfl rfl) T.sum_ boot_sum (wa_cons (wn 6) wa_nil))) (wa_cons (wx (w_callB ok_mnI (call_mnI (K:=K) rfl rfl) T.min_ boot_min (wa_cons (wn 6) wa_nil))) (wa_cons (wx (w_callB ok_mxI (call_mxI (K:=K) rfl rfl) T.max_ boot_max (wa_cons (wn 6) wa_nil))) wa_nil))))) wa_nil))))) (s_one (s_ret w_bl)) s_nil))))
     (s_one (s_ret w_bl)))))) ?_ ?_
 ·rintro args Qd ⟨ns,k,l,sd,cl,lo,hi,rfl,_⟩;rfl
 ·rintro args Qd ⟨ns,k,l,sd,cl,lo,hi,rfl,hk,hl,hsd,hcl,hB,hbx,q⟩
  refine ⟨noOw_of rfl,?_⟩
  have hlen:=hbs_len hsd
  have hpl:=plc_len hsd.p
  have hm:=hsd.m
  have h3:=hsd.l3
  have hrl:(rowsP sd cl).length<=120:=by unfold rowsP;rw[i0,Y1];omega
  with_reducible refine cutS (λρ=>∃(cm:List Int) (k1 l1:Int),cm.length=(plc sd).length/\Sm cm/\0<=k1/\0<=l1/\ρ=[some (.io (penD ns k1 l1)),some (.fz (tupD sd)),some (.io (pdD (rowsP sd cm))),some (.io (.list ((hbs sd).map (enX sd cl)))),some (.fz (boxD (lo,hi))),none,none]) ?_ ?_
  ·intro N hN
   obtain⟨c,hc,hrow⟩:=row_at hcl (bx_low hbx)
   have hbc:=hB c hc
   refine ⟨_,rfl,rowsP sd cl,lo,.int c,rfl,rfl,hrow,?_⟩
   refine ⟨ns,k,l,_,rfl,hk,hl,by decide,by decide,λa k2 l2 _ a0 a1 hk2 hl2=>?_⟩
   refine ⟨_,rfl,lo,rowsP sd cl,rfl,rfl,rfl,G2 hrl (by decide),?_⟩
   have hv:(c+1+a).natAbs<=10 ^ 28:=by
    obtain⟨b1,b2⟩:=hbc
    omega
   refine hN _ ⟨reC lo (c+1+a) (plc sd) cl,k2,l2,re_len hcl,re_sm (big_sm hB) hv,hk2,hl2,?_⟩
   rw[<- re_put _ hcl (bx_low hbx)]
   rfl
  rintro _ ⟨cm,k1,l1,hcm,hS,hk1,hl1,rfl⟩
  with_reducible refine cutS (λρ=>ρ=[some (.io (penD ns k1 l1)),some (.fz (tupD sd)),some (.io (pdD (rowsP sd cm))),some (.io (.list ((hbs sd).map (enX sd cm)))),some (.fz (boxD (lo,hi))),none,none]) ?_ ?_
  ·intro N hN
   refine ⟨sd,cm,rfl,hsd,hcm,λo=>⟨noMut_en sd cm _,(hbs sd).map (enX sd cl),(hbs sd).map (enX sd cm),rfl,rfl,rfl,?_,hN _ rfl⟩⟩
   rw[i0,i0]
   exact X0 (show _<=40000 by omega) (by decide)
  rintro _ rfl
  have hz0:(sd.map j0).map fZ0=(sd.map λ_=>(0:Int)).map j0:=by rw[L0,L0];rfl
  have hz1:(sd.map j0).map fM1=(sd.map λs=>s - 1).map j0:=by rw[L0,L0];rfl
  have hall:=bx_all hsd.p
  with_reducible refine cutS (λρ=>ρ=[some (.io (penD ns k1 l1)),some (.fz (tupD sd)),some (.io (pdD (rowsP sd cm))),some (.io (.list ((hbs sd).map (enX sd cm)))),some (.fz (boxD (lo,hi))),none,none]) ?_ ?_
  ·intro N hN
   refine ⟨le_size (by rw[i0];omega),mapC fZ0 (λd hd N' hN'=>hN') ?_⟩
   refine ⟨le_size (by rw[i0];omega),mapC fM1 (λd hd N' hN'=>?_) ?_⟩
   ·obtain⟨s,_,rfl⟩:=J0.mp hd
    exact hN'
   rw[hz0,hz1]
   refine (?_:dLoopC _ _ _ _ _ _)
   refine (?_:dLoopC _ _ _ _ ([(lo,hi),(sd.map (λ_=>(0:Int)),sd.map λs=>s - 1)].map boxD) _)
   have hbq:∀b∈[(lo,hi),(sd.map (λ_=>(0:Int)),sd.map λs=>s - 1)],Bx b.1 b.2 sd:=λb hb=>by
    simp only[Y0,V5,or_false]at hb
    rcases hb with rfl|rfl
    ·exact hbx
    ·exact hall
   generalize [(lo,hi),(sd.map (λ_=>(0:Int)),sd.map λs=>s - 1)]=L at hbq ⊢
   refine loopC (λrest ρ=>∃dn rs:List Bxx,L=dn++rs/\rest=rs.map boxD/\ρ=[some (.io (penD ns k1 l1)),some (.fz (tupD sd)),some (.io (pdD (rowsP sd cm))),some (.io (.list ((hbs sd).map (enX sd cm)))),some (.fz (boxD (lo,hi))),none,none]) ?_ ?_ ⟨[],L,rfl,rfl,rfl⟩
   ·rintro d ds ρ ⟨dn,rs,ez,es,rfl⟩ M hM
    cases rs with
    | nil=>cases es
    | cons b rs =>
     cases es
     have hb:=hbq b (by rw[ez];simp)
     have hbl:=bx_len hb
     have hne:=cels_ne (cl:=cm) hb
     have h0:0 < (cels sd cm b.1 b.2).length:=S5.mpr hne
     obtain⟨sM,lM⟩:=mm_sh (b:=b) hsd hcm hS hb
     with_reducible refine gnC rfl ?_
     with_reducible refine cutS (λρ=>ρ=[some (.io (penD ns k1 l1)),some (.fz (tupD sd)),some (.io (pdD (rowsP sd cm))),some (.io (.list ((hbs sd).map (enX sd cm)))),some (.fz (boxD (lo,hi))),some (.fz (boxD b)),some (.ow (.list ((cels sd cm b.1 b.2).map j0)))]) ?_ ?_
     ·intro N2 hN2
      refine ⟨_,rfl,_,rfl,sd,cm,b.1,b.2,rfl,by omega,by omega,λo=>?_⟩
      rw[win_cels hsd.p hcm hb]
      exact ⟨noMutAll_ints _,hN2 _ rfl⟩
     rintro _ rfl
     refine ⟨sd,cm,b.1,b.2,rfl,hsd,hb,λo=>⟨rfl,?_⟩⟩
     refine ⟨cels sd cm b.1 b.2,rfl,cels sd cm b.1 b.2,rfl,h0,λm hm' hmy=>⟨cels sd cm b.1 b.2,rfl,h0,λM2 hM2 hMy=>?_⟩⟩
     rw[mnL_eq hm' hmy,mxL_eq hM2 hMy]
     refine ⟨1,tupD (tlB sd cm b),rfl,Nice.tup _,by decide,sM,lM,.inr ⟨_,rfl⟩,λo=>?_⟩
     exact hM _ ⟨dn++[b],rs,by rw[ez];simp,rfl,rfl⟩
   ·rintro ρ ⟨dn,rs,ez,es,rfl⟩
    cases rs with
    | cons _ _=>cases es
    | nil=>exact hN _ rfl
  rintro _ rfl
  exact q _ _ _ _ _ _ hk1 hl1
end
theorem cb_len{sd lo hi:List Int}(hs:Sd sd)(h:Bx lo hi sd):(cbs sd lo hi).length<=120:=by unfold cbs;rw[(srtL_perm _ _).length_eq];exact cb0_len hs h
theorem cb_lenP{sd lo hi:List Int}:(cbs sd lo hi).length=lenP (cvs sd lo hi):=by
 unfold cbs
 rw[(srtL_perm _ _).length_eq]
 unfold cb0
 rw[i0,eachA_len]
 simp
theorem mt_sh{lo hi sd:List Int}(hsd:Sd sd)(hbx:Bx lo hi sd):Nice 3 (.list ((cbs sd lo hi).map boxD))/\(B1 ((cbs sd lo hi).map boxD)).showable=true/\(B1 ((cbs sd lo hi).map boxD)).shown.length<=sizeLine:=by
 have m3:=cb_len hsd hbx
 have h3:=hsd.l3
 have key:∀b∈cbs sd lo hi,(boxD b).shown.length<=250/\(boxD b).showable=true:=λb hb=>by
  have hp:=hbs_bx hsd.p (cb_in hbx hb)
  have hbl:=bx_len hp
  obtain⟨s1,s2⟩:=bx_small hsd hp
  have t1:=sh_tup s1
  have t2:=sh_tup s2
  have t:=sh_two (a:=tupD b.1) (b:=tupD b.2) (n:=110) ⟨by omega,t1.2⟩ ⟨by omega,t2.2⟩
  exact ⟨X0 t.1 (by decide),t.2⟩
 refine ⟨.list λd hd=>?_,L3.showableAll_of λd hd=>?_,?_⟩
 ·obtain⟨b,_,rfl⟩:=J0.mp hd
  exact nice_b2 b
 ·obtain⟨b,hb,rfl⟩:=J0.mp hd
  exact (key b hb).2
 ·have h2:=shown_list (l:=(cbs sd lo hi).map boxD) (b:=250) λd hd=>by
   obtain⟨b,hb,rfl⟩:=J0.mp hd
   exact (key b hb).1
  rw[i0]at h2
  exact X0 h2 (X0 (show _<=100000 by omega) (by decide))
section
variable {P:Program}{w:World}{K:u0}{mg:Str->Option Value}{base:Heap}
structure CalsL(P:Program)(w:World)(K:u0)(mg:Str->Option Value)(base:Heap):Prop where
 law_pen:Cal P w K mg base 1 "_law_pen" ["_law_script"] (conSp K cPen)
 law_field:Cal P w K mg base 3 "_law_field" ["_law_pen_here"] (conSp K cField)
 law_due:Cal P w K mg base 3 "_law_due" ["_law_sides_here","_law_known"] (conSp K cDu)
 law_box:Cal P w K mg base 2 "_law_box" ["_law_pen_here","_law_sides_here"] (conSp K cBox)
 law_box_cover:Cal P w K mg base 3 "_law_box_cover" ["_law_sides_here","_law_box_here"] (conSp K cLb)
 box_cover:Cal P w K mg base 3 "box_cover" ["sides","box"] (conSp K cBc)
 law_same:Cal P w K mg base 1 "_law_same" ["_law_found","_law_due_here"] (conSp K cSame)
 law_most:Cal P w K mg base 1 "_law_most" ["_law_sides_here"] (conSp K cMo)
 law_once:Cal P w K mg base 2 "_law_once" ["_law_known","_law_told","_law_box_here"] (conSp K cOn)
 law_within:Cal P w K mg base 1 "_law_within" ["_law_known","_law_low","_law_high"] (conSp K cWithin)
 by_halves:Cal P w K mg base 4 "by_halves" ["sides","table","box"] (conSp K cBh)
 law_refilled_right:Cal P w K mg base 5 "_law_refilled_right" ["_law_pen_here","_law_sides_here","_law_known","_law_table","_law_box_here"] (conSp K cRr)
noncomputable def cLaw:Con:=λargs Q=>∃ns:List Int,args=[.fz (scrD ns)]/\ns.length<=63/\∀o,Q (.fz (.bool true)) o
theorem cLaw_sp{K:u0}{H:Hp}{a:Addr}{ns:List Int}(hl:ns.length<=63)(h:SqL K H a (ns.map V.int)):conSp K cLaw [.ref a] H (λv _=>v=.bl true) λ_ _ _=>False:=by
 refine ⟨⟨H,H,λ_=>none⟩,H,[.fz (scrD ns)],λr _=>r=.fz (.bool true),?_,⟨ns,rfl,hl,λ_=>rfl⟩,?_⟩
 ·refine ⟨rfl,Sub.refl _,Sub.refl _,λa o h=>.inl h,λa o h _=>h,?_,?_,?_,?_,?_,?_⟩
  ·intro i d e
   cases i with
   | zero=>cases e;exact ⟨_,rfl,.scr h⟩
   | succ i=>cases e
  ·intro i s e w
   cases i with
   | zero=>cases e;cases w
   | succ i=>cases e
  ·intro i d a e
   cases i with
   | zero=>cases e
   | succ i=>cases e
  ·intro i a e;cases e
  ·intro i d e
   cases i with
   | zero=>cases e
   | succ i=>cases e
  ·intro i j s t a e w
   cases i with
   | zero=>cases e;cases w
   | succ i=>cases e
 ·intro v H' F' r ρ' _ _ hr e
  subst e
  have hr:Da K F' v (.bool true):=hr
  cases hr
  rfl
theorem scLaw:FnScope ["_law_script","_law_pen_here","_law_k","_law_field_here","_law_known","_law_table","_law_kept","_law_turn","_law_box_here","_law_due_here","_law_again","_law_told","_law_some"] ["_law_script"] (defScope (top 31)):=⟨rfl,rfl,rfl,by decide +kernel,rfl,by decide +kernel,by decide +kernel⟩
theorem ok_law{f:Addr}{fd:FuncData}(F:Fun K "law" "law" (top 31) f fd)(T:Txt mg)(C:CalsL P w K mg base):FnOk P w K mg base CX0 6 f fd ["_law_script"] (conSp K cLaw):=by
 have S:=scLaw
 refine wfn F S (λcdv A outer s H E hr=>(s_cons (s_set (i:=1) S.nd rfl (Or.inl rfl) (w_fn C.law_pen (hr.mono (by first|decide|omega)) (wa_cons (wn 0) wa_nil)))
     (s_cons (s_for [2,5,6,7,3,4] PassesOwn.never rfl (i_rng1 T.range_ (wa_cons (wx w_int) wa_nil)) (g_name (i:=2) S.nd rfl (Or.inl rfl)) (s_cons (s_nestD C.law_field (hr.mono (by first|decide|omega)) rfl rfl (wn 1) S.nd (n:=3) (m:=4) rfl rfl (Or.inl rfl) (Or.inl rfl))
     (s_cons (s_set (i:=5) S.nd rfl (Or.inl rfl) (w_fnL C.law_due (hr.mono (by first|decide|omega)) (wa_cons (wx (w_ix rfl (wn 3) (wx w_int))) (wa_cons (wn 4) wa_nil))))
     (s_cons (s_set (i:=6) S.nd rfl (Or.inl rfl) (w_callB ok_repr (call_reprK (K:=K) rfl hr) T.repr_ boot_repr (wa_cons (wn 5) wa_nil)))
     (s_cons (s_for [7,9,10,12] PassesOwn.never rfl (i_rng1 T.range_ (wa_cons (wx w_int) wa_nil)) (g_name (i:=7) S.nd rfl (Or.inl rfl)) (s_cons (s_set (i:=8) S.nd rfl (Or.inl rfl) (w_fnI C.law_box (hr.mono (by first|decide|omega)) (wa_cons (wn 1) (wa_cons (wx (w_ix rfl (wn 3) (wx w_int))) wa_nil))))
     (s_cons (s_set (i:=9) S.nd rfl (Or.inl rfl) (w_fn C.law_box_cover (hr.mono (by first|decide|omega)) (wa_cons (wx (w_ix rfl (wn 3) (wx w_int))) (wa_cons (wn 8) wa_nil))))
     (s_cons (s_for [10,11] PassesOwn.never rfl (i_rng1 T.range_ (wa_cons (wx w_int) wa_nil)) (g_name (i:=10) S.nd rfl (Or.inl rfl)) (s_cons (s_set (i:=11) S.nd rfl (Or.inl rfl) (w_fn C.box_cover (hr.mono (by first|decide|omega)) (wa_cons (wx (w_ix rfl (wn 3) (wx w_int))) (wa_cons (wn 8) wa_nil))))
     (s_cons (s_if (t_w (t_or (t_not (t_val (w_fn C.law_same (hr.mono (by first|decide|omega)) (wa_cons (wn 11) (wa_cons (wn 9) wa_nil))))) (t_or (t_cmp ok_gt op_gt (wx (w_callB ok_len (call_lenK (K:=K) rfl) T.len_ PySem.boot_len (wa_cons (wn 11) wa_nil))) (wx (w_fn C.law_most (hr.mono (by first|decide|omega)) (wa_cons (wx (w_ix rfl (wn 3) (wx w_int))) wa_nil)))) (t_or1 (t_not (t_val (w_fn C.law_once (hr.mono (by first|decide|omega)) (wa_cons (wn 4) (wa_cons (wn 11) (wa_cons (wn 8) wa_nil)))))))))) (s_one (s_ret w_bl)) s_nil)
     (s_one (s_expr (w_m ok_append rfl PySem.F.slot_list_append PySem.F.type_list_append mt_append (wn 11) (wa_cons (wx w_non) wa_nil)))))))
     (s_cons (s_set (i:=12) S.nd rfl (Or.inl rfl) (w_fnL C.law_within (hr.mono (by first|decide|omega)) (wa_cons (wn 4) (wa_cons (wx (w_ix rfl (wn 8) (wx w_int))) (wa_cons (wx (w_ix rfl (wn 8) (wx w_int))) wa_nil)))))
     (s_one (s_if (t_not (t_val (w_fn C.law_same (hr.mono (by first|decide|omega)) (wa_cons (wx (w_fn C.by_halves (hr.mono (by first|decide|omega)) (wa_cons (wx (w_ix rfl (wn 3) (wx w_int))) (wa_cons (wn 5) (wa_cons (wn 8) wa_nil))))) (wa_cons (wx (w_tup (wa_cons (wx (w_callB ok_sum (call_sumK (K:=K) rfl rfl) T.sum_ boot_sum (wa_cons (wn 12) wa_nil))) (wa_cons (wx (w_callB ok_mnI (call_mnI (K:=K) rfl rfl) T.min_ boot_min (wa_cons (wn 12) wa_nil))) (wa_cons (wx (w_callB ok_mxI (call_mxI (K:=K) rfl rfl) T.max_ boot_max (wa_cons (wn 12) wa_nil))) wa_nil))))) wa_nil))))) (s_one (s_ret w_bl)) s_nil)))))))
     (s_one (s_if (t_w (t_or (t_cmp ok_ne (op_neE (K:=K) rfl hr.units) (wx (w_callB ok_repr (call_reprK (K:=K) rfl hr) T.repr_ boot_repr (wa_cons (wn 5) wa_nil))) (wn 6)) (t_or1 (t_not (t_val (w_fn3 C.law_refilled_right (hr.mono (by first|decide|omega)) (wa_cons (wn 1) (wa_cons (wx (w_ix rfl (wn 3) (wx w_int))) (wa_cons (wn 4) (wa_cons (wn 5) (wa_cons (wx (wv 8)) wa_nil))))))))))) (s_one (s_ret w_bl)) s_nil)))))))
     (s_one (s_ret w_bl))))) ?_ ?_
 ·rintro args Qd ⟨ns,rfl,_⟩;rfl
 ·rintro args Qd ⟨ns,rfl,hn,q⟩
  refine ⟨noOw_of rfl,?_⟩
  with_reducible refine cutS (λρ=>ρ=[some (.fz (scrD ns)),some (.ow (penD ns 0 0)),none,none,none,none,none,none,none,none,none,none,none]) ?_ ?_
  ·intro N hN
   exact ⟨ns,rfl,λo=>hN _ rfl⟩
  rintro _ rfl
  with_reducible refine cutS (λρ=>∃(a b:Int) (bo:Option Sl),ρ=[some (.fz (scrD ns)),some (.ow (penD ns a b)),none,none,none,none,none,none,bo,none,none,none,none]) ?_ ?_
  ·intro N0 hN0
   refine ⟨by decide,by decide,?_⟩
   generalize rangeD 0 (3:Int).toNat=L
   refine loopC (λrest ρ=>∃(a b:Int) (bo:Option Sl),0<=a/\0<=b/\(bo=none\/∃z,bo=some (.fz z))/\ρ=[some (.fz (scrD ns)),some (.ow (penD ns a b)),none,none,none,none,none,none,bo,none,none,none,none]) ?_ ?_ ⟨0,0,none,by decide,by decide,.inl rfl,rfl⟩
   ·rintro d ds ρ ⟨a,b,bo,ha,hb,hbo,rfl⟩ N hN
    have nb:∀j,j≠8->True:=λ_ _=>trivial
    with_reducible refine gnC rfl ?_
    with_reducible refine cutS (λρ=>∃(sd cl:List Int) (a b:Int),Sd sd/\cl.length=(plc sd).length/\(∀c∈cl,Big c)/\0<=a/\0<=b/\ρ=[some (.fz (scrD ns)),some (.ow (penD ns a b)),some (.fz d),some (.fz (fldD sd cl)),some (.ow (pdD (rowsP sd cl))),none,none,none,bo,none,none,none,none]) ?_ ?_
    ·intro M hM
     exact ⟨ns,a,b,.ow (penD ns a b),rfl,rfl,rfl,trivial,trivial,by decide,by decide,by decide,ns,a,b,rfl,ha,hb,λsd cl a1 b1 o hsd hcl hB ha1 hb1=>⟨a1,b1,sd,cl,(plc sd).zip cl,rfl,rfl,hM _ ⟨sd,cl,a1,b1,hsd,hcl,hB,ha1,hb1,rfl⟩⟩⟩
    clear ha hb
    rintro _ ⟨sd,cl,a,b,hsd,hcl,hB,ha,hb,rfl⟩
    have hS:=big_sm hB
    obtain⟨sD,lD⟩:=du_sh hsd hcl hS
    have nD:=nice_en sd cl
    have dD:=nD.d
    have h3:=hsd.l3
    have hm:=hsd.m
    have hpl:=plc_len hsd.p
    with_reducible refine cutS (λρ=>ρ=[some (.fz (scrD ns)),some (.ow (penD ns a b)),some (.fz d),some (.fz (fldD sd cl)),some (.ow (pdD (rowsP sd cl))),some (.ow (.list ((hbs sd).map (enX sd cl)))),none,none,bo,none,none,none,none]) ?_ ?_
    ·intro M hM
     exact ⟨_,rfl,sd,cl,rfl,hsd,hcl,λo=>⟨noMut_en sd cl _,hM _ rfl⟩⟩
    rintro _ rfl
    with_reducible refine cutS (λρ=>ρ=[some (.fz (scrD ns)),some (.ow (penD ns a b)),some (.fz d),some (.fz (fldD sd cl)),some (.ow (pdD (rowsP sd cl))),some (.ow (.list ((hbs sd).map (enX sd cl)))),some (.fz (.str (B1 ((hbs sd).map (enX sd cl))).shown)),none,bo,none,none,none,none]) ?_ ?_
    ·intro M hM
     exact ⟨nD.p,sD,by show (B1 ((hbs sd).map (enX sd cl))).depth+1<=64;omega,lD,hM _ rfl⟩
    rintro _ rfl
    with_reducible refine cutS (λρ=>∃(a b:Int) (lo hi:List Int),0<=a/\0<=b/\Bx lo hi sd/\ρ=[some (.fz (scrD ns)),some (.ow (penD ns a b)),some (.fz d),some (.fz (fldD sd cl)),some (.ow (pdD (rowsP sd cl))),some (.ow (.list ((hbs sd).map (enX sd cl)))),some (.fz (.str (B1 ((hbs sd).map (enX sd cl))).shown)),none,some (.fz (boxD (lo,hi))),none,none,none,none]) ?_ ?_
    ·intro N1 hN1
     refine ⟨by decide,by decide,?_⟩
     have hL6:(rangeD 0 (6:Int).toNat).length=6:=by rw[rangeD,i0,Y7];rfl
     generalize rangeD 0 (6:Int).toNat=L6 at hL6 ⊢
     refine loopC (λrest ρ=>∃(a b:Int) (bo:Option Sl),0<=a/\0<=b/\(rest.length=6/\(bo=none\/∃z,bo=some (.fz z))\/∃lo hi,Bx lo hi sd/\bo=some (.fz (boxD (lo,hi))))/\rest.length<=6/\ρ=[some (.fz (scrD ns)),some (.ow (penD ns a b)),some (.fz d),some (.fz (fldD sd cl)),some (.ow (pdD (rowsP sd cl))),some (.ow (.list ((hbs sd).map (enX sd cl)))),some (.fz (.str (B1 ((hbs sd).map (enX sd cl))).shown)),none,bo,none,none,none,none]) ?_ ?_ ⟨a,b,bo,ha,hb,.inl ⟨hL6,hbo⟩,by omega,rfl⟩
     ·clear ha hb hbo
      rintro e es ρ ⟨a,b,bo,ha,hb,hbo,hrl,rfl⟩ N2 hN2
      have hbo:(bo=none\/∃z,bo=some (.fz z)):=by
       rcases hbo with⟨_,h⟩|⟨lo,hi,_,h⟩
       ·exact h
       ·exact .inr ⟨_,h⟩
      with_reducible refine gnC rfl ?_
      with_reducible refine cutS (λρ=>∃(a b:Int) (lo hi:List Int),0<=a/\0<=b/\Bx lo hi sd/\ρ=[some (.fz (scrD ns)),some (.ow (penD ns a b)),some (.fz d),some (.fz (fldD sd cl)),some (.ow (pdD (rowsP sd cl))),some (.ow (.list ((hbs sd).map (enX sd cl)))),some (.fz (.str (B1 ((hbs sd).map (enX sd cl))).shown)),some (.fz e),some (.fz (boxD (lo,hi))),none,none,none,none]) ?_ ?_
      ·intro M hM
       rcases hbo with rfl|⟨z,rfl⟩
       ·exact ⟨_,rfl,ns,a,b,sd,rfl,ha,hb,hsd,λlo hi a1 b1 o hbx ha1 hb1=>hM _ ⟨a1,b1,lo,hi,ha1,hb1,hbx,rfl⟩⟩
       ·exact ⟨_,rfl,ns,a,b,sd,rfl,ha,hb,hsd,λlo hi a1 b1 o hbx ha1 hb1=>hM _ ⟨a1,b1,lo,hi,ha1,hb1,hbx,rfl⟩⟩
      clear ha hb hbo
      rintro _ ⟨a,b,lo,hi,ha,hb,hbx,rfl⟩
      obtain⟨nM,sM,lM⟩:=mt_sh hsd hbx
      have m3:=cb_len hsd hbx
      have hbl:=bx_len hbx
      have hne:=cels_ne (cl:=cl) hbx
      have h0:0 < (cels sd cl lo hi).length:=S5.mpr hne
      obtain⟨sC,lC⟩:=mm_sh (b:=(lo,hi)) hsd hcl hS hbx
      with_reducible refine cutS (λρ=>ρ=[some (.fz (scrD ns)),some (.ow (penD ns a b)),some (.fz d),some (.fz (fldD sd cl)),some (.ow (pdD (rowsP sd cl))),some (.ow (.list ((hbs sd).map (enX sd cl)))),some (.fz (.str (B1 ((hbs sd).map (enX sd cl))).shown)),some (.fz e),some (.fz (boxD (lo,hi))),some (.ow (.list ((cbs sd lo hi).map boxD))),none,none,none]) ?_ ?_
      ·intro M hM
       exact ⟨_,rfl,sd,lo,hi,rfl,hsd,hbx,λo=>hM _ rfl⟩
      rintro _ rfl
      with_reducible refine cutS (λρ=>ρ=[some (.fz (scrD ns)),some (.ow (penD ns a b)),some (.fz d),some (.fz (fldD sd cl)),some (.ow (pdD (rowsP sd cl))),some (.ow (.list ((hbs sd).map (enX sd cl)))),some (.fz (.str (B1 ((hbs sd).map (enX sd cl))).shown)),some (.fz e),some (.fz (boxD (lo,hi))),some (.ow (.list ((cbs sd lo hi).map boxD))),none,none,none]) ?_ ?_
      ·intro N3 hN3
       refine ⟨by decide,by decide,?_⟩
       generalize rangeD 0 (2:Int).toNat=L2
       refine loopC (λrest ρ=>ρ=[some (.fz (scrD ns)),some (.ow (penD ns a b)),some (.fz d),some (.fz (fldD sd cl)),some (.ow (pdD (rowsP sd cl))),some (.ow (.list ((hbs sd).map (enX sd cl)))),some (.fz (.str (B1 ((hbs sd).map (enX sd cl))).shown)),some (.fz e),some (.fz (boxD (lo,hi))),some (.ow (.list ((cbs sd lo hi).map boxD))),none,none,none]) ?_ ?_ rfl
       ·rintro g gs ρ rfl N4 hN4
        with_reducible refine gnC rfl ?_
        with_reducible refine cutS (λρ=>ρ=[some (.fz (scrD ns)),some (.ow (penD ns a b)),some (.fz d),some (.fz (fldD sd cl)),some (.ow (pdD (rowsP sd cl))),some (.ow (.list ((hbs sd).map (enX sd cl)))),some (.fz (.str (B1 ((hbs sd).map (enX sd cl))).shown)),some (.fz e),some (.fz (boxD (lo,hi))),some (.ow (.list ((cbs sd lo hi).map boxD))),some (.fz g),some (.ow (.list ((cbs sd lo hi).map boxD))),none]) ?_ ?_
        ·intro M hM
         exact ⟨_,rfl,sd,lo,hi,rfl,hsd,hbx,λo=>hM _ rfl⟩
        rintro _ rfl
        with_reducible refine cutS (λρ=>ρ=[some (.fz (scrD ns)),some (.ow (penD ns a b)),some (.fz d),some (.fz (fldD sd cl)),some (.ow (pdD (rowsP sd cl))),some (.ow (.list ((hbs sd).map (enX sd cl)))),some (.fz (.str (B1 ((hbs sd).map (enX sd cl))).shown)),some (.fz e),some (.fz (boxD (lo,hi))),some (.ow (.list ((cbs sd lo hi).map boxD))),some (.fz g),some (.ow (.list ((cbs sd lo hi).map boxD))),none]) ?_ ?_
        ·intro M hM
         refine ⟨3,.list ((cbs sd lo hi).map boxD),rfl,nM,by decide,sM,lM,.inl ⟨_,rfl⟩,λo=>⟨rfl,?_⟩⟩
         refine ⟨_,rfl,sd,rfl,hsd,λm o hmm=>?_⟩
         have hmm:=hmm lo hi hbx
         rw[<- cb_lenP]at hmm
         refine ite2 (λh=>absurd (show decide (m < ((((cbs sd lo hi).map boxD).length:Nat):Int))=true from h) ?_) (λ_=>?_)
         ·rw[i0]
          intro z
          have z:=of_decide_eq_true z
          omega
         ·exact ⟨sd,cl,lo,hi,rfl,hsd,hcl,hbx,λo=>⟨rfl,hM _ rfl⟩⟩
        rintro _ rfl
        refine ⟨G2 (show ((cbs sd lo hi).map boxD).length<=120 by rw[i0];exact m3) (by decide),?_⟩
        exact hN4 _ rfl
       ·rintro ρ rfl
        exact hN3 _ rfl
      rintro _ rfl
      with_reducible refine cutS (λρ=>ρ=[some (.fz (scrD ns)),some (.ow (penD ns a b)),some (.fz d),some (.fz (fldD sd cl)),some (.ow (pdD (rowsP sd cl))),some (.ow (.list ((hbs sd).map (enX sd cl)))),some (.fz (.str (B1 ((hbs sd).map (enX sd cl))).shown)),some (.fz e),some (.fz (boxD (lo,hi))),some (.ow (.list ((cbs sd lo hi).map boxD))),none,none,some (.ow (.list ((cels sd cl lo hi).map j0)))]) ?_ ?_
      ·intro M hM
       refine ⟨_,rfl,_,rfl,sd,cl,lo,hi,rfl,by omega,by omega,λo=>?_⟩
       rw[win_cels hsd.p hcl hbx]
       exact ⟨noMutAll_ints _,hM _ rfl⟩
      rintro _ rfl
      refine ⟨_,rfl,sd,cl,lo,hi,rfl,hsd,hbx,λo=>⟨rfl,?_⟩⟩
      refine ⟨cels sd cl lo hi,rfl,cels sd cl lo hi,rfl,h0,λm hm' hmy=>⟨cels sd cl lo hi,rfl,h0,λM2 hM2 hMy=>?_⟩⟩
      rw[mnL_eq hm' hmy,mxL_eq hM2 hMy]
      refine ⟨1,tupD (tlB sd cl (lo,hi)),rfl,Nice.tup _,by decide,sC,lC,.inr ⟨_,rfl⟩,λo=>?_⟩
      exact hN2 _ ⟨a,b,_,ha,hb,.inr ⟨lo,hi,hbx,rfl⟩,by simp at hrl;omega,rfl⟩
     ·rintro ρ ⟨a,b,bo,ha,hb,hbo,hrl,rfl⟩
      rcases hbo with⟨h,_⟩|⟨lo,hi,hbx,rfl⟩
      ·simp at h
      ·exact hN1 _ ⟨a,b,lo,hi,ha,hb,hbx,rfl⟩
    clear ha hb hbo
    rintro _ ⟨a,b,lo,hi,ha,hb,hbx,rfl⟩
    refine ⟨nD.p,sD,by show (B1 ((hbs sd).map (enX sd cl))).depth+1<=64;omega,lD,?_⟩
    refine ite2 (λh=>absurd (show (!decide ((B1 ((hbs sd).map (enX sd cl))).shown=(B1 ((hbs sd).map (enX sd cl))).shown))=true from h) (by rw[ne_self_];decide)) (λ_=>?_)
    exact ⟨_,rfl,rfl,rfl,rfl,by decide,by decide,by decide,ns,a,b,sd,cl,lo,hi,rfl,ha,hb,hsd,hcl,hB,hbx,λa1 b1 e' f' x o ha1 hb1=>hN _ ⟨a1,b1,_,ha1,hb1,.inr ⟨_,rfl⟩,rfl⟩⟩
   ·rintro ρ ⟨a,b,bo,_,_,_,rfl⟩
    exact hN0 _ ⟨a,b,bo,rfl⟩
  rintro _ ⟨a,b,bo,rfl⟩
  exact q _
end
theorem len0{p:List Value->Prop}(h:p []):∀us:List Value,us.length=0->p us:=λus e=>by
 cases us with
 | nil=>exact h
 | cons x us=>cases e
theorem len1{p:List Value->Prop}(h:∀x0,p [x0]):∀us:List Value,us.length=1->p us:=λus e=>by
 cases us with
 | nil=>cases e
 | cons x us=>exact len0 (p:=λl=>p (x :: l)) (h x) us (L7 e)
theorem len2{p:List Value->Prop}(h:∀x0 x1,p [x0,x1]):∀us:List Value,us.length=2->p us:=λus e=>by
 cases us with
 | nil=>cases e
 | cons x us=>exact len1 (p:=λl=>p (x :: l)) (λx1=>h x x1) us (L7 e)
theorem len3{p:List Value->Prop}(h:∀x0 x1 x2,p [x0,x1,x2]):∀us:List Value,us.length=3->p us:=λus e=>by
 cases us with
 | nil=>cases e
 | cons x us=>exact len2 (p:=λl=>p (x :: l)) (λx1 x2=>h x x1 x2) us (L7 e)
theorem len4{p:List Value->Prop}(h:∀x0 x1 x2 x3,p [x0,x1,x2,x3]):∀us:List Value,us.length=4->p us:=λus e=>by
 cases us with
 | nil=>cases e
 | cons x us=>exact len3 (p:=λl=>p (x :: l)) (λx1 x2 x3=>h x x1 x2 x3) us (L7 e)
theorem len5{p:List Value->Prop}(h:∀x0 x1 x2 x3 x4,p [x0,x1,x2,x3,x4]):∀us:List Value,us.length=5->p us:=λus e=>by
 cases us with
 | nil=>cases e
 | cons x us=>exact len4 (p:=λl=>p (x :: l)) (λx1 x2 x3 x4=>h x x1 x2 x3 x4) us (L7 e)
structure Df(K:u0)(mg:Str->Option Value)(x:Str)(st:Stmt)(f:Addr)(d:FuncData):Prop where
 F:Fun K x x st f d
 m:mg x=some (.ref f)
 k:W4 K (.ref f)=true
section
variable {K:u0}{mg:Str->Option Value}
theorem df_mk{h:Heap}(X:K.In h)(G:h.Ns mainGlobals mg){x:Str}{st:Stmt}{f:Addr}{oc:Value}{od an:Option Addr}{osl:Array (Option Value)}{kV doc pm cdv ct:Value}(a:W2 K mainGlobals x=some (some (.ref f)))(l:K.lookup f=some ⟨oc,od,.func (L5 x x (defArgs st) (defBody st) (defScope st) .none kV doc pm an cdv ct),osl⟩)(c:N7 K cdv x=true)(k:W4 K (.ref f)=true):Df K mg x st f (L5 x x (defArgs st) (defBody st) (defScope st) .none kV doc pm an cdv ct) :=
 ⟨fun_mk l c k,PySem.W.mg_of X G a,k⟩
theorem calD(P:Program)(w:World)(base:Heap){k:Nat}{x:Str}{ps:List Str}{sp:Sp}{st:Stmt}{f:Addr}{d:FuncData}(D:Df K mg x st f d)(h:FnOk P w K mg base CX0 k f d ps sp)(b:∀(kV doc pm:Value) (an:Option Addr) (cdv ct:Value) (us:List Value),us.length=ps.length->bindArgs (L5 x x (defArgs st) (defBody st) (defScope st) .none kV doc pm an cdv ct) ⟨us,[]⟩=pure (ps.zip us)):Cal P w K mg base k x ps sp :=
 ⟨⟨f,d,h,D.m,D.k,D.F.binds b⟩⟩
end
theorem all_mk{l:A8}{w:World}{K:u0}{h:Heap}{mg:Str->Option Value}{fa f0 f1 f2 f3 f4 f5 f6 f7 f8 f9 f10 f11 f12 f13 f14 f15 f16 f17 f18 f19 f20 f21 f22 f23 f24 f25 f26 f27:Addr}{d0 d1 d2 d3 d4 d5 d6 d7 d8 d9 d10 d11 d12 d13 d14 d15 d16 d17 d18 d19 d20 d21 d22 d23 d24 d25 d26 d27:FuncData}(X:K.In h)(G:h.Ns mainGlobals mg)(hfa:mg "law"=some (.ref fa))
  (D0:Df K mg "_law_pen" (top 13) f0 d0) (D1:Df K mg "_law_take" (top 14) f1 d1) (D2:Df K mg "_law_sides" (top 16) f2 d2) (D3:Df K mg "_law_places" (top 17) f3 d3) (D4:Df K mg "_law_number" (top 15) f4 d4) (D5:Df K mg "_law_field" (top 18) f5 d5) (D6:Df K mg "_law_stretches" (top 21) f6 d6) (D7:Df K mg "_law_half_boxes" (top 23) f7 d7) (D8:Df K mg "_law_within" (top 19) f8 d8) (D9:Df K mg "_law_due" (top 24) f9 d9) (D10:Df K mg "_law_box" (top 20) f10 d10) (D11:Df K mg "_law_cover" (top 25) f11 d11) (D12:Df K mg "_law_box_cover" (top 26) f12 d12) (D13:Df K mg "one_of_each" (top 1) f13 d13) (D14:Df K mg "box_of" (top 7) f14 d14) (D15:Df K mg "boxes_by" (top 8) f15 d15) (D16:Df K mg "two_halves" (top 4) f16 d16) (D17:Df K mg "cover" (top 5) f17 d17) (D18:Df K mg "box_cover" (top 10) f18 d18) (D19:Df K mg "_law_same" (top 22) f19 d19) (D20:Df K mg "_law_most" (top 27) f20 d20) (D21:Df K mg "_law_has" (top 28) f21 d21) (D22:Df K mg "_law_once" (top 29) f22 d22) (D23:Df K mg "entry_at" (top 2) f23 d23) (D24:Df K mg "put_together" (top 9) f24 d24) (D25:Df K mg "by_halves" (top 11) f25 d25) (D26:Df K mg "_law_refilled_right" (top 30) f26 d26) (D27:Df K mg "law" (top 31) f27 d27)
  (z0:W2 K mainGlobals "len"=some none) (z1:W2 K mainGlobals "abs"=some none) (z2:W2 K mainGlobals "max"=some none) (z3:W2 K mainGlobals "min"=some none) (z4:W2 K mainGlobals "zip"=some none) (z5:W2 K mainGlobals "int"=some none) (z6:W2 K mainGlobals "bool"=some none) (z7:W2 K mainGlobals "range"=some none) (z8:W2 K mainGlobals "repr"=some none) (z9:W2 K mainGlobals "sorted"=some none) (z10:W2 K mainGlobals "isinstance"=some none) (z11:W2 K mainGlobals "list"=some none) (z12:W2 K mainGlobals "tuple"=some none) (z13:W2 K mainGlobals "all"=some none) (z14:W2 K mainGlobals "sum"=some none) (z15:W2 K mainGlobals "dict"=some none) :
  ∃fd:FuncData,(∀(s:Shared) (v:Value),BindsTo s fd ⟨[v],[]⟩ [("_law_script",v)])/\∀base:Heap,K.In base->base.Ns mainGlobals mg->FnOk l.prog w K mg base CX0 6 fa fd ["_law_script"] (conSp K cLaw):=by
 cases hfa.symm.trans D27.m
 have T:Txt mg:=⟨T1 X G z0,T1 X G z1,T1 X G z2,T1 X G z3,T1 X G z4,T1 X G z5,T1 X G z6,T1 X G z7,T1 X G z8,T1 X G z9,T1 X G z10,T1 X G z11,T1 X G z12,T1 X G z13,T1 X G z14,T1 X G z15⟩
 obtain⟨oc,od,kV,doc,pm,an,cdv,ct,osl,e,lk,hcd⟩:=D27.F.ex
 refine ⟨d27,λs v=>by subst e;exact .of_eq rfl,λb _ _=>?_⟩
 have C0:=calD l.prog w b D0 (ok_pen D0.F) λ_ _ _ _ _ _=>len1 λ_=>rfl
 have C1:=calD l.prog w b D1 (ok_take D1.F T) λ_ _ _ _ _ _=>len2 λ_ _=>rfl
 have C2:=calD l.prog w b D2 (ok_sides D2.F T ⟨C1⟩) λ_ _ _ _ _ _=>len1 λ_=>rfl
 have C3:=calD l.prog w b D3 (ok_places D3.F T) λ_ _ _ _ _ _=>len1 λ_=>rfl
 have C4:=calD l.prog w b D4 (ok_number D4.F T ⟨C1⟩) λ_ _ _ _ _ _=>len1 λ_=>rfl
 have C5:=calD l.prog w b D5 (ok_field D5.F T ⟨C2,C3,C4⟩) λ_ _ _ _ _ _=>len1 λ_=>rfl
 have C6:=calD l.prog w b D6 (ok_lst_ D6.F T) λ_ _ _ _ _ _=>len1 λ_=>rfl
 have C7:=calD l.prog w b D7 (ok_lh D7.F T ⟨C6⟩) λ_ _ _ _ _ _=>len1 λ_=>rfl
 have C8:=calD l.prog w b D8 (ok_within D8.F T) λ_ _ _ _ _ _=>len3 λ_ _ _=>rfl
 have C9:=calD l.prog w b D9 (ok_du D9.F T ⟨C7,C8⟩) λ_ _ _ _ _ _=>len2 λ_ _=>rfl
 have C10:=calD l.prog w b D10 (ok_box D10.F T ⟨C1⟩) λ_ _ _ _ _ _=>len2 λ_ _=>rfl
 have C11:=calD l.prog w b D11 (ok_lcv D11.F T ⟨C6⟩) λ_ _ _ _ _ _=>len3 λ_ _ _=>rfl
 have C12:=calD l.prog w b D12 (ok_lb D12.F T ⟨C11⟩) λ_ _ _ _ _ _=>len2 λ_ _=>rfl
 have C13:=calD l.prog w b D13 (ok_each D13.F) λ_ _ _ _ _ _=>len1 λ_=>rfl
 have C14:=calD l.prog w b D14 (ok_bo D14.F T) λ_ _ _ _ _ _=>len1 λ_=>rfl
 have C15:=calD l.prog w b D15 (ok_by D15.F T ⟨C13,C14⟩) λ_ _ _ _ _ _=>len1 λ_=>rfl
 have C16:=calD l.prog w b D16 (ok_two D16.F) λ_ _ _ _ _ _=>len1 λ_=>rfl
 have C17:=calD l.prog w b D17 (ok_cov D17.F T ⟨C16⟩) λ_ _ _ _ _ _=>len3 λ_ _ _=>rfl
 have C18:=calD l.prog w b D18 (ok_bc D18.F T ⟨C15,C17⟩) λ_ _ _ _ _ _=>len2 λ_ _=>rfl
 have C19:=calD l.prog w b D19 (ok_same D19.F T) λ_ _ _ _ _ _=>len2 λ_ _=>rfl
 have C20:=calD l.prog w b D20 (ok_mo D20.F T) λ_ _ _ _ _ _=>len1 λ_=>rfl
 have C21:=calD l.prog w b D21 (ok_has D21.F T) λ_ _ _ _ _ _=>len2 λ_ _=>rfl
 have C22:=calD l.prog w b D22 (ok_on D22.F T ⟨C21⟩) λ_ _ _ _ _ _=>len3 λ_ _ _=>rfl
 have C23:=calD l.prog w b D23 (ok_ea D23.F T) λ_ _ _ _ _ _=>len2 λ_ _=>rfl
 have C24:=calD l.prog w b D24 (ok_pt D24.F T) λ_ _ _ _ _ _=>len1 λ_=>rfl
 have C25:=calD l.prog w b D25 (ok_bh D25.F T ⟨C18,C23,C24⟩) λ_ _ _ _ _ _=>len3 λ_ _ _=>rfl
 have C26:=calD l.prog w b D26 (ok_rr D26.F T ⟨C1,C9,C8,C19,C25⟩) λ_ _ _ _ _ _=>len5 λ_ _ _ _ _=>rfl
 exact ok_law D27.F T ⟨C0,C5,C9,C10,C12,C18,C19,C20,C22,C8,C25,C26⟩
theorem walk{l:A8}{q:Program}{loose:List Str}{XP:(Str->Option Value)->Heap->Prop}{YP:World->Heap->Prop}{d:DefRec}{K:Params->u0}(hn:l.most=some 63)(hdf:d.params.defaults=[])
  (hY:∀(w:World) (h:Heap),YP w h->(K w.params).In h)
  (F:∀(w:World) (mg:Str->Option Value) (fa:Addr) (h:Heap),(K w.params).In h->h.Ns mainGlobals mg->mg d.name=some (.ref fa) ->
    ∃fd:FuncData,(∀(s:Shared) (u:Value),BindsTo s fd ⟨[u],[]⟩ [("_law_script",u)])/\∀base:Heap,(K w.params).In base->base.Ns mainGlobals mg->FnOk l.prog w (K w.params) mg base CX0 6 fa fd ["_law_script"] (conSp (K w.params) cLaw)) :
  PySem.W.WalkO q loose XP YP l.row.toRowW d [] (λf vs=>PySem.call f vs) :=
 L2.walk_of (n:=63) (k:=6) (x:="_law_script") (CX:=λ_=>CX0) (sp:=λw=>conSp (K w.params) cLaw) hn (by decide) hdf ⟨rfl,by decide,by decide,rfl⟩ hY F (λ_ _ a ns hl _ hS=>cLaw_sp hl hS) λ_ _ _ _ _ z=>z
end R17
open PySem PySem.W PyProof.Rows
namespace PySem.W.Fast
def tw14407072509337175123:Unit:=()
def tw18255017004712006809:Unit:=()
def tw9074718743839175086:Unit:=()
def tw11908913736116386443:Unit:=()
def tw9505616264911700883:Unit:=()
def tw9685021014477073790:Unit:=()
def tw10394918324943382742:Unit:=()
def tw13610078029950242154:Unit:=()
def tw11521074222651887065:Unit:=()
def tw3027499264401560814:Unit:=()
def tw18147332651104994409:Unit:=()
def tw8052818511253405716:Unit:=()
def tw16279360550159299381:Unit:=()
def tw11291797201358322795:Unit:=()
def tw13696370657809429235:Unit:=()
def tw11144789908625800143:Unit:=()
def tw16808517848783644202:Unit:=()
def tw6647276325486024855:Unit:=()
def tw1365273084033275310:Unit:=()
def tw14997468965460243595:Unit:=()
def tw2227747902478895073:Unit:=()
def tw15156343159691323291:Unit:=()
def tw9356903745781210205:Unit:=()
def tw9989261592990193601:Unit:=()
def tw11743230905493581057:Unit:=()
def tw5887153326040960236:Unit:=()
def tw1725021127452200546:Unit:=()
def tw2011362008593901251:Unit:=()
def tw6303142908139129043:Unit:=()
def tw714046747966381251:Unit:=()
def tw4130813703162846180:Unit:=()
def tw12149849263689765583:Unit:=()
def tw11277165934021306524:Unit:=()
def tw17273662346345605306:Unit:=()
def tw9917468908716477233:Unit:=()
def tw5557650220333002149:Unit:=()
def tw2505523996999469424:Unit:=()
def tw7003458020478867477:Unit:=()
def tw4907595254366739516:Unit:=()
def tw5749558904648093470:Unit:=()
def tw15638772426909510486:Unit:=()
def tw10276251756709499466:Unit:=()
def tw13687825967516473062:Unit:=()
def tw10923706918267299423:Unit:=()
def tw16736880144664576347:Unit:=()
def tw17441914859097375032:Unit:=()
def tw12548247233283714962:Unit:=()
def tw18175344461427731807:Unit:=()
def tw6678590638182542397:Unit:=()
def tw7386150641482381771:Unit:=()
def tw15453577968657469927:Unit:=()
def tw13549496318951804406:Unit:=()
def tw7569130728071961808:Unit:=()
def tw2812424162155402166:Unit:=()
def tw7186693694262889971:Unit:=()
def tw9732475890185861307:Unit:=()
def tw16023303889217456945:Unit:=()
def tw5605567988284916862:Unit:=()
def tw484284641142082309:Unit:=()
def tw5214657389967552831:Unit:=()
def tw14771316627007417877:Unit:=()
def tw7366262393704256672:Unit:=()
def tw5288634009169568150:Unit:=()
def tw15758586098142376994:Unit:=()
def tw17373862985109977881:Unit:=()
def tw641869660031916990:Unit:=()
end PySem.W.Fast
set_option maxRecDepth 100000 in
set_option maxHeartbeats 0 in
theorem PySem.Challenge.cw_boxsums_k17_box_covers_and_answers_holds : PySem.Challenge.rw_boxsums_k17_box_covers_and_answers.Holds := by
 w_on;o_law;k_head;(case hw=>w_witness2)
 k_fill
 refine R17.walk (l:=PySem.Challenge.rw_boxsums_k17_box_covers_and_answers) rfl rfl (λw h Y=>PySem.W.kIn_of Y) ?F
 case F =>
  intro w mg fa h KX G hmg
  refine' R17.all_mk KX G hmg (R17.df_mk KX G ?a0 ?l0 ?c0 ?k0) (R17.df_mk KX G ?a1 ?l1 ?c1 ?k1) (R17.df_mk KX G ?a2 ?l2 ?c2 ?k2) (R17.df_mk KX G ?a3 ?l3 ?c3 ?k3) (R17.df_mk KX G ?a4 ?l4 ?c4 ?k4) (R17.df_mk KX G ?a5 ?l5 ?c5 ?k5) (R17.df_mk KX G ?a6 ?l6 ?c6 ?k6) (R17.df_mk KX G ?a7 ?l7 ?c7 ?k7) (R17.df_mk KX G ?a8 ?l8 ?c8 ?k8) (R17.df_mk KX G ?a9 ?l9 ?c9 ?k9) (R17.df_mk KX G ?a10 ?l10 ?c10 ?k10) (R17.df_mk KX G ?a11 ?l11 ?c11 ?k11) (R17.df_mk KX G ?a12 ?l12 ?c12 ?k12) (R17.df_mk KX G ?a13 ?l13 ?c13 ?k13) (R17.df_mk KX G ?a14 ?l14 ?c14 ?k14) (R17.df_mk KX G ?a15 ?l15 ?c15 ?k15) (R17.df_mk KX G ?a16 ?l16 ?c16 ?k16) (R17.df_mk KX G ?a17 ?l17 ?c17 ?k17) (R17.df_mk KX G ?a18 ?l18 ?c18 ?k18) (R17.df_mk KX G ?a19 ?l19 ?c19 ?k19) (R17.df_mk KX G ?a20 ?l20 ?c20 ?k20) (R17.df_mk KX G ?a21 ?l21 ?c21 ?k21) (R17.df_mk KX G ?a22 ?l22 ?c22 ?k22) (R17.df_mk KX G ?a23 ?l23 ?c23 ?k23) (R17.df_mk KX G ?a24 ?l24 ?c24 ?k24) (R17.df_mk KX G ?a25 ?l25 ?c25 ?k25) (R17.df_mk KX G ?a26 ?l26 ?c26 ?k26) (R17.df_mk KX G ?a27 ?l27 ?c27 ?k27) ?z0 ?z1 ?z2 ?z3 ?z4 ?z5 ?z6 ?z7 ?z8 ?z9 ?z10 ?z11 ?z12 ?z13 ?z14 ?z15
  case a0|l0|c0|k0|a1|l1|c1|k1|a2|l2|c2|k2|a3|l3|c3|k3|a4|l4|c4|k4|a5|l5|c5|k5|a6|l6|c6|k6|a7|l7|c7|k7|a8|l8|c8|k8|a9|l9|c9|k9|a10|l10|c10|k10|a11|l11|c11|k11|a12|l12|c12|k12|a13|l13|c13|k13|a14|l14|c14|k14|a15|l15|c15|k15|a16|l16|c16|k16|a17|l17|c17|k17|a18|l18|c18|k18|a19|l19|c19|k19|a20|l20|c20|k20|a21|l21|c21|k21|a22|l22|c22|k22|a23|l23|c23|k23|a24|l24|c24|k24|a25|l25|c25|k25|a26|l26|c26|k26|a27|l27|c27|k27|z0|z1|z2|z3|z4|z5|z6|z7|z8|z9|z10|z11|z12|z13|z14|z15=>k_is
