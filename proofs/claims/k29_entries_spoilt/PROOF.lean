import PyProof.Rows.All
import Wide.All
import OpenK.AllK
import Wide.FinOn
import Lean
import PyProof.EqAt
import PyProof.EqKinds
import PyProof.TupleCall
import KE.KNest
import PyProof.Rows.SortRuns
import KE.KSortKey
import KE.KLam
import KE.KNestM
import PyProof.Draws
import PyProof.EnumMake
import PyProof.DictItems
import PyProof.DictIter
import PyProof.DictWalks
import KE.KDictSum
import KE.KItemsList
import PyProof.DictTruth
import KE.KDictOf
import PySem.Challenge.RW_boxsums_k29_entries_spoilt
import PyProof.ReprLen
set_option Elab.async false
set_option linter.all false
set_option maxRecDepth 100000
set_option maxHeartbeats 4000000
open PySem.Heap renaming get?_push_of_some → i0,lt_size → J0,get?_push_size → M0,SameBut → Y2,get?_update_self → u3,get?_update_ne → B3,size_push → M3,get?_update_other → V3,get?_push_ne → G6,size_update → W6,ExtBut → g7
open List renaming length_map → j0,getElem?_eq_getElem → y0,length_append → B0,mem_cons_of_mem → L0,size_toArray → N0,getElem?_map → O0,mem_cons_self → P0,mem_append → R0,map_map → S0,mem_singleton → U0,getElem?_eq_some_iff → W0,mem_cons → X0,mem_append_right → Z0,mem_map → A1,map_cons → B1,mem_of_getElem? → E1,length_take → J1,getElem?_set_ne → O1,getElem?_append_right → Y1,getD_eq_getElem?_getD → Z1,length_cons → B2,length_drop → E2,replicate → G2,length_singleton → O2,pairwise_map → P2,map_congr_left → Q2,take_of_length_le → S2,mem_of_mem_take → U2,getElem_mem → V2,getElem?_append_left → X2,nodup_cons → E3,range → G3,all_eq_true → J3,mem_of_mem_drop → K3,map_append → O3,mem_iff_getElem? → P3,append_nil → S3,length_set → T3,lookup_cons → U3,getElem?_eq_none_iff → W3,append_assoc → X3,mem_append_left → n4,getElem?_cons_succ → o4,drop_of_length_le → A4,replicate_succ → E4,pairwise_iff_getElem → O4,not_mem_nil → Q4,length → S4,Nodup → U4,nodup_iff_pairwise_ne → i5,getElem?_eq_none → m5,getElem?_zip_eq_some → o5,flatten_cons → u5,zip_cons_cons → G5,map_inj_right → J5,mem_filter → K5,of_mem_zip → L5,mem_range → S5,mem_map_of_mem → X5,pairwise_cons → m6,getElem?_inj → A6,nodup_append → B6,ext_getElem? → E6,getElem?_set_self → J6,filter_eq_nil_iff → M6,eraseIdxIfInBounds_toArray → O6,length_filter_le → S6,zipIdx_cons → U6,countP_cons → V6,map_fst_zip → Y6,sum_cons → e7,length_nil → i7,nil_append → j7,filterMap_cons → v7,getElem_of_mem → A7,all_map → E7,getElem?_drop → K7,lookup → R7,length_range → V7,getElem?_replicate → b8,getElem?_cons_zero → e8,pairwise_singleton → h8,length_eq_zero_iff → i8,filter_cons_of_neg → j8,forIn_cons → p8,length_zip → r8,eq_nil_or_concat → y8,forIn_nil → F8,pairwise_append → M8,mem_filterMap → T8,getElem?_take → V8,zip_map_right → W8,filter_append → Y8,map_nil → Z8,map_id → q9,foldl → u9
open PySem.W renaming Frag → n0,mg_none_of → A2,nsIn → A3,codeHdIn → P4,keepIn → X4,fnOf → q5,kla_obj → O5,findIn → t6,tabObj → u6,cellsFrom_some → K6,codeIn → F7,methodObj → S7,OpenLaw → u8,codeHd_of_K → O8,tabIn → Q8,specialIn → i9,instObj → t9
open Nat renaming le_refl → A0,le_trans → Q0,lt_of_lt_of_le → T0,ne_of_lt → Y0,lt_of_le_of_lt → Q1,ne_of_gt → T1,le_add_right → T2,lt_irrefl → Z2,zero_le → m3,strongRecOn → m4,le_of_succ_le → v5,pow_le_pow_right → T5,le_of_lt → U5,zero_add → V5,mul_le_mul_left → Y5,le_mul_of_pos_right → o6,lt_trans → p6,lt_succ_of_lt → v6,le_of_ble_eq_true → Q6,min_eq_left → o7,add_le_add_left → y7,le_of_eq → B7,le_succ → Q7,le_of_not_lt → Z7,lt_add_of_pos_right → g8,length_repr_le_iff → o8,mul_le_mul_right → N8,mul_assoc → R8,not_lt → S8,succ_mul → b9,mul_comm → g9
open PySem.PyData renaming int → G0,tuple → V1,depth → u4,bool → J4,list → T4,shownKv → Y4,depthAll → M5,shownAll → m7,depthKv → J7,canLayAll0 → U7,shown → m8,showable → t8,dict → B8,canLay0 → G8,showableAll → U8,hasDictAll → j9,showableKv → o9
open Bool renaming false_ne_true → G1,and_eq_true → W1,false_eq_true → W2,beq_eq_decide_eq → P5,eq_iff_iff → g6,eq_false_iff → w6,and_eq_false_iff → P6,not_eq_true' → T7,false_and → E8
open Int renaming eq_ofNat_of_zero_le → L1,toNat_natCast → Y3,le_refl → h7,emod_nonneg → p7,emod_lt_of_pos → L7
open Option.some renaming inj → N1
open Array renaming length_toList → S1,getElem?_eq_getElem → M4,perm_iff_toList_perm → Z4,getElem?_eq_none → L6,toList_map → X6,getElem?_toList → v8,size_zip → J8,toArray_toList → K8,getElem_toList → L8,toList_append → P8,forIn_toList → X8,toList_push → m9
open PySem.Obj renaming mapSeq → U1,data_mapFields → j6,isFreed_of_fields → w8
open PySem.Value renaming ref → X1,none → Q3,type → i6,int → n6,bool → T6,isInt → A8
open PySem.Builtin.SmallTypes renaming nextOf → K2,ownedTupleIsFree → Z3,ownedTupleHandOut → Z5
open Ne renaming symm → v3
open PySem.Builtin.Dict_items renaming ownedTupleIsFree → j4,pairFromOwner → B4,ownedTupleFields → e6,ownsTuple → t7
open Option renaming map_eq_some_iff → v4,map_some → K4,getD_some → W4,getD_none → p9
open PySem.Heap.SameBut renaming update → G4
open PyProof.Rows renaming slot_tuple_getitem → L4,callWith_type1 → V4,callWith_builtin1 → Z6,K → G7
open PySem.Builtin.Dict renaming showsAll → j5,updateFrom → E5,entriesForEmpty → u7,addKeywords → W7,selfAndRest → X7
open PySem.Builtin.Slice renaming slicePlaces → n5,sliceAdjust → W5,sliceApplied → M7
open PySem.Builtin.Tuple renaming tupleExact → A5,tupleItemsOf → N7,tupleHashOf → P7
open PySem.Builtin.List renaming listTooLong → B5,listExtendWith → Q5,listFitsIndex → O7,listSameRef → Y7
open Nat.succ renaming inj → n8
namespace L2
open PySem PySem.Spec PyProof.Rows
noncomputable abbrev Key:=Sum Int Str
noncomputable def keyIs:Key->Value->Bool
 | .inl k,v=>A8 k v
 | .inr x,v=>Value.isStrOf x v
noncomputable def keyH(w:World):Key->Int
 | .inl k=>hashInt k
 | .inr x=>hashStr w x
theorem keyIs_shape:∀{k:Key}{v:Value},keyIs k v=true->(∃i t,k=Sum.inl i/\v=n6 i t)\/(∃x t,k=Sum.inr x/\v=Value.str x t)
 | .inl i,v,h=>by
  obtain⟨t,e⟩:=Value.isInt_shape (k:=i) (v:=v) h
  exact .inl ⟨i,t,rfl,e⟩
 | .inr x,v,h=>by
  obtain⟨t,e⟩:=Value.isStrOf_shape (x:=x) (v:=v) h
  exact .inr ⟨x,t,rfl,e⟩
theorem keyIs_int(i:Int)(t:Tok):keyIs (.inl i) (.int i t)=true:=by simp[keyIs,A8]
theorem keyIs_str(x:Str)(t:Tok):keyIs (.inr x) (.str x t)=true:=by simp[keyIs,Value.isStrOf]
theorem key_ll(a b:Int):decide ((Sum.inl a:Key)=Sum.inl b)=(a==b):=by
 by_cases e:a=b
 ·subst e;simp
 ·have h:¬(Sum.inl a:Key)=Sum.inl b:=λq=>e (Sum.inl.inj q)
  rw[decide_eq_false h]
  exact (beq_eq_false_iff_ne.mpr e).symm
theorem key_rr(a b:Str):decide ((Sum.inr a:Key)=Sum.inr b)=decide (a=b):=by
 by_cases e:a=b
 ·subst e;simp
 ·have h:¬(Sum.inr a:Key)=Sum.inr b:=λq=>e (Sum.inr.inj q)
  rw[decide_eq_false h,decide_eq_false e]
theorem key_lr(a:Int)(b:Str):decide ((Sum.inl a:Key)=Sum.inr b)=false:=decide_eq_false (λq=>nomatch q)
theorem key_rl(a:Str)(b:Int):decide ((Sum.inr a:Key)=Sum.inl b)=false:=decide_eq_false (λq=>nomatch q)
noncomputable def mixKind(prog:Program)(w:World):PySem.KeyKind prog w Key where
 is:=keyIs
 hash:=keyH w
 inj:=λv a b ha hb=>by
  rcases keyIs_shape ha with⟨i,t,rfl,rfl⟩|⟨x,t,rfl,rfl⟩
  ·rcases keyIs_shape hb with⟨j,u,rfl,e⟩|⟨y,u,rfl,e⟩
   ·injection e with e1 _;rw[e1]
   ·exact nomatch e
  ·rcases keyIs_shape hb with⟨j,u,rfl,e⟩|⟨y,u,rfl,e⟩
   ·exact nomatch e
   ·injection e with e1 _;rw[e1]
 byValue:=λk v h=>by
  rcases keyIs_shape h with⟨i,t,rfl,rfl⟩|⟨x,t,rfl,rfl⟩<;>rfl
 pyHash:=λhv h=>by
  rcases keyIs_shape hv with⟨i,t,rfl,rfl⟩|⟨x,t,rfl,rfl⟩
  ·exact wpAny_pyHash_int h
  ·exact wpAny_pyHash_str h
 eqBool:=λhu hv h=>by
  rcases keyIs_shape hu with⟨i,t,rfl,rfl⟩|⟨x,t,rfl,rfl⟩
  ·rcases keyIs_shape hv with⟨j,u,rfl,rfl⟩|⟨y,u,rfl,rfl⟩
   ·rw[key_ll]at h;exact wpAny_eqBool_int h
   ·rw[key_lr]at h;exact SeqAt.EqAt.int_str i t y u _ _ _ _ h
  ·rcases keyIs_shape hv with⟨j,u,rfl,rfl⟩|⟨y,u,rfl,rfl⟩
   ·rw[key_rl]at h;exact SeqAt.EqAt.str_int x t j u _ _ _ _ h
   ·rw[key_rr]at h;exact wpAny_eqBool_str h
 «strs»:=λk x t v h=>by
  rcases keyIs_shape h with⟨i,u,rfl,e⟩|⟨y,u,rfl,e⟩
  ·exact nomatch e
  ·injection e with e1 _
   subst e1
   cases v<;>rfl
theorem mixKind_int(prog:Program)(w:World)(i:Int)(t:Tok):(mixKind prog w).is (.inl i) (.int i t)=true:=keyIs_int i t
theorem mixKind_str(prog:Program)(w:World)(x:Str)(t:Tok):(mixKind prog w).is (.inr x) (.str x t)=true:=keyIs_str x t
inductive V where
 | non|bl (b:Bool)|int (i:Int)|str (x:Str)|byt (b:Array UInt8)|flt (b:UInt64)|ref (a:Addr)|ty (n:String)
 deriving DecidableEq
noncomputable def RelV:V->Value->Prop
 | .non,u=>u=Q3
 | .bl b,u=>u=T6 b
 | .int i,u=>∃t,u=n6 i t
 | .str x,u=>∃t,u=Value.str x t
 | .byt b,u=>∃t,u=Value.bytes b t
 | .flt b,u=>∃t,u=Value.float b t
 | .ref a,u=>u=X1 a
 | .ty n,u=>u=i6 n
noncomputable abbrev Vals:List V->List Value->Prop:=Paired RelV
theorem Vals.length{xs:List V}{us:List Value}(r:Vals xs us):xs.length=us.length:=Paired.length r
theorem Vals.get:∀{xs:List V}{us:List Value}{i:Nat}{x:V},Vals xs us->xs[i]?=some x->∃u,us[i]?=some u/\RelV x u
 | _,_,_,_,.nil,e=>by simp at e
 | _,_,0,_,.cons r _,e=>by simp at e;subst e;exact ⟨_,rfl,r⟩
 | _,_,i+1,x,.cons _ t,e=>by
  obtain⟨u,h1,h2⟩:=Vals.get (i:=i) (x:=x) t (by simpa using e)
  exact ⟨u,by simpa using h1,h2⟩
theorem Vals.set{x:V}{u:Value}(r:RelV x u):∀{xs:List V}{us:List Value} (i:Nat),Vals xs us->Vals (xs.set i x) (us.set i u)
 | _,_,_,.nil=>.nil
 | _,_,0,.cons _ t=>.cons r t
 | _,_,i+1,.cons q t=>.cons q (Vals.set r i t)
theorem Vals.append:∀{xs ys:List V}{us ws:List Value},Vals xs us->Vals ys ws->Vals (xs++ys) (us++ws)
 | _,_,_,_,.nil,s=>s
 | _,_,_,_,.cons r t,s=>.cons r (Vals.append t s)
theorem Vals.take:∀{xs:List V}{us:List Value} (n:Nat),Vals xs us->Vals (xs.take n) (us.take n)
 | _,_,0,_=>.nil
 | _,_,_+1,.nil=>.nil
 | _,_,n+1,.cons r t=>.cons r (Vals.take n t)
theorem Vals.drop:∀{xs:List V}{us:List Value} (n:Nat),Vals xs us->Vals (xs.drop n) (us.drop n)
 | _,_,0,r=>r
 | _,_,_+1,.nil=>.nil
 | _,_,n+1,.cons _ t=>Vals.drop n t
theorem Vals.none_of:∀{xs:List V}{us:List Value}{i:Nat},Vals xs us->xs[i]?=none->us[i]?=none:=λ{xs us i} r e=>by
 have h1:=r.length
 have h2:xs.length<=i:=W3.mp e
 exact W3.mpr (by omega)
noncomputable def RelO:Option V->Option Value->Prop
 | some v,some u=>RelV v u
 | none,none=>True
 | _,_=>False
noncomputable def KV{κ:Type}:List (κ×V)->List (κ×Value)->Prop:=Paired λ(p:κ×V) (q:κ×Value)=>p.1=q.1/\RelV p.2 q.2
noncomputable def kV:Key->V
 | .inl i=>.int i
 | .inr x=>.str x
inductive HO where
 | lst (xs:List V)
 | tup (xs:List V)
 | dK (kvs:List (Key×V))|dT (kvs:List (List Key×V))
 | set (S:Int->Bool) (n:Nat)
 | ins (C dx:Addr) (fs:List (Str×V))
 | own (x:Addr)
 | xd (fs:List (Str×V))
 | met (f x:Addr)
 | rng (lo hi:Int)
 | frz (o:Obj) (u:HO)
 | tbl (ps:Array Value)
 | ext (φ:Heap->Prop)
noncomputable abbrev Hp:=Addr->Option HO
noncomputable def upd(H:Hp)(a:Addr)(o:HO):Hp:=λb=>if b=a then some o else H b
theorem upd_same{H:Hp}{a:Addr}{o:HO}:upd H a o a=some o:=by unfold upd;rw[if_pos rfl]
theorem upd_ne{H:Hp}{a b:Addr}{o:HO}(h:b≠a):upd H a o b=H b:=by unfold upd;rw[if_neg h]
theorem ne_of_none{H:Hp}{a b:Addr}{o:HO}(h:H a=some o)(h':H b=none):a≠b:=by
 intro e;subst e;rw[h]at h';cases h'
noncomputable def IsTupD(h:Heap)(a:Addr)(items:Array Value):Prop:=∃o,h.get? a=some o/\o.cls=.type "tuple"/\∃n,o.data=.seq items n/\o.dict=none
theorem IsTupD.t{h:Heap}{a:Addr}{items:Array Value}:IsTupD h a items->IsTup h a items:=λ⟨o,e,c,n,d,_⟩=>⟨o,e,c,n,d⟩
theorem IsTupD.new(h:Heap)(items:Array Value):IsTupD (h.push { cls:=.type "tuple",data:=.seq items }) h.objs.size items:=⟨_,M0 _ rfl,rfl,_,rfl,rfl⟩
section
variable (P:Program)(w:World)
noncomputable def ObjOk(H:Hp)(h:Heap)(a:Addr):HO->Prop
 | .lst xs=>xs.length<=sizeLine/\∃(its:List Value) (n:Nat),Vals xs its/\h.get? a=some { cls:=.type "list",data:=.seq its.toArray n }
 | .tup xs=>xs.length<=sizeLine/\∃its:List Value,Vals xs its/\IsTupD h a its.toArray
 | .dK kvs=>kvs.length<=sizeLine/\(a==sysModules)=false/\∃vs,KV kvs vs/\h.DictOf (mixKind P w) a vs
 | .dT kvs=>kvs.length<=sizeLine/\(a==sysModules)=false/\∃xs:List (List Key×Addr×Value),
   Paired (λ(p:List Key×V) (q:List Key×Addr×Value)=>p.1=q.1/\H q.2.1=some (.tup (p.1.map kV))/\RelV p.2 q.2.2) kvs xs /\
   ∃o es ep,h.get? a=some o/\o.ExactDict/\o.data=.dict es ep/\es.toList=xs.map (entryOfKey (tupleKind (mixKind P w)))/\(xs.map (·.1)).Nodup
 | .set S n=>h.SetOf (intKind P w) a S n
 | .ins C dx fs=>H dx=some (.own a)/\fs.length<=1000/\dx≠a/\h.get? a=some (t9 C dx) /\
   ∃mA,h.Ns1 dx mA/\(∀f,RelO (fs.lookup f) (mA f))/\PySem.Within mA (fs.map (·.1))
 | .own _=>∃o,h.get? a=some o
 | .xd fs=>∃mA,h.Ns1 a mA/\∀f,RelO (fs.lookup f) (mA f)
 | .rng lo hi=>∃t u v,h.get? a=some { cls:=.type "range",data:=.fields #[.int lo t,.int hi u,.int 1 v] }
 | .frz o u=>h.get? a=some o/\ObjOk H h a u
 | .tbl ps=>h.get? a=some { cls:=.none,data:=.fields ps }
 | .met f x=>h.get? a=some (S7 (.ref f) (.ref x))
 | .ext φ=>φ h/\(∃o,h.get? a=some o)/\∀h1 h2:Heap,φ h1->(∀o,h1.get? a=some o->h2.get? a=some o)->φ h2
noncomputable def HOk(H:Hp)(h:Heap):Prop:=∀a o,H a=some o->ObjOk P w H h a o
end
section
variable {P:Program}{w:World}{H H':Hp}{h h':Heap}{a:Addr}{o:HO}
theorem ObjOk.lt(x:ObjOk P w H h a o):a < h.objs.size:=by
 cases o with
 | lst xs=>obtain⟨_,_,_,_,e⟩:=x;exact J0 e
 | tup xs=>obtain⟨_,_,_,p⟩:=x;exact p.t.lt
 | dK kvs=>obtain⟨_,_,_,_,o,_,_,e,_⟩:=x;exact J0 e
 | dT kvs=>obtain⟨_,_,_,_,o,_,_,e,_⟩:=x;exact J0 e
 | set S n=>obtain⟨o,_,_,_,e,_⟩:=x;exact J0 e
 | ins C dx fs=>obtain⟨_,_,_,e,_⟩:=x;exact J0 e
 | own y=>obtain⟨_,e⟩:=x;exact J0 e
 | xd fs=>obtain⟨_,⟨_,_,_,e,_⟩,_⟩:=x;exact J0 e
 | rng lo hi=>obtain⟨_,_,_,e⟩:=x;exact J0 e
 | frz ob u=>obtain⟨e,_⟩:=x;exact J0 e
 | tbl ps=>exact J0 (show h.get? a=some _ from x)
 | met f y=>exact J0 (show h.get? a=some _ from x)
 | ext φ=>obtain⟨_,⟨_,e⟩,_⟩:=x;exact J0 e
theorem Paired.mapP{α β:Type}{F G:α->β->Prop}:∀{l₁:List α}{l₂:List β},Paired F l₁ l₂->(∀a b,F a b->G a b)->Paired G l₁ l₂
 | _,_,.nil,_=>.nil
 | _,_,.cons r t,f=>.cons (f _ _ r) (Paired.mapP t f)
theorem ObjOk.stay(x:ObjOk P w H h a o)(k:∀b u,(b=a\/H b=some (.own a))->h.get? b=some u->h'.get? b=some u)
  (ho:∀b,H b=some (.own a)->H' b=some (.own a)) (ht:∀b xs,H b=some (.tup xs)->H' b=some (.tup xs)):ObjOk P w H' h' a o:=by
 induction o with
 | lst xs=>obtain⟨z,its,n,r,e⟩:=x;exact ⟨z,its,n,r,k _ _ (.inl rfl) e⟩
 | tup xs=>obtain⟨z,its,r,ob,e,c⟩:=x;exact ⟨z,its,r,ob,k _ _ (.inl rfl) e,c⟩
 | dK kvs=>obtain⟨z,y,vs,r,ob,es,ep,e,c⟩:=x;exact ⟨z,y,vs,r,ob,es,ep,k _ _ (.inl rfl) e,c⟩
 | dT kvs =>
  obtain⟨z,y,xs,r,ob,es,ep,e,c⟩:=x
  exact ⟨z,y,xs,Paired.mapP r λp q z=>⟨z.1,ht _ _ z.2.1,z.2.2⟩,ob,es,ep,k _ _ (.inl rfl) e,c⟩
 | set S n=>obtain⟨ob,es,ep,t,e,c⟩:=x;exact ⟨ob,es,ep,t,k _ _ (.inl rfl) e,c⟩
 | ins C dx fs =>
  obtain⟨d,z,ne,e,mA,⟨od,es,ep,e2,c⟩,r⟩:=x
  exact ⟨ho _ d,z,ne,k _ _ (.inl rfl) e,mA,⟨od,es,ep,k _ _ (.inr d) e2,c⟩,r⟩
 | own y=>obtain⟨ob,e⟩:=x;exact ⟨ob,k _ _ (.inl rfl) e⟩
 | xd fs=>obtain⟨mA,⟨od,es,ep,e,c⟩,r⟩:=x;exact ⟨mA,⟨od,es,ep,k _ _ (.inl rfl) e,c⟩,r⟩
 | rng lo hi=>obtain⟨t,u,v,e⟩:=x;exact ⟨t,u,v,k _ _ (.inl rfl) e⟩
 | frz ob u ih=>obtain⟨e,q⟩:=x;exact ⟨k _ _ (.inl rfl) e,ih q⟩
 | tbl ps =>
  have e:h.get? a=some { cls:=.none,data:=.fields ps }:=x
  show h'.get? a=some { cls:=.none,data:=.fields ps }
  exact k a _ (.inl rfl) e
 | met f y =>
  have e:h.get? a=some (S7 (.ref f) (.ref y)):=x
  show h'.get? a=some (S7 (.ref f) (.ref y))
  exact k a _ (.inl rfl) e
 | ext φ=>obtain⟨p,⟨o,e⟩,st⟩:=x;exact ⟨st _ _ p λo q=>k _ _ (.inl rfl) q,⟨o,k _ _ (.inl rfl) e⟩,st⟩
theorem HOk.lt(x:HOk P w H h)(e:H a=some o):a < h.objs.size:=(x a o e).lt
theorem HOk.fresh(x:HOk P w H h)(e:h.objs.size<=a):H a=none:=by
 cases q:H a with
 | none=>rfl
 | some u=>exact absurd (T0 (x.lt q) e) (Z2 _)
theorem HOk.kept(x:HOk P w H h)(k:∀b u,h.get? b=some u->h'.get? b=some u):HOk P w H h':=λa o e =>
 (x a o e).stay (λb u _ q=>k b u q) (λ_ q=>q) λ_ _ q=>q
theorem HOk.laid(x:HOk P w H h)(k:∀b u,h.get? b=some u->h'.get? b=some u)(hp:h.objs.size<=a)(new:ObjOk P w (upd H a o) h' a o):HOk P w (upd H a o) h':=λb u e=>by
 have hn:=x.fresh hp
 by_cases hb:b=a
 ·subst hb;rw[upd_same]at e;cases e;exact new
 ·rw[upd_ne hb]at e
  exact (x b u e).stay (λc v _ q=>k c v q) (λc q=>by rw[upd_ne (ne_of_none q hn)];exact q) λc xs q=>by rw[upd_ne (ne_of_none q hn)];exact q
end
noncomputable def Rd(H:Hp)(a:Addr)(u:HO):Prop:=H a=some u\/∃o,H a=some (.frz o u)
theorem Rd.ok{P:Program}{w:World}{H:Hp}{h:Heap}{a:Addr}{u:HO}(r:Rd H a u)(x:HOk P w H h):ObjOk P w H h a u:=by
 rcases r with r|⟨o,r⟩
 ·exact x a u r
 ·obtain⟨_,q⟩:=x a _ r
  exact q
noncomputable def Mut:Option HO->Prop
 | some (.lst _)=>True
 | some (.dK _)=>True
 | some (.dT _)=>True
 | some (.set _ _)=>True
 | some (.ins _ _ _)=>True
 | some (.ext _)=>True
 | _=>False
section
variable {P:Program}{w:World}{H:Hp}{h h':Heap}{x e:Addr}{o':HO}
theorem HOk.write(ok:HOk P w H h)(mu:Mut (H x))(he:e=x\/H e=some (.own x))(k:∀b u,b≠e->h.get? b=some u->h'.get? b=some u)(heo:∃u,h'.get? e=some u)
  (new:ObjOk P w (upd H x o') h' x o'):HOk P w (upd H x o') h':=λb u q=>by
 have nown:∀c y,H c=some (.own y)->c≠x:=λc y r z=>by subst z;rw[r]at mu;exact mu
 have ntup:∀c xs,H c=some (.tup xs)->c≠x:=λc xs r z=>by subst z;rw[r]at mu;exact mu
 by_cases hb:b=x
 ·subst hb;rw[upd_same]at q;cases q;exact new
 ·rw[upd_ne hb]at q
  by_cases hbe:b=e
  ·have q':H b=some (.own x):=by
    rcases he with z|z
    ·exact absurd (hbe.trans z) hb
    ·rw[hbe];exact z
   rw[q]at q';cases q'
   obtain⟨v,hv⟩:=heo
   exact ⟨v,by rw[hbe];exact hv⟩
  ·refine (ok b u q).stay (λc v hc r=>k c v ?_ r) (λc r=>by rw[upd_ne (nown c b r)];exact r) λc xs r=>by rw[upd_ne (ntup c xs r)];exact r
   rcases hc with rfl|hc
   ·exact hbe
   ·rintro rfl
    rcases he with z|z
    ·exact nown c b hc z
    ·rw[hc]at z;cases z;exact hb rfl
end
structure Un(fs ex:List Addr)(H H':Hp)(h h':Heap):Prop where
 keep:∀b o,h.get? b=some o->H b=none->b∉fs->b∉ex->h'.get? b=some o
 slot:∀b o,h.get? b=some o->H b=none->b∈fs->b∉ex->∃sl,h'.get? b=some { o with slots:=sl }
 free:∀b o,h.get? b=some o->H b=none->b∉ex->H' b=none
 there:∀b o,h.get? b=some o->b∉ex->∃o',h'.get? b=some o'
 tups:∀b xs,H b=some (.tup xs)->H' b=some (.tup xs)
 frzs:∀b o u,H b=some (.frz o u)->H' b=some (.frz o u)
 tbls:∀b ps,H b=some (.tbl ps)->∃more,H' b=some (.tbl (ps++more))
section
variable {fs fs' ex ex':List Addr}{H H1 H2:Hp}{h h1 h2 h':Heap}{a x e:Addr}{o:HO}
theorem Un.any(u:Un fs ex H H1 h h1){b:Addr}{ob:Obj}(q:h.get? b=some ob)(n:H b=none)(hx:b∉ex):∃sl,h1.get? b=some { ob with slots:=sl }:=by
 by_cases hb:b∈fs
 ·exact u.slot b ob q n hb hx
 ·exact ⟨ob.slots,u.keep b ob q n hb hx⟩
theorem Un.kept(k:∀b u,h.get? b=some u->h'.get? b=some u):Un fs ex H H h h' :=
 ⟨λb ob q _ _ _=>k b ob q,λb ob q _ _ _=>⟨ob.slots,k b ob q⟩,λ_ _ _ n _=>n,λb ob q _=>⟨ob,k b ob q⟩,λ_ _ q=>q,λ_ _ _ q=>q,λ_ ps q=>⟨#[],by rw[q];simp⟩⟩
theorem Un.refl:Un fs ex H H h h:=Un.kept λ_ _ q=>q
theorem Un.laid(k:∀b u,h.get? b=some u->h'.get? b=some u)(hp:h.objs.size<=a)(hn:H a=none):Un fs ex H (upd H a o) h h' where
 keep:=λb u q _ _ _=>k b u q
 slot:=λb u q _ _ _=>⟨u.slots,k b u q⟩
 free:=λb u q n _=>by rw[upd_ne (Y0 (T0 (J0 q) hp))];exact n
 there:=λb u q _=>⟨u,k b u q⟩
 tups:=λb xs q=>by rw[upd_ne (ne_of_none q hn)];exact q
 frzs:=λb u xs q=>by rw[upd_ne (ne_of_none q hn)];exact q
 tbls:=λb ps q=>⟨#[],by rw[upd_ne (ne_of_none q hn),q];simp⟩
theorem Un.write(mu:Mut (H x))(he:e=x\/H e=some (.own x))(k:∀b u,b≠e->h.get? b=some u->h'.get? b=some u)(heo:∃u,h'.get? e=some u):Un fs ex H (upd H x o) h h':=by
 have hx:∀b,H b=none->b≠x:=λb n z=>by subst z;rw[n]at mu;exact mu
 have hb:∀b,H b=none->b≠e:=λb n z=>by
  subst z
  rcases he with r|r
  ·exact hx b n r
  ·rw[n]at r;cases r
 have hm:∀b u,H b=some u->¬Mut (some u)->b≠x:=λb u q nm z=>by subst z;rw[q]at mu;exact nm mu
 refine ⟨λb u q n _ _=>k b u (hb b n) q,λb u q n _ _=>⟨u.slots,k b u (hb b n) q⟩,λb u q n _=>by rw[upd_ne (hx b n)];exact n,λb u q _=>?_,
   λb xs q=>by rw[upd_ne (hm b _ q λz=>z)];exact q,λb u xs q=>by rw[upd_ne (hm b _ q λz=>z)];exact q,λb ps q=>⟨#[],by rw[upd_ne (hm b _ q λz=>z),q];simp⟩⟩
 by_cases hbe:b=e
 ·subst hbe;exact heo
 ·exact ⟨u,k b u hbe q⟩
end
noncomputable def trk(h:Heap)(H:Hp):List Addr:=(G3 h.objs.size).filter λa=>(H a).isSome
noncomputable def hidT(h:Heap)(H:Hp):Heap:=PySem.W.hideAll h (trk h H)
theorem hidT_size(h:Heap)(H:Hp):(hidT h H).objs.size=h.objs.size:=PySem.W.hideAll_size _ _
theorem hidT_get{h:Heap}{H:Hp}{b:Addr}{o:Obj}(e:h.get? b=some o)(n:H b=none):(hidT h H).get? b=some o :=
 PySem.W.hideAll_get _ e λhm=>by
  have q:(H b).isSome=true:=(K5.mp hm).2
  rw[n]at q;simp at q
theorem of_hidT{h:Heap}{H:Hp}{b:Addr}{o:Obj}(e:(hidT h H).get? b=some o):h.get? b=some o/\H b=none:=by
 have e':h.get? b=some o:=PySem.W.of_hideAll (trk h H) e
 refine ⟨e',?_⟩
 cases q:H b with
 | none=>rfl
 | some x =>
  have hm:b∈trk h H:=K5.mpr ⟨S5.mpr (J0 e'),by simp[q]⟩
  have z:(hidT h H).get? b=none:=PySem.W.hideAll_none (trk h H) hm
  rw[z]at e;cases e
noncomputable def allNews(g h:Heap)(L:Addr):List (Addr×Obj):=(G3 h.objs.size).filterMap λa=>if a=L\/(g.get? a).isSome=true then none else (h.get? a).map λo=>(a,o)
noncomputable def rest(g h:Heap)(L d:Addr):List (Addr×Obj):=(allNews g h L).filter λp=>decide (p.1≠d)
noncomputable def BmOk(mg:Str->Option Value)(h:Heap):Prop:=∃bm o,mg "__builtins__"=some (.ref bm)/\bm≠builtinsNs/\h.get? bm=some o/\o.cls=.type "module"/\o.dict=some builtinsNs/\o.data=.plain
structure Mod(K:n0)(mg:Str->Option Value)(base:Heap):Prop where
 kin:K.In base
 glob:base.Ns mainGlobals mg
 blt:∃mb,base.Ns builtinsNs mb/\∀x:Str,x ≠ "__name__"->mb x=bootBuiltins x
 nolimit:base.NoLimit
 bm:BmOk mg base
structure Cx where
 prog:Program
 w:World
 K:n0
 mg:Str->Option Value
 base:Heap
 A:Around
 N:List Str
 s₀:Shared
 H₀:Hp
 env:Env
 outer:List Env
 stack:List Env
 ex:List Addr
 fn:Str->Bool
 calm:Bool
 pn:List (Addr×Obj)
 xe:Value->Shared->Prop
noncomputable def frs(l:List Env):List Addr:=l.filterMap (·.frame)
noncomputable abbrev Cx.fs(X:Cx):List Addr:=frs X.outer
noncomputable def Vis(sc:Scope)(x:Str):Prop:=sc.names.lookup x=some .local\/sc.names.lookup x=some .cell\/sc.names.lookup x=some .free
noncomputable def Loc(sc:Scope)(x:Str):Prop:=sc.names.lookup x=some .local\/sc.names.lookup x=some .cell
noncomputable def Look(env:Env)(h:Heap)(m:Str->Option Value)(x:Str)(u:Value):Prop :=
 (env.kindOf x=some .local/\m x=some u)\/((env.kindOf x=some .cell\/env.kindOf x=some .free)/\∃c,env.cells.lookup x=some c/\h.IsCell c (some u))
structure Cx.Ok(X:Cx):Prop where
 mod:Mod X.K X.mg X.base
 kind:X.env.scope.kind=.function
 glob:X.env.globals=mainGlobals
 blt:X.env.builtins=builtinsNs
 above:X.s₀.heap.objs.size<=X.env.locals
 inj:∀x y c,X.env.cells.lookup x=some c->X.env.cells.lookup y=some c->x=y
 has:∀x,(X.env.kindOf x=some .cell\/X.env.kindOf x=some .free)->∃c,X.env.cells.lookup x=some c
 cab:∀x c,X.fn x=true->X.env.cells.lookup x=some c->X.s₀.heap.objs.size<=c
 hd:X.calm=true->X.A.handled=none
 frames:X.A.frames=some X.stack
 stk:X.stack=X.outer\/(X.stack=X.env :: X.outer/\X.env.frame=some X.env.locals)
 exf:∀b∈X.ex,b≠X.env.locals/\∀x c,X.env.cells.lookup x=some c->c≠b
 bs:∀b o,X.base.get? b=some o->X.s₀.heap.get? b=some o/\X.H₀ b=none
 bsz:X.base.objs.size<=X.s₀.heap.objs.size
 noex:∀b o,X.base.get? b=some o->b∉X.ex
 exfs:∀b∈X.ex,b∉X.fs
 funs:X.s₀.heap.FunFrames X.base X.outer
 frf:∀b∈X.fs,X.H₀ b=none
structure Inv(X:Cx)(pins:List (Addr×Obj))(σ:List (Option V))(H:Hp)(s:Shared):Prop where
 ok:X.Ok
 os:s.os=X.s₀.os
 bare:AllBare s.gens
 base:Un X.fs X.ex X.H₀ H X.s₀.heap s.heap
 loc:∃m,s.heap.Ns X.env.locals m/\∀(i:Nat) (x:Str) (v:V),X.N[i]?=some x->σ[i]?=some (some v)->Vis X.env.scope x->∃u,RelV v u/\Look X.env s.heap m x u
 cell:∀x c,X.env.cells.lookup x=some c->∃v,s.heap.IsCell c v
 free:H X.env.locals=none
 freeC:∀x c,X.env.cells.lookup x=some c->H c=none
 pin:∀p∈X.pn++pins,s.heap.get? p.1=some p.2/\H p.1=none/\p.1≠X.env.locals/\p.1∉X.fs/\∀v,p.2.data≠.cell v
 hok:HOk X.prog X.w H s.heap
 len:σ.length=X.N.length
section
variable {X:Cx}{pins:List (Addr×Obj)}{σ:List (Option V)}{H H':Hp}{s:Shared}{h':Heap}
theorem Cx.Ok.nofr(ok:X.Ok){b:Addr}{o:Obj}(e:X.base.get? b=some o):b∉X.fs:=λhb=>by
 have:=(ok.funs.mem hb).1
 rw[e]at this;cases this
theorem Inv.bs(I:Inv X pins σ H s):∀b o,X.base.get? b=some o->s.heap.get? b=some o/\H b=none:=λb o e =>
 ⟨I.base.keep b o (I.ok.bs b o e).1 (I.ok.bs b o e).2 (I.ok.nofr e) (I.ok.noex b o e),I.base.free b o (I.ok.bs b o e).1 (I.ok.bs b o e).2 (I.ok.noex b o e)⟩
theorem Inv.bk(I:Inv X pins σ H s):∀b o,X.base.get? b=some o->s.heap.get? b=some o:=λb o e=>(I.bs b o e).1
theorem Inv.mod(I:Inv X pins σ H s):Mod X.K X.mg X.base:=I.ok.mod
theorem Inv.kIn(I:Inv X pins σ H s):X.K.In s.heap:=I.ok.mod.kin.keeps I.bk
theorem Inv.lt(I:Inv X pins σ H s):X.env.locals < s.heap.objs.size:=let ⟨_,hn,_⟩:=I.loc;hn.lt
theorem Inv.sz(I:Inv X pins σ H s):X.s₀.heap.objs.size<=s.heap.objs.size:=Q0 I.ok.above (U5 I.lt)
theorem Inv.nofs(I:Inv X pins σ H s){a:Addr}(h:s.heap.objs.size<=a):a∉X.fs:=λhb=>by
 obtain⟨_,o,ho,_⟩:=I.ok.funs.mem hb
 exact absurd (T0 (J0 ho) (Q0 I.sz h)) (Z2 _)
theorem Inv.cne(I:Inv X pins σ H s):∀x c,X.env.cells.lookup x=some c->c≠X.env.locals:=λx c e z=>by
 obtain⟨v,o,ho,hd⟩:=I.cell x c e
 obtain⟨m,⟨o',es,ep,ho',hd',_⟩,_⟩:=I.loc
 rw[z,ho']at ho;cases ho;rw[hd']at hd;cases hd
theorem Inv.funs(I:Inv X pins σ H s):s.heap.FunFrames X.base X.outer:=by
 have all:∀(l:List Env),(∀b∈frs l,b∈X.fs)->X.s₀.heap.FunFrames X.base l->s.heap.FunFrames X.base l:=by
  intro l
  induction l with
  | nil=>intro _ _;trivial
  | cons env r ih =>
   intro hs hl
   obtain⟨hk,⟨L,o,hf,hn,ho,hd⟩,hr⟩:=hl
   have hL:L∈X.fs:=hs L (by unfold frs;rw[v7,hf];exact P0)
   obtain⟨sl,e⟩:=I.base.slot L o ho (I.ok.frf L hL) hL λz=>I.ok.exfs L z hL
   exact ⟨hk,⟨L,_,hf,hn,e,hd⟩,ih (λb hb=>hs b (by unfold frs;rw[v7,hf];exact L0 _ hb)) hr⟩
 exact all X.outer (λ_ hb=>hb) I.ok.funs
theorem Inv.stack(I:Inv X pins σ H s):s.heap.FunFrames X.base X.stack:=by
 rcases I.ok.stk with e|⟨e,hf⟩
 ·rw[e];exact I.funs
 ·rw[e]
  obtain⟨m,hn,_⟩:=I.loc
  refine .cons (by rw[I.ok.kind];decide) hf hn ?_ I.funs
  exact Heap.get?_none_of_le (Q0 I.ok.bsz I.ok.above)
theorem Inv.stkSub(I:Inv X pins σ H s):∀b∈frs X.stack,b∈X.env.locals :: X.fs:=λb hb=>by
 rcases I.ok.stk with e|⟨e,hf⟩
 ·rw[e]at hb;exact L0 _ hb
 ·rw[e]at hb
  unfold frs at hb
  rw[v7,hf]at hb
  exact hb
theorem Inv.stkFree(I:Inv X pins σ H s):∀b∈frs X.stack,H b=none:=λb hb=>by
 rcases X0.mp (I.stkSub b hb) with e|hb
 ·rw[e];exact I.free
 ·obtain⟨_,o,ho,_⟩:=I.ok.funs.mem hb
  exact I.base.free b o ho (I.ok.frf b hb) λz=>I.ok.exfs b z hb
theorem Inv.step{g':Array GenState}{t':Nat}{d':Drawn}{ch:List Addr}(I:Inv X pins σ H s)
  (hch:∀b∈ch,(b∈X.ex\/X.s₀.heap.objs.size<=b)/\b≠X.env.locals/\(∀x c,X.env.cells.lookup x=some c->c≠b)/\∀p∈X.pn++pins,p.1≠b)
  (keep:∀b o,b≠X.env.locals->b∉X.fs->b∉ch->s.heap.get? b=some o->H b=none->h'.get? b=some o)
  (slot:∀b o,b≠X.env.locals->b∈X.fs->b∉ch->s.heap.get? b=some o->H b=none->∃sl,h'.get? b=some { o with slots:=sl }) (free:∀b o,b∉ch->s.heap.get? b=some o->H b=none->H' b=none)
  (there:∀b o,b∉ch->s.heap.get? b=some o->∃o',h'.get? b=some o')
  (tups:∀b xs,H b=some (.tup xs)->H' b=some (.tup xs)) (frzs:∀b o u,H b=some (.frz o u)->H' b=some (.frz o u)) (tbls:∀b ps,H b=some (.tbl ps)->∃more,H' b=some (.tbl (ps++more)))
  (ns:∀m,s.heap.Ns X.env.locals m->h'.Ns X.env.locals m) (hok:HOk X.prog X.w H' h') (hg:AllBare g') :
  Inv X pins σ H' { s with heap:=h',gens:=g',drawn:=d',toks:=t' }:=by
 have neL:∀b o,X.s₀.heap.get? b=some o->b≠X.env.locals:=λb o e=>Y0 (T0 (J0 e) I.ok.above)
 have neC:∀b o,X.s₀.heap.get? b=some o->b∉X.ex->b∉ch:=λb o e hx hb=>by
  rcases (hch b hb).1 with z|z
  ·exact hx z
  ·exact absurd (T0 (J0 e) z) (Z2 _)
 have cellK:∀x c,X.env.cells.lookup x=some c->∀v,s.heap.IsCell c v->h'.IsCell c v:=λx c e v ⟨o,ho,hd⟩=>by
  have nch:c∉ch:=λz=>(hch c z).2.2.1 x c e rfl
  by_cases hc:c∈X.fs
  ·obtain⟨sl,q⟩:=slot c o (I.cne x c e) hc nch ho (I.freeC x c e)
   exact ⟨_,q,hd⟩
  ·exact ⟨o,keep c o (I.cne x c e) hc nch ho (I.freeC x c e),hd⟩
 refine ⟨I.ok,I.os,hg,⟨λb o e n hb hx=>?_,λb o e n hb hx=>?_,λb o e n hx=>?_,λb o e hx=>?_,λb xs e=>tups b xs (I.base.tups b xs e),λb o xs e=>frzs b o xs (I.base.frzs b o xs e),λb ps e=>?_⟩,?_,λx c e=>?_,?_,λx c e=>?_,λp hp=>?_,hok,I.len⟩
 ·exact keep b o (neL b o e) hb (neC b o e hx) (I.base.keep b o e n hb hx) (I.base.free b o e n hx)
 ·obtain⟨sl,e1⟩:=I.base.slot b o e n hb hx
  obtain⟨sl',e2⟩:=slot b _ (neL b o e) hb (neC b o e hx) e1 (I.base.free b o e n hx)
  exact ⟨sl',e2⟩
 ·obtain⟨o',e1⟩:=I.base.there b o e hx
  exact free b o' (neC b o e hx) e1 (I.base.free b o e n hx)
 ·obtain⟨o',e1⟩:=I.base.there b o e hx
  exact there b o' (neC b o e hx) e1
 ·obtain⟨m1,e1⟩:=I.base.tbls b ps e
  obtain⟨m2,e2⟩:=tbls b _ e1
  exact ⟨m1++m2,by rw[e2,Array.append_assoc]⟩
 ·obtain⟨m,hn,hl⟩:=I.loc
  refine ⟨m,ns m hn,λi x v e1 e2 e3=>?_⟩
  obtain⟨u,r,l⟩:=hl i x v e1 e2 e3
  refine ⟨u,r,?_⟩
  rcases l with l|⟨k,c,e,z⟩
  ·exact .inl l
  ·exact .inr ⟨k,c,e,cellK x c e _ z⟩
 ·obtain⟨v,z⟩:=I.cell x c e
  exact ⟨v,cellK x c e v z⟩
 ·obtain⟨m,⟨o,_,_,ho,_⟩,_⟩:=I.loc
  exact free _ o (λz=>(hch _ z).2.1 rfl) ho I.free
 ·obtain⟨v,o,ho,hd⟩:=I.cell x c e
  exact free c o (λz=>(hch c z).2.2.1 x c e rfl) ho (I.freeC x c e)
 ·obtain⟨e,n,ne,nf,d⟩:=I.pin p hp
  have nch:p.1∉ch:=λz=>(hch p.1 z).2.2.2 p hp rfl
  exact ⟨keep p.1 p.2 ne nf nch e n,free p.1 p.2 nch e n,ne,nf,d⟩
theorem Inv.un{t':Nat}(I:Inv X pins σ H s)(u:Un X.fs [] H H' s.heap h')(hok:HOk X.prog X.w H' h'):Inv X pins σ H' { s with heap:=h',toks:=t' }:=by
 obtain⟨m,⟨o,es,ep,ho,r⟩,_⟩:=id I.loc
 obtain⟨sl,hL⟩:=u.any ho I.free (by simp)
 exact I.step (g':=s.gens) (d':=s.drawn) (ch:=[]) (λ_ z=>nomatch z) (λb o _ hb _ e n=>u.keep b o e n hb (by simp)) (λb o _ hb _ e n=>u.slot b o e n hb (by simp)) (λb o _ e n=>u.free b o e n (by simp)) (λb o _ e=>u.there b o e (by simp)) u.tups u.frzs u.tbls (λm' hm=>by
   obtain⟨o',es',ep',ho',r'⟩:=hm
   rw[ho]at ho';cases ho'
   exact ⟨_,es',ep',hL,r'⟩) hok I.bare
theorem Inv.call{g':Array GenState}{t':Nat}{d':Drawn}{ch:List Addr}(I:Inv X pins σ H s)(u:Un (frs X.stack) ch H H' s.heap h')(hok:HOk X.prog X.w H' h')(hg:AllBare g')
  (hch:∀b∈ch,(b∈X.ex\/X.s₀.heap.objs.size<=b)/\b≠X.env.locals/\(∀x c,X.env.cells.lookup x=some c->c≠b)/\∀p∈X.pn++pins,p.1≠b) :
  Inv X pins σ H' { s with heap:=h',gens:=g',drawn:=d',toks:=t' }:=by
 obtain⟨m,⟨o,es,ep,ho,r⟩,_⟩:=id I.loc
 obtain⟨sl,hL⟩:=u.any ho I.free λz=>(hch _ z).2.1 rfl
 exact I.step (ch:=ch) hch (λb o hL hb hc e n=>u.keep b o e n (λz=>(X0.mp (I.stkSub b z)).elim hL hb) hc) (λb o _ _ hc e n=>u.any e n hc) (λb o hc e n=>u.free b o e n hc) (λb o hc e=>u.there b o e hc) u.tups u.frzs u.tbls (λm' hm=>by
   obtain⟨o',es',ep',ho',r'⟩:=hm
   rw[ho]at ho';cases ho'
   exact ⟨_,es',ep',hL,r'⟩) hok hg
theorem Inv.turned{t':Nat}{it:Addr}(I:Inv X pins σ H s)(k:∀b o,b≠it->s.heap.get? b=some o->h'.get? b=some o)(hn:H it=none)(hL:it≠X.env.locals)
  (h1:it∈X.ex\/X.s₀.heap.objs.size<=it) (h2:∀x c,X.env.cells.lookup x=some c->c≠it) (h3:∀p∈X.pn++pins,p.1≠it):Inv X pins σ H { s with heap:=h',toks:=t' }:=by
 have nit:∀b u,H b=some u->b≠it:=λb u e z=>by rw[z,hn]at e;cases e
 refine I.step (g':=s.gens) (d':=s.drawn) (ch:=[it]) (λb hb=>?_) (λb o _ _ hc e _=>k b o (λz=>hc (by simp[z])) e) (λb o _ _ hc e _=>⟨o.slots,k b o (λz=>hc (by simp[z])) e⟩) (λ_ _ _ _ n=>n)
  (λb o hc e=>⟨o,k b o (λz=>hc (by simp[z])) e⟩) (λ_ _ e=>e) (λ_ _ _ e=>e) (λb ps e=>⟨#[],by rw[e];simp⟩) (λm hm=>?_) (λb u e=>?_) I.bare
 ·have e:b=it:=by simpa using hb
  subst e
  exact ⟨h1,hL,h2,h3⟩
 ·obtain⟨o,es,ep,ho,r⟩:=hm
  exact ⟨o,es,ep,k _ o (v3 hL) ho,r⟩
 ·refine (I.hok b u e).stay (λc v hc q=>k c v ?_ q) (λ_ q=>q) λ_ _ q=>q
  rcases hc with z|z
  ·rw[z];exact nit b u e
  ·exact nit c _ z
theorem Inv.tok(I:Inv X pins σ H s)(t:Nat):Inv X pins σ H { s with toks:=t }:=I.un (h':=s.heap) (t':=t) Un.refl I.hok
theorem Inv.kept{t':Nat}(I:Inv X pins σ H s)(k:∀b u,s.heap.get? b=some u->h'.get? b=some u):Inv X pins σ H { s with heap:=h',toks:=t' }:=I.un (Un.kept k) (I.hok.kept k)
theorem Inv.laid{a:Addr}{o:HO}{t':Nat}(I:Inv X pins σ H s)(k:∀b u,s.heap.get? b=some u->h'.get? b=some u)(hp:s.heap.objs.size<=a)(new:ObjOk X.prog X.w (upd H a o) h' a o) :
  Inv X pins σ (upd H a o) { s with heap:=h',toks:=t' }:=I.un (Un.laid k hp (I.hok.fresh hp)) (I.hok.laid k hp new)
theorem Inv.write{x e:Addr}{o:HO}{t':Nat}(I:Inv X pins σ H s)(mu:Mut (H x))(he:e=x\/H e=some (.own x))(k:∀b u,b≠e->s.heap.get? b=some u->h'.get? b=some u)(heo:∃u,h'.get? e=some u)
  (new:ObjOk X.prog X.w (upd H x o) h' x o):Inv X pins σ (upd H x o) { s with heap:=h',toks:=t' }:=I.un (Un.write mu he k heo) (I.hok.write mu he k heo new)
theorem Inv.pins_of{pins':List (Addr×Obj)}(I:Inv X pins σ H s)(h:∀p∈pins',s.heap.get? p.1=some p.2/\H p.1=none/\p.1≠X.env.locals/\p.1∉X.fs/\∀v,p.2.data≠.cell v):Inv X pins' σ H s :=
 ⟨I.ok,I.os,I.bare,I.base,I.loc,I.cell,I.free,I.freeC,λp hp=>(R0.mp hp).elim (λz=>I.pin p (n4 _ z)) (h p),I.hok,I.len⟩
theorem nodup_ix{N:List Str}(hN:N.Nodup){i j:Nat}{x:Str}(a:N[i]?=some x)(b:N[j]?=some x):i=j:=by
 obtain⟨h1,e1⟩:=W0.mp a
 obtain⟨h2,e2⟩:=W0.mp b
 exact (List.getElem_inj hN).mp (e1.trans e2.symm)
theorem store_ok2{M:Model}{A:Around}{E:Value->Shared->Prop}{i:Nat}{x:Str}{v:V}{u:Value}{Q:Unit->Shared->Prop}(I:Inv X pins σ H s)(hN:X.N.Nodup)(hi:X.N[i]?=some x)(hx:Loc X.env.scope x)(r:RelV v u)
  (h:∀s',Inv X pins (σ.set i (some v)) H s'->(∃a,Y2 a s.heap s'.heap/\(a=X.env.locals\/X.env.cells.lookup x=some a))->Q () s') (hf:X.fn x=true\/X.env.scope.names.lookup x=some .local:=by first|exact .inl rfl|exact .inr rfl|assumption):wpAny M A (storeName X.env x u) Q E s:=by
 obtain⟨m,hn,hl⟩:=id I.loc
 have hcls:(X.env.scope.kind==.class||(X.env.scope.kind==.module&&X.env.locals != X.env.globals))=false:=by rw[I.ok.kind];rfl
 have hiσ:i < σ.length:=by rw[I.len];exact (W0.mp hi).1
 have cne:=I.cne
 have tracked:∀{a:Addr}{h':Heap},(∃o,s.heap.get? a=some o/\H a=none)->Y2 a s.heap h'->HOk X.prog X.w H h':=λ{a h'} ha hs b ob e=>by
  obtain⟨_,_,hfree⟩:=ha
  refine (I.hok b ob e).stay (λc w' hc q=>(hs.2 c ?_).trans q) (λ_ q=>q) λ_ _ q=>q
  rintro rfl
  rcases hc with rfl|hc
  ·rw[hfree]at e;cases e
  ·rw[hfree]at hc;cases hc
 rcases hx with hk|hk
 ·refine wpAny_storeName_local hk hn (λh' hn' hs=>?_) hcls
  obtain⟨oL,_,_,hoL,_⟩:=id hn
  refine h _ ⟨I.ok,I.os,I.bare,⟨λb o e n hb hx=>?_,λb o e n hb hx=>?_,I.base.free,λb o e hx=>?_,I.base.tups,I.base.frzs,I.base.tbls⟩,⟨_,hn',λj y v' e1 e2 e3=>?_⟩,λy c e=>?_,I.free,I.freeC,λp hp=>?_,tracked ⟨oL,hoL,I.free⟩ hs,by simpa using I.len⟩ ⟨_,hs,.inl rfl⟩
  ·exact (hs.2 b (Y0 (T0 (J0 e) I.ok.above))).trans (I.base.keep b o e n hb hx)
  ·obtain⟨sl,e1⟩:=I.base.slot b o e n hb hx
   exact ⟨sl,(hs.2 b (Y0 (T0 (J0 e) I.ok.above))).trans e1⟩
  ·obtain⟨o',e1⟩:=I.base.there b o e hx
   exact ⟨o',(hs.2 b (Y0 (T0 (J0 e) I.ok.above))).trans e1⟩
  ·by_cases hj:j=i
   ·subst hj
    rw[hi]at e1;cases e1
    rw[J6 hiσ]at e2
    cases e2
    exact ⟨u,r,.inl ⟨hk,by simp⟩⟩
   ·rw[O1 (v3 hj)]at e2
    obtain⟨u',r',q⟩:=hl j y v' e1 e2 e3
    refine ⟨u',r',?_⟩
    rcases q with⟨k,e⟩|⟨k,c,e,z⟩
    ·refine .inl ⟨k,?_⟩
     have:y≠x:=λe=>hj (nodup_ix hN e1 (e ▸ hi))
     simp[this,e]
    ·exact .inr ⟨k,c,e,z.sameBut hs (cne y c e)⟩
  ·obtain⟨w',z⟩:=I.cell y c e
   exact ⟨w',z.sameBut hs (cne y c e)⟩
  ·obtain⟨e,n,ne,nf,d⟩:=I.pin p hp
   exact ⟨(hs.2 p.1 ne).trans e,n,ne,nf,d⟩
 ·have hfn:X.fn x=true:=by
   rcases hf with z|z
   ·exact z
   ·rw[z]at hk;cases hk
  obtain⟨c,hc⟩:=I.ok.has x (.inl hk)
  obtain⟨w',z⟩:=I.cell x c hc
  refine wpAny_storeName_cell I.ok.kind hk hc z (λh' hc' hs=>?_)
  obtain⟨oc,hoc,hocd⟩:=id z
  refine h { s with heap:=h' } ⟨I.ok,I.os,I.bare,⟨λb o e n hb hx=>?_,λb o e n hb hx=>?_,I.base.free,λb o e hx=>?_,I.base.tups,I.base.frzs,I.base.tbls⟩,⟨m,hn.sameBut hs (v3 (cne x c hc)),λj y v' e1 e2 e3=>?_⟩,λy c' e=>?_,I.free,I.freeC,λp hp=>?_,tracked ⟨oc,hoc,I.freeC x c hc⟩ hs,by simpa using I.len⟩ ⟨c,hs,.inr hc⟩
  ·exact (hs.2 b (Y0 (T0 (J0 e) (I.ok.cab x c hfn hc)))).trans (I.base.keep b o e n hb hx)
  ·obtain⟨sl,e1⟩:=I.base.slot b o e n hb hx
   exact ⟨sl,(hs.2 b (Y0 (T0 (J0 e) (I.ok.cab x c hfn hc)))).trans e1⟩
  ·obtain⟨o',e1⟩:=I.base.there b o e hx
   exact ⟨o',(hs.2 b (Y0 (T0 (J0 e) (I.ok.cab x c hfn hc)))).trans e1⟩
  ·by_cases hj:j=i
   ·subst hj
    rw[hi]at e1;cases e1
    rw[J6 hiσ]at e2
    cases e2
    exact ⟨u,r,.inr ⟨.inl hk,c,hc,hc'⟩⟩
   ·rw[O1 (v3 hj)]at e2
    obtain⟨u',r',q⟩:=hl j y v' e1 e2 e3
    refine ⟨u',r',?_⟩
    rcases q with q|⟨k,c',e,z'⟩
    ·exact .inl q
    ·refine .inr ⟨k,c',e,z'.sameBut hs ?_⟩
     rintro rfl
     exact hj (nodup_ix hN e1 (I.ok.inj _ _ _ e hc ▸ hi))
  ·by_cases hcc:c'=c
   ·subst hcc;exact ⟨_,hc'⟩
   ·obtain⟨w2,z2⟩:=I.cell y c' e
    exact ⟨w2,z2.sameBut hs hcc⟩
  ·obtain⟨e,n,ne,nf,d⟩:=I.pin p hp
   refine ⟨(hs.2 p.1 ?_).trans e,n,ne,nf,d⟩
   intro q
   rw[q,hoc]at e
   have q':oc=p.2:=N1 e
   exact d w' (by rw[<- q'];exact hocd)
theorem store_ok{M:Model}{A:Around}{E:Value->Shared->Prop}{i:Nat}{x:Str}{v:V}{u:Value}{Q:Unit->Shared->Prop}(I:Inv X pins σ H s)(hN:X.N.Nodup)(hi:X.N[i]?=some x)(hx:Loc X.env.scope x)(r:RelV v u)
  (h:∀s',Inv X pins (σ.set i (some v)) H s'->Q () s') (hf:X.fn x=true\/X.env.scope.names.lookup x=some .local:=by first|exact .inl rfl|exact .inr rfl|assumption):wpAny M A (storeName X.env x u) Q E s :=
 store_ok2 I hN hi hx r (λs' I' _=>h s' I') hf
theorem Inv.call'{s':Shared}{ch:List Addr}(I:Inv X pins σ H s)(ho:s'.os=s.os)(u:Un (frs X.stack) ch H H' s.heap s'.heap)(hok:HOk X.prog X.w H' s'.heap)(hg:AllBare s'.gens)
  (hch:∀b∈ch,(b∈X.ex\/X.s₀.heap.objs.size<=b)/\b≠X.env.locals/\(∀x c,X.env.cells.lookup x=some c->c≠b)/\∀p∈X.pn++pins,p.1≠b):Inv X pins σ H' s':=by
 obtain⟨h',g',d',t',o'⟩:=s'
 have e:o'=s.os:=ho
 subst e
 exact I.call (g':=g') (t':=t') (d':=d') u hok hg hch
end
noncomputable abbrev XK:=Value->Option Addr->Hp->Prop
noncomputable abbrev St:=List (Option V)
noncomputable abbrev VK:=V->Hp->Prop
noncomputable abbrev TE:=St->Hp->VK->Prop
noncomputable abbrev TT:=St->Hp->(Bool->Hp->Prop)->Prop
noncomputable abbrev TA:=St->Hp->(List V->Hp->Prop)->Prop
structure Ends where
 nx:St->Hp->Prop
 rt:VK
 bk:St->Hp->Prop:=λ_ _=>False
 ct:St->Hp->Prop:=λ_ _=>False
noncomputable abbrev TS:=Ends->St->Hp->Prop
noncomputable def EP(X:Cx)(pins:List (Addr×Obj))(σ:St)(Q:VK)(u:Value)(s':Shared):Prop:=∃v H',Inv X pins σ H' s'/\RelV v u/\Q v H'
noncomputable def TP(X:Cx)(pins:List (Addr×Obj))(σ:St)(Q:Bool->Hp->Prop)(b:Bool)(s':Shared):Prop:=∃H',Inv X pins σ H' s'/\Q b H'
noncomputable def AP(X:Cx)(pins:List (Addr×Obj))(σ:St)(Q:List V->Hp->Prop)(us:List Value)(s':Shared):Prop:=∃vs H',Inv X pins σ H' s'/\Vals vs us/\Q vs H'
noncomputable def SP(X:Cx)(pins:List (Addr×Obj))(D:Ends)(f:Flow)(s':Shared):Prop :=
 match f with
 | .next=>∃σ' H',Inv X pins σ' H' s'/\D.nx σ' H'
 | .brk=>∃σ' H',Inv X pins σ' H' s'/\D.bk σ' H'
 | .cont=>∃σ' H',Inv X pins σ' H' s'/\D.ct σ' H'
 | .ret u=>∃v σ' H',Inv X pins σ' H' s'/\RelV v u/\D.rt v H'
noncomputable def PE(X:Cx)(e:Expr)(t:TE):Prop :=
 ∀(pins:List (Addr×Obj)) (s:Shared) (σ:St) (H:Hp) (Q:VK),Inv X pins σ H s->t σ H Q->wpAny (model X.prog X.w) X.A (eval e X.env) (EP X pins σ Q) X.xe s
noncomputable def PT(X:Cx)(e:Expr)(t:TT):Prop :=
 ∀(pins:List (Addr×Obj)) (s:Shared) (σ:St) (H:Hp) (Q:Bool->Hp->Prop),Inv X pins σ H s->t σ H Q->wpAny (model X.prog X.w) X.A (isTrue e X.env (eval e X.env)) (TP X pins σ Q) X.xe s
noncomputable def PW(X:Cx)(e:Expr)(t:TT):Prop :=
 ∀(whole:Sem Value) (pins:List (Addr×Obj)) (s:Shared) (σ:St) (H:Hp) (Q:Bool->Hp->Prop),Inv X pins σ H s->t σ H Q->wpAny (model X.prog X.w) X.A (isTrue e X.env whole) (TP X pins σ Q) X.xe s
theorem PW.pt{X:Cx}{e:Expr}{t:TT}(h:PW X e t):PT X e t:=h _
noncomputable def PA(X:Cx)(es:List Expr)(t:TA):Prop :=
 ∀(pos:Pos) (pins:List (Addr×Obj)) (s:Shared) (σ:St) (H:Hp) (Q:List V->Hp->Prop),Inv X pins σ H s->t σ H Q->wpAny (model X.prog X.w) X.A (spliced (backTo pos (starEach es X.env))) (AP X pins σ Q) X.xe s
noncomputable def PS(X:Cx)(st:Stmt)(t:TS):Prop :=
 ∀(pins:List (Addr×Obj)) (s:Shared) (σ:St) (H:Hp) (D:Ends),Inv X pins σ H s->t D σ H->wpAny (model X.prog X.w) X.A (exec st X.env) (SP X pins D) X.xe s
noncomputable def PSs(X:Cx)(st:List Stmt)(t:TS):Prop :=
 ∀(pins:List (Addr×Obj)) (s:Shared) (σ:St) (H:Hp) (D:Ends),Inv X pins σ H s->t D σ H->wpAny (model X.prog X.w) X.A (execs st X.env) (SP X pins D) X.xe s
theorem thn{α:Type}{t:Sem α}{Q Q':α->Shared->Prop}{M:Model}{A:Around}{E:Value->Shared->Prop}{s:Shared}(h:wpAny M A t Q E s)(hQ:∀a s,Q a s->Q' a s):wpAny M A t Q' E s:=wpAny_mono h hQ λ_ _ x=>x
section
variable {X:Cx}
noncomputable def tVar(i:Nat):TE:=λσ H Q=>∃v,σ[i]?=some (some v)/\Q v H
noncomputable def tC(v:V):TE:=λ_ H Q=>Q v H
theorem pe_var{i:Nat}{x:Str}{pos:Pos}(hN:X.N[i]?=some x)(hv:Vis X.env.scope x)(hd:(x==("__debug__":Str))=false:=by decide)(hcd:(x==("__classdict__":Str))=false:=by decide):PE X (.Name x pos) (tVar i):=by
 intro pins s σ H Q I h
 obtain⟨v,e,h⟩:=h
 obtain⟨m,hn,hl⟩:=I.loc
 obtain⟨u,r,l⟩:=hl i x v hN e hv
 have fin:EP X pins σ Q u s:=⟨v,H,I,r,h⟩
 rcases l with⟨hk,hm⟩|⟨hk,c,hc,hcell⟩
 ·exact wpAny_Name (wpAny_loadName_local I.ok.kind hk hn hm fin) hd
 ·rcases hk with hk|hk
  ·exact wpAny_Name (wpAny_loadName_cell I.ok.kind hk hc hcell fin) hd
  ·exact wpAny_Name (wpAny_loadName_free I.ok.kind hk hc hcell fin hcd) hd
theorem pe_int{i j pos}:PE X (.Constant (.int i) j pos) (tC (.int i)):=λ_ _ _ H _ I h=>wpAny_Constant_int ⟨.int i,H,I.tok _,⟨_,rfl⟩,h⟩
theorem pe_bl{b j pos}:PE X (.Constant (.bool b) j pos) (tC (.bl b)):=λ_ _ _ H _ I h=>Constant_bool ⟨.bl b,H,I,rfl,h⟩
theorem pe_non{j pos}:PE X (.Constant .none j pos) (tC .non):=λ_ _ _ H _ I h=>Constant_none ⟨.non,H,I,rfl,h⟩
theorem pe_str{x j pos}:PE X (.Constant (.str x) j pos) (tC (.str x)):=λ_ _ _ H _ I h=>Calls.Constant_str ⟨.str x,H,I.tok _,⟨_,rfl⟩,h⟩
noncomputable def Gl(X:Cx)(x:Str):Prop:=X.env.kindOf x=some .globalImplicit
theorem ld_glob{E:Value->Shared->Prop}{pins:List (Addr×Obj)}{s:Shared}{σ:St}{H:Hp}{x:Str}{u:Value}{pos:Pos}{Q:Value->Shared->Prop}(I:Inv X pins σ H s)(hg:Gl X x)(hm:X.mg x=some u)(h:Q u s)
  (hd:(x==("__debug__":Str))=false:=by decide):wpAny (model X.prog X.w) X.A (eval (.Name x pos) X.env) Q E s :=
 Calls.Name_function_global I.ok.kind hg (Calls.loadGlobal_global (by rw[I.ok.glob];exact I.mod.glob.keeps I.bk) hm h) hd
theorem ld_blt{E:Value->Shared->Prop}{pins:List (Addr×Obj)}{s:Shared}{σ:St}{H:Hp}{x:Str}{u:Value}{pos:Pos}{Q:Value->Shared->Prop}(I:Inv X pins σ H s)(hg:Gl X x)(hm:X.mg x=none)(hv:bootBuiltins x=some u)(h:Q u s)
  (hn:x ≠ "__name__":=by decide) (hd:(x==("__debug__":Str))=false:=by decide):wpAny (model X.prog X.w) X.A (eval (.Name x pos) X.env) Q E s:=by
 obtain⟨mb,h1,h2⟩:=I.mod.blt
 exact Calls.Name_function_global I.ok.kind hg (Calls.loadGlobal_builtin (by rw[I.ok.glob];exact I.mod.glob.keeps I.bk) hm (by rw[I.ok.blt];exact h1.keeps I.bk) ((h2 x hn).trans hv) h) hd
theorem pe_bltn{x:Str}{v:V}{u:Value}{pos:Pos}(hg:Gl X x)(hm:X.mg x=none)(hv:bootBuiltins x=some u)(r:RelV v u)(hn:x ≠ "__name__":=by decide)(hd:(x==("__debug__":Str))=false:=by decide):PE X (.Name x pos) (tC v) :=
 λ_ _ _ H _ I h=>ld_blt I hg hm hv ⟨v,H,I,r,h⟩ hn hd
variable {a b:Expr}{ta tb:TE}{pos:Pos}
noncomputable def tB(t:TE):TT:=λσ H Q=>t σ H λx H1=>∃c,x=.bl c/\Q c H1
theorem pt_val{e:Expr}{t:TE}(h:PE X e t)(he:∀whole,isTrue e X.env whole=(do let v<-whole;standAt e.pos;holding [v] (truthy v)):=by intro _;rfl):PT X e (tB t):=by
 intro pins s σ H Q I hw
 refine isTrue_plain (thn (h pins s σ H _ I hw) λv s1 ⟨x,H1,I1,r1,q1⟩=>?_) (he _)
 obtain⟨d,rfl,q⟩:=q1
 cases r1
 exact wpAny_truthy_bool ⟨H1,I1,q⟩
variable {tA tB':TT}{rest:List Expr}
noncomputable def tAnd(t u:TT):TT:=λσ H Q=>t σ H λc H1=>if c=true then u σ H1 Q else Q false H1
noncomputable def tOr(t u:TT):TT:=λσ H Q=>t σ H λc H1=>if c=true then Q true H1 else u σ H1 Q
noncomputable def tNot(t:TT):TT:=λσ H Q=>t σ H λc H1=>Q (!c) H1
theorem pw_and1(ha:PT X a tA):PW X (.BoolOp .And [a] pos) tA:=by
 intro wh pins s σ H Q I h
 refine isTrue_and (thn (ha pins s σ H Q I h) λc s1 e=>?_)
 cases c with
 | true=>exact isTrue_and_nil e
 | false=>exact e
theorem pw_or1(ha:PT X a tA):PW X (.BoolOp .Or [a] pos) tA:=by
 intro wh pins s σ H Q I h
 refine isTrue_or (thn (ha pins s σ H Q I h) λc s1 e=>?_)
 cases c with
 | false=>exact isTrue_or_nil e
 | true=>exact e
theorem pw_and(ha:PT X a tA)(hb:PW X (.BoolOp .And (b :: rest) pos) tB'):PW X (.BoolOp .And (a :: b :: rest) pos) (tAnd tA tB'):=by
 intro wh pins s σ H Q I h
 refine isTrue_and (thn (ha pins s σ H _ I h) λc s1 ⟨H1,I1,q1⟩=>?_)
 cases c with
 | true=>exact hb wh pins s1 σ H1 Q I1 q1
 | false=>exact ⟨H1,I1,q1⟩
theorem pw_or(ha:PT X a tA)(hb:PW X (.BoolOp .Or (b :: rest) pos) tB'):PW X (.BoolOp .Or (a :: b :: rest) pos) (tOr tA tB'):=by
 intro wh pins s σ H Q I h
 refine isTrue_or (thn (ha pins s σ H _ I h) λc s1 ⟨H1,I1,q1⟩=>?_)
 cases c with
 | true=>exact ⟨H1,I1,q1⟩
 | false=>exact hb wh pins s1 σ H1 Q I1 q1
theorem pt_not(ha:PT X a tA):PT X (.UnaryOp .Not a pos) (tNot tA):=by
 intro pins s σ H Q I h
 exact isTrue_not (ha pins s σ H (λc H1=>Q (!c) H1) I h)
noncomputable def tAndV(ta tb:TE):TE:=λσ H Q=>ta σ H λx H1=>∃c,x=.bl c/\if c=true then tb σ H1 Q else Q (.bl false) H1
noncomputable def tNotV(ta:TE):TE:=λσ H Q=>ta σ H λx H1=>∃c,x=.bl c/\Q (.bl (!c)) H1
theorem pe_one{op}{t:TE}(h:PE X a t):PE X (.BoolOp op [a] pos) t:=λpins s σ H Q I hw=>BoolOp_one (h pins s σ H Q I hw)
theorem pe_and(ha:PE X a ta)(hb:PE X (.BoolOp .And (b :: rest) pos) tb):PE X (.BoolOp .And (a :: b :: rest) pos) (tAndV ta tb):=by
 intro pins s σ H Q I h
 refine BoolOp_and (thn (ha pins s σ H _ I h) λv s1 ⟨x,H1,I1,r1,q1⟩=>?_)
 obtain⟨c,rfl,q1⟩:=q1
 cases r1
 refine wpAny_truthy_bool ?_
 cases c with
 | true=>exact hb pins s1 σ H1 Q I1 q1
 | false=>exact ⟨.bl false,H1,I1,rfl,q1⟩
theorem pe_not(ha:PE X a ta):PE X (.UnaryOp .Not a pos) (tNotV ta):=by
 intro pins s σ H Q I h
 refine UnaryOp_ (thn (ha pins s σ H _ I h) λv s1 ⟨x,H1,I1,r1,q1⟩=>?_)
 obtain⟨c,rfl,q1⟩:=q1
 cases r1
 exact not_of (wpAny_truthy_bool ⟨.bl (!c),H1,I1,rfl,q1⟩)
noncomputable def tIf(t:TT)(ta tb:TE):TE:=λσ H Q=>t σ H λc H1=>if c=true then ta σ H1 Q else tb σ H1 Q
theorem pe_ifExp{c:Expr}(hc:PT X c tA)(ha:PE X a ta)(hb:PE X b tb):PE X (.IfExp c a b pos) (tIf tA ta tb):=by
 intro pins s σ H Q I h
 refine wpAny_IfExp (thn (hc pins s σ H _ I h) λd s1 ⟨H1,I1,q1⟩=>?_)
 cases d with
 | true=>exact ha pins s1 σ H1 Q I1 q1
 | false=>exact hb pins s1 σ H1 Q I1 q1
end
noncomputable def SqL(K:n0)(H:Hp)(a:Addr)(xs:List V):Prop :=
 Rd H a (.lst xs) \/
  ∃(o:Obj) (its:Array Value) (n:Nat),K.lookup a=some o/\o.cls=.type "list"/\o.dict=none/\o.data=.seq its n/\its.size<=sizeLine/\Vals xs its.toList
noncomputable def SqT(K:n0)(H:Hp)(a:Addr)(xs:List V):Prop :=
 Rd H a (.tup xs) \/
  ∃(o:Obj) (its:Array Value) (n:Nat),K.lookup a=some o/\o.cls=.type "tuple"/\o.data=.seq its n/\its.size<=sizeLine/\Vals xs its.toList
noncomputable def absV:Value->Option V
 | .none=>some .non
 | .bool b=>some (.bl b)
 | .int i _=>some (.int i)
 | .str x _=>some (.str x)
 | .bytes b _=>some (.byt b)
 | .float b _=>some (.flt b)
 | .ref a=>some (.ref a)
 | .type n=>some (.ty n)
 | _=>none
theorem RelV.abs{x:V}{u:Value}(r:RelV x u):absV u=some x:=by
 cases x with
 | non=>cases r;rfl
 | bl _=>cases r;rfl
 | int _=>obtain⟨t,rfl⟩:=r;rfl
 | str _=>obtain⟨t,rfl⟩:=r;rfl
 | byt _=>obtain⟨t,rfl⟩:=r;rfl
 | flt _=>obtain⟨t,rfl⟩:=r;rfl
 | ref _=>cases r;rfl
 | ty _=>cases r;rfl
theorem RelV.inj{x y:V}{u:Value}(r:RelV x u)(q:RelV y u):x=y:=N1 (r.abs.symm.trans q.abs)
theorem Vals.inj:∀{xs ys:List V}{us:List Value},Vals xs us->Vals ys us->xs=ys
 | _,_,_,.nil,.nil=>rfl
 | _,_,_,.cons r t,.cons r' t'=>by rw[r.inj r',Vals.inj t t']
section
variable {X:Cx}{pins:List (Addr×Obj)}{σ:St}{H:Hp}{s:Shared}{a:Addr}{xs ys:List V}
theorem SqL.of{K:n0}(h:H a=some (.lst xs)):SqL K H a xs:=.inl (.inl h)
theorem SqT.of{K:n0}(h:H a=some (.tup xs)):SqT K H a xs:=.inl (.inl h)
theorem Inv.list(I:Inv X pins σ H s)(h:SqL X.K H a xs):∃its:List Value,Vals xs its/\PlainL s.heap a its.toArray/\xs.length<=sizeLine:=by
 rcases h with h|⟨o,its,n,hk,hc,hd,hs,hz,r⟩
 ·obtain⟨z,its,n,r,e⟩:=h.ok I.hok
  exact ⟨its,r,⟨_,n,e,rfl,rfl,rfl⟩,z⟩
 ·refine ⟨its.toList,r,⟨o,n,I.kIn a o hk,hc,hd,by simpa using hs⟩,?_⟩
  have e:=r.length
  simp only[S1]at e
  omega
theorem Inv.tuple(I:Inv X pins σ H s)(h:SqT X.K H a xs):∃its:List Value,Vals xs its/\IsTup s.heap a its.toArray/\xs.length<=sizeLine:=by
 rcases h with h|⟨o,its,n,hk,hc,hs,hz,r⟩
 ·obtain⟨z,its,r,p⟩:=h.ok I.hok
  exact ⟨its,r,p.t,z⟩
 ·refine ⟨its.toList,r,⟨o,I.kIn a o hk,hc,n,by simpa using hs⟩,?_⟩
  have e:=r.length
  simp only[S1]at e
  omega
theorem Inv.list_inj(I:Inv X pins σ H s)(h:SqL X.K H a xs)(h':SqL X.K H a ys):xs=ys:=by
 obtain⟨its,r,⟨o,n,e,_,_,d⟩,_⟩:=I.list h
 obtain⟨its',r',⟨o',n',e',_,_,d'⟩,_⟩:=I.list h'
 rw[e]at e';cases e'
 rw[d]at d'
 injection d' with d1 _
 have:its=its':=by simpa using congrArg Array.toList d1
 subst this
 exact r.inj r'
theorem Inv.tuple_inj(I:Inv X pins σ H s)(h:SqT X.K H a xs)(h':SqT X.K H a ys):xs=ys:=by
 obtain⟨its,r,⟨o,e,_,n,d⟩,_⟩:=I.tuple h
 obtain⟨its',r',⟨o',e',_,n',d'⟩,_⟩:=I.tuple h'
 rw[e]at e';cases e'
 rw[d]at d'
 injection d' with d1 _
 have:its=its':=by simpa using congrArg Array.toList d1
 subst this
 exact r.inj r'
end
noncomputable abbrev Cx.wish(X:Cx)(E:Value->Shared->Prop):Cx:={ X with xe:=E }
noncomputable abbrev Cx.nox(X:Cx):Cx:=X.wish λ_ _=>False
theorem Cx.Ok.wish{X:Cx}(ok:X.Ok)(E:Value->Shared->Prop):(X.wish E).Ok :=
 ⟨ok.mod,ok.kind,ok.glob,ok.blt,ok.above,ok.inj,ok.has,ok.cab,ok.hd,ok.frames,ok.stk,ok.exf,ok.bs,ok.bsz,ok.noex,ok.exfs,ok.funs,ok.frf⟩
theorem Cx.Ok.unwish{X:Cx}{E:Value->Shared->Prop}(ok:(X.wish E).Ok):X.Ok :=
 ⟨ok.mod,ok.kind,ok.glob,ok.blt,ok.above,ok.inj,ok.has,ok.cab,ok.hd,ok.frames,ok.stk,ok.exf,ok.bs,ok.bsz,ok.noex,ok.exfs,ok.funs,ok.frf⟩
section
variable {X:Cx}{pins:List (Addr×Obj)}{σ:St}{H:Hp}{s:Shared}{E:Value->Shared->Prop}
theorem Inv.wish(I:Inv X pins σ H s)(E:Value->Shared->Prop):Inv (X.wish E) pins σ H s:=⟨I.ok.wish E,I.os,I.bare,I.base,I.loc,I.cell,I.free,I.freeC,I.pin,I.hok,I.len⟩
theorem Inv.unwish(I:Inv (X.wish E) pins σ H s):Inv X pins σ H s:=⟨I.ok.unwish,I.os,I.bare,I.base,I.loc,I.cell,I.free,I.freeC,I.pin,I.hok,I.len⟩
theorem SP.unwish{D:Ends}{f:Flow}{s':Shared}(h:SP (X.wish E) pins D f s'):SP X pins D f s':=by
 cases f with
 | next=>obtain⟨σ',H',I,q⟩:=h;exact ⟨σ',H',I.unwish,q⟩
 | brk=>obtain⟨σ',H',I,q⟩:=h;exact ⟨σ',H',I.unwish,q⟩
 | cont=>obtain⟨σ',H',I,q⟩:=h;exact ⟨σ',H',I.unwish,q⟩
 | ret u=>obtain⟨v,σ',H',I,r,q⟩:=h;exact ⟨v,σ',H',I.unwish,r,q⟩
theorem PE.nox{e:Expr}{t:TE}(h:PE X.nox e t):PE X e t:=λpins s σ H Q I hw =>
 wpAny_mono (h pins s σ H Q (I.wish _) hw) (λ_ _ ⟨v,H',I',r,q⟩=>⟨v,H',I'.unwish,r,q⟩) λ_ _ z=>False.elim z
theorem PSs.nox{st:List Stmt}{t:TS}(h:PSs X.nox st t):PSs X st t:=λpins s σ H D I hw =>
 wpAny_mono (h pins s σ H D (I.wish _) hw) (λ_ _ q=>q.unwish) λ_ _ z=>False.elim z
end
section
variable {X:Cx}{st:Stmt}{rest:List Stmt}{t u:TS}{e:Expr}{te:TE}{pos:Pos}
noncomputable def tNext:TS:=λD σ H=>D.nx σ H
noncomputable def tSeq(t u:TS):TS:=λD σ H=>t { D with nx:=u D } σ H
theorem pss_nil:PSs X [] tNext:=λ_ _ σ H _ I h=>wpAny_execs_nil ⟨σ,H,I,h⟩
theorem pss_cons(h1:PS X st t)(h2:PSs X rest u):PSs X (st :: rest) (tSeq t u):=by
 intro pins s σ H D I h
 refine wpAny_execs_cons (thn (h1 pins s σ H { D with nx:=u D } I h) λf s1 q=>?_)
 cases f with
 | next =>
  obtain⟨σ',H',I',q⟩:=q
  exact h2 pins s1 σ' H' D I' q
 | ret v=>exact q
 | brk=>exact q
 | cont=>exact q
theorem pss_one(h1:PS X st t):PSs X [st] t:=by
 intro pins s σ H D I h
 refine wpAny_execs_cons (thn (h1 pins s σ H D I h) λf s1 q=>?_)
 cases f with
 | next=>exact wpAny_execs_nil q
 | ret v=>exact q
 | brk=>exact q
 | cont=>exact q
theorem Inv.quiet{pins:List (Addr×Obj)}{σ:St}{H:Hp}{s:Shared}(I:Inv X pins σ H s):interactive X.env=false:=by simp[interactive,I.ok.kind]
noncomputable def tDrop(te:TE):TS:=λD σ H=>te σ H λ_ H1=>D.nx σ H1
theorem ps_expr(he:PE X e te)(hs:swapsWith e none pos.line X.env=pure false:=by rfl):PS X (.Expr e pos) (tDrop te):=by
 intro pins s σ H D I h
 exact wpAny_Expr_any (thn (he pins s σ H _ I h) λv s1 ⟨x,H1,I1,r1,q1⟩=>⟨σ,H1,I1,q1⟩) I.quiet hs
noncomputable def tRet(te:TE):TS:=λD σ H=>te σ H D.rt
theorem ps_ret(he:PE X e te):PS X (.Return (some e) pos) (tRet te):=by
 intro pins s σ H D I h
 exact wpAny_Return_some (thn (he pins s σ H _ I h) λv s1 ⟨x,H1,I1,r1,q1⟩=>⟨x,σ,H1,I1,r1,q1⟩)
noncomputable def tIfS(c:TT)(t u:TS):TS:=λD σ H=>c σ H λb H1=>if b=true then t D σ H1 else u D σ H1
theorem ps_if{c:Expr}{a b:List Stmt}{tc:TT}(hc:PT X c tc)(ha:PSs X a t)(hb:PSs X b u):PS X (.If c a b pos) (tIfS tc t u):=by
 intro pins s σ H D I h
 refine wpAny_If (thn (hc pins s σ H _ I h) λd s1 ⟨H1,I1,q1⟩=>?_)
 cases d with
 | true=>exact ha pins s1 σ H1 D I1 q1
 | false=>exact hb pins s1 σ H1 D I1 q1
end
noncomputable abbrev TG:=V->St->Hp->(St->Hp->Prop)->Prop
noncomputable abbrev TGs:=List V->St->Hp->(St->Hp->Prop)->Prop
noncomputable def PG(X:Cx)(target:Expr)(t:TG):Prop :=
 ∀(pins:List (Addr×Obj)) (s:Shared) (σ:St) (H:Hp) (v:V) (u:Value) (Q:St->Hp->Prop),Inv X pins σ H s->RelV v u->t v σ H Q ->
  wpAny (model X.prog X.w) X.A (assign target X.env u) (λ_ s'=>∃σ' H',Inv X pins σ' H' s'/\Q σ' H') X.xe s
noncomputable def PGs(X:Cx)(ts:List Expr)(t:TGs):Prop :=
 ∀(pins:List (Addr×Obj)) (s:Shared) (σ:St) (H:Hp) (vs:List V) (us:List Value) (Q:St->Hp->Prop),Inv X pins σ H s->Vals vs us->t vs σ H Q ->
  wpAny (model X.prog X.w) X.A (assignInOrder ((assignEach ts X.env).map (·.2)) us) (λ_ s'=>∃σ' H',Inv X pins σ' H' s'/\Q σ' H') X.xe s
noncomputable abbrev TSet:=V->V->V->Hp->(Hp->Prop)->Prop
noncomputable def PSet(X:Cx)(t:TSet):Prop :=
 ∀(pins:List (Addr×Obj)) (s:Shared) (σ:St) (H:Hp) (o i v:V) (ov iv u:Value) (Q:Hp->Prop),Inv X pins σ H s->RelV o ov->RelV i iv->RelV v u->t o i v H Q ->
  wpAny (model X.prog X.w) X.A (setItem ov iv u) (λ_ s'=>∃H',Inv X pins σ H' s'/\Q H') X.xe s
section
variable {X:Cx}{pos:Pos}
noncomputable def gName(i:Nat):TG:=λv σ H Q=>Q (σ.set i (some v)) H
theorem pg_name{i:Nat}{x:Str}(hN:X.N.Nodup)(hi:X.N[i]?=some x)(hx:Loc X.env.scope x)(hf:X.fn x=true\/X.env.scope.names.lookup x=some .local:=by first|exact .inl rfl|exact .inr rfl|assumption):PG X (.Name x pos) (gName i):=by
 intro pins s σ H v u Q I r h
 exact wpAny_assign_Name (store_ok I hN hi hx r (λs' I'=>⟨_,H,I',h⟩) hf)
noncomputable def gNil:TGs:=λvs σ H Q=>vs=[]/\Q σ H
noncomputable def gCons(t:TG)(u:TGs):TGs:=λvs σ H Q=>∃v r,vs=v :: r/\t v σ H λσ' H'=>u r σ' H' Q
theorem pgs_nil:PGs X [] gNil:=by
 intro pins s σ H vs us Q I r h
 obtain⟨e,h⟩:=h
 subst e
 cases r
 exact assignInOrder_nil ⟨σ,H,I,h⟩
theorem pgs_cons{e:Expr}{es:List Expr}{t:TG}{u:TGs}(h1:PG X e t)(h2:PGs X es u)
  (hs:(assignEach (e :: es) X.env).map (·.2)=assign e X.env :: (assignEach es X.env).map (·.2):=by rfl):PGs X (e :: es) (gCons t u):=by
 intro pins s σ H vs us Q I r h
 obtain⟨v,vr,e1,h⟩:=h
 subst e1
 cases r with
 | cons r rr =>
  rw[hs]
  refine assignInOrder_cons (thn (h1 pins s σ H _ _ _ I r h) λ_ s1 ⟨σ1,H1,I1,q1⟩=>?_)
  exact h2 pins s1 σ1 H1 _ _ Q I1 rr q1
noncomputable def gTup(K:n0)(n:Nat)(t:TGs):TG:=λv σ H Q=>∃a xs,v=.ref a/\SqT K H a xs/\xs.length=n/\t xs σ H Q
theorem pg_tup{es:List Expr}{k:Nat}{t:TGs}{n:Nat}(hc:X.calm=true)(h:PGs X es t)
  (hn:(assignEach es X.env).length=n:=by rfl) (hst:(assignEach es X.env).findIdx? (·.1)=none:=by rfl):PG X (.Tuple es k pos) (gTup X.K n t):=by
 intro pins s σ H v u Q I r hw
 obtain⟨a,xs,e1,hq,hl,hw⟩:=hw
 subst e1
 cases r
 obtain⟨its,rv,ht,hz⟩:=I.tuple hq
 refine assign_Tuple_tuple (I.ok.hd hc) ht (by simp[hn,<- hl,rv.length]) hst λh' hx=>?_
 have I1:Inv X pins σ H { s with heap:=h' }:=I.kept (t':=s.toks) λb o e=>hx b o (Y0 (J0 e)) e
 exact h pins _ σ H xs _ Q I1 (by simpa using rv) hw
noncomputable def gSub(to ti:TE)(t:TSet):TG:=λv σ H Q=>to σ H λo H1=>ti σ H1 λi H2=>t o i v H2 λH3=>Q σ H3
theorem pg_sub{o i:Expr}{to ti:TE}{t:TSet}(ho:PE X o to)(hi:PE X i ti)(hs:PSet X t)
  (ha:∀v,assign (.Subscript o i pos) X.env v=(do
    let ov<-holding [v] (eval o X.env)
    let iv<-holding [v,ov] (eval i X.env)
    standAt pos
    holding [v,ov,iv] (setItem ov iv v)
    release [v,ov,iv] []):=by intro _;rfl):PG X (.Subscript o i pos) (gSub to ti t):=by
 intro pins s σ H v u Q I r h
 rw[ha]
 refine wpAny_bind (wpAny_holding (thn (ho pins s σ H _ I h) λov s1 ⟨x,H1,I1,r1,q1⟩=>?_))
 refine wpAny_bind (wpAny_holding (thn (hi pins s1 σ H1 _ I1 q1) λiv s2 ⟨y,H2,I2,r2,q2⟩=>?_))
 refine wpAny_bind (wpAny_standAt (wpAny_bind (wpAny_holding (thn (hs pins s2 σ H2 x y v ov iv u _ I2 r1 r2 r q2) λ_ s3 ⟨H3,I3,q3⟩=>?_))))
 exact wpAny_release ⟨σ,H3,I3,q3⟩
noncomputable def tAsg(te:TE)(g:TG):TS:=λD σ H=>te σ H λx H1=>g x σ H1 D.nx
theorem ps_asg{tg e:Expr}{te:TE}{g:TG}(he:PE X e te)(hg:PG X tg g)(hs:swapsWithSole [tg] e pos.line X.env=pure false:=by rfl)(hw:swappedStores [tg] e X.env=pure none:=by rfl)
  (h1:(assignEach [tg] X.env).map (·.2)=[assign tg X.env]:=by rfl):PS X (.Assign [tg] e pos) (tAsg te g):=by
 intro pins s σ H D I h
 refine wpAny_Assign_stores (thn (he pins s σ H _ I h) λv s1 ⟨x,H1,I1,r1,q1⟩=>?_) hs hw
 rw[h1]
 exact thn (hg pins s1 σ H1 x v _ I1 r1 q1) λ_ s2 q=>q
theorem ps_set{i:Nat}{x:Str}{e:Expr}{te:TE}{pos':Pos}(hN:X.N.Nodup)(hi:X.N[i]?=some x)(hx:Loc X.env.scope x)(he:PE X e te)(hs:swapsWith e (some (.Name x pos')) pos.line X.env=pure false:=by rfl)(hf:X.fn x=true\/X.env.scope.names.lookup x=some .local:=by first|exact .inl rfl|exact .inr rfl|assumption) :
  PS X (.Assign [.Name x pos'] e pos) (tAsg te (gName i)):=by
 intro pins s σ H D I h
 refine wpAny_Assign_Name (thn (he pins s σ H _ I h) λv s1 ⟨y,H1,I1,r1,q1⟩=>?_) hs
 exact store_ok I1 hN hi hx r1 (λs2 I2=>⟨_,H1,I2,q1⟩) hf
end
section
variable {X:Cx}{pos:Pos}
noncomputable def tWhile(c:TT)(tb:TS):TS:=λD σ H=>∃W:Nat->St->Hp->Prop,(∃m,W m σ H)/\∀m σ H,W m σ H ->
 c σ H λb H1=>if b=true then ∃N:St->Hp->Prop,(∀σ' H',N σ' H'->∃m',m' < m/\W m' σ' H')/\tb { D with nx:=N,ct:=N,bk:=D.nx } σ H1 else D.nx σ H1
theorem ps_while{c:Expr}{body:List Stmt}{tc:TT}{tb:TS}(hp:PassesOwn (model X.prog X.w) X.A X.env X.xe)(hc:PT X c tc)(hb:PSs X body tb):PS X (.While c body [] pos) (tWhile tc tb):=by
 intro pins s σ H D I h
 obtain⟨W,⟨m0,w0⟩,turn⟩:=h
 refine wpAny_While (codeAny_whileLoop (λn s'=>∃σ' H',Inv X pins σ' H' s'/\W n σ' H') ?_ m0 ⟨σ,H,I,w0⟩)
 rintro n s1 ⟨σ1,H1,I1,w1⟩
 refine wpAny_passesOwn hp (thn (hc pins s1 σ1 H1 _ I1 (turn n σ1 H1 w1)) λb s2 ⟨H2,I2,q2⟩=>?_)
 cases b with
 | true =>
  obtain⟨N,hN,q2⟩:=q2
  rw[if_pos rfl]
  refine wpAny_passesOwn hp (thn (hb pins s2 σ1 H2 _ I2 q2) λf s3 q3=>?_)
  cases f with
  | next =>
   obtain⟨σ3,H3,I3,n3⟩:=q3
   obtain⟨m',hm,w3⟩:=hN σ3 H3 n3
   exact ⟨m',hm,σ3,H3,I3,w3⟩
  | cont =>
   obtain⟨σ3,H3,I3,n3⟩:=q3
   obtain⟨m',hm,w3⟩:=hN σ3 H3 n3
   exact ⟨m',hm,σ3,H3,I3,w3⟩
  | brk=>exact q3
  | ret v=>exact q3
 | false =>
  rw[if_neg G1]
  exact wpAny_execs_nil ⟨σ1,H2,I2,q2⟩
end
structure It where
 go:Nat->Hp->Prop
 yld:Nat->Hp->V->Hp->Prop
 stop:Nat->Hp->Prop
noncomputable def FpOk(X:Cx)(pins:List (Addr×Obj))(H:Hp)(b:Addr):Prop :=
 H b=none/\b≠X.env.locals/\b∉X.fs/\(b∈X.ex\/X.s₀.heap.objs.size<=b)/\(∀x c,X.env.cells.lookup x=some c->c≠b)/\∀p∈X.pn++pins,p.1≠b
theorem Inv.fpOk{X:Cx}{pins:List (Addr×Obj)}{σ:St}{H H':Hp}{s:Shared}{b:Addr}(I:Inv X pins σ H s)(hb:s.heap.objs.size<=b)(hn:H' b=none):FpOk X pins H' b:=by
 refine ⟨hn,T1 (T0 I.lt hb),I.nofs hb,.inr (Q0 I.sz hb),λx c e z=>?_,λp hp z=>?_⟩
 ·obtain⟨v,q⟩:=I.cell x c e
  exact absurd (T0 q.lt (by rw[z];exact hb)) (Z2 _)
 ·exact absurd (T0 (J0 (I.pin p hp).1) (by rw[z];exact hb)) (Z2 _)
structure Turn(P:Program)(w:World)(K:n0)(tg:Expr)(J:It)(fp:List Addr)(it:Addr)(tn:Nat->Heap->Prop):Prop where
 mem:it∈fp
 obj:∀i h,tn i h->∀b∈fp,∃o,h.get? b=some o/\∀v,o.data≠.cell v
 keep:∀i h h',tn i h->(∀b∈fp,∀o,h.get? b=some o->h'.get? b=some o)->tn i h'
 item:∀(X:Cx),X.prog=P->X.w=w->X.K=K->X.calm=true->∀(i:Nat) (pins:List (Addr×Obj)) (s:Shared) (σ:St) (H:Hp) (E:Value->Shared->Prop),Inv X pins σ H s->(∀b∈fp,FpOk X pins H b)->tn i s.heap->J.go i H ->
  wpAny (model P w) X.A (pyNext (.ref it)) (λr s1=>∃u,r=some u /\
    wpAny (model P w) X.A (letOwnedTupleGo tg (.ref it) u) (λ_ s2=>∃x H',Inv X pins σ H' s2/\RelV x u/\J.yld i H x H'/\tn (i+1) s2.heap/\∀b∈fp,H' b=none) E s1) E s
 done:∀(X:Cx),X.prog=P->X.w=w->X.K=K->X.calm=true->∀(i:Nat) (pins:List (Addr×Obj)) (s:Shared) (σ:St) (H:Hp) (E:Value->Shared->Prop),Inv X pins σ H s->(∀b∈fp,FpOk X pins H b)->tn i s.heap->J.stop i H ->
  wpAny (model P w) X.A (pyNext (.ref it)) (λr s1=>r=none/\Inv X pins σ H s1) E s
 self:∀(A:Around) (i:Nat) (s:Shared) (Q:Value->Shared->Prop) (E:Value->Shared->Prop),tn i s.heap->Q (.ref it) s->wpAny (model P w) A (pyIter (.ref it)) Q E s
noncomputable abbrev TI:=St->Hp->(It->Hp->Prop)->Prop
noncomputable def PIE(X:Cx)(pins:List (Addr×Obj))(σ:St)(tg:Expr)(R:It->Hp->Prop)(itv:Value)(s2:Shared):Prop :=
 ∃(it:Addr) (fp:List Addr) (tn:Nat->Heap->Prop) (J:It) (H':Hp),itv=.ref it/\Inv X pins σ H' s2/\Turn X.prog X.w X.K tg J fp it tn/\tn 0 s2.heap/\(∀b∈fp,FpOk X pins H' b)/\R J H'
noncomputable def PI(X:Cx)(tg iter:Expr)(wi:TI):Prop :=
 ∀(pins:List (Addr×Obj)) (s:Shared) (σ:St) (H:Hp) (R:It->Hp->Prop),Inv X pins σ H s->wi σ H R ->
  wpAny (model X.prog X.w) X.A (eval iter X.env) (λv s1=>wpAny (model X.prog X.w) X.A (pyIter v) (PIE X pins σ tg R) X.xe s1) X.xe s
theorem go_of{M:Model}{A:Around}{E:Value->Shared->Prop}{s:Shared}{tg:Expr}{it:Addr}{u:Value}{o:Obj}{n:String}{vs:Array Value}{Q:Unit->Shared->Prop}(ho:s.heap.get? it=some o)(hc:o.cls=.type n)(hd:o.data=.fields vs)
  (hn:["enumerate","zip","dict_itemiterator","dict_reverseitemiterator","odict_iterator","itertools.zip_longest","itertools.pairwise"].contains n=false) (hQ:Q () s):wpAny M A (letOwnedTupleGo tg (.ref it) u) Q E s:=by
 unfold letOwnedTupleGo
 cases tg<;>first
  | exact wpAny_pure hQ
  | (cases u<;>first
      | exact wpAny_pure hQ
      | (refine wpAny_bind (wpAny_load ho ?_)
         rw[hc,hd]
         show wpAny M A (if (["enumerate","zip","dict_itemiterator","dict_reverseitemiterator","odict_iterator","itertools.zip_longest","itertools.pairwise"].contains n&&vs[0]?==some (rawInt _))=true then _ else _) Q E s
         rw[if_neg (by intro h;rw[hn,E8]at h;cases h)]
         exact wpAny_pure hQ))
noncomputable def Itl(K:n0)(a:Addr):It :=
 ⟨λi H=>∃xs x,SqL K H a xs/\xs[i]?=some x,λi H x H'=>H'=H/\∀xs,SqL K H a xs->xs[i]?=some x,λi H=>∃xs,SqL K H a xs/\xs.length<=i⟩
noncomputable def Itt(K:n0)(a:Addr):It :=
 ⟨λi H=>∃xs x,SqT K H a xs/\xs[i]?=some x,λi H x H'=>H'=H/\∀xs,SqT K H a xs->xs[i]?=some x,λi H=>∃xs,SqT K H a xs/\xs.length<=i⟩
noncomputable def Itr(lo:Int)(n:Nat):It:=⟨λi _=>i < n,λi H x H'=>H'=H/\x=.int (lo+i),λi _=>n<=i⟩
theorem turn_list{P:Program}{w:World}{K:n0}{tg:Expr}(a it:Addr):Turn P w K tg (Itl K a) [it] it (λi h=>h.IsListIter it a i) where
 mem:=by simp
 obj:=λi h st b hb=>by
  have e:b=it:=by simpa using hb
  subst e
  obtain⟨o,e,c,d⟩:=st
  exact ⟨o,e,λv z=>by rw[d]at z;cases z⟩
 keep:=λi h h' st k=>st.at λo e=>k it (by simp) o e
 item:=by
  intro X hP hw hK hc i pins s σ H E I hf st hg
  subst hP hw hK
  obtain⟨xs,x,hq,hx⟩:=hg
  obtain⟨its,rv,p,hz⟩:=I.list hq
  obtain⟨u,hu,ru⟩:=rv.get hx
  obtain⟨f0,f1,f2,f3,f4,f5⟩:=hf it (by simp)
  refine wpAny_pyNext_list_item st p.isList (x:=u) (by simpa using hu) λh' st' sb=>?_
  have I1:Inv X pins σ H { s with heap:=h' }:=I.turned (t':=s.toks) (λb o hb e=>(sb.2 b hb).trans e) f0 f1 f3 f4 f5
  obtain⟨o,e,c,d⟩:=id st'
  exact ⟨u,rfl,go_of (s:={ s with heap:=h' }) e c d (by decide) ⟨x,H,I1,ru,⟨rfl,λys hy=>by rw[I.list_inj hy hq];exact hx⟩,st',λb hb=>(hf b hb).1⟩⟩
 done:=by
  intro X hP hw hK hc i pins s σ H E I hf st hg
  subst hP hw hK
  obtain⟨xs,hq,hx⟩:=hg
  obtain⟨its,rv,p,hz⟩:=I.list hq
  obtain⟨f0,f1,f2,f3,f4,f5⟩:=hf it (by simp)
  have hl:=rv.length
  exact wpAny_pyNext_list_end (I.ok.hd hc) st p.isList (by simp;omega) λh' eb=>⟨rfl,I.turned (t':=s.toks) (λb o hb e=>eb b o hb e) f0 f1 f3 f4 f5⟩
 self:=λ_ _ _ _ _ st h=>wpAny_pyIter_listiter st h
theorem turn_tuple{P:Program}{w:World}{K:n0}{tg:Expr}(a it:Addr):Turn P w K tg (Itt K a) [it] it (λi h=>h.IsTupleIter it a i) where
 mem:=by simp
 obj:=λi h st b hb=>by
  have e:b=it:=by simpa using hb
  subst e
  obtain⟨o,e,c,d⟩:=st
  exact ⟨o,e,λv z=>by rw[d]at z;cases z⟩
 keep:=λi h h' st k=>st.at λo e=>k it (by simp) o e
 item:=by
  intro X hP hw hK hc i pins s σ H E I hf st hg
  subst hP hw hK
  obtain⟨xs,x,hq,hx⟩:=hg
  obtain⟨its,rv,p,hz⟩:=I.tuple hq
  obtain⟨u,hu,ru⟩:=rv.get hx
  obtain⟨f0,f1,f2,f3,f4,f5⟩:=hf it (by simp)
  refine wpAny_pyNext_tuple_item st (show s.heap.IsTuple a its.toArray from p) (x:=u) (by simpa using hu) λh' st' sb=>?_
  have I1:Inv X pins σ H { s with heap:=h' }:=I.turned (t':=s.toks) (λb o hb e=>(sb.2 b hb).trans e) f0 f1 f3 f4 f5
  obtain⟨o,e,c,d⟩:=id st'
  exact ⟨u,rfl,go_of (s:={ s with heap:=h' }) e c d (by decide) ⟨x,H,I1,ru,⟨rfl,λys hy=>by rw[I.tuple_inj hy hq];exact hx⟩,st',λb hb=>(hf b hb).1⟩⟩
 done:=by
  intro X hP hw hK hc i pins s σ H E I hf st hg
  subst hP hw hK
  obtain⟨xs,hq,hx⟩:=hg
  obtain⟨its,rv,p,hz⟩:=I.tuple hq
  obtain⟨f0,f1,f2,f3,f4,f5⟩:=hf it (by simp)
  have hl:=rv.length
  exact wpAny_pyNext_tuple_end (I.ok.hd hc) st (show s.heap.IsTuple a its.toArray from p) (by simp;omega) λh' eb=>⟨rfl,I.turned (t':=s.toks) (λb o hb e=>eb b o hb e) f0 f1 f3 f4 f5⟩
 self:=λ_ _ _ _ _ st h=>wpAny_pyIter_tupleiter st h
theorem turn_range{P:Program}{w:World}{K:n0}{tg:Expr}(it:Addr)(lo:Int)(n:Nat):Turn P w K tg (Itr lo n) [it] it (λi h=>IsRangeIter h it (lo+(i:Nat) * 1) ((n:Int) - (i:Nat)) 1) where
 mem:=by simp
 obj:=λi h st b hb=>by
  have e:b=it:=by simpa using hb
  subst e
  exact ⟨_,st,λv z=>by
    have z':Data.fields _=Data.cell v:=z
    cases z'⟩
 keep:=λi h h' st k=>k it (by simp) _ st
 item:=by
  intro X hP hw hK hc i pins s σ H E I hf st hg
  subst hP hw hK
  obtain⟨f0,f1,f2,f3,f4,f5⟩:=hf it (by simp)
  have W:=Walks.range (prog:=X.prog) (w:=X.w) (I.ok.hd hc) it lo 1 n
  refine W.item i s _ _ hg st λv h' tk hv st' kk=>?_
  obtain⟨t,rfl⟩:=hv
  have I1:Inv X pins σ H { s with heap:=h',toks:=tk }:=I.turned (λb o hb e=>kk b o (by simpa using hb) e) f0 f1 f3 f4 f5
  refine ⟨_,rfl,go_of (s:={ s with heap:=h',toks:=tk }) (n:="range_iterator") st' rfl rfl (by decide) ⟨.int (lo+i),H,I1,⟨t,?_⟩,⟨rfl,rfl⟩,st',λb hb=>(hf b hb).1⟩⟩
  rw[Int.mul_one]
 done:=by
  intro X hP hw hK hc i pins s σ H E I hf st hg
  subst hP hw hK
  obtain⟨f0,f1,f2,f3,f4,f5⟩:=hf it (by simp)
  exact wpAny_pyNext_range_end (I.ok.hd hc) st (by have:n<=i:=hg;omega) λh' eb=>⟨rfl,I.turned (t':=s.toks) (λb o hb e=>eb b o hb e) f0 f1 f3 f4 f5⟩
 self:=λ_ _ _ _ _ st h=>wpAny_pyIter_rangeiter st h
section
variable {X:Cx}{tg:Expr}
theorem range_it{pins:List (Addr×Obj)}{σ:St}{H:Hp}{s:Shared}{R:It->Hp->Prop}{E:Value->Shared->Prop}{lo hi:Int}{t u v:Tok}{tk:Nat}(I:Inv X pins σ H s)(h1:-(2 ^ 62)<=lo)(h2:lo < 2 ^ 62)(h3:-(2 ^ 62)<=hi)(h4:hi < 2 ^ 62)
  (q:R (Itr lo (hi - lo).toNat) H):wpAny (model X.prog X.w) X.A (pyIter (.ref s.heap.objs.size)) (PIE X pins σ tg R) E { s with heap:=s.heap.push { cls:=.type "range",data:=.fields #[.int lo t,.int hi u,.int 1 v] },toks:=tk }:=by
 refine wpAny_pyIter_range (IsRange.new ..) (small_one h1 h2 h3 h4) ?_
 have I1:Inv X pins σ H { s with heap:=s.heap.push { cls:=.type "range",data:=.fields #[.int lo t,.int hi u,.int 1 v] },toks:=tk }:=I.kept λb o e=>i0 _ e
 refine ⟨(s.heap.push { cls:=.type "range",data:=.fields #[.int lo t,.int hi u,.int 1 v] }).objs.size,[(s.heap.push { cls:=.type "range",data:=.fields #[.int lo t,.int hi u,.int 1 v] }).objs.size],_,_,H,rfl,
   I1.kept (t':=tk) λb o e=>i0 _ e,turn_range _ lo (hi - lo).toNat,?_,λb hb=>?_,q⟩
 ·have e1:lo+((0:Nat):Int) * 1=lo:=by simp
  have e2:(((hi - lo).toNat:Nat):Int) - ((0:Nat):Int)=Builtin.Range.rangeSize lo hi 1:=by rw[rangeSize_one];split<;>omega
  show IsRangeIter _ _ (lo+((0:Nat):Int) * 1) ((((hi - lo).toNat:Nat):Int) - ((0:Nat):Int)) 1
  rw[e1,e2]
  exact M0 _ rfl
 ·have e:b=(s.heap.push { cls:=.type "range",data:=.fields #[.int lo t,.int hi u,.int 1 v] }).objs.size:=by simpa using hb
  subst e
  exact I1.fpOk (A0 _) (I1.hok.fresh (A0 _))
noncomputable def iRng1(ta:TA):TI:=λσ H R=>ta σ H λvs H1=>∃j:Int,vs=[.int j]/\-(2 ^ 62)<=j/\j < 2 ^ 62/\R (Itr 0 j.toNat) H1
theorem pi_range1{a:Expr}{ta:TA}{p pos:Pos}(hg:Gl X "range")(hm:X.mg "range"=none)(ha:PA X [a] ta)(hs:starEach [a] X.env=[(false,eval a X.env)]:=by rfl):PI X tg (.Call (.Name "range" p) [a] [] pos) (iRng1 ta):=by
 intro pins s σ H R I h
 refine Call_ (ld_blt I hg hm boot_range (V4 (thn (ha pos pins s σ H _ I h) λus s1 ⟨vs,H1,I1,r1,q1⟩=>?_) hs rfl))
 obtain⟨j,e,q1,q2,q⟩:=q1
 subst e
 cases r1 with
 | cons r rr =>
  cases rr
  obtain⟨t,rfl⟩:=r
  exact call_range_1 (range_it I1 (by omega) (by omega) q1 q2 (by simpa using q))
noncomputable def tFor(wi:TI)(g:TG)(tb:TS):TS:=λD σ H=>wi σ H λJ H1=>∃W:Nat->Nat->St->Hp->Prop,(∃m,W 0 m σ H1)/\∀i m σ H,W i m σ H ->
 (J.stop i H/\D.nx σ H)\/(J.go i H/\∃N:St->Hp->Prop,(∀σ' H',N σ' H'->∃m',m' < m/\W (i+1) m' σ' H')/\∀x H',J.yld i H x H'->g x σ H' λσ2 H2=>tb { D with nx:=N,ct:=N,bk:=D.nx } σ2 H2)
noncomputable def pinsAt(fp:List Addr)(h:Heap):List (Addr×Obj):=fp.filterMap λb=>(h.get? b).map λo=>(b,o)
theorem mem_pinsAt{fp:List Addr}{h:Heap}{b:Addr}{o:Obj}(hb:b∈fp)(e:h.get? b=some o):(b,o)∈pinsAt fp h:=T8.mpr ⟨b,hb,by rw[e];rfl⟩
theorem of_pinsAt{fp:List Addr}{h:Heap}{p:Addr×Obj}(hp:p∈pinsAt fp h):p.1∈fp/\h.get? p.1=some p.2:=by
 obtain⟨b,hb,e⟩:=T8.mp hp
 cases q:h.get? b with
 | none=>rw[q]at e;cases e
 | some o =>
  rw[q]at e
  have e':(b,o)=p:=N1 e
  subst e'
  exact ⟨hb,q⟩
theorem Inv.pinned{pins:List (Addr×Obj)}{σ:St}{H:Hp}{s:Shared}{fp:List Addr}(I:Inv X pins σ H s)(hf:∀b∈fp,FpOk X pins H b)(ho:∀b∈fp,∃o,s.heap.get? b=some o/\∀v,o.data≠.cell v):Inv X (pins++pinsAt fp s.heap) σ H s :=
 I.pins_of λp hp=>(R0.mp hp).elim (λz=>I.pin p (Z0 _ z)) λz=>by
  obtain⟨hb,e⟩:=of_pinsAt z
  obtain⟨f0,f1,f2,_⟩:=hf p.1 hb
  obtain⟨o,e',d⟩:=ho p.1 hb
  rw[e]at e';cases e'
  exact ⟨e,f0,f1,f2,d⟩
theorem Inv.unpinned{pins pl:List (Addr×Obj)}{σ:St}{H:Hp}{s:Shared}(I:Inv X (pins++pl) σ H s):Inv X pins σ H s:=I.pins_of λp hp=>I.pin p (Z0 _ (n4 _ hp))
theorem ps_for{iter:Expr}{body:List Stmt}{wi:TI}{g:TG}{tb:TS}{pos:Pos}(hp:PassesOwn (model X.prog X.w) X.A X.env X.xe)(hc:X.calm=true)(hi:PI X tg iter wi)(hg:PG X tg g)(hb:PSs X body tb)
  (hs:∀x,foldedSetIterable iter X.env x=pure x:=by intro _;rfl):PS X (.For tg iter body [] pos) (tFor wi g tb):=by
 intro pins s σ H D I h
 refine wpAny_For (thn (hi pins s σ H _ I h) λv s1 h1=>thn h1 λitv s2 h2=>?_) hs
 obtain⟨it,fp,tn,J,H2,e,I2,T,st2,f2,W,⟨m0,w0⟩,turn⟩:=h2
 subst e
 have stat:∀{H':Hp},(∀b∈fp,H' b=none)->∀b∈fp,FpOk X pins H' b:=λhn b hb=>⟨hn b hb,(f2 b hb).2⟩
 refine codeAny_forLoop_any (λn s'=>∃i σ' H',Inv X pins σ' H' s'/\tn i s'.heap/\(∀b∈fp,H' b=none)/\W i n σ' H') ?_ m0 ⟨0,σ,H2,I2,st2,λb hb=>(f2 b hb).1,w0⟩
 rintro n s3 ⟨i,σ3,H3,I3,st3,fr3,w3⟩
 rcases turn i n σ3 H3 w3 with⟨stop,qn⟩|⟨go,N,hN,step⟩
 ·refine wpAny_passesOwn hp (thn (T.done X rfl rfl rfl hc i pins s3 σ3 H3 X.xe I3 (stat fr3) st3 stop) λr s4 ⟨hr,I4⟩=>?_)
  subst hr
  exact wpAny_execs_nil ⟨σ3,H3,I4,qn⟩
 ·refine wpAny_passesOwn hp (thn (T.item X rfl rfl rfl hc i pins s3 σ3 H3 X.xe I3 (stat fr3) st3 go) λr s4 ⟨u,hr,h4⟩=>?_)
  subst hr
  refine wpAny_passesOwn hp (thn h4 λ_ s5 ⟨x,H5,I5,r5,y5,st5,fr5⟩=>?_)
  have I5':=I5.pinned (stat fr5) (T.obj _ _ st5)
  refine wpAny_passesOwn hp (thn (hg _ s5 σ3 H5 x u _ I5' r5 (step x H5 y5)) λ_ s6 ⟨σ6,H6,I6,q6⟩=>?_)
  refine wpAny_passesOwn hp (thn (hb _ s6 σ6 H6 _ I6 q6) λf s7 q7=>?_)
  have again:∀{σ7:St}{H7:Hp},Inv X (pins++pinsAt fp s5.heap) σ7 H7 s7->N σ7 H7->∃m,m < n/\∃i σ' H',Inv X pins σ' H' s7/\tn i s7.heap/\(∀b∈fp,H' b=none)/\W i m σ' H':=λ{σ7 H7} I7 n7=>by
   obtain⟨m',hm,w7⟩:=hN σ7 H7 n7
   refine ⟨m',hm,i+1,σ7,H7,I7.unpinned,T.keep _ _ _ st5 λb hb o e=>(I7.pin (b,o) (Z0 _ (Z0 _ (mem_pinsAt hb e)))).1,λb hb=>?_,w7⟩
   obtain⟨o,e,d⟩:=T.obj _ _ st5 b hb
   exact (I7.pin (b,o) (Z0 _ (Z0 _ (mem_pinsAt hb e)))).2.1
  cases f with
  | next=>obtain⟨σ7,H7,I7,n7⟩:=q7;exact again I7 n7
  | cont=>obtain⟨σ7,H7,I7,n7⟩:=q7;exact again I7 n7
  | brk=>obtain⟨σ7,H7,I7,q7⟩:=q7;exact ⟨σ7,H7,I7.unpinned,q7⟩
  | ret v=>obtain⟨x7,σ7,H7,I7,r7,q7⟩:=q7;exact ⟨x7,σ7,H7,I7.unpinned,r7,q7⟩
end
noncomputable abbrev R2:=V->V->Hp->VK->Prop
noncomputable def OpR(X:Cx)(f:Value->Value->Sem Value)(r:R2):Prop :=
 ∀(pins:List (Addr×Obj)) (s:Shared) (σ:St) (H:Hp) (x y:V) (v u:Value) (Q:VK),Inv X pins σ H s->RelV x v->RelV y u->r x y H Q ->
  wpAny (model X.prog X.w) X.A (f v u) (EP X pins σ Q) X.xe s
noncomputable def UnR(X:Cx)(f:Value->Sem Value)(r:V->Hp->VK->Prop):Prop :=
 ∀(pins:List (Addr×Obj)) (s:Shared) (σ:St) (H:Hp) (x:V) (v:Value) (Q:VK),Inv X pins σ H s->RelV x v->r x H Q ->
  wpAny (model X.prog X.w) X.A (f v) (EP X pins σ Q) X.xe s
noncomputable def CallR(X:Cx)(f:Value)(r:List V->Hp->VK->Prop):Prop :=
 ∀(pins:List (Addr×Obj)) (s:Shared) (σ:St) (H:Hp) (xs:List V) (us:List Value) (Q:VK),Inv X pins σ H s->Vals xs us->r xs H Q ->
  wpAny (model X.prog X.w) X.A (call f us) (EP X pins σ Q) X.xe s
noncomputable def tOp(r:R2)(ta tb:TE):TE:=λσ H Q=>ta σ H λx H1=>tb σ H1 λy H2=>r x y H2 Q
noncomputable def tUn(r:V->Hp->VK->Prop)(ta:TE):TE:=λσ H Q=>ta σ H λx H1=>r x H1 Q
noncomputable def rI(C:Int->Int->Prop)(g:Int->Int->V):R2:=λx y H Q=>∃i j,x=.int i/\y=.int j/\C i j/\Q (g i j) H
noncomputable def rI0(g:Int->Int->V):R2:=λx y H Q=>∃i j,x=.int i/\y=.int j/\Q (g i j) H
noncomputable def rU(g:Int->V):V->Hp->VK->Prop:=λx H Q=>∃i,x=.int i/\Q (g i) H
section
variable {X:Cx}{a b c:Expr}{ta tb tc:TE}{pos:Pos}
theorem binT(ha:PE X a ta)(hb:PE X b tb){pins:List (Addr×Obj)}{s:Shared}{σ:St}{H:Hp}{R:V->V->Hp->Prop}(I:Inv X pins σ H s)
  (h:ta σ H λx H1=>tb σ H1 λy H2=>R x y H2) {Q:Value->Shared->Prop}{f:Value->Value->Sem Value}
  (hf:∀v u s2 x y H2,Inv X pins σ H2 s2->RelV x v->RelV y u->R x y H2->wpAny (model X.prog X.w) X.A (f v u) Q X.xe s2) :
  wpAny (model X.prog X.w) X.A (eval a X.env) (λv s₁=>wpAny (model X.prog X.w) X.A (eval b X.env) (λu s₂=>wpAny (model X.prog X.w) X.A (f v u) Q X.xe s₂) X.xe s₁) X.xe s:=by
 refine thn (ha pins s σ H _ I h) λv s1 ⟨x,H1,I1,r1,q1⟩=>?_
 refine thn (hb pins s1 σ H1 _ I1 q1) λu s2 ⟨y,H2,I2,r2,q2⟩=>?_
 exact hf v u s2 x y H2 I2 r1 r2 q2
theorem pe_op{op:Operator}{r:R2}(ho:OpR X (binaryOp op) r)(ha:PE X a ta)(hb:PE X b tb):PE X (.BinOp a op b pos) (tOp r ta tb):=by
 intro pins s σ H Q I h
 exact wpAny_BinOp (binT ha hb I h λv u s2 x y H2 I2 rx ry q=>ho pins s2 σ H2 x y v u Q I2 rx ry q)
theorem pe_un{op:UnaryOp}{r:V->Hp->VK->Prop}(ho:UnR X (unaryOp op) r)(ha:PE X a ta):PE X (.UnaryOp op a pos) (tUn r ta):=by
 intro pins s σ H Q I h
 exact UnaryOp_ (thn (ha pins s σ H _ I h) λv s1 ⟨x,H1,I1,r1,q1⟩=>ho pins s1 σ H1 x v Q I1 r1 q1)
theorem opI{f:Value->Value->Sem Value}{C:Int->Int->Prop}{g:Int->Int->Int}
  (rule:∀(i j:Int) (t u:Tok) (s:Shared) (Q:Value->Shared->Prop) (E:Value->Shared->Prop),C i j->Q (.int (g i j) s.toks) { s with toks:=s.toks+1 }->wpAny (model X.prog X.w) X.A (f (.int i t) (.int j u)) Q E s) :
  OpR X f (rI C λi j=>.int (g i j)):=by
 intro pins s σ H x y v u Q I rx ry h
 obtain⟨i,j,rfl,rfl,hc,q⟩:=h
 obtain⟨t,rfl⟩:=rx
 obtain⟨t',rfl⟩:=ry
 exact rule i j t t' s _ _ hc ⟨.int (g i j),H,I.tok _,⟨_,rfl⟩,q⟩
theorem opI0{f:Value->Value->Sem Value}{g:Int->Int->Int}
  (rule:∀(i j:Int) (t u:Tok) (s:Shared) (Q:Value->Shared->Prop) (E:Value->Shared->Prop),Q (.int (g i j) s.toks) { s with toks:=s.toks+1 }->wpAny (model X.prog X.w) X.A (f (.int i t) (.int j u)) Q E s) :
  OpR X f (rI0 λi j=>.int (g i j)):=by
 intro pins s σ H x y v u Q I rx ry h
 obtain⟨i,j,rfl,rfl,q⟩:=h
 obtain⟨t,rfl⟩:=rx
 obtain⟨t',rfl⟩:=ry
 exact rule i j t t' s _ _ ⟨.int (g i j),H,I.tok _,⟨_,rfl⟩,q⟩
theorem opB0{f:Value->Value->Sem Value}{g:Int->Int->Bool}
  (rule:∀(i j:Int) (t u:Tok) (s:Shared) (Q:Value->Shared->Prop) (E:Value->Shared->Prop),Q (.bool (g i j)) s->wpAny (model X.prog X.w) X.A (f (.int i t) (.int j u)) Q E s) :
  OpR X f (rI0 λi j=>.bl (g i j)):=by
 intro pins s σ H x y v u Q I rx ry h
 obtain⟨i,j,rfl,rfl,q⟩:=h
 obtain⟨t,rfl⟩:=rx
 obtain⟨t',rfl⟩:=ry
 exact rule i j t t' s _ _ ⟨.bl (g i j),H,I,rfl,q⟩
noncomputable def CDiv(i j:Int):Prop:=0 < j/\j < 1073741824
noncomputable def CPow(i j:Int):Prop:=0<=j/\j<=1000000/\i.natAbs < 2 ^ 64
noncomputable def CMul(i j:Int):Prop:=(-(2 ^ 64) < i/\i < 2 ^ 64)\/(-(2 ^ 64) < j/\j < 2 ^ 64)
theorem CMul.ok{i j:Int}(h:CMul i j):IntMulOk i j:=by
 rcases h with⟨h1,h2⟩|⟨h1,h2⟩
 ·exact .of_left (intBits_le_64 h1 h2)
 ·exact .of_right (intBits_le_64 h1 h2)
theorem op_add:OpR X (binaryOp .Add) (rI0 λi j=>.int (i+j)):=opI0 λ_ _ _ _ _ _ _ q=>add_int q
theorem op_sub:OpR X (binaryOp .Sub) (rI0 λi j=>.int (i - j)):=opI0 λ_ _ _ _ _ _ _ q=>sub_int q
theorem op_mul:OpR X (binaryOp .Mult) (rI CMul λi j=>.int (i * j)):=opI λ_ _ _ _ _ _ _ hc q=>mul_int q hc.ok
theorem op_fdiv:OpR X (binaryOp .FloorDiv) (rI CDiv λi j=>.int (i / j)):=opI λi j _ _ _ _ _ hc q=>by
 have h1:(0:Int) < j:=hc.1
 have h2:j < 1073741824:=hc.2
 exact floordiv_int (by omega) (by rw[Int.fdiv_eq_ediv_of_nonneg i (by omega)];exact q) (.inl (PyProof.noPylong_small (by omega)))
theorem op_mod:OpR X (binaryOp .Mod) (rI (λ_ j=>0 < j) λi j=>.int (i % j)):=opI λi j _ _ _ _ _ hc q=>by
 have h1:(0:Int) < j:=hc
 exact mod_int' (by omega) (by rw[Int.fmod_eq_emod_of_nonneg i (by omega)];exact q)
theorem op_pow:OpR X (binaryOp .Pow) (rI CPow λi j=>.int (i ^ j.toNat)):=opI λ_ _ _ _ _ _ _ hc q=>pow_int_small hc.1 hc.2.1 hc.2.2 q
theorem unI{f:Value->Sem Value}{g:Int->Int}
  (rule:∀(i:Int) (t:Tok) (s:Shared) (Q:Value->Shared->Prop) (E:Value->Shared->Prop),Q (.int (g i) s.toks) { s with toks:=s.toks+1 }->wpAny (model X.prog X.w) X.A (f (.int i t)) Q E s) :
  UnR X f (rU λi=>.int (g i)):=by
 intro pins s σ H x v Q I rx h
 obtain⟨i,rfl,q⟩:=h
 obtain⟨t,rfl⟩:=rx
 exact rule i t s _ _ ⟨.int (g i),H,I.tok _,⟨_,rfl⟩,q⟩
theorem un_neg:UnR X (unaryOp .USub) (rU λi=>.int (-i)):=unI λ_ _ _ _ _ q=>neg_int q
end
noncomputable def scal:V->V->Bool
 | .non,.non=>true | .non,.int _=>true | .int _,.non=>true | .non,.bl _=>true | .bl _,.non=>true | .non,.str _=>true | .str _,.non=>true
 | .int _,.int _=>true | .bl _,.bl _=>true | .str _,.str _=>true | .byt _,.byt _=>true
 | .int _,.str _=>true | .str _,.int _=>true | .bl _,.str _=>true | .str _,.bl _=>true
 | _,_=>false
noncomputable def rEq:R2:=λx y H Q=>scal x y=true/\Q (.bl (decide (x=y))) H
noncomputable def rNe:R2:=λx y H Q=>scal x y=true/\Q (.bl (!decide (x=y))) H
theorem dec_int{i j:Int}:decide (V.int i=V.int j)=(i==j):=by
 rw[g6]
 simp
theorem dec_bl{i j:Bool}:decide (V.bl i=V.bl j)=(i==j):=by
 rw[g6]
 simp
theorem dec_str{i j:Str}:decide (V.str i=V.str j)=(i==j):=by
 rw[g6]
 simp
theorem dec_byt{i j:Array UInt8}:decide (V.byt i=V.byt j)=(i.toList==j.toList):=by
 rw[g6]
 cases i
 cases j
 simp
section
variable {X:Cx}{a b c:Expr}{ta tb tc:TE}{pos:Pos}
theorem fin_bl{pins:List (Addr×Obj)}{σ:St}{H:Hp}{s:Shared}{Q:VK}{k k':Bool}(I:Inv X pins σ H s)(q:Q (.bl k) H)(e:k=k'):EP X pins σ Q (.bool k') s:=by
 subst e
 exact ⟨.bl k,H,I,rfl,q⟩
theorem op_eq:OpR X (compareOp .Eq) rEq:=by
 intro pins s σ H x y v u Q I rx ry h
 obtain⟨hs,q⟩:=h
 cases x with
 | non =>
  cases rx
  cases y with
  | non=>cases ry;exact PySem.EqNone.eq_none_none (fin_bl I q (by simp))
  | bl j=>cases ry;exact PySem.EqNone.eq_none_bool (fin_bl I q (by simp))
  | int j=>obtain⟨t',rfl⟩:=ry;exact PySem.EqNone.eq_none_int (fin_bl I q (by simp))
  | str j=>obtain⟨t',rfl⟩:=ry;exact PySem.EqNone.eq_none_str (fin_bl I q (by simp))
  | _=>exact absurd (show false=true from hs) G1
 | bl i =>
  cases rx
  cases y with
  | non=>cases ry;exact PySem.EqNone.eq_bool_none (fin_bl I q (by simp))
  | bl j=>cases ry;exact eq_bool (fin_bl I q dec_bl)
  | str j=>obtain⟨t',rfl⟩:=ry;exact PySem.EqMixed.eq_bool_str (fin_bl I q (by simp))
  | _=>exact absurd (show false=true from hs) G1
 | int i =>
  obtain⟨t,rfl⟩:=rx
  cases y with
  | non=>cases ry;exact PySem.EqNone.eq_int_none (fin_bl I q (by simp))
  | int j=>obtain⟨t',rfl⟩:=ry;exact eq_int (fin_bl I q dec_int)
  | str j=>obtain⟨t',rfl⟩:=ry;exact PySem.EqMixed.eq_int_str (fin_bl I q (by simp))
  | _=>exact absurd (show false=true from hs) G1
 | str i =>
  obtain⟨t,rfl⟩:=rx
  cases y with
  | non=>cases ry;exact PySem.EqNone.eq_str_none (fin_bl I q (by simp))
  | bl j=>cases ry;exact PySem.EqMixed.eq_str_bool (fin_bl I q (by simp))
  | int j=>obtain⟨t',rfl⟩:=ry;exact PySem.EqMixed.eq_str_int (fin_bl I q (by simp))
  | str j=>obtain⟨t',rfl⟩:=ry;exact eq_str (fin_bl I q dec_str)
  | _=>exact absurd (show false=true from hs) G1
 | byt i =>
  obtain⟨t,rfl⟩:=rx
  cases y with
  | byt j=>obtain⟨t',rfl⟩:=ry;exact PySem.W.eq_bytes (fin_bl I q dec_byt)
  | _=>exact absurd (show false=true from hs) G1
 | _=>cases y<;>exact absurd (show false=true from hs) G1
theorem op_ne:OpR X (compareOp .NotEq) rNe:=by
 intro pins s σ H x y v u Q I rx ry h
 obtain⟨hs,q⟩:=h
 cases x with
 | non =>
  cases rx
  cases y with
  | non=>cases ry;exact PySem.EqNone.ne_none_none (fin_bl I q (by simp))
  | bl j=>cases ry;exact PySem.EqNone.ne_none_bool (fin_bl I q (by simp))
  | int j=>obtain⟨t',rfl⟩:=ry;exact PySem.EqNone.ne_none_int (fin_bl I q (by simp))
  | str j=>obtain⟨t',rfl⟩:=ry;exact PySem.EqNone.ne_none_str (fin_bl I q (by simp))
  | _=>exact absurd (show false=true from hs) G1
 | bl i =>
  cases rx
  cases y with
  | non=>cases ry;exact PySem.EqNone.ne_bool_none (fin_bl I q (by simp))
  | bl j=>cases ry;exact ne_bool (fin_bl I q (congrArg not dec_bl))
  | str j=>obtain⟨t',rfl⟩:=ry;exact PySem.EqMixed.ne_bool_str (fin_bl I q (by simp))
  | _=>exact absurd (show false=true from hs) G1
 | int i =>
  obtain⟨t,rfl⟩:=rx
  cases y with
  | non=>cases ry;exact PySem.EqNone.ne_int_none (fin_bl I q (by simp))
  | int j=>obtain⟨t',rfl⟩:=ry;exact ne_int (fin_bl I q (congrArg not dec_int))
  | str j=>obtain⟨t',rfl⟩:=ry;exact PySem.EqMixed.ne_int_str (fin_bl I q (by simp))
  | _=>exact absurd (show false=true from hs) G1
 | str i =>
  obtain⟨t,rfl⟩:=rx
  cases y with
  | non=>cases ry;exact PySem.EqNone.ne_str_none (fin_bl I q (by simp))
  | bl j=>cases ry;exact PySem.EqMixed.ne_str_bool (fin_bl I q (by simp))
  | int j=>obtain⟨t',rfl⟩:=ry;exact PySem.EqMixed.ne_str_int (fin_bl I q (by simp))
  | str j=>obtain⟨t',rfl⟩:=ry;exact ne_str (fin_bl I q (congrArg not dec_str))
  | _=>exact absurd (show false=true from hs) G1
 | byt i =>
  obtain⟨t,rfl⟩:=rx
  cases y with
  | byt j=>obtain⟨t',rfl⟩:=ry;exact PySem.W.ne_bytes (fin_bl I q (congrArg not dec_byt))
  | _=>exact absurd (show false=true from hs) G1
 | _=>cases y<;>exact absurd (show false=true from hs) G1
theorem op_lt:OpR X (compareOp .Lt) (rI0 λi j=>.bl (decide (i < j))):=opB0 λ_ _ _ _ _ _ _ q=>lt_int q
theorem op_le:OpR X (compareOp .LtE) (rI0 λi j=>.bl (decide (i<=j))):=opB0 λ_ _ _ _ _ _ _ q=>le_int q
theorem op_gt:OpR X (compareOp .Gt) (rI0 λi j=>.bl (decide (j < i))):=opB0 λ_ _ _ _ _ _ _ q=>gt_int q
theorem op_ge:OpR X (compareOp .GtE) (rI0 λi j=>.bl (decide (j<=i))):=opB0 λ_ _ _ _ _ _ _ q=>ge_int q
theorem OpR.or{f:Value->Value->Sem Value}{r r':R2}(h:OpR X f r)(h':OpR X f r'):OpR X f (λx y H Q=>r x y H Q\/r' x y H Q):=by
 intro pins s σ H x y v u Q I rx ry q
 rcases q with q|q
 ·exact h pins s σ H x y v u Q I rx ry q
 ·exact h' pins s σ H x y v u Q I rx ry q
theorem nomark(b:Expr){op:CmpOp}(h:op≠.In:=by decide)(h2:op≠.NotIn:=by decide):behindInMarks op b=false:=by
 have e1:(op==CmpOp.In)=false:=by cases op<;>first|rfl|exact absurd rfl h
 have e2:(op==CmpOp.NotIn)=false:=by cases op<;>first|rfl|exact absurd rfl h2
 cases b<;>simp[behindInMarks,e1,e2]
theorem pe_cmpR{op:CmpOp}{r:R2}(ho:OpR X (compareOp op) r)(ha:PE X a ta)(hb:PE X b tb)(hm:behindInMarks op b=false):PE X (.Compare a [op] [b] pos) (tOp r ta tb):=by
 intro pins s σ H Q I h
 exact wpAny_Compare1 (binT ha hb I h λv u s2 x y H2 I2 rx ry q=>ho pins s2 σ H2 x y v u Q I2 rx ry q) hm
noncomputable def tTest(t:TE):TT:=λσ H Q=>t σ H λx H'=>∃k,x=.bl k/\Q k H'
theorem pt_cmpR{op:CmpOp}{r:R2}(ho:OpR X (compareOp op) r)(ha:PE X a ta)(hb:PE X b tb)(hm:behindInMarks op b=false):PT X (.Compare a [op] [b] pos) (tTest (tOp r ta tb)):=by
 intro pins s σ H Q I h
 refine wpAny_isTrue_Compare1 (thn (ha pins s σ H _ I h) λv s1 ⟨x,H1,I1,r1,q1⟩=>thn (hb pins s1 σ H1 _ I1 q1) λu s2 ⟨y,H2,I2,r2,q2⟩ =>
   thn (ho pins s2 σ H2 x y v u _ I2 r1 r2 q2) λc s3 ⟨z,H3,I3,r3,k,e,q3⟩=>?_) hm
 subst e
 cases r3
 exact wpAny_truthy_bool ⟨H3,I3,q3⟩
theorem line63:(sizeLine:Nat) < 2 ^ 63:=by rw[sizeLine_eq];decide
theorem vals1{x:V}{us:List Value}(r:Vals [x] us):∃u,us=[u]/\RelV x u:=by
 cases r with
 | cons r1 r2=>cases r2;exact ⟨_,rfl,r1⟩
theorem vals2{x y:V}{us:List Value}(r:Vals [x,y] us):∃u w',us=[u,w']/\RelV x u/\RelV y w':=by
 cases r with
 | cons r1 r2 =>
  cases r2 with
  | cons r3 r4=>cases r4;exact ⟨_,_,rfl,r1,r3⟩
theorem call_max2(hc:X.calm=true):CallR X (.builtin "max") (λxs H Q=>∃i j,xs=[.int i,.int j]/\Q (.int (if j > i then j else i)) H):=by
 intro pins s σ H xs us Q I r h
 obtain⟨i,j,rfl,q⟩:=h
 obtain⟨u,w',rfl,⟨t,rfl⟩,⟨t',rfl⟩⟩:=vals2 r
 refine max_two_ints (I.ok.hd hc) λh' tk k=>⟨_,H,I.kept k,?_,q⟩
 by_cases hj:j > i
 ·rw[if_pos hj,if_pos hj];exact ⟨_,rfl⟩
 ·rw[if_neg hj,if_neg hj];exact ⟨_,rfl⟩
theorem call_min2(hc:X.calm=true):CallR X (.builtin "min") (λxs H Q=>∃i j,xs=[.int i,.int j]/\Q (.int (if j < i then j else i)) H):=by
 intro pins s σ H xs us Q I r h
 obtain⟨i,j,rfl,q⟩:=h
 obtain⟨u,w',rfl,⟨t,rfl⟩,⟨t',rfl⟩⟩:=vals2 r
 refine min_two_ints (I.ok.hd hc) λh' tk k=>⟨_,H,I.kept k,?_,q⟩
 by_cases hj:j < i
 ·rw[if_pos hj,if_pos hj];exact ⟨_,rfl⟩
 ·rw[if_neg hj,if_neg hj];exact ⟨_,rfl⟩
theorem call_int1:CallR X (.type "int") (λxs H Q=>(∃i,xs=[.int i]/\Q (.int i) H)\/∃k,xs=[.bl k]/\Q (.int (if k then 1 else 0)) H):=by
 intro pins s σ H xs us Q I r h
 rcases h with⟨i,rfl,q⟩|⟨k,rfl,q⟩
 ·obtain⟨u,rfl,t,rfl⟩:=vals1 r
  exact call_int_int ⟨.int i,H,I,⟨_,rfl⟩,q⟩
 ·obtain⟨u,rfl,r1⟩:=vals1 r
  cases r1
  exact call_int_bool ⟨.int (if k then 1 else 0),H,I.tok _,⟨_,rfl⟩,q⟩
end
structure ObjM(h:Heap)(x dx C:Addr)(mA:Str->Option Value):Prop where
 obj:h.get? x=some (t9 C dx)
 ns:h.Ns1 dx mA
 ne:dx≠x
section
variable {prog:Program}{w:World}{A:Around}{E:Value->Shared->Prop}{s:Shared}{K:n0}{x dx C f:Addr}{mA:Str->Option Value}{name:Str}{v:Value}
end
section
variable {P:Program}{w:World}{H H':Hp}{h h':Heap}{a C dx:Addr}{fs fs':List (Str×V)}
end
structure Cls(K:n0)(C:Addr):Prop where
 pg:PySem.W.plainGet K C Str.empty=true
 hd:PySem.W.hasDictIn K C=true
 po:PySem.W.plainOver K C=true
 sa:t6 K (.ref C) "__setattr__"=some (some (.builtin "object.__setattr__"))
structure Con(K:n0)(C:Addr)(f:Str)(v:V)(u:Value):Prop where
 at_:t6 K (.ref C) f=some (some u)
 rel:RelV v u
 get:i9 K u "__get__"=some none
 cp:PySem.W.copiedNames.contains f=false
structure Meth(K:n0)(C:Addr)(m:Str)(f:Addr):Prop where
 at_:t6 K (.ref C) m=some (some (.ref f))
 fn:PySem.W.isFn K (.ref f)=true
 kp:X4 K (.ref f)=true
section
variable {X:Cx}{pins:List (Addr×Obj)}{σ:St}{H:Hp}{s:Shared}{a C dx:Addr}{fs:List (Str×V)}{f:Str}{v:V}{A:Around}{E:Value->Shared->Prop}
end
section
variable {X:Cx}{o e value:Expr}{f:Str}{pos pos' tpos:Pos}{ta tv:TE}
end
section
variable {X:Cx}{pins:List (Addr×Obj)}{σ:St}{H:Hp}{s:Shared}{A:Around}{E:Value->Shared->Prop}{Q:Value->Shared->Prop}{c:Value}{b:Bool}
inductive TyOf (K:n0) (H:Hp):V->Value->Prop where
 | non:TyOf K H .non (.type "NoneType")
 | bl (x:Bool):TyOf K H (.bl x) (.type "bool")
 | int (i:Int):TyOf K H (.int i) (.type "int")
 | str (x:Str):TyOf K H (.str x) (.type "str")
 | flt (x:UInt64):TyOf K H (.flt x) (.type "float")
 | lst {a:Addr}{xs:List V} (e:H a=some (.lst xs)):TyOf K H (.ref a) (.type "list")
 | frz {a:Addr}{o:Obj}{xs:List V} (e:H a=some (.frz o (.lst xs))):TyOf K H (.ref a) (.type "list")
 | tup {a:Addr}{xs:List V} (e:H a=some (.tup xs)):TyOf K H (.ref a) (.type "tuple")
 | dK {a:Addr}{kvs:List (Key×V)} (e:H a=some (.dK kvs)):TyOf K H (.ref a) (.type "dict")
 | dT {a:Addr}{kvs:List (List Key×V)} (e:H a=some (.dT kvs)):TyOf K H (.ref a) (.type "dict")
 | ins {a C dx:Addr}{fs:List (Str×V)} (e:H a=some (.ins C dx fs)) (cl:Cls K C) (ha:t6 K (.ref C) "__class__"=some (some (.builtin "object.__class__")))
   (hn:i9 K (.builtin "object.__class__") "__get__"=some (some (.builtin "getset_descriptor.__get__"))) (htk:PySem.W.takesIn K (.builtin "object.__class__")=some true)
   (hm:PySem.W.mroIn K C (.type "object")=some true):TyOf K H (.ref a) (.ref C)
end
structure Room(k:Nat)(A:Around):Prop where
 hd:A.handled=none
 dp:A.depth+3 * k+5 < recursionLimit
 un:A.units+16 * k+200 < cLine
 gd:A.guards=some []
theorem Room.mono{j k:Nat}{A:Around}(r:Room k A)(h:j<=k):Room j A:=⟨r.hd,by have:=r.dp;omega,by have:=r.un;omega,r.gd⟩
theorem Room.deeper{k:Nat}{A:Around}(r:Room (k+1) A)(env:Env):Room k (A.deeper env) :=
 ⟨r.hd,by have:=r.dp;show A.depth+1+3 * k+5 < _;omega,by have:=r.un;show A.units+3+16 * k+200 < _;omega,r.gd⟩
theorem Room.in1{k:Nat}{A:Around}(r:Room (k+1) A):Room k A.in1 :=
 ⟨r.hd,by have:=r.dp;show A.depth+3 * k+5 < _;omega,by have:=r.un;show A.units+1+16 * k+200 < _;omega,r.gd⟩
theorem Room.depth{k:Nat}{A:Around}(r:Room k A):A.depth < recursionLimit:=by have:=r.dp;omega
theorem Room.units{k:Nat}{A:Around}(r:Room k A):A.units+64 < cLine:=by have:=r.un;omega
noncomputable def tNil:TA:=λ_ H Q=>Q [] H
noncomputable def tCons(ta:TE)(tr:TA):TA:=λσ H Q=>ta σ H λx H1=>tr σ H1 λxs H2=>Q (x :: xs) H2
section
variable {X:Cx}{e:Expr}{es:List Expr}{te:TE}{t:TA}{pos:Pos}
theorem pa_nil:PA X [] tNil:=λ_ _ _ _ H Q I h=>Calls.spliced_nil ⟨[],H,I,.nil,h⟩
theorem pa_cons(ha:PE X e te)(hr:PA X es t)(hs:starEach (e :: es) X.env=(false,eval e X.env) :: starEach es X.env:=by rfl):PA X (e :: es) (tCons te t):=by
 intro pos pins s σ H Q I h
 rw[hs]
 show wpAny _ _ (spliced ((false,eval e X.env) :: backTo pos (starEach es X.env))) _ _ s
 refine Calls.spliced_cons (thn (ha pins s σ H _ I h) λu s1 ⟨x,H1,I1,r1,q1⟩=>?_)
 exact thn (hr pos pins s1 σ H1 _ I1 q1) λus s2 ⟨xs,H2,I2,r2,q2⟩=>⟨x :: xs,H2,I2,.cons r1 r2,q2⟩
noncomputable def tTup(t:TA):TE:=λσ H Q=>t σ H λxs H1=>xs.length<=sizeLine/\∀p,H1 p=none->Q (.ref p) (upd H1 p (.tup xs))
noncomputable def tLst(t:TA):TE:=λσ H Q=>t σ H λxs H1=>xs.length<=sizeLine/\∀p,H1 p=none->Q (.ref p) (upd H1 p (.lst xs))
theorem pe_tup{x1}(h:PA X es t):PE X (.Tuple es x1 pos) (tTup t):=by
 intro pins s σ H Q I hq
 refine wpAny_Tuple_spliced (thn (h pos pins s σ H _ I hq) λus s1 ⟨xs,H1,I1,r,z,q⟩=>⟨by rw[<- r.length];exact z,?_⟩)
 have hf:H1 s1.heap.objs.size=none:=I1.hok.fresh (A0 _)
 refine ⟨.ref s1.heap.objs.size,upd H1 s1.heap.objs.size (.tup xs),I1.laid (t':=s1.toks) (λb u e=>i0 _ e) (A0 _) ?_,rfl,q _ hf⟩
 exact ⟨z,us,r,⟨_,M0 _ rfl,rfl,_,rfl,rfl⟩⟩
theorem pe_lst(h:PA X es t):PE X (.List es pos) (tLst t):=by
 intro pins s σ H Q I hq
 refine wpAny_List_spliced (thn (h pos pins s σ H _ I hq) λus s1 ⟨xs,H1,I1,r,z,q⟩=>⟨by rw[<- r.length];exact z,?_⟩)
 have hf:H1 s1.heap.objs.size=none:=I1.hok.fresh (A0 _)
 refine ⟨.ref s1.heap.objs.size,upd H1 s1.heap.objs.size (.lst xs),I1.laid (t':=s1.toks) (λb u e=>i0 _ e) (A0 _) ?_,rfl,q _ hf⟩
 exact ⟨z,us,0,r,M0 _ rfl⟩
end
noncomputable abbrev Sp:=List V->Hp->VK->XK->Prop
noncomputable abbrev CXT:=List Env->Hp->Shared->XK->Value->Shared->Prop
structure Env0(P:Program)(w:World)(K:n0)(mg:Str->Option Value)(base:Heap)(A:Around)(outer:List Env)(s:Shared)(H:Hp):Prop where
 frames:A.frames=some outer
 mod:Mod K mg base
 bs:∀b o,base.get? b=some o->s.heap.get? b=some o/\H b=none
 bsz:base.objs.size<=s.heap.objs.size
 funs:s.heap.FunFrames base outer
 frf:∀b∈frs outer,H b=none
 hok:HOk P w H s.heap
 bare:AllBare s.gens
noncomputable def CE(outer:List Env)(P:Program)(w:World)(H:Hp)(s:Shared)(Q:VK)(u:Value)(s':Shared):Prop :=
 ∃v H',s'.os=s.os/\AllBare s'.gens/\Un (frs outer) [] H H' s.heap s'.heap/\HOk P w H' s'.heap/\RelV v u/\Q v H'
noncomputable def CR(CX:CXT)(outer:List Env)(P:Program)(w:World)(H:Hp)(s:Shared)(Q:VK)(E:XK)(r:Result)(s':Shared):Prop :=
 match r with
 | .ok (.ret u)=>CE outer P w H s Q u s'
 | .ok _=>False
 | .error e=>CX outer H s E e s'
structure FnOk(P:Program)(w:World)(K:n0)(mg:Str->Option Value)(base:Heap)(CX:CXT)(k:Nat)(f:Addr)(fd:FuncData)(ps:List Str)(sp:Sp):Prop where
 len:∀vs H Q E,sp vs H Q E->vs.length=ps.length
 run:∀(A:Around) (outer:List Env) (s:Shared) (H:Hp) (args:Args) (us:List Value) (vs:List V) (Q:VK) (E:XK),Room k A->Env0 P w K mg base A outer s H->BindsTo s fd args (ps.zip us)->Vals vs us->sp vs H Q E ->
  codeAny (model P w) A (.call (.ref f) args) (CR CX outer P w H s Q E) s
section
variable {X:Cx}{pins:List (Addr×Obj)}{σ:St}{H:Hp}{s s':Shared}
theorem Inv.env0(I:Inv X pins σ H s):Env0 X.prog X.w X.K X.mg X.base X.A X.stack s H :=
 ⟨I.ok.frames,I.ok.mod,I.bs,Q0 I.ok.bsz I.sz,I.stack,I.stkFree,I.hok,I.bare⟩
theorem Inv.after{Q:VK}{u:Value}(I:Inv X pins σ H s)(h:CE X.stack X.prog X.w H s Q u s'):EP X pins σ Q u s':=by
 obtain⟨v,H',os,bare,un,hok,r,q⟩:=h
 obtain⟨hh,g,d,t,os'⟩:=s'
 obtain rfl:os'=s.os:=os
 exact ⟨v,H',I.call (h':=hh) (g':=g) (d':=d) (t':=t) (ch:=[]) un hok bare (λb z=>absurd z (by simp)),r,q⟩
end
noncomputable def tCall(sp:Sp)(dvs:List V)(E:XK)(t:TA):TE:=λσ H Q=>t σ H λvs H1=>sp (vs++dvs) H1 Q E
noncomputable def Binds(K:n0)(fd:FuncData)(ps:List Str)(ds:List Value):Prop :=
 ∀(s:Shared) (us:List Value),K.In s.heap->(us++ds).length=ps.length->BindsTo s fd ⟨us,[]⟩ (ps.zip (us++ds))
theorem Binds.all{K:n0}{fd:FuncData}{ps:List Str}(h:∀us:List Value,us.length=ps.length->bindArgs fd ⟨us,[]⟩=pure (ps.zip us)):Binds K fd ps []:=λs us _ hl=>by
 rw[S3]at hl ⊢
 exact .of_eq (h us hl)
noncomputable def Passes(CX:CXT)(X:Cx)(E:XK):Prop:=∀(pins:List (Addr×Obj)) (σ:St) (H:Hp) (s:Shared) (e:Value) (s':Shared),Inv X pins σ H s->CX X.stack H s E e s'->X.xe e s'
section
variable {X:Cx}{CX:CXT}{k:Nat}{f C:Addr}{fd:FuncData}{ps:List Str}{sp:Sp}{dvs:List V}{ds:List Value}{E:XK}{x m:Str}{p pos apos:Pos}{e o:Expr}{es:List Expr}{ta:TE}{t:TA}
theorem run_fn{pins:List (Addr×Obj)}{σ:St}{H:Hp}{s:Shared}{Q:VK}{us:List Value}{vs:List V}(F:FnOk X.prog X.w X.K X.mg X.base CX k f fd ps sp)(hr:Room k X.A)(hb:Binds X.K fd ps ds)(hd:Vals dvs ds)(hx:Passes CX X E)
  (I:Inv X pins σ H s) (r:Vals vs us) (h:sp (vs++dvs) H Q E):wpAny (model X.prog X.w) X.A (call (.ref f) us) (EP X pins σ Q) X.xe s:=by
 have r2:Vals (vs++dvs) (us++ds):=r.append hd
 have hl:(us++ds).length=ps.length:=by rw[<- r2.length];exact F.len _ _ _ _ h
 refine wpAny_call (codeAny_mono (F.run X.A X.stack s H ⟨us,[]⟩ (us++ds) (vs++dvs) Q E hr I.env0 (hb s us I.kIn hl) r2 h) λr s' hq=>?_)
 cases r with
 | error e=>exact hx pins σ H s e s' I hq
 | ok fl =>
  cases fl with
  | ret u=>exact I.after hq
  | next=>exact False.elim hq
  | brk=>exact False.elim hq
  | cont=>exact False.elim hq
theorem pe_call(F:FnOk X.prog X.w X.K X.mg X.base CX k f fd ps sp)(hr:Room k X.A)(hg:Gl X x)(hm:X.mg x=some (.ref f))(hk:X4 X.K (.ref f)=true)(hb:Binds X.K fd ps ds)(hd:Vals dvs ds)(hx:Passes CX X E)
  (ha:PA X (e :: es) t) (hdb:(x==("__debug__":Str))=false:=by decide) (he:starEach (e :: es) X.env=(false,eval e X.env) :: starEach es X.env:=by rfl) (hpl:(backTo pos (starEach es X.env)).any (·.1)=false:=by rfl) :
  PE X (.Call (.Name x p) (e :: es) [] pos) (tCall sp dvs E t):=by
 intro pins s σ H Q I h
 refine wpAny_Call_Name_kw (ld_glob I hg hm ?_ hdb)
 refine PySem.W.callWith_K (h₀:=X.base) I.ok.mod.kin hk (thn (ha pos pins s σ H _ I h) λus s1 ⟨vs,H1,I1,r,q⟩=>⟨I1.kIn,?_⟩) he hpl
 exact run_fn F hr hb hd hx I1 r q
structure Mk(K:n0)(C f:Addr):Prop where
 makes:PySem.W.makesIn K C=true
 init:t6 K (.ref C) "__init__"=some (some (.ref f))
 fn:PySem.W.isFn K (.ref f)=true
 kp:X4 K (.ref C)=true
end
section
variable {X:Cx}{CX:CXT}{k:Nat}{f C:Addr}{fd:FuncData}{ps ks:List Str}{sp:Sp}{E:XK}{x m:Str}{p pos apos kpos:Pos}{e o:Expr}{es:List Expr}{kws:List Keyword}{te ta:TE}{t tk:TA}{nm:Option Str}
structure KBinds(K:n0)(fd:FuncData)(ps ks:List Str)(g:List Value->List Value->List Value)(gV:List V->List V->List V):Prop where
 to:∀(s:Shared) (us ws:List Value),K.In s.heap->(g us ws).length=ps.length->BindsTo s fd ⟨us,ks.zip ws⟩ (ps.zip (g us ws))
 rel:∀{vs:List V}{us:List Value}{zs:List V}{ws:List Value},Vals vs us->Vals zs ws->Vals (gV vs zs) (g us ws)
variable {g:List Value->List Value->List Value}{gV:List V->List V->List V}
end
structure FnScope(N P:List Str)(sc:Scope):Prop where
 kind:sc.kind=.function
 co:sc.isCoroutine=false
 gen:sc.isGenerator=false
 nd:N.Nodup
 pre:N.take P.length=P
 par:∀x∈P,sc.names.lookup x=some .local\/sc.names.lookup x=some .cell
 nofree:∀y∈sc.names,y.2≠.free
theorem bindL_out{kindOf:Str->Option NameKind}{x:Str}:∀{binds:List (Str×Value)}{m:Str->Option Value},(∀v,(x,v)∉binds)->bindL kindOf binds m x=m x
 | [],_,_=>rfl
 | (n,v) :: r,m,h=>by
  unfold bindL
  rw[bindL_out λw hw=>h w (L0 _ hw)]
  split
  ·have:x≠n:=by rintro rfl;exact h v P0
   simp[this]
  ·rfl
theorem bindC_out{kindOf:Str->Option NameKind}{x:Str}:∀{binds:List (Str×Value)}{m:Str->Option Value},(∀v,(x,v)∉binds)->bindC kindOf binds m x=m x
 | [],_,_=>rfl
 | (n,v) :: r,m,h=>by
  unfold bindC
  rw[bindC_out λw hw=>h w (L0 _ hw)]
  split
  ·rfl
  ·have:x≠n:=by rintro rfl;exact h v P0
   simp[this]
theorem bindL_get{kindOf:Str->Option NameKind}{x:Str}{v:Value}:∀{P:List Str}{vs:List Value}{i:Nat}{m:Str->Option Value},P.Nodup->P[i]?=some x->vs[i]?=some v->kindOf x=some .local ->
  bindL kindOf (P.zip vs) m x=some v
 | [],_,_,_,_,h,_,_=>by simp at h
 | _ :: _,[],_,_,_,_,h,_=>by simp at h
 | p :: P,w :: vs,0,m,nd,h1,h2,hk=>by
  simp at h1 h2;subst h1;subst h2
  show bindL kindOf ((p,w) :: P.zip vs) m p=_
  unfold bindL
  rw[bindL_out λv hv=>(E3.mp nd).1 (L5 hv).1,if_pos hk]
  simp
 | p :: P,w :: vs,i+1,m,nd,h1,h2,hk=>by
  show bindL kindOf ((p,w) :: P.zip vs) m x=_
  unfold bindL
  exact bindL_get (i:=i) (E3.mp nd).2 (by simpa using h1) (by simpa using h2) hk
theorem bindC_get{kindOf:Str->Option NameKind}{x:Str}{v:Value}:∀{P:List Str}{vs:List Value}{i:Nat}{m:Str->Option Value},P.Nodup->P[i]?=some x->vs[i]?=some v->kindOf x≠some .local ->
  bindC kindOf (P.zip vs) m x=some v
 | [],_,_,_,_,h,_,_=>by simp at h
 | _ :: _,[],_,_,_,_,h,_=>by simp at h
 | p :: P,w :: vs,0,m,nd,h1,h2,hk=>by
  simp at h1 h2;subst h1;subst h2
  show bindC kindOf ((p,w) :: P.zip vs) m p=_
  unfold bindC
  rw[bindC_out λv hv=>(E3.mp nd).1 (L5 hv).1,if_neg hk]
  simp
 | p :: P,w :: vs,i+1,m,nd,h1,h2,hk=>by
  show bindC kindOf ((p,w) :: P.zip vs) m x=_
  unfold bindC
  exact bindC_get (i:=i) (E3.mp nd).2 (by simpa using h1) (by simpa using h2) hk
noncomputable def start(N:List Str)(vs:List V):St:=vs.map some++G2 (N.length - vs.length) none
noncomputable def cxOf(CX:CXT)(P:Program)(w:World)(K:n0)(mg:Str->Option Value)(base:Heap)(N:List Str)(qual:Str)(scope:Scope)(f:Addr)(cd:Value)(A:Around)(outer:List Env)(s:Shared)(H:Hp)(E:XK):Cx where
 prog:=P
 w:=w
 K:=K
 mg:=mg
 base:=base
 A:=A.deeper (envOfC qual scope s.heap.objs.size f cd)
 N:=N
 s₀:=s
 H₀:=H
 env:=envOfC qual scope s.heap.objs.size f cd
 outer:=outer
 stack:=envOfC qual scope s.heap.objs.size f cd :: outer
 ex:=[]
 calm:=true
 fn:=λ_=>true
 pn:=[]
 xe:=λe s'=>wpAny (model P w) (A.deeper (envOfC qual scope s.heap.objs.size f cd)) (leaving (envOfC qual scope s.heap.objs.size f cd) e) (λ_ s''=>CX outer H s E e s'') (λe' s''=>CX outer H s E e' s'') s'
theorem cell_has{sc:Scope}{n:Nat}{x:Str}(h:sc.names.lookup x=some .cell):∃c,(cellsFrom n sc.names []).lookup x=some c:=by
 have q:=K6 sc.names n [] (.inl h)
 exact Option.isSome_iff_exists.mp q
theorem inv_start{CX:CXT}{P:Program}{w:World}{K:n0}{mg:Str->Option Value}{base:Heap}{N ps:List Str}{qual:Str}{scope:Scope}{f:Addr}{cd:Value}{A:Around}{outer:List Env}{s s1:Shared}{H:Hp}{E:XK}{us:List Value}{vs:List V}
  (S:FnScope N ps scope) (hd:A.handled=none) (e0:Env0 P w K mg base A outer s H) (hl:vs.length=ps.length) (r:Vals vs us)
  (x:InCallC s s.heap.objs.size (bindL (envOfC qual scope s.heap.objs.size f cd).kindOf (ps.zip us) λ_=>none) (cellsFrom (s.heap.objs.size+1) scope.names []) (bindC (envOfC qual scope s.heap.objs.size f cd).kindOf (ps.zip us) λ_=>none) s1) :
  Inv (cxOf CX P w K mg base N qual scope f cd A outer s H E) [] (start N vs) H s1:=by
 have hpl:ps.length<=N.length:=by have:=congrArg S4 S.pre;rw[J1]at this;omega
 obtain⟨h1,tk,rfl,hk⟩:=x.done
 have noA:∀b:Addr,b∉(cxOf CX P w K mg base N qual scope f cd A outer s H E).ex:=λb z=>absurd (show b∈([]:List Addr) from z) (by simp)
 refine ⟨⟨e0.mod,S.kind,rfl,rfl,A0 _,λy z c h1 h2=>?_,λy hy=>?_,λy c _ h=>?_,λ_=>hd,Around.frames_deeper e0.frames,.inr ⟨rfl,rfl⟩,λb z=>absurd z (noA b),e0.bs,e0.bsz,λb _ _=>noA b,λb z=>absurd z (noA b),e0.funs,e0.frf⟩,
   rfl,e0.bare,Un.kept hk,⟨_,x.toInCall.ns,λi y v h1 h2 h3=>?_⟩,λy c h=>⟨_,x.cell y c h⟩,e0.hok.fresh (A0 _),λy c h=>?_,λp hp=>absurd (show p∈([]:List (Addr×Obj)) from hp) (by simp),e0.hok.kept hk,?_⟩
 ·exact name_of_addr x.apart (PySem.mem_of_lookup h1) (PySem.mem_of_lookup h2)
 ·have hy:scope.names.lookup y=some .cell\/scope.names.lookup y=some .free:=hy
  rcases hy with hy|hy
  ·exact cell_has hy
  ·exact absurd rfl (S.nofree _ (PySem.mem_of_lookup hy))
 ·exact U5 (x.above y c (PySem.mem_of_lookup h))
 ·have hi:i < vs.length:=by
   unfold start at h2
   by_cases hi:i < vs.length
   ·exact hi
   ·rw[Y1 (by simpa using hi)]at h2
    rw[b8]at h2
    split at h2<;>cases h2
  have ha:vs[i]?=some v:=by
   unfold start at h2
   rw[X2 (by simpa using hi),O0]at h2
   cases e:vs[i]? with
   | none=>rw[e]at h2;cases h2
   | some a=>rw[e]at h2;cases h2;rfl
  obtain⟨u,hu,rv⟩:=r.get ha
  have hp:ps[i]?=some y:=by
   rw[<- S.pre,List.getElem?_take_of_lt (by omega)];exact h1
  have ndP:ps.Nodup:=by rw[<- S.pre];exact S.nd.sublist (List.take_sublist _ _)
  refine ⟨u,rv,?_⟩
  rcases S.par y (E1 hp) with k|k
  ·exact .inl ⟨k,bindL_get ndP hp hu k⟩
  ·obtain⟨c,e⟩:=cell_has (n:=s.heap.objs.size+1) k
   refine .inr ⟨.inl k,c,e,?_⟩
   have q:=x.cell y c e
   rw[bindC_get ndP hp hu (by show scope.names.lookup y≠_;rw[k];decide)]at q
   exact q
 ·exact e0.hok.fresh (U5 (x.above y c (PySem.mem_of_lookup h)))
 ·unfold start
  show _=N.length
  rw[B0,j0,List.length_replicate]
  omega
theorem fn_of{CX:CXT}{P:Program}{w:World}{K:n0}{mg:Str->Option Value}{base:Heap}{k:Nat}{f:Addr}{name qual:Str}{params:Arguments}{body:List Stmt}{scope:Scope}{dV kV doc pm cdv ct oc:Value}{an od:Option Addr}
  {osl:Array (Option Value)}{N ps:List Str}{sp:Sp} (lk:K.lookup f=some ⟨oc,od,.func (q5 name qual params body scope dV kV doc pm an cdv ct),osl⟩) (hcd:F7 K cdv qual=true) (S:FnScope N ps scope)
  (len:∀vs H Q E,sp vs H Q E->vs.length=ps.length)
  (hbody:∀(A:Around) (outer:List Env) (s:Shared) (H:Hp) (vs:List V) (Q:VK) (E:XK),Room k (A.deeper (envOfC qual scope s.heap.objs.size f cdv))->sp vs H Q E ->
    ∃t,PSs (cxOf CX P w K mg base N qual scope f cdv A outer s H E) body t/\t { nx:=λ_ H'=>Q .non H',rt:=Q } (start N vs) H) :
  FnOk P w K mg base CX (k+1) f (q5 name qual params body scope dV kV doc pm an cdv ct) ps sp:=by
 refine ⟨len,λA outer s H args us vs Q E hr e0 hb r hsp=>?_⟩
 have hl:=len _ _ _ _ hsp
 have KX:K.In s.heap:=e0.mod.kin.keeps λb o e=>(e0.bs b o e).1
 have lim:s.heap.NoLimit:=e0.mod.nolimit.keeps λb o e=>(e0.bs b o e).1
 have hkind:∀y∈ps.zip us,scope.names.lookup y.1=some .local\/(scope.names.lookup y.1=some .cell/\((cellsFrom (s.heap.objs.size+1) scope.names []).lookup y.1).isSome=true):=λ⟨n,v⟩ hy=>by
  rcases S.par n (L5 hy).1 with q|q
  ·exact .inl q
  ·exact .inr ⟨q,K6 _ _ _ (.inl q)⟩
 refine codeAny_call_function hr.depth (KX _ _ lk) rfl S.co S.gen rfl (PySem.W.codeRec_of KX hcd) (hb _ _ _ _ ?_)
 refine wpAny_newFunctionEnv_cells S.kind hkind λenv he s1 x=>?_
 subst he
 refine ⟨lim.keeps x.toInCall.keep,codeAny_func ?_⟩
 obtain⟨t,ht,hq⟩:=hbody A outer s H vs Q E (hr.deeper _) hsp
 have I:Inv (cxOf CX P w K mg base N qual scope f cdv A outer s H E) [] (start N vs) H s1:=inv_start S hr.hd e0 hl r x
 refine wpAny_mono (ht [] s1 (start N vs) H _ I hq) (λfl s' hs=>?_) λe s' hs=>hs
 have fin:∀{σ':St}{H':Hp}{v:V}{u:Value},Inv (cxOf CX P w K mg base N qual scope f cdv A outer s H E) [] σ' H' s'->RelV v u->Q v H'->CE outer P w H s Q u s' :=
  λ{σ' H' v u} J rv q=>⟨v,H',J.os,J.bare,J.base,J.hok,rv,q⟩
 cases fl with
 | ret u =>
  obtain⟨v,σ',H',J,rv,q⟩:=hs
  exact fin J rv q
 | next =>
  obtain⟨σ',H',J,q⟩:=hs
  exact fin (v:=V.non) (u:=Q3) J rfl q
 | brk =>
  obtain⟨_,_,_,q⟩:=hs
  exact False.elim q
 | cont =>
  obtain⟨_,_,_,q⟩:=hs
  exact False.elim q
section
variable {X:Cx}{x:Str}{p pos:Pos}{e:Expr}{es:List Expr}{t:TA}{id T:String}{r:List V->Hp->VK->Prop}
noncomputable def tCB(r:List V->Hp->VK->Prop)(t:TA):TE:=λσ H Q=>t σ H λvs H1=>r vs H1 Q
theorem pe_callB(hc:CallR X (.builtin id) r)(hg:Gl X x)(hm:X.mg x=none)(hv:bootBuiltins x=some (.builtin id))(ha:PA X (e :: es) t)(hn:x ≠ "__name__":=by decide)(hdb:(x==("__debug__":Str))=false:=by decide)
  (he:starEach (e :: es) X.env=(false,eval e X.env) :: starEach es X.env:=by rfl) (hpl:(backTo pos (starEach es X.env)).any (·.1)=false:=by rfl):PE X (.Call (.Name x p) (e :: es) [] pos) (tCB r t):=by
 intro pins s σ H Q I h
 refine wpAny_Call_Name_kw (ld_blt I hg hm hv ?_ hn hdb)
 exact Z6 (thn (ha pos pins s σ H _ I h) λus s1 ⟨vs,H1,I1,r1,q1⟩=>hc pins s1 σ H1 vs us Q I1 r1 q1) he hpl
theorem pe_callTy(hc:CallR X (.type T) r)(hg:Gl X x)(hm:X.mg x=none)(hv:bootBuiltins x=some (.type T))(ha:PA X (e :: es) t)(hn:x ≠ "__name__":=by decide)(hdb:(x==("__debug__":Str))=false:=by decide)
  (he:starEach (e :: es) X.env=(false,eval e X.env) :: starEach es X.env:=by rfl) (hpl:(backTo pos (starEach es X.env)).any (·.1)=false:=by rfl):PE X (.Call (.Name x p) (e :: es) [] pos) (tCB r t):=by
 intro pins s σ H Q I h
 refine wpAny_Call_Name_kw (ld_blt I hg hm hv ?_ hn hdb)
 exact V4 (thn (ha pos pins s σ H _ I h) λus s1 ⟨vs,H1,I1,r1,q1⟩=>hc pins s1 σ H1 vs us Q I1 r1 q1) he hpl
end
end L2
namespace HT
open PySem PyProof.Rows
noncomputable def lexLt:List Int->List Int->Bool
 | [],[]=>false
 | [],_ :: _=>true
 | _ :: _,[]=>false
 | x :: xs,y :: ys=>if x=y then lexLt xs ys else decide (x < y)
theorem lexLt_cons(x y:Int)(xs ys:List Int):lexLt (x :: xs) (y :: ys)=if x=y then lexLt xs ys else decide (x < y):=rfl
theorem lexLt_nil_nil:lexLt [] []=false:=rfl
theorem lexLt_nil_cons(y:Int)(ys:List Int):lexLt [] (y :: ys)=true:=rfl
theorem lexLt_cons_nil(x:Int)(xs:List Int):lexLt (x :: xs) []=false:=rfl
theorem eqAt_int(A:Around)(s:Shared)(a:Int)(t:Tok)(c:Int)(u:Tok):∃e,SeqAt.EqAt A s (.int a t) (.int c u) e/\(e=true ↔ a=c) :=
 ⟨(a==c),SeqAt.EqAt.int_int a t c u,by simp⟩
theorem rcLt_int(A:Around)(s:Shared)(a:Int)(t:Tok)(c:Int)(u:Tok)(prog:Program)(w:World)(E:Value->Shared->Prop)(Q:Value->Shared->Prop)(h:Q (.bool (decide (a < c))) s) :
  wpAny (model prog w) A (richCompare .Lt (.int a t) (.int c u)) Q E s :=
 (PyProof.Rows.lt_int h:wpAny (model prog w) A (compareOp .Lt (.int a t) (.int c u)) Q E s)
section
open PySem.SeqAt
open PySem.AutoSeq1 (wpAny_loadPart')
open PySem.MeetsSeq PySem.MeetsSeq2 PySem.MeetsSeq3
theorem tuple_lt_ints(l b:Addr)(items items2:Array Value)(n n2:Nat)(dd dd2:Option Addr)(sl sl2:Array (Option Value))(ns ms:List Int)(hi:IntsAre items.toList ns)(hj:IntsAre items2.toList ms) :
  Meets (Builtin.«tuple.__lt__» ⟨[.ref l,.ref b],[]⟩)
   (λ_ R s=>s.heap.get? l=some { cls:=.type "tuple",dict:=dd,data:=.seq items n,slots:=sl }/\s.heap.get? b=some { cls:=.type "tuple",dict:=dd2,data:=.seq items2 n2,slots:=sl2 } /\
     R (.ok (.ret (.bool (lexLt ns ms)))) s) :=
 .of_wp λprog w A R s h=>by
  obtain⟨hp,g,d,tk,os⟩:=s;obtain⟨hl,hb,h⟩:=h
  have f2:=AutoSeq1.sub_tuple_tuple
  have z1:items.size=ns.length:=by rw[<- hi.length];simp
  have z2:items2.size=ms.length:=by rw[<- hj.length];simp
  wp_walk using wpAny_loadPart' hl,wpAny_loadPart' hb,wpAny_forIn_list _ (λrest b s'=>b.1=none/\s'=⟨hp,g,d,tk,os⟩/\∃(vs ws:List Value) (ns' ms':List Int),rest=vs.zip ws /\
    IntsAre vs ns'/\IntsAre ws ms'/\ns'.length+items2.size=ms'.length+items.size/\R (.ok (.ret (.bool (lexLt ns' ms')))) ⟨hp,g,d,tk,os⟩) _
  case turn =>
   rintro⟨y,x⟩ rest b s' ⟨hb',rfl,vs,ws,ns',ms',hz,hvi,hwi,hlen,hR⟩
   cases hvi with
   | nil=>rw[List.zip_nil_left]at hz;cases hz
   | cons a t hvi' =>
    cases hwi with
    | nil=>rw[List.zip_nil_right]at hz;cases hz
    | cons c u hwi' =>
     rw[G5]at hz
     injection hz with hyx hrest
     injection hyx with hy hx
     subst hy hx
     rw[lexLt_cons]at hR
     simp only[B2]at hlen
     obtain⟨e,he,hiff⟩:=eqAt_int A.in1 ⟨hp,g,d,tk,os⟩ a t c u
     refine wpAny_bind (he prog w _ _ ?_)
     cases e with
     | true =>
      rw[if_pos (hiff.mp rfl)]at hR
      wp_walk
      exact ⟨rfl,rfl,_,_,_,_,hrest,hvi',hwi',by omega,hR⟩
     | false =>
      rw[if_neg (λq=>absurd (hiff.mpr q) G1)]at hR
      have hri:=rcLt_int A.in1 ⟨hp,g,d,tk,os⟩ a t c u prog w
      wp_walk using hri
      exact ⟨_,rfl,by simpa using hR⟩
  case fin =>
   rintro⟨b1,b2⟩ s' ⟨hb',rfl,vs,ws,ns',ms',hz,hvi,hwi,hlen,hR⟩
   simp only at hb'
   subst hb'
   have hv:lexLt ns' ms'=decide (items.size < items2.size):=by
    cases hvi with
    | nil =>
     cases hwi with
     | nil =>
      simp only[i7]at hlen
      rw[lexLt_nil_nil]
      exact (decide_eq_false (by omega)).symm
     | cons c u hw =>
      simp only[i7,B2]at hlen
      rw[lexLt_nil_cons]
      exact (decide_eq_true (by omega)).symm
    | cons a t hv =>
     cases hwi with
     | nil =>
      simp only[i7,B2]at hlen
      rw[lexLt_cons_nil]
      exact (decide_eq_false (by omega)).symm
     | cons c u hw =>
      rw[G5]at hz
      cases hz
   rw[hv]at hR
   wp_walk
   exact ⟨_,rfl,by simpa [Builtin.Tuple.tupleCompareSizes]using hR⟩
  case h =>
   exact ⟨rfl,rfl,items.toList,items2.toList,ns,ms,rfl,hi,hj,by omega,h⟩
end
section
variable {prog:Program}{w:World}{A:Around}{E:Value->Shared->Prop}{s:Shared}
theorem lt_tupInts{l b:Addr}{items items2:Array Value}{ns ms:List Int}{Q:Value->Shared->Prop}(hl:IsTup s.heap l items)(hb:IsTup s.heap b items2)(hi:IntsAre items.toList ns)(hj:IntsAre items2.toList ms)
  (hu:A.units < cLine) (h:Q (.bool (lexLt ns ms)) s):wpAny (model prog w) A (compareOp .Lt (.ref l) (.ref b)) Q E s:=by
 obtain⟨⟨cls,dd,data,sl⟩,ho,hc,n,hd⟩:=id hl
 obtain⟨⟨cls2,dd2,data2,sl2⟩,ho2,hc2,n2,hd2⟩:=id hb
 simp only at hc hd hc2 hd2
 subst hc hd hc2 hd2
 exact richCompare_meets_room (op:=.Lt) ⟨_,ho,rfl⟩ ⟨_,ho2,rfl⟩ PySem.F.slot_tuple_lt PySem.F.entry_tuple_lt (PySem.F.args_tuple_lt_2 _ _) (tuple_lt_ints l b items items2 n n2 dd dd2 sl sl2 ns ms hi hj)
  ⟨ho,ho2,show T6 (lexLt ns ms)≠Value.notImplemented/\Q (.bool (lexLt ns ms)) s from ⟨(λx=>nomatch x),h⟩⟩ hu
theorem cat_tup{t b:Addr}{vs ws:List Value}{Q:Value->Shared->Prop}(ht:IsTup s.heap t vs.toArray)(hb:IsTup s.heap b ws.toArray)(hv:vs≠[])
  (h1:ws=[]->Q (.ref t) s) (h2:ws≠[]->Q (.ref s.heap.objs.size) { s with heap:=s.heap.push { cls:=.type "tuple",data:=.seq (vs++ws).toArray } })
  (hsz:vs.length+ws.length<=sizeLine):wpAny (model prog w) A (binaryOp .Add (.ref t) (.ref b)) Q E s:=by
 obtain⟨⟨cls,dd,data,sl⟩,ho,hc,n,hd⟩:=id ht
 obtain⟨⟨cls2,dd2,data2,sl2⟩,ho2,hc2,n2,hd2⟩:=id hb
 simp only at hc hd hc2 hd2
 subst hc hd hc2 hd2
 have e:vs.toArray++ws.toArray=(vs++ws).toArray:=by simp
 by_cases hw:ws=[]
 ·exact concat_meets ⟨_,ho,rfl⟩ ⟨_,ho2,rfl⟩ noFill_tuple_add seq_tuple_add PySem.F.slot_tuple_add PySem.F.entry_tuple_add (PySem.F.args_tuple_add_2 _ _)
   (tuple_addW1 t b vs.toArray ws.toArray n n2 dd dd2 sl sl2 (by simpa using hv) (by simp[hw])) ⟨ho,ho2,h1 hw⟩
 ·refine concat_meets ⟨_,ho,rfl⟩ ⟨_,ho2,rfl⟩ noFill_tuple_add seq_tuple_add PySem.F.slot_tuple_add PySem.F.entry_tuple_add (PySem.F.args_tuple_add_2 _ _)
   (tuple_addW2 t b vs.toArray ws.toArray n n2 dd dd2 sl sl2 (by simpa using hv) (by simpa using hw) (by rw[N0,N0];exact hsz)) ⟨ho,ho2,?_⟩
  rw[e]
  exact h2 hw
noncomputable def sIx(n d:Nat):Option Int->Nat
 | none=>d
 | some v=>if v < 0 then (v+(n:Int)).toNat else min v.toNat n
theorem sIx_le(n d:Nat)(hd:d<=n)(o:Option Int):sIx n d o<=n:=by
 cases o with
 | none=>exact hd
 | some v =>
  show (if v < 0 then (v+(n:Int)).toNat else min v.toNat n)<=n
  by_cases hv:v < 0
  ·rw[if_pos hv];omega
  ·rw[if_neg hv];exact Nat.min_le_right _ _
theorem clip_eq(v:Int)(n d:Nat):(if v < 0 then max (v+(n:Int)) 0 else min v (n:Int))=((sIx n d (some v):Nat):Int):=by
 show (if v < 0 then max (v+(n:Int)) 0 else min v (n:Int))=(((if v < 0 then (v+(n:Int)).toNat else min v.toNat n):Nat):Int)
 by_cases hv:v < 0
 ·simp only[if_pos hv];omega
 ·simp only[if_neg hv];omega
theorem adjust_gen(lo hi:Option Int)(n:Nat):W5 lo hi 1 (n:Int)=(((sIx n 0 lo:Nat):Int),((sIx n n hi:Nat):Int)):=by
 have h1:¬((1:Int) < 0):=by omega
 unfold W5
 simp only[h1,if_false]
 refine Prod.ext ?_ ?_
 ·cases lo with
  | none=>rfl
  | some v=>exact clip_eq v n 0
 ·cases hi with
  | none=>rfl
  | some v=>exact clip_eq v n n
theorem places_gen(i j:Nat):n5 (i:Int) (j:Int) 1=j - i:=by
 unfold n5
 have h1:(1:Int) > 0:=by omega
 simp only[h1,if_true,Int.ediv_one]
 split<;>omega
theorem slicePart_{v:Value}{o:Option Int}{Q:Option Int->Shared->Prop}(p:IsPart v o)(h:Q o s):wpAny (model prog w) A (Builtin.Slice.slicePartIndex v) Q E s:=by
 cases p with
 | none=>exact slicePart_none h
 | int i t=>exact slicePart_int h
theorem sliceApplied_gen{sl:Addr}{vl vu:Value}{lo hi:Option Int}{n:Nat}{Q:Int×Int×Nat->Shared->Prop}(hs:s.heap.IsSliceOf sl vl vu .none)(pl:IsPart vl lo)(pu:IsPart vu hi)
  (h:Q (((sIx n 0 lo:Nat):Int),1,sIx n n hi - sIx n 0 lo) s):wpAny (model prog w) A (M7 (.ref sl) (pure (n:Int))) Q E s:=by
 obtain⟨os,hos,hcs,hds⟩:=id hs
 unfold M7 Builtin.Slice.sliceFields
 refine wpAny_bind (wpAny_bind (wpAny_field hos hds (x:=vl) rfl (wpAny_bind (wpAny_field hos hds (x:=vu) rfl (wpAny_bind (wpAny_field hos hds (x:=.none) rfl (wpAny_pure ?_)))))))
 refine wpAny_bind (slicePart_none ?_)
 show wpAny _ _ (if ((1:Int)==0)=true then _ else _) _ _ s
 rw[if_neg (by decide)]
 refine wpAny_bind (slicePart_ pl (wpAny_bind (slicePart_ pu (wpAny_bind (wpAny_pure ?_)))))
 show wpAny _ _ (match W5 lo hi 1 (n:Int) with|(lo,hi)=>pure (lo,(1:Int),n5 lo hi 1)) _ _ s
 rw[adjust_gen lo hi n]
 show wpAny _ _ (pure (((sIx n 0 lo:Nat):Int),(1:Int),n5 ((sIx n 0 lo:Nat):Int) ((sIx n n hi:Nat):Int) 1)) _ _ s
 rw[places_gen]
 exact wpAny_pure h
theorem pick_gen(xs:Array Value)(i k:Nat):((G3 k).filterMap λ(m:Nat)=>xs[((i:Int)+(m:Int) * 1).toNat]?).toArray=((xs.toList.drop i).take k).toArray:=by
 have e:(λ(m:Nat)=>xs[((i:Int)+(m:Int) * 1).toNat]?)=λm=>xs[i+m]?:=by
  funext m
  have:((i:Int)+(m:Int) * 1).toNat=i+m:=by omega
  rw[this]
 rw[e]
 have:=pick_run xs i k
 rw[List.filterMap_map]at this
 have e2:((λx=>xs[x]?) ∘ λx=>i+x)=λm=>xs[i+m]?:=rfl
 rw[e2]at this
 rw[this]
theorem getItem_tuple_cut{t sl:Addr}{items:Array Value}{vl vu:Value}{lo hi:Option Int}{Q:Value->Shared->Prop}(ht:IsTup s.heap t items)(hs:s.heap.IsSliceOf sl vl vu .none)(pl:IsPart vl lo)(pu:IsPart vu hi)
  (hw:¬(sIx items.size 0 lo=0/\sIx items.size items.size hi=items.size))
  (h:Q (.ref s.heap.objs.size) { s with heap:=s.heap.push { cls:=.type "tuple",data:=.seq ((items.toList.drop (sIx items.size 0 lo)).take (sIx items.size items.size hi - sIx items.size 0 lo)).toArray } })
  (hsz:items.size<=sizeLine):wpAny (model prog w) A (getItem (.ref t) (.ref sl)) Q E s:=by
 have htake:sizeOk (.seq ((items.toList.drop (sIx items.size 0 lo)).take (sIx items.size items.size hi - sIx items.size 0 lo)).toArray):=by
  show ((items.toList.drop (sIx items.size 0 lo)).take (sIx items.size items.size hi - sIx items.size 0 lo)).toArray.size<=sizeLine
  rw[N0,J1,E2,S1]
  omega
 have hj:sIx items.size items.size hi<=items.size:=sIx_le _ _ (A0 _) hi
 obtain⟨os,hos,hcs,hds⟩:=id hs
 have hTs:s.TypeIs (.ref sl) "slice":=⟨os,hos,hcs⟩
 unfold getItem
 try with_reducible refine wpAny_holding ?_
 first|refine wpAny_bind (wpAny_pure ?_)|skip
 refine wpAny_bind (wpAny_sequenceKey ht.typeIs (by decide) ?_)
 refine wpAny_bind (wpAny_callSpecial?_slot (name:=Str.ofString "__getitem__") ht.typeIs L4
   (wpAny_call_entry L4 ht.typeIs entry_tuple_getitem ?_ (args_tuple_getitem _ _)))
 show wpAny _ _ (N7 (.ref t) >>= _) _ _ s
 refine wpAny_bind (tupleItemsOf_ ht ?_)
 refine wpAny_bind (wpAny_typeOf hTs ?_)
 rw[if_pos (by decide)]
 refine wpAny_bind (sliceApplied_gen hs pl pu ?_)
 have hno:¬((((sIx items.size 0 lo:Nat):Int)==0&&(1:Int)==1&&(sIx items.size items.size hi - sIx items.size 0 lo)==items.size)=true):=by
  intro q
  rw[W1,W1]at q
  have q1:((sIx items.size 0 lo:Nat):Int)=0:=eq_of_beq q.1.1
  have q2:sIx items.size items.size hi - sIx items.size 0 lo=items.size:=eq_of_beq q.2
  exact hw ⟨by omega,by omega⟩
 show wpAny _ _ (if (((sIx items.size 0 lo:Nat):Int)==0&&(1:Int)==1&&(sIx items.size items.size hi - sIx items.size 0 lo)==items.size)=true then _ else _) _ _ s
 rw[if_neg hno,pick_gen]
 first
  | exact wpAny_bind (m:=A5 _) (wpAny_newObj_type (wpAny_pure ⟨_,rfl,wpAny_pure h⟩) htake)
  | exact wpAny_bind (m:=A5 _) (wpAny_newObj_type (wpAny_bind (wpAny_pure (wpAny_pure ⟨_,rfl,wpAny_pure h⟩))) htake)
  | exact wpAny_bind (wpAny_bind (m:=A5 _) (wpAny_newObj_type (wpAny_pure (wpAny_pure ⟨_,rfl,wpAny_pure h⟩)) htake))
  | exact wpAny_bind (wpAny_bind (m:=A5 _) (wpAny_newObj_type (wpAny_pure ⟨_,rfl,wpAny_pure h⟩) htake))
end
end HT
namespace L2
open PySem PySem.Spec PyProof.Rows
noncomputable abbrev TO:=St->Hp->(Option Int->Hp->Prop)->Prop
noncomputable def PO(X:Cx)(e:Option Expr)(t:TO):Prop :=
 ∀(pins:List (Addr×Obj)) (s:Shared) (σ:St) (H:Hp) (Q:Option Int->Hp->Prop),Inv X pins σ H s->t σ H Q ->
  wpAny (model X.prog X.w) X.A (evalPart e X.env) (λu s'=>∃o H',Inv X pins σ H' s'/\IsPart u o/\Q o H') X.xe s
noncomputable def tNoPart:TO:=λ_ H Q=>Q none H
noncomputable def tPart(t:TE):TO:=λσ H Q=>t σ H λx H1=>∃i,x=.int i/\Q (some i) H1
theorem intsAre_of{ns:List Int}:∀{us:List Value},Vals (ns.map V.int) us->IntsAre us ns:=by
 induction ns with
 | nil=>intro us r;rw[Z8]at r;cases r;exact .nil
 | cons n ns ih =>
  intro us r
  rw[B1]at r
  cases r with
  | cons r1 r2 =>
   obtain⟨t,e⟩:=r1
   subst e
   exact .cons n t (ih r2)
section
variable {X:Cx}{e:Expr}{te:TE}{lo hi:Option Expr}{tl th:TO}{pos p2:Pos}
theorem po_none:PO X none tNoPart:=by
 intro pins s σ H Q I h
 rw[evalPart_none]
 exact wpAny_pure ⟨none,H,I,.none,h⟩
theorem po_some(h:PE X e te):PO X (some e) (tPart te):=by
 intro pins s σ H Q I hw
 rw[evalPart_some]
 refine thn (h pins s σ H _ I hw) λu s1 ⟨x,H1,I1,r1,q1⟩=>?_
 obtain⟨i,rfl,q⟩:=q1
 obtain⟨t,rfl⟩:=r1
 exact ⟨some i,H1,I1,.int i t,q⟩
noncomputable def SlR(X:Cx)(r:V->Option Int->Option Int->Hp->VK->Prop):Prop :=
 ∀(pins:List (Addr×Obj)) (s:Shared) (σ:St) (H:Hp) (x:V) (v vl vu:Value) (lo hi:Option Int) (sl:Addr) (Q:VK),Inv X pins σ H s->RelV x v->s.heap.IsSliceOf sl vl vu .none->IsPart vl lo->IsPart vu hi->r x lo hi H Q ->
  ∃T id,typeLookup (.type T) "__getitem__"=pure (some (.builtin id))/\s.TypeIs v T/\wpAny (model X.prog X.w) X.A (getItem v (.ref sl)) (EP X pins σ Q) X.xe s
noncomputable def tSl(r:V->Option Int->Option Int->Hp->VK->Prop)(te:TE)(tl th:TO):TE:=λσ H Q=>te σ H λx H1=>tl σ H1 λl H2=>th σ H2 λu H3=>r x l u H3 Q
theorem pe_slice{r:V->Option Int->Option Int->Hp->VK->Prop}(hr:SlR X r)(he:PE X e te)(hl:PO X lo tl)(hu:PO X hi th):PE X (.Subscript e (.Slice lo hi none p2) pos) (tSl r te tl th):=by
 intro pins s σ H Q I h
 refine Subscript_ (thn (he pins s σ H _ I h) λv s1 ⟨x,H1,I1,r1,q1⟩=>?_)
 refine wpAny_Slice (thn (hl pins s1 σ H1 _ I1 q1) λvl s2 ⟨l,H2,I2,pl,q2⟩=>thn (hu pins s2 σ H2 _ I2 q2) λvu s3 ⟨u,H3,I3,pu,q3⟩=>?_)
 rw[evalPart_none]
 refine wpAny_pure ?_
 have I4:Inv X pins σ H3 { s3 with heap:=s3.heap.push { cls:=.type "slice",data:=.fields #[vl,vu,.none] } }:=I3.kept (t':=s3.toks) λb ob q=>i0 _ q
 obtain⟨T,id,hT,ht,hg⟩:=hr pins { s3 with heap:=s3.heap.push { cls:=.type "slice",data:=.fields #[vl,vu,.none] } } σ H3 x v vl vu l u s3.heap.objs.size Q I4 r1 (Heap.IsSliceOf.new ..) pl pu q3
 show wpAny (model X.prog X.w) X.A (subscriptTail e (.Slice lo hi none p2) v (.ref s3.heap.objs.size)) (EP X pins σ Q) X.xe { s3 with heap:=s3.heap.push { cls:=.type "slice",data:=.fields #[vl,vu,.none] } }
 exact tail_any (ops:=[.ref s3.heap.objs.size,v]) ht hT hg (by with_unfolding_all rfl)
noncomputable def cutV(xs:List V)(lo hi:Option Int):List V:=(xs.drop (HT.sIx xs.length 0 lo)).take (HT.sIx xs.length xs.length hi - HT.sIx xs.length 0 lo)
theorem cutV_length(xs:List V)(lo hi:Option Int):(cutV xs lo hi).length<=xs.length:=by
 unfold cutV
 rw[J1,E2]
 omega
noncomputable def rSlT(K:n0):V->Option Int->Option Int->Hp->VK->Prop:=λx lo hi H Q=>∃a xs,x=.ref a/\SqT K H a xs /\
 ¬(HT.sIx xs.length 0 lo=0/\HT.sIx xs.length xs.length hi=xs.length)/\∀p,H p=none->Q (.ref p) (upd H p (.tup (cutV xs lo hi)))
theorem sl_tup:SlR X (rSlT X.K):=by
 intro pins s σ H x v vl vu lo hi sl Q I rx hs pl pu h
 obtain⟨a,xs,rfl,hx,hw,q⟩:=h
 cases rx
 obtain⟨its,r,ht,hz⟩:=I.tuple hx
 have hlen:its.toArray.size=xs.length:=by rw[N0];exact r.length.symm
 refine ⟨"tuple",_,L4.lookup,ht.typeIs,?_⟩
 refine HT.getItem_tuple_cut ht hs pl pu (by rw[hlen];exact hw) ?_ (by rw[hlen];exact hz)
 rw[hlen]
 refine ⟨.ref s.heap.objs.size,_,I.laid (t':=s.toks) (o:=.tup (cutV xs lo hi)) (λb ob q=>i0 _ q) (A0 _) ?_,rfl,q _ (I.hok.fresh (A0 _))⟩
 exact ⟨Q0 (cutV_length xs lo hi) hz,_,(r.drop (HT.sIx xs.length 0 lo)).take (HT.sIx xs.length xs.length hi - HT.sIx xs.length 0 lo),IsTupD.new _ _⟩
noncomputable def rCatT(K:n0):R2:=λx y H Q=>∃a b xs ys,x=.ref a/\y=.ref b/\SqT K H a xs/\SqT K H b ys/\xs≠[]/\xs.length+ys.length<=sizeLine /\
 (ys=[]->Q (.ref a) H)/\(ys≠[]->∀p,H p=none->Q (.ref p) (upd H p (.tup (xs++ys))))
theorem Vals.nil_iff{xs:List V}{us:List Value}(r:Vals xs us):us=[] ↔ xs=[]:=by
 cases r with
 | nil=>simp
 | cons _ _=>simp
theorem op_catT:OpR X (binaryOp .Add) (rCatT X.K):=by
 intro pins s σ H x y v u Q I rx ry h
 obtain⟨a,b,xs,ys,rfl,rfl,ha,hb,hx,hz,q1,q2⟩:=h
 cases rx
 cases ry
 obtain⟨its,r1,p1,_⟩:=I.tuple ha
 obtain⟨its2,r2,p2,_⟩:=I.tuple hb
 refine HT.cat_tup p1 p2 (λz=>hx (r1.nil_iff.mp z)) (λz=>⟨.ref a,H,I,rfl,q1 (r2.nil_iff.mp z)⟩) (λz=>?_) (by rw[<- r1.length,<- r2.length];exact hz)
 refine ⟨.ref s.heap.objs.size,_,I.laid (t':=s.toks) (o:=.tup (xs++ys)) (λb ob q=>i0 _ q) (A0 _) ?_,rfl,q2 (λw=>z (r2.nil_iff.mpr w)) _ (I.hok.fresh (A0 _))⟩
 exact ⟨by rw[B0];exact hz,_,r1.append r2,IsTupD.new _ _⟩
end
noncomputable def ixN(n:Nat)(i:Int):Option Nat:=if 0<=i then (if i < n then some i.toNat else none) else if -(n:Int)<=i then some (i+n).toNat else none
noncomputable def atI{α:Type}(xs:List α)(i:Int):Option α:=(ixN xs.length i).bind λj=>xs[j]?
theorem ixN_seq{n:Nat}{i:Int}{j:Nat}(h:ixN n i=some j):seqIndex? i n=some j/\j < n/\-(n:Int)<=i/\i < n:=by
 unfold ixN at h
 by_cases h0:0<=i
 ·rw[if_pos h0]at h
  by_cases h1:i < n
  ·rw[if_pos h1]at h
   have e:i.toNat=j:=N1 h
   exact ⟨by rw[seqIndex_of h0 h1,e],by omega,by omega,h1⟩
  ·rw[if_neg h1]at h;cases h
 ·rw[if_neg h0]at h
  by_cases h1:-(n:Int)<=i
  ·rw[if_pos h1]at h
   have e:(i+n).toNat=j:=N1 h
   exact ⟨by rw[seqIndex_neg (by omega) h1,e],by omega,h1,by omega⟩
  ·rw[if_neg h1]at h;cases h
theorem atI_get{α:Type}{xs:List α}{i:Int}{v:α}(h:atI xs i=some v):∃j,seqIndex? i xs.length=some j/\xs[j]?=some v/\j < xs.length/\-(xs.length:Int)<=i/\i < xs.length:=by
 unfold atI at h
 cases e:ixN xs.length i with
 | none=>rw[e]at h;cases h
 | some j =>
  rw[e]at h
  obtain⟨h1,h2,h3,h4⟩:=ixN_seq e
  exact ⟨j,h1,h,h2,h3,h4⟩
theorem atI_nat{α:Type}{xs:List α}{j:Nat}{v:α}(h:xs[j]?=some v):atI xs (j:Int)=some v:=by
 have hj:j < xs.length:=(W0.mp h).1
 have e:ixN xs.length (j:Int)=some j:=by
  unfold ixN
  rw[if_pos (by omega),if_pos (by omega)];simp
 unfold atI;rw[e];exact h
noncomputable def PlainIx(b:Expr):Prop:=∀o i,subscripted b false o i=operate [o,i] (getItem o i)
noncomputable def IxR(X:Cx)(r:R2):Prop :=
 ∀(value slice:Expr) (pins:List (Addr×Obj)) (s:Shared) (σ:St) (H:Hp) (x y:V) (v u:Value) (Q:VK),Inv X pins σ H s->RelV x v->RelV y u->r x y H Q ->
  subscripted slice false v u=operate [v,u] (getItem v u)->wpAny (model X.prog X.w) X.A (subscriptTail value slice v u) (EP X pins σ Q) X.xe s
noncomputable def MtR(X:Cx)(id:String)(r:V->List V->Hp->VK->Prop):Prop :=
 ∀(pins:List (Addr×Obj)) (s:Shared) (σ:St) (H:Hp) (x:V) (xs:List V) (v:Value) (us:List Value) (Q:VK),Inv X pins σ H s->RelV x v->Vals xs us->r x xs H Q ->
  wpAny (model X.prog X.w) X.A (call (.builtin id) (v :: us)) (EP X pins σ Q) X.xe s
section
variable {X:Cx}{a b:Expr}{ta tb:TE}{pos:Pos}
theorem IxR.or{r r':R2}(h:IxR X r)(h':IxR X r'):IxR X (λx y H Q=>r x y H Q\/r' x y H Q):=by
 intro value slice pins s σ H x y v u Q I rx ry q hs
 rcases q with q|q
 ·exact h value slice pins s σ H x y v u Q I rx ry q hs
 ·exact h' value slice pins s σ H x y v u Q I rx ry q hs
theorem pe_ix{r:R2}(hr:IxR X r)(ha:PE X a ta)(hb:PE X b tb)(hs:PlainIx b):PE X (.Subscript a b pos) (tOp r ta tb):=by
 intro pins s σ H Q I h
 exact Subscript_ (binT ha hb I h λv u s2 x y H2 I2 rx ry q=>hr a b pins s2 σ H2 x y v u Q I2 rx ry q (hs _ _))
noncomputable def rIxL(K:n0):R2:=λx y H Q=>∃p xs i v,x=.ref p/\y=.int i/\SqL K H p xs/\atI xs i=some v/\Q v H
noncomputable def rIxT(K:n0):R2:=λx y H Q=>∃p xs i v,x=.ref p/\y=.int i/\SqT K H p xs/\atI xs i=some v/\Q v H
theorem ix_list:IxR X (rIxL X.K):=by
 intro value slice pins s σ H x y v u Q I rx ry h hs
 obtain⟨p,xs,i,z,rfl,rfl,hq,he,q⟩:=h
 cases rx
 obtain⟨t,rfl⟩:=ry
 obtain⟨its,r,pl,hz⟩:=I.list hq
 obtain⟨j,h1,h2,h3,h4,h5⟩:=atI_get he
 obtain⟨w,ew,rw'⟩:=r.get h2
 have hl:=r.length
 have hn:=line63
 have fin:EP X pins σ Q w s:=⟨z,H,I,rw',q⟩
 by_cases h0:0<=i
 ·have hj:i.toNat=j:=by
   rw[seqIndex_of h0 h5]at h1
   exact N1 h1
  exact item_listR pl.isList h0 (by omega) (by rw[hj];simpa using ew) fin hs
 ·have hj:(i+(its.toArray.size:Int)).toNat=j:=by
   rw[seqIndex_neg (by omega) h4]at h1
   rw[N0,<- hl]
   exact N1 h1
  exact subscriptTail_builtinR (x:=w) pl.isList.typeIs slot_list_getitem.lookup
   (wpAny_getItem_list_neg (Q:=λr s'=>r=w/\EP X pins σ Q r s') pl.isList (by omega) (by rw[N0]<;>omega) (by omega) (by rw[hj];simpa using ew) ⟨rfl,fin⟩) hs
theorem ix_tup:IxR X (rIxT X.K):=by
 intro value slice pins s σ H x y v u Q I rx ry h hs
 obtain⟨p,xs,i,z,rfl,rfl,hq,he,q⟩:=h
 cases rx
 obtain⟨t,rfl⟩:=ry
 obtain⟨its,r,pl,hz⟩:=I.tuple hq
 obtain⟨j,h1,h2,h3,h4,h5⟩:=atI_get he
 obtain⟨w,ew,rw'⟩:=r.get h2
 have hl:=r.length
 have hn:=line63
 have fin:EP X pins σ Q w s:=⟨z,H,I,rw',q⟩
 exact subscriptTail_builtinR (x:=w) pl.typeIs slot_tuple_getitem.lookup
  (getItem_tuple (j:=j) (Q:=λr s'=>r=w/\EP X pins σ Q r s') pl (by omega) (by omega) (by rw[N0,<- hl];exact h1) (by simpa using ew) ⟨rfl,fin⟩) hs
theorem mapSeq_set(its:List Value)(n j:Nat)(u:Value):U1 (·.setIfInBounds j u) { cls:=.type "list",data:=.seq its.toArray n }={ cls:=.type "list",data:=.seq (its.set j u).toArray n }:=by
 simp[U1]
theorem Inv.lst{pins:List (Addr×Obj)}{σ:St}{H:Hp}{s:Shared}{p:Addr}{xs:List V}(I:Inv X pins σ H s)(h:H p=some (.lst xs)) :
  ∃(its:List Value) (n:Nat),Vals xs its/\s.heap.get? p=some { cls:=.type "list",data:=.seq its.toArray n }/\xs.length<=sizeLine:=by
 obtain⟨z,its,n,r,e⟩:=I.hok p _ h
 exact ⟨its,n,r,e,z⟩
theorem Inv.lstUpd{pins:List (Addr×Obj)}{σ:St}{H:Hp}{s:Shared}{p:Addr}{xs ys:List V}{its its':List Value}{n n':Nat}{f:Obj->Obj}(I:Inv X pins σ H s)(h:H p=some (.lst xs))
  (ho:s.heap.get? p=some { cls:=.type "list",data:=.seq its.toArray n }) (hf:f { cls:=.type "list",data:=.seq its.toArray n }={ cls:=.type "list",data:=.seq its'.toArray n' }) (r:Vals ys its') (hz:ys.length<=sizeLine) (t:Nat) :
  Inv X pins σ (upd H p (.lst ys)) { s with heap:=s.heap.update p f,toks:=t }:=by
 have e:(s.heap.update p f).get? p=some { cls:=.type "list",data:=.seq its'.toArray n' }:=by
  rw[u3 f ho (by rw[hf]<;>rfl),hf]
 refine I.write (x:=p) (e:=p) (by rw[h];trivial) (.inl rfl) (λb u hb q=>(V3 _ _ (v3 hb)).trans q) ⟨_,e⟩ ?_
 exact ⟨hz,its',n',r,e⟩
noncomputable def rSetL:V->V->V->Hp->(Hp->Prop)->Prop:=λo i v H Q=>∃p xs k j,o=.ref p/\i=.int k/\H p=some (.lst xs)/\ixN xs.length k=some j/\Q (upd H p (.lst (xs.set j v)))
theorem set_list:PSet X rSetL:=by
 intro pins s σ H o i v ov iv u Q I ro ri rv h
 obtain⟨p,xs,k,j,rfl,rfl,hp,hj,q⟩:=h
 cases ro
 obtain⟨t,rfl⟩:=ri
 obtain⟨its,n,r,ho,hz⟩:=I.lst hp
 obtain⟨h1,h2,h3,h4⟩:=ixN_seq hj
 have hl:=r.length
 have hn:=line63
 have I':Inv X pins σ (upd H p (.lst (xs.set j v))) { s with heap:=s.heap.update p (U1 (·.setIfInBounds j u)) } :=
  I.lstUpd hp ho (mapSeq_set its n j u) (r.set rv j) (by rw[T3];exact hz) s.toks
 by_cases h0:0<=k
 ·have hk:k.toNat=j:=by
   rw[seqIndex_of h0 h4]at h1
   exact N1 h1
  exact PySem.W.ki_setAt ho h0 (by omega) (by rw[N0,<- hl];exact h4) (by rw[hk];exact ⟨_,I',q⟩)
 ·have hk:(k+(its.toArray.size:Int)).toNat=j:=by
   rw[seqIndex_neg (by omega) h3]at h1
   rw[N0,<- hl]
   exact N1 h1
  exact PySem.W.ki_setBack ho (by omega) (by rw[N0,<- hl];exact h3) (by omega) (by rw[hk];exact ⟨_,I',q⟩)
theorem slice_bounds(lo hi:Option Int)(n:Nat):(sliceBounds lo hi none n).1=((HT.sIx n 0 lo:Nat):Int)/\(sliceBounds lo hi none n).2.1=((HT.sIx n n hi:Nat):Int)/\(sliceBounds lo hi none n).2.2=1:=by
 refine ⟨?_,?_,rfl⟩
 ·cases lo with
  | none=>simp[sliceBounds,HT.sIx]
  | some i =>
   simp only[sliceBounds,HT.sIx,p9,show (1:Int) > 0 by decide,if_true]
   by_cases h:i < 0
   ·simp only[h,if_true]<;>omega
   ·simp only[h,if_false]<;>omega
 ·cases hi with
  | none=>simp[sliceBounds,HT.sIx]
  | some i =>
   simp only[sliceBounds,HT.sIx,p9,show (1:Int) > 0 by decide,if_true]
   by_cases h:i < 0
   ·simp only[h,if_true]<;>omega
   ·simp only[h,if_false]<;>omega
theorem slicePick_cut(its:List Value)(lo hi:Option Int):slicePick its.toArray lo hi none=((its.drop (HT.sIx its.length 0 lo)).take (HT.sIx its.length its.length hi - HT.sIx its.length 0 lo)).toArray:=by
 obtain⟨h1,h2,h3⟩:=slice_bounds lo hi its.toArray.size
 unfold slicePick
 rw[h1,h2,h3]
 simp only[sliceRange_one,pick_run,N0]<;>rfl
noncomputable def rSlL(K:n0):V->Option Int->Option Int->Hp->VK->Prop:=λx lo hi H Q=>∃a xs,x=.ref a/\SqL K H a xs/\∀p,H p=none->Q (.ref p) (upd H p (.lst (cutV xs lo hi)))
theorem sl_list:SlR X (rSlL X.K):=by
 intro pins s σ H x v vl vu lo hi sl Q I rx hs pl pu h
 obtain⟨a,xs,rfl,hx,q⟩:=h
 cases rx
 obtain⟨its,r,ht,hz⟩:=I.list hx
 have hlen:=r.length
 refine ⟨"list",_,slot_list_getitem.lookup,ht.isList.typeIs,?_⟩
 refine wpAny_getItem_list_slice ht.isList hs pl pu .none (by simp) ?_ (by rw[N0]<;>omega)
 rw[slicePick_cut,<- hlen]
 refine ⟨.ref s.heap.objs.size,_,I.laid (t':=s.toks) (o:=.lst (cutV xs lo hi)) (λb ob q=>i0 _ q) (A0 _) ?_,rfl,q _ (I.hok.fresh (A0 _))⟩
 exact ⟨Q0 (cutV_length xs lo hi) hz,_,0,(r.drop (HT.sIx xs.length 0 lo)).take (HT.sIx xs.length xs.length hi - HT.sIx xs.length 0 lo),M0 _ rfl⟩
theorem call_len_seq:CallR X (.builtin "len") (λxs H Q=>∃p ys,xs=[.ref p]/\(SqL X.K H p ys\/SqT X.K H p ys)/\Q (.int ys.length) H):=by
 intro pins s σ H xs us Q I r h
 obtain⟨p,ys,rfl,hq,q⟩:=h
 obtain⟨u,rfl,rx⟩:=vals1 r
 cases rx
 have hn:=line63
 rcases hq with hq|hq
 ·obtain⟨its,r',pl,hz⟩:=I.list hq
  have hlen:=r'.length
  exact Calls.call_len_list pl.isList (by simp only[N0]<;>omega) ⟨.int ys.length,H,I.tok _,⟨s.toks+1,by rw[N0,hlen]⟩,q⟩
 ·obtain⟨its,r',pl,hz⟩:=I.tuple hq
  have hlen:=r'.length
  exact len_tuple pl (by simp only[N0]<;>omega) ⟨.int ys.length,H,I.tok _,⟨s.toks+1,by rw[N0,hlen]⟩,q⟩
theorem call_list_of:CallR X (.type "list") (λxs H Q=>∃p ys,xs=[.ref p]/\(SqL X.K H p ys\/SqT X.K H p ys)/\∀l,H l=none->Q (.ref l) (upd H l (.lst ys))):=by
 intro pins s σ H xs us Q I r h
 obtain⟨p,ys,rfl,hq,q⟩:=h
 obtain⟨u,rfl,rx⟩:=vals1 r
 cases rx
 have fin:∀(its:List Value),Vals ys its->ys.length<=sizeLine->∀(h':Heap) (c':Nat),(∀b o',s.heap.get? b=some o'->h'.get? b=some o') ->
   h'.get? s.heap.objs.size=some { cls:=.type "list",dict:=none,data:=.seq its.toArray c',slots:=#[] }->EP X pins σ Q (.ref s.heap.objs.size) { s with heap:=h' }:=λits r' hz h' c' kp e =>
  ⟨.ref s.heap.objs.size,_,I.laid (t':=s.toks) kp (A0 _) (show ObjOk X.prog X.w _ h' _ (.lst ys) from ⟨hz,its,c',r',e⟩),rfl,q _ (I.hok.fresh (A0 _))⟩
 rcases hq with hq|hq
 ·obtain⟨its,r',pl,hz⟩:=I.list hq
  have hlen:=r'.length
  obtain⟨o,ho,hc,n,hd⟩:=pl.isList
  exact call_list_seq p (.inl rfl) ho hc hd (λh' c' kp e=>fin its r' hz h' c' kp e) (by simp only[N0]<;>omega)
 ·obtain⟨its,r',pl,hz⟩:=I.tuple hq
  have hlen:=r'.length
  obtain⟨o,ho,hc,n,hd⟩:=pl
  exact call_list_seq p (.inr rfl) ho hc hd (λh' c' kp e=>fin its r' hz h' c' kp e) (by simp only[N0]<;>omega)
theorem call_tuple_of:CallR X (.type "tuple") (λxs H Q=>∃p ys,xs=[.ref p]/\((SqL X.K H p ys/\∀l,H l=none->Q (.ref l) (upd H l (.tup ys)))\/(SqT X.K H p ys/\Q (.ref p) H))):=by
 intro pins s σ H xs us Q I r h
 obtain⟨p,ys,rfl,h⟩:=h
 obtain⟨u,rfl,rx⟩:=vals1 r
 cases rx
 rcases h with⟨hq,q⟩|⟨hq,q⟩
 ·obtain⟨its,r',pl,hz⟩:=I.list hq
  have hlen:=r'.length
  refine call_tuple_list pl.isList (λh' kp=>?_) (by simp only[N0]<;>omega)
  have I1:Inv X pins σ H { s with heap:=h' }:=I.kept (t':=s.toks) kp
  have I2:Inv X pins σ (upd H h'.objs.size (.tup ys)) { s with heap:=h'.push { cls:=.type "tuple",data:=.seq its.toArray } } :=
   I1.laid (t':=s.toks) (λb o e=>i0 _ e) (A0 _) (show ObjOk X.prog X.w _ _ _ (.tup ys) from ⟨hz,its,r',IsTupD.new _ _⟩)
  exact ⟨.ref h'.objs.size,_,I2,rfl,q _ (I1.hok.fresh (A0 _))⟩
 ·obtain⟨its,r',pl,hz⟩:=I.tuple hq
  exact call_tuple_same pl ⟨.ref p,H,I,rfl,q⟩
noncomputable def tyV(K:n0)(T:String)(x:V)(H:Hp):Prop:=match x with
 | .str _=>T = "str"
 | .int _=>T = "int"
 | .ref p=>(T = "list"/\∃xs,SqL K H p xs)\/(T = "tuple"/\∃o,K.lookup p=some o/\o.cls=.type "tuple"/\o.dict=none) \/
   (T = "dict"/\((∃kvs,H p=some (.dK kvs))\/∃kvs,H p=some (.dT kvs)))\/(T = "set"/\∃S n,H p=some (.set S n))
 | _=>False
theorem tyV_is{pins:List (Addr×Obj)}{σ:St}{H:Hp}{s:Shared}{T:String}{x:V}{v:Value}(I:Inv X pins σ H s)(r:RelV x v)(ty:tyV X.K T x H) :
  s.TypeIs v T/\∀a,v=.ref a->∃ob,s.heap.get? a=some ob/\ob.dict=none:=by
 cases x with
 | str z =>
  obtain⟨t,rfl⟩:=r
  cases (show T = "str" from ty)
  exact ⟨typeIs_str s z t,λ_ e=>nomatch e⟩
 | int i =>
  obtain⟨t,rfl⟩:=r
  cases (show T = "int" from ty)
  exact ⟨typeIs_int s i t,λ_ e=>nomatch e⟩
 | ref p =>
  cases r
  rcases ty with⟨rfl,xs,hq⟩|⟨rfl,o,hk,hc,hd⟩|⟨rfl,hk⟩|⟨rfl,S,n,hk⟩
  ·obtain⟨its,_,pl,_⟩:=I.list hq
   refine ⟨pl.isList.typeIs,λa e=>?_⟩
   cases e
   obtain⟨o,n,e,c,hd,_⟩:=pl
   exact ⟨o,e,hd⟩
  ·refine ⟨⟨o,I.kIn p o hk,hc⟩,λa e=>?_⟩
   cases e
   exact ⟨o,I.kIn _ o hk,hd⟩
  ·have z:∃o,s.heap.get? p=some o/\o.ExactDict:=by
    rcases hk with⟨kvs,hk⟩|⟨kvs,hk⟩
    ·obtain⟨_,_,_,_,o,_,_,e,ex,_⟩:=I.hok p _ hk
     exact ⟨o,e,ex⟩
    ·obtain⟨_,_,_,_,o,_,_,e,ex,_⟩:=I.hok p _ hk
     exact ⟨o,e,ex⟩
   obtain⟨o,e,ex⟩:=z
   refine ⟨⟨o,e,ex.1⟩,λa e2=>?_⟩
   cases e2
   exact ⟨o,e,ex.2.1⟩
  ·obtain⟨o,_,_,_,e,ex,_⟩:=I.hok p _ hk
   refine ⟨⟨o,e,ex.1⟩,λa e2=>?_⟩
   cases e2
   exact ⟨o,e,ex.2.1⟩
 | _=>exact False.elim ty
noncomputable def tBM0(K:n0)(T:String)(r:V->List V->Hp->VK->Prop)(to:TE):TE:=λσ H Q=>to σ H λx H1=>tyV K T x H1/\r x [] H1 Q
noncomputable def tBM(K:n0)(T:String)(r:V->List V->Hp->VK->Prop)(to:TE)(t:TA):TE:=λσ H Q=>to σ H λx H1=>tyV K T x H1/\t σ H1 λxs H2=>r x xs H2 Q
variable {o e:Expr}{es:List Expr}{to:TE}{t:TA}{name:Str}{apos cpos:Pos}{T id:String}{r:V->List V->Hp->VK->Prop}
theorem pe_bm0(pa:PlainAttrs T)(slot:Slot T name id)(hty:typeOf (.builtin id)=pure (.type "method_descriptor"))(hm:MtR X id r)(ho:PE X o to)
  (hbase:attributeBase o name X.env (eval o X.env)=eval o X.env:=by rfl) (hline:(apos.endLine==cpos.line)=true:=by rfl):PE X (.Call (.Attribute o name apos) [] [] cpos) (tBM0 X.K T r to):=by
 intro pins s σ H Q I h
 refine wpAny_Call_method0_late hbase hline (thn (ho pins s σ H _ I h) λv s1 ⟨x,H1,I1,r1,ty,q1⟩=>?_)
 obtain⟨h1,h2⟩:=tyV_is I1 r1 ty
 exact ⟨T,id,pa,slot,hty,h1,h2,Calls.callWith_builtin rfl (PySem.evalArgs_none (hm pins s1 σ H1 x [] v [] Q I1 r1 .nil q1))⟩
theorem pe_bm(pa:PlainAttrs T)(slot:Slot T name id)(hty:typeOf (.builtin id)=pure (.type "method_descriptor"))(hm:MtR X id r)(ho:PE X o to)(ha:PA X (e :: es) t)
  (hbase:attributeBase o name X.env (eval o X.env)=eval o X.env:=by rfl)
  (hfew:((backTo cpos (starEach (e :: es) X.env)).all (λx=>!x.1)&&(backToKw cpos (keywordEach [] X.env)).all (λx=>x.1.isSome)
    && decide ((e :: es).length+([]:List Keyword).length+(if ([]:List Keyword).isEmpty then 0 else 1) < 30))=true:=by rfl)
  (hline:(apos.endLine==cpos.line)=true:=by rfl) (hs:starEach (e :: es) X.env=(false,eval e X.env) :: starEach es X.env:=by rfl) (hplain:(backTo cpos (starEach es X.env)).any (·.1)=false:=by rfl) :
  PE X (.Call (.Attribute o name apos) (e :: es) [] cpos) (tBM X.K T r to t):=by
 intro pins s σ H Q I h
 refine wpAny_Call_method_late hbase hfew hline rfl (thn (ho pins s σ H _ I h) λv s1 ⟨x,H1,I1,r1,ty,q1⟩=>?_)
 obtain⟨h1,h2⟩:=tyV_is I1 r1 ty
 refine ⟨T,id,pa,slot,hty,h1,h2,?_⟩
 have hA:=ha cpos pins s1 σ H1 _ I1 q1
 rw[hs]at hA ⊢
 refine Calls.callWith_builtin (by show (false||(backTo cpos (starEach es X.env)).any (·.1))=false;rw[hplain]<;>rfl) (Calls.evalArgs_plain ?_)
 exact thn hA λus s2 ⟨vs,H2,I2,r2,q2⟩=>hm pins s2 σ H2 x vs v us Q I2 r1 r2 q2
end
noncomputable def MtM(X:Cx)(id:String)(r:V->List V->Hp->VK->Prop):Prop :=
 ∀(pins:List (Addr×Obj)) (s:Shared) (σ:St) (H:Hp) (x:V) (xs:List V) (v:Value) (us:List Value) (Q:VK),Inv X pins σ H s->RelV x v->Vals xs us->r x xs H Q ->
  wpAny (model X.prog X.w) X.A (call (.builtin id) (v :: us)) (EP X pins σ Q) X.xe s
theorem Vals.one:∀{x:V}{us:List Value},Vals [x] us->∃u,us=[u]/\RelV x u
 | _,_,.cons r .nil=>⟨_,rfl,r⟩
theorem Vals.zero:∀{us:List Value},Vals [] us->us=[]
 | _,.nil=>rfl
theorem Vals.dropLast{xs:List V}{us:List Value}(h:Vals xs us):Vals xs.dropLast us.dropLast:=by
 induction h with
 | nil=>exact .nil
 | cons r t ih =>
  cases t with
  | nil=>exact .nil
  | cons q t'=>exact .cons r ih
theorem Vals.eraseIdx:∀{xs:List V}{us:List Value} (i:Nat),Vals xs us->Vals (xs.eraseIdx i) (us.eraseIdx i)
 | _,_,_,.nil=>.nil
 | _,_,0,.cons _ t=>t
 | _,_,i+1,.cons r t=>.cons r (Vals.eraseIdx i t)
theorem Vals.rep{xs:List V}{us:List Value}(h:Vals xs us):∀k:Nat,Vals (G2 k xs).flatten (G2 k us).flatten
 | 0=>.nil
 | k+1=>by
  rw[E4,E4,u5,u5]
  exact Vals.append h (Vals.rep h k)
theorem erase_last{α:Type}(l:List α):l.eraseIdx (l.length - 1)=l.dropLast:=by
 induction l with
 | nil=>rfl
 | cons a r ih =>
  cases r with
  | nil=>rfl
  | cons b r =>
   have e:(a :: b :: r).length - 1=((b :: r).length - 1)+1:=by
    have h1:(a :: b :: r).length=r.length+2:=rfl
    have h2:(b :: r).length=r.length+1:=rfl
    omega
   rw[e,List.eraseIdx_cons_succ,ih]
   all_goals rfl
theorem len_erase{α:Type}:∀(l:List α) (i:Nat),(l.eraseIdx i).length<=l.length
 | [],_=>A0 _
 | _ :: _,0=>Q7 _
 | _ :: r,i+1=>Nat.succ_le_succ (len_erase r i)
theorem foldl_rep(its:List Value):∀(k:Nat) (acc:List Value),
  u9 (λx1 x2=>x1++x2) acc.toArray (G2 k its.toArray)=(acc++(G2 k its).flatten).toArray
 | 0,acc=>by simp
 | k+1,acc=>by
  have e:acc.toArray++its.toArray=(acc++its).toArray:=by simp
  have e2:(acc++its)++(G2 k its).flatten=acc++(G2 (k+1) its).flatten:=by
   rw[E4,u5,X3]
  rw[<- e2,<- foldl_rep its k (acc++its),<- e,E4,List.foldl_cons]
section
variable {X:Cx}{pins:List (Addr×Obj)}{σ:St}{H:Hp}{s:Shared}{l b:Addr}{xs ys zs:List V}
theorem Inv.lset{its its':List Value}{n:Nat}{f:Array Value->Array Value}{t':Nat}(I:Inv X pins σ H s)(hH:H l=some (.lst xs))
  (e:s.heap.get? l=some { cls:=.type "list",data:=.seq its.toArray n }) (hf:f its.toArray=its'.toArray) (hv:Vals ys its') (hz:ys.length<=sizeLine) :
  Inv X pins σ (upd H l (.lst ys)) { s with heap:=s.heap.update l (U1 f),toks:=t' }:=by
 have q:=PySem.IsL.update e f
 rw[hf]at q
 refine I.write (x:=l) (e:=l) (by rw[hH];exact trivial) (.inl rfl) (λb' u hb hu=>(V3 s.heap (U1 f) (v3 hb)).trans hu) ⟨_,q⟩ ?_
 exact ⟨hz,its',_,hv,q⟩
theorem Inv.lnew{its:List Value}{t':Nat}(I:Inv X pins σ H s)(hv:Vals ys its)(hz:ys.length<=sizeLine) :
  Inv X pins σ (upd H s.heap.objs.size (.lst ys)) { s with heap:=s.heap.push { cls:=.type "list",data:=.seq its.toArray },toks:=t' } :=
 I.laid (λ_ _ q=>i0 _ q) (A0 _) ⟨hz,its,0,hv,M0 _ rfl⟩
theorem Inv.fresh(I:Inv X pins σ H s):H s.heap.objs.size=none:=I.hok.fresh (A0 _)
theorem Inv.lstM(I:Inv X pins σ H s)(hH:H l=some (.lst xs)):xs.length<=sizeLine/\∃(its:List Value) (n:Nat),Vals xs its/\xs.length=its.length/\s.heap.get? l=some { cls:=.type "list",data:=.seq its.toArray n }:=by
 obtain⟨z,its,n,r,e⟩:=I.hok l _ hH
 exact ⟨z,its,n,r,r.length,e⟩
theorem notLongL{n:Nat}(h:n<=sizeLine):B5 n=false:=by
 unfold B5
 exact decide_eq_false (by omega)
end
section
variable {X:Cx}
noncomputable def rAppend:V->List V->Hp->VK->Prop:=λx vs H Q=>∃l xs y,x=.ref l/\vs=[y]/\H l=some (.lst xs)/\xs.length < sizeLine/\Q .non (upd H l (.lst (xs++[y])))
theorem mt_append:MtM X "list.append" rAppend:=by
 intro pins s σ H x vs v us Q I rx rv h
 obtain⟨l,xs,y,rfl,rfl,hH,hz,q⟩:=h
 cases rx
 obtain⟨u,rfl,ru⟩:=rv.one
 obtain⟨z,its,n,r,hl,e⟩:=I.lstM hH
 refine call_meets F.slot_list_append ⟨_,e,rfl⟩ F.entry_list_append (F.args_list_append_2 _ _) (PySem.list_append l its.toArray n u (by rw[N0];omega)) ⟨e,?_⟩
 refine ⟨.non,_,I.lset (its':=its++[u]) hH e (by simp) (r.append (.cons ru .nil)) ?_,rfl,q⟩
 rw[B0,O2]
 omega
noncomputable def rExtend:V->List V->Hp->VK->Prop:=λx vs H Q=>∃l b xs zs,x=.ref l/\vs=[.ref b]/\H l=some (.lst xs)/\H b=some (.lst zs)/\xs.length+zs.length<=sizeLine/\Q .non (upd H l (.lst (xs++zs)))
theorem mt_extend:MtM X "list.extend" rExtend:=by
 intro pins s σ H x vs v us Q I rx rv h
 obtain⟨l,b,xs,zs,rfl,rfl,hH,hB,hz,q⟩:=h
 cases rx
 obtain⟨u,rfl,ru⟩:=rv.one
 cases ru
 obtain⟨z,its,n,r,hl,e⟩:=I.lstM hH
 obtain⟨z2,its2,n2,r2,hl2,e2⟩:=I.lstM hB
 have hsz:its.toArray.size+its2.toArray.size<=sizeLine:=by rw[N0,N0];omega
 have hlong:¬(!its.toArray.isEmpty&&B5 (its.toArray.size+its2.toArray.size))=true:=by
  rw[notLongL hsz,Bool.and_false]
  exact G1
 refine call_meets F.slot_list_extend ⟨_,e,rfl⟩ F.entry_list_extend (F.args_list_extend_2 _ _)
  (AutoSeq1.list_extend_list_list_0 l its.toArray n b its2.toArray n2 hlong (by rw[N0];omega) (by omega)) ⟨e,e2,?_⟩
 refine ⟨.non,_,I.lset (its':=its++its2) hH e (by simp) (r.append r2) ?_,rfl,q⟩
 rw[B0]
 omega
noncomputable def rPop:V->List V->Hp->VK->Prop:=λx vs H Q=>∃l xs y,x=.ref l/\vs=[]/\H l=some (.lst xs)/\xs[xs.length - 1]?=some y/\Q y (upd H l (.lst xs.dropLast))
theorem mt_pop:MtM X "list.pop" rPop:=by
 intro pins s σ H x vs v us Q I rx rv h
 obtain⟨l,xs,y,rfl,rfl,hH,hy,q⟩:=h
 cases rx
 have hus:=rv.zero
 subst hus
 obtain⟨z,its,n,r,hl,e⟩:=I.lstM hH
 obtain⟨u,hu,ru⟩:=r.get hy
 have hy':its.toArray[its.toArray.size - 1]?=some u:=by
  show its.toArray[its.length - 1]?=some u
  rw[<- v8,<- hl]
  exact hu
 refine call_meets F.slot_list_pop ⟨_,e,rfl⟩ F.entry_list_pop (F.args_list_pop_1 _) (MeetsSeq.list_pop_last l its.toArray n u hy' (by rw[N0];omega)) ⟨e,?_⟩
 refine ⟨y,_,I.lset (its':=its.dropLast) hH e ?_ r.dropLast ?_,ru,q⟩
 ·show its.toArray.eraseIdxIfInBounds (its.toArray.size - 1)=its.dropLast.toArray
  rw[N0,O6,erase_last]
 ·rw[List.length_dropLast]
  omega
noncomputable def rPopAt:V->List V->Hp->VK->Prop:=λx vs H Q=>∃l xs i k y,x=.ref l/\vs=[.int i]/\H l=some (.lst xs)/\-(2 ^ 63)<=i/\i < 2 ^ 63/\seqIndex? i xs.length=some k/\xs[k]?=some y/\Q y (upd H l (.lst (xs.eraseIdx k)))
theorem mt_popAt:MtM X "list.pop" rPopAt:=by
 intro pins s σ H x vs v us Q I rx rv h
 obtain⟨l,xs,i,k,y,rfl,rfl,hH,h1,h2,hk,hy,q⟩:=h
 cases rx
 obtain⟨u,rfl,ru⟩:=rv.one
 obtain⟨t,rfl⟩:=ru
 obtain⟨z,its,n,r,hl,e⟩:=I.lstM hH
 obtain⟨w,hw,rw'⟩:=r.get hy
 refine call_meets F.slot_list_pop ⟨_,e,rfl⟩ F.entry_list_pop (F.args_list_pop_2 _ _)
  (MeetsSeq.list_pop_at l its.toArray n i t k w (fitsIndex_both h1 h2) (by rw[N0,<- hl];exact hk) (by rw[<- v8];exact hw) (by rw[N0];omega)) ⟨e,?_⟩
 refine ⟨y,_,I.lset (its':=its.eraseIdx k) hH e ?_ (r.eraseIdx k) ?_,rw',q⟩
 ·show its.toArray.eraseIdxIfInBounds k=(its.eraseIdx k).toArray
  rw[O6]
 ·have:=len_erase xs k
  omega
noncomputable def rCat:R2:=λx y H Q=>∃l b xs zs,x=.ref l/\y=.ref b/\H l=some (.lst xs)/\H b=some (.lst zs)/\xs.length+zs.length<=sizeLine/\∀p,H p=none->Q (.ref p) (upd H p (.lst (xs++zs)))
theorem op_cat:OpR X (binaryOp .Add) rCat:=by
 intro pins s σ H x y v u Q I rx ry h
 obtain⟨l,b,xs,zs,rfl,rfl,hH,hB,hz,q⟩:=h
 cases rx
 cases ry
 obtain⟨z,its,n,r,hl,e⟩:=I.lstM hH
 obtain⟨z2,its2,n2,r2,hl2,e2⟩:=I.lstM hB
 refine PySem.P.add_list e e2 ?_ (by rw[N0,N0];omega)
 have ea:its.toArray++its2.toArray=(its++its2).toArray:=by simp
 rw[ea]
 exact ⟨.ref _,_,I.lnew (t':=s.toks) (r.append r2) (by rw[B0];omega),rfl,q _ I.fresh⟩
noncomputable def rRep:R2:=λx y H Q=>∃l k xs,x=.ref l/\y=.int k/\H l=some (.lst xs)/\-(2 ^ 63)<=k/\k < 2 ^ 63/\xs.length * k.toNat<=sizeLine /\
 ∀p,H p=none->Q (.ref p) (upd H p (.lst (G2 k.toNat xs).flatten))
theorem len_rep{α:Type}(xs:List α)(k:Nat):(G2 k xs).flatten.length=k * xs.length:=by
 induction k with
 | zero=>simp
 | succ k ih=>rw[E4,u5,B0,ih,b9,Nat.add_comm]
theorem op_rep:OpR X (binaryOp .Mult) rRep:=by
 intro pins s σ H x y v u Q I rx ry h
 obtain⟨l,k,xs,rfl,rfl,hH,h1,h2,hz,q⟩:=h
 cases rx
 obtain⟨t,rfl⟩:=ry
 obtain⟨z,its,n,r,hl,e⟩:=I.lstM hH
 have hlen:its.toArray.size * k.toNat<=sizeLine:=by rw[N0,<- hl];exact hz
 have hcap:¬its.toArray.size * k.toNat > (2 ^ 63 - 1) / 8:=by
  have:(sizeLine:Nat)<=(2 ^ 63 - 1) / 8:=by decide
  omega
 have hfit:¬(!Builtin.List.listFitsIndex k)=true:=by
  rw[fitsIndex_both h1 h2]
  exact G1
 have hlong:¬B5 (its.toArray.size * k.toNat)=true:=by
  rw[notLongL hlen]
  exact G1
 have hnew:u9 (λx1 x2=>x1++x2) #[] (G2 (if its.toArray.isEmpty=true then 0 else k.toNat) its.toArray)=(G2 k.toNat its).flatten.toArray:=by
  have f0:∀m:Nat,u9 (λx1 x2=>x1++x2) #[] (G2 m its.toArray)=(G2 m its).flatten.toArray:=λm=>by
   have:=foldl_rep its m []
   rw[j7]at this
   exact this
  rw[f0]
  cases its with
  | nil=>simp
  | cons a r'=>rw[if_neg (by simp)]
 refine wpAny_binaryOp_repeat_ref (T:="list") (U:="int") (by decide) ⟨_,e,rfl⟩ (λs'=>typeIs_int s' k t) noFill_list_mul F.fills_int_mul F.slot_int_rmul repeat_list F.slot_int_index.lookup
  (call_meets F.slot_int_rmul (typeIs_int s k t) F.entry_int_rmul (F.args_int_rmul_2 _ _) (int___rmul___int_list k t l its.toArray n)
    ⟨e,rfl,⟨_,e,rfl⟩,call_meets F.slot_list_mul ⟨_,e,rfl⟩ F.entry_list_mul (F.args_list_mul_2 _ _) (AutoListH.list___mul___list_int_3 l its.toArray n k t hfit hcap hlong) ⟨e,?_⟩⟩)
 rw[hnew]
 exact ⟨.ref _,_,I.lnew (t':=s.toks) (r.rep k.toNat) (by rw[len_rep,g9];exact hz),rfl,q _ I.fresh⟩
end
section
variable {prog:Program}{w:World}{A:Around}{E:Value->Shared->Prop}{s:Shared}
set_option maxRecDepth 100000 in
end
section
variable {X:Cx}
end
section
variable {κ:Type}[DecidableEq κ]
end
theorem kV_is{P:Program}{w:World}{k:Key}{u:Value}(r:RelV (kV k) u):(mixKind P w).is k u=true:=by
 cases k with
 | inl i=>obtain⟨t,e⟩:=(show ∃t,u=n6 i t from r);subst e;exact mixKind_int P w i t
 | inr x=>obtain⟨t,e⟩:=(show ∃t,u=Value.str x t from r);subst e;exact mixKind_str P w x t
theorem items_are{P:Program}{w:World}:∀{ks:List Key}{us:List Value},Vals (ks.map kV) us->ItemsAre (mixKind P w) ks us
 | [],_,r=>by rw[Z8]at r;cases r;exact .nil
 | k :: ks,_,r=>by
  rw[B1]at r
  cases r with
  | cons h t=>exact .cons (kV_is h) (items_are t)
noncomputable abbrev KT(H:Hp):List (List Key×V)->List (List Key×Addr×Value)->Prop:=Paired λp q=>p.1=q.1/\H q.2.1=some (.tup (p.1.map kV))/\RelV p.2 q.2.2
section
variable {P:Program}{w:World}{H:Hp}{h:Heap}{a:Addr}
theorem rd_of{u:HO}(ok:HOk P w H h)(e:Rd H a u):ObjOk P w H h a u:=e.ok ok
theorem dk_rd{kvs:List (Key×V)}(ok:HOk P w H h)(e:Rd H a (.dK kvs)):kvs.length<=sizeLine/\(a==sysModules)=false/\∃vs,KV kvs vs/\h.DictOf (mixKind P w) a vs :=
 show ObjOk P w H h a (.dK kvs) from rd_of ok e
theorem key_of{ks:List Key}(ok:HOk P w H h)(e:H a=some (.tup (ks.map kV))):(tupleKind (mixKind P w)).is h ks a:=by
 obtain⟨_,its,r,o,h1,h2,n,h3,_⟩:=(show ObjOk P w H h a (.tup (ks.map kV)) from ok a _ e)
 exact ⟨o,its.toArray,n,h1,h2,h3,by simpa using items_are r⟩
theorem dt_rd{kvs:List (List Key×V)}(ok:HOk P w H h)(e:Rd H a (.dT kvs)):kvs.length<=sizeLine/\(a==sysModules)=false /\
  ∃xs,KT H kvs xs/\h.DictOfH (tupleKind (mixKind P w)) a xs:=by
 obtain⟨z,y,xs,r,o,es,ep,h1,h2,h3,h4,h5⟩:=(show ObjOk P w H h a (.dT kvs) from rd_of ok e)
 refine ⟨z,y,xs,r,o,es,ep,h1,h2,h3,h4,λx hx=>?_,h5⟩
 have all:∀{l:List (List Key×V)}{m:List (List Key×Addr×Value)},KT H l m->∀x∈m,(tupleKind (mixKind P w)).is h x.1 x.2.1:=by
  intro l m q
  induction q with
  | nil=>intro x hx;exact nomatch hx
  | @cons p q ps qs hq t ih =>
   intro x hx
   rcases X0.mp hx with e|hx
   ·subst e
    exact key_of ok (by rw[<- hq.1];exact hq.2.1)
   ·exact ih x hx
 exact all r x hx
end
section
variable {X:Cx}{pins:List (Addr×Obj)}{σ:St}{H:Hp}{s:Shared}{a:Addr}{y v:V}{u r:Value}{o:Option V}{A:Around}{E:Value->Shared->Prop}
theorem Inv.big(I:Inv X pins σ H s):sysModules < s.heap.objs.size:=by
 have h:mainGlobals < s.heap.objs.size:=(I.mod.glob.keeps I.bk).lt
 exact p6 (by decide) h
theorem d_write{h':Heap}{t':Nat}{ob:HO}(I:Inv X pins σ H s)(mu:Mut (H a))(hs:Y2 a s.heap h')(he:∃q,h'.get? a=some q)(new:ObjOk X.prog X.w (upd H a ob) h' a ob) :
  Inv X pins σ (upd H a ob) { s with heap:=h',toks:=t' } :=
 I.write (x:=a) (e:=a) mu (.inl rfl) (λb q hb z=>(hs.2 b hb).trans z) he new
end
section
variable {X:Cx}{pins:List (Addr×Obj)}{σ:St}{H:Hp}{s:Shared}{a:Addr}{kvs:List (Key×V)}{k:Key}{u:Value}{A:Around}{E:Value->Shared->Prop}
end
noncomputable def NoSl(i:Expr):Prop:=∀ov iv,subscripted i false ov iv=operate [ov,iv] (getItem ov iv)
theorem subD_of{prog:Program}{w:World}{A:Around}{E:Value->Shared->Prop}{s:Shared}{env:Env}{value slice:Expr}{pos:Pos}{T id:String}{Q:Value->Shared->Prop}
  (hl:typeLookup (.type T) "__getitem__"=pure (some (.builtin id))) (hs:NoSl slice)
  (h:wpAny (model prog w) A (eval value env) (λo s₁=>wpAny (model prog w) A (eval slice env) (λi s₂=>s₂.TypeIs o T/\wpAny (model prog w) A (getItem o i) Q E s₂) E s₁) E s) :
  wpAny (model prog w) A (eval (.Subscript value slice pos) env) Q E s:=by
 refine Subscript_ (wpAny_mono h (λo s₁ h₁=>wpAny_mono h₁ (λi s₂ h₂=>?_) λ_ _ x=>x) λ_ _ x=>x)
 obtain⟨hT,h₂⟩:=h₂
 unfold subscriptTail
 refine wpAny_bind ?_
 rw[getitemInPython_of_ne hT.not_modules]
 refine wpAny_bind (wpAny_specialOf hT hl ?_)
 have fin:wpAny (model prog w) A (subscripted slice false o i) (λr s₃=>wpAny (model prog w) A (letTemporaryGo value o r >>= λ_=>pure r) Q E s₃) E s₂:=by
  rw[hs o i]
  exact wpAny_operating (wpAny_mono h₂ (λr s₃ h₃=>wpAny_bind (wpAny_letTemporaryGo (wpAny_pure h₃))) λ_ _ x=>x)
 first
  | exact wpAny_pure (wpAny_bind fin)
  | exact wpAny_bind (wpAny_pure (wpAny_bind fin))
  | exact wpAny_bind fin
section
variable {X:Cx}{o i e value:Expr}{pos pos' tpos:Pos}{td ty tv:TE}
end
section
variable {X:Cx}{pos:Pos}
end
structure M1(X:Cx)(o:Expr)(m:Str)(apos:Pos)(e:Expr)(cpos:Pos):Prop where
 base:attributeBase o m X.env (eval o X.env)=eval o X.env
 few:((backTo cpos (starEach [e] X.env)).all (λx=>!x.1)&&(backToKw cpos (keywordEach [] X.env)).all (λx=>x.1.isSome)
   && decide (([e]:List Expr).length+([]:List Keyword).length+(if ([]:List Keyword).isEmpty then 0 else 1) < 30))=true
 line:(apos.endLine==cpos.line)=true
 trees:backTo cpos (starEach [e] X.env)=[(false,eval e X.env)]
structure M2(X:Cx)(o:Expr)(m:Str)(apos:Pos)(e f:Expr)(cpos:Pos):Prop where
 base:attributeBase o m X.env (eval o X.env)=eval o X.env
 few:((backTo cpos (starEach [e,f] X.env)).all (λx=>!x.1)&&(backToKw cpos (keywordEach [] X.env)).all (λx=>x.1.isSome)
   && decide (([e,f]:List Expr).length+([]:List Keyword).length+(if ([]:List Keyword).isEmpty then 0 else 1) < 30))=true
 line:(apos.endLine==cpos.line)=true
 trees:backTo cpos (starEach [e,f] X.env)=[(false,eval e X.env),(false,eval f X.env)]
noncomputable def IsD(H:Hp)(a:Addr):Prop:=(∃kvs,Rd H a (.dK kvs))\/∃kvs,Rd H a (.dT kvs)
theorem isD_at{X:Cx}{pins:List (Addr×Obj)}{σ:St}{H:Hp}{s:Shared}{a:Addr}(I:Inv X pins σ H s)(d:IsD H a) :
  s.TypeIs (.ref a) "dict"/\(∀b,X1 a=.ref b->∃ob,s.heap.get? b=some ob/\ob.dict=none)/\(a==sysModules)=false:=by
 rcases d with⟨kvs,e⟩|⟨kvs,e⟩
 ·obtain⟨_,hd,vs,_,dd⟩:=dk_rd I.hok e
  refine ⟨dd.typeIs,λb q=>?_,hd⟩
  cases q
  obtain⟨ob,_,_,h1,h2,_⟩:=dd
  exact ⟨ob,h1,h2.2.1⟩
 ·obtain⟨_,hd,xs,_,dd⟩:=dt_rd I.hok e
  refine ⟨dd.typeIs,λb q=>?_,hd⟩
  cases q
  obtain⟨ob,_,_,h1,h2,_⟩:=dd
  exact ⟨ob,h1,h2.2.1⟩
section
variable {X:Cx}{pins:List (Addr×Obj)}{σ:St}{H:Hp}{s:Shared}{a:Addr}{y d:V}{u r:Value}{o:Option V}{A:Around}{E:Value->Shared->Prop}
end
section
variable {X:Cx}{o e f:Expr}{apos cpos:Pos}{td ty tx:TE}
end
section
variable {X:Cx}{pins:List (Addr×Obj)}{σ:St}{H:Hp}{s:Shared}{a:Addr}{kvs:List (Key×V)}{A:Around}{E:Value->Shared->Prop}
end
section
variable {X:Cx}{pins:List (Addr×Obj)}{σ:St}{H:Hp}{s:Shared}{a:Addr}{y:V}{u:Value}{A:Around}{E:Value->Shared->Prop}
end
end L2
namespace Att
open PySem PySem.W PySem.Calls PyProof.Rows
theorem ints_of_wellAll{P:Params}{h:Heap}:∀(ns:List Int) (vs:List Value),WellAll P h vs (ns.map WData.int)->IntsAre vs ns:=by
 intro ns
 induction ns with
 | nil =>
  intro vs w
  rw[Z8]at w
  cases w
  exact .nil
 | cons n ns ih =>
  intro vs w
  rw[B1]at w
  cases w with
  | cons a b =>
   cases a
   exact .cons _ _ (ih _ b)
theorem script_of{l:OpenLaw}{n:Nat}(hn:l.most=some n){P:Params}{h:Heap}{args:List WData}{vals:List Value}
  (hpre:l.row.toRowW.claim.pre args=true) (hwl:WellAll P h vals args) :
  ∃a vs ns,vals=[X1 a]/\args=[WData.list (ns.map WData.int)]/\h.get? a=some { cls:=.type "list",data:=.seq vs.toArray }/\IntsAre vs ns/\ns.length<=n:=by
 have hsh:WShape.hasAll [] args [.list .int]=true:=(pre_splitW hpre).1
 have hc:l.pre.holds [] { args:=args }=true:=(pre_splitW hpre).2
 obtain⟨d,r,rfl,h1,h2⟩:=hasAllW_cons hsh
 obtain rfl:=hasAllW_nil h2
 obtain⟨xs,rfl,h3⟩:=hasW_list h1
 obtain⟨ns,rfl⟩:=items_int h3
 have hlen:ns.length<=n:=by
  unfold OpenLaw.pre at hc
  have h4:(WTm.not (.lt (.lit (.int (n:Int))) (.len (.arg 0)))).holds [] { args:=[.list (ns.map .int)] }=true:=by
   have h4:=(holds_andW hc).1
   rw[hn]at h4
   exact h4
  have h5:=condW_of h4 (w_not (w_lt w_lit (w_len_list (w_arg rfl))))
  rw[j0]at h5
  refine Z7 λq=>?_
  have q':(n:Int) < ((ns.length:Nat):Int):=by omega
  first
   | (rw[decide_eq_true q']at h5;exact absurd h5 (by decide))
   | (simp at h5;omega)
 cases hwl with
 | cons w1 w2 =>
  cases w2
  cases w1 with
  | list ho hall=>exact ⟨_,_,ns,rfl,rfl,ho,ints_of_wellAll ns _ hall,hlen⟩
theorem post_true(l:OpenLaw)(args:List WData):l.row.toRowW.claim.post args (.bool true) args=true :=
 postW_of (r:=l.row.toRowW) (X:=(true==true))
  (show WShape.has [] (.bool true) .bool=true by first|rfl|decide|simp[WShape.has,WShape.arms,WShape.armsAll])
  (show (WTm.eq .res (.lit (.bool true))).value [] { args:=args,res:=some (.bool true),after:=args }=some (.bool (true==true)) from w_eq_bool (w_res rfl) w_lit) rfl
theorem attach_call{l:OpenLaw}{n:Nat}{q:Program}{loose:List Str}{XP:(Str->Option Value)->Heap->Prop}{YP:World->Heap->Prop}{d:DefRec}
  (hn:l.most=some n) (hdf:d.params.defaults=[])
  (call:∀(w:World) (s₀ s₁:Shared) (mg mb:Str->Option Value) (fa:Addr) (o:Obj) (pm cd doc:Value) (a:Addr) (vs:List Value) (ns:List Int),
    Ground q loose [] XP w s₀ mg mb s₁.heap->YP w s₁.heap ->
    s₁.heap.get? fa=some o->o.data=.func (docDef d.name d.params d.body d.scope pm cd doc)->s₁.heap.CodeRec cd d.name->mg d.name=some (.ref fa) ->
    s₁.heap.get? a=some { cls:=.type "list",data:=.seq vs.toArray }->IntsAre vs ns->ns.length<=n->s₁.gens=#[] ->
    codeAny (model l.prog w) callerA (.call (.ref fa) ⟨[.ref a],[]⟩) (λr s'=>r=.ok (.ret (.bool true))/\OldK s₁.heap s'.heap/\s'.os=s₁.os/\AllBare s'.gens) s₁) :
  WalkO q loose XP YP l.row.toRowW d [] (λf vs=>PySem.call f vs):=by
 intro w s₀ s₁ mg mb G Y fa o pm cd doc dV kV ho hd hcd hD hmg hg args vals as hpre hlay hrd hwl hlo
 obtain rfl:dV=.none:=Dflts.none hD hdf
 obtain rfl:kV=.none:=Dflts.noKw hD
 obtain⟨a,vs,ns,rfl,rfl,hobj,hints,hlen⟩:=script_of hn hpre hwl
 refine enter_call (codeAny_mono (call w s₀ s₁ mg mb fa o pm cd doc a vs ns G Y ho (fd_plain hd) hcd hmg hobj hints hlen hg) λr s' hq=>?_)
 obtain⟨rfl,h2,h3,h4⟩:=hq
 exact ⟨.inl ⟨.bool true,.bool true,[],rfl,λ_=>rfl,.bool true,post_true l _,λ_=>⟨List.Pairwise.nil,λ_ hm=>(nomatch hm)⟩⟩,h2,h3,h4⟩
section
variable {prog:Program}{w:World}{A:Around}{E:Value->Shared->Prop}{s:Shared}{K:Frag}
end
end Att
namespace L2
open PySem PySem.Spec PyProof.Rows
theorem vals_ints:∀{vs:List Value}{ns:List Int},IntsAre vs ns->Vals (ns.map V.int) vs
 | _,_,.nil=>.nil
 | _,_,.cons n t h=>.cons ⟨t,rfl⟩ (vals_ints h)
noncomputable def defArgs(s:Stmt):Arguments:=match s with
 | .FunctionDef _ a _ _ _ _ _ _ _ _=>a
 | _=>{ posonlyargs:=[],args:=[],vararg:=none,kwonlyargs:=[],kw_defaults:=[],kwarg:=none,defaults:=[] }
noncomputable def defBody(s:Stmt):List Stmt:=match s with
 | .FunctionDef _ _ b _ _ _ _ _ _ _=>b
 | _=>[]
noncomputable def defScope(s:Stmt):Scope:=match s with
 | .FunctionDef _ _ _ _ _ _ sc _ _ _=>sc
 | _=>{ kind:=.function,names:=[],isGenerator:=false,isCoroutine:=false }
noncomputable abbrev CX0:CXT:=λ_ _ _ _ _ _=>False
noncomputable abbrev E0:XK:=λ_ _ _=>False
theorem pass0{X:Cx}:Passes CX0 X E0:=λ_ _ _ _ _ _ _ h=>h.elim
structure Fun(K:n0)(x qual:Str)(st:Stmt)(f:Addr)(fd:FuncData):Prop where
 ex:∃(oc:Value) (od:Option Addr) (kV doc pm:Value) (an:Option Addr) (cdv ct:Value) (osl:Array (Option Value)),
  fd=q5 x qual (defArgs st) (defBody st) (defScope st) .none kV doc pm an cdv ct/\K.lookup f=some ⟨oc,od,.func fd,osl⟩/\F7 K cdv qual=true
 kp:X4 K (.ref f)=true
section
variable {P:Program}{w:World}{K:n0}{mg:Str->Option Value}{base:Heap}
theorem Fun.ok{x qual:Str}{st:Stmt}{f:Addr}{fd:FuncData}{N ps:List Str}{k:Nat}{sp:Sp}(F:Fun K x qual st f fd)(S:FnScope N ps (defScope st))(len:∀vs H Q E,sp vs H Q E->vs.length=ps.length)
  (hbody:∀(cdv:Value) (A:Around) (outer:List Env) (s:Shared) (H:Hp) (vs:List V) (Q:VK) (E:XK),Room k (A.deeper (envOfC qual (defScope st) s.heap.objs.size f cdv))->sp vs H Q E ->
    ∃t,PSs (cxOf CX0 P w K mg base N qual (defScope st) f cdv A outer s H E).nox (defBody st) t/\t { nx:=λ_ H'=>Q .non H',rt:=Q } (start N vs) H):FnOk P w K mg base CX0 (k+1) f fd ps sp:=by
 obtain⟨oc,od,kV,doc,pm,an,cdv,ct,osl,rfl,lk,hcd⟩:=F.ex
 refine fn_of lk hcd S len λA outer s H vs Q E hr hsp=>?_
 obtain⟨t,h,q⟩:=hbody cdv A outer s H vs Q E hr hsp
 exact ⟨t,h.nox,q⟩
theorem Fun.binds{x qual:Str}{st:Stmt}{f:Addr}{fd:FuncData}{ps:List Str}(F:Fun K x qual st f fd)
  (h:∀(kV doc pm:Value) (an:Option Addr) (cdv ct:Value) (us:List Value),us.length=ps.length->bindArgs (q5 x qual (defArgs st) (defBody st) (defScope st) .none kV doc pm an cdv ct) ⟨us,[]⟩=pure (ps.zip us)):Binds K fd ps []:=by
 obtain⟨oc,od,kV,doc,pm,an,cdv,ct,osl,rfl,lk,hcd⟩:=F.ex
 exact .all (h kV doc pm an cdv ct)
theorem fun_mk{x qual:Str}{st:Stmt}{f:Addr}{oc:Value}{od an:Option Addr}{osl:Array (Option Value)}{kV doc pm cdv ct:Value}(l:K.lookup f=some ⟨oc,od,.func (q5 x qual (defArgs st) (defBody st) (defScope st) .none kV doc pm an cdv ct),osl⟩)
  (c:F7 K cdv qual=true) (k:X4 K (.ref f)=true):Fun K x qual st f (q5 x qual (defArgs st) (defBody st) (defScope st) .none kV doc pm an cdv ct):=⟨⟨oc,od,kV,doc,pm,an,cdv,ct,osl,rfl,l,c⟩,k⟩
end
theorem hu_of{A:Around}{k:Nat}(hr:Room k A):A.units+1 < cLine:=Q1 (y7 (by decide:1<=64) _) hr.units
section
variable {X:Cx}
end
theorem ite2{c A B:Prop}[Decidable c](h1:c->A)(h2:¬c->B):if c then A else B:=by
 by_cases h:c
 ·rw[if_pos h]
  exact h1 h
 ·rw[if_neg h]
  exact h2 h
section
variable {κ:Type}[DecidableEq κ]
end
noncomputable def clOf(cells:List (Str×Addr)):List (Str×NameKind)->List (Str×Addr)->List (Str×Addr)
 | [],acc=>acc
 | (n,k) :: r,acc=>clOf cells r (if k==.free then (n,(cells.lookup n).getD 0) :: acc else acc)
theorem closure_of{env:Env}{sc:Scope}(h:∀y∈sc.names,y.2=.free->∃c,env.cells.lookup y.1=some c):closureFor sc env=pure (clOf env.cells sc.names []):=by
 have go:∀(l:List (Str×NameKind)) (acc:List (Str×Addr)),(∀y∈l,y.2=.free->∃c,env.cells.lookup y.1=some c) ->
   (forIn l acc λ(x:Str×NameKind) r=>(if (x.2==NameKind.free)=true then (do let a<-cellOf env x.1;pure (ForInStep.yield ((x.1,a) :: r))) else pure (ForInStep.yield r):Sem (ForInStep (List (Str×Addr)))))=pure (clOf env.cells l acc):=by
  intro l
  induction l with
  | nil=>intro acc _;rfl
  | cons y r ih =>
   intro acc hl
   obtain⟨n,k⟩:=y
   rw[p8]
   by_cases hk:(k==NameKind.free)=true
   ·obtain⟨c,hc⟩:=hl (n,k) P0 (by simpa using hk)
    have hc:env.cells.lookup n=some c:=hc
    simp only[hk,if_true,cellOf,hc,pure_bind,clOf,W4]
    exact ih _ λy hy=>hl y (L0 _ hy)
   ·simp only[hk,if_false,pure_bind,clOf]
    exact ih _ λy hy=>hl y (L0 _ hy)
 have e:=go sc.names [] h
 unfold closureFor
 show (forIn sc.names [] _ >>= λcs=>pure cs)=_
 rw[show (forIn sc.names ([]:List (Str×Addr)) λ(x:Str×NameKind) r=>(match x with|(name,kind)=>if (kind==NameKind.free)=true then (do let a<-cellOf env name;pure (ForInStep.yield ((name,a) :: r))) else pure (ForInStep.yield r):Sem (ForInStep (List (Str×Addr)))))=pure (clOf env.cells sc.names []) from e]
 rfl
theorem clOf_lookup{cells:List (Str×Addr)}{x:Str}{c:Addr}:∀{l:List (Str×NameKind)}{acc:List (Str×Addr)},(∀y∈l,y.2=.free->∃c,cells.lookup y.1=some c)->(clOf cells l acc).lookup x=some c ->
  acc.lookup x=some c\/cells.lookup x=some c
 | [],acc,_,h=>.inl h
 | (n,k) :: r,acc,hl,h=>by
  have ih:=clOf_lookup (l:=r) (λy hy=>hl y (L0 _ hy)) h
  rcases ih with ih|ih
  ·by_cases hk:(k==NameKind.free)=true
   ·rw[if_pos hk,U3]at ih
    obtain⟨c',hc⟩:=hl (n,k) P0 (by simpa using hk)
    have hc:cells.lookup n=some c':=hc
    cases e:x==n with
    | true =>
     rw[e]at ih
     have:x=n:=by simpa using e
     subst this
     simp only[hc,W4,Option.some.injEq]at ih
     subst ih
     exact .inr hc
    | false=>rw[e]at ih;exact .inl ih
   ·rw[if_neg hk]at ih;exact .inl ih
  ·exact .inr ih
theorem clOf_has{cells:List (Str×Addr)}{x:Str}:∀{l:List (Str×NameKind)}{acc:List (Str×Addr)},((∃c,acc.lookup x=some c)\/l.lookup x=some .free)->∃c,(clOf cells l acc).lookup x=some c
 | [],acc,h=>by
  rcases h with h|h
  ·exact h
  ·simp at h
 | (n,k) :: r,acc,h=>by
  refine clOf_has (l:=r) ?_
  rcases h with⟨c,h⟩|h
  ·left
   by_cases hk:(k==NameKind.free)=true
   ·rw[if_pos hk,U3]
    cases x==n with
    | true=>exact ⟨_,rfl⟩
    | false=>exact ⟨c,h⟩
   ·rw[if_neg hk];exact ⟨c,h⟩
  ·rw[U3]at h
   cases e:x==n with
   | true =>
    rw[e]at h
    have hk:k=.free:=N1 h
    left
    subst hk
    rw[if_pos (by decide),U3,e]
    exact ⟨_,rfl⟩
   | false=>rw[e]at h;exact .inr h
theorem lookup_relabel{env:Env}{x:Str}:∀{names:List (Str×NameKind)},
  (names.map λ(n,k)=>if (k==NameKind.free&&env.scope.kind==.function&&env.kindOf n==some .cell) then (n,NameKind.cell) else (n,k)).lookup x =
   (names.lookup x).map λk=>if (k==NameKind.free&&env.scope.kind==.function&&env.kindOf x==some .cell) then .cell else k
 | []=>rfl
 | (n,k) :: r=>by
  have ih:=@lookup_relabel env x r
  rw[B1]
  show R7 x ((if (k==NameKind.free&&env.scope.kind==.function&&env.kindOf n==some .cell)=true then (n,NameKind.cell) else (n,k)) :: _)=_
  cases hx:x==n with
  | true =>
   have e:x=n:=by simpa using hx
   subst e
   by_cases hc:(k==NameKind.free&&env.scope.kind==.function&&env.kindOf x==some .cell)=true
   ·rw[if_pos hc];simp only[U3,hx,K4];rw[if_pos hc]
   ·rw[if_neg hc];simp only[U3,hx,K4];rw[if_neg hc]
  | false =>
   by_cases hc:(k==NameKind.free&&env.scope.kind==.function&&env.kindOf n==some .cell)=true
   ·rw[if_pos hc];simp only[U3,hx];exact ih
   ·rw[if_neg hc];simp only[U3,hx];exact ih
theorem relabel_lookup(sc:Scope)(env:Env)(x:Str):(relabel sc env).names.lookup x=(sc.names.lookup x).map λk=>if (k==NameKind.free&&env.scope.kind==.function&&env.kindOf x==some .cell) then .cell else k:=lookup_relabel
theorem cf_app:∀(names:List (Str×NameKind)) (n:Nat) (acc:List (Str×Addr)),cellsFrom n names acc=cellsFrom n names []++acc
 | [],_,_=>rfl
 | (x,k) :: r,n,acc=>by
  unfold cellsFrom
  split
  ·rw[cf_app r (n+1) ((x,n) :: acc),cf_app r (n+1) [(x,n)],X3];rfl
  ·exact cf_app r n acc
theorem cf_mem{x:Str}{c:Addr}:∀(names:List (Str×NameKind)) (n:Nat),(x,c)∈cellsFrom n names []->(x,NameKind.cell)∈names/\n<=c
 | [],_,h=>by cases h
 | (y,k) :: r,n,h=>by
  unfold cellsFrom at h
  split at h
  ·rename_i hk
   have hk:k=.cell:=by simpa using hk
   rw[cf_app,R0]at h
   rcases h with h|h
   ·have:=cf_mem r (n+1) h
    exact ⟨L0 _ this.1,by omega⟩
   ·have h:(x,c)=(y,n):=by simpa using h
    cases h
    subst hk
    exact ⟨P0,A0 _⟩
  ·have:=cf_mem r n h
   exact ⟨L0 _ this.1,this.2⟩
theorem lookup_app{α:Type}{x:Str}:∀{l m:List (Str×α)},(l++m).lookup x=(l.lookup x).or (m.lookup x)
 | [],_=>rfl
 | (y,v) :: l,m=>by
  rw[List.cons_append,U3,U3]
  cases x==y with
  | true=>rfl
  | false=>exact lookup_app
theorem wpAny_newEnvComp{M:Model}{A:Around}{E:Value->Shared->Prop}{s:Shared}{scope:Scope}{globals:Addr}{closure:List (Str×Addr)}{qual:Str}{env:Env}{Q:Env->Shared->Prop}
  (hQ:Q (newEnv scope s.heap.objs.size globals (cellsFrom (s.heap.objs.size+1) scope.names closure) qual none .none (some env) builtinsNs) { s with heap:=pushCells (s.heap.push { cls:=.type "dict",data:=.dict #[] }) scope.names }) :
  wpAny M A (newFunctionEnv scope globals closure [] qual none .none (some env)) Q E s:=by
 simp only[newFunctionEnv,Option.isSome_some,if_true]
 refine wpAny_bind (wpAny_alloc ?_)
 refine wpAny_bind (wpAny_layCells _ (λname kind cells=>by cases hkc:kind==NameKind.cell<;>simp[hkc]) _ _ _ _ ?_)
 rw[show ({ s with heap:=s.heap.push { cls:=.type "dict",data:=.dict #[] } }:Shared).heap.objs.size=s.heap.objs.size+1 from M3 ..]
 refine wpAny_bind ?_
 rw[F8]
 exact wpAny_pure (wpAny_pure hQ)
noncomputable def frN(N:List Str)(fr:List Nat):List Str:=fr.map λi=>N.getD i Str.empty
noncomputable def frS(σ:St)(fr:List Nat):St:=fr.map λi=>(σ[i]?).getD none
noncomputable def cxComp(X:Cx)(own:List Str)(fr:List Nat)(sc:Scope)(C:Addr)(s:Shared)(H:Hp)(ex:List Addr):Cx where
 prog:=X.prog
 w:=X.w
 K:=X.K
 mg:=X.mg
 base:=X.base
 A:=X.A
 N:=own++frN X.N fr
 s₀:=s
 H₀:=H
 env:=compEnvC sc (cellsFrom (C+1) sc.names (clOf X.env.cells sc.names [])) C X.env
 outer:=X.stack
 stack:=X.stack
 ex:=ex
 fn:=λx=>sc.names.lookup x==some .cell
 calm:=X.calm
 pn:=[]
 xe:=λ_ _=>False
noncomputable def st0(own:List Str)(σ:St)(fr:List Nat):St:=own.map (λ_=>none)++frS σ fr
structure CompSc(X:Cx)(own:List Str)(fr:List Nat)(sc:Scope):Prop where
 kind:sc.kind=.function
 cells:∀y∈sc.names,y.2=.cell->sc.names.lookup y.1=some .cell
 loc:∀y∈sc.names,y.2=.local->sc.names.lookup y.1=some .local
 free:∀y∈sc.names,y.2=.free->X.env.kindOf y.1=some .cell\/X.env.kindOf y.1=some .free
 fr:∀i∈fr,∃x,X.N[i]?=some x/\sc.names.lookup x=some .free
theorem comp_start{X:Cx}{own:List Str}{fr:List Nat}{sc:Scope}{pins:List (Addr×Obj)}{σ:St}{H:Hp}{s:Shared}{fp:List Addr}{C D:Addr}{h1:Heap}{tk:Nat}{oD:Obj}
  (S:CompSc X own fr sc) (I:Inv X pins σ H s) (hf:∀b∈fp,FpOk X pins H b) (hfo:∀b∈fp,∃o,s.heap.get? b=some o) (hC:s.heap.objs.size<=C) (hD:s.heap.objs.size<=D) (hDC:D≠C) (hn:h1.Ns C λx=>([]:List (Str×Value)).reverse.lookup x)
  (hk:∀b o,s.heap.get? b=some o->h1.get? b=some o) (hcl:∀x c,(x,c)∈cellsFrom (C+1) sc.names []->h1.IsCell c none) (hap:(cellsFrom (C+1) sc.names []).Pairwise λx y=>x.2≠y.2) (hoD:h1.get? D=some oD) (hdD:∀v,oD.data≠.cell v) :
  Inv (cxComp X own fr sc C s H fp) [(D,oD)] (st0 own σ fr) H { s with heap:=h1,toks:=tk }:=by
 have hfree:∀y∈sc.names,y.2=.free->∃c,X.env.cells.lookup y.1=some c:=λy hy e=>I.ok.has y.1 (S.free y hy e)
 have cl1:∀x c,(clOf X.env.cells sc.names []).lookup x=some c->X.env.cells.lookup x=some c:=λx c e=>by
  rcases clOf_lookup hfree e with z|z
  ·simp at z
  ·exact z
 have cl2:∀x c,(cellsFrom (C+1) sc.names (clOf X.env.cells sc.names [])).lookup x=some c->(x,c)∈cellsFrom (C+1) sc.names []\/X.env.cells.lookup x=some c:=λx c e=>by
  rw[cf_app,lookup_app]at e
  cases q:(cellsFrom (C+1) sc.names []).lookup x with
  | none=>rw[q]at e;exact .inr (cl1 x c e)
  | some c'=>rw[q]at e;cases e;exact .inl (PySem.mem_of_lookup q)
 have new:∀x c,(x,c)∈cellsFrom (C+1) sc.names []->C+1<=c:=λx c h=>(cf_mem _ _ h).2
 have oldc:∀x c,X.env.cells.lookup x=some c->c < s.heap.objs.size:=λx c e=>by
  obtain⟨v,q⟩:=I.cell x c e
  exact q.lt
 have kin:∀x k,(relabel sc X.env).names.lookup x=some k->k=.cell\/k=.free->sc.names.lookup x=some .free\/sc.names.lookup x=some .cell:=λx k e hk=>by
  rw[relabel_lookup]at e
  cases q:sc.names.lookup x with
  | none=>rw[q]at e;cases e
  | some j =>
   rw[q,K4,Option.some.injEq]at e
   by_cases hj:j=.free
   ·rw[hj];exact .inl rfl
   ·have hne:(j==NameKind.free)=false:=by simpa using hj
    rw[hne,E8,E8,if_neg (by simp)]at e
    subst e
    rcases hk with z|z
    ·rw[z];exact .inr rfl
    ·exact absurd z hj
 have kout:∀x,sc.names.lookup x=some .free->((relabel sc X.env).names.lookup x=some .cell\/(relabel sc X.env).names.lookup x=some .free):=λx e=>by
  rw[relabel_lookup,e,K4]
  by_cases h:(NameKind.free==NameKind.free&&X.env.scope.kind==.function&&X.env.kindOf x==some .cell)=true
  ·rw[if_pos h];exact .inl rfl
  ·rw[if_neg h];exact .inr rfl
 have okc:∀b∈fp,b < s.heap.objs.size:=λb hb=>by obtain⟨o,e⟩:=hfo b hb;exact J0 e
 have fresh:∀{a:Addr},s.heap.objs.size<=a->H a=none:=λh=>I.hok.fresh h
 have ok:(cxComp X own fr sc C s H fp).Ok:={
   mod:=I.ok.mod
   kind:=S.kind
   glob:=I.ok.glob
   blt:=I.ok.blt
   above:=hC
   inj:=λx y c h1 h2=>by
     have hC:s.heap.objs.size<=C:=hC
     rcases cl2 x c h1 with a|a<;>rcases cl2 y c h2 with b|b
     · exact name_of_addr hap a b
     · have:=new x c a;have:=oldc y c b;exact absurd (T0 (oldc y c b) (Q0 hC (v5 (new x c a)))) (Z2 _)
     · exact absurd (T0 (oldc x c a) (Q0 hC (v5 (new y c b)))) (Z2 _)
     · exact I.ok.inj x y c a b
   has:=λx hx=>by
     have hx:sc.names.lookup x=some .free\/sc.names.lookup x=some .cell:=by
       rcases hx with hx|hx
       · exact kin x _ hx (.inl rfl)
       · exact kin x _ hx (.inr rfl)
     show ∃c,(cellsFrom (C+1) sc.names (clOf X.env.cells sc.names [])).lookup x=some c
     rw[cf_app,lookup_app]
     rcases hx with hx|hx
     · obtain⟨c,e⟩:=clOf_has (cells:=X.env.cells) (x:=x) (l:=sc.names) (acc:=[]) (.inr hx)
       rw[e]
       cases (cellsFrom (C+1) sc.names []).lookup x with
       | none=>exact ⟨c,rfl⟩
       | some c'=>exact ⟨c',rfl⟩
     · obtain⟨c,e⟩:=cell_has (n:=C+1) hx
       rw[e]
       exact ⟨c,rfl⟩
   cab:=λx c h e=>by
     have h:sc.names.lookup x=some .cell:=by simpa [cxComp]using h
     have e:(cellsFrom (C+1) sc.names (clOf X.env.cells sc.names [])).lookup x=some c:=e
     obtain⟨c',q⟩:=cell_has (n:=C+1) h
     rw[cf_app,lookup_app,q]at e
     cases e
     exact Q0 hC (v5 (new x _ (PySem.mem_of_lookup q)))
   hd:=I.ok.hd
   frames:=I.ok.frames
   stk:=.inl rfl
   exf:=λb hb=>⟨Y0 (T0 (okc b hb) hC),λx c e=>by
     rcases cl2 x c e with z|z
     · exact T1 (T0 (okc b hb) (Q0 hC (v5 (new x c z))))
     · exact (hf b hb).2.2.2.2.1 x c z⟩
   bs:=I.bs
   bsz:=Q0 I.ok.bsz I.sz
   noex:=λb o e hb=>by
     rcases (hf b hb).2.2.2.1 with z|z
     · exact I.ok.noex b o e z
     · exact absurd (T0 (J0 e) (Q0 I.ok.bsz z)) (Z2 _)
   exfs:=λb hb hm=>by
     rcases X0.mp (I.stkSub b hm) with z|z
     · exact (hf b hb).2.1 z
     · exact (hf b hb).2.2.1 z
   funs:=I.stack
   frf:=I.stkFree }
 refine ⟨ok,rfl,I.bare,Un.kept hk,⟨_,hn,λi x v e1 e2 e3=>?_⟩,λx c e=>?_,fresh hC,λx c e=>?_,λp hp=>?_,I.hok.kept hk,?_⟩
 ·have e1:(own++frN X.N fr)[i]?=some x:=e1
  have e2:(own.map (λ_=>(none:Option V))++frS σ fr)[i]?=some (some v):=e2
  by_cases hi:i < own.length
  ·rw[X2 (by simpa using hi),O0]at e2
   cases q:own[i]? with
   | none=>rw[q]at e2;cases e2
   | some z=>rw[q]at e2;cases e2
  ·rw[Y1 (by omega)]at e1
   rw[Y1 (by simpa using hi),j0]at e2
   unfold frN at e1
   unfold frS at e2
   rw[O0]at e1 e2
   cases q:fr[i - own.length]? with
   | none=>rw[q]at e1;cases e1
   | some j =>
    rw[q,K4,Option.some.injEq]at e1 e2
    obtain⟨y,hy,hyf⟩:=S.fr j (E1 q)
    rw[Z1,hy,W4]at e1
    subst e1
    have e2':σ[j]?=some (some v):=by
     cases r:σ[j]? with
     | none=>rw[r]at e2;cases e2
     | some z=>rw[r,W4]at e2;rw[e2]
    have hkf:X.env.kindOf y=some .cell\/X.env.kindOf y=some .free:=S.free (y,.free) (PySem.mem_of_lookup hyf) rfl
    obtain⟨m,hm,hl⟩:=I.loc
    have vis:Vis X.env.scope y:=by
     rcases hkf with z|z
     ·exact .inr (.inl z)
     ·exact .inr (.inr z)
    obtain⟨u,r,l⟩:=hl j y v hy e2' vis
    refine ⟨u,r,?_⟩
    rcases l with⟨k,_⟩|⟨k,c,hc,z⟩
    ·rcases hkf with k'|k'<;>rw[k]at k'<;>cases k'
    ·refine .inr ⟨kout y hyf,?_⟩
     obtain⟨c',hc'⟩:∃c',(clOf X.env.cells sc.names []).lookup y=some c':=clOf_has (.inr hyf)
     have:c'=c:=N1 ((cl1 y c' hc').symm.trans hc)
     subst this
     obtain⟨o,ho,hd⟩:=z
     refine ⟨c',?_,o,hk _ _ ho,hd⟩
     show (cellsFrom (C+1) sc.names (clOf X.env.cells sc.names [])).lookup y=some c'
     rw[cf_app,lookup_app,hc']
     cases q:(cellsFrom (C+1) sc.names []).lookup y with
     | none=>rfl
     | some c2 =>
      have:=S.cells _ (cf_mem _ _ (PySem.mem_of_lookup q)).1 rfl
      rw[hyf]at this
      cases this
 ·rcases cl2 x c e with z|z
  ·exact ⟨_,hcl x c z⟩
  ·obtain⟨v,o,ho,hd⟩:=I.cell x c z
   exact ⟨v,o,hk _ _ ho,hd⟩
 ·rcases cl2 x c e with z|z
  ·exact fresh (Q0 hC (v5 (new x c z)))
  ·exact I.freeC x c z
 ·have e:p=(D,oD):=by
   have:p∈([]:List (Addr×Obj))++[(D,oD)]:=hp
   simpa using this
  subst e
  refine ⟨hoD,fresh hD,hDC,λhm=>?_,hdD⟩
  have hm:D∈frs X.stack:=hm
  obtain⟨_,o,ho,_⟩:=I.stack.mem hm
  exact absurd (T0 (J0 ho) hD) (Z2 _)
 ·show (own.map (λ_=>(none:Option V))++frS σ fr).length=(own++frN X.N fr).length
  simp[frS,frN]
theorem comp_end{X:Cx}{own:List Str}{fr:List Nat}{sc:Scope}{pins:List (Addr×Obj)}{σ σ':St}{H H':Hp}{s s':Shared}{fp:List Addr}{C D:Addr}{oD:Obj}{ys:List V}{us:List Value}{n:Nat}
  (I:Inv X pins σ H s) (hf:∀b∈fp,FpOk X pins H b) (hC:s.heap.objs.size<=C) (hD:s.heap.objs.size<=D) (hDC:D≠C)
  (J:Inv (cxComp X own fr sc C s H fp) [(D,oD)] σ' H' s') (ho:oD={ cls:=.type "list",data:=.seq us.toArray n }) (r:Vals ys us) (hz:ys.length<=sizeLine) :
  Inv X pins σ (upd H' D (.lst ys)) s'/\(∃m,s'.heap.Ns C m)/\FpOk X pins (upd H' D (.lst ys)) C:=by
 have pD:=J.pin (D,oD) (by simp[cxComp])
 have hHD:H' D=none:=pD.2.1
 have u:Un (frs X.stack) fp H H' s.heap s'.heap:=J.base
 have lt:∀b o,s.heap.get? b=some o->b≠D:=λb o e=>Y0 (T0 (J0 e) hD)
 have u2:Un (frs X.stack) fp H (upd H' D (.lst ys)) s.heap s'.heap :=
  ⟨u.keep,u.slot,λb o e n hx=>by rw[upd_ne (lt b o e)];exact u.free b o e n hx,u.there,λb xs e=>by rw[upd_ne (ne_of_none (u.tups b xs e) hHD)];exact u.tups b xs e,
    λb o x e=>by rw[upd_ne (ne_of_none (u.frzs b o x e) hHD)];exact u.frzs b o x e,λb ps e=>by
      obtain⟨more,q⟩:=u.tbls b ps e
      exact ⟨more,by rw[upd_ne (ne_of_none q hHD)];exact q⟩⟩
 have hok:HOk X.prog X.w (upd H' D (.lst ys)) s'.heap:=λb o e=>by
  by_cases hb:b=D
  ·subst hb
   rw[upd_same]at e
   cases e
   exact ⟨hz,us,n,r,by rw[<- ho];exact pD.1⟩
  ·rw[upd_ne hb]at e
   exact (J.hok b o e).stay (λ_ _ _ q=>q) (λc q=>by rw[upd_ne (ne_of_none q hHD)];exact q) λc xs q=>by rw[upd_ne (ne_of_none q hHD)];exact q
 refine ⟨I.call' (ch:=fp) J.os u2 hok J.bare λb hb=>?_,?_,?_⟩
 ·obtain⟨f0,f1,f2,f3,f4,f5⟩:=hf b hb
  exact ⟨f3,f1,f4,f5⟩
 ·obtain⟨m,hm,_⟩:=J.loc
  exact ⟨m,hm⟩
 ·have hfree:H' C=none:=J.free
  refine ⟨by rw[upd_ne (v3 hDC)];exact hfree,?_⟩
  exact (I.fpOk hC (I.hok.fresh hC)).2
theorem codeAny_compLoop_any{prog:Program}{w:World}{A:Around}{R:Result->Shared->Prop}{s:Shared}{elt target iter:Expr}{ifs:List Expr}{scope:Scope}{pos:Pos}{it acc:Value}{env:Env}(I:Nat->Shared->Prop)
  (turn:∀n s,I n s->wpAny (model prog w) A (pyNext it) (λr s₁=>match r with
    | none=>R (.ok .next) s₁
    | some v=>wpAny (model prog w) A (letOwnedTupleGo target it v) (λ_ s₁'=>wpAny (model prog w) A (assign target env v) (λ_ s₂ =>
        wpAny (model prog w) A (forIn ifs true λc r=>if r=true then do let ok<-isTrue c env (eval c env);pure (ForInStep.yield ok) else pure (ForInStep.yield r)) (λok s₃ =>
          if ok=true then wpAny (model prog w) A (eval elt env) (λx s₄ =>
            wpAny (model prog w) A (call (.builtin "list.append") [acc,x]) (λ_ s₅=>∃m,m < n/\I m s₅) (λ_ _=>False) s₄) (λ_ _=>False) s₃
          else ∃m,m < n/\I m s₃) (λ_ _=>False) s₂) (λ_ _=>False) s₁') (λ_ _=>False) s₁) (λ_ _=>False) s)
  (n:Nat) (h:I n s) :
  codeAny (model prog w) A (.compLoop (.ListComp elt [⟨target,iter,ifs,0⟩] scope pos) 0 it acc env) R s:=by
 refine codeAny_loop rfl I (λn s hI=>?_) n h
 show wpAny _ A ((compTurn (.ListComp elt [⟨target,iter,ifs,0⟩] scope pos) 0 it acc env).onRaise (λx=>do noteFrame x env;theTreesLotGoes x)) _ _ s
 refine wpAny_noted ?_
 rw[compTurn_list]
 refine wpAny_bind (wpAny_standAt (wpAny_bind (wpAny_mono (turn n s hI) (λr s₁ h₁=>?_) λ_ _ h'=>h'.elim)))
 cases r with
 | none=>exact wpAny_pure h₁
 | some v =>
  refine wpAny_bind (wpAny_mono h₁ (λ_ s₁' h₁'=>?_) λ_ _ h'=>h'.elim)
  refine wpAny_bind (wpAny_mono h₁' (λ_ s₂ h₂=>wpAny_bind (wpAny_mono h₂ (λok s₃ h₃=>?_) λ_ _ h'=>h'.elim)) λ_ _ h'=>h'.elim)
  cases ok with
  | false=>exact wpAny_pure ⟨rfl,h₃⟩
  | true =>
   exact wpAny_bind (wpAny_bind (wpAny_mono h₃ (λx s₄ h₄=>wpAny_bind (wpAny_mono h₄ (λ_ s₅ h₅=>wpAny_pure (wpAny_pure ⟨rfl,h₅⟩)) λ_ _ h'=>h'.elim)) λ_ _ h'=>h'.elim))
noncomputable def PIf(X:Cx)(ifs:List Expr)(t:TT):Prop :=
 ∀(pins:List (Addr×Obj)) (s:Shared) (σ:St) (H:Hp) (Q:Bool->Hp->Prop),Inv X pins σ H s->t σ H Q ->
  wpAny (model X.prog X.w) X.A (forIn ifs true λc r=>if r=true then do let ok<-isTrue c X.env (eval c X.env);pure (ForInStep.yield ok) else pure (ForInStep.yield r)) (TP X pins σ Q) X.xe s
noncomputable def tYes:TT:=λ_ H Q=>Q true H
theorem if_nil{X:Cx}:PIf X [] tYes:=λ_ _ _ H _ I h=>wpAny_tests_nil ⟨H,I,h⟩
theorem if_one{X:Cx}{c:Expr}{t:TT}(h:PT X c t):PIf X [c] t:=λpins s σ H Q I hw=>wpAny_tests_one (h pins s σ H Q I hw)
noncomputable def tComp(wi:TI)(own:List Str)(fr:List Nat)(g:TG)(tc:TT)(te:TE):TE:=λσ H Q=>wi σ H λJ H1=>∃W:Nat->Nat->List V->St->Hp->Prop,(∃m,W 0 m [] (st0 own σ fr) H1)/\∀i m ys τ H,W i m ys τ H ->
 (J.stop i H/\∀D,H D=none->Q (.ref D) (upd H D (.lst ys))) \/
 (J.go i H/\ys.length < sizeLine/\∃N:List V->St->Hp->Prop,(∀ys' τ' H',N ys' τ' H'->∃m',m' < m/\W (i+1) m' ys' τ' H')/\∀x H',J.yld i H x H'->g x τ H' λτ2 H2 =>
   tc τ2 H2 λb H3=>if b=true then te τ2 H3 λy H4=>N (ys++[y]) τ2 H4 else N ys τ2 H3)
theorem comp_grow{X:Cx}{D:Addr}{us:List Value}{k:Nat}{pl:List (Addr×Obj)}{σ:St}{H:Hp}{s:Shared}{u:Value}{Q:Value->Shared->Prop}{E:Value->Shared->Prop}
  (I:Inv X ([(D,{ cls:=.type "list",data:=.seq us.toArray k })]++pl) σ H s) (h1:X.s₀.heap.objs.size<=D) (h2:∀x c,X.env.cells.lookup x=some c->c≠D) (h3:∀p∈X.pn++pl,p.1≠D) (hz:us.length < sizeLine)
  (h:∀k' s',Inv X ([(D,{ cls:=.type "list",data:=.seq (us++[u]).toArray k' })]++pl) σ H s'->Q .none s'):wpAny (model X.prog X.w) X.A (call (.builtin "list.append") [.ref D,u]) Q E s:=by
 obtain⟨e,hn,hL,hF,_⟩:=I.pin (D,{ cls:=.type "list",data:=.seq us.toArray k }) (Z0 _ (n4 _ (U0.mpr rfl)))
 dsimp only at e hn hL hF
 have I0:Inv X pl σ H s:=I.pins_of λp hp=>I.pin p (Z0 _ (Z0 _ hp))
 refine call_meets F.slot_list_append ⟨_,e,rfl⟩ F.entry_list_append (F.args_list_append_2 _ _) (PySem.list_append D us.toArray k u (by rw[N0];omega)) ⟨e,?_⟩
 have q:=PySem.IsL.update e λxs=>xs.push u
 rw[show us.toArray.push u=(us++[u]).toArray by simp]at q
 have I1:Inv X pl σ H { s with heap:=s.heap.update D (U1 λxs=>xs.push u),toks:=s.toks } :=
  I0.turned (it:=D) (λb o hb ho=>(V3 s.heap (U1 λxs=>xs.push u) (v3 hb)).trans ho) hn hL (.inr h1) h2 h3
 obtain⟨k',q⟩:∃k',(s.heap.update D (U1 λxs=>xs.push u)).get? D=some { cls:=.type "list",data:=.seq (us++[u]).toArray k' }:=⟨_,q⟩
 refine h k' _ (I1.pins_of (pins':=[(D,{ cls:=.type "list",data:=.seq (us++[u]).toArray k' })]++pl) λp hp=>?_)
 rcases R0.mp hp with z|z
 ·have z:p=_:=U0.mp z
  subst z
  exact ⟨q,hn,hL,hF,λv z=>by cases z⟩
 ·exact I1.pin p (Z0 _ z)
theorem comp_block{X:Cx}{tg iter elt:Expr}{ifs:List Expr}{sc:Scope}{pos:Pos}{own:List Str}{fr:List Nat}{g:TG}{tc:TT}{te:TE}{pins:List (Addr×Obj)}{σ:St}{H2:Hp}{s2:Shared}{it:Addr}{fp:List Addr}{tn:Nat->Heap->Prop}{J:It}{Q:VK}{E:Value->Shared->Prop}
  {RR:Value->Addr->Result->Shared->Prop}
  (hc:X.calm=true) (S:CompSc X own fr sc) (I2:Inv X pins σ H2 s2) (T:Turn X.prog X.w X.K tg J fp it tn) (st2:tn 0 s2.heap) (f2:∀b∈fp,FpOk X pins H2 b)
  (hg:∀C ex,PG (cxComp X own fr sc C s2 H2 ex) tg g) (hif:∀C ex,PIf (cxComp X own fr sc C s2 H2 ex) ifs tc) (he:∀C ex,PE (cxComp X own fr sc C s2 H2 ex) elt te)
  (W:Nat->Nat->List V->St->Hp->Prop) (m0:Nat) (w0:W 0 m0 [] (st0 own σ fr) H2)
  (turn:∀i m ys τ H,W i m ys τ H->(J.stop i H/\∀D,H D=none->Q (.ref D) (upd H D (.lst ys))) \/
    (J.go i H/\ys.length < sizeLine/\∃N:List V->St->Hp->Prop,(∀ys' τ' H',N ys' τ' H'->∃m',m' < m/\W (i+1) m' ys' τ' H')/\∀x H',J.yld i H x H'->g x τ H' λτ2 H2 =>
      tc τ2 H2 λb H3=>if b=true then te τ2 H3 λy H4=>N (ys++[y]) τ2 H4 else N ys τ2 H3))
  (hRR:∀D C H s',Inv X pins σ H s'->Q (.ref D) H->(∃m,s'.heap.Ns C m)->FpOk X pins H C->RR (.ref D) C (.ok .next) s') :
  wpAny (model X.prog X.w) X.A (newList []) (λacc s₃=>wpAny (model X.prog X.w) X.A (newFunctionEnv sc X.env.globals (clOf X.env.cells sc.names []) [] X.env.qual none .none (some X.env)) (λcenv s₄ =>
    codeAny (model X.prog X.w) X.A (.compStart (.ListComp elt [⟨tg,iter,ifs,0⟩] sc pos) 0 (.ref it) acc { cenv with scope:=relabel sc X.env }) (RR acc cenv.locals) s₄) E s₃) E s2:=by
 refine wpAny_newObj_type (wpAny_newEnvComp ?_)
 dsimp only
 generalize hH2:s2.heap.push { cls:=.type "list",dict:=none,data:=.seq ([]:List Value).toArray }=G
 generalize hh1:pushCells (G.push { cls:=.type "dict",data:=.dict #[] }) sc.names=h₁
 have kp:∀b o,(G.push { cls:=.type "dict",data:=.dict #[] }).get? b=some o->h₁.get? b=some o:=λb o e=>hh1 ▸ pushCells_keeps _ _ b o e
 have hns₁:h₁.Ns G.objs.size λx=>([]:List (Str×Value)).reverse.lookup x:=(Heap.Ns.new G (.type "dict")).keeps kp
 have cok:CellsOk h₁ (G.objs.size+1) (cellsFrom (G.objs.size+1) sc.names []):=by
  have:=cellsFrom_ok sc.names (G.push { cls:=.type "dict",data:=.dict #[] }) (G.objs.size+1) [] ⟨λ_ _ hm=>(nomatch hm),List.Pairwise.nil⟩ (by rw[M3];exact A0 _)
  rw[M3,hh1]at this
  exact this
 have hC:G.objs.size=s2.heap.objs.size+1:=by rw[<- hH2,M3]
 have hCle:s2.heap.objs.size<=G.objs.size:=by rw[hC];exact Q7 _
 have hDC:s2.heap.objs.size≠G.objs.size:=by rw[hC];exact Y0 (Nat.lt_succ_self _)
 have old:∀b o,s2.heap.get? b=some o->h₁.get? b=some o:=λb o e=>kp b o (i0 _ (hH2 ▸ i0 _ e))
 have hacc:h₁.get? s2.heap.objs.size=some { cls:=.type "list",data:=.seq ([]:List Value).toArray }:=kp _ _ (i0 _ (hH2 ▸ M0 _ rfl))
 have st0':tn 0 h₁:=T.keep _ _ _ st2 λb hb o e=>old b o e
 have fo:∀b∈fp,∃o,s2.heap.get? b=some o:=λb hb=>let ⟨o,e,_⟩:=T.obj _ _ st2 b hb;⟨o,e⟩
 have flt:∀b∈fp,b < s2.heap.objs.size:=λb hb=>by obtain⟨o,e⟩:=fo b hb;exact J0 e
 have clb:∀x c,(clOf X.env.cells sc.names []).lookup x=some c->X.env.cells.lookup x=some c:=λx c e=>by
  rcases clOf_lookup (λy hy e=>I2.ok.has y.1 (S.free y hy e)) e with z|z
  ·simp at z
  ·exact z
 have clb2:∀(C':Addr) x c,(cellsFrom (C'+1) sc.names (clOf X.env.cells sc.names [])).lookup x=some c->C'+1<=c\/X.env.cells.lookup x=some c:=λC' x c e=>by
  rw[cf_app,lookup_app]at e
  cases q:(cellsFrom (C'+1) sc.names []).lookup x with
  | none=>rw[q]at e;exact .inr (clb x c e)
  | some c'=>rw[q]at e;cases e;exact .inl (cf_mem _ _ (PySem.mem_of_lookup q)).2
 have stt:∀C':Addr,s2.heap.objs.size<=C'->∀{H':Hp}{pl:List (Addr×Obj)},(∀b∈fp,H' b=none)->(∀p∈pl,s2.heap.objs.size<=p.1)->∀b∈fp,FpOk (cxComp X own fr sc C' s2 H2 fp) pl H' b:=λC' hC' H' pl hn hp b hb=>by
  have I0:=f2 b hb
  refine ⟨hn b hb,Y0 (T0 (flt b hb) hC'),λhm=>?_,.inl hb,λx c e=>by
      rcases clb2 C' x c e with z|z
      · exact T1 (T0 (flt b hb) (Q0 hC' (v5 z)))
      · exact I0.2.2.2.2.1 x c z,λp hp'=>?_⟩
  ·rcases X0.mp (I2.stkSub b hm) with z|z
   ·exact I0.2.1 z
   ·exact I0.2.2.1 z
  ·have hp':p∈pl:=by
    have:p∈([]:List (Addr×Obj))++pl:=hp'
    simpa using this
   exact T1 (T0 (flt b hb) (hp p hp'))
 have loop:∀s₃:Shared,s₃={ s2 with heap:=h₁,toks:=s2.toks } ->
   codeAny (model X.prog X.w) X.A (.compLoop (.ListComp elt [⟨tg,iter,ifs,0⟩] sc pos) 0 (.ref it) (.ref s2.heap.objs.size) (compEnvC sc (cellsFrom (G.objs.size+1) sc.names (clOf X.env.cells sc.names [])) G.objs.size X.env))
    (RR (.ref s2.heap.objs.size) G.objs.size) s₃:=by
  rintro s₃ rfl
  have I3:=comp_start (own:=own) (fr:=fr) (tk:=s2.toks) S I2 f2 fo hCle (A0 _) hDC hns₁ old (λx c h=>(cok.empty x c h).1) cok.apart hacc (λv z=>by cases z)
  refine codeAny_compLoop_any (λn s'=>∃i H' ys us k τ,Inv (cxComp X own fr sc G.objs.size s2 H2 fp) [(s2.heap.objs.size,{ cls:=.type "list",data:=.seq us.toArray k })] τ H' s'/\tn i s'.heap/\(∀b∈fp,H' b=none)/\Vals ys us/\ys.length<=sizeLine/\W i n ys τ H') ?_ m0
   ⟨0,H2,[],[],0,_,I3,st0',λb hb=>(f2 b hb).1,.nil,m3 _,w0⟩
  rintro n s4 ⟨i,H4,ys,us,k,τ,I4,st4,fr4,rv4,hz4,w4⟩
  have hp4:∀p∈[(s2.heap.objs.size,({ cls:=.type "list",data:=.seq us.toArray k }:Obj))],s2.heap.objs.size<=p.1:=λp hp=>by
   rw[U0.mp hp]
   exact A0 _
  rcases turn i n ys τ H4 w4 with⟨stop,qn⟩|⟨go,hlt,N,hN,step⟩
  ·refine thn (T.done (cxComp X own fr sc G.objs.size s2 H2 fp) rfl rfl rfl hc i _ s4 _ H4 (λ_ _=>False) I4 (stt _ hCle fr4 hp4) st4 stop) λr s5 ⟨hr,I5⟩=>?_
   subst hr
   obtain⟨a1,a2,a3⟩:=comp_end I2 f2 hCle (A0 _) hDC I5 rfl rv4 hz4
   exact hRR _ _ _ s5 a1 (qn _ (I5.pin _ (Z0 _ (U0.mpr rfl))).2.1) a2 a3
  ·refine thn (T.item (cxComp X own fr sc G.objs.size s2 H2 fp) rfl rfl rfl hc i _ s4 _ H4 (λ_ _=>False) I4 (stt _ hCle fr4 hp4) st4 go) λr s5 ⟨u,hr,h5⟩=>?_
   subst hr
   refine thn h5 λ_ s6 ⟨x,H6,I6,r6,y6,st6,fr6⟩=>?_
   have I6':=I6.pinned (stt _ hCle fr6 hp4) (T.obj _ _ st6)
   refine thn (hg G.objs.size fp _ s6 _ H6 x u _ I6' r6 (step x H6 y6)) λ_ s7 ⟨σ7,H7,I7,q7⟩=>?_
   refine thn (hif G.objs.size fp _ s7 σ7 H7 _ I7 q7) λb s8 ⟨H8,I8,q8⟩=>?_
   have again:∀{s9:Shared}{H9:Hp}{ys':List V}{us':List Value}{k':Nat},Inv (cxComp X own fr sc G.objs.size s2 H2 fp) ([(s2.heap.objs.size,{ cls:=.type "list",data:=.seq us'.toArray k' })]++pinsAt fp s6.heap) σ7 H9 s9->Vals ys' us'->ys'.length<=sizeLine->N ys' σ7 H9 ->
     ∃m,m < n/\∃i H' ys us k τ,Inv (cxComp X own fr sc G.objs.size s2 H2 fp) [(s2.heap.objs.size,{ cls:=.type "list",data:=.seq us.toArray k })] τ H' s9/\tn i s9.heap/\(∀b∈fp,H' b=none)/\Vals ys us/\ys.length<=sizeLine/\W i m ys τ H':=λ{s9 H9 ys' us' k'} I9 rv9 hz9 n9=>by
    obtain⟨m',hm,w9⟩:=hN ys' σ7 H9 n9
    refine ⟨m',hm,i+1,H9,ys',us',k',σ7,I9.unpinned,T.keep _ _ _ st6 λb hb o e=>(I9.pin (b,o) (Z0 _ (Z0 _ (mem_pinsAt hb e)))).1,λb hb=>?_,rv9,hz9,w9⟩
    obtain⟨o,e,d⟩:=T.obj _ _ st6 b hb
    exact (I9.pin (b,o) (Z0 _ (Z0 _ (mem_pinsAt hb e)))).2.1
   cases b with
   | false =>
    rw[if_neg G1]at q8 ⊢
    exact again I8 rv4 hz4 q8
   | true =>
    rw[if_pos rfl]at q8 ⊢
    refine thn (he G.objs.size fp _ s8 σ7 H8 _ I8 q8) λy s9 ⟨yv,H9,I9,r9,n9⟩=>?_
    refine comp_grow (X:=cxComp X own fr sc G.objs.size s2 H2 fp) I9 (A0 _) (λx c e z=>?_) (λp hp z=>?_) (by rw[<- rv4.length];exact hlt) λk' s10 I10=>?_
    ·rcases clb2 _ x c e with y|y
     ·rw[z]at y
      exact absurd (T0 (Nat.lt_succ_of_le hCle) y) (Z2 _)
     ·obtain⟨v,q⟩:=I2.cell x c y
      exact absurd (T0 q.lt (by rw[z];exact A0 _)) (Z2 _)
    ·have hp:p∈([]:List (Addr×Obj))++pinsAt fp s6.heap:=hp
     rw[j7]at hp
     have:=flt _ (of_pinsAt hp).1
     rw[z]at this
     exact absurd this (Z2 _)
    ·exact again I10 (rv4.append (.cons r9 .nil)) (by rw[B0,O2];omega) n9
 exact codeAny_compStart_list (loop _ rfl) (T.self _ 0 _ _ _ st0' (loop _ rfl))
theorem pe_comp{X:Cx}{tg iter elt:Expr}{ifs:List Expr}{sc:Scope}{pos:Pos}{own:List Str}{fr:List Nat}{wi:TI}{g:TG}{tc:TT}{te:TE}(hc:X.calm=true)(S:CompSc X own fr sc)(hi:PI X tg iter wi)
  (hg:∀C s H ex,PG (cxComp X own fr sc C s H ex) tg g) (hif:∀C s H ex,PIf (cxComp X own fr sc C s H ex) ifs tc) (he:∀C s H ex,PE (cxComp X own fr sc C s H ex) elt te)
  (hs:∀x,foldedSetIterable iter X.env x=pure x:=by intro _;rfl):PE X (.ListComp elt [⟨tg,iter,ifs,0⟩] sc pos) (tComp wi own fr g tc te):=by
 intro pins s σ H Q I h
 rw[eval_ListComp]
 refine wpAny_comprehension_free (use:=none) rfl hs (closure_of λy hy e=>I.ok.has y.1 (S.free y hy e)) S.kind S.loc (thn (hi pins s σ H _ I h) λv s1 h1=>thn h1 λitv s2 h2=>?_)
 obtain⟨it,fp,tn,J,H2,e,I2,T,st2,f2,W,⟨m0,w0⟩,turn⟩:=h2
 subst e
 refine comp_block (Q:=Q) (RR:=λacc C=>compPost (model X.prog X.w) X.A X.xe none (EP X pins σ Q) acc C) hc S I2 T st2 f2 (λC ex=>hg C s2 H2 ex) (λC ex=>hif C s2 H2 ex) (λC ex=>he C s2 H2 ex) W m0 w0 turn ?_
 intro D C H' s' I' q ⟨m,hm⟩ fC
 refine ⟨m,hm,λh' sb=>⟨.ref D,H',?_,rfl,q⟩⟩
 obtain⟨f0,f1,f2,f3,f4,f5⟩:=fC
 exact I'.turned (t':=s'.toks) (λb o hb e=>(sb.2 b hb).trans e) f0 f1 f3 f4 f5
inductive Kd where|l|t
noncomputable def ItAt(k:Kd)(h:Heap)(it a:Addr)(i:Nat):Prop:=match k with | .l=>h.IsListIter it a i | .t=>h.IsTupleIter it a i
noncomputable def SqAt(k:Kd)(h:Heap)(a:Addr)(xs:Array Value):Prop:=match k with | .l=>h.IsList a xs | .t=>h.IsTuple a xs
noncomputable def itObj(k:Kd)(a:Addr):Obj:=match k with | .l=>{ cls:=.type "list_iterator",data:=.fields #[.ref a,.int 0 0] } | .t=>{ cls:=.type "tuple_iterator",data:=.fields #[.ref a,.int 0 0] }
theorem ItAt.at{k:Kd}{h h':Heap}{it a:Addr}{i:Nat}(x:ItAt k h it a i)(f:∀o,h.get? it=some o->h'.get? it=some o):ItAt k h' it a i:=by
 cases k with
 | l=>exact Heap.IsListIter.at x f
 | t=>exact Heap.IsTupleIter.at x f
theorem SqAt.at{k:Kd}{h h':Heap}{a:Addr}{xs:Array Value}(x:SqAt k h a xs)(f:∀o,h.get? a=some o->h'.get? a=some o):SqAt k h' a xs:=by
 cases k with
 | l=>exact Heap.IsList.at x f
 | t=>obtain⟨o,e,r⟩:=x;exact ⟨o,f o e,r⟩
theorem ItAt.obj{k:Kd}{h:Heap}{it a:Addr}{i:Nat}(x:ItAt k h it a i):∃o,h.get? it=some o/\∀v,o.data≠.cell v:=by
 cases k with
 | l=>obtain⟨o,e,c,d⟩:=x;exact ⟨o,e,λv z=>by rw[d]at z;cases z⟩
 | t=>obtain⟨o,e,c,d⟩:=x;exact ⟨o,e,λv z=>by rw[d]at z;cases z⟩
theorem ItAt.new(k:Kd){h:Heap}{it a:Addr}(e:h.get? it=some (itObj k a)):ItAt k h it a 0:=by
 cases k with
 | l=>exact ⟨_,e,rfl,rfl⟩
 | t=>exact ⟨_,e,rfl,rfl⟩
section
variable {prog:Program}{w:World}{A:Around}{E:Value->Shared->Prop}{s:Shared}
theorem iter_at{k:Kd}{a:Addr}{xs:Array Value}{Q:Value->Shared->Prop}(hl:SqAt k s.heap a xs)(h:Q (.ref s.heap.objs.size) { s with heap:=s.heap.push (itObj k a) }):wpAny (model prog w) A (pyIter (.ref a)) Q E s:=by
 cases k with
 | l=>exact wpAny_pyIter_list hl h
 | t=>exact wpAny_pyIter_tuple hl h
theorem nextOf_tuple_item{it t:Addr}{i:Nat}{items}{x:Value}{Q:Value->Shared->Prop}(hit:s.heap.IsTupleIter it t i)(ht:s.heap.IsTuple t items)(hx:items[i]?=some x)
  (hQ:∀h',h'.IsTupleIter it t (i+1)->Y2 it s.heap h'->Q x { s with heap:=h' }):wpAny (model prog w) A (K2 (.ref it)) Q E s:=by
 obtain⟨o,ho,hc,hd⟩:=id hit
 obtain⟨ol,hol,_,nl,hdl⟩:=ht
 unfold K2
 refine wpAny_bind (wpAny_callSpecial?_slot (name:=Str.ofString "__next__") hit.typeIs F.slot_tuple_iterator_next
   (wpAny_call_entry F.slot_tuple_iterator_next hit.typeIs F.entry_tuple_iterator_next ?_ (F.args_tuple_iterator_next_1 _)))
 show wpAny _ _ (field (.ref it) 0 >>= _) _ _ s
 refine wpAny_bind (wpAny_field ho hd (x:=.ref t) rfl ?_)
 show wpAny _ _ (if (X1 t==Q3)=true then _ else _) _ _ s
 rw[if_neg (show ¬((X1 t==Q3)=true) from G1)]
 show wpAny _ _ (field (.ref it) 1 >>= _) _ _ s
 refine wpAny_bind (wpAny_field ho hd (x:=.int i 0) rfl ?_)
 show wpAny _ _ (seqItems? (.ref t) >>= _) _ _ s
 refine wpAny_bind (wpAny_seqItems hol hdl ?_)
 simp only[Y3,hx]
 refine wpAny_bind (wpAny_setField ho hd (by simp) (wpAny_pure ⟨x,rfl,wpAny_pure (hQ _ ?_ (G4 ..))⟩))
 exact ⟨_,u3 _ ho (w8 (j6 hd _)),(Obj.cls_mapFields ..).trans hc,by
   rw[j6 hd];simp[rawInt]⟩
theorem nextOf_tuple_end{it l:Addr}{i:Nat}{items}{Q:Value->Shared->Prop}(hh:A.handled=none)
  (hit:s.heap.IsTupleIter it l i) (hl:s.heap.IsTuple l items) (hx:items[i]?=none)
  (hE:∀h' e,g7 it s.heap h'->(∃o,h'.get? e=some o/\o.cls=.type "StopIteration")->E (.ref e) { s with heap:=h' }) :
  wpAny (model prog w) A (K2 (.ref it)) Q E s:=by
 obtain⟨o,ho,hc,hd⟩:=id hit
 obtain⟨ol,hol,_,nl,hdl⟩:=hl
 unfold K2
 refine wpAny_bind (wpAny_callSpecial?_slot (name:=Str.ofString "__next__") hit.typeIs F.slot_tuple_iterator_next
   (wpAny_call_entry F.slot_tuple_iterator_next hit.typeIs F.entry_tuple_iterator_next ?_ (F.args_tuple_iterator_next_1 _)))
 show wpAny _ _ (field (.ref it) 0 >>= _) _ _ s
 refine wpAny_bind (wpAny_field ho hd (x:=.ref l) rfl ?_)
 show wpAny _ _ (if (X1 l==Q3)=true then _ else _) _ _ s
 rw[if_neg (show ¬((X1 l==Q3)=true) from G1)]
 show wpAny _ _ (field (.ref it) 1 >>= _) _ _ s
 refine wpAny_bind (wpAny_field ho hd (x:=.int i 0) rfl ?_)
 show wpAny _ _ (seqItems? (.ref l) >>= _) _ _ s
 refine wpAny_bind (wpAny_seqItems hol hdl ?_)
 simp only[Y3,hx]
 refine wpAny_bind (wpAny_rule (wpAny_bind (wpAny_setField ho hd (by simp) ?_)))
 show wpAny _ _ (newExc (.type "StopIteration") [] >>= _) _ _ _
 refine wpAny_bind ?_
 simp only[newExc,newTuple]
 refine wpAny_bind (wpAny_newObj_type ?_ (by size_fits))
 refine wpAny_bind (m:=firstArgMember _ _) (wpAny_of_eq (a:=Q3) (by first|rfl|(simp only[firstArgMember];rfl)) ?_)
 refine wpAny_newObj_type ?_ (by size_fits)
 simp only[raiseNew]
 refine wpAny_bind (wpAny_handled ?_)
 first|rw[show A.in1.handled=none from hh]|rw[hh]
 refine wpAny_bind (wpAny_pure (wpAny_throw ?_))
 exact hE _ _ (((G4 ..).extBut.push _).push _) ⟨_,M0 _ rfl,rfl⟩
theorem nextOf_item{k:Kd}{it a:Addr}{i:Nat}{xs:Array Value}{x:Value}{Q:Value->Shared->Prop}(hit:ItAt k s.heap it a i)(hl:SqAt k s.heap a xs)(hx:xs[i]?=some x)
  (hQ:∀h',ItAt k h' it a (i+1)->Y2 it s.heap h'->Q x { s with heap:=h' }):wpAny (model prog w) A (K2 (.ref it)) Q E s:=by
 cases k with
 | l=>exact wpAny_nextOf_list_item hit hl hx hQ
 | t=>exact nextOf_tuple_item hit hl hx hQ
theorem nextOf_end{k:Kd}{it a:Addr}{i:Nat}{xs:Array Value}{Q:Value->Shared->Prop}(hh:A.handled=none)(hit:ItAt k s.heap it a i)(hl:SqAt k s.heap a xs)(hx:xs[i]?=none)
  (hE:∀h' e,g7 it s.heap h'->(∃o,h'.get? e=some o/\o.cls=.type "StopIteration")->E (.ref e) { s with heap:=h' }):wpAny (model prog w) A (K2 (.ref it)) Q E s:=by
 cases k with
 | l=>exact wpAny_nextOf_list_end hh hit hl hx hE
 | t=>exact nextOf_tuple_end hh hit hl hx hE
end
noncomputable abbrev IsTup2(h:Heap)(T:Addr)(a1 a2:Value):Prop:=h.get? T=some { cls:=.type "tuple",data:=.seq #[a1,a2] }
structure ZAp2(z TI TO i1 i2 l1 l2:Addr):Prop where
 TIz:TI≠z
 TOz:TO≠z
 i1z:i1≠z
 i2z:i2≠z
 TOTI:TO≠TI
 i1TI:i1≠TI
 i2TI:i2≠TI
 i1TO:i1≠TO
 i2TO:i2≠TO
 i2i1:i2≠i1
 l1z:l1≠z
 l1TO:l1≠TO
 l1i1:l1≠i1
 l1i2:l1≠i2
 l2z:l2≠z
 l2TO:l2≠TO
 l2i1:l2≠i1
 l2i2:l2≠i2
theorem zap2(n l1 l2:Nat)(h1:l1 < n)(h2:l2 < n):ZAp2 (n+4) (n+2) (n+3) n (n+1) l1 l2:=by constructor<;>(show ¬(@Eq Nat _ _))<;>omega
section
variable {prog:Program}{w:World}{A:Around}{E:Value->Shared->Prop}{s:Shared}
theorem upSeq2{T:Addr}{a1 a2 x:Value}{k:Nat}{Q:Unit->Shared->Prop}(hT:IsTup2 s.heap T a1 a2)
  (h:∀h',h'.get? T=some { cls:=.type "tuple",data:=.seq ((#[a1,a2]:Array Value).setIfInBounds k x) }->Y2 T s.heap h'->Q () { s with heap:=h' }) :
  wpAny (model prog w) A (updateSeq T (·.setIfInBounds k x)) Q E s:=by
 refine wpAny_updateSeq hT rfl (h _ ?_ (G4 ..))
 rw[u3 _ hT rfl]
 simp[U1]
theorem zipn_item2{z TI TO i1 i2 l1 l2:Addr}{k:Nat}{k1:Kd}{k2:Kd}{xs1 xs2:Array Value}{a1 a2:Value}{x1 x2:Value}{Q:Value->Shared->Prop}(D:ZAp2 z TI TO i1 i2 l1 l2)
  (hz:IsZip s.heap z TI TO .none) (hTI:IsTup2 s.heap TI (.ref i1) (.ref i2)) (hTO:IsTup2 s.heap TO a1 a2)
  (h1:ItAt k1 s.heap i1 l1 k) (h2:ItAt k2 s.heap i2 l2 k) (hl1:SqAt k1 s.heap l1 xs1) (hl2:SqAt k2 s.heap l2 xs2) (hx1:xs1[k]?=some x1) (hx2:xs2[k]?=some x2)
  (hQ:∀h',IsZip h' z TI TO (rawInt s.heap.objs.size)->IsTup2 h' TO x1 x2->ItAt k1 h' i1 l1 (k+1)->ItAt k2 h' i2 l2 (k+1)->IsTup2 h' s.heap.objs.size x1 x2->h'.objs.size=s.heap.objs.size+1 ->
    (∀c o,c≠z->c≠TO->c≠i1->c≠i2->s.heap.get? c=some o->h'.get? c=some o)->Q (.ref s.heap.objs.size) { s with heap:=h' }) :
  wpAny (model prog w) A (Builtin.«zip.__next__» ⟨[.ref z],[]⟩) (λfin s'=>∃v,fin=.done (.ret v)/\Q v s') E s:=by
 show wpAny _ _ (field (.ref z) 2 >>= _) _ _ _
 refine wpAny_bind (wpAny_field hz rfl (x:=.bool false) rfl ?_)
 show wpAny _ _ (field (.ref z) 3 >>= _) _ _ _
 refine wpAny_bind (wpAny_field hz rfl (x:=.ref TI) rfl ?_)
 refine wpAny_bind (wpAny_seqItems hTI rfl ?_)
 show wpAny _ _ (Z3 (.ref z) >>= _) _ _ _
 refine wpAny_bind ?_
 unfold Z3
 refine wpAny_bind (wpAny_field hz rfl (x:=.none) rfl (wpAny_pure ?_))
 simp only[if_true]
 refine wpAny_bind (wpAny_rule ?_)
 refine wpAny_bind (wpAny_field hz rfl (x:=.ref TO) rfl ?_)
 refine wpAny_bind (wpAny_setField_rec hz (by simp) λh₁ hz₁ hs₁=>?_)
 replace hz₁:IsZip h₁ z TI TO .ellipsis:=hz₁
 refine wpAny_bind ?_
 simp only[U6,List.zipIdx_nil,p8,F8]
 have up₁:∀c o,c≠z->s.heap.get? c=some o->h₁.get? c=some o:=λc o c1 e=>hs₁.extBut _ _ c1 e
 refine wpAny_bind (wpAny_bind (wpAny_onRaise ?_))
 show wpAny _ _ (K2 (.ref i1) >>= _) _ _ _
 refine wpAny_bind (nextOf_item (h1.at λo e=>hs₁.extBut _ o D.i1z e) (hl1.at λo e=>hs₁.extBut _ o D.l1z e) hx1 λha1 hi1 hsa1=>wpAny_pure ?_)
 have hTOa1:IsTup2 ha1 TO a1 a2:=hsa1.extBut _ _ D.i1TO.symm (hs₁.extBut _ _ D.TOz hTO)
 refine wpAny_bind (wpAny_seqItems hTOa1 rfl ?_)
 refine wpAny_bind (upSeq2 hTOa1 λhb1 hTOb1 hsb1=>?_)
 replace hTOb1:IsTup2 hb1 TO x1 a2:=hTOb1
 refine wpAny_bind (wpAny_letGo (wpAny_pure ?_))
 refine wpAny_bind (wpAny_bind (wpAny_onRaise ?_))
 show wpAny _ _ (K2 (.ref i2) >>= _) _ _ _
 refine wpAny_bind (nextOf_item (((h2.at λo e=>hs₁.extBut _ o D.i2z e).at λo e=>hsa1.extBut _ o D.i2i1 e).at λo e=>hsb1.extBut _ o D.i2TO e) (((hl2.at λo e=>hs₁.extBut _ o D.l2z e).at λo e=>hsa1.extBut _ o D.l2i1 e).at λo e=>hsb1.extBut _ o D.l2TO e) hx2 λha2 hi2 hsa2=>wpAny_pure ?_)
 have hTOa2:IsTup2 ha2 TO x1 a2:=hsa2.extBut _ _ D.i2TO.symm hTOb1
 refine wpAny_bind (wpAny_seqItems hTOa2 rfl ?_)
 refine wpAny_bind (upSeq2 hTOa2 λhb2 hTOb2 hsb2=>?_)
 replace hTOb2:IsTup2 hb2 TO x1 x2:=hTOb2
 refine wpAny_bind (wpAny_letGo (wpAny_pure (wpAny_pure ?_)))
 refine wpAny_bind (wpAny_seqItems hTOb2 rfl ?_)
 refine wpAny_bind (wpAny_newTuple ?_)
 have hsz:hb2.objs.size=s.heap.objs.size:=by rw[hsb2.1,hsa2.1,hsb1.1,hsa1.1,hs₁.1]
 have hzG:IsZip hb2 z TI TO .ellipsis:=(hsb2.extBut _ _ D.TOz.symm (hsa2.extBut _ _ D.i2z.symm (hsb1.extBut _ _ D.TOz.symm (hsa1.extBut _ _ D.i1z.symm hz₁))))
 have hkG:∀c o,c≠z->c≠TO->c≠i1->c≠i2->s.heap.get? c=some o->hb2.get? c=some o:=λc o c1 c2 d1 d2 e=>(hsb2.extBut _ _ c2 (hsa2.extBut _ _ d2 (hsb1.extBut _ _ c2 (hsa1.extBut _ _ d1 (hs₁.extBut _ _ c1 e)))))
 have hiG1:ItAt k1 hb2 i1 l1 (k+1):=(((hi1.at λo e=>hsb1.extBut _ o D.i1TO e).at λo e=>hsa2.extBut _ o D.i2i1.symm e).at λo e=>hsb2.extBut _ o D.i1TO e)
 have hiG2:ItAt k2 hb2 i2 l2 (k+1):=(hi2.at λo e=>hsb2.extBut _ o D.i2TO e)
 have hzlt:z < hb2.objs.size:=J0 hzG
 show wpAny _ _ (Z5 (.ref z) (.ref hb2.objs.size) >>= _) _ _ _
 refine wpAny_bind ?_
 unfold Z5
 have hz₆:IsZip (hb2.push { cls:=.type "tuple",data:=.seq #[x1,x2] }) z TI TO .ellipsis:=i0 _ hzG
 refine wpAny_bind (wpAny_setField_rec hz₆ (by simp) λh₇ hz₇ hs₇=>?_)
 replace hz₇:IsZip h₇ z TI TO (rawInt hb2.objs.size):=hz₇
 refine wpAny_setField_rec hz₇ (by simp) λh₈ hz₈ hs₈=>?_
 replace hz₈:IsZip h₈ z TI TO (rawInt hb2.objs.size):=hz₈
 have up:∀c o,c≠z->hb2.get? c=some o->h₈.get? c=some o:=λc o c1 e=>hs₈.extBut _ _ c1 (hs₇.extBut _ _ c1 (i0 _ e))
 have hT₈:IsTup2 h₈ hb2.objs.size x1 x2:=hs₈.extBut _ _ (T1 hzlt) (hs₇.extBut _ _ (T1 hzlt) (M0 _ rfl))
 have hz8:h₈.objs.size=hb2.objs.size+1:=by rw[hs₈.1,hs₇.1,M3]
 rw[hsz]at hz₈ hT₈ hz8
 refine wpAny_pure ⟨_,rfl,?_⟩
 show Q (.ref hb2.objs.size) _
 rw[hsz]
 exact hQ h₈ hz₈ (up _ _ D.TOz hTOb2) (hiG1.at λo e=>up _ o D.i1z e) (hiG2.at λo e=>up _ o D.i2z e) hT₈ hz8 λc o c1 c2 d1 d2 e=>up c o c1 (hkG c o c1 c2 d1 d2 e)
theorem zipn_end2{z TI TO i1 i2 l1 l2:Addr}{k:Nat}{k1:Kd}{k2:Kd}{xs1 xs2:Array Value}{a1 a2:Value}{Q:Fin->Shared->Prop}(hh:A.handled=none)(D:ZAp2 z TI TO i1 i2 l1 l2)
  (hz:IsZip s.heap z TI TO .none) (hTI:IsTup2 s.heap TI (.ref i1) (.ref i2)) (hTO:IsTup2 s.heap TO a1 a2)
  (h1:ItAt k1 s.heap i1 l1 k) (h2:ItAt k2 s.heap i2 l2 k) (hl1:SqAt k1 s.heap l1 xs1) (hl2:SqAt k2 s.heap l2 xs2) (hend:xs1[k]?=none\/xs2[k]?=none)
  (hE:∀h' e,(∀c o,c≠z->c≠TO->c≠i1->c≠i2->s.heap.get? c=some o->h'.get? c=some o)->(∃o,h'.get? e=some o/\o.cls=.type "StopIteration")->E (.ref e) { s with heap:=h' }) :
  wpAny (model prog w) A (Builtin.«zip.__next__» ⟨[.ref z],[]⟩) Q E s:=by
 show wpAny _ _ (field (.ref z) 2 >>= _) _ _ _
 refine wpAny_bind (wpAny_field hz rfl (x:=.bool false) rfl ?_)
 show wpAny _ _ (field (.ref z) 3 >>= _) _ _ _
 refine wpAny_bind (wpAny_field hz rfl (x:=.ref TI) rfl ?_)
 refine wpAny_bind (wpAny_seqItems hTI rfl ?_)
 show wpAny _ _ (Z3 (.ref z) >>= _) _ _ _
 refine wpAny_bind ?_
 unfold Z3
 refine wpAny_bind (wpAny_field hz rfl (x:=.none) rfl (wpAny_pure ?_))
 simp only[if_true]
 refine wpAny_bind (wpAny_rule ?_)
 refine wpAny_bind (wpAny_field hz rfl (x:=.ref TO) rfl ?_)
 refine wpAny_bind (wpAny_setField_rec hz (by simp) λh₁ hz₁ hs₁=>?_)
 replace hz₁:IsZip h₁ z TI TO .ellipsis:=hz₁
 refine wpAny_bind ?_
 simp only[U6,List.zipIdx_nil,p8,F8]
 refine wpAny_bind (wpAny_bind (wpAny_onRaise ?_))
 show wpAny _ _ (K2 (.ref i1) >>= _) _ _ _
 cases hx1:xs1[k]? with
 | none =>
  refine wpAny_bind (nextOf_end hh (h1.at λo e=>hs₁.extBut _ o D.i1z e) (hl1.at λo e=>hs₁.extBut _ o D.l1z e) hx1 λhq e hsq he=>?_)
  obtain⟨oe,hoe,hce⟩:=he
  have hzq:IsZip hq z TI TO .ellipsis:=hsq _ _ D.i1z.symm hz₁
  have hez:e≠z:=λx=>by subst x;rw[hzq]at hoe;cases hoe;simp at hce
  refine wpAny_setField_rec hzq (by simp) λh₉ _ hs₉=>hE h₉ e (λc o c1 c2 d1 d2 x=>hs₉.extBut _ _ c1 (hsq _ _ d1 (hs₁.extBut _ _ c1 x))) ⟨oe,hs₉.extBut _ _ hez hoe,hce⟩
 | some x1 =>
  refine wpAny_bind (nextOf_item (h1.at λo e=>hs₁.extBut _ o D.i1z e) (hl1.at λo e=>hs₁.extBut _ o D.l1z e) hx1 λha1 hi1 hsa1=>wpAny_pure ?_)
  have hTOa1:IsTup2 ha1 TO a1 a2:=hsa1.extBut _ _ D.i1TO.symm (hs₁.extBut _ _ D.TOz hTO)
  refine wpAny_bind (wpAny_seqItems hTOa1 rfl ?_)
  refine wpAny_bind (upSeq2 hTOa1 λhb1 hTOb1 hsb1=>?_)
  replace hTOb1:IsTup2 hb1 TO x1 a2:=hTOb1
  refine wpAny_bind (wpAny_letGo (wpAny_pure ?_))
  refine wpAny_bind (wpAny_bind (wpAny_onRaise ?_))
  show wpAny _ _ (K2 (.ref i2) >>= _) _ _ _
  have hx2:xs2[k]?=none:=by
   rcases hend with h|h
   ·rw[hx1]at h;cases h
   ·exact h
  refine wpAny_bind (nextOf_end hh (((h2.at λo e=>hs₁.extBut _ o D.i2z e).at λo e=>hsa1.extBut _ o D.i2i1 e).at λo e=>hsb1.extBut _ o D.i2TO e) (((hl2.at λo e=>hs₁.extBut _ o D.l2z e).at λo e=>hsa1.extBut _ o D.l2i1 e).at λo e=>hsb1.extBut _ o D.l2TO e) hx2 λhq e hsq he=>?_)
  obtain⟨oe,hoe,hce⟩:=he
  have hzq:IsZip hq z TI TO .ellipsis:=hsq _ _ D.i2z.symm (hsb1.extBut _ _ D.TOz.symm (hsa1.extBut _ _ D.i1z.symm hz₁))
  have hez:e≠z:=λx=>by subst x;rw[hzq]at hoe;cases hoe;simp at hce
  refine wpAny_setField_rec hzq (by simp) λh₉ _ hs₉=>hE h₉ e (λc o c1 c2 d1 d2 x=>hs₉.extBut _ _ c1 (hsq _ _ d2 (hsb1.extBut _ _ c2 (hsa1.extBut _ _ d1 (hs₁.extBut _ _ c1 x))))) ⟨oe,hs₉.extBut _ _ hez hoe,hce⟩
theorem next_zip_item2{z TI TO i1 i2 l1 l2:Addr}{k:Nat}{k1:Kd}{k2:Kd}{xs1 xs2:Array Value}{a1 a2:Value}{x1 x2:Value}{Q:Option Value->Shared->Prop}(D:ZAp2 z TI TO i1 i2 l1 l2)
  (hz:IsZip s.heap z TI TO .none) (hTI:IsTup2 s.heap TI (.ref i1) (.ref i2)) (hTO:IsTup2 s.heap TO a1 a2)
  (h1:ItAt k1 s.heap i1 l1 k) (h2:ItAt k2 s.heap i2 l2 k) (hl1:SqAt k1 s.heap l1 xs1) (hl2:SqAt k2 s.heap l2 xs2) (hx1:xs1[k]?=some x1) (hx2:xs2[k]?=some x2)
  (hQ:∀h',IsZip h' z TI TO (rawInt s.heap.objs.size)->IsTup2 h' TO x1 x2->ItAt k1 h' i1 l1 (k+1)->ItAt k2 h' i2 l2 (k+1)->IsTup2 h' s.heap.objs.size x1 x2->h'.objs.size=s.heap.objs.size+1 ->
    (∀c o,c≠z->c≠TO->c≠i1->c≠i2->s.heap.get? c=some o->h'.get? c=some o)->Q (some (.ref s.heap.objs.size)) { s with heap:=h' }) :
  wpAny (model prog w) A (pyNext (.ref z)) Q E s:=by
 have hT:s.TypeIs (.ref z) "zip":=⟨_,hz,rfl⟩
 unfold pyNext
 exact wpAny_bind (wpAny_attempt (wpAny_callSpecial?_slot (name:=Str.ofString "__next__") hT F.slot_zip_next
   (wpAny_call_entry F.slot_zip_next hT F.entry_zip_next
     (zipn_item2 D hz hTI hTO h1 h2 hl1 hl2 hx1 hx2 λh' a1 a2 b1 b2 a5 a6 a7=>wpAny_pure (hQ h' a1 a2 b1 b2 a5 a6 a7)) (F.args_zip_next_1 _))))
theorem next_zip_end2{z TI TO i1 i2 l1 l2:Addr}{k:Nat}{k1:Kd}{k2:Kd}{xs1 xs2:Array Value}{a1 a2:Value}{Q:Option Value->Shared->Prop}(hh:A.handled=none)(D:ZAp2 z TI TO i1 i2 l1 l2)
  (hz:IsZip s.heap z TI TO .none) (hTI:IsTup2 s.heap TI (.ref i1) (.ref i2)) (hTO:IsTup2 s.heap TO a1 a2)
  (h1:ItAt k1 s.heap i1 l1 k) (h2:ItAt k2 s.heap i2 l2 k) (hl1:SqAt k1 s.heap l1 xs1) (hl2:SqAt k2 s.heap l2 xs2) (hend:xs1[k]?=none\/xs2[k]?=none)
  (hQ:∀h',(∀c o,c≠z->c≠TO->c≠i1->c≠i2->s.heap.get? c=some o->h'.get? c=some o)->Q none { s with heap:=h' }):wpAny (model prog w) A (pyNext (.ref z)) Q E s:=by
 have hT:s.TypeIs (.ref z) "zip":=⟨_,hz,rfl⟩
 unfold pyNext
 refine wpAny_bind (wpAny_attempt (wpAny_callSpecial?_slot (name:=Str.ofString "__next__") hT F.slot_zip_next
   (wpAny_call_entry F.slot_zip_next hT F.entry_zip_next (zipn_end2 hh D hz hTI hTO h1 h2 hl1 hl2 hend λh' e hk he=>?_) (F.args_zip_next_1 _))))
 obtain⟨o,ho,hc⟩:=he
 refine wpAny_bind (wpAny_isInstance (T:="StopIteration") (b:=true) ⟨o,ho,hc⟩ isSubtype_stop ?_)
 exact wpAny_pure (hQ _ hk)
end
noncomputable abbrev zh2I(h:Heap)(k1:Kd)(k2:Kd)(l1 l2:Addr):Heap:=((h.push (itObj k1 l1)).push (itObj k2 l2))
noncomputable abbrev zh2T(h:Heap)(k1:Kd)(k2:Kd)(l1 l2:Addr):Heap:=(zh2I h k1 k2 l1 l2).push { cls:=.type "tuple",data:=.seq #[.ref h.objs.size,.ref (h.push (itObj k1 l1)).objs.size] }
noncomputable abbrev zh2O(h:Heap)(k1:Kd)(k2:Kd)(l1 l2:Addr):Heap:=(zh2T h k1 k2 l1 l2).push { cls:=.type "tuple",data:=.seq #[.none,.none] }
noncomputable abbrev zh2Z(h:Heap)(k1:Kd)(k2:Kd)(l1 l2:Addr):Heap:=(zh2O h k1 k2 l1 l2).push { cls:=.type "zip",data:=.fields #[.none,.bool false,.bool false,.ref (zh2I h k1 k2 l1 l2).objs.size,.ref (zh2T h k1 k2 l1 l2).objs.size] }
theorem zip_new2(k1:Kd)(k2:Kd)(l1 l2:Addr)(xs1 xs2:Array Value) :
  Meets (Builtin.«zip.__new__» ⟨[.type "zip",.ref l1,.ref l2],[]⟩) (λ_ R s=>SqAt k1 s.heap l1 xs1/\SqAt k2 s.heap l2 xs2 /\
    R (.ok (.ret (.ref (zh2O s.heap k1 k2 l1 l2).objs.size))) { s with heap:=zh2Z s.heap k1 k2 l1 l2 }) :=
 .of_wp λprog w A R s h=>by
  obtain⟨hp,g,d,tk,os⟩:=s;obtain⟨hl1,hl2,h⟩:=h
  have hsub:=sub_zip
  have hL1:SqAt k1 (Shared.heap ⟨hp,g,d,tk,os⟩) l1 xs1:=hl1
  have hL2:SqAt k2 (Shared.heap ⟨(hp.push (itObj k1 l1)),g,d,tk,os⟩) l2 xs2:=(SqAt.at hl2 λo e=>i0 _ e)
  wp_walk using iter_at hL1,iter_at hL2
  exact ⟨_,rfl,h⟩
structure ZAp3(z TI TO i1 i2 i3 l1 l2 l3:Addr):Prop where
 TIz:TI≠z
 TOz:TO≠z
 i1z:i1≠z
 i2z:i2≠z
 i3z:i3≠z
 TOTI:TO≠TI
 i1TI:i1≠TI
 i2TI:i2≠TI
 i3TI:i3≠TI
 i1TO:i1≠TO
 i2TO:i2≠TO
 i3TO:i3≠TO
 i2i1:i2≠i1
 i3i1:i3≠i1
 i3i2:i3≠i2
 l1z:l1≠z
 l1TO:l1≠TO
 l1i1:l1≠i1
 l1i2:l1≠i2
 l1i3:l1≠i3
 l2z:l2≠z
 l2TO:l2≠TO
 l2i1:l2≠i1
 l2i2:l2≠i2
 l2i3:l2≠i3
 l3z:l3≠z
 l3TO:l3≠TO
 l3i1:l3≠i1
 l3i2:l3≠i2
 l3i3:l3≠i3
section
variable {prog:Program}{w:World}{A:Around}{E:Value->Shared->Prop}{s:Shared}
end
inductive Ki where|non|bl|int|str|lst|tup|dct
 deriving DecidableEq
noncomputable def Ki.nm:Ki->String
 | .non=>"NoneType" | .bl=>"bool" | .int=>"int" | .str=>"str" | .lst=>"list" | .tup=>"tuple" | .dct=>"dict"
noncomputable def KiOf(K:n0)(H:Hp):V->Ki->Prop
 | .non,k=>k=.non
 | .bl _,k=>k=.bl
 | .int _,k=>k=.int
 | .str _,k=>k=.str
 | .ref a,k=>(k=.lst/\∃xs,SqL K H a xs)\/(k=.tup/\∃xs,SqT K H a xs)\/(k=.dct/\((∃kvs,H a=some (.dK kvs))\/∃kvs,H a=some (.dT kvs)))
 | _,_=>False
noncomputable def Ki.sub:Ki->Ki->Bool
 | .bl,.int=>true
 | a,b=>decide (a=b)
theorem KiOf.typeIs{X:Cx}{pins:List (Addr×Obj)}{σ:St}{H:Hp}{s:Shared}{x:V}{u:Value}{k:Ki}(I:Inv X pins σ H s)(h:KiOf X.K H x k)(r:RelV x u):s.TypeIs u k.nm:=by
 cases x with
 | non=>cases h;cases r;rfl
 | bl b=>cases h;cases r;rfl
 | int i=>cases h;obtain⟨t,rfl⟩:=r;rfl
 | str i=>cases h;obtain⟨t,rfl⟩:=r;rfl
 | ref a =>
  cases r
  rcases h with⟨rfl,xs,hq⟩|⟨rfl,xs,hq⟩|⟨rfl,⟨kvs,hq⟩|⟨kvs,hq⟩⟩
  ·obtain⟨its,_,⟨o,n,e,c,_⟩,_⟩:=I.list hq
   exact ⟨o,e,c⟩
  ·obtain⟨its,_,⟨o,e,c,_⟩,_⟩:=I.tuple hq
   exact ⟨o,e,c⟩
  ·obtain⟨_,_,_,_,o,es,ep,e,c,_⟩:=I.hok a _ hq
   exact ⟨o,e,c.1⟩
  ·obtain⟨_,_,_,_,o,es,ep,e,c,_⟩:=I.hok a _ hq
   exact ⟨o,e,c.1⟩
 | byt _=>cases h
 | flt _=>cases h
 | ty _=>cases h
theorem ki_meta(T:Ki):typeOf (.type T.nm)=pure (.type "type"):=by
 cases T
 ·exact F.isi_meta_NoneType
 ·exact F.isi_meta_bool
 ·exact F.isi_meta_int
 ·exact F.isi_meta_str
 ·exact F.isi_meta_list
 ·exact F.isi_meta_tuple
 ·exact F.isi_meta_dict
theorem ki_sub(k T:Ki):isSubtype (.type k.nm) (.type T.nm)=pure (k.sub T):=by
 cases k<;>cases T<;>(show isSubtype (.type _) (.type _)=pure _;rw[isSubtype_type];kernel_rfl)
theorem ki_ne(k T:Ki)(h:k.sub T=false):(i6 k.nm==i6 T.nm)=false:=by
 cases k<;>cases T<;>first|(exfalso;revert h;decide)|decide +kernel
noncomputable def rIsi(K:n0):List V->Hp->VK->Prop:=λxs H Q=>∃(x:V) (k:Ki) (T:Ki),xs=[x,.ty T.nm]/\KiOf K H x k/\Q (.bl (k.sub T)) H
theorem call_isi{X:Cx}:CallR X (.builtin "isinstance") (rIsi X.K):=by
 intro pins s σ H xs us Q I r h
 obtain⟨x,k,T,rfl,hk,q⟩:=h
 obtain⟨u,w',rfl,ru,rw'⟩:=vals2 r
 obtain rfl:w'=.type T.nm:=rw'
 have ht:=hk.typeIs I ru
 cases hs:k.sub T with
 | true =>
  rw[hs]at q
  exact call_isinstance (isinstance_true (Tx:=k.nm) (ki_meta T) (by rw[ki_sub,hs])) ⟨ht,.bl true,H,I,rfl,q⟩
 | false =>
  rw[hs]at q
  have hsub:isSubtype (.type k.nm) (.type T.nm)=pure false:=by rw[ki_sub,hs]
  have hne:=ki_ne k T hs
  have fin:EP X pins σ Q (.bool false) { s with toks:=s.toks+1 }:=⟨.bl false,H,I.tok _,rfl,q⟩
  cases x with
  | non=>cases hk;cases ru;exact call_isinstance (isinstance_false_none hne (ki_meta T) hsub) fin
  | bl b=>cases hk;cases ru;exact call_isinstance (isinstance_false_bool hne (ki_meta T) hsub) fin
  | int i=>cases hk;obtain⟨t,rfl⟩:=ru;exact call_isinstance (isinstance_false_int hne (ki_meta T) hsub) fin
  | str i=>cases hk;obtain⟨t,rfl⟩:=ru;exact call_isinstance (isinstance_false_str hne (ki_meta T) hsub) fin
  | ref a =>
   cases ru
   rcases hk with⟨rfl,_⟩|⟨rfl,_⟩|⟨rfl,_⟩
   ·exact call_isinstance (isinstance_false_list hne (ki_meta T) hsub) ⟨ht,fin⟩
   ·exact call_isinstance (isinstance_false_tuple hne (ki_meta T) hsub) ⟨ht,fin⟩
   ·exact call_isinstance (isinstance_false_dict hne (ki_meta T) hsub) ⟨ht,fin⟩
  | byt _=>cases hk
  | flt _=>cases hk
  | ty _=>cases hk
noncomputable def rAll(K:n0):List V->Hp->VK->Prop:=λxs H Q=>∃(a:Addr) (bs:List Bool),xs=[.ref a]/\SqL K H a (bs.map V.bl)/\Q (.bl (bs.all id)) H
theorem vals_boolAt{bs:List Bool}{us:List Value}(r:Vals (bs.map V.bl) us)(i:Nat)(v:Value)(h:us[i]?=some v):∃b,bs[i]?=some b/\v=.bool b:=by
 cases e:bs[i]? with
 | none =>
  have h1:(bs.map V.bl)[i]?=none:=by rw[O0,e];rfl
  rw[r.none_of h1]at h
  cases h
 | some b =>
  obtain⟨u,hu,ru⟩:=r.get (i:=i) (x:=.bl b) (by rw[O0,e];rfl)
  rw[hu]at h
  cases h
  exact ⟨b,rfl,ru⟩
theorem all_range_bs(bs:List Bool):((G3 bs.length).all λi=>(bs[i]?).getD true)=bs.all id:=by
 rw[g6,J3,J3]
 constructor
 ·intro h b hb
  obtain⟨i,hi,e⟩:=List.mem_iff_getElem.mp hb
  have:=h i (S5.mpr hi)
  rw[y0 hi,W4,e]at this
  exact this
 ·intro h i hi
  have hi:=S5.mp hi
  rw[y0 hi,W4]
  exact h _ (V2 hi)
theorem call_all{X:Cx}(hc:X.calm=true):CallR X (.builtin "all") (rAll X.K):=by
 intro pins s σ H xs us Q I r h
 obtain⟨a,bs,rfl,hq,q⟩:=h
 obtain⟨u,rfl,ru⟩:=vals1 r
 cases ru
 obtain⟨its,rv,p,hz⟩:=I.list hq
 have hl:=p.isList
 have hlt:a < s.heap.objs.size:=by obtain⟨_,e,_⟩:=hl;exact J0 e
 refine call_all_walk (wpAny_pyIter_list hl ?_)
 refine ⟨s.heap.objs.size,[s.heap.objs.size,a],[s.heap.objs.size],its.toArray.size,_,_,λi=>(bs[i]?).getD true,rfl,Walks.list (A:=X.A.in1) (I.ok.hd hc) _ a (Y0 hlt) its.toArray,
   ⟨⟨_,M0 _ rfl,rfl,rfl⟩,hl.push _⟩,λi v s' Q' E' hP hQ=>?_,λh' tk hk=>?_⟩
 ·obtain⟨b,e,rfl⟩:=vals_boolAt rv i v (by simpa using hP)
  simp only[e,W4]at hQ
  exact wpAny_truthy_bool hQ
 ·have e:((G3 its.toArray.size).all λi=>(bs[i]?).getD true)=bs.all id:=by
   have hl2:=rv.length
   rw[j0]at hl2
   rw[N0,<- hl2];exact all_range_bs bs
  rw[e]
  refine ⟨.bl (bs.all id),H,I.kept (h':=h') (t':=tk) λb o eo=>hk b o (λhm=>?_) (i0 _ eo),rfl,q⟩
  rw[U0.mp hm]at eo
  exact Z2 _ (J0 eo)
noncomputable def Sq(k:Kd)(K:n0)(H:Hp)(a:Addr)(xs:List V):Prop:=match k with | .l=>SqL K H a xs | .t=>SqT K H a xs
theorem Inv.sq{X:Cx}{pins:List (Addr×Obj)}{σ:St}{H:Hp}{s:Shared}{k:Kd}{a:Addr}{xs:List V}(I:Inv X pins σ H s)(h:Sq k X.K H a xs):∃its:List Value,Vals xs its/\SqAt k s.heap a its.toArray/\xs.length<=sizeLine:=by
 cases k with
 | l=>obtain⟨its,r,p,z⟩:=I.list h;exact ⟨its,r,p.isList,z⟩
 | t=>obtain⟨its,r,p,z⟩:=I.tuple h;exact ⟨its,r,p,z⟩
theorem Inv.sq_inj{X:Cx}{pins:List (Addr×Obj)}{σ:St}{H:Hp}{s:Shared}{k:Kd}{a:Addr}{xs ys:List V}(I:Inv X pins σ H s)(h:Sq k X.K H a xs)(h':Sq k X.K H a ys):xs=ys:=by
 cases k with
 | l=>exact I.list_inj h h'
 | t=>exact I.tuple_inj h h'
noncomputable def Itz2(K:n0)(k1:Kd)(k2:Kd)(l1 l2:Addr):It :=
 ⟨λi H=>∃ys1 x1 ys2 x2,Sq k1 K H l1 ys1/\Sq k2 K H l2 ys2/\ys1[i]?=some x1/\ys2[i]?=some x2,
  λi H x H'=>∃T x1 x2,H T=none/\x=.ref T/\H'=upd H T (.tup [x1,x2])/\(∀ys,Sq k1 K H l1 ys->ys[i]?=some x1)/\(∀ys,Sq k2 K H l2 ys->ys[i]?=some x2),
  λi H=>∃ys1 ys2,Sq k1 K H l1 ys1/\Sq k2 K H l2 ys2/\(ys1.length<=i\/ys2.length<=i)⟩
theorem turn_zip2{P:Program}{w:World}{K:n0}{es:List Expr}{kk:Nat}{pos:Pos}(k1:Kd)(k2:Kd)(z TI TO i1 i2 l1 l2:Addr)(D:ZAp2 z TI TO i1 i2 l1 l2):Turn P w K (.Tuple es kk pos) (Itz2 K k1 k2 l1 l2) [z,TI,TO,i1,i2] z
  (λi h=>IsZip h z TI TO .none/\IsTup2 h TI (.ref i1) (.ref i2)/\(∃a1 a2,IsTup2 h TO a1 a2)/\ItAt k1 h i1 l1 i/\ItAt k2 h i2 l2 i) where
 mem:=by simp
 obj:=λi h st b hb=>by
  obtain⟨hz,hTI,⟨a1,a2,hTO⟩,t1,t2⟩:=st
  have hb:b=z\/b=TI\/b=TO\/b=i1\/b=i2:=by simpa using hb
  rcases hb with rfl|rfl|rfl|rfl|rfl
  ·exact ⟨_,hz,λv e=>by cases e⟩
  ·exact ⟨_,hTI,λv e=>by cases e⟩
  ·exact ⟨_,hTO,λv e=>by cases e⟩
  ·exact t1.obj
  ·exact t2.obj
 keep:=λi h h' st k=>by
  obtain⟨hz,hTI,⟨a1,a2,hTO⟩,t1,t2⟩:=st
  exact ⟨k _ (by simp) _ hz,k _ (by simp) _ hTI,⟨a1,a2,k _ (by simp) _ hTO⟩,t1.at λo e=>k _ (by simp) _ e,t2.at λo e=>k _ (by simp) _ e⟩
 item:=by
  intro X hP hw hK hc i pins s σ H E I hf st hg
  subst hP hw hK
  obtain⟨hz,hTI,⟨a1,a2,hTO⟩,t1,t2⟩:=st
  obtain⟨ys1,x1,ys2,x2,q1,q2,e1,e2⟩:=hg
  obtain⟨its1,rv1,p1,z1⟩:=I.sq q1
  obtain⟨u1,hu1,ru1⟩:=rv1.get e1
  obtain⟨its2,rv2,p2,z2⟩:=I.sq q2
  obtain⟨u2,hu2,ru2⟩:=rv2.get e2
  refine next_zip_item2 D hz hTI hTO t1 t2 p1 p2 (show its1.toArray[i]?=some u1 by simpa using hu1) (show its2.toArray[i]?=some u2 by simpa using hu2) λh' b1 b2 c1 c2 b5 b6 b7=>?_
  have hTn:s.heap.objs.size≠z:=T1 (J0 hz)
  refine ⟨_,rfl,wpAny_letOwnedTupleGo_zip (s:={ s with heap:=h' }) b1 λh2 hz2 hs2=>?_⟩
  have kp:∀b o,b∉[z,TI,TO,i1,i2]->s.heap.get? b=some o->h2.get? b=some o:=λb o hb e=>by
   have hb:b≠z/\b≠TI/\b≠TO/\b≠i1/\b≠i2:=by simpa using hb
   obtain⟨g1,g2,g3,f1,f2⟩:=hb
   exact hs2.extBut _ _ g1 (b7 b o g1 g3 f1 f2 e)
  have hTI2:IsTup2 h2 TI (.ref i1) (.ref i2):=hs2.extBut _ _ D.TIz (b7 TI _ D.TIz (v3 D.TOTI) (v3 D.i1TI) (v3 D.i2TI) hTI)
  have hT2:IsTup2 h2 s.heap.objs.size u1 u2:=hs2.extBut _ _ hTn b5
  have hfr:H s.heap.objs.size=none:=I.hok.fresh (A0 _)
  have I2:Inv X pins σ (upd H s.heap.objs.size (.tup [x1,x2])) { s with heap:=h2 }:=by
   have nfp:∀b u,H b=some u->b∉[z,TI,TO,i1,i2]:=λb u e hb=>by have:=(hf b hb).1;rw[e]at this;cases this
   refine I.step (g':=s.gens) (d':=s.drawn) (ch:=[z,TI,TO,i1,i2]) (λb hb=>?_) (λb o _ _ hc' e _=>kp b o hc' e) (λb o _ _ hc' e _=>⟨o.slots,kp b o hc' e⟩) (λb o _ e n=>?_)
    (λb o hc' e=>⟨o,kp b o hc' e⟩) (λb xs e=>?_) (λb o xs e=>?_) (λb ps e=>⟨#[],?_⟩) (λm hm=>?_) (λb o e=>?_) I.bare
   ·obtain⟨f0,f1,f2,f3,f4,f5⟩:=hf b hb
    exact ⟨f3,f1,f4,f5⟩
   ·rw[upd_ne (Y0 (J0 e))];exact n
   ·rw[upd_ne (ne_of_none e hfr)];exact e
   ·rw[upd_ne (ne_of_none e hfr)];exact e
   ·rw[upd_ne (ne_of_none e hfr),e];simp
   ·obtain⟨o,es',ep,ho,r⟩:=hm
    exact ⟨o,es',ep,kp _ o (λhb=>(hf _ hb).2.1 rfl) ho,r⟩
   ·by_cases hb:b=s.heap.objs.size
    ·subst hb
     rw[upd_same]at e
     cases e
     exact ⟨by show 2<=sizeLine;decide,[u1,u2],.cons ru1 (.cons ru2 .nil),_,hT2,rfl,_,rfl,rfl⟩
    ·rw[upd_ne hb]at e
     refine (I.hok b o e).stay (λc v hc' q=>kp c v ?_ q) (λc q=>by rw[upd_ne (ne_of_none q hfr)];exact q) λc xs q=>by rw[upd_ne (ne_of_none q hfr)];exact q
     rcases hc' with rfl|hc'
     ·exact nfp _ _ e
     ·exact nfp _ _ hc'
  refine ⟨.ref s.heap.objs.size,_,I2,rfl,⟨_,x1,x2,hfr,rfl,rfl,(λys hy=>by rw[I.sq_inj hy q1];exact e1),(λys hy=>by rw[I.sq_inj hy q2];exact e2)⟩,⟨hz2,hTI2,⟨u1,u2,hs2.extBut _ _ D.TOz b2⟩,c1.at λo e=>hs2.extBut _ _ D.i1z e,c2.at λo e=>hs2.extBut _ _ D.i2z e⟩,λb hb=>?_⟩
  rw[upd_ne ?_]
  ·exact (hf b hb).1
  ·intro e
   subst e
   have hb:s.heap.objs.size=z\/s.heap.objs.size=TI\/s.heap.objs.size=TO\/s.heap.objs.size=i1\/s.heap.objs.size=i2:=by simpa using hb
   rcases hb with e|e|e|e|e
   ·exact hTn e
   ·exact T1 (J0 hTI) e
   ·exact T1 (J0 hTO) e
   ·obtain⟨o,eo,_⟩:=t1.obj
    exact T1 (J0 eo) e
   ·obtain⟨o,eo,_⟩:=t2.obj
    exact T1 (J0 eo) e
 done:=by
  intro X hP hw hK hc i pins s σ H E I hf st hg
  subst hP hw hK
  obtain⟨hz,hTI,⟨a1,a2,hTO⟩,t1,t2⟩:=st
  obtain⟨ys1,ys2,q1,q2,hend⟩:=hg
  obtain⟨its1,rv1,p1,z1⟩:=I.sq q1
  have len1:=rv1.length
  obtain⟨its2,rv2,p2,z2⟩:=I.sq q2
  have len2:=rv2.length
  refine next_zip_end2 (I.ok.hd hc) D hz hTI hTO t1 t2 p1 p2 ?_ λh' kp=>⟨rfl,?_⟩
  ·rcases hend with h|h
   ·exact .inl (by simp;omega)
   ·exact .inr (by simp;omega)
  ·have nfp:∀b u,H b=some u->b∉[z,TI,TO,i1,i2]:=λb u e hb=>by have:=(hf b hb).1;rw[e]at this;cases this
   have kp':∀b o,b∉[z,TI,TO,i1,i2]->s.heap.get? b=some o->h'.get? b=some o:=λb o hb e=>by
    have hb:b≠z/\b≠TI/\b≠TO/\b≠i1/\b≠i2:=by simpa using hb
    obtain⟨g1,g2,g3,f1,f2⟩:=hb
    exact kp b o g1 g3 f1 f2 e
   refine I.step (g':=s.gens) (d':=s.drawn) (ch:=[z,TI,TO,i1,i2]) (λb hb=>?_) (λb o _ _ hc' e _=>kp' b o hc' e) (λb o _ _ hc' e _=>⟨o.slots,kp' b o hc' e⟩) (λb o _ e n=>n)
    (λb o hc' e=>⟨o,kp' b o hc' e⟩) (λb xs e=>e) (λb o xs e=>e) (λb ps e=>⟨#[],by rw[e];simp⟩) (λm hm=>?_) (λb o e=>?_) I.bare
   ·obtain⟨f0,f1,f2,f3,f4,f5⟩:=hf b hb
    exact ⟨f3,f1,f4,f5⟩
   ·obtain⟨o,es',ep,ho,r⟩:=hm
    exact ⟨o,es',ep,kp' _ o (λhb=>(hf _ hb).2.1 rfl) ho,r⟩
   ·refine (I.hok b o e).stay (λc v hc' q=>kp' c v ?_ q) (λ_ q=>q) λ_ _ q=>q
    rcases hc' with rfl|hc'
    ·exact nfp _ _ e
    ·exact nfp _ _ hc'
 self:=λ_ _ _ _ _ st h=>wpAny_pyIter_zip st.1 h
noncomputable def iZip2(K:n0)(ta:TA):TI:=λσ H R=>ta σ H λvs H1=>∃(k1:Kd) (l1:Addr) (ys1:List V) (k2:Kd) (l2:Addr) (ys2:List V),vs=[.ref l1,.ref l2]/\Sq k1 K H1 l1 ys1/\Sq k2 K H1 l2 ys2/\R (Itz2 K k1 k2 l1 l2) H1
theorem pi_zip2{X:Cx}{es:List Expr}{kk:Nat}{tpos:Pos}{a b:Expr}{ta:TA}{p pos:Pos}(hg:Gl X "zip")(hm:X.mg "zip"=none)(ha:PA X [a,b] ta)(hs:starEach [a,b] X.env=(false,eval a X.env) :: starEach [b] X.env:=by rfl)(hpl:(backTo pos (starEach [b] X.env)).any (·.1)=false:=by rfl) :
  PI X (.Tuple es kk tpos) (.Call (.Name "zip" p) [a,b] [] pos) (iZip2 X.K ta):=by
 intro pins s σ H R I h
 refine Call_ (ld_blt I hg hm boot_zip (V4 (thn (ha pos pins s σ H _ I h) λus s1 ⟨vs,H1,I1,r1,q1⟩=>?_) hs hpl))
 obtain⟨k1,l1,ys1,k2,l2,ys2,e,q1,q2,q⟩:=q1
 subst e
 obtain rfl:us=[.ref l1,.ref l2]:=by
  cases r1 with|cons r rr=>cases r;cases rr with|cons r rr=>cases r;cases rr;rfl
 obtain⟨its1,rv1,p1,z1⟩:=I1.sq q1
 obtain⟨its2,rv2,p2,z2⟩:=I1.sq q2
 have lt:∀{k:Kd}{l:Addr}{xs:Array Value},SqAt k s1.heap l xs->l < s1.heap.objs.size:=λ{k l xs} p=>by
  cases k with
  | l=>obtain⟨o,e,_⟩:=p;exact J0 e
  | t=>obtain⟨o,e,_⟩:=p;exact J0 e
 refine callType_new F.called_zip (by decide) (F.typeCall_zip_2 _ _) (F.newCall_zip_2 _ _) (λobj=>F.args_object_init_3 obj _ _) F.entry_zip_new (zip_new2 k1 k2 l1 l2 its1.toArray its2.toArray) ⟨p1,p2,?_⟩
 have zI:(zh2I s1.heap k1 k2 l1 l2).objs.size=s1.heap.objs.size+2:=by simp[M3]
 have zT:(zh2T s1.heap k1 k2 l1 l2).objs.size=s1.heap.objs.size+3:=by simp[M3]
 have zO:(zh2O s1.heap k1 k2 l1 l2).objs.size=s1.heap.objs.size+4:=by simp[M3]
 have gZ:(zh2Z s1.heap k1 k2 l1 l2).get? (zh2O s1.heap k1 k2 l1 l2).objs.size=some _:=M0 _ rfl
 have gO:(zh2Z s1.heap k1 k2 l1 l2).get? (zh2T s1.heap k1 k2 l1 l2).objs.size=some _:=i0 _ (M0 _ rfl)
 have gT:(zh2Z s1.heap k1 k2 l1 l2).get? (zh2I s1.heap k1 k2 l1 l2).objs.size=some _:=i0 _ (i0 _ (M0 _ rfl))
 have g1:(zh2Z s1.heap k1 k2 l1 l2).get? s1.heap.objs.size=some (itObj k1 l1):=i0 _ (i0 _ (i0 _ (i0 _ (M0 _ (by cases k1<;>rfl)))))
 have g2:(zh2Z s1.heap k1 k2 l1 l2).get? (s1.heap.push (itObj k1 l1)).objs.size=some (itObj k2 l2):=i0 _ (i0 _ (i0 _ (M0 _ (by cases k2<;>rfl))))
 have zz2:(s1.heap.push (itObj k1 l1)).objs.size=s1.heap.objs.size+1:=by simp[M3]
 rw[zO,zT,zI]at gZ
 rw[zI,zz2]at gT
 rw[zT]at gO
 rw[zz2]at g2
 show _/\_
 rw[zO]
 have kp:∀b o,s1.heap.get? b=some o->(zh2Z s1.heap k1 k2 l1 l2).get? b=some o:=λb o e=>i0 _ (i0 _ (i0 _ (i0 _ (i0 _ (e)))))
 refine ⟨⟨_,gZ,rfl⟩,wpAny_pyIter_zip (s:={ s1 with heap:=zh2Z s1.heap k1 k2 l1 l2 }) gZ ?_⟩
 refine ⟨_,[s1.heap.objs.size+4,s1.heap.objs.size+2,s1.heap.objs.size+3,s1.heap.objs.size,s1.heap.objs.size+1],_,_,H1,rfl,I1.kept (t':=s1.toks) kp,turn_zip2 k1 k2 _ _ _ _ _ l1 l2 (zap2 _ l1 l2 (lt p1) (lt p2)),⟨gZ,gT,⟨_,_,gO⟩,ItAt.new k1 g1,ItAt.new k2 g2⟩,λb hb=>?_,q⟩
 have hb:s1.heap.objs.size<=b:=by
  have hb:b=s1.heap.objs.size+4\/b=s1.heap.objs.size+2\/b=s1.heap.objs.size+3\/b=s1.heap.objs.size\/b=s1.heap.objs.size+1:=by simpa using hb
  rcases hb with rfl|rfl|rfl|rfl|rfl
  all_goals first|exact T2 _ _|exact A0 _
 exact I1.fpOk hb (I1.hok.fresh hb)
noncomputable def rInsert:V->List V->Hp->VK->Prop:=λx vs H Q=>∃(l:Addr) (xs:List V) (i:Int) (y:V),x=.ref l/\vs=[.int i,y]/\H l=some (.lst xs)/\xs.length < sizeLine/\0<=i/\i<=xs.length/\Q .non (upd H l (.lst (xs.take i.toNat++y :: xs.drop i.toNat)))
theorem mt_insert{X:Cx}:MtM X "list.insert" rInsert:=by
 intro pins s σ H x vs v us Q I rx rv h
 obtain⟨l,xs,i,y,rfl,rfl,hH,hz,h0,h1,q⟩:=h
 cases rx
 obtain⟨u,w',rfl,ru,rw'⟩:=vals2 rv
 obtain⟨t,rfl⟩:=ru
 obtain⟨z,its,n,r,hl,e⟩:=I.lstM hH
 have hs:xs.length<=16777216:=z
 have hf:¬(!Builtin.List.listFitsIndex i)=true:=by
  have:O7 i=true:=by
   unfold O7
   simp only[decide_eq_true_eq,W1]
   constructor<;>omega
  rw[this];decide
 refine call_meets F.slot_list_insert ⟨_,e,rfl⟩ F.entry_list_insert (F.args_list_insert_3 _ _ _) (AutoSeq1.list_insert_list_int_val_1 l its.toArray n i t w' hf (by rw[N0];omega)) ⟨e,?_⟩
 refine ⟨.non,_,I.lset (its':=its.take i.toNat++w' :: its.drop i.toNat) hH e ?_ ((r.take _).append (.cons rw' (r.drop _))) ?_,rfl,q⟩
 ·have hi:¬i < 0:=by omega
  have hm:min i.toNat its.length=i.toNat:=by omega
  simp only[hi,if_false,N0,hm]
  apply Array.ext'
  simp[List.extract_eq_take_drop]
  rw[S2 (by simp)]
 ·rw[B0,B2,J1,E2]
  omega
mutual
inductive Is (K:n0) (H:Hp):V->PyData->Prop
 | non:Is K H .non .none
 | bl (b):Is K H (.bl b) (.bool b)
 | int (i):Is K H (.int i) (.int i)
 | str (x):Is K H (.str x) (.str x)
 | lst {a xs ds}:SqL K H a xs->IsAll K H xs ds->Is K H (.ref a) (.list ds)
 | tup {a xs ds}:SqT K H a xs->IsAll K H xs ds->Is K H (.ref a) (.tuple ds)
inductive IsAll (K:n0) (H:Hp):List V->List PyData->Prop
 | nil:IsAll K H [] []
 | cons {x xs d ds}:Is K H x d->IsAll K H xs ds->IsAll K H (x :: xs) (d :: ds)
end
section
variable {X:Cx}{pins:List (Addr×Obj)}{σ:St}{H:Hp}{s:Shared}
mutual
theorem Is.reads(I:Inv X pins σ H s):∀{x:V}{d:PyData}{u:Value},Is X.K H x d->RelV x u->∃as,Reads s.heap u d as
 | _,_,_,.non,r=>by cases r;exact ⟨_,.none⟩
 | _,_,_,.bl b,r=>by cases r;exact ⟨_,.bool b⟩
 | _,_,_,.int i,r=>by obtain⟨t,rfl⟩:=r;exact ⟨_,.int i t⟩
 | _,_,_,.str x,r=>by obtain⟨t,rfl⟩:=r;exact ⟨_,.str x t⟩
 | _,_,_,.lst hq ha,r=>by
  cases r
  obtain⟨its,rv,⟨o,n,e,c,d,q⟩,z⟩:=I.list hq
  obtain⟨as,hr⟩:=IsAll.reads I ha rv
  exact ⟨_,.list e c q (by simpa using hr)⟩
 | _,_,_,.tup hq ha,r=>by
  cases r
  obtain⟨its,rv,⟨o,e,c,n,q⟩,z⟩:=I.tuple hq
  obtain⟨as,hr⟩:=IsAll.reads I ha rv
  exact ⟨_,.tuple e c q (by simpa using hr)⟩
theorem IsAll.reads(I:Inv X pins σ H s):∀{xs:List V}{ds:List PyData}{us:List Value},IsAll X.K H xs ds->Vals xs us->∃as,ReadsAll s.heap us ds as
 | _,_,_,.nil,.nil=>⟨_,.nil⟩
 | _,_,_,.cons h t,.cons r rr=>by
  obtain⟨as,a⟩:=Is.reads I h r
  obtain⟨bs,b⟩:=IsAll.reads I t rr
  exact ⟨_,.cons a b⟩
end
end
open PySem.SeqAt in
noncomputable def rEqD(K:n0)(neg:Bool):R2:=λx y H Q=>∃d e:PyData,Is K H x d/\Is K H y e/\shaped d=true/\shaped e=true/\noMix d e=true/\Q (.bl (if neg then !same d e else same d e)) H
theorem op_eqD{X:Cx}(hu:X.A.units+64 < cLine):OpR X (compareOp .Eq) (rEqD X.K false):=by
 intro pins s σ H x y v u Q I r1 r2 h
 obtain⟨d,e,i1,i2,s1,s2,nm,q⟩:=h
 obtain⟨as,a⟩:=i1.reads I r1
 obtain⟨bs,b⟩:=i2.reads I r2
 exact eq_dataH_same a b s1 s2 hu nm ⟨.bl _,H,I,rfl,q⟩
theorem op_neD{X:Cx}(hu:X.A.units+64 < cLine):OpR X (compareOp .NotEq) (rEqD X.K true):=by
 intro pins s σ H x y v u Q I r1 r2 h
 obtain⟨d,e,i1,i2,s1,s2,nm,q⟩:=h
 obtain⟨as,a⟩:=i1.reads I r1
 obtain⟨bs,b⟩:=i2.reads I r2
 exact ne_dataH_same a b s1 s2 hu nm ⟨.bl _,H,I,rfl,q⟩
structure Cal(P:Program)(w:World)(K:n0)(mg:Str->Option Value)(base:Heap)(k:Nat)(x:Str)(ps:List Str)(sp:Sp):Prop where
 ex:∃(f:Addr) (fd:FuncData),FnOk P w K mg base CX0 k f fd ps sp/\mg x=some (.ref f)/\X4 K (.ref f)=true/\Binds K fd ps []
theorem pe_fn{X:Cx}{k:Nat}{x:Str}{ps:List Str}{sp:Sp}{p pos:Pos}{e:Expr}{es:List Expr}{t:TA}(C:Cal X.prog X.w X.K X.mg X.base k x ps sp)(hr:Room k X.A)(ha:PA X (e :: es) t)(hg:Gl X x:=by rfl)
  (hdb:(x==("__debug__":Str))=false:=by decide) (he:starEach (e :: es) X.env=(false,eval e X.env) :: starEach es X.env:=by rfl) (hpl:(backTo pos (starEach es X.env)).any (·.1)=false:=by rfl) :
  PE X (.Call (.Name x p) (e :: es) [] pos) (tCall sp [] E0 t):=by
 obtain⟨f,fd,F,hm,hk,hb⟩:=C.ex
 exact pe_call F hr hg hm hk hb .nil pass0 ha hdb he hpl
noncomputable def compOk(ds:Scope)(N:List Str)(fr:List Nat)(sc:Scope):Bool :=
 decide (sc.kind=.function)&&(sc.names.all λy=>!decide (y.2=.cell)||decide (sc.names.lookup y.1=some .cell))&&(sc.names.all λy=>!decide (y.2=.local)||decide (sc.names.lookup y.1=some .local)) &&
 (sc.names.all λy=>!decide (y.2=.free)||(decide (ds.names.lookup y.1=some .cell)||decide (ds.names.lookup y.1=some .free))) &&
 (fr.all λi=>match N[i]? with|some x=>decide (sc.names.lookup x=some .free)|none=>false)
theorem compSc_of{X:Cx}{own:List Str}{fr:List Nat}{sc:Scope}(h:compOk X.env.scope X.N fr sc=true):CompSc X own fr sc:=by
 unfold compOk at h
 simp only[W1,decide_eq_true_eq,J3,Bool.or_eq_true,T7,decide_eq_false_iff_not]at h
 obtain⟨⟨⟨⟨h1,h2⟩,h3⟩,h4⟩,h5⟩:=h
 refine ⟨h1,λy hy e=>?_,λy hy e=>?_,λy hy e=>?_,λi hi=>?_⟩
 ·rcases h2 y hy with z|z
  ·exact absurd e z
  ·exact z
 ·rcases h3 y hy with z|z
  ·exact absurd e z
  ·exact z
 ·rcases h4 y hy with z|z
  ·exact absurd e z
  ·exact z
 ·have:=h5 i hi
  cases q:X.N[i]? with
  | none=>rw[q]at this;cases this
  | some x=>rw[q]at this;exact ⟨x,rfl,of_decide_eq_true this⟩
noncomputable def CompW(J:It)(own:List Str)(fr:List Nat)(g:TG)(tc:TT)(te:TE)(σ:St)(H:Hp)(Q:VK):Prop :=
 ∃W:Nat->Nat->List V->St->Hp->Prop,(∃m,W 0 m [] (st0 own σ fr) H)/\∀i m ys τ H,W i m ys τ H ->
   (J.stop i H/\∀D,H D=none->Q (.ref D) (upd H D (.lst ys))) \/
   (J.go i H/\ys.length < sizeLine/\∃N:List V->St->Hp->Prop,(∀ys' τ' H',N ys' τ' H'->∃m',m' < m/\W (i+1) m' ys' τ' H')/\∀x H',J.yld i H x H'->g x τ H' λτ2 H2 =>
     tc τ2 H2 λb H3=>if b=true then te τ2 H3 λy H4=>N (ys++[y]) τ2 H4 else N ys τ2 H3)
noncomputable def tCompW(wi:TI)(own:List Str)(fr:List Nat)(g:TG)(tc:TT)(te:TE):TE:=λσ H Q=>wi σ H λJ H1=>CompW J own fr g tc te σ H1 Q
theorem pe_compW{X:Cx}{tg iter elt:Expr}{ifs:List Expr}{sc:Scope}{pos:Pos}{own:List Str}{fr:List Nat}{wi:TI}{g:TG}{tc:TT}{te:TE}(hc:X.calm=true)(S:CompSc X own fr sc)(hi:PI X tg iter wi)
  (hg:∀C s H ex,PG (cxComp X own fr sc C s H ex) tg g) (hif:∀C s H ex,PIf (cxComp X own fr sc C s H ex) ifs tc) (he:∀C s H ex,PE (cxComp X own fr sc C s H ex) elt te)
  (hs:∀x,foldedSetIterable iter X.env x=pure x:=by intro _;rfl):PE X (.ListComp elt [⟨tg,iter,ifs,0⟩] sc pos) (tCompW wi own fr g tc te):=pe_comp hc S hi hg hif he hs
section
variable {X:Cx}{K:n0}
theorem ix_listK(h:X.K=K):IxR X (rIxL K):=by subst h;exact ix_list
theorem ix_tupK(h:X.K=K):IxR X (rIxT K):=by subst h;exact ix_tup
noncomputable def rLen(K:n0):List V->Hp->VK->Prop:=λxs H Q=>∃(p:Addr) (ys:List V),xs=[.ref p]/\(SqL K H p ys\/SqT K H p ys)/\Q (.int ys.length) H
theorem call_lenK(h:X.K=K):CallR X (.builtin "len") (rLen K):=by subst h;exact call_len_seq
noncomputable def rListOf(K:n0):List V->Hp->VK->Prop:=λxs H Q=>∃(p:Addr) (ys:List V),xs=[.ref p]/\(SqL K H p ys\/SqT K H p ys)/\∀l,H l=none->Q (.ref l) (upd H l (.lst ys))
theorem call_listK(h:X.K=K):CallR X (.type "list") (rListOf K):=by subst h;exact call_list_of
noncomputable def rTupleOf(K:n0):List V->Hp->VK->Prop:=λxs H Q=>∃(p:Addr) (ys:List V),xs=[.ref p]/\((SqL K H p ys/\∀l,H l=none->Q (.ref l) (upd H l (.tup ys)))\/(SqT K H p ys/\Q (.ref p) H))
theorem call_tupleK(h:X.K=K):CallR X (.type "tuple") (rTupleOf K):=by subst h;exact call_tuple_of
theorem call_allK(h:X.K=K)(hc:X.calm=true):CallR X (.builtin "all") (rAll K):=by subst h;exact call_all hc
theorem op_eqDK(h:X.K=K)(hu:X.A.units+64 < cLine):OpR X (compareOp .Eq) (rEqD K false):=by subst h;exact op_eqD hu
theorem op_neDK(h:X.K=K)(hu:X.A.units+64 < cLine):OpR X (compareOp .NotEq) (rEqD K true):=by subst h;exact op_neD hu
theorem pi_zip2K{es:List Expr}{kk:Nat}{tpos:Pos}{a b:Expr}{ta:TA}{p pos:Pos}(h:X.K=K)(hg:Gl X "zip")(hm:X.mg "zip"=none)(ha:PA X [a,b] ta)(hs:starEach [a,b] X.env=(false,eval a X.env) :: starEach [b] X.env:=by rfl)(hpl:(backTo pos (starEach [b] X.env)).any (·.1)=false:=by rfl) :
  PI X (.Tuple es kk tpos) (.Call (.Name "zip" p) [a,b] [] pos) (iZip2 K ta):=by subst h;exact pi_zip2 hg hm ha hs hpl
theorem pg_tupK{es:List Expr}{k:Nat}{t:TGs}{n:Nat}{pos:Pos}(h:X.K=K)(hc:X.calm=true)(hh:PGs X es t)(hn:(assignEach es X.env).length=n:=by rfl)(hst:(assignEach es X.env).findIdx? (·.1)=none:=by rfl):PG X (.Tuple es k pos) (gTup K n t):=by subst h;exact pg_tup hc hh hn hst
end
theorem cat_tup0{prog:Program}{w:World}{A:Around}{E:Value->Shared->Prop}{s:Shared}{t b:Addr}{ws:List Value}{Q:Value->Shared->Prop}(ht:IsTup s.heap t ([]:List Value).toArray)(hb:IsTup s.heap b ws.toArray)(h:Q (.ref b) s):wpAny (model prog w) A (binaryOp .Add (.ref t) (.ref b)) Q E s:=by
 obtain⟨⟨cls,dd,data,sl⟩,ho,hc,n,hd⟩:=id ht
 obtain⟨⟨cls2,dd2,data2,sl2⟩,ho2,hc2,n2,hd2⟩:=id hb
 simp only at hc hd hc2 hd2
 subst hc hd hc2 hd2
 exact concat_meets ⟨_,ho,rfl⟩ ⟨_,ho2,rfl⟩ noFill_tuple_add seq_tuple_add PySem.F.slot_tuple_add PySem.F.entry_tuple_add (PySem.F.args_tuple_add_2 _ _) (tuple_addW0 t b _ ws.toArray n n2 dd dd2 sl sl2 rfl) ⟨ho,ho2,h⟩
open PySem PySem.Spec
noncomputable abbrev opqO(a:Addr):HO:=.ext λh=>∃o es ep,h.get? a=some o/\o.ExactDict/\o.data=.dict es ep
noncomputable def hL(k:List Int):Int:=reduceHash (P7 (k.map hashInt))
noncomputable def hB(k:List Int×List Int):Int:=reduceHash (P7 [hL k.1,hL k.2])
noncomputable abbrev extD{κ:Type}(hs:κ->Int)(a:Addr)(ep:Nat)(xs:List (κ×Addr×V)):HO:=.ext λh=>(∃vs:List (κ×Addr×Value),Paired (λx v=>x.1=v.1/\x.2.1=v.2.1/\RelV x.2.2 v.2.2) xs vs /\
  ∃o es,h.get? a=some o/\o.ExactDict/\o.data=.dict es ep/\es.toList=vs.map λx=>⟨hs x.1,.ref x.2.1,x.2.2⟩)/\(xs.map (·.1)).Nodup/\xs.length<=sizeLine/\(a==sysModules)=false
noncomputable abbrev excO(a C:Addr):HO:=.ext λh=>∃o vs,h.get? a=some o/\o.cls=.ref C/\o.data=.fields vs
end L2
namespace L3
open PySem PySem.Spec L2
noncomputable abbrev D:=PyData
noncomputable abbrev Fg:=n0
noncomputable def Sub(F H:Hp):Prop:=∀a o,F a=some o->H a=some o
theorem Sub.refl(H:Hp):Sub H H:=λ_ _ h=>h
theorem Sub.trans{A B C:Hp}(h:Sub A B)(k:Sub B C):Sub A C:=λa o e=>k a o (h a o e)
theorem Sub.new{F:Hp}{a:Addr}{o:HO}(h:F a=none):Sub F (upd F a o):=λb u e=>by rw[upd_ne (ne_of_none e h)];exact e
theorem Sub.rd{F H:Hp}{a:Addr}{u:HO}(s:Sub F H):Rd F a u->Rd H a u
 | .inl h=>.inl (s _ _ h)
 | .inr ⟨o,h⟩=>.inr ⟨o,s _ _ h⟩
theorem Sub.sql{K:Fg}{F H:Hp}{a:Addr}{xs:List V}(s:Sub F H):SqL K F a xs->SqL K H a xs
 | .inl h=>.inl (s.rd h)
 | .inr h=>.inr h
noncomputable def keyD:Key->D
 | .inl i=>.int i
 | .inr x=>.str x
noncomputable abbrev scrD(ns:List Int):D:=.dict [(.none,.list (ns.map G0))]
noncomputable abbrev excD(C:Addr):D:=.dict [(.bool true,.int (C:Nat))]
noncomputable abbrev opqD:D:=.dict [(.bool false,.none)]
noncomputable abbrev pdD(ps:List (List Int×D)):D:=.dict [(.bool false,.list (ps.map λp=>.tuple [.tuple (p.1.map G0),p.2]))]
noncomputable abbrev bdD(ps:List ((List Int×List Int)×D)):D:=.dict [(.bool false,.tuple (ps.map λp=>.tuple [.tuple [.tuple (p.1.1.map G0),.tuple (p.1.2.map G0)],p.2]))]
mutual
inductive Da (K:Fg) (F:Hp):V->D->Prop
 | non:Da K F .non .none
 | bl (b):Da K F (.bl b) (.bool b)
 | int (i):Da K F (.int i) (.int i)
 | str (x):Da K F (.str x) (.str x)
 | lst {a xs ds}:F a=some (.lst xs)->DaAll K F xs ds->Da K F (.ref a) (.list ds)
 | tup {a xs ds}:F a=some (.tup xs)->DaAll K F xs ds->Da K F (.ref a) (.tuple ds)
 | dk {a kvs es}:Rd F a (.dK kvs)->DaKV K F kvs es->Da K F (.ref a) (.dict es)
 | dt {a kvs es}:Rd F a (.dT kvs)->DaKT K F kvs es->Da K F (.ref a) (.dict es)
 | scr {a ns}:SqL K F a (ns.map V.int)->Da K F (.ref a) (scrD ns)
 | exc {a C}:F a=some (excO a C)->Da K F (.ref a) (excD C)
 | opq {a}:F a=some (opqO a)->Da K F (.ref a) opqD
 | pd {a a' ep xs ps}:F a=some (extD hL a' ep xs)->DaPd K F xs ps->Da K F (.ref a) (pdD ps)
 | bd {a a' ep xs ps}:F a=some (extD hB a' ep xs)->DaBd K F xs ps->Da K F (.ref a) (bdD ps)
inductive DaAll (K:Fg) (F:Hp):List V->List D->Prop
 | nil:DaAll K F [] []
 | cons {x xs d ds}:Da K F x d->DaAll K F xs ds->DaAll K F (x :: xs) (d :: ds)
inductive DaKV (K:Fg) (F:Hp):List (Key×V)->List (D×D)->Prop
 | nil:DaKV K F [] []
 | cons {k v d kvs es}:Da K F v d->DaKV K F kvs es->DaKV K F ((k,v) :: kvs) ((keyD k,d) :: es)
inductive DaKT (K:Fg) (F:Hp):List (List Key×V)->List (D×D)->Prop
 | nil:DaKT K F [] []
 | cons {ks v d kvs es}:Da K F v d->DaKT K F kvs es->DaKT K F ((ks,v) :: kvs) ((.tuple (ks.map keyD),d) :: es)
inductive DaPd (K:Fg) (F:Hp):List (List Int×Addr×V)->List (List Int×D)->Prop
 | nil:DaPd K F [] []
 | cons {k b v d xs ps}:F b=some (.tup (k.map V.int))->Da K F v d->DaPd K F xs ps->DaPd K F ((k,b,v) :: xs) ((k,d) :: ps)
inductive DaBd (K:Fg) (F:Hp):List ((List Int×List Int)×Addr×V)->List ((List Int×List Int)×D)->Prop
 | nil:DaBd K F [] []
 | cons {k b c e v d xs ps}:F b=some (.tup [.ref c,.ref e])->F c=some (.tup (k.1.map V.int))->F e=some (.tup (k.2.map V.int))->Da K F v d->DaBd K F xs ps->DaBd K F ((k,b,v) :: xs) ((k,d) :: ps)
end
section
variable {K:Fg}{F F':Hp}
mutual
theorem Da.mono(s:Sub F F'):∀{v:V}{d:D},Da K F v d->Da K F' v d
 | _,_,.non=>.non
 | _,_,.bl b=>.bl b
 | _,_,.int i=>.int i
 | _,_,.str x=>.str x
 | _,_,.lst h t=>.lst (s _ _ h) (DaAll.mono s t)
 | _,_,.tup h t=>.tup (s _ _ h) (DaAll.mono s t)
 | _,_,.dk h t=>.dk (s.rd h) (DaKV.mono s t)
 | _,_,.dt h t=>.dt (s.rd h) (DaKT.mono s t)
 | _,_,.scr h=>.scr (s.sql h)
 | _,_,.exc h=>.exc (s _ _ h)
 | _,_,.opq h=>.opq (s _ _ h)
 | _,_,.pd h t=>.pd (s _ _ h) (DaPd.mono s t)
 | _,_,.bd h t=>.bd (s _ _ h) (DaBd.mono s t)
theorem DaAll.mono(s:Sub F F'):∀{xs:List V}{ds:List D},DaAll K F xs ds->DaAll K F' xs ds
 | _,_,.nil=>.nil
 | _,_,.cons h t=>.cons (Da.mono s h) (DaAll.mono s t)
theorem DaKV.mono(s:Sub F F'):∀{xs:List (Key×V)}{ds:List (D×D)},DaKV K F xs ds->DaKV K F' xs ds
 | _,_,.nil=>.nil
 | _,_,.cons h t=>.cons (Da.mono s h) (DaKV.mono s t)
theorem DaKT.mono(s:Sub F F'):∀{xs:List (List Key×V)}{ds:List (D×D)},DaKT K F xs ds->DaKT K F' xs ds
 | _,_,.nil=>.nil
 | _,_,.cons h t=>.cons (Da.mono s h) (DaKT.mono s t)
theorem DaPd.mono(s:Sub F F'):∀{xs:List (List Int×Addr×V)}{ps:List (List Int×D)},DaPd K F xs ps->DaPd K F' xs ps
 | _,_,.nil=>.nil
 | _,_,.cons h v t=>.cons (s _ _ h) (Da.mono s v) (DaPd.mono s t)
theorem DaBd.mono(s:Sub F F'):∀{xs:List ((List Int×List Int)×Addr×V)}{ps:List ((List Int×List Int)×D)},DaBd K F xs ps->DaBd K F' xs ps
 | _,_,.nil=>.nil
 | _,_,.cons h h1 h2 v t=>.cons (s _ _ h) (s _ _ h1) (s _ _ h2) (Da.mono s v) (DaBd.mono s t)
end
theorem DaAll.length:∀{xs:List V}{ds:List D},DaAll K F xs ds->xs.length=ds.length
 | _,_,.nil=>rfl
 | _,_,.cons _ t=>by simp[DaAll.length t]
theorem DaAll.get:∀{xs:List V}{ds:List D}{i:Nat}{d:D},DaAll K F xs ds->ds[i]?=some d->∃v,xs[i]?=some v/\Da K F v d
 | _,_,_,_,.nil,e=>by simp at e
 | _,_,0,_,.cons h _,e=>by simp at e;subst e;exact ⟨_,rfl,h⟩
 | _,_,i+1,_,.cons _ t,e=>by
  obtain⟨v,a,b⟩:=DaAll.get (i:=i) t (by simpa using e)
  exact ⟨v,by simpa using a,b⟩
theorem DaAll.getV:∀{xs:List V}{ds:List D}{i:Nat}{v:V},DaAll K F xs ds->xs[i]?=some v->∃d,ds[i]?=some d/\Da K F v d
 | _,_,_,_,.nil,e=>by simp at e
 | _,_,0,_,.cons h _,e=>by simp at e;subst e;exact ⟨_,rfl,h⟩
 | _,_,i+1,_,.cons _ t,e=>by
  obtain⟨v,a,b⟩:=DaAll.getV (i:=i) t (by simpa using e)
  exact ⟨v,by simpa using a,b⟩
theorem DaAll.append:∀{xs ys:List V}{ds es:List D},DaAll K F xs ds->DaAll K F ys es->DaAll K F (xs++ys) (ds++es)
 | _,_,_,_,.nil,s=>s
 | _,_,_,_,.cons h t,s=>.cons h (DaAll.append t s)
theorem DaAll.set{v:V}{d:D}(h:Da K F v d):∀{xs:List V}{ds:List D} (i:Nat),DaAll K F xs ds->DaAll K F (xs.set i v) (ds.set i d)
 | _,_,_,.nil=>.nil
 | _,_,0,.cons _ t=>.cons h t
 | _,_,i+1,.cons q t=>.cons q (DaAll.set h i t)
theorem DaAll.take:∀{xs:List V}{ds:List D} (n:Nat),DaAll K F xs ds->DaAll K F (xs.take n) (ds.take n)
 | _,_,0,_=>.nil
 | _,_,_+1,.nil=>.nil
 | _,_,n+1,.cons h t=>.cons h (DaAll.take n t)
theorem DaAll.drop:∀{xs:List V}{ds:List D} (n:Nat),DaAll K F xs ds->DaAll K F (xs.drop n) (ds.drop n)
 | _,_,0,r=>r
 | _,_,_+1,.nil=>.nil
 | _,_,n+1,.cons _ t=>DaAll.drop n t
theorem DaAll.dropLast:∀{xs:List V}{ds:List D},DaAll K F xs ds->DaAll K F xs.dropLast ds.dropLast
 | _,_,.nil=>.nil
 | _,_,.cons _ .nil=>.nil
 | _,_,.cons h (.cons h' t)=>.cons h (DaAll.dropLast (.cons h' t))
theorem DaAll.rep{xs:List V}{ds:List D}(h:DaAll K F xs ds):∀k:Nat,DaAll K F (G2 k xs).flatten (G2 k ds).flatten
 | 0=>.nil
 | k+1=>by rw[E4,E4,u5,u5];exact h.append (DaAll.rep h k)
theorem DaAll.ints:∀ns:List Int,DaAll K F (ns.map V.int) (ns.map G0)
 | []=>.nil
 | n :: ns=>.cons (.int n) (DaAll.ints ns)
end
inductive Sl where
 | fz (d:D)|ow (d:D)|io (d:D)
noncomputable def Sl.d:Sl->D
 | .fz d=>d
 | .ow d=>d
 | .io d=>d
noncomputable def isOw:Sl->Bool
 | .fz _=>false
 | .ow _=>true
 | .io _=>true
noncomputable abbrev Ev:=List (Option Sl)
noncomputable def Own1(K:Fg)(F:Hp):HO->D->Prop
 | .lst xs,.list ds=>DaAll K F xs ds
 | .dK kvs,.dict es=>DaKV K F kvs es
 | .dT kvs,.dict es=>DaKT K F kvs es
 | .ext φ,.dict [(.bool false,.list L)]=>∃(a':Addr) (ep:Nat) (xs:List (List Int×Addr×V)) (ps:List (List Int×D)),HO.ext φ=extD hL a' ep xs/\L=ps.map (λp=>.tuple [.tuple (p.1.map G0),p.2])/\DaPd K F xs ps
 | .ext φ,.dict [(.bool false,.tuple L)]=>∃(a':Addr) (ep:Nat) (xs:List ((List Int×List Int)×Addr×V)) (ps:List ((List Int×List Int)×D)),HO.ext φ=extD hB a' ep xs/\L=ps.map (λp=>.tuple [.tuple [.tuple (p.1.1.map G0),.tuple (p.1.2.map G0)],p.2])/\DaBd K F xs ps
 | _,_=>False
section
variable {K:Fg}{F F':Hp}{o:HO}{d:D}{a:Addr}
theorem Own1.ext{φ:Heap->Prop}(h:Own1 K F (.ext φ) d):(∃(a':Addr) (ep:Nat) (xs:List (List Int×Addr×V)) (ps:List (List Int×D)),HO.ext φ=extD hL a' ep xs/\d=pdD ps/\DaPd K F xs ps) \/
  ∃(a':Addr) (ep:Nat) (xs:List ((List Int×List Int)×Addr×V)) (ps:List ((List Int×List Int)×D)),HO.ext φ=extD hB a' ep xs/\d=bdD ps/\DaBd K F xs ps:=by
 unfold Own1 at h
 split at h
 ·rename_i z;cases z
 ·rename_i z;cases z
 ·rename_i z;cases z
 ·rename_i z
  obtain⟨a',ep,xs,ps,e,rfl,t⟩:=h
  exact .inl ⟨a',ep,xs,ps,z.trans e,rfl,t⟩
 ·rename_i z
  obtain⟨a',ep,xs,ps,e,rfl,t⟩:=h
  exact .inr ⟨a',ep,xs,ps,z.trans e,rfl,t⟩
 ·exact h.elim
theorem Own1.pd{a':Addr}{ep:Nat}{xs:List (List Int×Addr×V)}{ps:List (List Int×D)}(h:DaPd K F xs ps):Own1 K F (extD hL a' ep xs) (pdD ps):=⟨a',ep,xs,ps,rfl,rfl,h⟩
theorem Own1.mono(s:Sub F F')(h:Own1 K F o d):Own1 K F' o d:=by
 cases o with
 | ext φ =>
  rcases h.ext with⟨a',ep,xs,ps,e,rfl,t⟩|⟨a',ep,xs,ps,e,rfl,t⟩
  ·exact ⟨a',ep,xs,ps,e,rfl,t.mono s⟩
  ·exact ⟨a',ep,xs,ps,e,rfl,t.mono s⟩
 | _=>cases d<;>first|exact DaAll.mono s h|exact DaKV.mono s h|exact DaKT.mono s h|exact h.elim
theorem Own1.da(h:Own1 K F o d)(e:F a=some o):Da K F (.ref a) d:=by
 cases o with
 | ext φ =>
  rcases h.ext with⟨a',ep,xs,ps,z,rfl,t⟩|⟨a',ep,xs,ps,z,rfl,t⟩
  ·rw[z]at e
   exact .pd e t
  ·rw[z]at e
   exact .bd e t
 | _=>cases d<;>first|exact .lst e h|exact .dk (.inl e) h|exact .dt (.inl e) h|exact h.elim
end
noncomputable def lamN:List Str:=["all_around","_law_made","_law_settle","exchanged","mirrored","stretched","cut"]
noncomputable def TB(K:Fg):List (Addr×Str):=lamN.filterMap λx=>(Q8 K x).map λz=>(z.2,x)
noncomputable def stk:HO->Bool
 | .tbl _=>true
 | .frz _ _=>true
 | _=>false
noncomputable abbrev codO(c:Addr)(o:Obj):HO:=.frz o (.ext λh=>∃o,h.get? c=some o)
noncomputable def CodQ(x:Str)(o:Obj):Prop:=∃vs t,o.data=.fields vs/\vs[1]?=some (.str (x ++ ".<locals>.<lambda>") t)
noncomputable def TabOk(K:Fg)(F H:Hp):Prop:=∀z∈TB K,F z.1=none/\∃ps,H z.1=some (.tbl ps)/\PySem.TriplesOk ps.toList/\∀pos v,codeAmong pos ps.toList=some v->∃c o,v=.ref c/\H c=some (codO c o)/\CodQ z.2 o
theorem TabOk.up{K:Fg}{F F' H H':Hp}(T:TabOk K F H)(kp:∀a o,stk o=true->H a=some o->H' a=some o)(hF:∀z∈TB K,F' z.1=none):TabOk K F' H':=λz hz=>by
 obtain⟨_,ps,e,t,q⟩:=T z hz
 refine ⟨hF z hz,ps,kp _ _ rfl e,t,λpos v ev=>?_⟩
 obtain⟨c,o,e1,e2,e3⟩:=q pos v ev
 exact ⟨c,o,e1,kp _ _ rfl e2,e3⟩
theorem TabOk.put{K:Fg}{F H:Hp}{a:Addr}{o:HO}(T:TabOk K F H)(n:∀u,H a=some u->stk u=false):TabOk K F (upd H a o) :=
 T.up (λb u s e=>by rw[upd_ne λz=>by subst z;rw[n u e]at s;cases s];exact e) λz hz=>(T z hz).1
theorem TabOk.ne{K:Fg}{F H:Hp}{a:Addr}(T:TabOk K F H)(n:∀u,H a=some u->stk u=false):∀z∈TB K,z.1≠a:=λz hz e=>by
 obtain⟨_,ps,e1,_⟩:=T z hz
 rw[e]at e1
 cases n _ e1
theorem TabOk.F{K:Fg}{F H:Hp}{a:Addr}{o:HO}(T:TabOk K F H)(n:∀u,H a=some u->stk u=false):TabOk K (upd F a o) H :=
 T.up (λ_ _ _ e=>e) λz hz=>by rw[upd_ne (T.ne n z hz)];exact (T z hz).1
theorem Own1.stk{K:Fg}{F:Hp}{o:HO}{d:D}(h:Own1 K F o d):stk o=false:=by
 cases o<;>first|rfl|(cases d<;>exact h.elim)
structure Gh where
 H0:Hp
 F0:Hp
 io:Nat->Option Addr
structure Rel(K:Fg)(G:Gh)(F:Hp)(σ:St)(H:Hp)(ρ:Ev):Prop where
 len:σ.length=ρ.length
 sub:Sub F H
 sub0:Sub G.F0 F
 fn:∀a o,F a=some o->G.F0 a=some o\/G.H0 a=none
 keep:∀a o,G.H0 a=some o->(∀i,G.io i≠some a)->(∀z∈TB K,z.1≠a)->H a=some o
 tb:TabOk K F H
 fz:∀(i:Nat) (d:D),ρ[i]?=some (some (Sl.fz d))->∃v,σ[i]?=some (some v)/\Da K F v d
 ow:∀(i:Nat) (s:Sl),ρ[i]?=some (some s)->isOw s=true->∃a o,σ[i]?=some (some (V.ref a))/\F a=none/\H a=some o/\Own1 K F o s.d
 new:∀(i:Nat) (d:D) (a:Addr),ρ[i]?=some (some (Sl.ow d))->σ[i]?=some (some (V.ref a))->G.H0 a=none
 io:∀(i:Nat) (a:Addr),G.io i=some a->∃d,ρ[i]?=some (some (Sl.io d))/\σ[i]?=some (some (V.ref a))
 ioi:∀(i:Nat) (d:D),ρ[i]?=some (some (Sl.io d))->∃a,G.io i=some a
 ap:∀(i j:Nat) (s t:Sl) (a:Addr),ρ[i]?=some (some s)->isOw s=true->ρ[j]?=some (some t)->isOw t=true->σ[i]?=some (some (V.ref a))->σ[j]?=some (some (V.ref a))->i=j
noncomputable def Res(K:Fg)(G:Gh)(F H:Hp)(σ:St)(ρ:Ev)(v:V):Sl->Prop
 | .fz d=>Da K F v d
 | .ow d=>∃a o,v=.ref a/\F a=none/\H a=some o/\Own1 K F o d/\G.H0 a=none/\∀(i:Nat) (s:Sl),ρ[i]?=some (some s)->isOw s=true->σ[i]?≠some (some (V.ref a))
 | .io _=>False
section
variable {K:Fg}{G:Gh}{F F' H:Hp}{σ:St}{ρ:Ev}{a:Addr}{o:HO}{d:D}{v:V}{s:Sl}
theorem Rel.bound(R:Rel K G F σ H ρ){i:Nat}(h:ρ[i]?=some (some s)):∃v,σ[i]?=some (some v):=by
 cases s with
 | fz d=>obtain⟨v,e,_⟩:=R.fz i d h;exact ⟨v,e⟩
 | ow d=>obtain⟨a,o,e,_⟩:=R.ow i _ h rfl;exact ⟨_,e⟩
 | io d=>obtain⟨a,o,e,_⟩:=R.ow i _ h rfl;exact ⟨_,e⟩
theorem Rel.h0(R:Rel K G F σ H ρ)(h:H a=none):G.H0 a=none:=by
 cases e:G.H0 a with
 | none=>rfl
 | some o =>
  by_cases q:∃i,G.io i=some a
  ·obtain⟨i,q⟩:=q
   obtain⟨d,h1,h2⟩:=R.io i a q
   obtain⟨a',o',h3,_,h4,_⟩:=R.ow i _ h1 rfl
   rw[h2]at h3
   cases h3
   rw[h]at h4;cases h4
  ·have:=R.keep a o e (λi z=>q ⟨i,z⟩) (R.tb.ne λu z=>by rw[h]at z;cases z)
   rw[h]at this;cases this
theorem Rel.f0(R:Rel K G F σ H ρ)(h:H a=none):F a=none:=by
 cases e:F a with
 | none=>rfl
 | some o=>rw[R.sub a o e]at h;cases h
theorem Rel.laid(R:Rel K G F σ H ρ)(h:H a=none):Rel K G F σ (upd H a o) ρ where
 len:=R.len
 sub:=λb u e=>by rw[upd_ne (ne_of_none (R.sub b u e) h)];exact R.sub b u e
 sub0:=R.sub0
 fn:=R.fn
 keep:=λb u e n t=>by rw[upd_ne (ne_of_none (R.keep b u e n t) h)];exact R.keep b u e n t
 tb:=R.tb.put λu z=>by rw[h]at z;cases z
 fz:=R.fz
 ow:=λi s e w=>by
  obtain⟨a',o',h1,h2,h3,h4⟩:=R.ow i s e w
  exact ⟨a',o',h1,h2,by rw[upd_ne (ne_of_none h3 h)];exact h3,h4⟩
 new:=R.new
 io:=R.io
 ioi:=R.ioi
 ap:=R.ap
theorem Rel.grow(R:Rel K G F σ H ρ)(h0:G.H0 a=none)(h:H a=some o)(hn:∀(i:Nat) (s:Sl),ρ[i]?=some (some s)->isOw s=true->σ[i]?≠some (some (V.ref a)))(hk:stk o=false:=by rfl):Sub F (upd F a o)/\Rel K G (upd F a o) σ H ρ:=by
 have sb:Sub F (upd F a o):=λb u e=>by
  by_cases z:b=a
  ·subst z;rw[upd_same,<- h];exact R.sub _ _ e
  ·rw[upd_ne z];exact e
 refine ⟨sb,R.len,λb u e=>?_,R.sub0.trans sb,λb u e=>?_,R.keep,R.tb.F λu z=>by rw[h]at z;cases z;exact hk,λi d e=>?_,λi s e w=>?_,R.new,R.io,R.ioi,R.ap⟩
 ·by_cases z:b=a
  ·subst z;rw[upd_same]at e;rw[h];exact e
  ·rw[upd_ne z]at e;exact R.sub _ _ e
 ·by_cases z:b=a
  ·subst z;exact .inr h0
  ·rw[upd_ne z]at e;exact R.fn _ _ e
 ·obtain⟨v,h1,h2⟩:=R.fz i d e
  exact ⟨v,h1,h2.mono sb⟩
 ·obtain⟨a',o',h1,h2,h3,h4⟩:=R.ow i s e w
  have z:a'≠a:=λz=>hn i s e w (by rw[h1,z])
  exact ⟨a',o',h1,by rw[upd_ne z];exact h2,h3,h4.mono sb⟩
theorem Res.frz(R:Rel K G F σ H ρ)(r:Res K G F H σ ρ v s):∃F',Sub F F'/\Rel K G F' σ H ρ/\Da K F' v s.d:=by
 cases s with
 | fz d=>exact ⟨F,Sub.refl _,R,r⟩
 | ow d =>
  obtain⟨a,o,rfl,h1,h2,h3,h4,h5⟩:=r
  obtain⟨sb,R'⟩:=R.grow h4 h2 h5 h3.stk
  exact ⟨_,sb,R',(h3.mono sb).da upd_same⟩
 | io d=>exact r.elim
theorem Rel.newOw(R:Rel K G F σ H ρ)(h:H a=none)(w:Own1 K F o d):Rel K G F σ (upd H a o) ρ/\Res K G F (upd H a o) σ ρ (.ref a) (.ow d):=by
 refine ⟨R.laid h,a,o,rfl,R.f0 h,upd_same,w,R.h0 h,λi s e w z=>?_⟩
 obtain⟨a',o',h1,h2,h3,h4⟩:=R.ow i s e w
 rw[z]at h1
 cases h1
 rw[h]at h3;cases h3
theorem Rel.newTup(R:Rel K G F σ H ρ){xs:List V}{ds:List D}(h:H a=none)(w:DaAll K F xs ds) :
  Sub F (upd F a (.tup xs))/\Rel K G (upd F a (.tup xs)) σ (upd H a (.tup xs)) ρ/\Da K (upd F a (.tup xs)) (.ref a) (.tuple ds):=by
 have R1:Rel K G F σ (upd H a (.tup xs)) ρ:=R.laid h
 obtain⟨sb,R2⟩:=R1.grow (a:=a) (o:=.tup xs) (R.h0 h) upd_same λi s e w z=>by
  obtain⟨a',o',h1,h2,h3,h4⟩:=R.ow i s e w
  rw[z]at h1
  cases h1
  rw[h]at h3;cases h3
 exact ⟨sb,R2,.tup upd_same (w.mono sb)⟩
noncomputable def Sl.put:Sl->D->Sl
 | .fz _,d=>.fz d
 | .ow _,d=>.ow d
 | .io _,d=>.io d
theorem get_set{α:Type}{l:List α}{i j:Nat}{x y:α}(h:(l.set i x)[j]?=some y):(j=i/\y=x)\/(j≠i/\l[j]?=some y):=by
 by_cases z:i=j
 ·subst z
  rw[List.getElem?_set]at h
  simp at h
  exact .inl ⟨rfl,h.2.symm⟩
 ·rw[O1 z]at h
  exact .inr ⟨λq=>z q.symm,h⟩
theorem set_get{α:Type}{l:List α}{i:Nat}{x:α}(h:i < l.length):(l.set i x)[i]?=some x:=by simp[h]
theorem lt_of_get{α:Type}{l:List α}{i:Nat}{x:α}(h:l[i]?=some x):i < l.length:=(W0.mp h).1
theorem Rel.change(R:Rel K G F σ H ρ){i:Nat}{o':HO}{d':D}(h:ρ[i]?=some (some s))(w:isOw s=true)(ha:σ[i]?=some (some (V.ref a)))(q:Own1 K F o' d') :
  Rel K G F σ (upd H a o') (ρ.set i (some (s.put d'))):=by
 obtain⟨a0,o0,h1,h2,h3,h4⟩:=R.ow i s h w
 rw[ha]at h1;cases h1
 have sw:isOw (s.put d')=true:=by cases s<;>first|rfl|cases w
 have hl:=lt_of_get h
 refine ⟨by rw[T3];exact R.len,λb u e=>?_,R.sub0,R.fn,λb u e n t=>?_,R.tb.put λu z=>by rw[h3]at z;cases z;exact h4.stk,λj d e=>?_,λj t e wt=>?_,λj d b e eb=>?_,λj b e=>?_,λj d e=>?_,λj k t u b e1 w1 e2 w2 e3 e4=>?_⟩
 ·have z:b≠a:=λz=>by subst z;rw[h2]at e;cases e
  rw[upd_ne z];exact R.sub _ _ e
 ·by_cases z:b=a
  ·subst z
   cases s with
   | fz d=>cases w
   | ow d=>rw[R.new i d b h ha]at e;cases e
   | io d =>
    obtain⟨a',e'⟩:=R.ioi i d h
    obtain⟨d',_,e2⟩:=R.io i a' e'
    rw[ha]at e2;cases e2
    exact absurd e' (n i)
  ·rw[upd_ne z];exact R.keep _ _ e n t
 ·rcases get_set e with⟨rfl,z⟩|⟨n,z⟩
  ·cases s<;>simp[Sl.put,isOw]at z w
  ·exact R.fz j d z
 ·rcases get_set e with⟨rfl,z⟩|⟨n,z⟩
  ·cases z
   exact ⟨a,o',ha,h2,upd_same,by cases s<;>first|exact q|cases w⟩
  ·obtain⟨b,u,g1,g2,g3,g4⟩:=R.ow j t z wt
   have nb:b≠a:=λx=>n (R.ap j i t s a z wt h w (by rw[g1,x]) ha)
   exact ⟨b,u,g1,g2,by rw[upd_ne nb];exact g3,g4⟩
 ·rcases get_set e with⟨rfl,z⟩|⟨n,z⟩
  ·cases s with
   | fz d=>cases w
   | ow d0=>exact R.new j d0 b h eb
   | io d=>cases z
  ·exact R.new j d b z eb
 ·obtain⟨d,e1,e2⟩:=R.io j b e
  by_cases z:j=i
  ·subst z
   rw[h]at e1
   cases e1
   exact ⟨d',by rw[set_get hl];rfl,e2⟩
  ·exact ⟨d,by rw[O1 (v3 z)];exact e1,e2⟩
 ·rcases get_set e with⟨rfl,z⟩|⟨n,z⟩
  ·cases s with
   | fz d=>cases w
   | ow d0=>cases z
   | io d0=>exact R.ioi j d0 h
  ·exact R.ioi j d z
 ·have f:∀(j:Nat) (t:Sl),(ρ.set i (some (s.put d')))[j]?=some (some t)->isOw t=true->∃t',ρ[j]?=some (some t')/\isOw t'=true:=λj t e wt=>by
   rcases get_set e with⟨rfl,z⟩|⟨n,z⟩
   ·exact ⟨s,h,w⟩
   ·exact ⟨t,z,wt⟩
  obtain⟨t',e1',w1'⟩:=f j t e1 w1
  obtain⟨u',e2',w2'⟩:=f k u e2 w2
  exact R.ap j k t' u' b e1' w1' e2' w2' e3 e4
theorem Rel.forget(R:Rel K G F σ H ρ){i:Nat}(h:ρ[i]?=some (some (Sl.ow d))):Rel K G F σ H (ρ.set i none):=by
 refine ⟨by rw[T3];exact R.len,R.sub,R.sub0,R.fn,R.keep,R.tb,λj d e=>?_,λj t e wt=>?_,λj d b e eb=>?_,λj b e=>?_,λj d e=>?_,λj k t u b e1 w1 e2 w2 e3 e4=>?_⟩
 ·rcases get_set e with⟨rfl,z⟩|⟨n,z⟩
  ·cases z
  ·exact R.fz j d z
 ·rcases get_set e with⟨rfl,z⟩|⟨n,z⟩
  ·cases z
  ·exact R.ow j t z wt
 ·rcases get_set e with⟨rfl,z⟩|⟨n,z⟩
  ·cases z
  ·exact R.new j d b z eb
 ·obtain⟨d',e1,e2⟩:=R.io j b e
  have n:i≠j:=λz=>by subst z;rw[h]at e1;cases e1
  exact ⟨d',by rw[O1 n];exact e1,e2⟩
 ·rcases get_set e with⟨rfl,z⟩|⟨n,z⟩
  ·cases z
  ·exact R.ioi j d z
 ·rcases get_set e1 with⟨rfl,z⟩|⟨n,z⟩
  ·cases z
  ·rcases get_set e2 with⟨rfl,z'⟩|⟨n',z'⟩
   ·cases z'
   ·exact R.ap j k t u b z w1 z' w2 e3 e4
theorem Rel.freeze(R:Rel K G F σ H ρ){i:Nat}(h:ρ[i]?=some (some (Sl.ow d))):∃F' v,Sub F F'/\Rel K G F' σ H (ρ.set i (some (Sl.fz d)))/\σ[i]?=some (some v)/\Da K F' v d:=by
 obtain⟨a,o,h1,h2,h3,h4⟩:=R.ow i _ h rfl
 have hl:=lt_of_get h
 have R1:=R.forget h
 have hn:∀(j:Nat) (s:Sl),(ρ.set i none)[j]?=some (some s)->isOw s=true->σ[j]?≠some (some (V.ref a)):=λj s e w z=>by
  rcases get_set e with⟨rfl,q⟩|⟨n,q⟩
  ·cases q
  ·exact n (R.ap j i s _ a q w h rfl z h1)
 obtain⟨sb,R2⟩:=R1.grow (R.new i d a h h1) h3 hn h4.stk
 have dd:Da K (upd F a o) (.ref a) d:=(h4.mono sb).da upd_same
 refine ⟨_,_,sb,?_,h1,dd⟩
 refine ⟨by rw[T3];exact R.len,R2.sub,R2.sub0,R2.fn,R2.keep,R2.tb,λj d' e=>?_,λj t e wt=>?_,λj d b e eb=>?_,λj b e=>?_,λj d e=>?_,λj k t u b e1 w1 e2 w2 e3 e4=>?_⟩
 ·rcases get_set e with⟨rfl,z⟩|⟨n,z⟩
  ·cases z;exact ⟨_,h1,dd⟩
  ·exact R2.fz j d' (by rw[O1 (v3 n)];exact z)
 ·rcases get_set e with⟨rfl,z⟩|⟨n,z⟩
  ·cases z;cases wt
  ·exact R2.ow j t (by rw[O1 (v3 n)];exact z) wt
 ·rcases get_set e with⟨rfl,z⟩|⟨n,z⟩
  ·cases z
  ·exact R.new j d b z eb
 ·obtain⟨d',e1,e2⟩:=R.io j b e
  have n:i≠j:=λz=>by subst z;rw[h]at e1;cases e1
  exact ⟨d',by rw[O1 n];exact e1,e2⟩
 ·rcases get_set e with⟨rfl,z⟩|⟨n,z⟩
  ·cases z
  ·exact R.ioi j d z
 ·rcases get_set e1 with⟨rfl,z⟩|⟨n,z⟩
  ·cases z;cases w1
  ·rcases get_set e2 with⟨rfl,z'⟩|⟨n',z'⟩
   ·cases z';cases w2
   ·exact R.ap j k t u b z w1 z' w2 e3 e4
theorem Rel.forgetRes(R:Rel K G F σ H ρ){i:Nat}(h:ρ[i]?=some (some (Sl.ow d))):∃v,σ[i]?=some (some v)/\Res K G F H σ (ρ.set i none) v (.ow d):=by
 obtain⟨a,o,h1,h2,h3,h4⟩:=R.ow i _ h rfl
 refine ⟨_,h1,a,o,rfl,h2,h3,h4,R.new i d a h h1,λj s e w z=>?_⟩
 rcases get_set e with⟨rfl,q⟩|⟨n,q⟩
 ·cases q
 ·exact n (R.ap j i s _ a q w h rfl z h1)
noncomputable def noIo(ρ:Ev)(i:Nat):Prop:=match ρ[i]? with
 | some (some (Sl.io _))=>False
 | some _=>True
 | none=>False
theorem Rel.asg(R:Rel K G F σ H ρ){i:Nat}(hi:noIo ρ i)(r:Res K G F H σ ρ v s):Rel K G F (σ.set i (some v)) H (ρ.set i (some s)):=by
 have hl:i < ρ.length:=by
  cases e:ρ[i]? with
  | none=>unfold noIo at hi;rw[e]at hi;exact hi.elim
  | some x=>exact lt_of_get e
 have hl':i < σ.length:=by rw[R.len];exact hl
 have ni:∀d,ρ[i]?≠some (some (Sl.io d)):=λd e=>by unfold noIo at hi;rw[e]at hi;exact hi
 refine ⟨by rw[T3,T3];exact R.len,R.sub,R.sub0,R.fn,R.keep,R.tb,λj d e=>?_,λj t e wt=>?_,λj d b e eb=>?_,λj b e=>?_,λj d e=>?_,λj k t u b e1 w1 e2 w2 e3 e4=>?_⟩
 ·rcases get_set e with⟨rfl,z⟩|⟨n,z⟩
  ·cases z;exact ⟨v,set_get hl',r⟩
  ·rw[O1 (v3 n)];exact R.fz j d z
 ·rcases get_set e with⟨rfl,z⟩|⟨n,z⟩
  ·cases z
   cases s with
   | fz d=>cases wt
   | ow d =>
    obtain⟨a,o,rfl,h1,h2,h3,_⟩:=r
    exact ⟨a,o,set_get hl',h1,h2,h3⟩
   | io d=>exact r.elim
  ·rw[O1 (v3 n)];exact R.ow j t z wt
 ·rcases get_set e with⟨rfl,z⟩|⟨n,z⟩
  ·cases z
   obtain⟨a,o,rfl,h1,h2,h3,h4,_⟩:=r
   rw[set_get hl']at eb;cases eb
   exact h4
  ·rw[O1 (v3 n)]at eb;exact R.new j d b z eb
 ·obtain⟨d,e1,e2⟩:=R.io j b e
  have n:i≠j:=λz=>by subst z;exact ni d e1
  exact ⟨d,by rw[O1 n];exact e1,by rw[O1 n];exact e2⟩
 ·rcases get_set e with⟨rfl,z⟩|⟨n,z⟩
  ·cases z;exact r.elim
  ·exact R.ioi j d z
 ·have own:∀(j:Nat) (t:Sl),j≠i->ρ[j]?=some (some t)->isOw t=true->(σ.set i (some v))[j]?=some (some (V.ref b))->s.d=s.d->isOw s=true->v=.ref b->False:=λj t n e w eb _ ws ev=>by
   subst ev
   cases s with
   | fz d=>cases ws
   | io d=>exact r
   | ow d =>
    obtain⟨a,o,z,h1,h2,h3,h4,h5⟩:=r
    cases z
    rw[O1 (v3 n)]at eb
    exact h5 j t e w eb
  rcases get_set e1 with⟨rfl,z⟩|⟨n,z⟩
  ·rcases get_set e2 with⟨rfl,z'⟩|⟨n',z'⟩
   ·rfl
   ·rw[set_get hl']at e3;cases e3
    cases z
    exact (own k u n' z' w2 e4 rfl w1 rfl).elim
  ·rcases get_set e2 with⟨rfl,z'⟩|⟨n',z'⟩
   ·rw[set_get hl']at e4;cases e4
    cases z'
    exact (own j t n z w1 e3 rfl w2 rfl).elim
   ·rw[O1 (v3 n)]at e3
    rw[O1 (v3 n')]at e4
    exact R.ap j k t u b z w1 z' w2 e3 e4
end
noncomputable abbrev TD:=Ev->(Sl->Ev->Prop)->Prop
noncomputable abbrev TTD:=Ev->(Bool->Ev->Prop)->Prop
noncomputable abbrev Opd:=Sum Nat D
noncomputable abbrev AD:=Sum Nat TD
noncomputable def lift(K:Fg)(td:TD):TE:=λσ H Q=>∃(G:Gh) (F:Hp) (ρ:Ev) (Qd:Sl->Ev->Prop),Rel K G F σ H ρ/\td ρ Qd /\
 ∀v H' F' r ρ',Sub F F'->Rel K G F' σ H' ρ'->Res K G F' H' σ ρ' v r->Qd r ρ'->Q v H'
noncomputable def liftT(K:Fg)(tc:TTD):TT:=λσ H Q=>∃(G:Gh) (F:Hp) (ρ:Ev) (Qd:Bool->Ev->Prop),Rel K G F σ H ρ/\tc ρ Qd /\
 ∀b H' F' ρ',Sub F F'->Rel K G F' σ H' ρ'->Qd b ρ'->Q b H'
noncomputable def argT(K:Fg):AD->TE
 | .inl i=>tVar i
 | .inr td=>lift K td
noncomputable def tArgs:List TE->TA
 | []=>tNil
 | t :: ts=>tCons t (tArgs ts)
theorem argT_mono{K:Fg}{a:AD}{σ:St}{H:Hp}{Q Q':VK}(m:∀v H,Q v H->Q' v H)(h:argT K a σ H Q):argT K a σ H Q':=by
 cases a with
 | inl i=>obtain⟨v,e,q⟩:=h;exact ⟨v,e,m _ _ q⟩
 | inr td =>
  obtain⟨G,F,ρ,Qd,R,w,k⟩:=h
  exact ⟨G,F,ρ,Qd,R,w,λv H' F' r ρ' s R' r' q=>m _ _ (k v H' F' r ρ' s R' r' q)⟩
theorem arg1{K:Fg}{a:AD}{σ:St}{H:Hp}{P:VK}(h:tArgs ([a].map (argT K)) σ H λvs H2=>∃x,vs=[x]/\P x H2):argT K a σ H P :=
 argT_mono (λv H q=>by obtain⟨x,e,q⟩:=q;cases e;exact q) h
theorem arg2{K:Fg}{a b:AD}{σ:St}{H:Hp}{P:V->V->Hp->Prop}(h:tArgs ([a,b].map (argT K)) σ H λvs H2=>∃x y,vs=[x,y]/\P x y H2):argT K a σ H λx H1=>argT K b σ H1 λy H2=>P x y H2 :=
 argT_mono (λv H q=>argT_mono (λu H q=>by obtain⟨x,y,e,q⟩:=q;cases e;exact q) q) h
noncomputable def dVar(i:Nat):TD:=λρ Q=>match ρ[i]? with
 | some (some (.fz d))=>Q (.fz d) ρ
 | some (some (.ow d))=>Q (.fz d) (ρ.set i (some (.fz d)))
 | _=>False
noncomputable def dC(d:D):TD:=λρ Q=>Q (.fz d) ρ
section
variable {K:Fg}{σ:St}{H:Hp}{Q:VK}
theorem l_var{i:Nat}(h:lift K (dVar i) σ H Q):tVar i σ H Q:=by
 obtain⟨G,F,ρ,Qd,R,w,k⟩:=h
 unfold dVar at w
 split at w
 ·rename_i d e
  obtain⟨v,e1,h1⟩:=R.fz i d e
  exact ⟨v,e1,k v H F (.fz d) ρ (Sub.refl _) R h1 w⟩
 ·rename_i d e
  obtain⟨F',v,sb,R',e1,h1⟩:=R.freeze e
  exact ⟨v,e1,k v H F' (.fz d) _ sb R' h1 w⟩
 ·exact w.elim
theorem l_c{v:V}{d:D}(hv:∀F,Da K F v d)(h:lift K (dC d) σ H Q):tC v σ H Q:=by
 obtain⟨G,F,ρ,Qd,R,w,k⟩:=h
 exact k v H F (.fz d) ρ (Sub.refl _) R (hv F) w
end
noncomputable def OpdAt(K:Fg)(F:Hp)(σ:St)(v:V):Opd->Prop
 | .inl i=>σ[i]?=some (some v)
 | .inr d=>Da K F v d
inductive OpdsAt (K:Fg) (F:Hp) (σ:St):List V->List Opd->Prop
 | nil:OpdsAt K F σ [] []
 | cons {v x vs xs}:OpdAt K F σ v x->OpdsAt K F σ vs xs->OpdsAt K F σ (v :: vs) (x :: xs)
noncomputable def dArgs:List AD->Ev->(List Opd->Ev->Prop)->Prop
 | [],ρ,Q=>Q [] ρ
 | .inl i :: as,ρ,Q=>match ρ[i]? with
  | some (some _)=>dArgs as ρ λxs ρ'=>Q (.inl i :: xs) ρ'
  | _=>False
 | .inr td :: as,ρ,Q=>td ρ λr ρ1=>dArgs as ρ1 λxs ρ2=>Q (.inr r.d :: xs) ρ2
theorem args_okL{K:Fg}{G:Gh}{σ:St}:∀{as:List AD}{F H:Hp}{ρ:Ev}{Qd:List Opd->Ev->Prop}{Qv:List V->Hp->Prop},Rel K G F σ H ρ->dArgs as ρ Qd ->
  (∀vs H' F' xs ρ',Sub F F'->Rel K G F' σ H' ρ'->OpdsAt K F' σ vs xs->vs.length=as.length->Qd xs ρ'->Qv vs H')->tArgs (as.map (argT K)) σ H Qv
 | [],F,H,ρ,Qd,Qv,R,w,k=>k [] H F [] ρ (Sub.refl _) R .nil rfl w
 | .inl i :: as,F,H,ρ,Qd,Qv,R,w,k=>by
  unfold dArgs at w
  split at w
  ·rename_i s e
   obtain⟨v,ev⟩:=R.bound e
   refine ⟨v,ev,args_okL (as:=as) R w λvs H' F' xs ρ' sb R' o hl q=>?_⟩
   exact k (v :: vs) H' F' (.inl i :: xs) ρ' sb R' (.cons ev o) (by simp[hl]) q
  ·exact w.elim
 | .inr td :: as,F,H,ρ,Qd,Qv,R,w,k=>by
  refine ⟨G,F,ρ,_,R,w,λv H1 F1 r ρ1 s1 R1 r1 w1=>?_⟩
  obtain⟨F2,s2,R2,d2⟩:=r1.frz R1
  refine args_okL (as:=as) R2 w1 λvs H' F' xs ρ' sb R' o hl q=>?_
  exact k (v :: vs) H' F' (.inr r.d :: xs) ρ' (s1.trans (s2.trans sb)) R' (.cons (d2.mono sb) o) (by simp[hl]) q
theorem args_ok{K:Fg}{G:Gh}{σ:St}{as:List AD}{F H:Hp}{ρ:Ev}{Qd:List Opd->Ev->Prop}{Qv:List V->Hp->Prop}(R:Rel K G F σ H ρ)(w:dArgs as ρ Qd)
  (k:∀vs H' F' xs ρ',Sub F F'->Rel K G F' σ H' ρ'->OpdsAt K F' σ vs xs->Qd xs ρ'->Qv vs H'):tArgs (as.map (argT K)) σ H Qv:=args_okL R w λvs H' F' xs ρ' s R' o _ q=>k vs H' F' xs ρ' s R' o q
noncomputable def At(K:Fg)(F H:Hp)(v:V)(d:D):Prop:=Da K F v d\/∃a o,v=.ref a/\F a=none/\H a=some o/\Own1 K F o d
inductive AtAll (K:Fg) (F H:Hp):List V->List D->Prop
 | nil:AtAll K F H [] []
 | cons {v d vs ds}:At K F H v d->AtAll K F H vs ds->AtAll K F H (v :: vs) (d :: ds)
noncomputable def looksQ(ρ:Ev):List Opd->(List D->Prop)->Prop
 | [],k=>k []
 | .inr d :: xs,k=>looksQ ρ xs λds=>k (d :: ds)
 | .inl i :: xs,k=>match ρ[i]? with
  | some (some s)=>looksQ ρ xs λds=>k (s.d :: ds)
  | _=>False
section
variable {K:Fg}{G:Gh}{F H:Hp}{σ:St}{ρ:Ev}
theorem Rel.at(R:Rel K G F σ H ρ){i:Nat}{s:Sl}{v:V}(e:ρ[i]?=some (some s))(ev:σ[i]?=some (some v)):At K F H v s.d:=by
 cases s with
 | fz d =>
  obtain⟨v',e1,h1⟩:=R.fz i d e
  rw[ev]at e1;cases e1
  exact .inl h1
 | ow d =>
  obtain⟨a,o,h1,h2,h3,h4⟩:=R.ow i _ e rfl
  rw[ev]at h1;cases h1
  exact .inr ⟨a,o,rfl,h2,h3,h4⟩
 | io d =>
  obtain⟨a,o,h1,h2,h3,h4⟩:=R.ow i _ e rfl
  rw[ev]at h1;cases h1
  exact .inr ⟨a,o,rfl,h2,h3,h4⟩
theorem looks_ok(R:Rel K G F σ H ρ){xs:List Opd}{vs:List V}{k:List D->Prop}(o:OpdsAt K F σ vs xs)(h:looksQ ρ xs k):∃ds,AtAll K F H vs ds/\k ds:=by
 induction o generalizing k with
 | nil=>exact ⟨[],.nil,h⟩
 | @cons v x vs xs o t ih =>
  cases x with
  | inr d =>
   obtain⟨ds,a,q⟩:=ih (k:=λds=>k (d :: ds)) h
   exact ⟨d :: ds,.cons (.inl o) a,q⟩
  | inl i =>
   unfold looksQ at h
   split at h
   ·rename_i s e
    obtain⟨ds,a,q⟩:=ih (k:=λds=>k (s.d :: ds)) h
    exact ⟨s.d :: ds,.cons (R.at e o) a,q⟩
   ·exact h.elim
end
noncomputable def dOp(as:List AD)(f:List D->(Sl->Prop)->Prop):TD:=λρ Q=>dArgs as ρ λxs ρ1=>looksQ ρ1 xs λds=>f ds λr=>Q r ρ1
noncomputable def OpOk(K:Fg)(r:List V->Hp->VK->Prop)(f:List D->(Sl->Prop)->Prop):Prop :=
 ∀(G:Gh) (F:Hp) (σ:St) (H:Hp) (ρ:Ev) (vs:List V) (ds:List D) (Q:VK) (Qd:Sl->Prop),Rel K G F σ H ρ->AtAll K F H vs ds->f ds Qd ->
  (∀v H' F' s,Sub F F'->Rel K G F' σ H' ρ->Res K G F' H' σ ρ v s->Qd s->Q v H')->r vs H Q
theorem l_op{K:Fg}{as:List AD}{r:List V->Hp->VK->Prop}{f:List D->(Sl->Prop)->Prop}(ok:OpOk K r f){σ:St}{H:Hp}{Q:VK}(h:lift K (dOp as f) σ H Q):tArgs (as.map (argT K)) σ H λvs H1=>r vs H1 Q:=by
 obtain⟨G,F,ρ,Qd,R,w,k⟩:=h
 refine args_ok R w λvs H' F' xs ρ' sb R' o q=>?_
 obtain⟨ds,ha,q⟩:=looks_ok R' o q
 exact ok G F' σ H' ρ' vs ds Q _ R' ha q λv H2 F2 s s2 R2 r2 q2=>k v H2 F2 s ρ' (sb.trans s2) R2 r2 q2
noncomputable def o1(f:D->(Sl->Prop)->Prop):List D->(Sl->Prop)->Prop
 | [x],Q=>f x Q
 | _,_=>False
noncomputable def o2(f:D->D->(Sl->Prop)->Prop):List D->(Sl->Prop)->Prop
 | [x,y],Q=>f x y Q
 | _,_=>False
noncomputable def o3(f:D->D->D->(Sl->Prop)->Prop):List D->(Sl->Prop)->Prop
 | [x,y,z],Q=>f x y z Q
 | _,_=>False
noncomputable def dTst(td:TD):TTD:=λρ Q=>td ρ λr ρ'=>match r with
 | .fz (.bool b)=>Q b ρ'
 | _=>False
noncomputable def dNot(c:TTD):TTD:=λρ Q=>c ρ λb ρ'=>Q (!b) ρ'
noncomputable def dAnd(c e:TTD):TTD:=λρ Q=>c ρ λb ρ'=>if b=true then e ρ' Q else Q false ρ'
noncomputable def dOr(c e:TTD):TTD:=λρ Q=>c ρ λb ρ'=>if b=true then Q true ρ' else e ρ' Q
noncomputable def dYes:TTD:=λρ Q=>Q true ρ
section
variable {K:Fg}{σ:St}{H:Hp}
theorem l_tst{td:TD}{t:TE}(ht:∀{σ H Q},lift K td σ H Q->t σ H Q){Q:Bool->Hp->Prop}(h:liftT K (dTst td) σ H Q):tTest t σ H Q:=by
 obtain⟨G,F,ρ,Qd,R,w,k⟩:=h
 refine ht ⟨G,F,ρ,_,R,w,λv H' F' r ρ' sb R' r' q=>?_⟩
 split at q
 ·rename_i b
  cases r'
  exact ⟨b,rfl,k b H' F' ρ' sb R' q⟩
 ·exact q.elim
theorem l_not{c:TTD}{Q:Bool->Hp->Prop}(h:liftT K (dNot c) σ H Q):tNot (liftT K c) σ H Q:=by
 obtain⟨G,F,ρ,Qd,R,w,k⟩:=h
 exact ⟨G,F,ρ,_,R,w,λb H' F' ρ' sb R' q=>k (!b) H' F' ρ' sb R' q⟩
theorem l_and{c e:TTD}{Q:Bool->Hp->Prop}(h:liftT K (dAnd c e) σ H Q):tAnd (liftT K c) (liftT K e) σ H Q:=by
 obtain⟨G,F,ρ,Qd,R,w,k⟩:=h
 refine ⟨G,F,ρ,_,R,w,λb H' F' ρ' sb R' q=>?_⟩
 cases b with
 | true=>exact ⟨G,F',ρ',Qd,R',q,λb H2 F2 ρ2 s2 R2 q2=>k b H2 F2 ρ2 (sb.trans s2) R2 q2⟩
 | false=>exact k false H' F' ρ' sb R' q
theorem l_or{c e:TTD}{Q:Bool->Hp->Prop}(h:liftT K (dOr c e) σ H Q):tOr (liftT K c) (liftT K e) σ H Q:=by
 obtain⟨G,F,ρ,Qd,R,w,k⟩:=h
 refine ⟨G,F,ρ,_,R,w,λb H' F' ρ' sb R' q=>?_⟩
 cases b with
 | true=>exact k true H' F' ρ' sb R' q
 | false=>exact ⟨G,F',ρ',Qd,R',q,λb H2 F2 ρ2 s2 R2 q2=>k b H2 F2 ρ2 (sb.trans s2) R2 q2⟩
theorem l_yes{Q:Bool->Hp->Prop}(h:liftT K dYes σ H Q):tYes σ H Q:=by
 obtain⟨G,F,ρ,Qd,R,w,k⟩:=h
 exact k true H F ρ (Sub.refl _) R w
end
noncomputable def dAndV(a b:TD):TD:=λρ Q=>a ρ λr ρ'=>match r with
 | .fz (.bool c)=>if c=true then b ρ' Q else Q (.fz (.bool false)) ρ'
 | _=>False
noncomputable def dNotV(a:TD):TD:=λρ Q=>a ρ λr ρ'=>match r with
 | .fz (.bool c)=>Q (.fz (.bool (!c))) ρ'
 | _=>False
noncomputable def dIf(c:TTD)(a b:TD):TD:=λρ Q=>c ρ λk ρ'=>if k=true then a ρ' Q else b ρ' Q
section
variable {K:Fg}{σ:St}{H:Hp}{Q:VK}{a b:TD}{c:TTD}
theorem l_andV(h:lift K (dAndV a b) σ H Q):tAndV (lift K a) (lift K b) σ H Q:=by
 obtain⟨G,F,ρ,Qd,R,w,k⟩:=h
 refine ⟨G,F,ρ,_,R,w,λv H' F' r ρ' sb R' r' q=>?_⟩
 split at q
 ·rename_i c
  cases r'
  refine ⟨c,rfl,?_⟩
  cases c with
  | true=>exact ⟨G,F',ρ',Qd,R',q,λv H2 F2 r ρ2 s2 R2 r2 q2=>k v H2 F2 r ρ2 (sb.trans s2) R2 r2 q2⟩
  | false=>exact k _ H' F' (.fz (.bool false)) ρ' sb R' (Da.bl false) q
 ·exact q.elim
theorem l_notV(h:lift K (dNotV a) σ H Q):tNotV (lift K a) σ H Q:=by
 obtain⟨G,F,ρ,Qd,R,w,k⟩:=h
 refine ⟨G,F,ρ,_,R,w,λv H' F' r ρ' sb R' r' q=>?_⟩
 split at q
 ·rename_i c
  cases r'
  exact ⟨c,rfl,k _ H' F' (.fz (.bool (!c))) ρ' sb R' (Da.bl (!c)) q⟩
 ·exact q.elim
theorem l_if(h:lift K (dIf c a b) σ H Q):tIf (liftT K c) (lift K a) (lift K b) σ H Q:=by
 obtain⟨G,F,ρ,Qd,R,w,k⟩:=h
 refine ⟨G,F,ρ,_,R,w,λx H' F' ρ' sb R' q=>?_⟩
 cases x with
 | true=>exact ⟨G,F',ρ',Qd,R',q,λv H2 F2 r ρ2 s2 R2 r2 q2=>k v H2 F2 r ρ2 (sb.trans s2) R2 r2 q2⟩
 | false=>exact ⟨G,F',ρ',Qd,R',q,λv H2 F2 r ρ2 s2 R2 r2 q2=>k v H2 F2 r ρ2 (sb.trans s2) R2 r2 q2⟩
end
theorem noIo_of{ρ:Ev}{i:Nat}{P:Prop}(h:match ρ[i]? with|some (some (.io _))=>False|some _=>P|none=>False):noIo ρ i/\P:=by
 unfold noIo
 cases e:ρ[i]? with
 | none=>rw[e]at h;exact h.elim
 | some x =>
  rw[e]at h
  cases x with
  | none=>exact ⟨trivial,h⟩
  | some s=>cases s with
   | fz d=>exact ⟨trivial,h⟩
   | ow d=>exact ⟨trivial,h⟩
   | io d=>exact h.elim
structure DE where
 nx:Ev->Prop
 rt:Sl->Ev->Prop
 bk:Ev->Prop
 ct:Ev->Prop
noncomputable abbrev TDS:=DE->Ev->Prop
noncomputable def liftS(K:Fg)(ts:TDS):TS:=λD σ H=>∃(G:Gh) (F:Hp) (ρ:Ev) (E:DE),Rel K G F σ H ρ/\ts E ρ /\
 (∀σ' H' F' ρ',Sub F F'->Rel K G F' σ' H' ρ'->E.nx ρ'->D.nx σ' H') /\
 (∀v σ' H' F' r ρ',Sub F F'->Rel K G F' σ' H' ρ'->Res K G F' H' σ' ρ' v r->E.rt r ρ'->D.rt v H') /\
 (∀σ' H' F' ρ',Sub F F'->Rel K G F' σ' H' ρ'->E.bk ρ'->D.bk σ' H') /\
 (∀σ' H' F' ρ',Sub F F'->Rel K G F' σ' H' ρ'->E.ct ρ'->D.ct σ' H')
noncomputable def dNext:TDS:=λE ρ=>E.nx ρ
noncomputable def dSeq(t u:TDS):TDS:=λE ρ=>t { nx:=λρ'=>u E ρ',rt:=E.rt,bk:=E.bk,ct:=E.ct } ρ
noncomputable def dRet(a:TD):TDS:=λE ρ=>a ρ E.rt
noncomputable def dDrop(a:TD):TDS:=λE ρ=>a ρ λ_ ρ'=>E.nx ρ'
noncomputable def dIfS(c:TTD)(t u:TDS):TDS:=λE ρ=>c ρ λb ρ'=>if b=true then t E ρ' else u E ρ'
noncomputable def dSet(i:Nat)(a:TD):TDS:=λE ρ=>a ρ λr ρ'=>match ρ'[i]? with
 | some (some (.io _))=>False
 | some _=>E.nx (ρ'.set i (some r))
 | none=>False
section
variable {K:Fg}{σ:St}{H:Hp}{E:Ends}{t u:TDS}{a:TD}{c:TTD}
theorem l_next(h:liftS K dNext E σ H):tNext E σ H:=by
 obtain⟨G,F,ρ,D,R,w,n,r,b,c⟩:=h
 exact n σ H F ρ (Sub.refl _) R w
theorem later{G:Gh}{F F1 H1:Hp}{ρ1:Ev}{σ1:St}{D:DE}{ts:TDS}(s:Sub F F1)(R:Rel K G F1 σ1 H1 ρ1)(w:ts D ρ1)
  (n:∀σ' H' F' ρ',Sub F F'->Rel K G F' σ' H' ρ'->D.nx ρ'->E.nx σ' H')
  (r:∀v σ' H' F' r ρ',Sub F F'->Rel K G F' σ' H' ρ'->Res K G F' H' σ' ρ' v r->D.rt r ρ'->E.rt v H')
  (b:∀σ' H' F' ρ',Sub F F'->Rel K G F' σ' H' ρ'->D.bk ρ'->E.bk σ' H')
  (c:∀σ' H' F' ρ',Sub F F'->Rel K G F' σ' H' ρ'->D.ct ρ'->E.ct σ' H'):liftS K ts E σ1 H1 :=
 ⟨G,F1,ρ1,D,R,w,λ_ _ _ _ s' R' q=>n _ _ _ _ (s.trans s') R' q,λ_ _ _ _ _ _ s' R' r' q=>r _ _ _ _ _ _ (s.trans s') R' r' q,
   λ_ _ _ _ s' R' q=>b _ _ _ _ (s.trans s') R' q,λ_ _ _ _ s' R' q=>c _ _ _ _ (s.trans s') R' q⟩
theorem l_seq(h:liftS K (dSeq t u) E σ H):tSeq (liftS K t) (liftS K u) E σ H:=by
 obtain⟨G,F,ρ,D,R,w,n,r,b,c⟩:=h
 exact ⟨G,F,ρ,_,R,w,λσ' H' F' ρ' s R' q=>later s R' q n r b c,r,b,c⟩
theorem l_ret(h:liftS K (dRet a) E σ H):tRet (lift K a) E σ H:=by
 obtain⟨G,F,ρ,D,R,w,n,r,b,c⟩:=h
 exact ⟨G,F,ρ,_,R,w,λv H' F' x ρ' s R' r' q=>r v σ H' F' x ρ' s R' r' q⟩
theorem l_drop(h:liftS K (dDrop a) E σ H):tDrop (lift K a) E σ H:=by
 obtain⟨G,F,ρ,D,R,w,n,r,b,c⟩:=h
 exact ⟨G,F,ρ,_,R,w,λv H' F' x ρ' s R' r' q=>n σ H' F' ρ' s R' q⟩
theorem l_ifS(h:liftS K (dIfS c t u) E σ H):tIfS (liftT K c) (liftS K t) (liftS K u) E σ H:=by
 obtain⟨G,F,ρ,D,R,w,n,r,b,c⟩:=h
 refine ⟨G,F,ρ,_,R,w,λx H' F' ρ' s R' q=>?_⟩
 cases x with
 | true=>exact later s R' q n r b c
 | false=>exact later s R' q n r b c
theorem l_set{i:Nat}(h:liftS K (dSet i a) E σ H):tAsg (lift K a) (gName i) E σ H:=by
 obtain⟨G,F,ρ,D,R,w,n,r,b,c⟩:=h
 refine ⟨G,F,ρ,_,R,w,λv H' F' x ρ' s R' r' q=>?_⟩
 have hn:=noIo_of q
 exact n _ H' F' _ s (R'.asg hn.1 r') hn.2
end
noncomputable def dRetV(i:Nat):TDS:=λE ρ=>match ρ[i]? with
 | some (some (.fz d))=>E.rt (.fz d) ρ
 | some (some (.ow d))=>E.rt (.ow d) (ρ.set i none)
 | _=>False
section
variable {K:Fg}{σ:St}{H:Hp}{E:Ends}
theorem l_retV{i:Nat}(h:liftS K (dRetV i) E σ H):tRet (tVar i) E σ H:=by
 obtain⟨G,F,ρ,D,R,w,n,r,b,c⟩:=h
 unfold dRetV at w
 split at w
 ·rename_i d e
  obtain⟨v,e1,h1⟩:=R.fz i d e
  exact ⟨v,e1,r v σ H F (.fz d) ρ (Sub.refl _) R h1 w⟩
 ·rename_i d e
  obtain⟨v,e1,h1⟩:=R.forgetRes e
  exact ⟨v,e1,r v σ H F (.ow d) _ (Sub.refl _) (R.forget e) h1 w⟩
 ·exact w.elim
end
noncomputable abbrev TDG:=D->Ev->(Ev->Prop)->Prop
noncomputable def liftG(K:Fg)(g:TDG):TG:=λv σ H Q=>∃(G:Gh) (F:Hp) (ρ:Ev) (d:D) (Qd:Ev->Prop),Rel K G F σ H ρ/\Da K F v d/\g d ρ Qd/\∀σ' ρ',Rel K G F σ' H ρ'->Qd ρ'->Q σ' H
noncomputable def dGN(i:Nat):TDG:=λd ρ Q=>match ρ[i]? with
 | some (some (.io _))=>False
 | some _=>Q (ρ.set i (some (.fz d)))
 | none=>False
noncomputable def dGs:List TDG->List D->Ev->(Ev->Prop)->Prop
 | [],[],ρ,Q=>Q ρ
 | g :: gs,d :: ds,ρ,Q=>g d ρ λρ'=>dGs gs ds ρ' Q
 | _,_,_,_=>False
noncomputable def dGT(gs:List TDG):TDG:=λd ρ Q=>match d with
 | .tuple ds=>ds.length=gs.length/\dGs gs ds ρ Q
 | _=>False
noncomputable def gAll:List TG->TGs
 | []=>gNil
 | g :: gs=>gCons g (gAll gs)
section
variable {K:Fg}{σ:St}{H:Hp}{v:V}{Q:St->Hp->Prop}
theorem l_gn{i:Nat}(h:liftG K (dGN i) v σ H Q):gName i v σ H Q:=by
 obtain⟨G,F,ρ,d,Qd,R,hd,w,k⟩:=h
 obtain⟨hn,w⟩:=noIo_of w
 exact k _ _ (R.asg (s:=.fz d) hn hd) w
theorem l_gs{G:Gh}{F:Hp}:∀{gs:List TDG}{ds:List D}{vs:List V}{σ:St}{ρ:Ev}{Qd:Ev->Prop},Rel K G F σ H ρ->DaAll K F vs ds->dGs gs ds ρ Qd->(∀σ' ρ',Rel K G F σ' H ρ'->Qd ρ'->Q σ' H)->gAll (gs.map (liftG K)) vs σ H Q
 | [],[],_,σ,ρ,Qd,R,.nil,w,k=>⟨rfl,k σ ρ R w⟩
 | g :: gs,d :: ds,_,σ,ρ,Qd,R,.cons h t,w,k=>⟨_,_,rfl,G,F,ρ,d,_,R,h,w,λσ' ρ' R' w'=>l_gs (gs:=gs) R' t w' k⟩
 | [],_ :: _,_,σ,ρ,Qd,R,_,w,k=>by exact w.elim
 | _ :: _,[],_,σ,ρ,Qd,R,_,w,k=>by exact w.elim
theorem l_gt{gs:List TDG}{n:Nat}(hn:gs.length=n)(h:liftG K (dGT gs) v σ H Q):gTup K n (gAll (gs.map (liftG K))) v σ H Q:=by
 obtain⟨G,F,ρ,d,Qd,R,hd,w,k⟩:=h
 unfold dGT at w
 split at w
 ·cases hd with
  | tup e t=>exact ⟨_,_,rfl,SqT.of (R.sub _ _ e),by rw[t.length,w.1,hn],l_gs R t w.2 k⟩
 ·exact w.elim
end
noncomputable def Walks(K:Fg)(J:It)(F:Hp)(ds:List D):Prop:=∀(i:Nat) (H F1:Hp),Sub F F1->Sub F1 H ->
 (∀d,ds[i]?=some d->J.go i H/\∀x H',J.yld i H x H'->∃F2,Sub F1 F2/\(∀b o,F2 b=some o->F1 b=some o\/H b=none)/\Sub F2 H'/\Sub H H'/\Da K F2 x d)/\(ds.length=i->J.stop i H)
noncomputable abbrev TDI:=Ev->(List D->Ev->Prop)->Prop
noncomputable def liftI(K:Fg)(ti:TDI):TI:=λσ H R=>∃(G:Gh) (F:Hp) (ρ:Ev) (Qd:List D->Ev->Prop),Rel K G F σ H ρ/\ti ρ Qd /\
 ∀J H' F' ds ρ',Sub F F'->Rel K G F' σ H' ρ'->Walks K J F' ds->Qd ds ρ'->R J H'
theorem Rel.turn{K:Fg}{G:Gh}{F F2 H H':Hp}{σ:St}{ρ:Ev}(R:Rel K G F σ H ρ)(s:Sub F F2)(n:∀b o,F2 b=some o->F b=some o\/H b=none)(s2:Sub F2 H')(s3:Sub H H'):Rel K G F2 σ H' ρ where
 len:=R.len
 sub:=s2
 sub0:=R.sub0.trans s
 fn:=λb o e=>by
  rcases n b o e with q|q
  ·exact R.fn b o q
  ·exact .inr (R.h0 q)
 keep:=λa o e m t=>s3 _ _ (R.keep a o e m t)
 tb:=R.tb.up (λ_ _ _ e=>s3 _ _ e) λz hz=>by
  obtain⟨e1,ps,e2,_⟩:=R.tb z hz
  cases q:F2 z.1 with
  | none=>rfl
  | some u =>
   rcases n _ u q with y|y
   ·rw[e1]at y;cases y
   ·rw[e2]at y;cases y
 fz:=λi d e=>by
  obtain⟨v,h1,h2⟩:=R.fz i d e
  exact ⟨v,h1,h2.mono s⟩
 ow:=λi t e w=>by
  obtain⟨a,o,h1,h2,h3,h4⟩:=R.ow i t e w
  refine ⟨a,o,h1,?_,s3 _ _ h3,h4.mono s⟩
  cases q:F2 a with
  | none=>rfl
  | some u =>
   rcases n a u q with z|z
   ·rw[h2]at z;cases z
   ·rw[h3]at z;cases z
 new:=R.new
 io:=R.io
 ioi:=R.ioi
 ap:=R.ap
theorem drop_get{α:Type}{l:List α}{i:Nat}{x:α}(h:l[i]?=some x):l.drop i=x :: l.drop (i+1):=by
 obtain⟨hl,rfl⟩:=W0.mp h
 exact List.drop_eq_getElem_cons hl
noncomputable def dWhile(c:TTD)(tb:TDS):TDS:=λE ρ=>∃W:Nat->Ev->Prop,(∃m,W m ρ)/\∀m ρ,W m ρ->c ρ λb ρ1=>if b=true then
 ∃N:Ev->Prop,(∀ρ',N ρ'->∃m',m' < m/\W m' ρ')/\tb { nx:=N,rt:=E.rt,bk:=E.nx,ct:=N } ρ1 else E.nx ρ1
theorem l_while{K:Fg}{c:TTD}{tb:TDS}{E:Ends}{σ:St}{H:Hp}(h:liftS K (dWhile c tb) E σ H):tWhile (liftT K c) (liftS K tb) E σ H:=by
 obtain⟨G,F,ρ,D,R,⟨W,⟨m0,w0⟩,st⟩,n,r,b,c⟩:=h
 refine ⟨λm σ H=>∃F' ρ',Sub F F'/\Rel K G F' σ H ρ'/\W m ρ',⟨m0,F,ρ,Sub.refl _,R,w0⟩,?_⟩
 rintro m σ H ⟨F',ρ',s',R',w'⟩
 refine ⟨G,F',ρ',_,R',st m ρ' w',λx H1 F1 ρ1 s1 R1 q=>?_⟩
 cases x with
 | false=>exact n σ H1 F1 ρ1 (s'.trans s1) R1 q
 | true =>
  obtain⟨N,hN,q⟩:=q
  refine ⟨λσ2 H2=>∃F2 ρ2,Sub F F2/\Rel K G F2 σ2 H2 ρ2/\N ρ2,λσ2 H2 ⟨F2,ρ2,z1,z2,z3⟩=>?_,?_⟩
  ·obtain⟨m',hm,hw⟩:=hN ρ2 z3
   exact ⟨m',hm,F2,ρ2,z1,z2,hw⟩
  ·refine ⟨G,F1,ρ1,_,R1,q,λσ4 H4 F4 ρ4 s4 R4 q=>?_,λv σ4 H4 F4 x4 ρ4 s4 R4 r4 q=>?_,λσ4 H4 F4 ρ4 s4 R4 q=>?_,λσ4 H4 F4 ρ4 s4 R4 q=>?_⟩
   ·exact ⟨F4,ρ4,s'.trans (s1.trans s4),R4,q⟩
   ·exact r v σ4 H4 F4 x4 ρ4 (s'.trans (s1.trans s4)) R4 r4 q
   ·exact n σ4 H4 F4 ρ4 (s'.trans (s1.trans s4)) R4 q
   ·exact ⟨F4,ρ4,s'.trans (s1.trans s4),R4,q⟩
noncomputable def capt:Option Sl->Option Sl
 | some (.ow d)=>some (.io d)
 | x=>x
noncomputable def innerE(own:List Str)(fr:List Nat)(ρ:Ev):Ev:=own.map (λ_=>none)++fr.map λi=>capt ((ρ[i]?).getD none)
noncomputable def wb1:Option Sl->Option (Option Sl)->Option Sl
 | some (.ow d),some (some (.io d'))=>some (.ow d')
 | some (.io d),some (some (.io d'))=>some (.io d')
 | x,_=>x
noncomputable def wbGo(fr:List Nat)(τ:Ev):Nat->Ev->Ev
 | _,[]=>[]
 | j,x :: ρ=>wb1 x ((fr.zip τ).lookup j) :: wbGo fr τ (j+1) ρ
theorem wbGo_get(fr:List Nat)(τ:Ev):∀(ρ:Ev) (j i:Nat),(wbGo fr τ j ρ)[i]?=(ρ[i]?).map λx=>wb1 x ((fr.zip τ).lookup (j+i))
 | [],j,i=>by simp[wbGo]
 | x :: ρ,j,0=>by simp[wbGo]
 | x :: ρ,j,i+1=>by
  have:=wbGo_get fr τ ρ (j+1) i
  simp only[wbGo,o4]
  rw[this,show j+1+i=j+(i+1) by omega]
theorem wbGo_len(fr:List Nat)(τ:Ev):∀(ρ:Ev) (j:Nat),(wbGo fr τ j ρ).length=ρ.length
 | [],_=>rfl
 | x :: ρ,j=>by simp[wbGo,wbGo_len fr τ ρ (j+1)]
theorem zip_lookup:∀{fr:List Nat}{τ:Ev}{k i:Nat}{x:Option Sl},fr.Nodup->fr[k]?=some i->τ[k]?=some x->(fr.zip τ).lookup i=some x
 | [],_,_,_,_,_,e,_=>by simp at e
 | j :: fr,[],_,_,_,_,_,e=>by simp at e
 | j :: fr,y :: τ,0,i,x,_,e,e'=>by simp at e e';subst e e';simp[R7]
 | j :: fr,y :: τ,k+1,i,x,nd,e,e'=>by
  have nd':=E3.mp nd
  simp at e e'
  have hm:i∈fr:=E1 e
  have ne:(i==j)=false:=by simp;intro z;subst z;exact nd'.1 hm
  simp[R7,ne]
  exact zip_lookup nd'.2 e e'
theorem zip_lookup_mem:∀{fr:List Nat}{τ:Ev}{i:Nat}{x:Option Sl},(fr.zip τ).lookup i=some x->∃k:Nat,fr[k]?=some i/\τ[k]?=some x
 | [],_,_,_,e=>by simp at e
 | j :: fr,[],_,_,e=>by simp at e
 | j :: fr,y :: τ,i,x,e=>by
  by_cases z:i=j
  ·subst z;simp[R7]at e;subst e;exact ⟨0,by simp,by simp⟩
  ·have ne:(i==j)=false:=by simp[z]
   simp[R7,ne]at e
   obtain⟨k,h1,h2⟩:=zip_lookup_mem e
   exact ⟨k+1,by simpa using h1,by simpa using h2⟩
noncomputable def ioOf(σ:St)(ρ:Ev)(i:Nat):Option Addr:=match ρ[i]?,σ[i]? with
 | some (some s),some (some (.ref a))=>if isOw s=true then some a else none
 | _,_=>none
theorem ioOf_some{σ:St}{ρ:Ev}{i:Nat}{a:Addr}(h:ioOf σ ρ i=some a):∃s,ρ[i]?=some (some s)/\isOw s=true/\σ[i]?=some (some (V.ref a)):=by
 unfold ioOf at h
 split at h
 ·rename_i s b e1 e2
  split at h
  ·rename_i w;cases h;exact ⟨s,e1,w,e2⟩
  ·cases h
 ·cases h
theorem ioOf_of{σ:St}{ρ:Ev}{i:Nat}{a:Addr}{s:Sl}(h1:ρ[i]?=some (some s))(h2:isOw s=true)(h3:σ[i]?=some (some (V.ref a))):ioOf σ ρ i=some a:=by
 unfold ioOf;rw[h1,h3];simp[h2]
noncomputable def ghC(own:List Str)(fr:List Nat)(F H:Hp)(σ:St)(ρ:Ev):Gh:=⟨H,F,λj=>if own.length<=j then (match fr[j - own.length]? with|some i=>ioOf σ ρ i|none=>none) else none⟩
theorem ghC_io{own:List Str}{fr:List Nat}{F H:Hp}{σ:St}{ρ:Ev}{j:Nat}{a:Addr}(h:(ghC own fr F H σ ρ).io j=some a):∃k i s,j=own.length+k/\fr[k]?=some i/\ρ[i]?=some (some s)/\isOw s=true/\σ[i]?=some (some (V.ref a)):=by
 unfold ghC at h
 simp only at h
 split at h
 ·rename_i hl
  split at h
  ·rename_i i e
   obtain⟨s,h1,h2,h3⟩:=ioOf_some h
   exact ⟨j - own.length,i,s,by omega,e,h1,h2,h3⟩
  ·cases h
 ·cases h
theorem ghC_of{own:List Str}{fr:List Nat}{F H:Hp}{σ:St}{ρ:Ev}{k i:Nat}{a:Addr}{s:Sl}(h0:fr[k]?=some i)(h1:ρ[i]?=some (some s))(h2:isOw s=true)(h3:σ[i]?=some (some (V.ref a))):(ghC own fr F H σ ρ).io (own.length+k)=some a:=by
 unfold ghC
 simp only
 rw[if_pos (T2 _ _),Nat.add_sub_cancel_left,h0]
 exact ioOf_of h1 h2 h3
theorem inner_get{α:Type}{own:List Str}{fr:List Nat}{f:Nat->Option α}{j:Nat}{x:α}(h:(own.map (λ_=>(none:Option α))++fr.map f)[j]?=some (some x)):∃k i,j=own.length+k/\fr[k]?=some i/\f i=some x:=by
 by_cases hl:j < own.length
 ·rw[X2 (by simpa using hl)]at h
  simp at h
 ·rw[Y1 (by simpa using Z7 hl)]at h
  simp at h
  obtain⟨i,h1,h2⟩:=h
  exact ⟨j - own.length,i,by omega,h1,h2⟩
theorem inner_of{α:Type}{own:List Str}{fr:List Nat}{f:Nat->Option α}{k i:Nat}(h:fr[k]?=some i):(own.map (λ_=>(none:Option α))++fr.map f)[own.length+k]?=some (f i):=by
 rw[Y1 (by simp)]
 simp[h]
theorem capt_get{x:Option Sl}{s:Sl}(h:capt x=some s):∃s0,x=some s0/\((∃d,s0=.fz d/\s=.fz d)\/(isOw s0=true/\s=.io s0.d)):=by
 cases x with
 | none=>cases h
 | some s0 =>
  cases s0 with
  | fz d=>cases h;exact ⟨_,rfl,.inl ⟨d,rfl,rfl⟩⟩
  | ow d=>cases h;exact ⟨_,rfl,.inr ⟨rfl,rfl⟩⟩
  | io d=>cases h;exact ⟨_,rfl,.inr ⟨rfl,rfl⟩⟩
theorem getD_some{α:Type}{o:Option (Option α)}{x:α}(h:o.getD none=some x):o=some (some x):=by
 cases o with
 | none=>cases h
 | some y=>simp at h;rw[h]
section
variable {K:Fg}{G:Gh}{F F' H H':Hp}{σ τ:St}{ρ μ:Ev}{own:List Str}{fr:List Nat}
theorem innerE_get{j:Nat}{s:Sl}(h:(innerE own fr ρ)[j]?=some (some s)):∃k i s0,j=own.length+k/\fr[k]?=some i/\ρ[i]?=some (some s0)/\((∃d,s0=.fz d/\s=.fz d)\/(isOw s0=true/\s=.io s0.d)):=by
 obtain⟨k,i,h1,h2,h3⟩:=inner_get h
 obtain⟨s0,h4,h5⟩:=capt_get h3
 exact ⟨k,i,s0,h1,h2,getD_some h4,h5⟩
theorem st0_of{k i:Nat}(h:fr[k]?=some i):(st0 own σ fr)[own.length+k]?=some ((σ[i]?).getD none):=inner_of (f:=λi=>(σ[i]?).getD none) h
theorem innerE_of{k i:Nat}(h:fr[k]?=some i):(innerE own fr ρ)[own.length+k]?=some (capt ((ρ[i]?).getD none)):=inner_of (f:=λi=>capt ((ρ[i]?).getD none)) h
theorem nodup_at{fr:List Nat}(nd:fr.Nodup){k l i:Nat}(a:fr[k]?=some i)(b:fr[l]?=some i):k=l:=by
 obtain⟨h1,e1⟩:=W0.mp a
 obtain⟨h2,e2⟩:=W0.mp b
 exact (List.getElem_inj nd).mp (e1.trans e2.symm)
theorem Rel.inner(R:Rel K G F σ H ρ)(nd:fr.Nodup):Rel K (ghC own fr F H σ ρ) F (st0 own σ fr) H (innerE own fr ρ) where
 len:=by simp[st0,frS,innerE]
 sub:=R.sub
 sub0:=Sub.refl _
 fn:=λ_ _ e=>.inl e
 keep:=λ_ _ e _ _=>e
 tb:=R.tb
 fz:=λj d e=>by
  obtain⟨k,i,s0,rfl,h2,h3,h4⟩:=innerE_get e
  rcases h4 with⟨d0,rfl,z⟩|⟨_,z⟩
  ·cases z
   obtain⟨v,e1,e2⟩:=R.fz i d h3
   exact ⟨v,by rw[st0_of h2,e1];rfl,e2⟩
  ·cases z
 ow:=λj s e w=>by
  obtain⟨k,i,s0,rfl,h2,h3,h4⟩:=innerE_get e
  rcases h4 with⟨d0,rfl,z⟩|⟨w0,z⟩
  ·cases z;cases w
  ·cases z
   obtain⟨a,o,e1,e2,e3,e4⟩:=R.ow i s0 h3 w0
   exact ⟨a,o,by rw[st0_of h2,e1];rfl,e2,e3,e4⟩
 new:=λj d a e _=>by
  obtain⟨k,i,s0,rfl,h2,h3,h4⟩:=innerE_get e
  rcases h4 with⟨d0,rfl,z⟩|⟨w0,z⟩<;>cases z
 io:=λj a e=>by
  obtain⟨k,i,s,rfl,h1,h2,h3,h4⟩:=ghC_io e
  refine ⟨s.d,?_,by rw[st0_of h1,h4];rfl⟩
  rw[innerE_of h1,h2]
  cases s<;>first|rfl|cases h3
 ioi:=λj d e=>by
  obtain⟨k,i,s0,rfl,h2,h3,h4⟩:=innerE_get e
  rcases h4 with⟨d0,rfl,z⟩|⟨w0,z⟩
  ·cases z
  ·obtain⟨a,o,e1,_⟩:=R.ow i s0 h3 w0
   exact ⟨a,ghC_of h2 h3 w0 e1⟩
 ap:=λj l s t a e1 w1 e2 w2 e3 e4=>by
  obtain⟨k,i,s0,rfl,h2,h3,h4⟩:=innerE_get e1
  obtain⟨k',i',s0',rfl,h2',h3',h4'⟩:=innerE_get e2
  have p1:isOw s0=true:=by
   rcases h4 with⟨d0,rfl,z⟩|⟨w0,z⟩
   ·subst z;cases w1
   ·exact w0
  have p2:isOw s0'=true:=by
   rcases h4' with⟨d0,rfl,z⟩|⟨w0,z⟩
   ·subst z;cases w2
   ·exact w0
  rw[st0_of h2]at e3
  rw[st0_of h2']at e4
  have q:=R.ap i i' s0 s0' a h3 p1 h3' p2 (getD_some (N1 e3)) (getD_some (N1 e4))
  subst q
  rw[nodup_at nd h2 h2']
theorem wb_cases(R:Rel K G F σ H ρ)(R':Rel K (ghC own fr F H σ ρ) F' τ H' μ)(nd:fr.Nodup){i:Nat}{s:Sl}(h:(wbGo fr (μ.drop own.length) 0 ρ)[i]?=some (some s)) :
  ∃s0,ρ[i]?=some (some s0)/\((s=s0/\(isOw s0=true->i∉fr))\/(isOw s0=true/\∃k d',fr[k]?=some i/\μ[own.length+k]?=some (some (Sl.io d'))/\s=s0.put d')):=by
 rw[wbGo_get]at h
 cases e:ρ[i]? with
 | none=>rw[e]at h;cases h
 | some x =>
  rw[e]at h
  simp only[K4,V5]at h
  have h:=N1 h
  cases x with
  | none=>simp[wb1]at h
  | some s0 =>
   refine ⟨s0,rfl,?_⟩
   by_cases w0:isOw s0=true
   ·by_cases hm:i∈fr
    ·obtain⟨k,hk⟩:=P3.mp hm
     obtain⟨a,o,e1,_⟩:=R.ow i s0 e w0
     obtain⟨d',g1,g2⟩:=R'.io _ _ (ghC_of (own:=own) (F:=F) (H:=H) hk e w0 e1)
     have z:=zip_lookup (τ:=μ.drop own.length) nd hk (by rw[K7];exact g1)
     rw[z]at h
     refine .inr ⟨w0,k,d',hk,g1,?_⟩
     cases s0 with
     | fz d=>cases w0
     | ow d=>simp[wb1]at h;exact h.symm
     | io d=>simp[wb1]at h;exact h.symm
    ·refine .inl ⟨?_,λ_=>hm⟩
     have z:(fr.zip (μ.drop own.length)).lookup i=none:=by
      cases q:(fr.zip (μ.drop own.length)).lookup i with
      | none=>rfl
      | some y =>
       obtain⟨k,h1,_⟩:=zip_lookup_mem q
       exact (hm (E1 h1)).elim
     rw[z]at h
     cases s0 with
     | fz d=>cases w0
     | ow d=>simp[wb1]at h;exact h.symm
     | io d=>simp[wb1]at h;exact h.symm
   ·refine .inl ⟨?_,λz=>(w0 z).elim⟩
    cases s0 with
    | fz d=>simp[wb1]at h;exact h.symm
    | ow d=>exact (w0 rfl).elim
    | io d=>exact (w0 rfl).elim
theorem wb1_io{d:D}(x:Option (Option Sl)):∃d',wb1 (some (.io d)) x=some (.io d'):=by
 rcases x with _|_|(d'|d'|d')
 ·exact ⟨d,rfl⟩
 ·exact ⟨d,rfl⟩
 ·exact ⟨d,rfl⟩
 ·exact ⟨d,rfl⟩
 ·exact ⟨d',rfl⟩
theorem Rel.outer(R:Rel K G F σ H ρ)(R':Rel K (ghC own fr F H σ ρ) F' τ H' μ)(nd:fr.Nodup):Rel K G F' σ H' (wbGo fr (μ.drop own.length) 0 ρ):=by
 have sb:Sub F F':=R'.sub0
 have owns:∀{i:Nat}{s:Sl},(wbGo fr (μ.drop own.length) 0 ρ)[i]?=some (some s)->isOw s=true->∃s0,ρ[i]?=some (some s0)/\isOw s0=true:=λ{i s} e w=>by
  obtain⟨s0,h1,h2⟩:=wb_cases R R' nd e
  rcases h2 with⟨rfl,_⟩|⟨w0,_⟩
  ·exact ⟨s,h1,w⟩
  ·exact ⟨s0,h1,w0⟩
 refine ⟨by rw[wbGo_len];exact R.len,R'.sub,R.sub0.trans sb,λa o e=>?_,λa o e n t=>?_,R'.tb,λi d e=>?_,λi s e w=>?_,λi d a e ea=>?_,λi a e=>?_,λi d e=>?_,λi j s t a e1 w1 e2 w2 e3 e4=>?_⟩
 ·rcases R'.fn a o e with q|q
  ·exact R.fn a o q
  ·exact .inr (R.h0 q)
 ·refine R'.keep a o (R.keep a o e n t) (λj z=>?_) t
  obtain⟨k,i,s,rfl,h1,h2,h3,h4⟩:=ghC_io z
  cases s with
  | fz d=>cases h3
  | ow d=>rw[R.new i d a h2 h4]at e;cases e
  | io d =>
   obtain⟨a',g⟩:=R.ioi i d h2
   obtain⟨_,_,g2⟩:=R.io i a' g
   rw[h4]at g2;cases g2
   exact n i g
 ·obtain⟨s0,h1,h2⟩:=wb_cases R R' nd e
  rcases h2 with⟨rfl,_⟩|⟨w0,k,d',_,_,z⟩
  ·obtain⟨v,g1,g2⟩:=R.fz i d h1
   exact ⟨v,g1,g2.mono sb⟩
  ·cases s0<;>simp[Sl.put,isOw]at z w0
 ·obtain⟨s0,h1,h2⟩:=wb_cases R R' nd e
  rcases h2 with⟨rfl,hm⟩|⟨w0,k,d',hk,hd,rfl⟩
  ·obtain⟨a,o,g1,g2,g3,g4⟩:=R.ow i s h1 w
   have nio:∀j,(ghC own fr F H σ ρ).io j≠some a:=λj z=>by
    obtain⟨k,i',s',rfl,q1,q2,q3,q4⟩:=ghC_io z
    have:=R.ap i i' s s' a h1 w q2 q3 g1 q4
    subst this
    exact hm w (E1 q1)
   refine ⟨a,o,g1,?_,R'.keep a o g3 nio (R.tb.ne λu z=>by rw[g3]at z;cases z;exact g4.stk),g4.mono sb⟩
   cases q:F' a with
   | none=>rfl
   | some u =>
    rcases R'.fn a u q with z|z
    ·have z:F a=some u:=z
     rw[g2]at z;cases z
    ·have z:H a=none:=z
     rw[g3]at z;cases z
  ·obtain⟨a,o,g1,g2,g3,g4⟩:=R.ow i s0 h1 w0
   obtain⟨d2,q1,q2⟩:=R'.io _ _ (ghC_of (own:=own) (F:=F) (H:=H) hk h1 w0 g1)
   obtain⟨a',o',p1,p2,p3,p4⟩:=R'.ow _ _ hd rfl
   rw[q2]at p1;cases p1
   exact ⟨a,o',g1,p2,p3,by cases s0<;>first|exact p4|cases w0⟩
 ·obtain⟨s0,h1,h2⟩:=wb_cases R R' nd e
  rcases h2 with⟨rfl,_⟩|⟨w0,k,d',_,_,z⟩
  ·exact R.new i d a h1 ea
  ·cases s0 with
   | fz d=>cases w0
   | ow d0=>exact R.new i d0 a h1 ea
   | io d0=>cases z
 ·obtain⟨d,h1,h2⟩:=R.io i a e
  obtain⟨d',hd⟩:=wb1_io (d:=d) ((fr.zip (μ.drop own.length)).lookup i)
  exact ⟨d',by rw[wbGo_get,h1];simp only[K4,V5];rw[hd],h2⟩
 ·obtain⟨s0,h1,h2⟩:=wb_cases R R' nd e
  rcases h2 with⟨rfl,_⟩|⟨w0,k,d',_,_,z⟩
  ·exact R.ioi i d h1
  ·cases s0 with
   | fz d=>cases w0
   | ow d0=>cases z
   | io d0=>exact R.ioi i d0 h1
 ·obtain⟨s0,g1,g2⟩:=owns e1 w1
  obtain⟨t0,g3,g4⟩:=owns e2 w2
  exact R.ap i j s0 t0 a g1 g2 g3 g4 e3 e4
end
noncomputable abbrev Con:=List Sl->(Sl->Ev->Prop)->Prop
noncomputable def conSp(K:Fg)(con:Con):Sp:=λvs H Q _=>∃(G:Gh) (F:Hp) (args:List Sl) (Qd:Sl->Ev->Prop),Rel K G F (vs.map some) H (args.map some)/\con args Qd /\
 ∀v H' F' r ρ',Sub F F'->Rel K G F' (vs.map some) H' ρ'->Res K G F' H' (vs.map some) ρ' v r->Qd r ρ'->Q v H'
mutual
noncomputable def noMut:D->Bool
 | .none=>true
 | .bool _=>true
 | .int _=>true
 | .str _=>true
 | .tuple xs=>noMutAll xs
 | .list _=>false
 | .dict _=>false
noncomputable def noMutAll:List D->Bool
 | []=>true
 | x :: xs=>noMut x&&noMutAll xs
end
section
variable {K:Fg}{F F':Hp}
mutual
theorem Da.noMut(h:∀b xs,F b=some (.tup xs)->F' b=some (.tup xs)):∀{v:V}{d:D},Da K F v d->noMut d=true->Da K F' v d
 | _,_,.non,_=>.non
 | _,_,.bl b,_=>.bl b
 | _,_,.int i,_=>.int i
 | _,_,.str x,_=>.str x
 | _,_,.lst _ _,z=>by simp[L3.noMut]at z
 | _,_,.tup e t,z=>.tup (h _ _ e) (DaAll.noMut h t (by simpa [L3.noMut]using z))
 | _,_,.dk _ _,z=>by simp[L3.noMut]at z
 | _,_,.dt _ _,z=>by simp[L3.noMut]at z
 | _,_,.scr _,z=>by simp[L3.noMut,scrD]at z
theorem DaAll.noMut(h:∀b xs,F b=some (.tup xs)->F' b=some (.tup xs)):∀{xs:List V}{ds:List D},DaAll K F xs ds->noMutAll ds=true->DaAll K F' xs ds
 | _,_,.nil,_=>.nil
 | _,_,.cons a t,z=>by
  simp[noMutAll]at z
  exact .cons (Da.noMut h a z.1) (DaAll.noMut h t z.2)
end
end
noncomputable def lentAny(ρ:Ev):List Opd->Bool
 | []=>false
 | .inr _ :: xs=>lentAny ρ xs
 | .inl i :: xs=>(match ρ[i]? with|some (some s)=>isOw s|_=>false)||lentAny ρ xs
noncomputable def dCall(con:Con)(as:List AD):TD:=λρ Q=>dArgs as ρ λxs ρ1=>looksQ ρ1 xs λds=>con (ds.map Sl.fz) λr _=>match lentAny ρ1 xs with
 | false=>Q r ρ1
 | true=>noMut r.d=true/\Q r ρ1
noncomputable def callI(con:Con)(i:Nat)(xs:List Opd)(ρ1:Ev)(Q:Sl->Ev->Prop):Prop:=match ρ1[i]? with
 | some (some s)=>match isOw s,lentAny ρ1 xs with
  | true,false=>looksQ ρ1 xs λds=>con (.io s.d :: ds.map Sl.fz) λr outs=>match outs with
   | some (.io d') :: _=>Q r (ρ1.set i (some (s.put d')))
   | _=>False
  | _,_=>False
 | _=>False
noncomputable def dCallI(con:Con)(i:Nat)(as:List AD):TD:=λρ Q=>dArgs (.inl i :: as) ρ λxs ρ1=>callI con i xs.tail ρ1 Q
noncomputable def LentA(σ:St)(ρ:Ev)(xs:List Opd)(a:Addr):Prop:=∃(i:Nat) (s:Sl),Sum.inl i∈xs/\ρ[i]?=some (some s)/\isOw s=true/\σ[i]?=some (some (V.ref a))
theorem lentAny_of{σ:St}{ρ:Ev}:∀{xs:List Opd}{a:Addr},LentA σ ρ xs a->lentAny ρ xs=true
 | [],a,⟨i,s,h,_⟩=>by cases h
 | .inr d :: xs,a,⟨i,s,h,h1,h2,h3⟩=>by
  rcases X0.mp h with h|h
  ·cases h
  ·exact lentAny_of (xs:=xs) ⟨i,s,h,h1,h2,h3⟩
 | .inl j :: xs,a,⟨i,s,h,h1,h2,h3⟩=>by
  unfold lentAny
  rcases X0.mp h with h|h
  ·cases h;rw[h1];simp[h2]
  ·rw[lentAny_of (xs:=xs) ⟨i,s,h,h1,h2,h3⟩];simp
open Classical in
noncomputable def lend(σ:St)(ρ:Ev)(xs:List Opd)(F H:Hp):Hp:=λb=>if LentA σ ρ xs b then H b else F b
open Classical in
noncomputable def unlend(σ:St)(ρ:Ev)(xs:List Opd)(F:Hp):Hp:=λb=>if LentA σ ρ xs b then none else F b
section
variable {K:Fg}{G:Gh}{F F' H H':Hp}{σ:St}{ρ:Ev}{xs:List Opd}
theorem lend_not{b:Addr}(h:¬LentA σ ρ xs b):lend σ ρ xs F H b=F b:=by unfold lend;rw[if_neg h]
theorem lend_is{b:Addr}(h:LentA σ ρ xs b):lend σ ρ xs F H b=H b:=by unfold lend;rw[if_pos h]
theorem unlend_not{b:Addr}(h:¬LentA σ ρ xs b):unlend σ ρ xs F b=F b:=by unfold unlend;rw[if_neg h]
theorem unlend_is{b:Addr}(h:LentA σ ρ xs b):unlend σ ρ xs F b=none:=by unfold unlend;rw[if_pos h]
theorem LentA.own(R:Rel K G F σ H ρ){b:Addr}(h:LentA σ ρ xs b):∃(i:Nat) (s:Sl) (o:HO),ρ[i]?=some (some s)/\isOw s=true/\σ[i]?=some (some (V.ref b))/\F b=none/\H b=some o/\Own1 K F o s.d:=by
 obtain⟨i,s,_,h1,h2,h3⟩:=h
 obtain⟨a,o,g1,g2,g3,g4⟩:=R.ow i s h1 h2
 rw[h3]at g1;cases g1
 exact ⟨i,s,o,h1,h2,h3,g2,g3,g4⟩
theorem lend_sub(R:Rel K G F σ H ρ):Sub F (lend σ ρ xs F H):=λb o e=>by
 have n:¬LentA σ ρ xs b:=λz=>by
  obtain⟨_,_,_,_,_,_,h,_⟩:=z.own R
  rw[h]at e;cases e
 rw[lend_not n];exact e
theorem lend_le(R:Rel K G F σ H ρ):Sub (lend σ ρ xs F H) H:=λb o e=>by
 by_cases z:LentA σ ρ xs b
 ·rw[lend_is z]at e;exact e
 ·rw[lend_not z]at e;exact R.sub _ _ e
theorem lend_tb(R:Rel K G F σ H ρ):TabOk K (lend σ ρ xs F H) H:=R.tb.up (λ_ _ _ e=>e) λz hz=>by
 obtain⟨e1,ps,e2,_⟩:=R.tb z hz
 have n:¬LentA σ ρ xs z.1:=λy=>by
  obtain⟨_,_,o,_,_,_,_,h,w⟩:=y.own R
  rw[e2]at h;cases h
  exact w
 rw[lend_not n];exact e1
theorem lend_looks(R:Rel K G F σ H ρ){ys:List Opd}{vs:List V}{k:List D->Prop}(m:∀y∈ys,y∈xs)(o:OpdsAt K F σ vs ys)(h:looksQ ρ ys k):∃ds,DaAll K (lend σ ρ xs F H) vs ds/\k ds:=by
 induction o generalizing k with
 | nil=>exact ⟨[],.nil,h⟩
 | @cons v x vs ys o t ih =>
  cases x with
  | inr d =>
   obtain⟨ds,a,q⟩:=ih (k:=λds=>k (d :: ds)) (λy hy=>m y (L0 _ hy)) h
   exact ⟨d :: ds,.cons (Da.mono (lend_sub R) o) a,q⟩
  | inl i =>
   unfold looksQ at h
   split at h
   ·rename_i s e
    obtain⟨ds,a,q⟩:=ih (k:=λds=>k (s.d :: ds)) (λy hy=>m y (L0 _ hy)) h
    refine ⟨s.d :: ds,.cons ?_ a,q⟩
    have o:σ[i]?=some (some v):=o
    have own:isOw s=true->Da K (lend σ ρ xs F H) v s.d:=λw=>by
     obtain⟨b,u,h1,h2,h3,h4⟩:=R.ow i s e w
     rw[o]at h1;cases h1
     have l:LentA σ ρ xs b:=⟨i,s,m _ P0,e,w,o⟩
     exact (h4.mono (lend_sub R)).da (by rw[lend_is l];exact h3)
    cases s with
    | fz d =>
     obtain⟨v,e1,e2⟩:=R.fz i d e
     rw[o]at e1;cases e1
     exact e2.mono (lend_sub R)
    | ow d=>exact own rfl
    | io d=>exact own rfl
   ·exact h.elim
theorem own_noMut{o:HO}{d:D}(h:Own1 K F o d):noMut d=false:=by
 cases o with
 | ext φ=>rcases h.ext with⟨a',ep,xs,ps,z,rfl,t⟩|⟨a',ep,xs,ps,z,rfl,t⟩<;>rfl
 | _=>cases d<;>first|rfl|exact h.elim
theorem get_fz{ds:List D}{i:Nat}{s:Sl}(h:((ds.map Sl.fz).map some)[i]?=some (some s)):∃d,ds[i]?=some d/\s=.fz d:=by
 rw[S0,O0]at h
 cases e:ds[i]? with
 | none=>rw[e]at h;cases h
 | some d=>rw[e]at h;cases h;exact ⟨d,rfl,rfl⟩
theorem get_vs{vs:List V}{i:Nat}{v:V}(h:vs[i]?=some v):(vs.map some)[i]?=some (some v):=by rw[O0,h];rfl
theorem rel_call{vs:List V}{ds:List D}(s:Sub F H)(tb:TabOk K F H)(da:DaAll K F vs ds):Rel K ⟨H,F,λ_=>none⟩ F (vs.map some) H ((ds.map Sl.fz).map some) where
 len:=by simp[da.length]
 sub:=s
 sub0:=Sub.refl _
 fn:=λ_ _ e=>.inl e
 keep:=λ_ _ e _ _=>e
 tb:=tb
 fz:=λi d e=>by
  obtain⟨d',e1,e2⟩:=get_fz e
  cases e2
  obtain⟨v,h1,h2⟩:=da.get e1
  exact ⟨v,get_vs h1,h2⟩
 ow:=λi s e w=>by obtain⟨d',e1,rfl⟩:=get_fz e;cases w
 new:=λi d a e _=>by obtain⟨d',e1,e2⟩:=get_fz e;cases e2
 io:=λi a e=>by cases e
 ioi:=λi d e=>by obtain⟨d',e1,e2⟩:=get_fz e;cases e2
 ap:=λi j s t a e w _ _ _ _=>by obtain⟨d',e1,rfl⟩:=get_fz e;cases w
theorem Rel.called(R:Rel K G F σ H ρ){σ1:St}{ρ1:Ev}(R':Rel K ⟨H,lend σ ρ xs F H,λ_=>none⟩ F' σ1 H' ρ1):Sub F (unlend σ ρ xs F')/\Rel K G (unlend σ ρ xs F') σ H' ρ:=by
 have nl:∀{b:Addr}{o:HO},F b=some o->¬LentA σ ρ xs b:=λ{b o} e z=>by
  obtain⟨_,_,_,_,_,_,h,_⟩:=z.own R
  rw[h]at e;cases e
 have sb:Sub F (unlend σ ρ xs F'):=λb o e=>by
  rw[unlend_not (nl e)]
  exact R'.sub0 _ _ (lend_sub R _ _ e)
 have ul:∀{b:Addr}{o:HO},unlend σ ρ xs F' b=some o->¬LentA σ ρ xs b/\F' b=some o:=λ{b o} e=>by
  by_cases z:LentA σ ρ xs b
  ·rw[unlend_is z]at e;cases e
  ·rw[unlend_not z]at e;exact ⟨z,e⟩
 have kp:∀{b:Addr}{o:HO},(∀z∈TB K,z.1≠b)->H b=some o->H' b=some o:=λ{b o} t e=>R'.keep b o e (λi z=>by cases z) t
 refine ⟨sb,R.len,λb o e=>R'.sub _ _ (ul e).2,R.sub0.trans sb,λb o e=>?_,λa o e n t=>kp t (R.keep a o e n t),R'.tb.up (λ_ _ _ e=>e) λz hz=>?_,λi d e=>?_,λi s e w=>?_,R.new,R.io,R.ioi,R.ap⟩
 ·obtain⟨n,e⟩:=ul e
  rcases R'.fn b o e with q|q
  ·have q:lend σ ρ xs F H b=some o:=q
   rw[lend_not n]at q
   exact R.fn b o q
  ·exact .inr (R.h0 q)
 ·cases q:unlend σ ρ xs F' z.1 with
  | none=>rfl
  | some u =>
   have:=(ul q).2
   rw[(R'.tb z hz).1]at this;cases this
 ·obtain⟨v,h1,h2⟩:=R.fz i d e
  exact ⟨v,h1,h2.mono sb⟩
 ·obtain⟨a,o,h1,h2,h3,h4⟩:=R.ow i s e w
  refine ⟨a,o,h1,?_,kp (R.tb.ne λu z=>by rw[h3]at z;cases z;exact h4.stk) h3,h4.mono sb⟩
  cases q:unlend σ ρ xs F' a with
  | none=>rfl
  | some u =>
   obtain⟨n,q⟩:=ul q
   rcases R'.fn a u q with z|z
   ·have z:lend σ ρ xs F H a=some u:=z
    rw[lend_not n,h2]at z;cases z
   ·have z:H a=none:=z
    rw[h3]at z;cases z
theorem Res.called(R:Rel K G F σ H ρ){σ1:St}{ρ1:Ev}{v:V}{r:Sl}(R':Rel K ⟨H,lend σ ρ xs F H,λ_=>none⟩ F' σ1 H' ρ1)(q:Res K ⟨H,lend σ ρ xs F H,λ_=>none⟩ F' H' σ1 ρ1 v r)
  (hl:lentAny ρ xs=true->noMut r.d=true):Res K G (unlend σ ρ xs F') H' σ ρ v r:=by
 have tp:∀b ys,F' b=some (.tup ys)->unlend σ ρ xs F' b=some (.tup ys):=λb ys e=>by
  have n:¬LentA σ ρ xs b:=λz=>by
   obtain⟨_,_,o,_,_,_,_,h,w⟩:=z.own R
   have e2:=R'.sub0 b o (by show lend σ ρ xs F H b=some o;rw[lend_is z];exact h)
   rw[e]at e2;cases e2
   exact w
  rw[unlend_not n];exact e
 by_cases l:lentAny ρ xs=true
 ·cases r with
  | fz d=>exact Da.noMut tp q (hl l)
  | ow d =>
   obtain⟨a,o,_,_,_,w,_⟩:=q
   have:=hl l
   rw[show (Sl.ow d).d=d from rfl,own_noMut w]at this;cases this
  | io d=>exact q.elim
 ·have e:unlend σ ρ xs F'=F':=funext λb=>unlend_not λz=>l (lentAny_of z)
  rw[e]
  cases r with
  | fz d=>exact q
  | io d=>exact q.elim
  | ow d =>
   obtain⟨a,o,h1,h2,h3,h4,h5,_⟩:=q
   refine ⟨a,o,h1,h2,h3,h4,R.h0 h5,λi s es w z=>?_⟩
   obtain⟨a',o',g1,_,g3,_⟩:=R.ow i s es w
   rw[z]at g1;cases g1
   have h5:H a=none:=h5
   rw[h5]at g3;cases g3
theorem l_call{con:Con}{as:List AD}{E:XK}{Q:VK}(h:lift K (dCall con as) σ H Q):tCall (conSp K con) [] E (tArgs (as.map (argT K))) σ H Q:=by
 obtain⟨G,F,ρ,Qd,R,w,k⟩:=h
 refine args_ok R w λvs H1 F1 xs ρ1 s1 R1 o w1=>?_
 obtain⟨ds,da,w1⟩:=lend_looks (xs:=xs) R1 (λy hy=>hy) o w1
 rw[S3]
 refine ⟨_,_,ds.map Sl.fz,_,rel_call (lend_le R1) (lend_tb R1) da,w1,λv H' F' r ρ' s' R' r' q=>?_⟩
 obtain⟨sb,R2⟩:=R1.called R'
 have hq:(lentAny ρ1 xs=true->noMut r.d=true)/\Qd r ρ1:=by
  split at q
  ·rename_i e;exact ⟨λz=>(by rw[e]at z;cases z),q⟩
  ·exact ⟨λ_=>q.1,q.2⟩
 exact k v H' _ r ρ1 (s1.trans sb) R2 (Res.called R1 R' r' hq.1) hq.2
end
section
variable {K:Fg}{G:Gh}{F F' H H':Hp}{σ:St}{ρ:Ev}{xs:List Opd}
noncomputable def ioA(a:Addr):Nat->Option Addr:=λj=>if j=0 then some a else none
theorem ioA_some{a b:Addr}{j:Nat}(h:ioA a j=some b):j=0/\b=a:=by
 unfold ioA at h
 split at h
 ·rename_i z;cases h;exact ⟨z,rfl⟩
 ·cases h
theorem rel_callI{vs:List V}{ds:List D}{a:Addr}{o:HO}{d:D}(s:Sub F H)(h1:F a=none)(h2:H a=some o)(h3:Own1 K F o d)(tb:TabOk K F H)(da:DaAll K F vs ds) :
  Rel K ⟨H,F,ioA a⟩ F ((V.ref a :: vs).map some) H ((Sl.io d :: ds.map Sl.fz).map some) where
 len:=by simp[da.length]
 sub:=s
 sub0:=Sub.refl _
 fn:=λ_ _ e=>.inl e
 keep:=λ_ _ e _ _=>e
 tb:=tb
 fz:=λi d' e=>by
  cases i with
  | zero=>simp at e
  | succ i =>
   have e:((ds.map Sl.fz).map some)[i]?=some (some (Sl.fz d')):=by simpa using e
   obtain⟨d2,e1,e2⟩:=get_fz e
   cases e2
   obtain⟨v,g1,g2⟩:=da.get e1
   exact ⟨v,by simpa using g1,g2⟩
 ow:=λi s e w=>by
  cases i with
  | zero=>simp at e;subst e;exact ⟨a,o,by simp,h1,h2,h3⟩
  | succ i =>
   have e:((ds.map Sl.fz).map some)[i]?=some (some s):=by simpa using e
   obtain⟨d2,e1,rfl⟩:=get_fz e
   cases w
 new:=λi d' b e _=>by
  cases i with
  | zero=>simp at e
  | succ i =>
   have e:((ds.map Sl.fz).map some)[i]?=some (some (Sl.ow d')):=by simpa using e
   obtain⟨d2,e1,e2⟩:=get_fz e
   cases e2
 io:=λi b e=>by
  obtain⟨rfl,rfl⟩:=ioA_some e
  exact ⟨d,by simp,by simp⟩
 ioi:=λi d' e=>by
  cases i with
  | zero=>exact ⟨a,rfl⟩
  | succ i =>
   have e:((ds.map Sl.fz).map some)[i]?=some (some (Sl.io d')):=by simpa using e
   obtain⟨d2,e1,e2⟩:=get_fz e
   cases e2
 ap:=λi j s t b e1 w1 e2 w2 _ _=>by
  have f:∀{i:Nat}{s:Sl},((Sl.io d :: ds.map Sl.fz).map some)[i]?=some (some s)->isOw s=true->i=0:=λ{i s} e w=>by
   cases i with
   | zero=>rfl
   | succ i =>
    have e:((ds.map Sl.fz).map some)[i]?=some (some s):=by simpa using e
    obtain⟨d2,e1,rfl⟩:=get_fz e
    cases w
  rw[f e1 w1,f e2 w2]
theorem Rel.calledI(R:Rel K G F σ H ρ){i:Nat}{s:Sl}{a:Addr}{d':D}{σ1:St}{ρ1:Ev}(e:ρ[i]?=some (some s))(w:isOw s=true)(ea:σ[i]?=some (some (V.ref a)))
  (R':Rel K ⟨H,F,ioA a⟩ F' (some (V.ref a) :: σ1) H' (some (Sl.io d') :: ρ1)):Rel K G F' σ H' (ρ.set i (some (s.put d'))):=by
 obtain⟨a0,o0,g1,g2,g3,g4⟩:=R.ow i s e w
 rw[ea]at g1;cases g1
 have sb:Sub F F':=R'.sub0
 have hl:=lt_of_get e
 have kp:∀{b:Addr}{o:HO},b≠a->(∀z∈TB K,z.1≠b)->H b=some o->H' b=some o:=λ{b o} n t q=>R'.keep b o q (λj z=>n (ioA_some z).2) t
 have ow':∀{j:Nat}{t:Sl},j≠i->ρ[j]?=some (some t)->isOw t=true->∃b o,σ[j]?=some (some (V.ref b))/\F' b=none/\H' b=some o/\Own1 K F' o t.d:=λ{j t} n q wt=>by
  obtain⟨b,o,q1,q2,q3,q4⟩:=R.ow j t q wt
  have nb:b≠a:=λz=>n (R.ap j i t s a q wt e w (by rw[q1,z]) ea)
  refine ⟨b,o,q1,?_,kp nb (R.tb.ne λu z=>by rw[q3]at z;cases z;exact q4.stk) q3,q4.mono sb⟩
  cases z:F' b with
  | none=>rfl
  | some u =>
   rcases R'.fn b u z with y|y
   ·have y:F b=some u:=y
    rw[q2]at y;cases y
   ·have y:H b=none:=y
    rw[q3]at y;cases y
 refine ⟨by rw[T3];exact R.len,R'.sub,R.sub0.trans sb,λb o q=>?_,λb o q n t=>?_,R'.tb,λj d q=>?_,λj t q wt=>?_,λj d b q eb=>?_,λj b q=>?_,λj d q=>?_,λj k t u b e1 w1 e2 w2 e3 e4=>?_⟩
 ·rcases R'.fn b o q with y|y
  ·exact R.fn b o y
  ·exact .inr (R.h0 y)
 ·refine kp (λz=>?_) t (R.keep b o q n t)
  subst z
  cases s with
  | fz d=>cases w
  | ow d=>rw[R.new i d b e ea]at q;cases q
  | io d =>
   obtain⟨a',y⟩:=R.ioi i d e
   obtain⟨_,_,y2⟩:=R.io i a' y
   rw[ea]at y2;cases y2
   exact n i y
 ·rcases get_set q with⟨rfl,z⟩|⟨n,z⟩
  ·cases s<;>simp[Sl.put,isOw]at z w
  ·obtain⟨v,y1,y2⟩:=R.fz j d z
   exact ⟨v,y1,y2.mono sb⟩
 ·rcases get_set q with⟨rfl,z⟩|⟨n,z⟩
  ·cases z
   obtain⟨b,o,y1,y2,y3,y4⟩:=R'.ow 0 (.io d') (by simp) rfl
   simp at y1;subst y1
   exact ⟨a,o,ea,y2,y3,by cases s<;>first|exact y4|cases w⟩
  ·exact ow' n z wt
 ·rcases get_set q with⟨rfl,z⟩|⟨n,z⟩
  ·cases s with
   | fz d=>cases w
   | ow d0=>exact R.new j d0 b e eb
   | io d0=>cases z
  ·exact R.new j d b z eb
 ·obtain⟨d,y1,y2⟩:=R.io j b q
  by_cases z:j=i
  ·subst z
   rw[e]at y1;cases y1
   exact ⟨d',by rw[set_get hl];rfl,y2⟩
  ·exact ⟨d,by rw[O1 (v3 z)];exact y1,y2⟩
 ·rcases get_set q with⟨rfl,z⟩|⟨n,z⟩
  ·cases s with
   | fz d=>cases w
   | ow d0=>cases z
   | io d0=>exact R.ioi j d0 e
  ·exact R.ioi j d z
 ·have f:∀(j:Nat) (t:Sl),(ρ.set i (some (s.put d')))[j]?=some (some t)->isOw t=true->∃t',ρ[j]?=some (some t')/\isOw t'=true:=λj t q wt=>by
   rcases get_set q with⟨rfl,z⟩|⟨n,z⟩
   ·exact ⟨s,e,w⟩
   ·exact ⟨t,z,wt⟩
  obtain⟨t',e1',w1'⟩:=f j t e1 w1
  obtain⟨u',e2',w2'⟩:=f k u e2 w2
  exact R.ap j k t' u' b e1' w1' e2' w2' e3 e4
theorem noLent_looks(R:Rel K G F σ H ρ){ys:List Opd}{vs:List V}{k:List D->Prop}(m:lentAny ρ ys=false)(o:OpdsAt K F σ vs ys)(h:looksQ ρ ys k):∃ds,DaAll K F vs ds/\k ds:=by
 induction o generalizing k with
 | nil=>exact ⟨[],.nil,h⟩
 | @cons v x vs ys o t ih =>
  cases x with
  | inr d =>
   obtain⟨ds,a,q⟩:=ih (k:=λds=>k (d :: ds)) m h
   exact ⟨d :: ds,.cons o a,q⟩
  | inl i =>
   unfold looksQ at h
   unfold lentAny at m
   simp only[Bool.or_eq_false_iff]at m
   split at h
   ·rename_i s e
    obtain⟨ds,a,q⟩:=ih (k:=λds=>k (s.d :: ds)) m.2 h
    refine ⟨s.d :: ds,.cons ?_ a,q⟩
    have m1:=m.1
    rw[e]at m1
    cases s with
    | fz d =>
     obtain⟨v',e1,e2⟩:=R.fz i d e
     have o:σ[i]?=some (some v):=o
     rw[o]at e1;cases e1
     exact e2
    | ow d=>cases m1
    | io d=>cases m1
   ·exact h.elim
theorem l_callI{con:Con}{i:Nat}{as:List AD}{E:XK}{Q:VK}(h:lift K (dCallI con i as) σ H Q):tCall (conSp K con) [] E (tArgs ((.inl i :: as).map (argT K))) σ H Q:=by
 obtain⟨G,F,ρ,Qd,R,w,k⟩:=h
 unfold dCallI dArgs at w
 split at w
 ·rename_i s0 e0
  obtain⟨v,ev⟩:=R.bound e0
  refine ⟨v,ev,args_ok R w λvs H1 F1 xs ρ1 s1 R1 o w1=>?_⟩
  show conSp K con (v :: vs++[]) H1 Q E
  rw[S3]
  have w1:callI con i xs ρ1 Qd:=w1
  unfold callI at w1
  split at w1
  ·rename_i s e
   split at w1
   ·rename_i p1 p2
    obtain⟨a,o',g1,g2,g3,g4⟩:=R1.ow i s e p1
    rw[ev]at g1;cases g1
    obtain⟨ds,da,w1⟩:=noLent_looks R1 p2 o w1
    refine ⟨_,F1,.io s.d :: ds.map Sl.fz,_,rel_callI R1.sub g2 g3 g4 R1.tb da,w1,λv H' F' r ρ' s' R' r' q=>?_⟩
    split at q
    ·rename_i d' ρ2
     have R2:=R1.calledI e p1 ev R'
     refine k v H' F' r _ (s1.trans s') R2 ?_ q
     cases r with
     | fz d=>exact r'
     | io d=>exact r'.elim
     | ow d =>
      obtain⟨b,u,h1,h2,h3,h4,h5,_⟩:=r'
      have h5:H1 b=none:=h5
      refine ⟨b,u,h1,h2,h3,h4,R1.h0 h5,λj t es w z=>?_⟩
      have own:∃t',ρ1[j]?=some (some t')/\isOw t'=true:=by
       rcases get_set es with⟨rfl,y⟩|⟨n,y⟩
       ·exact ⟨s,e,p1⟩
       ·exact ⟨t,y,w⟩
      obtain⟨t',y1,y2⟩:=own
      obtain⟨a',o',q1,_,q3,_⟩:=R1.ow j t' y1 y2
      rw[z]at q1;cases q1
      rw[h5]at q3;cases q3
    ·exact q.elim
   ·exact w1.elim
  ·exact w1.elim
 ·exact w.elim
noncomputable def startE(n:Nat)(args:List Sl):Ev:=args.map some++G2 (n - args.length) none
noncomputable def outs:List Sl->Ev->Ev
 | [],_=>[]
 | .io _ :: as,ρ=>(ρ.headD none) :: outs as ρ.tail
 | .fz d :: as,ρ=>some (.fz d) :: outs as ρ.tail
 | .ow d :: as,ρ=>some (.ow d) :: outs as ρ.tail
theorem app_none{α:Type}{l:List (Option α)}{n i:Nat}{x:α}(h:(l++G2 n none)[i]?=some (some x)):l[i]?=some (some x):=by
 by_cases z:i < l.length
 ·rw[X2 z]at h;exact h
 ·rw[Y1 (Z7 z),b8]at h
  split at h<;>cases h
theorem app_left{α:Type}{l m:List α}{i:Nat}{x:α}(h:l[i]?=some x):(l++m)[i]?=some x:=by rw[X2 (lt_of_get h)];exact h
theorem Rel.start{vs:List V}{args:List Sl}{N:List Str}(R:Rel K G F (vs.map some) H (args.map some)):Rel K G F (L2.start N vs) H (startE N.length args) where
 len:=by have:=R.len;simp[L2.start,startE]at this ⊢;omega
 sub:=R.sub
 sub0:=R.sub0
 fn:=R.fn
 keep:=R.keep
 tb:=R.tb
 fz:=λi d e=>by
  obtain⟨v,h1,h2⟩:=R.fz i d (app_none e)
  exact ⟨v,app_left h1,h2⟩
 ow:=λi s e w=>by
  obtain⟨a,o,h1,h2⟩:=R.ow i s (app_none e) w
  exact ⟨a,o,app_left h1,h2⟩
 new:=λi d a e ea=>R.new i d a (app_none e) (app_none ea)
 io:=λi a e=>by
  obtain⟨d,h1,h2⟩:=R.io i a e
  exact ⟨d,app_left h1,app_left h2⟩
 ioi:=λi d e=>R.ioi i d (app_none e)
 ap:=λi j s t a e1 w1 e2 w2 e3 e4=>R.ap i j s t a (app_none e1) w1 (app_none e2) w2 (app_none e3) (app_none e4)
theorem outs_get:∀{args:List Sl}{ρ:Ev}{i:Nat}{s:Sl},(outs args ρ)[i]?=some (some s)->(∃d,args[i]?=some (.io d)/\ρ[i]?=some (some s))\/(args[i]?=some s/\∀d,s≠.io d)
 | [],ρ,i,s,h=>by simp[outs]at h
 | .io d :: as,ρ,0,s,h=>by
  simp[outs]at h
  cases ρ with
  | nil=>simp at h
  | cons x ρ=>simp at h;exact .inl ⟨d,by simp,by simp[h]⟩
 | .fz d :: as,ρ,0,s,h=>by simp[outs]at h;subst h;exact .inr ⟨by simp,λd z=>by cases z⟩
 | .ow d :: as,ρ,0,s,h=>by simp[outs]at h;subst h;exact .inr ⟨by simp,λd z=>by cases z⟩
 | .io d :: as,ρ,i+1,s,h=>by
  simp only[outs,o4]at h
  rcases outs_get h with⟨d,h1,h2⟩|⟨h1,h2⟩
  ·exact .inl ⟨d,by simpa using h1,by cases ρ with|nil=>simp at h2|cons x ρ=>simpa using h2⟩
  ·exact .inr ⟨by simpa using h1,h2⟩
 | .fz d :: as,ρ,i+1,s,h=>by
  simp only[outs,o4]at h
  rcases outs_get h with⟨d,h1,h2⟩|⟨h1,h2⟩
  ·exact .inl ⟨d,by simpa using h1,by cases ρ with|nil=>simp at h2|cons x ρ=>simpa using h2⟩
  ·exact .inr ⟨by simpa using h1,h2⟩
 | .ow d :: as,ρ,i+1,s,h=>by
  simp only[outs,o4]at h
  rcases outs_get h with⟨d,h1,h2⟩|⟨h1,h2⟩
  ·exact .inl ⟨d,by simpa using h1,by cases ρ with|nil=>simp at h2|cons x ρ=>simpa using h2⟩
  ·exact .inr ⟨by simpa using h1,h2⟩
theorem outs_of:∀{args:List Sl}{ρ:Ev}{i:Nat}{d:D}{x:Option Sl},args[i]?=some (.io d)->ρ[i]?=some x->(outs args ρ)[i]?=some x
 | [],_,_,_,_,h,_=>by simp at h
 | _ :: _,[],_,_,_,_,h=>by simp at h
 | s :: as,y :: ρ,0,d,x,h,h'=>by simp at h h';subst h h';simp[outs]
 | s :: as,y :: ρ,i+1,d,x,h,h'=>by
  have:=outs_of (args:=as) (ρ:=ρ) (i:=i) (by simpa using h) (by simpa using h')
  cases s<;>simpa [outs]using this
theorem outs_len:∀(args:List Sl) (ρ:Ev),(outs args ρ).length=args.length
 | [],_=>rfl
 | s :: as,ρ=>by cases s<;>simp[outs,outs_len as]
theorem get_args{args:List Sl}{i:Nat}{s:Sl}(h:(args.map some)[i]?=some (some s)):args[i]?=some s:=by
 rw[O0]at h
 cases e:args[i]? with
 | none=>rw[e]at h;cases h
 | some x=>rw[e]at h;cases h;rfl
theorem args_get{args:List Sl}{i:Nat}{s:Sl}(h:args[i]?=some s):(args.map some)[i]?=some (some s):=by rw[O0,h];rfl
theorem Rel.ret{vs:List V}{args:List Sl}{σ':St}{ρ':Ev}(hn:∀s∈args,∀d,s≠.ow d)(R:Rel K G F (vs.map some) H (args.map some))(sb:Sub F F')(R':Rel K G F' σ' H' ρ'):Rel K G F' (vs.map some) H' (outs args ρ'):=by
 have own:∀{i:Nat}{s:Sl},(outs args ρ')[i]?=some (some s)->isOw s=true->∃d a,args[i]?=some (.io d)/\ρ'[i]?=some (some s)/\G.io i=some a/\(vs.map some)[i]?=some (some (V.ref a))/\σ'[i]?=some (some (V.ref a)):=λ{i s} e w=>by
  rcases outs_get e with⟨d,h1,h2⟩|⟨h1,h2⟩
  ·obtain⟨a,h3⟩:=R.ioi i d (args_get h1)
   obtain⟨_,_,h4⟩:=R.io i a h3
   obtain⟨_,_,h5⟩:=R'.io i a h3
   exact ⟨d,a,h1,h2,h3,h4,h5⟩
  ·cases s with
   | fz d=>cases w
   | ow d=>exact (hn _ (E1 h1) d rfl).elim
   | io d=>exact (h2 d rfl).elim
 refine ⟨by rw[outs_len];simpa using R.len,R'.sub,R'.sub0,R'.fn,R'.keep,R'.tb,λi d e=>?_,λi s e w=>?_,λi d a e ea=>?_,λi a e=>?_,λi d e=>?_,λi j s t a e1 w1 e2 w2 e3 e4=>?_⟩
 ·rcases outs_get e with⟨d',h1,h2⟩|⟨h1,h2⟩
  ·obtain⟨a,h3⟩:=R.ioi i d' (args_get h1)
   obtain⟨d2,h4,_⟩:=R'.io i a h3
   rw[h2]at h4;cases h4
  ·obtain⟨v,h3,h4⟩:=R.fz i d (args_get h1)
   exact ⟨v,h3,h4.mono sb⟩
 ·obtain⟨d,a,h1,h2,h3,h4,h5⟩:=own e w
  obtain⟨b,o,g1,g2⟩:=R'.ow i s h2 w
  rw[h5]at g1;cases g1
  exact ⟨a,o,h4,g2⟩
 ·obtain⟨d',b,h1,h2,h3,h4,h5⟩:=own e rfl
  rw[h4]at ea;cases ea
  exact R'.new i d _ h2 h5
 ·obtain⟨d,h1,h2⟩:=R.io i a e
  obtain⟨d',h3,h4⟩:=R'.io i a e
  exact ⟨d',outs_of (get_args h1) h3,h2⟩
 ·obtain⟨d',a,h1,h2,h3,h4,h5⟩:=own e rfl
  exact ⟨a,h3⟩
 ·obtain⟨_,a1,_,h2,_,h4,h5⟩:=own e1 w1
  obtain⟨_,a2,_,g2,_,g4,g5⟩:=own e2 w2
  rw[h4]at e3;cases e3
  rw[g4]at e4;cases e4
  exact R'.ap i j s t a h2 w1 g2 w2 h5 g5
theorem Res.ret{vs:List V}{args:List Sl}{σ':St}{ρ':Ev}{v:V}{r:Sl}(hn:∀s∈args,∀d,s≠.ow d)(R:Rel K G F (vs.map some) H (args.map some))(R':Rel K G F' σ' H' ρ')(q:Res K G F' H' σ' ρ' v r):Res K G F' H' (vs.map some) (outs args ρ') v r:=by
 cases r with
 | fz d=>exact q
 | io d=>exact q.elim
 | ow d =>
  obtain⟨a,o,h1,h2,h3,h4,h5,h6⟩:=q
  refine ⟨a,o,h1,h2,h3,h4,h5,λi s e w z=>?_⟩
  rcases outs_get e with⟨d',g1,g2⟩|⟨g1,g2⟩
  ·obtain⟨b,g3⟩:=R.ioi i d' (args_get g1)
   obtain⟨_,_,g4⟩:=R.io i b g3
   obtain⟨_,_,g5⟩:=R'.io i b g3
   rw[g4]at z;cases z
   exact h6 i s g2 w g5
  ·cases s with
   | fz d=>cases w
   | ow d=>exact (hn _ (E1 g1) d rfl).elim
   | io d=>exact (g2 d rfl).elim
noncomputable def endsOf(args:List Sl)(Qd:Sl->Ev->Prop):DE:={ nx:=λρ=>Qd (.fz .none) (outs args ρ),rt:=λr ρ=>Qd r (outs args ρ),bk:=λ_=>False,ct:=λ_=>False }
theorem l_def{N:List Str}{con:Con}{ts:TDS}{vs:List V}{Q:VK}{E:XK}(hc:∀args Qd,con args Qd->(∀s∈args,∀d,s≠.ow d)/\ts (endsOf args Qd) (startE N.length args))(h:conSp K con vs H Q E):liftS K ts { nx:=λ_ H'=>Q .non H',rt:=Q } (L2.start N vs) H:=by
 obtain⟨G,F,args,Qd,R,w,k⟩:=h
 obtain⟨hn,w⟩:=hc args Qd w
 refine ⟨G,F,_,_,R.start,w,λσ' H' F' ρ' s R' q=>?_,λv σ' H' F' r ρ' s R' r' q=>?_,λ_ _ _ _ _ _ q=>q.elim,λ_ _ _ _ _ _ q=>q.elim⟩
 ·exact k .non H' F' (.fz .none) _ s (R.ret hn s R') Da.non q
 ·exact k v H' F' r _ s (R.ret hn s R') (r'.ret hn R R') q
end
section
variable {K:Fg}{F H:Hp}{v:V}
theorem At.int{i:Int}(h:At K F H v (.int i)):v=.int i:=by
 rcases h with h|⟨a,o,rfl,_,_,h⟩
 ·cases h;rfl
 ·cases o<;>exact h.elim
theorem At.bool{b:Bool}(h:At K F H v (.bool b)):v=.bl b:=by
 rcases h with h|⟨a,o,rfl,_,_,h⟩
 ·cases h;rfl
 ·cases o<;>exact h.elim
theorem At.str{x:Str}(h:At K F H v (.str x)):v=.str x:=by
 rcases h with h|⟨a,o,rfl,_,_,h⟩
 ·cases h;rfl
 ·cases o<;>exact h.elim
theorem At.none(h:At K F H v .none):v=.non:=by
 rcases h with h|⟨a,o,rfl,_,_,h⟩
 ·cases h;rfl
 ·cases o<;>exact h.elim
theorem At.list{ds:List D}(s:Sub F H)(h:At K F H v (.list ds)):∃a xs,v=.ref a/\H a=some (.lst xs)/\DaAll K F xs ds:=by
 rcases h with h|⟨a,o,rfl,_,e,h⟩
 ·cases h with
  | lst e t=>exact ⟨_,_,rfl,s _ _ e,t⟩
 ·cases o<;>first|exact h.elim|exact ⟨_,_,rfl,e,h⟩
theorem At.tuple{ds:List D}(s:Sub F H)(h:At K F H v (.tuple ds)):∃a xs,v=.ref a/\F a=some (.tup xs)/\H a=some (.tup xs)/\DaAll K F xs ds:=by
 rcases h with h|⟨a,o,rfl,_,e,h⟩
 ·cases h with
  | tup e t=>exact ⟨_,_,rfl,e,s _ _ e,t⟩
 ·cases o<;>exact h.elim
theorem keyD_ne(k:Key):keyD k≠.none:=by cases k<;>(intro z;cases z)
theorem Da.scr_inv{ns:List Int}:∀{d:D},Da K F v d->d=scrD ns->∃a,v=.ref a/\SqL K F a (ns.map V.int)
 | _,.non,e=>by cases e
 | _,.bl _,e=>by cases e
 | _,.int _,e=>by cases e
 | _,.str _,e=>by cases e
 | _,.lst _ _,e=>by cases e
 | _,.tup _ _,e=>by cases e
 | _,.dk _ t,e=>by
  cases t with
  | nil=>injection e with e;cases e
  | cons _ _ =>
   injection e with e
   injection e with e _
   injection e with e _
   exact (keyD_ne _ e).elim
 | _,.dt _ t,e=>by
  cases t with
  | nil=>injection e with e;cases e
  | cons _ _ =>
   injection e with e
   injection e with e _
   injection e with e _
   cases e
 | _,.scr (ns:=ns') q,e=>by
  injection e with e
  injection e with e _
  injection e with _ e
  injection e with e2
  have:∀(l m:List Int),l.map G0=m.map G0->l=m:=by
   intro l
   induction l with
   | nil=>intro m e;cases m with|nil=>rfl|cons=>simp at e
   | cons a l ih=>intro m e;cases m with|nil=>simp at e|cons b m=>simp at e;rw[e.1,ih m e.2]
  rw[<- this _ _ e2]
  exact ⟨_,rfl,q⟩
theorem At.scr{ns:List Int}(s:Sub F H)(h:At K F H v (scrD ns)):∃a,v=.ref a/\SqL K H a (ns.map V.int):=by
 rcases h with h|⟨a,o,rfl,_,e,h⟩
 ·obtain⟨a,h1,h2⟩:=h.scr_inv rfl
  exact ⟨a,h1,s.sql h2⟩
 ·exfalso
  cases o<;>first|exact h.elim|skip
  ·rename_i kvs
   have h:DaKV K F kvs [(.none,.list (ns.map G0))]:=h
   generalize q:[(PyData.none,T4 (ns.map G0))]=es at h
   cases h with
   | nil=>cases q
   | cons _ _ =>
    injection q with q _
    injection q with q _
    exact keyD_ne _ q.symm
  ·rename_i kvs
   have h:DaKT K F kvs [(.none,.list (ns.map G0))]:=h
   cases h
theorem AtAll.one{vs:List V}{d:D}(h:AtAll K F H vs [d]):∃v,vs=[v]/\At K F H v d:=by
 cases h with|cons a t=>cases t;exact ⟨_,rfl,a⟩
theorem AtAll.two{vs:List V}{d e:D}(h:AtAll K F H vs [d,e]):∃v u,vs=[v,u]/\At K F H v d/\At K F H u e:=by
 cases h with|cons a t=>cases t with|cons b t=>cases t;exact ⟨_,_,rfl,a,b⟩
end
noncomputable def r2L(r:R2):List V->Hp->VK->Prop:=λvs H Q=>∃x y,vs=[x,y]/\r x y H Q
noncomputable def r1L(r:V->Hp->VK->Prop):List V->Hp->VK->Prop:=λvs H Q=>∃x,vs=[x]/\r x H Q
theorem ok2{K:Fg}{r:R2}{f:D->D->(Sl->Prop)->Prop}(h:∀(G:Gh) (F:Hp) (σ:St) (H:Hp) (ρ:Ev) (x y:V) (d e:D) (Q:VK) (Qd:Sl->Prop),Rel K G F σ H ρ->At K F H x d->At K F H y e->f d e Qd ->
    (∀v H' F' s,Sub F F'->Rel K G F' σ H' ρ->Res K G F' H' σ ρ v s->Qd s->Q v H')->r x y H Q):OpOk K (r2L r) (o2 f):=by
 intro G F σ H ρ vs ds Q Qd R a w k
 match ds,a,w with
 | [d,e],a,w =>
  obtain⟨v,u,rfl,h1,h2⟩:=a.two
  exact ⟨v,u,rfl,h G F σ H ρ v u d e Q Qd R h1 h2 w k⟩
theorem ok1{K:Fg}{r:List V->Hp->VK->Prop}{f:D->(Sl->Prop)->Prop}(h:∀(G:Gh) (F:Hp) (σ:St) (H:Hp) (ρ:Ev) (x:V) (d:D) (Q:VK) (Qd:Sl->Prop),Rel K G F σ H ρ->At K F H x d->f d Qd ->
    (∀v H' F' s,Sub F F'->Rel K G F' σ H' ρ->Res K G F' H' σ ρ v s->Qd s->Q v H')->r [x] H Q):OpOk K r (o1 f):=by
 intro G F σ H ρ vs ds Q Qd R a w k
 match ds,a,w with
 | [d],a,w =>
  obtain⟨v,rfl,h1⟩:=a.one
  exact h G F σ H ρ v d Q Qd R h1 w k
noncomputable def fI(C:Int->Int->Prop)(g:Int->Int->D):D->D->(Sl->Prop)->Prop
 | .int i,.int j,Q=>C i j/\Q (.fz (g i j))
 | _,_,_=>False
noncomputable def fI0(g:Int->Int->D):D->D->(Sl->Prop)->Prop
 | .int i,.int j,Q=>Q (.fz (g i j))
 | _,_,_=>False
theorem ok_I{K:Fg}{C:Int->Int->Prop}{g:Int->Int->V}{g':Int->Int->D}(hg:∀F i j,Da K F (g i j) (g' i j)):OpOk K (r2L (rI C g)) (o2 (fI C g')):=ok2 λG F σ H ρ x y d e Q Qd R h1 h2 w k=>by
 cases d<;>first|exact w.elim|skip
 cases e<;>first|exact w.elim|skip
 case int.int i j =>
  cases h1.int
  cases h2.int
  exact ⟨i,j,rfl,rfl,w.1,k _ H F (.fz _) (Sub.refl _) R (hg F i j) w.2⟩
theorem ok_I0{K:Fg}{g:Int->Int->V}{g':Int->Int->D}(hg:∀F i j,Da K F (g i j) (g' i j)):OpOk K (r2L (rI0 g)) (o2 (fI0 g')):=ok2 λG F σ H ρ x y d e Q Qd R h1 h2 w k=>by
 cases d<;>first|exact w.elim|skip
 cases e<;>first|exact w.elim|skip
 case int.int i j =>
  cases h1.int
  cases h2.int
  exact ⟨i,j,rfl,rfl,k _ H F (.fz _) (Sub.refl _) R (hg F i j) w⟩
noncomputable def rAny(r r':R2):R2:=λx y H Q=>r x y H Q\/r' x y H Q
noncomputable def rCatB:R2:=λx y H Q=>∃(a b:Addr) (xs ys:List V),x=.ref a/\y=.ref b/\H a=some (.tup xs)/\H b=some (.tup ys)/\xs.length+ys.length<=sizeLine /\
 (xs=[]->Q (.ref b) H)/\(xs≠[]->ys=[]->Q (.ref a) H)/\(xs≠[]->ys≠[]->∀p,H p=none->Q (.ref p) (upd H p (.tup (xs++ys))))
noncomputable def fAdd:D->D->(Sl->Prop)->Prop
 | .int i,.int j,Q=>Q (.fz (.int (i+j)))
 | .tuple xs,.tuple ys,Q=>xs.length+ys.length<=sizeLine/\Q (.fz (.tuple (xs++ys)))
 | .list xs,.list ys,Q=>xs.length+ys.length<=sizeLine/\Q (.ow (.list (xs++ys)))
 | _,_,_=>False
theorem DaAll.nil_of{K:Fg}{F:Hp}{ds:List D}(h:DaAll K F [] ds):ds=[]:=by cases h;rfl
theorem ok_add{K:Fg}:OpOk K (r2L (rAny (rI0 λi j=>.int (i+j)) (rAny rCatB rCat))) (o2 fAdd):=ok2 λG F σ H ρ x y d e Q Qd R h1 h2 w k=>by
 cases d<;>first|exact w.elim|(cases e<;>first|exact w.elim|skip)
 case int.int i j =>
  cases h1.int
  cases h2.int
  exact .inl ⟨i,j,rfl,rfl,k _ H F (.fz _) (Sub.refl _) R (Da.int _) w⟩
 case tuple.tuple xs ys =>
  obtain⟨a,us,rfl,f1,e1,d1⟩:=h1.tuple R.sub
  obtain⟨b,ws,rfl,f2,e2,d2⟩:=h2.tuple R.sub
  refine .inr (.inl ⟨a,b,us,ws,rfl,rfl,e1,e2,by rw[d1.length,d2.length];exact w.1,λz=>?_,λ_ z=>?_,λ_ _ p hp=>?_⟩)
  ·subst z
   have:=d1.nil_of
   subst this
   exact k _ H F (.fz _) (Sub.refl _) R (Da.tup f2 d2) w.2
  ·subst z
   have:=d2.nil_of
   subst this
   refine k _ H F (.fz _) (Sub.refl _) R (Da.tup f1 d1) ?_
   have:=w.2
   rw[S3]at this
   exact this
  ·obtain⟨sb,R',dd⟩:=R.newTup hp (d1.append d2)
   exact k _ _ _ (.fz _) sb R' dd w.2
 case list.list xs ys =>
  obtain⟨a,us,rfl,e1,d1⟩:=h1.list R.sub
  obtain⟨b,ws,rfl,e2,d2⟩:=h2.list R.sub
  refine .inr (.inr ⟨a,b,us,ws,rfl,rfl,e1,e2,by rw[d1.length,d2.length];exact w.1,λp hp=>?_⟩)
  obtain⟨R',r'⟩:=R.newOw (o:=.lst (us++ws)) (d:=.list (xs++ys)) hp (d1.append d2)
  exact k _ _ F _ (Sub.refl _) R' r' w.2
noncomputable def fMul:D->D->(Sl->Prop)->Prop
 | .int i,.int j,Q=>CMul i j/\Q (.fz (.int (i * j)))
 | .list xs,.int k,Q=>-(2 ^ 63)<=k/\k < 2 ^ 63/\xs.length * k.toNat<=sizeLine/\Q (.ow (.list (G2 k.toNat xs).flatten))
 | _,_,_=>False
theorem ok_mul{K:Fg}:OpOk K (r2L (rAny (rI CMul λi j=>.int (i * j)) rRep)) (o2 fMul):=ok2 λG F σ H ρ x y d e Q Qd R h1 h2 w k=>by
 cases d<;>first|exact w.elim|(cases e<;>first|exact w.elim|skip)
 case int.int i j =>
  cases h1.int
  cases h2.int
  exact .inl ⟨i,j,rfl,rfl,w.1,k _ H F (.fz _) (Sub.refl _) R (Da.int _) w.2⟩
 case list.int xs j =>
  cases h2.int
  obtain⟨a,us,rfl,e1,d1⟩:=h1.list R.sub
  refine .inr ⟨a,j,us,rfl,rfl,e1,w.1,w.2.1,by rw[d1.length];exact w.2.2.1,λp hp=>?_⟩
  obtain⟨R',r'⟩:=R.newOw (o:=.lst (G2 j.toNat us).flatten) (d:=.list (G2 j.toNat xs).flatten) hp (d1.rep _)
  exact k _ _ F _ (Sub.refl _) R' r' w.2.2.2
noncomputable def fLen:D->(Sl->Prop)->Prop
 | .list ds,Q=>Q (.fz (.int ds.length))
 | .tuple ds,Q=>Q (.fz (.int ds.length))
 | .dict [(.none,.list ds)],Q=>∃ns:List Int,ds=ns.map G0/\Q (.fz (.int ns.length))
 | _,_=>False
theorem ok_len{K:Fg}:OpOk K (rLen K) (o1 fLen):=ok1 λG F σ H ρ x d Q Qd R h1 w k=>by
 cases d<;>first|exact w.elim|skip
 case list ds =>
  obtain⟨a,us,rfl,e1,d1⟩:=h1.list R.sub
  exact ⟨a,us,rfl,.inl (SqL.of e1),k _ H F (.fz _) (Sub.refl _) R (Da.int _) (by rw[d1.length];exact w)⟩
 case tuple ds =>
  obtain⟨a,us,rfl,_,e1,d1⟩:=h1.tuple R.sub
  exact ⟨a,us,rfl,.inr (SqT.of e1),k _ H F (.fz _) (Sub.refl _) R (Da.int _) (by rw[d1.length];exact w)⟩
 case dict es =>
  rcases es with _|⟨⟨c1,c2⟩,_|⟨c3,c4⟩⟩
  ·exact w.elim
  ·cases c1<;>first|exact w.elim|skip
   cases c2<;>first|exact w.elim|skip
   obtain⟨ns,rfl,w⟩:=w
   obtain⟨a,rfl,q⟩:=h1.scr R.sub
   exact ⟨a,_,rfl,.inl q,k _ H F (.fz _) (Sub.refl _) R (Da.int _) (by rw[j0];exact w)⟩
  ·cases c1<;>first|exact w.elim|(cases c2<;>exact w.elim)
noncomputable def fIx:D->D->(Sl->Prop)->Prop
 | .list ds,.int i,Q=>∃d,atI ds i=some d/\Q (.fz d)
 | .tuple ds,.int i,Q=>∃d,atI ds i=some d/\Q (.fz d)
 | .dict [(.none,.list ds)],.int i,Q=>∃(ns:List Int) (n:Int),ds=ns.map G0/\atI ns i=some n/\Q (.fz (.int n))
 | _,_,_=>False
theorem DaAll.at{K:Fg}{F:Hp}{xs:List V}{ds:List D}{i:Int}{d:D}(h:DaAll K F xs ds)(e:atI ds i=some d):∃v,atI xs i=some v/\Da K F v d:=by
 unfold atI at e ⊢
 rw[h.length]
 cases q:ixN ds.length i with
 | none=>rw[q]at e;cases e
 | some j=>rw[q]at e;exact h.get e
theorem atI_map{α β:Type}(f:α->β){l:List α}{i:Int}{x:α}(h:atI l i=some x):atI (l.map f) i=some (f x):=by
 unfold atI at h ⊢
 rw[j0]
 cases q:ixN l.length i with
 | none=>rw[q]at h;cases h
 | some j=>rw[q]at h;simp at h ⊢;exact ⟨x,h,rfl⟩
theorem ok_ix{K:Fg}:OpOk K (r2L (rAny (rIxL K) (rIxT K))) (o2 fIx):=ok2 λG F σ H ρ x y d e Q Qd R h1 h2 w k=>by
 cases d<;>first|exact w.elim|skip
 case list ds =>
  cases e<;>first|exact w.elim|skip
  rename_i i
  obtain⟨d,w1,w2⟩:=w
  cases h2.int
  obtain⟨a,us,rfl,e1,d1⟩:=h1.list R.sub
  obtain⟨v,g1,g2⟩:=d1.at w1
  exact .inl ⟨a,us,i,v,rfl,rfl,SqL.of e1,g1,k _ H F (.fz _) (Sub.refl _) R g2 w2⟩
 case tuple ds =>
  cases e<;>first|exact w.elim|skip
  rename_i i
  obtain⟨d,w1,w2⟩:=w
  cases h2.int
  obtain⟨a,us,rfl,_,e1,d1⟩:=h1.tuple R.sub
  obtain⟨v,g1,g2⟩:=d1.at w1
  exact .inr ⟨a,us,i,v,rfl,rfl,SqT.of e1,g1,k _ H F (.fz _) (Sub.refl _) R g2 w2⟩
 case dict es =>
  rcases es with _|⟨⟨c1,c2⟩,_|⟨c3,c4⟩⟩
  ·exact w.elim
  ·cases c1<;>first|exact w.elim|skip
   cases c2<;>first|exact w.elim|skip
   cases e<;>first|exact w.elim|skip
   rename_i i
   obtain⟨ns,n,e,w1,w2⟩:=w
   subst e
   cases h2.int
   obtain⟨a,rfl,q⟩:=h1.scr R.sub
   exact .inl ⟨a,_,i,_,rfl,rfl,q,atI_map V.int w1,k _ H F (.fz _) (Sub.refl _) R (Da.int _) w2⟩
  ·cases c1<;>first|exact w.elim|(cases c2<;>exact w.elim)
noncomputable def fList:D->(Sl->Prop)->Prop
 | .list ds,Q=>Q (.ow (.list ds))
 | .tuple ds,Q=>Q (.ow (.list ds))
 | _,_=>False
theorem ok_list{K:Fg}:OpOk K (rListOf K) (o1 fList):=ok1 λG F σ H ρ x d Q Qd R h1 w k=>by
 match d,h1,w with
 | .list ds,h1,w =>
  obtain⟨a,us,rfl,e1,d1⟩:=h1.list R.sub
  refine ⟨a,us,rfl,.inl (SqL.of e1),λp hp=>?_⟩
  obtain⟨R',r'⟩:=R.newOw (o:=.lst us) (d:=.list ds) hp d1
  exact k _ _ F _ (Sub.refl _) R' r' w
 | .tuple ds,h1,w =>
  obtain⟨a,us,rfl,_,e1,d1⟩:=h1.tuple R.sub
  refine ⟨a,us,rfl,.inr (SqT.of e1),λp hp=>?_⟩
  obtain⟨R',r'⟩:=R.newOw (o:=.lst us) (d:=.list ds) hp d1
  exact k _ _ F _ (Sub.refl _) R' r' w
noncomputable def fTuple:D->(Sl->Prop)->Prop
 | .list ds,Q=>Q (.fz (.tuple ds))
 | .tuple ds,Q=>Q (.fz (.tuple ds))
 | _,_=>False
theorem ok_tuple{K:Fg}:OpOk K (rTupleOf K) (o1 fTuple):=ok1 λG F σ H ρ x d Q Qd R h1 w k=>by
 match d,h1,w with
 | .list ds,h1,w =>
  obtain⟨a,us,rfl,e1,d1⟩:=h1.list R.sub
  refine ⟨a,us,rfl,.inl ⟨SqL.of e1,λp hp=>?_⟩⟩
  obtain⟨sb,R',dd⟩:=R.newTup hp d1
  exact k _ _ _ (.fz _) sb R' dd w
 | .tuple ds,h1,w =>
  obtain⟨a,us,rfl,f1,e1,d1⟩:=h1.tuple R.sub
  exact ⟨a,us,rfl,.inr ⟨SqT.of e1,k _ H F (.fz _) (Sub.refl _) R (Da.tup f1 d1) w⟩⟩
noncomputable def fAll:D->(Sl->Prop)->Prop
 | .list ds,Q=>∃bs:List Bool,ds=bs.map J4/\Q (.fz (.bool (bs.all id)))
 | _,_=>False
theorem DaAll.bools{K:Fg}{F:Hp}:∀{xs:List V}{bs:List Bool},DaAll K F xs (bs.map J4)->xs=bs.map V.bl
 | [],[],_=>rfl
 | x :: xs,b :: bs,.cons h t=>by cases h;simp[DaAll.bools t]
theorem ok_all{K:Fg}:OpOk K (rAll K) (o1 fAll):=ok1 λG F σ H ρ x d Q Qd R h1 w k=>by
 match d,h1,w with
 | .list ds,h1,⟨bs,e,w⟩ =>
  subst e
  obtain⟨a,us,rfl,e1,d1⟩:=h1.list R.sub
  have:=d1.bools
  subst this
  exact ⟨a,bs,rfl,SqL.of e1,k _ H F (.fz _) (Sub.refl _) R (Da.bl _) w⟩
noncomputable def kiD:D->Ki
 | .none=>.non
 | .bool _=>.bl
 | .int _=>.int
 | .str _=>.str
 | .list _=>.lst
 | .tuple _=>.tup
 | .dict ((.none,_) :: _)=>.lst
 | .dict _=>.dct
noncomputable def fAbs:D->(Sl->Prop)->Prop
 | .int i,Q=>Q (.fz (.int (if i < 0 then -i else i)))
 | _,_=>False
theorem ok_2I{K:Fg}{g:Int->Int->Int}:OpOk K (λxs H Q=>∃i j,xs=[V.int i,V.int j]/\Q (V.int (g i j)) H) (o2 (fI0 λi j=>.int (g i j))):=by
 intro G F σ H ρ vs ds Q Qd R a w k
 match ds,a,w with
 | [d,e],a,w =>
  obtain⟨v,u,rfl,h1,h2⟩:=a.two
  have w:fI0 (λi j=>.int (g i j)) d e Qd:=w
  unfold fI0 at w
  split at w
  rotate_left
  ·exact w.elim
  rename_i i j w
  cases h1.int
  cases h2.int
  exact ⟨i,j,rfl,k _ H F (.fz _) (Sub.refl _) R (Da.int _) w⟩
noncomputable def fInt:D->(Sl->Prop)->Prop
 | .int i,Q=>Q (.fz (.int i))
 | .bool b,Q=>Q (.fz (.int (if b then 1 else 0)))
 | _,_=>False
theorem ok_int{K:Fg}:OpOk K (λxs H Q=>(∃i,xs=[V.int i]/\Q (V.int i) H)\/∃k,xs=[V.bl k]/\Q (V.int (if k then 1 else 0)) H) (o1 fInt):=ok1 λG F σ H ρ x d Q Qd R h1 w k=>by
 match d,h1,w with
 | .int i,h1,w=>cases h1.int;exact .inl ⟨i,rfl,k _ H F (.fz _) (Sub.refl _) R (Da.int _) w⟩
 | .bool b,h1,w=>cases h1.bool;exact .inr ⟨b,rfl,k _ H F (.fz _) (Sub.refl _) R (Da.int _) w⟩
noncomputable def fNeg:D->(Sl->Prop)->Prop
 | .int i,Q=>Q (.fz (.int (-i)))
 | _,_=>False
theorem ok_neg{K:Fg}:OpOk K (r1L (rU λi=>.int (-i))) (o1 fNeg):=ok1 λG F σ H ρ x d Q Qd R h1 w k=>by
 match d,h1,w with
 | .int i,h1,w=>cases h1.int;exact ⟨_,rfl,i,rfl,k _ H F (.fz _) (Sub.refl _) R (Da.int _) w⟩
noncomputable def dOpF(as:List AD)(f:List D->(Sl->Prop)->Prop):TD:=λρ Q=>dArgs as ρ λxs ρ1=>match lentAny ρ1 xs with
 | false=>looksQ ρ1 xs λds=>f ds λr=>Q r ρ1
 | true=>False
noncomputable def fTupD(ds:List D)(Q:Sl->Prop):Prop:=Q (.fz (.tuple ds))
noncomputable def fLstD(ds:List D)(Q:Sl->Prop):Prop:=Q (.ow (.list ds))
theorem le_size{n:Nat}(h:n<=1000):n<=sizeLine:=Q0 h (by decide)
theorem l_tup{K:Fg}{as:List AD}(hl:as.length<=1000){σ:St}{H:Hp}{Q:VK}(h:lift K (dOpF as fTupD) σ H Q):tTup (tArgs (as.map (argT K))) σ H Q:=by
 obtain⟨G,F,ρ,Qd,R,w,k⟩:=h
 refine args_okL R w λvs H' F' xs ρ' sb R' o hn q=>?_
 split at q
 ·rename_i e
  obtain⟨ds,da,q⟩:=noLent_looks R' e o q
  refine ⟨le_size (by omega),λp hp=>?_⟩
  obtain⟨s2,R2,dd⟩:=R'.newTup hp da
  exact k _ _ _ (.fz _) _ (sb.trans s2) R2 dd q
 ·exact q.elim
theorem l_lst{K:Fg}{as:List AD}(hl:as.length<=1000){σ:St}{H:Hp}{Q:VK}(h:lift K (dOpF as fLstD) σ H Q):tLst (tArgs (as.map (argT K))) σ H Q:=by
 obtain⟨G,F,ρ,Qd,R,w,k⟩:=h
 refine args_okL R w λvs H' F' xs ρ' sb R' o hn q=>?_
 split at q
 ·rename_i e
  obtain⟨ds,da,q⟩:=noLent_looks R' e o q
  refine ⟨le_size (by omega),λp hp=>?_⟩
  obtain⟨R2,r2⟩:=R'.newOw (o:=.lst vs) (d:=.list ds) hp da
  exact k _ _ _ _ _ sb R2 r2 q
 ·exact q.elim
noncomputable def dMeth(i:Nat)(as:List AD)(f:List D->List D->(D->D->Prop)->Prop):TD:=λρ Q=>match ρ[i]? with
 | some (some s0)=>match s0.d,isOw s0 with
  | .list _,true=>dArgs as ρ λxs ρ1=>match ρ1[i]?,lentAny ρ1 xs with
   | some (some s),false=>match s.d,isOw s with
    | .list es,true=>looksQ ρ1 xs λds=>f es ds λd' r=>Q (.fz r) (ρ1.set i (some (s.put d')))
    | _,_=>False
   | _,_=>False
  | _,_=>False
 | _=>False
noncomputable def MOk(K:Fg)(r:V->List V->Hp->VK->Prop)(f:List D->List D->(D->D->Prop)->Prop):Prop :=
 ∀(F H:Hp) (a:Addr) (xs:List V) (es:List D) (vs:List V) (ds:List D) (Q:VK) (k:D->D->Prop),Sub F H->H a=some (.lst xs)->DaAll K F xs es->DaAll K F vs ds->f es ds k ->
  (∀v o' d' res,Own1 K F o' d'->Da K F v res->k d' res->Q v (upd H a o'))->r (.ref a) vs H Q
theorem l_meth{K:Fg}{i:Nat}{as:List AD}{r:V->List V->Hp->VK->Prop}{f:List D->List D->(D->D->Prop)->Prop}(ok:MOk K r f){σ:St}{H:Hp}{Q:VK}(h:lift K (dMeth i as f) σ H Q) :
  ∃a xs,σ[i]?=some (some (V.ref a))/\SqL K H a xs/\tArgs (as.map (argT K)) σ H λvs H2=>r (.ref a) vs H2 Q:=by
 obtain⟨G,F,ρ,Qd,R,w,k⟩:=h
 unfold dMeth at w
 split at w
 ·rename_i s0 e0
  split at w
  ·rename_i es0 p1 p2
   obtain⟨a,o,g1,g2,g3,g4⟩:=R.ow i s0 e0 p2
   have gl:∃xs,H a=some (.lst xs):=by
    rw[p1]at g4
    cases o<;>first|exact g4.elim|exact ⟨_,g3⟩
   obtain⟨xs0,gl⟩:=gl
   refine ⟨a,xs0,g1,SqL.of gl,args_ok R w λvs H1 F1 xs ρ1 s1 R1 o1 w1=>?_⟩
   split at w1
   ·rename_i s e en
    split at w1
    ·rename_i es q1 q2
     obtain⟨ds,da,w1⟩:=noLent_looks R1 en o1 w1
     obtain⟨a',o',h1,h2,h3,h4⟩:=R1.ow i s e q2
     rw[g1]at h1;cases h1
     rw[q1]at h4
     have hl:∃us,o'=.lst us/\DaAll K F1 us es:=by cases o'<;>first|exact h4.elim|exact ⟨_,rfl,h4⟩
     obtain⟨us,rfl,h4⟩:=hl
     refine ok F1 H1 a us es vs ds Q _ R1.sub h3 h4 da w1 λv o2 d2 res ho hv hk=>?_
     have R2:=R1.change (o':=o2) (d':=d2) e q2 g1 ho
     exact k v _ F1 (.fz res) _ s1 R2 hv hk
    ·exact w1.elim
   ·exact w1.elim
  ·exact w.elim
 ·exact w.elim
noncomputable def fAppend:List D->List D->(D->D->Prop)->Prop
 | es,[x],k=>es.length < sizeLine/\k (.list (es++[x])) .none
 | _,_,_=>False
theorem ok_append{K:Fg}:MOk K rAppend fAppend:=by
 intro F H a xs es vs ds Q k s e d1 d2 w q
 match ds,d2,w with
 | [x],.cons h .nil,w=>exact ⟨a,xs,_,rfl,rfl,e,by rw[d1.length];exact w.1,q _ (.lst (xs++[_])) (.list (es++[x])) _ (d1.append (.cons h .nil)) .non w.2⟩
noncomputable def fExtend:List D->List D->(D->D->Prop)->Prop
 | es,[.list ys],k=>es.length+ys.length<=sizeLine/\k (.list (es++ys)) .none
 | _,_,_=>False
theorem ok_extend{K:Fg}:MOk K rExtend fExtend:=by
 intro F H a xs es vs ds Q k s e d1 d2 w q
 match ds,d2,w with
 | [.list ys],.cons h .nil,w =>
  cases h with
  | lst e2 t=>exact ⟨a,_,xs,_,rfl,rfl,e,s _ _ e2,by rw[d1.length,t.length];exact w.1,q _ (.lst (xs++_)) (.list (es++ys)) _ (d1.append t) .non w.2⟩
noncomputable def fPop:List D->List D->(D->D->Prop)->Prop
 | es,[],k=>∃d,es[es.length - 1]?=some d/\k (.list es.dropLast) d
 | _,_,_=>False
theorem ok_pop{K:Fg}:MOk K rPop fPop:=by
 intro F H a xs es vs ds Q k s e d1 d2 w q
 match ds,d2,w with
 | [],.nil,⟨d,w1,w2⟩ =>
  obtain⟨v,h1,h2⟩:=d1.get w1
  exact ⟨a,xs,v,rfl,rfl,e,by rw[d1.length];exact h1,q v (.lst xs.dropLast) (.list es.dropLast) d d1.dropLast h2 w2⟩
noncomputable def fInsert:List D->List D->(D->D->Prop)->Prop
 | es,[.int i,x],k=>es.length < sizeLine/\0<=i/\i<=es.length/\k (.list (es.take i.toNat++x :: es.drop i.toNat)) .none
 | _,_,_=>False
theorem ok_insert{K:Fg}:MOk K rInsert fInsert:=by
 intro F H a xs es vs ds Q k s e d1 d2 w q
 rcases ds with _|⟨d,_|⟨x,_|⟨e3,ds⟩⟩⟩<;>first|exact w.elim|(cases d<;>first|exact w.elim|skip)
 ·rename_i i
  cases d2 with|cons h t=>?_
  cases t with|cons h' t=>?_
  cases t
  cases h
  exact ⟨a,xs,i,_,rfl,rfl,e,by rw[d1.length];exact w.1,w.2.1,by rw[d1.length];exact w.2.2.1,q .non (.lst (xs.take i.toNat++_ :: xs.drop i.toNat)) (.list _) .none ((d1.take _).append (.cons h' (d1.drop _))) .non w.2.2.2⟩
noncomputable def dSetIx(j:Nat)(ai:AD)(te:TD):TDS:=λE ρ=>te ρ λr ρ1=>match ρ1[j]? with
 | some (some _)=>dArgs [ai] ρ1 λxs ρ2=>looksQ ρ2 xs λds=>match ds,ρ2[j]? with
  | [.int k],some (some s)=>match s.d,isOw s with
   | .list es,true=>∃n,ixN es.length k=some n/\E.nx (ρ2.set j (some (s.put (.list (es.set n r.d)))))
   | _,_=>False
  | _,_=>False
 | _=>False
theorem l_setIx{K:Fg}{j:Nat}{ai:AD}{te:TD}{σ:St}{H:Hp}{E:Ends}(h:liftS K (dSetIx j ai te) E σ H):tAsg (lift K te) (gSub (tVar j) (argT K ai) rSetL) E σ H:=by
 obtain⟨G,F,ρ,D,R,w,n,r,b,c⟩:=h
 refine ⟨G,F,ρ,_,R,w,λv H1 F1 x ρ1 s1 R1 r1 w1=>?_⟩
 obtain⟨F2,s2,R2,d2⟩:=r1.frz R1
 split at w1
 ·rename_i s0 e0
  obtain⟨u,eu⟩:=R2.bound e0
  refine ⟨u,eu,arg1 (P:=λi H2=>rSetL u i v H2 λH3=>E.nx σ H3) (args_ok R2 w1 λvs H3 F3 xs ρ3 s3 R3 o3 w3=>?_)⟩
  obtain⟨ds,ha,w3⟩:=looks_ok R3 o3 w3
  split at w3
  ·rename_i k s e
   obtain⟨iv,rfl,hi⟩:=ha.one
   cases hi.int
   split at w3
   ·rename_i es p1 p2
    obtain⟨m,w4,w5⟩:=w3
    obtain⟨a,o,g1,g2,g3,g4⟩:=R3.ow j s e p2
    rw[eu]at g1;cases g1
    rw[p1]at g4
    have hl:∃us,o=.lst us/\DaAll K F3 us es:=by cases o<;>first|exact g4.elim|exact ⟨_,rfl,g4⟩
    obtain⟨us,rfl,g4⟩:=hl
    refine ⟨_,rfl,a,us,k,m,rfl,rfl,g3,by rw[g4.length];exact w4,?_⟩
    have R4:=R3.change (o':=.lst (us.set m v)) (d':=.list (es.set m x.d)) e p2 eu (g4.set (d2.mono s3) m)
    exact n σ _ F3 _ (s1.trans (s2.trans s3)) R4 w5
   ·exact w3.elim
  ·exact w3.elim
 ·exact w1.elim
noncomputable def iSeq(K:Fg)(tl:TE):TI:=λσ H R=>tl σ H λx H1=>∃a,x=.ref a/\(((∃xs,SqL K H1 a xs)/\R (Itl K a) H1)\/((∃xs,SqT K H1 a xs)/\R (Itt K a) H1))
noncomputable def dISeq(a:TD):TDI:=λρ Q=>a ρ λr ρ1=>match r.d with
 | .list ds=>Q ds ρ1
 | .tuple ds=>Q ds ρ1
 | _=>False
theorem walks_list{K:Fg}{F:Hp}{a:Addr}{xs:List V}{ds:List D}(e:F a=some (.lst xs))(h:DaAll K F xs ds):Walks K (Itl K a) F ds:=λi H F1 s1 s2=>by
 have q:=SqL.of (K:=K) (s2 _ _ (s1 _ _ e))
 refine ⟨λd ed=>?_,λhl=>⟨xs,q,by rw[h.length];omega⟩⟩
 obtain⟨v,h1,h2⟩:=h.get ed
 refine ⟨⟨xs,v,q,h1⟩,λx H' ⟨e1,e2⟩=>?_⟩
 subst e1
 have:=e2 xs q
 rw[h1]at this;cases this
 exact ⟨F1,Sub.refl _,λ_ _ z=>.inl z,s2,Sub.refl _,h2.mono s1⟩
theorem walks_tup{K:Fg}{F:Hp}{a:Addr}{xs:List V}{ds:List D}(e:F a=some (.tup xs))(h:DaAll K F xs ds):Walks K (Itt K a) F ds:=λi H F1 s1 s2=>by
 have q:=SqT.of (K:=K) (s2 _ _ (s1 _ _ e))
 refine ⟨λd ed=>?_,λhl=>⟨xs,q,by rw[h.length];omega⟩⟩
 obtain⟨v,h1,h2⟩:=h.get ed
 refine ⟨⟨xs,v,q,h1⟩,λx H' ⟨e1,e2⟩=>?_⟩
 subst e1
 have:=e2 xs q
 rw[h1]at this;cases this
 exact ⟨F1,Sub.refl _,λ_ _ z=>.inl z,s2,Sub.refl _,h2.mono s1⟩
theorem l_iseq{K:Fg}{a:TD}{σ:St}{H:Hp}{R:It->Hp->Prop}(h:liftI K (dISeq a) σ H R):iSeq K (lift K a) σ H R:=by
 obtain⟨G,F,ρ,Qd,Rl,w,k⟩:=h
 refine ⟨G,F,ρ,_,Rl,w,λv H1 F1 r ρ1 s1 R1 r1 w1=>?_⟩
 obtain⟨F2,s2,R2,d2⟩:=r1.frz R1
 split at w1
 ·rename_i ds e
  rw[e]at d2
  cases d2 with
  | lst q t=>exact ⟨_,rfl,.inl ⟨⟨_,SqL.of (R2.sub _ _ q)⟩,k _ H1 F2 ds ρ1 (s1.trans s2) R2 (walks_list q t) w1⟩⟩
 ·rename_i ds e
  rw[e]at d2
  cases d2 with
  | tup q t=>exact ⟨_,rfl,.inr ⟨⟨_,SqT.of (R2.sub _ _ q)⟩,k _ H1 F2 ds ρ1 (s1.trans s2) R2 (walks_tup q t) w1⟩⟩
 ·exact w1.elim
noncomputable def rangeD(lo:Int)(n:Nat):List D:=(G3 n).map λ(i:Nat)=>G0 (lo+i)
theorem walks_range{K:Fg}{F:Hp}{lo:Int}{n:Nat}:Walks K (Itr lo n) F (rangeD lo n):=λi H F1 s1 s2=>by
 have hl:(rangeD lo n).length=n:=by simp[rangeD]
 refine ⟨λd ed=>?_,λh=>by rw[hl]at h;exact B7 h⟩
 have hi:i < n:=by have:=lt_of_get ed;rw[hl]at this;exact this
 have e:(rangeD lo n)[i]?=some (.int (lo+i)):=by simp[rangeD,hi]
 rw[e]at ed;cases ed
 refine ⟨hi,λx H' ⟨e1,e2⟩=>?_⟩
 subst e1 e2
 exact ⟨F1,Sub.refl _,λ_ _ z=>.inl z,s2,Sub.refl _,.int _⟩
noncomputable def dIRng1(a:AD):TDI:=λρ Q=>dArgs [a] ρ λxs ρ1=>looksQ ρ1 xs λds=>match ds with
 | [.int j]=>-(2 ^ 62)<=j/\j < 2 ^ 62/\Q (rangeD 0 j.toNat) ρ1
 | _=>False
theorem l_rng1{K:Fg}{a:AD}{σ:St}{H:Hp}{R:It->Hp->Prop}(h:liftI K (dIRng1 a) σ H R):iRng1 (tArgs ([a].map (argT K))) σ H R:=by
 obtain⟨G,F,ρ,Qd,Rl,w,k⟩:=h
 refine args_ok Rl w λvs H' F' xs ρ' sb R' o w1=>?_
 obtain⟨ds,ha,w1⟩:=looks_ok R' o w1
 split at w1
 ·rename_i j
  obtain⟨v,rfl,h1⟩:=ha.one
  cases h1.int
  exact ⟨j,rfl,w1.1,w1.2.1,k _ H' F' _ ρ' sb R' walks_range w1.2.2⟩
 ·exact w1.elim
noncomputable def SeqF(K:Fg)(F:Hp)(v:V)(ds:List D):Prop:=∃k a xs,v=.ref a/\(F a=some (match k with|Kd.l=>HO.lst xs|Kd.t=>HO.tup xs))/\DaAll K F xs ds
theorem sq_of{K:Fg}{H:Hp}{a:Addr}{xs:List V}{k:Kd}(e:H a=some (match k with|Kd.l=>HO.lst xs|Kd.t=>HO.tup xs)):Sq k K H a xs:=by
 cases k with
 | l=>exact SqL.of e
 | t=>exact SqT.of e
noncomputable def seqD:D->Option (List D)
 | .list ds=>some ds
 | .tuple ds=>some ds
 | _=>none
theorem seqF_of{K:Fg}{F:Hp}{v:V}{d:D}{ds:List D}(h:Da K F v d)(e:seqD d=some ds):∃k a xs,v=.ref a/\(F a=some (match k with|Kd.l=>HO.lst xs|Kd.t=>HO.tup xs))/\DaAll K F xs ds:=by
 cases h with
 | lst q t=>cases e;exact ⟨.l,_,_,rfl,q,t⟩
 | tup q t=>cases e;exact ⟨.t,_,_,rfl,q,t⟩
 | non=>cases e
 | bl=>cases e
 | int=>cases e
 | str=>cases e
 | dk _ _=>cases e
 | dt _ _=>cases e
 | scr _=>cases e
 | exc _=>cases e
 | opq _=>cases e
 | pd _ _=>cases e
 | bd _ _=>cases e
noncomputable def zipD(ds es:List D):List D:=(ds.zip es).map λp=>V1 [p.1,p.2]
noncomputable def dIZip2(a b:AD):TDI:=λρ Q=>dArgs [a,b] ρ λxs ρ1=>match lentAny ρ1 xs with
 | false=>looksQ ρ1 xs λds=>match ds with
  | [x,y]=>match seqD x,seqD y with
   | some us,some ws=>Q (zipD us ws) ρ1
   | _,_=>False
  | _=>False
 | true=>False
theorem walks_zip2{K:Fg}{F:Hp}{a b:Addr}{k1 k2:Kd}{xs ys:List V}{ds es:List D}(e1:F a=some (match k1 with|Kd.l=>HO.lst xs|Kd.t=>HO.tup xs))(h1:DaAll K F xs ds)
  (e2:F b=some (match k2 with|Kd.l=>HO.lst ys|Kd.t=>HO.tup ys)) (h2:DaAll K F ys es):Walks K (Itz2 K k1 k2 a b) F (zipD ds es):=λi H F1 s1 s2=>by
 have q1:Sq k1 K H a xs:=sq_of (s2 _ _ (s1 _ _ e1))
 have q2:Sq k2 K H b ys:=sq_of (s2 _ _ (s1 _ _ e2))
 refine ⟨λd ed=>?_,λhl=>⟨xs,ys,q1,q2,?_⟩⟩
 ·simp only[zipD,O0,v4]at ed
  obtain⟨⟨x,y⟩,ez,rfl⟩:=ed
  rw[o5]at ez
  obtain⟨v,g1,g2⟩:=h1.get ez.1
  obtain⟨u,g3,g4⟩:=h2.get ez.2
  refine ⟨⟨xs,v,ys,u,q1,q2,g1,g3⟩,λz H' ⟨T,x1,x2,hT,ex,eH,f1,f2⟩=>?_⟩
  subst ex eH
  have f1:=f1 xs q1
  have f2:=f2 ys q2
  rw[g1]at f1;cases f1
  rw[g3]at f2;cases f2
  have fT:F1 T=none:=by
   cases z:F1 T with
   | none=>rfl
   | some o=>rw[s2 _ _ z]at hT;cases hT
  refine ⟨upd F1 T (.tup [v,u]),Sub.new fT,λc o ec=>?_,λc o ec=>?_,Sub.new hT,.tup upd_same (.cons (g2.mono (s1.trans (Sub.new fT))) (.cons (g4.mono (s1.trans (Sub.new fT))) .nil))⟩
  ·by_cases z:c=T
   ·subst z;exact .inr hT
   ·rw[upd_ne z]at ec;exact .inl ec
  ·by_cases z:c=T
   ·subst z;rw[upd_same]at ec ⊢;exact ec
   ·rw[upd_ne z]at ec ⊢;exact s2 _ _ ec
 ·simp only[zipD,j0,r8]at hl
  rw[h1.length,h2.length]
  omega
theorem l_zip2{K:Fg}{a b:AD}{σ:St}{H:Hp}{R:It->Hp->Prop}(h:liftI K (dIZip2 a b) σ H R):iZip2 K (tArgs ([a,b].map (argT K))) σ H R:=by
 obtain⟨G,F,ρ,Qd,Rl,w,k⟩:=h
 refine args_ok Rl w λvs H' F' xs ρ' sb R' o w1=>?_
 split at w1
 ·rename_i e
  obtain⟨ds,da,w1⟩:=noLent_looks R' e o w1
  split at w1
  ·rename_i x y
   split at w1
   ·rename_i us ws p1 p2
    cases da with
    | cons d1 t =>
     cases t with
     | cons d2 t =>
      cases t
      obtain⟨k1,a1,us',rfl,e1,g1⟩:=seqF_of d1 p1
      obtain⟨k2,a2,ws',rfl,e2,g2⟩:=seqF_of d2 p2
      exact ⟨k1,a1,us',k2,a2,ws',rfl,sq_of (R'.sub _ _ e1),sq_of (R'.sub _ _ e2),k _ H' F' _ ρ' sb R' (walks_zip2 e1 g1 e2 g2) w1⟩
   ·exact w1.elim
  ·exact w1.elim
 ·exact w1.elim
section
variable {K:Fg}{F H:Hp}
theorem DaAll.keys:∀{xs:List V}{ks:List Key},DaAll K F xs (ks.map keyD)->xs=ks.map kV
 | [],[],_=>rfl
 | x :: xs,k :: ks,.cons h t=>by
  have e:x=kV k:=by cases k<;>(cases h;rfl)
  rw[e,DaAll.keys t];rfl
end
open PySem PySem.Spec PyProof.Rows L2
noncomputable def notStar:Expr->Bool
 | .Starred _ _=>false
 | _=>true
theorem starEach_of{e:Expr}{es:List Expr}{env:Env}(h:notStar e=true):starEach (e :: es) env=(false,eval e env) :: starEach es env:=by
 cases e<;>first|rfl|cases h
theorem plain_of{env:Env}{pos:Pos}:∀{es:List Expr},es.all notStar=true->(backTo pos (starEach es env)).any (·.1)=false:=by
 intro es
 induction es with
 | nil=>intro _;rfl
 | cons e es ih =>
  intro h
  simp only[List.all_cons,W1]at h
  rw[starEach_of h.1]
  have:=ih h.2
  simp[backTo]at this ⊢
  exact this
noncomputable def notSet:Expr->Bool
 | .Set _ _ _=>false
 | _=>true
theorem folded_of{e:Expr}{env:Env}(h:notSet e=true)(x:Value):foldedSetIterable e env x=pure x:=by
 cases e<;>first|rfl|cases h
noncomputable def notComp:Expr->Bool
 | .ListComp _ _ _ _=>false
 | .SetComp _ _ _ _=>false
 | .DictComp _ _ _ _ _=>false
 | _=>true
theorem swaps_of{e:Expr}{t:Option Expr}{n:Nat}{env:Env}(h:notComp e=true):swapsWith e t n env=pure false:=by
 cases e<;>first|rfl|cases h
section
variable {X:Cx}{K:Fg}
theorem peM{e:Expr}{t t':TE}(h:PE X e t)(m:∀{σ H Q},t' σ H Q->t σ H Q):PE X e t':=λpins s σ H Q I w=>h pins s σ H Q I (m w)
theorem ptM{e:Expr}{t t':TT}(h:PT X e t)(m:∀{σ H Q},t' σ H Q->t σ H Q):PT X e t':=λpins s σ H Q I w=>h pins s σ H Q I (m w)
theorem pwM{e:Expr}{t t':TT}(h:PW X e t)(m:∀{σ H Q},t' σ H Q->t σ H Q):PW X e t':=λwh pins s σ H Q I w=>h wh pins s σ H Q I (m w)
theorem psM{e:Stmt}{t t':TS}(h:PS X e t)(m:∀{D σ H},t' D σ H->t D σ H):PS X e t':=λpins s σ H D I w=>h pins s σ H D I (m w)
theorem pssM{e:List Stmt}{t t':TS}(h:PSs X e t)(m:∀{D σ H},t' D σ H->t D σ H):PSs X e t':=λpins s σ H D I w=>h pins s σ H D I (m w)
theorem pgM{e:Expr}{t t':TG}(h:PG X e t)(m:∀{v σ H Q},t' v σ H Q->t v σ H Q):PG X e t':=by
 unfold PG at h ⊢
 intros
 exact h _ _ _ _ _ _ _ (by assumption) (by assumption) (m (by assumption))
theorem piM{g e:Expr}{t t':TI}(h:PI X g e t)(m:∀{σ H R},t' σ H R->t σ H R):PI X g e t':=λpins s σ H R I w=>h pins s σ H R I (m w)
theorem pifM{es:List Expr}{t t':TT}(h:PIf X es t)(m:∀{σ H Q},t' σ H Q->t σ H Q):PIf X es t':=λpins s σ H Q I w=>h pins s σ H Q I (m w)
theorem da_cons{e:Expr}{es:List Expr}{a:AD}{as:List AD}(ha:PE X e (argT K a))(hr:PA X es (tArgs (as.map (argT K))))(hs:starEach (e :: es) X.env=(false,eval e X.env) :: starEach es X.env:=by exact starEach_of rfl):PA X (e :: es) (tArgs ((a :: as).map (argT K))):=pa_cons ha hr hs
variable {e:Expr}{a b c:AD}{as:List AD}{td te:TD}{tc td':TTD}
theorem cv_var{i:Nat}(h:PE X e (tVar i)):PE X e (lift K (dVar i)):=peM h l_var
theorem cv_c{v:V}{d:D}(hv:∀F,Da K F v d)(h:PE X e (tC v)):PE X e (lift K (dC d)):=peM h (l_c hv)
theorem cv2{r:R2}{f:D->D->(Sl->Prop)->Prop}(ok:OpOk K (r2L r) (o2 f))(h:PE X e (tOp r (argT K a) (argT K b))):PE X e (lift K (dOp [a,b] (o2 f))):=peM h λq=>arg2 (l_op ok q)
theorem cvu{r:V->Hp->VK->Prop}{f:D->(Sl->Prop)->Prop}(ok:OpOk K (r1L r) (o1 f))(h:PE X e (tUn r (argT K a))):PE X e (lift K (dOp [a] (o1 f))):=peM h λq=>arg1 (l_op ok q)
theorem cvB{r:List V->Hp->VK->Prop}{f:List D->(Sl->Prop)->Prop}(ok:OpOk K r f)(h:PE X e (tCB r (tArgs (as.map (argT K))))):PE X e (lift K (dOp as f)):=peM h λq=>l_op ok q
theorem cv_tup(hl:as.length<=1000)(h:PE X e (tTup (tArgs (as.map (argT K))))):PE X e (lift K (dOpF as fTupD)):=peM h (l_tup hl)
theorem cv_lst(hl:as.length<=1000)(h:PE X e (tLst (tArgs (as.map (argT K))))):PE X e (lift K (dOpF as fLstD)):=peM h (l_lst hl)
theorem cv_and(h:PE X e (tAndV (lift K td) (lift K te))):PE X e (lift K (dAndV td te)):=peM h l_andV
theorem cv_not(h:PE X e (tNotV (lift K td))):PE X e (lift K (dNotV td)):=peM h l_notV
theorem cv_if(h:PE X e (tIf (liftT K tc) (lift K td) (lift K te))):PE X e (lift K (dIf tc td te)):=peM h l_if
theorem cv_fn{con:Con}{E:XK}(h:PE X e (tCall (conSp K con) [] E (tArgs (as.map (argT K))))):PE X e (lift K (dCall con as)):=peM h l_call
theorem cv_fnI{con:Con}{E:XK}{i:Nat}(h:PE X e (tCall (conSp K con) [] E (tArgs ((Sum.inl i :: as).map (argT K))))):PE X e (lift K (dCallI con i as)):=peM h l_callI
theorem cv_m{i:Nat}{r:V->List V->Hp->VK->Prop}{f:List D->List D->(D->D->Prop)->Prop}(ok:MOk K r f)(h:PE X e (tBM K "list" r (tVar i) (tArgs (as.map (argT K))))):PE X e (lift K (dMeth i as f)):=peM h λq=>by
 obtain⟨a,xs,e1,sq,w⟩:=l_meth ok q
 exact ⟨_,e1,.inl ⟨rfl,xs,sq⟩,w⟩
theorem cv_m0{i:Nat}{r:V->List V->Hp->VK->Prop}{f:List D->List D->(D->D->Prop)->Prop}(ok:MOk K r f)(h:PE X e (tBM0 K "list" r (tVar i))):PE X e (lift K (dMeth i [] f)):=peM h λq=>by
 obtain⟨a,xs,e1,sq,w⟩:=l_meth ok q
 exact ⟨_,e1,.inl ⟨rfl,xs,sq⟩,w⟩
theorem ct2{r:R2}{f:D->D->(Sl->Prop)->Prop}(ok:OpOk K (r2L r) (o2 f))(h:PT X e (tTest (tOp r (argT K a) (argT K b)))):PT X e (liftT K (dTst (dOp [a,b] (o2 f)))):=ptM h λq=>l_tst (λz=>arg2 (l_op ok z)) q
theorem ct_val(h:PT X e (tB (lift K td))):PT X e (liftT K (dTst td)):=ptM h λq=>l_tst (λz=>z) q
theorem ct_not(h:PT X e (tNot (liftT K tc))):PT X e (liftT K (dNot tc)):=ptM h l_not
theorem cw_and(h:PW X e (tAnd (liftT K tc) (liftT K td'))):PW X e (liftT K (dAnd tc td')):=pwM h l_and
theorem cw_or(h:PW X e (tOr (liftT K tc) (liftT K td'))):PW X e (liftT K (dOr tc td')):=pwM h l_or
variable {st:Stmt}{sts:List Stmt}{t u:TDS}
theorem cs_next(h:PSs X sts tNext):PSs X sts (liftS K dNext):=pssM h l_next
theorem cs_seq(h:PSs X sts (tSeq (liftS K t) (liftS K u))):PSs X sts (liftS K (dSeq t u)):=pssM h l_seq
theorem cs_ret(h:PS X st (tRet (lift K td))):PS X st (liftS K (dRet td)):=psM h l_ret
theorem cs_retV{i:Nat}(h:PS X st (tRet (tVar i))):PS X st (liftS K (dRetV i)):=psM h l_retV
theorem cs_drop(h:PS X st (tDrop (lift K td))):PS X st (liftS K (dDrop td)):=psM h l_drop
theorem cs_if(h:PS X st (tIfS (liftT K tc) (liftS K t) (liftS K u))):PS X st (liftS K (dIfS tc t u)):=psM h l_ifS
theorem cs_set{i:Nat}(h:PS X st (tAsg (lift K td) (gName i))):PS X st (liftS K (dSet i td)):=psM h l_set
theorem cs_ix{j:Nat}(h:PS X st (tAsg (lift K td) (gSub (tVar j) (argT K a) rSetL))):PS X st (liftS K (dSetIx j a td)):=psM h l_setIx
theorem cs_while(h:PS X st (tWhile (liftT K tc) (liftS K t))):PS X st (liftS K (dWhile tc t)):=psM h l_while
noncomputable def dAsgG(g:TDG)(a:TD):TDS:=λE ρ=>a ρ λr ρ'=>g r.d ρ' E.nx
theorem l_asgG{g:TDG}{E:Ends}{σ:L2.St}{H:Hp}(h:liftS K (dAsgG g td) E σ H):tAsg (lift K td) (liftG K g) E σ H:=by
 obtain⟨G,F,ρ,D,R,w,n,r,b,c⟩:=h
 refine ⟨G,F,ρ,_,R,w,λv H' F' x ρ' s R' r' q=>?_⟩
 obtain⟨F2,s2,R2,d2⟩:=r'.frz R'
 exact ⟨G,F2,ρ',x.d,_,R2,d2,q,λσ3 ρ3 R3 w3=>n σ3 H' F2 ρ3 (s.trans s2) R3 w3⟩
theorem cs_asgG{g:TDG}(h:PS X st (tAsg (lift K td) (liftG K g))):PS X st (liftS K (dAsgG g td)):=psM h l_asgG
theorem cg_name{i:Nat}(h:PG X e (gName i)):PG X e (liftG K (dGN i)):=pgM h l_gn
theorem cg_tup{n:Nat}{gs:List TDG}(h:PG X e (gTup K n (gAll (gs.map (liftG K)))))(hn:gs.length=n:=by rfl):PG X e (liftG K (dGT gs)):=pgM h (l_gt hn)
theorem cgs_cons{es:List Expr}{g:TDG}{gs:List TDG}(h1:PG X e (liftG K g))(h2:PGs X es (gAll (gs.map (liftG K))))(hs:(assignEach (e :: es) X.env).map (·.2)=assign e X.env :: (assignEach es X.env).map (·.2):=by rfl):PGs X (e :: es) (gAll ((g :: gs).map (liftG K))):=pgs_cons h1 h2 hs
theorem cif_nil:PIf X [] (liftT K dYes):=pifM if_nil l_yes
variable {tg:Expr}
theorem pi_seqD{l:Expr}{tl:TE}(hK:X.K=K)(hl:PE X l tl):PI X tg l (iSeq K tl):=by
 subst hK
 intro pins s σ H R I h
 refine thn (hl pins s σ H _ I h) λv s1 ⟨x,H1,I1,r1,q1⟩=>?_
 obtain⟨a,e,q1⟩:=q1
 subst e
 cases r1
 rcases q1 with⟨⟨xs,hq⟩,q⟩|⟨⟨xs,hq⟩,q⟩
 ·obtain⟨its,rv,p,hz⟩:=I1.list hq
  refine wpAny_pyIter_list p.isList ?_
  refine ⟨s1.heap.objs.size,[s1.heap.objs.size],_,_,H1,rfl,I1.kept (t':=s1.toks) λb o e=>i0 _ e,turn_list a _,⟨_,M0 _ rfl,rfl,rfl⟩,λb hb=>?_,q⟩
  have e:b=s1.heap.objs.size:=by simpa using hb
  subst e
  exact I1.fpOk (A0 _) (I1.hok.fresh (A0 _))
 ·obtain⟨its,rv,p,hz⟩:=I1.tuple hq
  refine wpAny_pyIter_tuple (show s1.heap.IsTuple a its.toArray from p) ?_
  refine ⟨s1.heap.objs.size,[s1.heap.objs.size],_,_,H1,rfl,I1.kept (t':=s1.toks) λb o e=>i0 _ e,turn_tuple a _,⟨_,M0 _ rfl,rfl,rfl⟩,λb hb=>?_,q⟩
  have e:b=s1.heap.objs.size:=by simpa using hb
  subst e
  exact I1.fpOk (A0 _) (I1.hok.fresh (A0 _))
theorem ci_seq{l:Expr}(hK:X.K=K)(hl:PE X l (lift K td)):PI X tg l (liftI K (dISeq td)):=piM (pi_seqD hK hl) l_iseq
theorem ci_rng1{l:Expr}(h:PI X tg l (iRng1 (tArgs ([a].map (argT K))))):PI X tg l (liftI K (dIRng1 a)):=piM h l_rng1
theorem ci_zip2{l:Expr}(h:PI X tg l (iZip2 K (tArgs ([a,b].map (argT K))))):PI X tg l (liftI K (dIZip2 a b)):=piM h l_zip2
noncomputable def CMod(_ j:Int):Prop:=0 < j
theorem op_catB:OpR X (binaryOp .Add) rCatB:=by
 intro pins s σ H x y v u Q I rx ry h
 obtain⟨a,b,xs,ys,rfl,rfl,ha,hb,hz,q1,q2,q3⟩:=h
 have ha':SqT X.K H a xs:=SqT.of ha
 have hb':SqT X.K H b ys:=SqT.of hb
 by_cases hx:xs=[]
 ·subst hx
  cases rx
  cases ry
  obtain⟨its,r1,p1,_⟩:=I.tuple ha'
  obtain⟨its2,r2,p2,_⟩:=I.tuple hb'
  cases r1
  exact cat_tup0 p1 p2 ⟨.ref b,H,I,rfl,q1 rfl⟩
 ·exact op_catT pins s σ H (.ref a) (.ref b) v u Q I rx ry ⟨a,b,xs,ys,rfl,rfl,ha',hb',hx,hz,λe=>q2 hx e,λe p hp=>q3 hx e p hp⟩
theorem op_addD:OpR X (binaryOp .Add) (rAny (rI0 λi j=>.int (i+j)) (rAny rCatB rCat)):=op_add.or (op_catB.or op_cat)
theorem op_mulD:OpR X (binaryOp .Mult) (rAny (rI CMul λi j=>.int (i * j)) rRep):=op_mul.or op_rep
theorem ok_sub:OpOk K (r2L (rI0 λi j=>.int (i - j))) (o2 (fI0 λi j=>.int (i - j))):=ok_I0 λ_ _ _=>.int _
theorem ok_fdiv:OpOk K (r2L (rI CDiv λi j=>.int (i / j))) (o2 (fI CDiv λi j=>.int (i / j))):=ok_I λ_ _ _=>.int _
theorem ok_mod:OpOk K (r2L (rI (λ_ j=>0 < j) λi j=>.int (i % j))) (o2 (fI CMod λi j=>.int (i % j))):=ok_I (C:=CMod) λ_ _ _=>.int _
theorem ok_pow:OpOk K (r2L (rI CPow λi j=>.int (i ^ j.toNat))) (o2 (fI CPow λi j=>.int (i ^ j.toNat))):=ok_I λ_ _ _=>.int _
theorem ok_lt:OpOk K (r2L (rI0 λi j=>.bl (decide (i < j)))) (o2 (fI0 λi j=>.bool (decide (i < j)))):=ok_I0 λ_ _ _=>.bl _
theorem ok_le:OpOk K (r2L (rI0 λi j=>.bl (decide (i<=j)))) (o2 (fI0 λi j=>.bool (decide (i<=j)))):=ok_I0 λ_ _ _=>.bl _
theorem ok_gt:OpOk K (r2L (rI0 λi j=>.bl (decide (j < i)))) (o2 (fI0 λi j=>.bool (decide (j < i)))):=ok_I0 λ_ _ _=>.bl _
theorem ok_ge:OpOk K (r2L (rI0 λi j=>.bl (decide (j<=i)))) (o2 (fI0 λi j=>.bool (decide (j<=i)))):=ok_I0 λ_ _ _=>.bl _
theorem ix_seqD(hK:X.K=K):IxR X (rAny (rIxL K) (rIxT K)):=(ix_listK hK).or (ix_tupK hK)
end
mutual
noncomputable def plainD:D->Bool
 | .none=>true
 | .bool _=>true
 | .int _=>true
 | .str _=>true
 | .list xs=>plainAll xs
 | .tuple xs=>plainAll xs
 | .dict _=>false
noncomputable def plainAll:List D->Bool
 | []=>true
 | x :: xs=>plainD x&&plainAll xs
end
section
variable {K:Fg}{F H:Hp}
mutual
theorem Da.is(s:Sub F H):∀{v:V}{d:D},Da K F v d->plainD d=true->Is K H v d
 | _,_,.non,_=>.non
 | _,_,.bl b,_=>.bl b
 | _,_,.int i,_=>.int i
 | _,_,.str x,_=>.str x
 | _,_,.lst e t,z=>.lst (SqL.of (s _ _ e)) (DaAll.is s t (by simpa [plainD]using z))
 | _,_,.tup e t,z=>.tup (SqT.of (s _ _ e)) (DaAll.is s t (by simpa [plainD]using z))
 | _,_,.dk _ _,z=>by simp[plainD]at z
 | _,_,.dt _ _,z=>by simp[plainD]at z
 | _,_,.scr _,z=>by simp[plainD,scrD]at z
 | _,_,.exc _,z=>by simp[plainD,excD]at z
 | _,_,.opq _,z=>by simp[plainD,opqD]at z
 | _,_,.pd _ _,z=>by simp[plainD,pdD]at z
 | _,_,.bd _ _,z=>by simp[plainD,bdD]at z
theorem DaAll.is(s:Sub F H):∀{xs:List V}{ds:List D},DaAll K F xs ds->plainAll ds=true->IsAll K H xs ds
 | _,_,.nil,_=>.nil
 | _,_,.cons a t,z=>by
  simp[plainAll]at z
  exact .cons (Da.is s a z.1) (DaAll.is s t z.2)
end
theorem At.is{v:V}{d:D}(s:Sub F H)(h:At K F H v d)(p:plainD d=true):Is K H v d:=by
 rcases h with h|⟨a,o,rfl,_,e,h⟩
 ·exact h.is s p
 ·cases o<;>cases d<;>first|exact h.elim|(simp[plainD]at p)|skip
  ·rename_i xs ds
   exact .lst (SqL.of e) (DaAll.is s h (by simpa [plainD]using p))
end
noncomputable def fEqG(x y:D)(Q:Sl->Prop):Prop:=plainD x=true/\plainD y=true/\SeqAt.shaped x=true/\SeqAt.shaped y=true/\SeqAt.noMix x y=true/\Q (.fz (.bool (same x y)))
noncomputable def fNeG(x y:D)(Q:Sl->Prop):Prop:=plainD x=true/\plainD y=true/\SeqAt.shaped x=true/\SeqAt.shaped y=true/\SeqAt.noMix x y=true/\Q (.fz (.bool (!same x y)))
noncomputable def fEq:D->D->(Sl->Prop)->Prop
 | .int i,.int j,Q=>Q (.fz (.bool (decide (i=j))))
 | .list xs,y,Q=>fEqG (.list xs) y Q
 | .tuple xs,y,Q=>fEqG (.tuple xs) y Q
 | .str x,.str y,Q=>Q (.fz (.bool (decide (x=y))))
 | x,y,Q=>fEqG x y Q
noncomputable def fNe:D->D->(Sl->Prop)->Prop
 | .int i,.int j,Q=>Q (.fz (.bool (!decide (i=j))))
 | .list xs,y,Q=>fNeG (.list xs) y Q
 | .tuple xs,y,Q=>fNeG (.tuple xs) y Q
 | .str x,.str y,Q=>Q (.fz (.bool (!decide (x=y))))
 | x,y,Q=>fNeG x y Q
theorem ok_eq{K:Fg}:OpOk K (r2L (rAny rEq (rEqD K false))) (o2 fEq):=ok2 λG F σ H ρ x y d e Q Qd R h1 h2 w k=>by
 have gen:fEqG d e Qd->rAny rEq (rEqD K false) x y H Q:=λ⟨p1,p2,p3,p4,p5,w⟩=>.inr ⟨d,e,h1.is R.sub p1,h2.is R.sub p2,p3,p4,p5,k _ H F (.fz _) (Sub.refl _) R (Da.bl _) w⟩
 unfold fEq at w
 split at w
 ·rename_i i j
  cases h1.int
  cases h2.int
  refine .inl ⟨rfl,k _ H F (.fz _) (Sub.refl _) R (Da.bl _) ?_⟩
  have e:decide (V.int i=V.int j)=decide (i=j):=by rw[dec_int,P5]
  rw[e];exact w
 ·exact gen w
 ·exact gen w
 ·rename_i i j
  cases h1.str
  cases h2.str
  refine .inl ⟨rfl,k _ H F (.fz _) (Sub.refl _) R (Da.bl _) ?_⟩
  have e:decide (V.str i=V.str j)=decide (i=j):=by rw[dec_str,P5]
  rw[e];exact w
 ·exact gen w
theorem ok_ne{K:Fg}:OpOk K (r2L (rAny rNe (rEqD K true))) (o2 fNe):=ok2 λG F σ H ρ x y d e Q Qd R h1 h2 w k=>by
 have gen:fNeG d e Qd->rAny rNe (rEqD K true) x y H Q:=λ⟨p1,p2,p3,p4,p5,w⟩=>.inr ⟨d,e,h1.is R.sub p1,h2.is R.sub p2,p3,p4,p5,k _ H F (.fz _) (Sub.refl _) R (Da.bl _) w⟩
 unfold fNe at w
 split at w
 ·rename_i i j
  cases h1.int
  cases h2.int
  refine .inl ⟨rfl,k _ H F (.fz _) (Sub.refl _) R (Da.bl _) ?_⟩
  have e:decide (V.int i=V.int j)=decide (i=j):=by rw[dec_int,P5]
  rw[e];exact w
 ·exact gen w
 ·exact gen w
 ·rename_i i j
  cases h1.str
  cases h2.str
  refine .inl ⟨rfl,k _ H F (.fz _) (Sub.refl _) R (Da.bl _) ?_⟩
  have e:decide (V.str i=V.str j)=decide (i=j):=by rw[dec_str,P5]
  rw[e];exact w
 ·exact gen w
theorem op_eqE{X:Cx}{K:Fg}(hK:X.K=K)(hu:X.A.units+64 < cLine):OpR X (compareOp .Eq) (rAny rEq (rEqD K false)):=op_eq.or (op_eqDK hK hu)
theorem op_neE{X:Cx}{K:Fg}(hK:X.K=K)(hu:X.A.units+64 < cLine):OpR X (compareOp .NotEq) (rAny rNe (rEqD K true)):=op_ne.or (op_neDK hK hu)
section
variable {P:Program}{w:World}{K:Fg}{mg:Str->Option Value}{base:Heap}
theorem dfn{x qual:Str}{st:Stmt}{f:Addr}{fd:FuncData}{N ps:List Str}{k:Nat}{con:Con}{ts:TDS}(F:Fun K x qual st f fd)(S:FnScope N ps (defScope st))
  (hb:∀(cdv:Value) (A:Around) (outer:List Env) (s:Shared) (H:Hp) (E:XK),Room k (A.deeper (envOfC qual (defScope st) s.heap.objs.size f cdv))->PSs (cxOf CX0 P w K mg base N qual (defScope st) f cdv A outer s H E).nox (defBody st) (liftS K ts))
  (hl:∀args Qd,con args Qd->args.length=ps.length) (hc:∀args Qd,con args Qd->(∀s∈args,∀d,s≠.ow d)/\ts (endsOf args Qd) (startE N.length args)):FnOk P w K mg base CX0 (k+1) f fd ps (conSp K con):=by
 refine F.ok S (λvs H Q E h=>?_) (λcdv A outer s H vs Q E hr h=>⟨_,hb cdv A outer s H E hr,l_def hc h⟩)
 obtain⟨G,F',args,Qd,R,w',_⟩:=h
 have h1:=hl args Qd w'
 have h2:=R.len
 rw[j0,j0]at h2
 rw[h2,h1]
end
noncomputable def noOw:List Sl->Bool
 | []=>true
 | .ow _ :: _=>false
 | _ :: as=>noOw as
theorem noOw_of:∀{as:List Sl},noOw as=true->∀s∈as,∀d,s≠.ow d
 | .fz _ :: as,h,s,hs,d,z=>by
  rcases X0.mp hs with e|e
  ·subst e;cases z
  ·exact noOw_of (as:=as) h s e d z
 | .io _ :: as,h,s,hs,d,z=>by
  rcases X0.mp hs with e|e
  ·subst e;cases z
  ·exact noOw_of (as:=as) h s e d z
noncomputable def rSum(K:Fg):List V->Hp->VK->Prop:=λxs H Q=>∃(a:Addr) (ns:List Int),xs=[.ref a]/\(SqL K H a (ns.map V.int)\/SqT K H a (ns.map V.int))/\Q (.int ns.sum) H
theorem call_sumK{X:Cx}{K:Fg}(hK:X.K=K)(hc:X.calm=true):CallR X (.builtin "sum") (rSum K):=by
 subst hK
 intro pins s σ H xs us Q I r h
 obtain⟨a,ns,rfl,hq,q⟩:=h
 obtain⟨u,rfl,ru⟩:=vals1 r
 cases ru
 have hh:=I.ok.hd hc
 rcases hq with hq|hq
 ·obtain⟨its,rv,p,hz⟩:=I.list hq
  have hi:IntsAre its ns:=intsAre_of rv
  obtain⟨zs,hx⟩:=hi.allInts.items
  have hl':s.heap.IsList a (intItems zs):=hx ▸ p.isList
  refine sum_intListG hh hl' λh' tk t' hk=>?_
  have e1:ns=zs.toList.map (·.1):=by
   rw[<- nums_intItems,<- hx]
   exact (show numsOf its.toArray.toList=ns from hi.numsOf).symm
  have e2:preSum (numAt zs) zs.size=ns.sum:=by
   rw[preSum_eq,S2 (by simp),e1]
  rw[e2]
  exact ⟨.int ns.sum,H,I.kept hk,⟨t',rfl⟩,q⟩
 ·obtain⟨its,rv,p,hz⟩:=I.tuple hq
  have hi:IntsAre its ns:=intsAre_of rv
  obtain⟨zs,hx⟩:=hi.allInts.items
  have hl':s.heap.IsTuple a (intItems zs):=hx ▸ p
  refine PySem.W.ktm_sumG hh hl' λh' tk t' hk=>?_
  have e1:ns=zs.toList.map (·.1):=by
   rw[<- nums_intItems,<- hx]
   exact (show numsOf its.toArray.toList=ns from hi.numsOf).symm
  have e2:preSum (numAt zs) zs.size=ns.sum:=by
   rw[preSum_eq,S2 (by simp),e1]
  rw[e2]
  exact ⟨.int ns.sum,H,I.kept hk,⟨t',rfl⟩,q⟩
noncomputable def fSum:D->(Sl->Prop)->Prop
 | .list ds,Q=>∃ns:List Int,ds=ns.map G0/\Q (.fz (.int ns.sum))
 | .tuple ds,Q=>∃ns:List Int,ds=ns.map G0/\Q (.fz (.int ns.sum))
 | _,_=>False
theorem DaAll.intsV{K:Fg}{F:Hp}:∀{xs:List V}{ns:List Int},DaAll K F xs (ns.map G0)->xs=ns.map V.int
 | [],[],_=>rfl
 | x :: xs,b :: bs,.cons h t=>by cases h;simp[DaAll.intsV t]
theorem ok_sum{K:Fg}:OpOk K (rSum K) (o1 fSum):=ok1 λG F σ H ρ x d Q Qd R h1 w k=>by
 match d,h1,w with
 | .list ds,h1,⟨ns,e,w⟩ =>
  subst e
  obtain⟨a,us,rfl,e1,d1⟩:=h1.list R.sub
  have:=d1.intsV
  subst this
  exact ⟨a,ns,rfl,.inl (SqL.of e1),k _ H F (.fz _) (Sub.refl _) R (Da.int _) w⟩
 | .tuple ds,h1,⟨ns,e,w⟩ =>
  subst e
  obtain⟨a,us,rfl,_,e1,d1⟩:=h1.tuple R.sub
  have:=d1.intsV
  subst this
  exact ⟨a,ns,rfl,.inr (SqT.of e1),k _ H F (.fz _) (Sub.refl _) R (Da.int _) w⟩
noncomputable def clean1(ρ:Ev)(i:Nat):Ev:=match ρ[i]? with
 | some (some (.io _))=>ρ
 | some _=>ρ.set i none
 | none=>ρ
noncomputable def clean(ks:List Nat)(ρ:Ev):Ev:=match ks with
 | []=>ρ
 | i :: r=>clean r (clean1 ρ i)
section
variable {K:Fg}{G:Gh}{F H:Hp}{σ:L2.St}{ρ:Ev}
theorem Rel.drop(R:Rel K G F σ H ρ){i:Nat}(hn:∀d,ρ[i]?≠some (some (Sl.io d))):Rel K G F σ H (ρ.set i none):=by
 refine ⟨by rw[T3];exact R.len,R.sub,R.sub0,R.fn,R.keep,R.tb,λj d e=>?_,λj t e wt=>?_,λj d b e eb=>?_,λj b e=>?_,λj d e=>?_,λj k t u b e1 w1 e2 w2 e3 e4=>?_⟩
 ·rcases get_set e with⟨rfl,z⟩|⟨n,z⟩
  ·cases z
  ·exact R.fz j d z
 ·rcases get_set e with⟨rfl,z⟩|⟨n,z⟩
  ·cases z
  ·exact R.ow j t z wt
 ·rcases get_set e with⟨rfl,z⟩|⟨n,z⟩
  ·cases z
  ·exact R.new j d b z eb
 ·obtain⟨d',e1,e2⟩:=R.io j b e
  have n:i≠j:=λz=>by subst z;exact hn _ e1
  exact ⟨d',by rw[O1 n];exact e1,e2⟩
 ·rcases get_set e with⟨rfl,z⟩|⟨n,z⟩
  ·cases z
  ·exact R.ioi j d z
 ·rcases get_set e1 with⟨rfl,z⟩|⟨n,z⟩
  ·cases z
  ·rcases get_set e2 with⟨rfl,z'⟩|⟨n',z'⟩
   ·cases z'
   ·exact R.ap j k t u b z w1 z' w2 e3 e4
theorem Rel.clean1(R:Rel K G F σ H ρ)(i:Nat):Rel K G F σ H (clean1 ρ i):=by
 unfold L3.clean1
 split
 ·exact R
 ·rename_i e1 e2
  exact R.drop λd z=>by rw[e2]at z;cases z;exact e1 _ rfl
 ·exact R
theorem Rel.clean(ks:List Nat):∀{ρ:Ev},Rel K G F σ H ρ->Rel K G F σ H (clean ks ρ):=by
 induction ks with
 | nil=>intro ρ R;exact R
 | cons i r ih=>intro ρ R;exact ih (R.clean1 i)
end
noncomputable def dLoopC(ks:List Nat)(g:TDG)(tb:TDS)(E:DE):List D->Ev->Prop
 | [],ρ=>E.nx ρ
 | d :: ds,ρ=>g d ρ λρ'=>tb { nx:=λρ2=>dLoopC ks g tb E ds (clean ks ρ2),rt:=E.rt,bk:=λρ2=>E.nx (clean ks ρ2),ct:=λρ2=>dLoopC ks g tb E ds (clean ks ρ2) } ρ'
noncomputable def dForC(ks:List Nat)(ti:TDI)(g:TDG)(tb:TDS):TDS:=λE ρ=>ti ρ λds ρ'=>dLoopC ks g tb E ds (clean ks ρ')
theorem l_forC{K:Fg}{ks:List Nat}{ti:TDI}{g:TDG}{tb:TDS}{E:Ends}{σ:L2.St}{H:Hp}(h:liftS K (dForC ks ti g tb) E σ H):tFor (liftI K ti) (liftG K g) (liftS K tb) E σ H:=by
 obtain⟨G,F,ρ,D,R,w,n,r,b,c⟩:=h
 refine ⟨G,F,ρ,_,R,w,λJ H1 F1 ds ρ1 s1 R1 wk w1=>?_⟩
 refine ⟨λi m σ H=>m=ds.length - i/\i<=ds.length/\∃F' ρ',Sub F1 F'/\Rel K G F' σ H ρ'/\dLoopC ks g tb D (ds.drop i) ρ',⟨ds.length,rfl,m3 _,F1,_,Sub.refl _,R1.clean ks,w1⟩,?_⟩
 rintro i m σ H ⟨rfl,hi,F',ρ',s',R',w'⟩
 obtain⟨hgo,hst⟩:=wk i H F' s' R'.sub
 cases e:ds[i]? with
 | none =>
  have hl:ds.length<=i:=W3.mp e
  refine .inl ⟨hst (by omega),?_⟩
  rw[A4 hl]at w'
  exact n σ H F' ρ' (s1.trans s') R' w'
 | some d =>
  obtain⟨go,yl⟩:=hgo d e
  have hl:=lt_of_get e
  rw[drop_get e]at w'
  refine .inr ⟨go,λσ2 H2=>∃F2 ρ2,Sub F1 F2/\Rel K G F2 σ2 H2 ρ2/\dLoopC ks g tb D (ds.drop (i+1)) ρ2,λσ2 H2 ⟨F2,ρ2,z1,z2,z3⟩=>⟨ds.length - (i+1),by omega,rfl,hl,F2,ρ2,z1,z2,z3⟩,λx H2 y=>?_⟩
  obtain⟨F2,t1,t2,t3,t4,t5⟩:=yl x H2 y
  have R2:=R'.turn t1 t2 t3 t4
  refine ⟨G,F2,ρ',d,_,R2,t5,w',λσ3 ρ3 R3 w3=>?_⟩
  refine ⟨G,F2,ρ3,_,R3,w3,λσ4 H4 F4 ρ4 s4 R4 q=>?_,λv σ4 H4 F4 x4 ρ4 s4 R4 r4 q=>?_,λσ4 H4 F4 ρ4 s4 R4 q=>?_,λσ4 H4 F4 ρ4 s4 R4 q=>?_⟩
  ·exact ⟨F4,_,s'.trans (t1.trans s4),R4.clean ks,q⟩
  ·exact r v σ4 H4 F4 x4 ρ4 (s1.trans (s'.trans (t1.trans s4))) R4 r4 q
  ·exact n σ4 H4 F4 _ (s1.trans (s'.trans (t1.trans s4))) (R4.clean ks) q
  ·exact ⟨F4,_,s'.trans (t1.trans s4),R4.clean ks,q⟩
theorem cs_forC{X:Cx}{K:Fg}{st:Stmt}{t:TDS}(ks:List Nat){ti:TDI}{g:TDG}(h:PS X st (tFor (liftI K ti) (liftG K g) (liftS K t))):PS X st (liftS K (dForC ks ti g t)):=psM h l_forC
theorem loopC{ks:List Nat}{g:TDG}{tb:TDS}{E:DE}(J:List D->Ev->Prop)
  (hs:∀d ds ρ,J (d :: ds) ρ->∀N:Ev->Prop,(∀ρ2,J ds ρ2->N ρ2)->g d ρ λρ'=>tb { nx:=λρ2=>N (clean ks ρ2),rt:=E.rt,bk:=λρ2=>E.nx (clean ks ρ2),ct:=λρ2=>N (clean ks ρ2) } ρ')
  (hd:∀ρ,J [] ρ->E.nx ρ):∀{ds:List D}{ρ:Ev},J ds ρ->dLoopC ks g tb E ds ρ
 | [],ρ,h=>hd ρ h
 | d :: ds,ρ,h=>hs d ds ρ h _ λρ2 h2=>loopC J hs hd h2
noncomputable def dCompLC(n:Nat)(g:TDG)(tc:TTD)(te:TD):List D->List D->Ev->(List D->Ev->Prop)->Prop
 | [],acc,τ,Q=>Q acc τ
 | d :: ds,acc,τ,Q=>g d τ λτ1=>tc τ1 λb τ2=>if b=true then te τ2 λr τ3=>dCompLC n g tc te ds (acc++[r.d]) (clean (G3 n) τ3) Q else dCompLC n g tc te ds acc (clean (G3 n) τ2) Q
noncomputable def dCompC(ti:TDI)(own:List Str)(fr:List Nat)(g:TDG)(tc:TTD)(te:TD):TD:=λρ Q=>ti ρ λds ρ1=>ds.length<=sizeLine/\dCompLC own.length g tc te ds [] (innerE own fr ρ1) λys τ=>Q (.ow (.list ys)) (wbGo fr (τ.drop own.length) 0 ρ1)
theorem l_compC{K:Fg}{ti:TDI}{own:List Str}{fr:List Nat}{g:TDG}{tc:TTD}{te:TD}(nd:fr.Nodup){σ:L2.St}{H:Hp}{Q:VK}(h:lift K (dCompC ti own fr g tc te) σ H Q):tCompW (liftI K ti) own fr (liftG K g) (liftT K tc) (lift K te) σ H Q:=by
 obtain⟨G,F,ρ,Qd,R,w,k⟩:=h
 refine ⟨G,F,ρ,_,R,w,λJ H1 F1 ds ρ1 s1 R1 wk ⟨hz,w1⟩=>?_⟩
 have Ri:=R1.inner (own:=own) nd
 refine ⟨λi m ys τ H=>m=ds.length - i/\i<=ds.length/\∃F' ρ' acc,Rel K (ghC own fr F1 H1 σ ρ1) F' τ H ρ'/\DaAll K F' ys acc/\acc.length<=i/\dCompLC own.length g tc te (ds.drop i) acc ρ' (λys τ=>Qd (.ow (.list ys)) (wbGo fr (τ.drop own.length) 0 ρ1)),
   ⟨ds.length,rfl,m3 _,F1,_,[],Ri,.nil,m3 _,w1⟩,?_⟩
 rintro i m ys τ H' ⟨rfl,hi,F',ρ',acc,R',da,hl,w'⟩
 obtain⟨hgo,hst⟩:=wk i H' F' R'.sub0 R'.sub
 cases e:ds[i]? with
 | none =>
  have hl':ds.length<=i:=W3.mp e
  refine .inl ⟨hst (by omega),λDd hD=>?_⟩
  rw[A4 hl']at w'
  have Ro:=R1.outer R' nd
  obtain⟨Rn,rn⟩:=Ro.newOw (o:=.lst ys) (d:=.list acc) hD da
  exact k _ _ F' _ _ (s1.trans R'.sub0) Rn rn w'
 | some d =>
  obtain⟨go,yl⟩:=hgo d e
  have hlt:=lt_of_get e
  rw[drop_get e]at w'
  refine .inr ⟨go,by rw[da.length];omega,λys2 τ2 H2=>∃F2 ρ2 acc2,Rel K (ghC own fr F1 H1 σ ρ1) F2 τ2 H2 ρ2/\DaAll K F2 ys2 acc2/\acc2.length<=i+1/\dCompLC own.length g tc te (ds.drop (i+1)) acc2 ρ2 (λys τ=>Qd (.ow (.list ys)) (wbGo fr (τ.drop own.length) 0 ρ1)),
    λys2 τ2 H2 ⟨F2,ρ2,acc2,z1,z2,z3,z4⟩=>⟨ds.length - (i+1),by omega,rfl,hlt,F2,ρ2,acc2,z1,z2,z3,z4⟩,λx H2 y=>?_⟩
  obtain⟨F2,t1,t2,t3,t4,t5⟩:=yl x H2 y
  have R2:=R'.turn t1 t2 t3 t4
  refine ⟨_,F2,ρ',d,_,R2,t5,w',λτ3 ρ3 R3 w3=>?_⟩
  refine ⟨_,F2,ρ3,_,R3,w3,λb H4 F4 ρ4 s4 R4 w4=>?_⟩
  cases b with
  | false=>exact ⟨F4,_,acc,R4.clean _,da.mono (t1.trans s4),by omega,w4⟩
  | true =>
   refine ⟨_,F4,ρ4,_,R4,w4,λv H5 F5 r ρ5 s5 R5 r5 w5=>?_⟩
   obtain⟨F6,s6,R6,d6⟩:=r5.frz R5
   exact ⟨F6,_,acc++[r.d],R6.clean _,(da.mono (t1.trans (s4.trans (s5.trans s6)))).append (.cons d6 .nil),by simp;omega,w5⟩
section
variable {X:Cx}{K:Fg}{e:Expr}{st:Stmt}{ti:TDI}{own:List Str}{fr:List Nat}{g:TDG}{tc:TTD}{te:TD}
theorem cv_compC(nd:fr.Nodup)(h:PE X e (tCompW (liftI K ti) own fr (liftG K g) (liftT K tc) (lift K te))):PE X e (lift K (dCompC ti own fr g tc te)):=peM h (l_compC nd)
end
theorem compC{n:Nat}{g:TDG}{tc:TTD}{te:TD}{Q:List D->Ev->Prop}(J:List D->List D->Ev->Prop)
  (hs:∀d ds acc τ,J (d :: ds) acc τ->∀N:List D->Ev->Prop,(∀acc2 τ2,J ds acc2 τ2->N acc2 τ2)->g d τ λτ1=>tc τ1 λb τ2=>if b=true then te τ2 λr τ3=>N (acc++[r.d]) (clean (G3 n) τ3) else N acc (clean (G3 n) τ2))
  (hd:∀acc τ,J [] acc τ->Q acc τ):∀{ds acc:List D}{τ:Ev},J ds acc τ->dCompLC n g tc te ds acc τ Q
 | [],acc,τ,h=>hd acc τ h
 | d :: ds,acc,τ,h=>hs d ds acc τ h _ λacc2 τ2 h2=>compC J hs hd h2
theorem compN{n:Nat}{g:TDG}{te:TD}{Q:List D->Ev->Prop}(J:List D->List D->Ev->Prop)
  (hs:∀d ds acc τ,J (d :: ds) acc τ->∀N:List D->Ev->Prop,(∀acc2 τ2,J ds acc2 τ2->N acc2 τ2)->g d τ λτ1=>te τ1 λr τ3=>N (acc++[r.d]) (clean (G3 n) τ3))
  (hd:∀acc τ,J [] acc τ->Q acc τ) {ds acc:List D}{τ:Ev} (h:J ds acc τ):dCompLC n g dYes te ds acc τ Q :=
 compC J (λd ds acc τ h N hN=>by
   have q:=hs d ds acc τ h N hN
   have e:(λτ1=>te τ1 λr τ3=>N (acc++[r.d]) (clean (G3 n) τ3))=λτ1=>dYes τ1 λb τ2=>if b=true then te τ2 (λr τ3=>N (acc++[r.d]) (clean (G3 n) τ3)) else N acc (clean (G3 n) τ2):=by
     funext τ1
     show _=(if true=true then te τ1 (λr τ3=>N (acc++[r.d]) (clean (G3 n) τ3)) else N acc (clean (G3 n) τ1))
     rw[if_pos rfl]
   rw[<- e]
   exact q) hd h
theorem mapC{n:Nat}{g:TDG}{te:TD}{Q:List D->Ev->Prop}(f:D->D){τ:Ev}{ds:List D}
  (hs:∀d∈ds,∀N:D->Ev->Prop,N (f d) τ->g d τ λτ1=>te τ1 λr τ3=>N r.d (clean (G3 n) τ3))
  (hd:Q (ds.map f) τ):dCompLC n g dYes te ds [] τ Q:=by
 refine compN (λrest acc τ'=>τ'=τ/\∃pre,ds=pre++rest/\acc=pre.map f) ?_ ?_ ⟨rfl,[],rfl,rfl⟩
 ·rintro d ds' acc τ' ⟨rfl,pre,e,rfl⟩ N hN
  exact hs d (by rw[e];simp) (λx τ3=>N (pre.map f++[x]) τ3) (hN _ _ ⟨rfl,pre++[d],by rw[e];simp,by simp⟩)
 ·rintro acc τ' ⟨rfl,pre,e,rfl⟩
  rw[S3]at e
  subst e
  exact hd
theorem filC{n:Nat}{g:TDG}{tc:TTD}{te:TD}{Q:List D->Ev->Prop}(p:D->Bool)(f:D->D){τ:Ev}{ds:List D}
  (hs:∀d∈ds,∀(N:D->Ev->Prop) (M:Ev->Prop),(p d=true->N (f d) τ)->(p d=false->M τ)->g d τ λτ1=>tc τ1 λb τ2=>if b=true then te τ2 λr τ3=>N r.d (clean (G3 n) τ3) else M (clean (G3 n) τ2))
  (hd:Q ((ds.filter p).map f) τ):dCompLC n g tc te ds [] τ Q:=by
 refine compC (λrest acc τ'=>τ'=τ/\∃pre,ds=pre++rest/\acc=(pre.filter p).map f) ?_ ?_ ⟨rfl,[],rfl,rfl⟩
 ·rintro d ds' acc τ' ⟨rfl,pre,e,rfl⟩ N hN
  exact hs d (by rw[e];simp) (λx τ3=>N ((pre.filter p).map f++[x]) τ3) (λτ3=>N ((pre.filter p).map f) τ3) (λhp=>hN _ _ ⟨rfl,pre++[d],by rw[e];simp,by simp[hp]⟩)
   (λhp=>hN _ _ ⟨rfl,pre++[d],by rw[e];simp,by simp[hp]⟩)
 ·rintro acc τ' ⟨rfl,pre,e,rfl⟩
  rw[S3]at e
  subst e
  exact hd
noncomputable def rRepr(K:Fg):List V->Hp->VK->Prop:=λxs H Q=>∃(x:V) (d:PyData),xs=[x]/\Is K H x d/\d.showable=true/\d.hasDict=false/\d.depth+1<=64/\d.shown.length<=sizeLine/\Q (.str d.shown) H
theorem call_reprK{X:Cx}{K:Fg}{k:Nat}(hK:X.K=K)(hr:Room k X.A):CallR X (.builtin "repr") (rRepr K):=by
 subst hK
 intro pins s σ H xs us Q I r h
 obtain⟨x,d,rfl,hd,hs,hn,hz,hl,q⟩:=h
 obtain⟨u,rfl,ru⟩:=vals1 r
 obtain⟨as,ra⟩:=hd.reads I ru
 have hu:=hr.units
 cases hd with
 | non=>cases ru;exact PySem.P.repr_of_none ⟨.str _,H,I.tok _,⟨_,rfl⟩,q⟩
 | bl b=>cases ru;exact PySem.P.repr_of_bool ⟨.str _,H,I.tok _,⟨_,rfl⟩,by cases b<;>exact q⟩
 | int i =>
  obtain⟨t,rfl⟩:=ru
  exact PySem.P.repr_of_int (by simpa [t8]using hs) ⟨.str _,H,I.tok _,⟨_,rfl⟩,q⟩
 | str x =>
  obtain⟨t,rfl⟩:=ru
  exact PySem.P.repr_of_str ⟨.str _,H,I.tok _,⟨_,rfl⟩,q⟩ hl
 | lst _ _ =>
  cases ru
  exact repr_of_reads' ra hs (λz=>by rw[hn]at z;cases z) hr.gd (by omega) (λ_ _ e=>e) (λh' u tk hk=>⟨.str _,H,I.kept hk,⟨u,rfl⟩,q⟩) hl
 | tup _ _ =>
  cases ru
  exact repr_of_reads' ra hs (λz=>by rw[hn]at z;cases z) hr.gd (by omega) (λ_ _ e=>e) (λh' u tk hk=>⟨.str _,H,I.kept hk,⟨u,rfl⟩,q⟩) hl
mutual
theorem plain_noDict:∀{d:D},plainD d=true->d.hasDict=false
 | .none,_=>rfl
 | .bool _,_=>rfl
 | .int _,_=>rfl
 | .str _,_=>rfl
 | .list xs,h=>by
  have:=plainAll_noDict (xs:=xs) (by simpa [plainD]using h)
  simpa [PyData.hasDict]using this
 | .tuple xs,h=>by
  have:=plainAll_noDict (xs:=xs) (by simpa [plainD]using h)
  simpa [PyData.hasDict]using this
 | .dict _,h=>by simp[plainD]at h
theorem plainAll_noDict:∀{xs:List D},plainAll xs=true->j9 xs=false
 | [],_=>rfl
 | x :: xs,h=>by
  simp[plainAll]at h
  simp[j9,plain_noDict h.1,plainAll_noDict h.2]
end
structure WE(X:Cx)(e:Expr)(t:TE):Prop where
 h:PE X e t
structure WA(X:Cx)(es:List Expr)(t:TA):Prop where
 h:PA X es t
structure WT(X:Cx)(e:Expr)(t:TT):Prop where
 h:PT X e t
structure WW(X:Cx)(e:Expr)(t:TT):Prop where
 h:PW X e t
structure WS(X:Cx)(s:Stmt)(t:TS):Prop where
 h:PS X s t
structure WSs(X:Cx)(s:List Stmt)(t:TS):Prop where
 h:PSs X s t
structure WG(X:Cx)(e:Expr)(t:TG):Prop where
 h:PG X e t
structure WGs(X:Cx)(es:List Expr)(t:TGs):Prop where
 h:PGs X es t
structure WI(X:Cx)(g e:Expr)(t:TI):Prop where
 h:PI X g e t
structure WIf(X:Cx)(es:List Expr)(t:TT):Prop where
 h:PIf X es t
section
variable {X:Cx}{K:Fg}{e e1 e2 e3:Expr}{es:List Expr}{a b c:AD}{as:List AD}{td te tf:TD}{tc tc':TTD}{st:Stmt}{sts:List Stmt}{t u:TDS}{p pos pos' p2 apos cpos tpos:Pos}{x:Str}{tg:Expr}
theorem wn(i:Nat)(hN:X.N[i]?=some x:=by rfl)(hv:Vis X.env.scope x:=by first|exact Or.inl rfl|exact Or.inr (Or.inl rfl)|exact Or.inr (Or.inr rfl))(hd:(x==("__debug__":Str))=false:=by decide)
  (hcd:(x==("__classdict__":Str))=false:=by decide):WE X (.Name x pos) (argT K (.inl i)):=⟨pe_var hN hv hd hcd⟩
theorem wv(i:Nat)(hN:X.N[i]?=some x:=by rfl)(hv:Vis X.env.scope x:=by first|exact Or.inl rfl|exact Or.inr (Or.inl rfl)|exact Or.inr (Or.inr rfl))(hd:(x==("__debug__":Str))=false:=by decide)
  (hcd:(x==("__classdict__":Str))=false:=by decide):WE X (.Name x pos) (lift K (dVar i)):=⟨cv_var (pe_var hN hv hd hcd)⟩
theorem wx(h:WE X e (lift K td)):WE X e (argT K (.inr td)):=⟨h.h⟩
theorem wa_nil:WA X [] (tArgs (([]:List AD).map (argT K))):=⟨pa_nil⟩
theorem wa_cons(ha:WE X e (argT K a))(hr:WA X es (tArgs (as.map (argT K))))(hs:notStar e=true:=by rfl):WA X (e :: es) (tArgs ((a :: as).map (argT K))):=⟨da_cons ha.h hr.h (starEach_of hs)⟩
theorem w_int{i:Int}{k:Nat}:WE X (.Constant (.int i) k pos) (lift K (dC (.int i))):=⟨cv_c (λ_=>.int _) pe_int⟩
theorem w_bl{b:Bool}{k:Nat}:WE X (.Constant (.bool b) k pos) (lift K (dC (.bool b))):=⟨cv_c (λ_=>.bl _) pe_bl⟩
theorem w_non{k:Nat}:WE X (.Constant .none k pos) (lift K (dC .none)):=⟨cv_c (λ_=>.non) pe_non⟩
theorem w_str{z:Str}{k:Nat}:WE X (.Constant (.str z) k pos) (lift K (dC (.str z))):=⟨cv_c (λ_=>.str _) pe_str⟩
theorem w_bin{op:Operator}{r:R2}{f:D->D->(Sl->Prop)->Prop}(ok:OpOk K (r2L r) (o2 f))(ho:OpR X (binaryOp op) r)(ha:WE X e1 (argT K a))(hb:WE X e2 (argT K b)):WE X (.BinOp e1 op e2 pos) (lift K (dOp [a,b] (o2 f))):=⟨cv2 ok (pe_op ho ha.h hb.h)⟩
theorem w_neg(ha:WE X e1 (argT K a)):WE X (.UnaryOp .USub e1 pos) (lift K (dOp [a] (o1 fNeg))):=⟨cvu ok_neg (pe_un un_neg ha.h)⟩
theorem w_cmp{op:CmpOp}{r:R2}{f:D->D->(Sl->Prop)->Prop}(ok:OpOk K (r2L r) (o2 f))(ho:OpR X (compareOp op) r)(ha:WE X e1 (argT K a))(hb:WE X e2 (argT K b))(hm:op≠.In:=by decide)(hm2:op≠.NotIn:=by decide):WE X (.Compare e1 [op] [e2] pos) (lift K (dOp [a,b] (o2 f))):=⟨cv2 ok (pe_cmpR ho ha.h hb.h (nomark _ hm hm2))⟩
theorem w_one{op:BoolOp}{tr:TE}(h:WE X e tr):WE X (.BoolOp op [e] pos) tr:=⟨pe_one h.h⟩
theorem w_and{rest:List Expr}(ha:WE X e1 (lift K td))(hb:WE X (.BoolOp .And (e2 :: rest) pos) (lift K te)):WE X (.BoolOp .And (e1 :: e2 :: rest) pos) (lift K (dAndV td te)):=⟨cv_and (pe_and ha.h hb.h)⟩
theorem w_not(ha:WE X e1 (lift K td)):WE X (.UnaryOp .Not e1 pos) (lift K (dNotV td)):=⟨cv_not (pe_not ha.h)⟩
theorem w_ifE(hc:WT X e1 (liftT K tc))(ha:WE X e2 (lift K td))(hb:WE X e3 (lift K te)):WE X (.IfExp e1 e2 e3 pos) (lift K (dIf tc td te)):=⟨cv_if (pe_ifExp hc.h ha.h hb.h)⟩
theorem w_fn{k:Nat}{ps:List Str}{con:Con}(C:Cal X.prog X.w X.K X.mg X.base k x ps (conSp K con))(hr:Room k X.A)(ha:WA X (e :: es) (tArgs (as.map (argT K))))(hg:Gl X x:=by rfl)(hdb:(x==("__debug__":Str))=false:=by decide)
  (he:notStar e=true:=by rfl) (hpl:es.all notStar=true:=by rfl):WE X (.Call (.Name x p) (e :: es) [] pos) (lift K (dCall con as)):=⟨cv_fn (pe_fn C hr ha.h hg hdb (starEach_of he) (plain_of hpl))⟩
theorem w_fnI{k i:Nat}{ps:List Str}{con:Con}(C:Cal X.prog X.w X.K X.mg X.base k x ps (conSp K con))(hr:Room k X.A)(ha:WA X (e :: es) (tArgs ((Sum.inl i :: as).map (argT K))))(hg:Gl X x:=by rfl)(hdb:(x==("__debug__":Str))=false:=by decide)
  (he:notStar e=true:=by rfl) (hpl:es.all notStar=true:=by rfl):WE X (.Call (.Name x p) (e :: es) [] pos) (lift K (dCallI con i as)):=⟨cv_fnI (pe_fn C hr ha.h hg hdb (starEach_of he) (plain_of hpl))⟩
theorem w_callB{id:String}{r:List V->Hp->VK->Prop}{f:List D->(Sl->Prop)->Prop}(ok:OpOk K r f)(hc:CallR X (.builtin id) r)(hm:X.mg x=none)(hv:bootBuiltins x=some (.builtin id))(ha:WA X (e :: es) (tArgs (as.map (argT K))))(hg:Gl X x:=by rfl)(hn:x ≠ "__name__":=by decide)(hdb:(x==("__debug__":Str))=false:=by decide)
  (he:notStar e=true:=by rfl) (hpl:es.all notStar=true:=by rfl):WE X (.Call (.Name x p) (e :: es) [] pos) (lift K (dOp as f)):=⟨cvB ok (pe_callB hc hg hm hv ha.h hn hdb (starEach_of he) (plain_of hpl))⟩
theorem w_callT{T:String}{r:List V->Hp->VK->Prop}{f:List D->(Sl->Prop)->Prop}(ok:OpOk K r f)(hc:CallR X (.type T) r)(hm:X.mg x=none)(hv:bootBuiltins x=some (.type T))(ha:WA X (e :: es) (tArgs (as.map (argT K))))(hg:Gl X x:=by rfl)(hn:x ≠ "__name__":=by decide)(hdb:(x==("__debug__":Str))=false:=by decide)
  (he:notStar e=true:=by rfl) (hpl:es.all notStar=true:=by rfl):WE X (.Call (.Name x p) (e :: es) [] pos) (lift K (dOp as f)):=⟨cvB ok (pe_callTy hc hg hm hv ha.h hn hdb (starEach_of he) (plain_of hpl))⟩
theorem w_ix(hK:X.K=K)(ha:WE X e1 (argT K a))(hb:WE X e2 (argT K b))(hs:PlainIx e2:=by exact λ_ _=>rfl):WE X (.Subscript e1 e2 pos) (lift K (dOp [a,b] (o2 fIx))):=⟨cv2 ok_ix (pe_ix (ix_seqD hK) ha.h hb.h hs)⟩
theorem w_tup{k:Nat}(h:WA X es (tArgs (as.map (argT K))))(hl:as.length<=1000:=by decide):WE X (.Tuple es k pos) (lift K (dOpF as fTupD)):=⟨cv_tup hl (pe_tup h.h)⟩
theorem w_lst(h:WA X es (tArgs (as.map (argT K))))(hl:as.length<=1000:=by decide):WE X (.List es pos) (lift K (dOpF as fLstD)):=⟨cv_lst hl (pe_lst h.h)⟩
theorem w_comp{elt iter:Expr}{ifs:List Expr}{sc:Scope}{own:List Str}{fr:List Nat}{ti:TDI}{g:TDG}(hc:X.calm=true)(S:compOk X.env.scope X.N fr sc=true)(hi:WI X tg iter (liftI K ti))(hg:∀C s H ex,WG (cxComp X own fr sc C s H ex) tg (liftG K g))
  (hif:∀C s H ex,WIf (cxComp X own fr sc C s H ex) ifs (liftT K tc)) (he:∀C s H ex,WE (cxComp X own fr sc C s H ex) elt (lift K te)) (nd:fr.Nodup:=by decide) (hs:notSet iter=true:=by rfl):WE X (.ListComp elt [⟨tg,iter,ifs,0⟩] sc pos) (lift K (dCompC ti own fr g tc te)) :=
 ⟨cv_compC nd (pe_compW hc (compSc_of S) hi.h (λC s H ex=>(hg C s H ex).h) (λC s H ex=>(hif C s H ex).h) (λC s H ex=>(he C s H ex).h) (folded_of hs))⟩
theorem w_m{name:Str}{id:String}{i:Nat}{r:V->List V->Hp->VK->Prop}{f:List D->List D->(D->D->Prop)->Prop}(ok:MOk K r f)(hK:X.K=K)(slot:Slot "list" name id)(hty:typeOf (.builtin id)=pure (.type "method_descriptor"))(hm:MtR X id r)(ho:WE X (.Name x p) (argT K (.inl i)))(ha:WA X (e :: es) (tArgs (as.map (argT K))))
  (hbase:attributeBase (.Name x p) name X.env (eval (.Name x p) X.env)=eval (.Name x p) X.env:=by rfl)
  (hfew:((backTo cpos (starEach (e :: es) X.env)).all (λx=>!x.1)&&(backToKw cpos (keywordEach [] X.env)).all (λx=>x.1.isSome)&&decide ((e :: es).length+([]:List Keyword).length+(if ([]:List Keyword).isEmpty then 0 else 1) < 30))=true:=by rfl)
  (hline:(apos.endLine==cpos.line)=true:=by rfl) (he:notStar e=true:=by rfl) (hpl:es.all notStar=true:=by rfl):WE X (.Call (.Attribute (.Name x p) name apos) (e :: es) [] cpos) (lift K (dMeth i as f)):=by
 subst hK
 exact ⟨cv_m ok (pe_bm PySem.F.plainAttrs_list slot hty hm ho.h ha.h hbase hfew hline (starEach_of he) (plain_of hpl))⟩
theorem w_m0{name:Str}{id:String}{i:Nat}{r:V->List V->Hp->VK->Prop}{f:List D->List D->(D->D->Prop)->Prop}(ok:MOk K r f)(hK:X.K=K)(slot:Slot "list" name id)(hty:typeOf (.builtin id)=pure (.type "method_descriptor"))(hm:MtR X id r)(ho:WE X (.Name x p) (argT K (.inl i)))
  (hbase:attributeBase (.Name x p) name X.env (eval (.Name x p) X.env)=eval (.Name x p) X.env:=by rfl) (hline:(apos.endLine==cpos.line)=true:=by rfl):WE X (.Call (.Attribute (.Name x p) name apos) [] [] cpos) (lift K (dMeth i [] f)):=by
 subst hK
 exact ⟨cv_m0 ok (pe_bm0 PySem.F.plainAttrs_list slot hty hm ho.h hbase hline)⟩
theorem t_cmp{op:CmpOp}{r:R2}{f:D->D->(Sl->Prop)->Prop}(ok:OpOk K (r2L r) (o2 f))(ho:OpR X (compareOp op) r)(ha:WE X e1 (argT K a))(hb:WE X e2 (argT K b))(hm:op≠.In:=by decide)(hm2:op≠.NotIn:=by decide):WT X (.Compare e1 [op] [e2] pos) (liftT K (dTst (dOp [a,b] (o2 f)))):=⟨ct2 ok (pt_cmpR ho ha.h hb.h (nomark _ hm hm2))⟩
theorem t_not(h:WT X e (liftT K tc)):WT X (.UnaryOp .Not e pos) (liftT K (dNot tc)):=⟨ct_not (pt_not h.h)⟩
theorem t_and1(h:WT X e (liftT K tc)):WW X (.BoolOp .And [e] pos) (liftT K tc):=⟨pw_and1 h.h⟩
theorem t_or1(h:WT X e (liftT K tc)):WW X (.BoolOp .Or [e] pos) (liftT K tc):=⟨pw_or1 h.h⟩
theorem t_and{rest:List Expr}(ha:WT X e1 (liftT K tc))(hb:WW X (.BoolOp .And (e2 :: rest) pos) (liftT K tc')):WW X (.BoolOp .And (e1 :: e2 :: rest) pos) (liftT K (dAnd tc tc')):=⟨cw_and (pw_and ha.h hb.h)⟩
theorem t_or{rest:List Expr}(ha:WT X e1 (liftT K tc))(hb:WW X (.BoolOp .Or (e2 :: rest) pos) (liftT K tc')):WW X (.BoolOp .Or (e1 :: e2 :: rest) pos) (liftT K (dOr tc tc')):=⟨cw_or (pw_or ha.h hb.h)⟩
theorem t_w{tt:TT}(h:WW X e tt):WT X e tt:=⟨h.h.pt⟩
theorem t_val(h:WE X e (lift K td))(he:∀whole,isTrue e X.env whole=(do let v<-whole;standAt e.pos;holding [v] (truthy v)):=by intro _;rfl):WT X e (liftT K (dTst td)):=⟨ct_val (pt_val h.h he)⟩
theorem g_name{i:Nat}(hN:X.N.Nodup)(hi:X.N[i]?=some x)(hx:Loc X.env.scope x)(hf:X.fn x=true\/X.env.scope.names.lookup x=some .local:=by first|exact .inl rfl|exact .inr rfl|assumption):WG X (.Name x pos) (liftG K (dGN i)):=⟨cg_name (pg_name hN hi hx hf)⟩
theorem gs_nil:WGs X [] (gAll (([]:List TDG).map (liftG K))):=⟨pgs_nil⟩
theorem gs_cons{g:TDG}{gs:List TDG}(h1:WG X e (liftG K g))(h2:WGs X es (gAll (gs.map (liftG K))))(hs:(assignEach (e :: es) X.env).map (·.2)=assign e X.env :: (assignEach es X.env).map (·.2):=by rfl):WGs X (e :: es) (gAll ((g :: gs).map (liftG K))):=⟨cgs_cons h1.h h2.h hs⟩
theorem g_tup{gs:List TDG}{k:Nat}(hK:X.K=K)(hc:X.calm=true)(hh:WGs X es (gAll (gs.map (liftG K))))(hn:(assignEach es X.env).length=gs.length:=by rfl)(hst:(assignEach es X.env).findIdx? (·.1)=none:=by rfl):WG X (.Tuple es k pos) (liftG K (dGT gs)):=⟨cg_tup (pg_tupK hK hc hh.h hn hst) rfl⟩
theorem if0:WIf X [] (liftT K dYes):=⟨cif_nil⟩
theorem if1(h:WT X e (liftT K tc)):WIf X [e] (liftT K tc):=⟨if_one h.h⟩
theorem i_seq(hK:X.K=K)(hl:WE X e (lift K td)):WI X tg e (liftI K (dISeq td)):=⟨ci_seq hK hl.h⟩
theorem i_rng1(hm:X.mg "range"=none)(ha:WA X [e1] (tArgs ([a].map (argT K))))(hg:Gl X "range":=by rfl)(he:notStar e1=true:=by rfl):WI X tg (.Call (.Name "range" p) [e1] [] pos) (liftI K (dIRng1 a)):=⟨ci_rng1 (pi_range1 hg hm ha.h (by rw[starEach_of he];rfl))⟩
theorem i_zip2{ts:List Expr}{kk:Nat}(hK:X.K=K)(hm:X.mg "zip"=none)(ha:WA X [e1,e2] (tArgs ([a,b].map (argT K))))(hg:Gl X "zip":=by rfl)(he:notStar e1=true:=by rfl)(hpl:[e2].all notStar=true:=by rfl):WI X (.Tuple ts kk tpos) (.Call (.Name "zip" p) [e1,e2] [] pos) (liftI K (dIZip2 a b)):=⟨ci_zip2 (pi_zip2K hK hg hm ha.h (starEach_of he) (plain_of hpl))⟩
theorem s_nil:WSs X [] (liftS K dNext):=⟨cs_next pss_nil⟩
theorem s_one{tr:TS}(h:WS X st tr):WSs X [st] tr:=⟨pss_one h.h⟩
theorem s_cons(h:WS X st (liftS K t))(h2:WSs X sts (liftS K u)):WSs X (st :: sts) (liftS K (dSeq t u)):=⟨cs_seq (pss_cons h.h h2.h)⟩
theorem s_ret(h:WE X e (lift K td)):WS X (.Return (some e) pos) (liftS K (dRet td)):=⟨cs_ret (ps_ret h.h)⟩
theorem s_retV{i:Nat}(h:WE X e (argT K (.inl i))):WS X (.Return (some e) pos) (liftS K (dRetV i)):=⟨cs_retV (ps_ret h.h)⟩
theorem s_expr(h:WE X e (lift K td))(hs:notComp e=true:=by rfl):WS X (.Expr e pos) (liftS K (dDrop td)):=⟨cs_drop (ps_expr h.h (swaps_of hs))⟩
theorem s_if{sa sb:List Stmt}(hc:WT X e (liftT K tc))(ha:WSs X sa (liftS K t))(hb:WSs X sb (liftS K u)):WS X (.If e sa sb pos) (liftS K (dIfS tc t u)):=⟨cs_if (ps_if hc.h ha.h hb.h)⟩
theorem s_for{iter:Expr}{body:List Stmt}(ks:List Nat){ti:TDI}{g:TDG}(hp:PassesOwn (model X.prog X.w) X.A X.env X.xe)(hc:X.calm=true)(hi:WI X tg iter (liftI K ti))(hg:WG X tg (liftG K g))(hb:WSs X body (liftS K t))(hs:notSet iter=true:=by rfl):WS X (.For tg iter body [] pos) (liftS K (dForC ks ti g t)):=⟨cs_forC ks (ps_for hp hc hi.h hg.h hb.h (folded_of hs))⟩
theorem s_while{body:List Stmt}(hp:PassesOwn (model X.prog X.w) X.A X.env X.xe)(hc:WT X e (liftT K tc))(hb:WSs X body (liftS K t)):WS X (.While e body [] pos) (liftS K (dWhile tc t)):=⟨cs_while (ps_while hp hc.h hb.h)⟩
theorem s_set{i:Nat}(hN:X.N.Nodup)(hi:X.N[i]?=some x)(hx:Loc X.env.scope x)(he:WE X e (lift K td))(hs:notComp e=true:=by rfl)(hf:X.fn x=true\/X.env.scope.names.lookup x=some .local:=by first|exact .inl rfl|exact .inr rfl|assumption):WS X (.Assign [.Name x pos'] e pos) (liftS K (dSet i td)):=⟨cs_set (ps_set hN hi hx he.h (swaps_of hs) hf)⟩
theorem s_ix{j:Nat}(he:WE X e (lift K td))(ho:WE X e1 (argT K (.inl j)))(hi:WE X e2 (argT K a))(hs:swapsWithSole [.Subscript e1 e2 pos'] e pos.line X.env=pure false:=by rfl)(hw:swappedStores [.Subscript e1 e2 pos'] e X.env=pure none:=by rfl)
  (ha:∀v,assign (.Subscript e1 e2 pos') X.env v=(do
    let ov<-holding [v] (eval e1 X.env)
    let iv<-holding [v,ov] (eval e2 X.env)
    standAt pos'
    holding [v,ov,iv] (setItem ov iv v)
    release [v,ov,iv] []):=by intro _;rfl) (h1:(assignEach [.Subscript e1 e2 pos'] X.env).map (·.2)=[assign (.Subscript e1 e2 pos') X.env]:=by rfl):WS X (.Assign [.Subscript e1 e2 pos'] e pos) (liftS K (dSetIx j a td)):=⟨cs_ix (ps_asg he.h (pg_sub ho.h hi.h set_list ha) hs hw h1)⟩
theorem s_asgG{g:TDG}(he:WE X e (lift K td))(hg:WG X tg (liftG K g))(hs:swapsWithSole [tg] e pos.line X.env=pure false:=by rfl)(hw:swappedStores [tg] e X.env=pure none:=by rfl)(h1:(assignEach [tg] X.env).map (·.2)=[assign tg X.env]:=by rfl):WS X (.Assign [tg] e pos) (liftS K (dAsgG g td)):=⟨cs_asgG (ps_asg he.h hg.h hs hw h1)⟩
end
section
variable {P:Program}{w:World}{K:Fg}{mg:Str->Option Value}{base:Heap}
theorem wfn{x qual:Str}{st:Stmt}{f:Addr}{fd:FuncData}{N ps:List Str}{k:Nat}{con:Con}{ts:TDS}(F:Fun K x qual st f fd)(S:FnScope N ps (defScope st))
  (hb:∀(cdv:Value) (A:Around) (outer:List Env) (s:Shared) (H:Hp) (E:XK),Room k (A.deeper (envOfC qual (defScope st) s.heap.objs.size f cdv))->WSs (cxOf CX0 P w K mg base N qual (defScope st) f cdv A outer s H E).nox (defBody st) (liftS K ts))
  (hl:∀args Qd,con args Qd->args.length=ps.length) (hc:∀args Qd,con args Qd->(∀s∈args,∀d,s≠.ow d)/\ts (endsOf args Qd) (startE N.length args)):FnOk P w K mg base CX0 (k+1) f fd ps (conSp K con) :=
 dfn F S (λcdv A outer s H E hr=>(hb cdv A outer s H E hr).h) hl hc
end
end L3
namespace L2
open PySem PySem.Spec PyProof.Rows
theorem miss_list_keys:typeLookup (.type "list") "keys"=pure none:=by rw[typeLookup_type,builtinLookup_eq_fast];kernel_rfl
theorem plain_upd_loop:plainId "dict.update.loop"=true:=by decide +kernel
theorem entry_upd_loop:entryFor table "dict.update.loop"=some Builtin.«dict.update.loop»:=entryFor_of_tree (by kernel_rfl)
section
variable {prog:Program}{w:World}{A:Around}{E:Value->Shared->Prop}{s:Shared}
theorem keys_none{a:Addr}{o:Obj}{xs:Array Value}{k:Nat}{Q:Option Value->Shared->Prop}(hx:s.heap.get? a=some o)(hc:o.cls=.type "list")(hdat:o.data=.seq xs k)(hd:o.dict=none)(hA:A.handled=none)
  (h:∀h' tk,(∀b o,s.heap.get? b=some o->h'.get? b=some o)->Q none { s with heap:=h',toks:=tk }) :
  wpAny (model prog w) A (getAttr? (.ref a) "keys") Q E s:=by
 obtain⟨c,dct,dat,sl⟩:=o
 simp only at hc hdat hd
 subst hc hdat hd
 obtain⟨hp,g,d,tk,os⟩:=s
 have hT:∀tk',(⟨hp,g,d,tk',os⟩:Shared).TypeIs (.ref a) "list":=λ_=>⟨_,hx,rfl⟩
 have f1:=sub_AttributeError
 have f3:=F.slot_list_getattribute.lookup
 have f4:=F.slot_list_getattribute.bind (.ref a)
 have f5:=am_list_getattr_none
 unfold getAttr? getAttrBy? getAttrBy
 repeat (any_goals (first|assumption|exact hT _|((with_reducible show wpAny _ _ (call (Value.builtin "list.__getattribute__") _ _) _ _ _);refine call_meets F.slot_list_getattribute (hT _) am_entry_list_getattribute (F.args_list_getattribute_2 _ _) (meets_getattribute_miss_list a xs k sl "keys" _ miss_list_keys (by decide +kernel) (by decide +kernel)) ⟨hx,hA,λh' tk' e hx'=>?_⟩)|wp_step))
 obtain⟨t',u',he⟩:=hx'.there
 show wpAny _ _ (getattributeRaised _ _ _ _ _ _ _) _ _ _
 unfold getattributeRaised
 repeat (any_goals (first|assumption|wp_step))
 exact h _ _ hx'.keeps
end
section
variable {prog:Program}{w:World}{A:Around}{R:Result->Shared->Prop}{I:Addr}{fp wr:List Addr}{n:Nat}{P:Nat->Value->Prop}{St:Nat->Heap->Prop}
theorem upd_loop(W:Walks prog w A.in1 I fp wr n P St)(d:Addr)(hdf:d∉fp)(J:Nat->Heap->Prop)
  (hfr:∀i h h',J i h->(∀b o,b∉wr->h.get? b=some o->h'.get? b=some o)->J i h')
  (step:∀(i:Nat) (v:Value) (s:Shared) (Q:Unit->Shared->Prop) (E:Value->Shared->Prop),i < n->P i v->J i s.heap ->
    (∀h' tk,J (i+1) h'->Y2 d s.heap h'->Q () { s with heap:=h',toks:=tk }) ->
    ∃p x y,v=.ref p/\s.heap.IsTuple p #[x,y]/\wpAny (model prog w) A.in1 (dictSet d x y) Q E s) :
  ∀(k i:Nat) (s:Shared) (tA:Tok),n - i=k->i<=n->St i s.heap->J i s.heap ->
  (∀h' tk,J n h'->(∀b o,b∉wr->b≠d->s.heap.get? b=some o->h'.get? b=some o)->R (.ok (.ret .none)) { s with heap:=h',toks:=tk }) ->
  codeAny (model prog w) A (.builtin "dict.update.loop" ⟨[.ref d,.ref I,.int i tA,.none],[]⟩) R s:=by
 intro k
 induction k with
 | zero =>
  intro i s tA hk hi hst hJ hR
  have hin:i=n:=by omega
  subst hin
  refine codeAny_builtin entry_upd_loop ?_
  rw[Around.under_plainId plain_upd_loop _]
  show wpAny _ A.in1 (pyNext (.ref I) >>= _) _ _ s
  refine wpAny_bind (W.done s _ _ hst λh' tk hk'=>?_)
  show wpAny _ _ (W7 d [] >>= _) _ _ _
  exact wpAny_bind (wpAny_pure (wpAny_pure (hR h' tk (hfr _ _ _ hJ hk') λb o hbw _ e=>hk' b o hbw e)))
 | succ k ih =>
  intro i s tA hk hi hst hJ hR
  have hlt:i < n:=by omega
  refine codeAny_builtin entry_upd_loop ?_
  rw[Around.under_plainId plain_upd_loop _]
  show wpAny _ A.in1 (pyNext (.ref I) >>= _) _ _ s
  refine wpAny_bind (W.item i s _ _ hlt hst λv h' tk hP hst' hk'=>?_)
  have hJ':=hfr _ _ _ hJ hk'
  obtain⟨p,x,y,rfl,⟨ob,ho,hc,m,hd⟩,hw⟩:=step i v { s with heap:=h',toks:=tk } (λ_ s''=>∃h'' tk',s''={ s with heap:=h'',toks:=tk' }/\J (i+1) h''/\Y2 d h' h'') (λ_ _=>False) hlt hP hJ' λh'' tk' j sb=>⟨h'',tk',rfl,j,sb⟩
  show wpAny _ A.in1 (holding [.ref p] _ >>= _) _ _ _
  refine wpAny_bind (wpAny_holding ?_)
  refine wpAny_bind (wpAny_tryCatch ?_)
  unfold Builtin.Dict.pairItems
  refine wpAny_bind (wpAny_typeOf (T:="tuple") ⟨_,ho,hc⟩ ?_)
  rw[if_pos (by decide)]
  refine wpAny_bind (wpAny_seqItems ho hd (wpAny_pure ?_))
  show wpAny _ A.in1 (holding [x,y] (dictSet d x y)) _ _ _
  refine wpAny_holding (wpAny_mono hw (λ_ s'' z=>?_) λ_ _ z=>z.elim)
  obtain⟨h'',tk',rfl,j,sb⟩:=z
  refine wpAny_pure ⟨plainId_quiet plain_upd_loop _,?_⟩
  exact ih (i+1) { s with heap:=h'',toks:=tk' } 0 (by omega) hlt (W.frame _ _ _ hst' λb hb o e=>(sb.2 b λq=>hdf (q ▸ hb)).trans e) j λh3 tk3 j3 k3 =>
   hR h3 tk3 j3 λb o hbw hbd e=>k3 b o hbw hbd ((sb.2 b hbd).trans (hk' b o hbw e))
end
section
variable {prog:Program}{w:World}{A:Around}{E:Value->Shared->Prop}{s:Shared}
theorem call_dict_pairs{a:Addr}{o:Obj}{xs:Array Value}{k:Nat}{Q:Value->Shared->Prop}(J:Nat->Heap->Prop)(hh:A.handled=none)
  (hx:s.heap.get? a=some o) (hc:o.cls=.type "list") (hdat:o.data=.seq xs k) (hd:o.dict=none)
  (h0:∀h',(∀b ob,s.heap.get? b=some ob->h'.get? b=some ob)->h'.get? s.heap.objs.size=some { cls:=.type "dict",data:=.dict #[] }->J 0 h')
  (hfr:∀i h h',J i h->(∀b ob,b < s.heap.objs.size+1->h.get? b=some ob->h'.get? b=some ob)->J i h')
  (step:∀(i:Nat) (v:Value) (s':Shared) (Q':Unit->Shared->Prop) (E':Value->Shared->Prop),xs[i]?=some v->J i s'.heap->(∀b ob,s.heap.get? b=some ob->s'.heap.get? b=some ob) ->
    (∀h' tk,J (i+1) h'->Y2 s.heap.objs.size s'.heap h'->Q' () { s' with heap:=h',toks:=tk }) ->
    ∃p x y,v=.ref p/\s'.heap.IsTuple p #[x,y]/\wpAny (model prog w) A.in1.in1 (dictSet s.heap.objs.size x y) Q' E' s')
  (h:∀h' tk,J xs.size h'->(∀b ob,s.heap.get? b=some ob->h'.get? b=some ob)->Q (.ref s.heap.objs.size) { s with heap:=h',toks:=tk }) :
  wpAny (model prog w) A (call (.type "dict") [.ref a]) Q E s:=by
 refine callType_codes (Q₁:=λobj s₁=>obj=.ref s.heap.objs.size/\s₁={ s with heap:=s.heap.push { cls:=.type "dict",data:=.dict #[] } }) F.kt_called_dict (F.kt_typeCall_dict_1 _) F.entry_dict_init (kt_code_dict_new _ ⟨rfl,rfl⟩) ?_
 rintro obj s₁ ⟨rfl,rfl⟩
 have hnew:(s.heap.push { cls:=.type "dict",data:=.dict #[] }).get? s.heap.objs.size=some { cls:=.type "dict",data:=.dict #[] }:=M0 _ rfl
 have hkp:∀b ob,s.heap.get? b=some ob->(s.heap.push { cls:=.type "dict",data:=.dict #[] }).get? b=some ob:=λb ob e=>i0 _ e
 refine ⟨⟨_,hnew,rfl⟩,F.args_dict_init_2 _ _,?_⟩
 unfold Builtin.«dict.__init__»
 refine wpAny_bind ?_
 unfold X7
 refine wpAny_bind (wpAny_notOrdered_dict ⟨_,hnew,rfl⟩ ?_)
 show wpAny _ _ (pure (s.heap.objs.size,[X1 a])) _ _ _
 refine wpAny_pure ?_
 show wpAny _ _ (E5 "dict.__init__" s.heap.objs.size (.ref a) [] .none) _ _ _
 unfold E5
 refine wpAny_bind (wpAny_typeOf (T:="list") ⟨_,hkp _ _ hx,hc⟩ ?_)
 rw[if_pos (by decide)]
 refine wpAny_bind (keys_none (hkp _ _ hx) hc hdat hd hh λh1 tk1 k1=>?_)
 simp only[Option.isNone_none,if_true]
 refine wpAny_bind (wpAny_rule ?_)
 refine wpAny_bind (wpAny_pyIter_list (s:={ s with heap:=h1,toks:=tk1 }) ⟨_,k1 _ _ (hkp _ _ hx),hc,k,hdat⟩ ?_)
 have hlt:s.heap.objs.size < h1.objs.size:=J0 (k1 _ _ hnew)
 have halt:a < s.heap.objs.size:=J0 hx
 have hnf:s.heap.objs.size∉[h1.objs.size,a]:=λhm=>by
  rcases X0.mp hm with q|q
  ·exact Y0 hlt q
  ·exact T1 halt (U0.mp q)
 refine wpAny_pure ⟨plainId_quiet plain_upd_loop _,upd_loop (Walks.list (A:=A.in1.in1) hh h1.objs.size a (Y0 (p6 halt hlt)) xs) s.heap.objs.size hnf (λi h'=>J i h'/\∀b ob,s.heap.get? b=some ob->h'.get? b=some ob) ?_ ?_ xs.size 0 _ 0 rfl (m3 _) ?_ ?_ ?_⟩
 ·rintro i hp hp' ⟨j,kk⟩ kp
  refine ⟨hfr _ _ _ j λb ob hb e=>kp b ob (λhm=>Y0 (Q1 (Nat.le_of_lt_succ hb) hlt) (U0.mp hm)) e,λb ob e=>kp b ob ?_ (kk b ob e)⟩
  exact λhm=>Y0 (p6 (J0 e) hlt) (U0.mp hm)
 ·rintro i v s' Q' E' hi hP ⟨j,kk⟩ hq
  refine step i v s' Q' E' hP j kk λh' tk j' sb=>hq h' tk ⟨j',λb ob e=>(sb.2 b ?_).trans (kk b ob e)⟩ sb
  exact Y0 (J0 e)
 ·exact ⟨⟨_,M0 _ rfl,rfl,rfl⟩,⟨_,i0 _ (k1 _ _ (hkp _ _ hx)),hc,k,hdat⟩⟩
 ·exact ⟨hfr _ _ _ (h0 h1 (λb ob e=>k1 b ob (hkp b ob e)) (k1 _ _ hnew)) λb ob _ e=>i0 _ e,λb ob e=>i0 _ (k1 b ob (hkp b ob e))⟩
 ·rintro h' tk ⟨j,kk⟩ _
  exact ⟨rfl,h h' tk j kk⟩
end
theorem Vals.getV:∀{xs:List V}{us:List Value}{i:Nat}{u:Value},Vals xs us->us[i]?=some u->∃x,xs[i]?=some x/\RelV x u
 | _,_,0,_,.cons r _,e=>⟨_,rfl,by cases e;exact r⟩
 | _,_,i+1,_,.cons _ t,e=>Vals.getV (i:=i) t e
section
variable {X:Cx}
end
end L2
namespace L3
open PySem PySem.Spec L2
theorem hu2_of{A:Around}{k:Nat}(hr:Room k A):A.units+2 < cLine:=Q1 (y7 (by decide:2<=64) _) hr.units
section
variable {K:Fg}{F H:Hp}
end
section
variable {X:Cx}{K:Fg}{e e1 e2:Expr}{a b:AD}{p pos pos' p2:Pos}
end
mutual
theorem noMix_self:∀d:D,plainD d=true->SeqAt.noMix d d=true
 | .none,_=>by simp[SeqAt.noMix]
 | .bool _,_=>by simp[SeqAt.noMix]
 | .int _,_=>by simp[SeqAt.noMix]
 | .str _,_=>by simp[SeqAt.noMix]
 | .list xs,h=>by simp[SeqAt.noMix];exact noMixAll_self xs (by simpa [plainD]using h)
 | .tuple xs,h=>by simp[SeqAt.noMix];exact noMixAll_self xs (by simpa [plainD]using h)
 | .dict _,h=>by simp[plainD]at h
theorem noMixAll_self:∀xs:List D,plainAll xs=true->SeqAt.noMixAll xs xs=true
 | [],_=>by simp[SeqAt.noMixAll]
 | x :: xs,h=>by
  simp[plainAll]at h
  simp[SeqAt.noMixAll]
  exact ⟨noMix_self x h.1,noMixAll_self xs h.2⟩
end
structure Nice(n:Nat)(d:D):Prop where
 p:plainD d=true
 c:d.canLay0=true
 d:d.depth<=n
theorem Nice.int(n:Nat)(i:Int):Nice n (.int i):=⟨rfl,by simp[G8],by simp[u4]⟩
theorem nice_all{n:Nat}:∀{l:List D},(∀d∈l,Nice n d)->plainAll l=true/\U7 l=true/\M5 l<=n
 | [],_=>⟨rfl,by simp[U7],by simp[M5]⟩
 | x :: l,h=>by
  have h1:=h x P0
  have h2:=nice_all (l:=l) λd hd=>h d (L0 _ hd)
  refine ⟨by simp[plainAll,h1.p,h2.1],by simp[U7,h1.c,h2.2.1],?_⟩
  have:=h1.d
  have:=h2.2.2
  simp[M5]
  omega
theorem Nice.list{n:Nat}{l:List D}(h:∀d∈l,Nice n d):Nice (n+1) (.list l):=by
 obtain⟨a,b,c⟩:=nice_all h
 exact ⟨by simp[plainD,a],by simp[G8,b],by simp[u4];omega⟩
theorem Nice.tuple{n:Nat}{l:List D}(h:∀d∈l,Nice n d):Nice (n+1) (.tuple l):=by
 obtain⟨a,b,c⟩:=nice_all h
 exact ⟨by simp[plainD,a],by simp[G8,b],by simp[u4];omega⟩
theorem Nice.tup(l:List Int):Nice 1 (.tuple (l.map G0)):=.tuple λd hd=>by
 obtain⟨i,_,rfl⟩:=A1.mp hd
 exact .int 0 i
theorem Nice.sh{n:Nat}{d:D}(h:Nice n d)(k:n<=64):SeqAt.shaped d=true:=by
 have:=h.d
 unfold SeqAt.shaped
 rw[h.c]
 simp
 omega
end L3
namespace L2
open PySem PySem.Spec PyProof.Rows
noncomputable def rIsi2(K:n0):List V->Hp->VK->Prop:=λxs H Q=>∃(x:V) (k:Ki) (T:Ki),xs=[x,.ty T.nm]/\(KiOf K H x k\/∃a,x=.ref a/\k=.dct/\IsD H a)/\Q (.bl (k.sub T)) H
theorem call_isi2{X:Cx}:CallR X (.builtin "isinstance") (rIsi2 X.K):=by
 intro pins s σ H xs us Q I r h
 obtain⟨x,k,T,rfl,hk,q⟩:=h
 rcases hk with hk|⟨a,rfl,rfl,hd⟩
 ·exact call_isi pins s σ H _ us Q I r ⟨x,k,T,rfl,hk,q⟩
 ·obtain⟨u,w',rfl,ru,rw'⟩:=vals2 r
  obtain rfl:w'=.type T.nm:=rw'
  cases ru
  have ht:s.TypeIs (.ref a) Ki.dct.nm:=(isD_at I hd).1
  cases hs:Ki.dct.sub T with
  | true =>
   rw[hs]at q
   exact call_isinstance (isinstance_true (Tx:=Ki.dct.nm) (ki_meta T) (by rw[ki_sub,hs])) ⟨ht,.bl true,H,I,rfl,q⟩
  | false =>
   rw[hs]at q
   have hsub:isSubtype (.type Ki.dct.nm) (.type T.nm)=pure false:=by rw[ki_sub,hs]
   have hne:=ki_ne Ki.dct T hs
   have fin:EP X pins σ Q (.bool false) { s with toks:=s.toks+1 }:=⟨.bl false,H,I.tok _,rfl,q⟩
   exact call_isinstance (isinstance_false_dict hne (ki_meta T) hsub) ⟨ht,fin⟩
inductive PrsT (H:Hp):List (V×V)->List (List Key×V)->Prop
 | nil:PrsT H [] []
 | cons {b ks v ps kvs}:H b=some (.tup (ks.map kV))->PrsT H ps kvs->PrsT H ((.ref b,v) :: ps) ((ks,v) :: kvs)
section
variable {X:Cx}{pins:List (Addr×Obj)}{σ:St}{a:Addr}{E:Value->Shared->Prop}
end
end L2
namespace L3
open PySem PySem.Spec PyProof.Rows L2
noncomputable def notScr:List (D×D)->Bool
 | (.none,_) :: _=>false
 | (.bool _,_) :: _=>false
 | _=>true
noncomputable def fIsiA(T:Ki):D->(Sl->Prop)->Prop
 | .dict es,Q=>notScr es=true/\Q (.fz (.bool (Ki.dct.sub T)))
 | d,Q=>Q (.fz (.bool ((kiD d).sub T)))
theorem At.isD{K:Fg}{F H:Hp}{v:V}{es:List (D×D)}(s:Sub F H)(h:At K F H v (.dict es))(hn:notScr es=true):∃a,v=.ref a/\IsD H a:=by
 rcases h with h|⟨a,o,rfl,_,e,h⟩
 ·cases h with
  | dk r t=>exact ⟨_,rfl,.inl ⟨_,s.rd r⟩⟩
  | dt r t=>exact ⟨_,rfl,.inr ⟨_,s.rd r⟩⟩
  | scr q=>simp[notScr]at hn
  | exc q=>simp[notScr]at hn
  | opq q=>simp[notScr]at hn
  | pd q t=>simp[notScr]at hn
  | bd q t=>simp[notScr]at hn
 ·cases o with
  | ext φ=>rcases h.ext with⟨a',ep,xs,ps,z,z2,t⟩|⟨a',ep,xs,ps,z,z2,t⟩<;>(injection z2 with z2;rw[z2]at hn;simp[notScr]at hn)
  | _=>first|exact h.elim|exact ⟨_,rfl,.inl ⟨_,.inl e⟩⟩|exact ⟨_,rfl,.inr ⟨_,.inl e⟩⟩
theorem ok_isiA{K:Fg}{T:Ki}:OpOk K (λvs H Q=>∃x,vs=[x]/\rIsi2 K [x,.ty T.nm] H Q) (o1 (fIsiA T)):=ok1 λG F σ H ρ x d Q Qd R h1 w k=>by
 have go:∀(ki:Ki),KiOf K H x ki->Qd (.fz (.bool (ki.sub T)))->∃x',[x]=[x']/\rIsi2 K [x',.ty T.nm] H Q:=λki h w=>⟨x,rfl,x,ki,T,rfl,.inl h,k _ H F (.fz _) (Sub.refl _) R (Da.bl _) w⟩
 match d,h1,w with
 | .none,h1,w=>cases h1.none;exact go .non rfl w
 | .bool b,h1,w=>cases h1.bool;exact go .bl rfl w
 | .int i,h1,w=>cases h1.int;exact go .int rfl w
 | .str z,h1,w=>cases h1.str;exact go .str rfl w
 | .list ds,h1,w =>
  obtain⟨a,us,rfl,e1,d1⟩:=h1.list R.sub
  exact go .lst (.inl ⟨rfl,us,SqL.of e1⟩) w
 | .tuple ds,h1,w =>
  obtain⟨a,us,rfl,_,e1,d1⟩:=h1.tuple R.sub
  exact go .tup (.inr (.inl ⟨rfl,us,SqT.of e1⟩)) w
 | .dict es,h1,w =>
  obtain⟨a,rfl,hd⟩:=h1.isD R.sub w.1
  exact ⟨_,rfl,_,.dct,T,rfl,.inr ⟨a,rfl,rfl,hd⟩,k _ H F (.fz _) (Sub.refl _) R (Da.bl _) w.2⟩
section
variable {X:Cx}{K:Fg}{e e1 e2:Expr}{a b:AD}{ta tb:TD}{st:Stmt}{p pos p2 pos' px py pt:Pos}{x y:Str}
theorem w_isiA(T:Ki)(hK:X.K=K)(hm:X.mg "isinstance"=none){y:Str}(hm2:X.mg y=none)(hv2:bootBuiltins y=some (.type T.nm))(ha:WE X e1 (argT K a))(hg:Gl X "isinstance":=by rfl)(hg2:Gl X y:=by rfl)(hy:y ≠ "__name__":=by decide)(hy2:(y==("__debug__":Str))=false:=by decide)(he:notStar e1=true:=by rfl) :
  WE X (.Call (.Name "isinstance" p) [e1,.Name y p2] [] pos) (lift K (dOp [a] (o1 (fIsiA T)))):=by
 subst hK
 exact ⟨peM (pe_callB call_isi2 hg hm boot_isinstance (pa_cons ha.h (pa_cons (pe_bltn hg2 hm2 hv2 (v:=.ty T.nm) rfl hy hy2) pa_nil (starEach_of rfl)) (starEach_of he)) (by decide) (by decide) (starEach_of he) (plain_of rfl)) λq=>arg1 (P:=λx H1=>rIsi2 X.K [x,.ty T.nm] H1 _) (l_op ok_isiA q)⟩
end
end L3
namespace L2
open PySem PySem.Spec PyProof.Rows
section
variable {X:Cx}
theorem op_isnotB:OpR X (compareOp .IsNot) (λx y H Q=>∃c d,x=.bl c/\y=.bl d/\Q (.bl (!(c==d))) H):=by
 intro pins s σ H x y v u Q I rx ry h
 obtain⟨c,d,rfl,rfl,q⟩:=h
 cases rx
 cases ry
 exact isnot_bool ⟨.bl _,H,I,rfl,q⟩
end
end L2
namespace L3
open PySem PySem.Spec PyProof.Rows L2
noncomputable def fIsB:D->D->(Sl->Prop)->Prop
 | .bool c,.bool d,Q=>Q (.fz (.bool (c==d)))
 | _,_,_=>False
noncomputable def fIsnB:D->D->(Sl->Prop)->Prop
 | .bool c,.bool d,Q=>Q (.fz (.bool (!(c==d))))
 | _,_,_=>False
theorem ok_isnB{K:Fg}:OpOk K (r2L λx y H Q=>∃c d,x=.bl c/\y=.bl d/\Q (.bl (!(c==d))) H) (o2 fIsnB):=ok2 λG F σ H ρ x y d e Q Qd R h1 h2 w k=>by
 cases d<;>first|exact w.elim|skip
 cases e<;>first|exact w.elim|skip
 case bool.bool c d =>
  cases h1.bool
  cases h2.bool
  exact ⟨c,d,rfl,rfl,k _ H F (.fz _) (Sub.refl _) R (Da.bl _) w⟩
section
variable {X:Cx}{K:Fg}{x:Str}{pos:Pos}
end
theorem len_ofString(s:String):(Str.ofString s).length=s.length:=by
 rw[Str.ofString_eq_toList]
 simp only[Str.length,N0,j0]
 first|rfl|exact String.length_toList|exact String.length_toList _|simp
theorem shown_int{i:Int}{k:Nat}(hk:0 < k)(h:i.natAbs < 10 ^ k):(G0 i).shown.length<=k+1:=by
 show (Str.ofString (toString i)).length<=k+1
 rw[len_ofString]
 cases i with
 | ofNat n =>
  show (Nat.repr n).length<=k+1
  have:=(o8 (n:=n) hk).mpr h
  omega
 | negSucc m =>
  show ("-"++Nat.repr (m+1)).length<=k+1
  have h1:m+1 < 10 ^ k:=by simpa using h
  have:=(o8 (n:=m+1) hk).mpr h1
  rw[String.length_append]
  have e:("-":String).length=1:=by decide
  omega
theorem join_len(sep:Str)(b:Nat):∀ts:List Str,(∀t∈ts,t.length<=b)->(Str.join sep ts).length<=ts.length * (b+sep.length)
 | [],_=>by simp[Str.join,Str.length,Str.empty]
 | [x],h=>by
  have:=h x P0
  show x.length<=_
  simp
  omega
 | x :: y :: r,h=>by
  have h1:=h x P0
  have h2:=join_len sep b (y :: r) λt ht=>h t (L0 _ ht)
  show (x++sep++Str.join sep (y :: r)).length<=_
  rw[Str.length_append,Str.length_append,B2,b9]
  omega
theorem shownAll_map:∀l:List D,m7 l=l.map m8
 | []=>rfl
 | x :: l=>by simp[m7,shownAll_map l]
theorem shown_tuple{b:Nat}{l:List D}(h:∀d∈l,d.shown.length<=b):(V1 l).shown.length<=l.length * (b+2)+3:=by
 show (tupleText (m7 l)).length<=_
 rw[shownAll_map]
 have hj:=join_len (Str.ofString ", ") b (l.map m8) λt ht=>by
  obtain⟨d,hd,rfl⟩:=A1.mp ht
  exact h d hd
 rw[j0,len_ofString]at hj
 have e2:(", ":String).length=2:=by decide
 rw[e2]at hj
 unfold tupleText
 rw[Str.length_append,Str.length_append,len_ofString,len_ofString]
 have e1:("(":String).length=1:=by decide
 have e3:(if (((l.map m8).length==1)=true) then ",)" else ")":String).length<=2:=by split<;>decide
 omega
theorem shown_list{b:Nat}{l:List D}(h:∀d∈l,d.shown.length<=b):(T4 l).shown.length<=l.length * (b+2)+3:=by
 have gen:∀(ts:List Str) (k:Nat) (acc:Str),(∀t∈ts,t.length<=b)->(textFrom k acc ts).length<=acc.length+ts.length * (b+2):=by
  intro ts
  induction ts with
  | nil=>intro k acc _;simp[textFrom]
  | cons t ts ih =>
   intro k acc ht
   have h1:=ht t P0
   have h2:=ih (k+1) (acc++Str.ofString (if k > 0 then ", " else "")++t) λx hx=>ht x (L0 _ hx)
   rw[Str.length_append,Str.length_append,len_ofString]at h2
   have e3:(if k > 0 then ", " else "":String).length<=2:=by split<;>decide
   show (textFrom (k+1) (acc++Str.ofString (if k > 0 then ", " else "")++t) ts).length<=_
   rw[B2,b9]
   omega
 show (listText (m7 l)).length<=_
 rw[shownAll_map]
 have hg:=gen (l.map m8) 0 (Str.ofString "[") λt ht=>by
  obtain⟨d,hd,rfl⟩:=A1.mp ht
  exact h d hd
 unfold listText
 rw[Str.length_append,len_ofString]
 rw[len_ofString,j0]at hg
 have e1:("[":String).length=1:=by decide
 have e2:("]":String).length=1:=by decide
 omega
theorem showableAll_of:∀{l:List D},(∀d∈l,d.showable=true)->U8 l=true
 | [],_=>rfl
 | x :: l,h=>by
  simp[U8,h x P0]
  exact showableAll_of λd hd=>h d (L0 _ hd)
theorem showable_int{i:Int}{k:Nat}(h:i.natAbs < 2 ^ k)(hk:k<=1920):(G0 i).showable=true:=by
 show decide (i.natAbs.log2 < 1920)=true
 refine decide_eq_true ?_
 by_cases h0:i.natAbs=0
 ·rw[h0];decide
 ·exact T0 ((Nat.log2_lt h0).mpr h) hk
end L3
namespace L2
open PySem PySem.Spec PyProof.Rows
noncomputable def unV:V->Int
 | .int i=>i
 | _=>0
theorem unV_ints(l:List Int):(l.map V.int).map unV=l:=by rw[S0];exact q9 l
theorem ints_inj{l m:List Int}(e:l.map V.int=m.map V.int):l=m:=by rw[<- unV_ints l,<- unV_ints m,e]
noncomputable def evT(H:Hp)(p:List Int)(y:Value):Bool:=@decide (∃c,y=.ref c/\H c=some (.tup (p.map V.int))) (Classical.propDecidable _)
theorem vals_intsAt{ns:List Int}{us:List Value}(r:Vals (ns.map V.int) us){k:Nat}(h:k < us.length):∃t,us[k]=.int (ns.getD k 0) t:=by
 have hl:=r.length
 rw[j0]at hl
 have hk:k < ns.length:=by omega
 obtain⟨u,hu,ru⟩:=r.get (i:=k) (x:=.int ns[k]) (by rw[O0,y0 hk];rfl)
 obtain⟨t,e⟩:=ru
 rw[y0 h]at hu
 have hu:=N1 hu
 refine ⟨t,?_⟩
 rw[hu,e,Z1,y0 hk]
 rfl
end L2
namespace L3
open PySem PySem.Spec PyProof.Rows L2
theorem DaAll.ints_of{K:Fg}{F:Hp}{ys:List V}{p:List Int}(h:DaAll K F ys (p.map G0)):ys=p.map V.int:=by
 have e:p.map G0=(p.map λn=>(.inl n:Key)).map keyD:=by rw[S0];rfl
 rw[e]at h
 have:=h.keys
 rw[this,S0];rfl
noncomputable def rSlHiL(K:Fg):R2:=λx y H Q=>∃j,y=.int j/\rSlL K x none (some j) H Q
noncomputable def rSlLoL(K:Fg):R2:=λx y H Q=>∃j,y=.int j/\rSlL K x (some j) none H Q
noncomputable def fSlHiL:D->D->(Sl->Prop)->Prop
 | .list ds,.int j,Q=>Q (.ow (.list (ds.take (if j < 0 then (j+ds.length).toNat else j.toNat))))
 | _,_,_=>False
noncomputable def fSlLoL:D->D->(Sl->Prop)->Prop
 | .list ds,.int j,Q=>Q (.ow (.list (ds.drop (if j < 0 then (j+ds.length).toNat else j.toNat))))
 | _,_,_=>False
theorem sIx_take{α:Type}(us:List α)(j:Int):us.take (HT.sIx us.length us.length (some j))=us.take (if j < 0 then (j+us.length).toNat else j.toNat):=by
 show us.take (if j < 0 then (j+(us.length:Int)).toNat else min j.toNat us.length)=_
 split
 ·rfl
 ·by_cases h:j.toNat<=us.length
  ·rw[o7 h]
  ·rw[S2 (by omega),S2 (by omega)]
theorem ok_slHiL{K:Fg}:OpOk K (r2L (rSlHiL K)) (o2 fSlHiL):=ok2 λG F σ H ρ x y d e Q Qd R h1 h2 w k=>by
 cases d<;>first|exact w.elim|skip
 cases e<;>first|exact w.elim|skip
 rename_i ds j
 cases h2.int
 obtain⟨a,us,rfl,e1,d1⟩:=h1.list R.sub
 refine ⟨j,rfl,a,us,rfl,SqL.of e1,λp hp=>?_⟩
 have e3:cutV us none (some j)=us.take (if j < 0 then (j+ds.length).toNat else j.toNat):=by
  rw[<- d1.length,<- sIx_take]
  rfl
 rw[e3]
 obtain⟨R',r'⟩:=R.newOw (o:=.lst (us.take (if j < 0 then (j+ds.length).toNat else j.toNat))) (d:=.list (ds.take (if j < 0 then (j+ds.length).toNat else j.toNat))) hp (d1.take _)
 exact k _ _ F _ (Sub.refl _) R' r' w
theorem ok_slLoL{K:Fg}:OpOk K (r2L (rSlLoL K)) (o2 fSlLoL):=ok2 λG F σ H ρ x y d e Q Qd R h1 h2 w k=>by
 cases d<;>first|exact w.elim|skip
 cases e<;>first|exact w.elim|skip
 rename_i ds j
 cases h2.int
 obtain⟨a,us,rfl,e1,d1⟩:=h1.list R.sub
 refine ⟨j,rfl,a,us,rfl,SqL.of e1,λp hp=>?_⟩
 have hl:=d1.length
 have e3:cutV us (some j) none=us.drop (if j < 0 then (j+ds.length).toNat else j.toNat):=by
  unfold cutV
  show (us.drop (if j < 0 then (j+(us.length:Int)).toNat else min j.toNat us.length)).take (us.length - (if j < 0 then (j+(us.length:Int)).toNat else min j.toNat us.length))=_
  rw[S2 (by rw[E2];omega),hl]
  split
  ·rfl
  ·by_cases h:j.toNat<=us.length
   ·rw[o7 (by omega)]
   ·rw[A4 (by omega),A4 (by omega)]
 rw[e3]
 obtain⟨R',r'⟩:=R.newOw (o:=.lst (us.drop (if j < 0 then (j+ds.length).toNat else j.toNat))) (d:=.list (ds.drop (if j < 0 then (j+ds.length).toNat else j.toNat))) hp (d1.drop _)
 exact k _ _ F _ (Sub.refl _) R' r' w
section
variable {X:Cx}{K:Fg}{e1 e2:Expr}{a b:AD}{pos p2:Pos}
theorem w_slHiL(hK:X.K=K)(ha:WE X e1 (argT K a))(hb:WE X e2 (argT K b)):WE X (.Subscript e1 (.Slice none (some e2) none p2) pos) (lift K (dOp [a,b] (o2 fSlHiL))):=by
 subst hK
 exact ⟨peM (pe_slice sl_list ha.h po_none (po_some hb.h)) λq=>arg2 (P:=λx y H=>rSlHiL X.K x y H _) (l_op ok_slHiL q)⟩
theorem w_slLoL(hK:X.K=K)(ha:WE X e1 (argT K a))(hb:WE X e2 (argT K b)):WE X (.Subscript e1 (.Slice (some e2) none none p2) pos) (lift K (dOp [a,b] (o2 fSlLoL))):=by
 subst hK
 exact ⟨peM (pe_slice sl_list ha.h (po_some hb.h) po_none) λq=>arg2 (P:=λx y H=>rSlLoL X.K x y H _) (l_op ok_slLoL q)⟩
end
end L3
namespace L2
open PySem PySem.Spec PyProof.Rows
section
variable {prog:Program}{w:World}{A:Around}{E:Value->Shared->Prop}{s:Shared}
theorem min_tupD{l:Addr}{xs:Array (Int×Tok)}{Q:Value->Shared->Prop}(hh:A.handled=none)(ht:s.heap.IsTuple l (intItems xs))(hne:0 < xs.size)
  (h:∀v h' tk,(intItems xs)[argBest (λi j=>decide (numAt xs i < numAt xs j)) (xs.size - 1)]?=some v->(∀b o,s.heap.get? b=some o->h'.get? b=some o)->Q v { s with heap:=h',toks:=tk }) :
  wpAny (model prog w) A (call (.builtin "min") [.ref l]) Q E s:=by
 obtain⟨o,ho,hc,n,hd⟩:=id ht
 have hn:l≠s.heap.objs.size:=Y0 (J0 ho)
 refine call_min_walk (wpAny_pyIter_tuple ht ?_)
 refine ⟨s.heap.objs.size,_,_,_,_,_,_,rfl,Walks.tuple (A:=A.in1) hh _ l hn (intItems xs),⟨⟨_,M0 _ rfl,rfl,rfl⟩,ht.push _⟩,λb hb=>?_,by simpa [intItems]using hne,CmpOf.ints_lt (numAt xs) (λ_ _=>intItems_at),λv h' tk hP hk=>?_⟩
 ·rcases X0.mp hb with rfl|hb
  ·exact J0 (M0 _ rfl)
  ·obtain rfl:=U0.mp hb
   exact J0 (i0 _ ho)
 ·exact h v h' tk (by simpa [intItems]using hP) λb o e=>hk b o (λhb=>absurd (J0 e) ((U0.mp hb) ▸ Z2 _)) (i0 _ e)
theorem max_tupD{l:Addr}{xs:Array (Int×Tok)}{Q:Value->Shared->Prop}(hh:A.handled=none)(ht:s.heap.IsTuple l (intItems xs))(hne:0 < xs.size)
  (h:∀v h' tk,(intItems xs)[argBest (λi j=>decide (numAt xs i > numAt xs j)) (xs.size - 1)]?=some v->(∀b o,s.heap.get? b=some o->h'.get? b=some o)->Q v { s with heap:=h',toks:=tk }) :
  wpAny (model prog w) A (call (.builtin "max") [.ref l]) Q E s:=by
 obtain⟨o,ho,hc,n,hd⟩:=id ht
 have hn:l≠s.heap.objs.size:=Y0 (J0 ho)
 refine call_max_walk (wpAny_pyIter_tuple ht ?_)
 refine ⟨s.heap.objs.size,_,_,_,_,_,_,rfl,Walks.tuple (A:=A.in1) hh _ l hn (intItems xs),⟨⟨_,M0 _ rfl,rfl,rfl⟩,ht.push _⟩,λb hb=>?_,by simpa [intItems]using hne,CmpOf.ints_gt (numAt xs) (λ_ _=>intItems_at),λv h' tk hP hk=>?_⟩
 ·rcases X0.mp hb with rfl|hb
  ·exact J0 (M0 _ rfl)
  ·obtain rfl:=U0.mp hb
   exact J0 (i0 _ ho)
 ·exact h v h' tk (by simpa [intItems]using hP) λb o e=>hk b o (λhb=>absurd (J0 e) ((U0.mp hb) ▸ Z2 _)) (i0 _ e)
end
noncomputable def rMnI(K:n0):List V->Hp->VK->Prop:=λxs H Q=>∃(a:Addr) (ns:List Int),xs=[.ref a]/\(SqL K H a (ns.map V.int)\/SqT K H a (ns.map V.int))/\0 < ns.length/\∀M,M∈ns->(∀y∈ns,M<=y)->Q (.int M) H
noncomputable def rMxI(K:n0):List V->Hp->VK->Prop:=λxs H Q=>∃(a:Addr) (ns:List Int),xs=[.ref a]/\(SqL K H a (ns.map V.int)\/SqT K H a (ns.map V.int))/\0 < ns.length/\∀M,M∈ns->(∀y∈ns,y<=M)->Q (.int M) H
theorem call_mnI{X:Cx}{K:n0}(hK:X.K=K)(hc:X.calm=true):CallR X (.builtin "min") (rMnI K):=by
 subst hK
 intro pins s σ H xs us Q I r h
 obtain⟨a,ns,rfl,hq,hp,q⟩:=h
 obtain⟨u,rfl,ru⟩:=vals1 r
 cases ru
 have hh:=I.ok.hd hc
 have fin:∀{its:List Value}{zs:Array (Int×Tok)},Vals (ns.map V.int) its->its.toArray=intItems zs->0 < zs.size/\∀(v:Value) (h':Heap) (tk:Nat),(intItems zs)[argBest (λi j=>decide (numAt zs i < numAt zs j)) (zs.size - 1)]?=some v->(∀b o,s.heap.get? b=some o->h'.get? b=some o)->EP X pins σ Q v { s with heap:=h',toks:=tk }:=by
  intro its zs rv e
  have hi:IntsAre its ns:=intsAre_of rv
  have hns:ns=zs.toList.map (·.1):=by rw[<- nums_intItems,<- e];exact (show numsOf its.toArray.toList=ns from hi.numsOf).symm
  have hsz:0 < zs.size:=by have h3:=hp;rw[hns,j0,S1]at h3;exact h3
  refine ⟨hsz,λv h' tk hv hk=>?_⟩
  obtain⟨t,rfl⟩:=intItems_at hv
  obtain⟨h1,h2⟩:=argBest_lt (numAt zs) (zs.size - 1)
  refine ⟨.int _,H,I.kept hk,⟨t,rfl⟩,q _ ?_ λy hy=>?_⟩
  ·rw[hns,numAt_eq];exact getD_mem (by rw[j0,S1];omega)
  ·rw[hns]at hy
   obtain⟨j,hj,rfl⟩:=mem_getD hy
   rw[j0,S1]at hj
   rw[<- numAt_eq];exact h2 j (by omega)
 rcases hq with hq|hq
 ·obtain⟨its,rv,p,hz⟩:=I.list hq
  obtain⟨zs,hx⟩:=(intsAre_of rv).allInts.items
  obtain⟨hs,f⟩:=fin rv hx
  exact min_intList hh (hx ▸ p.isList) hs f
 ·obtain⟨its,rv,p,hz⟩:=I.tuple hq
  obtain⟨zs,hx⟩:=(intsAre_of rv).allInts.items
  obtain⟨hs,f⟩:=fin rv hx
  exact min_tupD hh (show s.heap.IsTuple a (intItems zs) from hx ▸ p) hs f
theorem call_mxI{X:Cx}{K:n0}(hK:X.K=K)(hc:X.calm=true):CallR X (.builtin "max") (rMxI K):=by
 subst hK
 intro pins s σ H xs us Q I r h
 obtain⟨a,ns,rfl,hq,hp,q⟩:=h
 obtain⟨u,rfl,ru⟩:=vals1 r
 cases ru
 have hh:=I.ok.hd hc
 have fin:∀{its:List Value}{zs:Array (Int×Tok)},Vals (ns.map V.int) its->its.toArray=intItems zs->0 < zs.size/\∀(v:Value) (h':Heap) (tk:Nat),(intItems zs)[argBest (λi j=>decide (numAt zs i > numAt zs j)) (zs.size - 1)]?=some v->(∀b o,s.heap.get? b=some o->h'.get? b=some o)->EP X pins σ Q v { s with heap:=h',toks:=tk }:=by
  intro its zs rv e
  have hi:IntsAre its ns:=intsAre_of rv
  have hns:ns=zs.toList.map (·.1):=by rw[<- nums_intItems,<- e];exact (show numsOf its.toArray.toList=ns from hi.numsOf).symm
  have hsz:0 < zs.size:=by have h3:=hp;rw[hns,j0,S1]at h3;exact h3
  refine ⟨hsz,λv h' tk hv hk=>?_⟩
  obtain⟨t,rfl⟩:=intItems_at hv
  obtain⟨h1,h2⟩:=argBest_gt (numAt zs) (zs.size - 1)
  refine ⟨.int _,H,I.kept hk,⟨t,rfl⟩,q _ ?_ λy hy=>?_⟩
  ·rw[hns,numAt_eq];exact getD_mem (by rw[j0,S1];omega)
  ·rw[hns]at hy
   obtain⟨j,hj,rfl⟩:=mem_getD hy
   rw[j0,S1]at hj
   rw[<- numAt_eq];exact h2 j (by omega)
 rcases hq with hq|hq
 ·obtain⟨its,rv,p,hz⟩:=I.list hq
  obtain⟨zs,hx⟩:=(intsAre_of rv).allInts.items
  obtain⟨hs,f⟩:=fin rv hx
  exact max_intList hh (hx ▸ p.isList) hs f
 ·obtain⟨its,rv,p,hz⟩:=I.tuple hq
  obtain⟨zs,hx⟩:=(intsAre_of rv).allInts.items
  obtain⟨hs,f⟩:=fin rv hx
  exact max_tupD hh (show s.heap.IsTuple a (intItems zs) from hx ▸ p) hs f
end L2
namespace L3
open PySem PySem.Spec PyProof.Rows L2
section
variable {K:Fg}{σ:L2.St}{H:Hp}{v:V}{Q:L2.St->Hp->Prop}
end
noncomputable def fMnI:D->(Sl->Prop)->Prop
 | .list ds,Q=>∃ns:List Int,ds=ns.map G0/\0 < ns.length/\∀M,M∈ns->(∀y∈ns,M<=y)->Q (.fz (.int M))
 | .tuple ds,Q=>∃ns:List Int,ds=ns.map G0/\0 < ns.length/\∀M,M∈ns->(∀y∈ns,M<=y)->Q (.fz (.int M))
 | _,_=>False
noncomputable def fMxI:D->(Sl->Prop)->Prop
 | .list ds,Q=>∃ns:List Int,ds=ns.map G0/\0 < ns.length/\∀M,M∈ns->(∀y∈ns,y<=M)->Q (.fz (.int M))
 | .tuple ds,Q=>∃ns:List Int,ds=ns.map G0/\0 < ns.length/\∀M,M∈ns->(∀y∈ns,y<=M)->Q (.fz (.int M))
 | _,_=>False
theorem ok_mnI{K:Fg}:OpOk K (rMnI K) (o1 fMnI):=ok1 λG F σ H ρ x d Q Qd R h1 w k=>by
 match d,h1,w with
 | .list ds,h1,⟨ns,e,hp,w⟩ =>
  subst e
  obtain⟨a,us,rfl,e1,d1⟩:=h1.list R.sub
  have:=d1.intsV
  subst this
  exact ⟨a,ns,rfl,.inl (SqL.of e1),hp,λM m1 m2=>k _ H F (.fz _) (Sub.refl _) R (Da.int _) (w M m1 m2)⟩
 | .tuple ds,h1,⟨ns,e,hp,w⟩ =>
  subst e
  obtain⟨a,us,rfl,_,e1,d1⟩:=h1.tuple R.sub
  have:=d1.intsV
  subst this
  exact ⟨a,ns,rfl,.inr (SqT.of e1),hp,λM m1 m2=>k _ H F (.fz _) (Sub.refl _) R (Da.int _) (w M m1 m2)⟩
theorem ok_mxI{K:Fg}:OpOk K (rMxI K) (o1 fMxI):=ok1 λG F σ H ρ x d Q Qd R h1 w k=>by
 match d,h1,w with
 | .list ds,h1,⟨ns,e,hp,w⟩ =>
  subst e
  obtain⟨a,us,rfl,e1,d1⟩:=h1.list R.sub
  have:=d1.intsV
  subst this
  exact ⟨a,ns,rfl,.inl (SqL.of e1),hp,λM m1 m2=>k _ H F (.fz _) (Sub.refl _) R (Da.int _) (w M m1 m2)⟩
 | .tuple ds,h1,⟨ns,e,hp,w⟩ =>
  subst e
  obtain⟨a,us,rfl,_,e1,d1⟩:=h1.tuple R.sub
  have:=d1.intsV
  subst this
  exact ⟨a,ns,rfl,.inr (SqT.of e1),hp,λM m1 m2=>k _ H F (.fz _) (Sub.refl _) R (Da.int _) (w M m1 m2)⟩
open PySem PySem.Spec L2
section
variable {K:Fg}{G:Gh}{F F' H H':Hp}{σ:L2.St}{ρ:Ev}
theorem Rel.grown(R:Rel K G F σ H ρ)(sb:Sub F F')(su:Sub F' H')(fn:∀b o,F' b=some o->F b=some o\/H b=none)(kp:∀b o,(∀z∈TB K,z.1≠b)->H b=some o->H' b=some o)(tb:TabOk K F' H'):Rel K G F' σ H' ρ:=by
 refine ⟨R.len,su,R.sub0.trans sb,λb o e=>?_,λa o e n t=>kp _ _ t (R.keep a o e n t),tb,λi d e=>?_,λi s e w=>?_,R.new,R.io,R.ioi,R.ap⟩
 ·rcases fn b o e with q|q
  ·exact R.fn b o q
  ·exact .inr (R.h0 q)
 ·obtain⟨v,h1,h2⟩:=R.fz i d e
  exact ⟨v,h1,h2.mono sb⟩
 ·obtain⟨a,o,h1,h2,h3,h4⟩:=R.ow i s e w
  refine ⟨a,o,h1,?_,kp _ _ (R.tb.ne λu z=>by rw[h3]at z;cases z;exact h4.stk) h3,h4.mono sb⟩
  cases q:F' a with
  | none=>rfl
  | some u =>
   rcases fn a u q with z|z
   ·rw[h2]at z;cases z
   ·rw[h3]at z;cases z
end
section
variable {X:Cx}{K:Fg}{e:Expr}{es:List Expr}{as:List AD}{x:Str}{p pos:Pos}
end
end L3
namespace SG
open PySem PyProof.Rows
section
variable {prog:Program}{w:World}{A:Around}{E:Value->Shared->Prop}{s:Shared}{κ:SortKind}{rk:Keyed->Nat}{S:Keyed->Prop}
noncomputable def Asks(prog:Program)(w:World)(A:Around)(s:Shared)(κ:SortKind)(rk:Keyed->Nat)(S:Keyed->Prop):Prop :=
 ∀x y:Keyed,S x->S y->∀Q:Bool->Shared->Prop,Q (decide (rk x < rk y)) s->wpAny (model prog w) A (keyLt' κ x.1 y.1) Q (λ_ _=>False) s
theorem w_lt(q:Asks prog w A s κ rk S){x y:Keyed}{st:SortSt}{Q:Option Bool->SortSt->Prop}(hk:kindOf st=κ)(hx:S x)(hy:S y)(h:Q (some (decide (rk x < rk y))) st) :
  wpS (model prog w) A E s (lt' x y) Q st:=by
 rw[lt'_eq]
 refine wpS_bind (wpS_get ?_)
 rw[hk]
 refine wpS_bind (wpS_lift (wpAny_attempt (wpAny_mono (q x y hx hy (λb s'=>b=decide (rk x < rk y)/\s'=s) ⟨rfl,rfl⟩) (λb s' e=>?_) λ_ _ e=>e.elim)))
 obtain⟨rfl,rfl⟩:=e
 exact ⟨rfl,wpS_pure h⟩
theorem w_elem{xs:Array Keyed}{i:Nat}{st:SortSt}{Q:Keyed->SortSt->Prop}(hi:i < xs.size)(h:Q xs[i] st):wpS (model prog w) A E s (elem' xs i) Q st:=by
 rw[elem'_eq,getElem?_pos xs i hi]
 exact wpS_pure h
end
noncomputable def KR(rk:Keyed->Nat)(xs:Array Keyed)(i:Nat):Nat:=match xs[i]? with
 | some p=>rk p
 | none=>0
theorem KR_at{rk:Keyed->Nat}{xs:Array Keyed}{i:Nat}(h:i < xs.size):KR rk xs i=rk xs[i]:=by
 unfold KR;rw[getElem?_pos xs i h]
theorem KR_congr{rk:Keyed->Nat}{xs ys:Array Keyed}{i j:Nat}(h:xs[i]?=ys[j]?):KR rk xs i=KR rk ys j:=by unfold KR;rw[h]
theorem KR_mirror{rk:Keyed->Nat}{xs:Array Keyed}{i j:Nat}(hj:j<=xs.size)(k:Nat) :
  KR rk (mirror xs i j ((j - i) / 2)) k=if i<=k/\k < j then KR rk xs (i+j - 1 - k) else KR rk xs k:=by
 have e:=getElem?_mirror_all (i:=i) hj k
 split
 ·rename_i h1;rw[if_pos h1]at e;exact KR_congr e
 ·rename_i h1;rw[if_neg h1]at e;exact KR_congr e
theorem KR_bubble{rk:Keyed->Nat}{xs:Array Keyed}{c d:Nat}(hs:c < xs.size)(hd:d<=c)(k:Nat) :
  KR rk (bubble xs c d) k=if k=c - d then KR rk xs c else if c - d < k/\k<=c then KR rk xs (k - 1) else KR rk xs k:=by
 have e:=getElem?_bubble hs d hd k
 split
 ·rename_i h1;rw[if_pos h1]at e;exact KR_congr e
 ·rename_i h1
  rw[if_neg h1]at e
  split
  ·rename_i h2;rw[if_pos h2]at e;exact KR_congr e
  ·rename_i h2;rw[if_neg h2]at e;exact KR_congr e
noncomputable def Sg(rk:Keyed->Nat)(xs:Array Keyed)(lo n:Nat):Prop:=∀i j,lo<=i->i<=j->j < lo+n->KR rk xs i<=KR rk xs j
noncomputable def Dg(rk:Keyed->Nat)(xs:Array Keyed)(lo n:Nat):Prop:=∀i j,lo<=i->i<=j->j < lo+n->KR rk xs j<=KR rk xs i
structure Bs(κ:SortKind)(st:SortSt)(lo n:Nat)(st':SortSt):Prop where
 perm:(arrOf st').Perm (arrOf st)
 kind:kindOf st'=κ
 failed:failedOf st'=none
 pend:pendingOf st'=pendingOf st
 keep:∀i,i < lo\/lo+n<=i->(arrOf st')[i]?=(arrOf st)[i]?
theorem Bs.size{κ:SortKind}{st st':SortSt}{lo n:Nat}(h:Bs κ st lo n st'):(arrOf st').size=(arrOf st).size:=h.perm.size_eq
theorem Bs.mir{κ:SortKind}{st st':SortSt}{lo n i j:Nat}(h:Bs κ st lo n st')(hj:j<=(arrOf st).size)(h1:lo<=i)(h2:j<=lo+n):Bs κ st lo n (setArr st' (mirror (arrOf st') i j ((j - i) / 2))) :=
 ⟨(mirror_perm _ _ _ _).trans h.perm,h.kind,h.failed,h.pend,λk hk=>by
   show (mirror (arrOf st') i j ((j - i) / 2))[k]?=_
   rw[getElem?_mirror_all (by rw[h.size];exact hj),if_neg (by omega)]
   exact h.keep k hk⟩
section
variable {prog:Program}{w:World}{A:Around}{E:Value->Shared->Prop}{s:Shared}{κ:SortKind}{rk:Keyed->Nat}{S:Keyed->Prop}{st:SortSt}
noncomputable abbrev AllS(S:Keyed->Prop)(xs:Array Keyed):Prop:=∀p,p∈xs.toList->S p
theorem Bs.inS{st':SortSt}{lo n:Nat}(hS:AllS S (arrOf st))(h:Bs κ st lo n st'){i:Nat}(hi:i < (arrOf st').size):S (arrOf st')[i] :=
 hS _ ((Z4.mp h.perm).mem_iff.mp (by simp))
theorem w_ltAt(q:Asks prog w A s κ rk S){st':SortSt}{lo n i j:Nat}{Q:Option Bool->SortSt->Prop}(hS:AllS S (arrOf st))(hB:Bs κ st lo n st')(hi:i < (arrOf st).size)(hj:j < (arrOf st).size)
  (h:Q (some (decide (KR rk (arrOf st') i < KR rk (arrOf st') j))) st'):wpS (model prog w) A E s (ltAt' i j) Q st':=by
 have hi':i < (arrOf st').size:=by rw[hB.size];exact hi
 have hj':j < (arrOf st').size:=by rw[hB.size];exact hj
 rw[ltAt'_eq]
 refine wpS_bind (wpS_get ?_)
 refine wpS_bind (w_elem hi' (wpS_bind (w_elem hj' ?_)))
 refine w_lt q hB.kind (hB.inS hS _) (hB.inS hS _) ?_
 rw[KR_at hi',KR_at hj']at h
 exact h
noncomputable def ascL(lo a nrem:Nat):StateT SortSt Sem AscSt :=
 forIn [a:nrem] ((none,a):AscSt) λ_ z=>do
  let some sm<-ltAt' (lo+z.2) (lo+z.2 - 1)|pure (.done (some none,z.2))
  if sm=true then pure (.done (none,z.2)) else pure (.yield (none,z.2+1))
noncomputable def t3L(lo n nrem:Nat):StateT SortSt Sem (Option Nat):=do
 reverseSlice' lo (lo+n)
 let z<-ascL lo n nrem
 match z.1 with
 | some r=>pure r
 | none=>pure (some z.2)
noncomputable def descL(lo n nrem:Nat):StateT SortSt Sem DescSt :=
 forIn [n:nrem] ((none,n,0):DescSt) λ_ z=>do
  let some sm<-ltAt' (lo+z.2.1) (lo+z.2.1 - 1)|pure (.done (some none,z.2.1,z.2.2))
  if sm=true then
   if z.2.2 > 0 then do
    reverseSlice' (lo+z.2.1 - (z.2.2+1)) (lo+z.2.1)
    pure (.yield (none,z.2.1+1,0))
   else pure (.yield (none,z.2.1+1,0))
  else do
   let some la<-ltAt' (lo+z.2.1 - 1) (lo+z.2.1)|pure (.done (some none,z.2.1,z.2.2))
   if la=true then pure (.done (none,z.2.1,z.2.2)) else pure (.yield (none,z.2.1+1,z.2.2+1))
noncomputable def dpL(lo n nrem:Nat):StateT SortSt Sem (Option Nat):=do
 liftM (rule "list.sort.descending-run")
 let z<-descL lo (n+1) nrem
 match z.1 with
 | some r=>pure r
 | none =>
  if z.2.2 > 0 then do
   reverseSlice' (lo+z.2.1 - (z.2.2+1)) (lo+z.2.1)
   t3L lo z.2.1 nrem
  else t3L lo z.2.1 nrem
theorem crL_eq(lo nrem:Nat):countRun' lo nrem=(do
    let z<-ascL lo 1 nrem
    match z.1 with
    | some r=>pure r
    | none =>
      if (z.2==nrem)=true then pure (some z.2)
      else if z.2 > 1 then do
        let some ro<-ltAt' lo (lo+z.2 - 1)|pure none
        if ro=true then pure (some z.2) else do
          reverseSlice' lo (lo+z.2)
          dpL lo z.2 nrem
      else dpL lo z.2 nrem):=by
 have te:∀m,(do
     reverseSlice' lo (lo+m)
     let z<-ascL lo m nrem
     match z.1 with
     | some r=>pure r
     | none=>pure (some z.2))=t3L lo m nrem:=λm=>rfl
 rw[countRun'_eq]
 unfold dpL t3L descL ascL
 refine congr (congrArg bind rfl) (funext λz=>?_)
 obtain⟨r,n⟩:=z
 cases r with
 | some r=>rfl
 | none =>
  dsimp only
  have tl:∀z:AscSt,(match z.1 with|some r=>pure r|none=>pure (some z.2):StateT SortSt Sem (Option Nat))=match z.1 with|some r=>pure r|none=>pure (some z.2):=λz=>rfl
  split
  ·rfl
  ·split
   ·congr 1
    funext x
    cases x with
    | none=>rfl
    | some ro =>
     dsimp only
     split
     ·rfl
     ·congr 1
      funext _
      congr 1
      funext _
      congr 1
      funext z
      obtain⟨r,m,q⟩:=z
      cases r with
      | some r=>rfl
      | none =>
       dsimp only
       split
       ·congr 1;funext _;congr 1;funext _;congr 1;funext z;obtain⟨r,k⟩:=z;cases r<;>rfl
       ·congr 1;funext _;congr 1;funext z;obtain⟨r,k⟩:=z;cases r<;>rfl
   ·congr 1
    funext _
    congr 1
    funext z
    obtain⟨r,m,q⟩:=z
    cases r with
    | some r=>rfl
    | none =>
     dsimp only
     split
     ·congr 1;funext _;congr 1;funext _;congr 1;funext z;obtain⟨r,k⟩:=z;cases r<;>rfl
     ·congr 1;funext _;congr 1;funext z;obtain⟨r,k⟩:=z;cases r<;>rfl
theorem w_rev{i j:Nat}{st':SortSt}{Q:Unit->SortSt->Prop}(h:Q () (setArr st' (mirror (arrOf st') i j ((j - i) / 2)))):wpS (model prog w) A E s (reverseSlice' i j) Q st':=by
 rw[reverseSlice'_eq]
 exact wpS_modify h
theorem w_asc(q:Asks prog w A s κ rk S){st':SortSt}{lo N a nrem:Nat}{Q:AscSt->SortSt->Prop}(hS:AllS S (arrOf st))(hn:lo+nrem<=(arrOf st).size)(ha:1<=a)(han:a<=nrem)(hB:Bs κ st lo N st')(hs:Sg rk (arrOf st') lo a)
  (h:∀n,a<=n->n<=nrem->Sg rk (arrOf st') lo n->(n=nrem\/KR rk (arrOf st') (lo+n) < KR rk (arrOf st') (lo+n - 1))->Q (none,n) st'):wpS (model prog w) A E s (ascL lo a nrem) Q st':=by
 unfold ascL
 refine wpS_forRange (I:=λx c z=>z=st'/\c=(none,x)/\Sg rk (arrOf st') lo x) ?step ?fin ⟨rfl,rfl,hs⟩
 case fin =>
  rintro c z ⟨rfl,rfl,h1⟩
  rw[show max a nrem=nrem by omega]at h1 ⊢
  exact h nrem han (A0 _) h1 (.inl rfl)
 case step =>
  rintro x c z hax hxn ⟨rfl,rfl,h1⟩
  dsimp only
  refine wpS_bind (w_ltAt q hS hB (by omega) (by omega) ?_)
  dsimp only
  by_cases hl:KR rk (arrOf z) (lo+x) < KR rk (arrOf z) (lo+x - 1)
  ·rw[if_pos (by simpa using hl)]
   exact wpS_pure (h x hax (by omega) h1 (.inr hl))
  ·rw[if_neg (by simpa using hl)]
   refine wpS_pure ⟨rfl,rfl,λi j hi hij hj=>?_⟩
   by_cases hjx:j < lo+x
   ·exact h1 i j hi hij hjx
   ·have:j=lo+x:=by omega
    subst this
    by_cases hi':i=lo+x
    ·subst hi';exact A0 _
    ·have:=h1 i (lo+x - 1) hi (by omega) (by omega)
     omega
theorem w_t3(q:Asks prog w A s κ rk S){st':SortSt}{lo n nrem:Nat}{Q:Option Nat->SortSt->Prop}(hS:AllS S (arrOf st))(hn:lo+nrem<=(arrOf st).size)(h1:1<=n)(hnn:n<=nrem)(hB:Bs κ st lo nrem st')(hs:Dg rk (arrOf st') lo n)
  (h:∀m z,Bs κ st lo nrem z->1<=m->m<=nrem->Sg rk (arrOf z) lo m->Q (some m) z):wpS (model prog w) A E s (t3L lo n nrem) Q st':=by
 unfold t3L
 refine wpS_bind (w_rev ?_)
 have hz:lo+n<=(arrOf st').size:=by rw[hB.size];omega
 have hB':=hB.mir (i:=lo) (j:=lo+n) (by omega) (A0 _) (by omega)
 refine wpS_bind (w_asc q hS hn h1 hnn hB' (λi j hi hij hj=>?_) λm m1 m2 hm _=>wpS_pure (h m _ hB' (by omega) m2 hm))
 show KR rk (mirror _ _ _ _) i<=KR rk (mirror _ _ _ _) j
 rw[KR_mirror hz,KR_mirror hz,if_pos (by omega),if_pos (by omega)]
 exact hs _ _ (by omega) (by omega) (by omega)
theorem KR_alike{xs:Array Keyed}{i j:Nat}(hj:j<=xs.size)(he:∀k,i<=k->k < j->KR rk xs k=KR rk xs (j - 1))(k:Nat):KR rk (mirror xs i j ((j - i) / 2)) k=KR rk xs k:=by
 rw[KR_mirror hj]
 split
 ·rw[he _ (by omega) (by omega),he k (by omega) (by omega)]
 ·rfl
theorem w_desc(q:Asks prog w A s κ rk S){st':SortSt}{lo n nrem:Nat}{Q:DescSt->SortSt->Prop}(hS:AllS S (arrOf st))(hn:lo+nrem<=(arrOf st).size)(h1:1<=n)(hnn:n<=nrem)(hB:Bs κ st lo nrem st')(hs:Dg rk (arrOf st') lo n)
  (h:∀m e z,Bs κ st lo nrem z->n<=m->m<=nrem->Dg rk (arrOf z) lo m->e+1<=m->(∀i,lo+m - (e+1)<=i->i < lo+m->KR rk (arrOf z) i=KR rk (arrOf z) (lo+m - 1))->Q (none,m,e) z) :
  wpS (model prog w) A E s (descL lo n nrem) Q st':=by
 unfold descL
 refine wpS_forRange (I:=λx c z=>∃e,c=(none,x,e)/\Bs κ st lo nrem z/\Dg rk (arrOf z) lo x/\e+1<=x/\∀i,lo+x - (e+1)<=i->i < lo+x->KR rk (arrOf z) i=KR rk (arrOf z) (lo+x - 1)) ?step ?fin
  ⟨0,rfl,hB,hs,by omega,λi i1 i2=>by congr 1;omega⟩
 case fin =>
  rintro c z ⟨e,rfl,b,d,e1,e2⟩
  rw[show max n nrem=nrem by omega]at d e1 e2 ⊢
  exact h nrem e z b hnn (A0 _) d e1 e2
 case step =>
  rintro x c z hax hxn ⟨e,rfl,b,d,e1,e2⟩
  dsimp only
  have hz:lo+x<=(arrOf z).size:=by rw[b.size];omega
  refine wpS_bind (w_ltAt q hS b (by omega) (by omega) ?_)
  dsimp only
  by_cases hl:KR rk (arrOf z) (lo+x) < KR rk (arrOf z) (lo+x - 1)
  ·rw[if_pos (by simpa using hl)]
   have st1:∀xs:Array Keyed,(∀k,KR rk xs k=KR rk (arrOf z) k)->Dg rk xs lo (x+1):=λxs hk i j hi hij hj=>by
    rw[hk,hk]
    by_cases hjx:j < lo+x
    ·exact d i j hi hij hjx
    ·have:j=lo+x:=by omega
     subst this
     by_cases hi':i=lo+x
     ·subst hi';exact A0 _
     ·have:=d i (lo+x - 1) hi (by omega) (by omega)
      omega
   by_cases he:e > 0
   ·rw[if_pos he]
    exact wpS_bind (w_rev (wpS_pure ⟨0,rfl,b.mir (by omega) (by omega) (by omega),st1 _ (KR_alike hz e2),by omega,λi i1 i2=>by congr 1;omega⟩))
   ·rw[if_neg he]
    exact wpS_pure ⟨0,rfl,b,st1 _ (λ_=>rfl),by omega,λi i1 i2=>by congr 1;omega⟩
  ·rw[if_neg (by simpa using hl)]
   refine wpS_bind (w_ltAt q hS b (by omega) (by omega) ?_)
   dsimp only
   by_cases hg:KR rk (arrOf z) (lo+x - 1) < KR rk (arrOf z) (lo+x)
   ·rw[if_pos (by simpa using hg)]
    exact wpS_pure (h x e z b hax (by omega) d e1 e2)
   ·rw[if_neg (by simpa using hg)]
    refine wpS_pure ⟨e+1,rfl,b,λi j hi hij hj=>?_,by omega,λi i1 i2=>?_⟩
    ·by_cases hjx:j < lo+x
     ·exact d i j hi hij hjx
     ·have:j=lo+x:=by omega
      subst this
      by_cases hi':i=lo+x
      ·subst hi';exact A0 _
      ·have:=d i (lo+x - 1) hi (by omega) (by omega)
       omega
    ·rw[show lo+(x+1) - 1=lo+x by omega]
     by_cases hix:i=lo+x
     ·subst hix;rfl
     ·have:=e2 i (by omega) (by omega)
      omega
theorem w_dp(q:Asks prog w A s κ rk S){st':SortSt}{lo n nrem:Nat}{Q:Option Nat->SortSt->Prop}(hS:AllS S (arrOf st))(hn:lo+nrem<=(arrOf st).size)(hnn:n+1<=nrem)(hB:Bs κ st lo nrem st')(hs:Dg rk (arrOf st') lo (n+1))
  (h:∀m z,Bs κ st lo nrem z->1<=m->m<=nrem->Sg rk (arrOf z) lo m->Q (some m) z):wpS (model prog w) A E s (dpL lo n nrem) Q st':=by
 unfold dpL
 refine wpS_bind (wpS_lift (wpAny_rule ⟨rfl,?_⟩))
 refine wpS_bind (w_desc q hS hn (by omega) hnn hB hs λm e z b m1 m2 d e1 e2=>?_)
 dsimp only
 have hz:lo+m<=(arrOf z).size:=by rw[b.size];omega
 by_cases he:e > 0
 ·rw[if_pos he]
  refine wpS_bind (w_rev (w_t3 q hS hn (by omega) m2 (b.mir (by omega) (by omega) (by omega)) (λi j hi hij hj=>?_) h))
  show KR rk (mirror _ _ _ _) j<=KR rk (mirror _ _ _ _) i
  rw[KR_alike hz e2,KR_alike hz e2]
  exact d i j hi hij hj
 ·rw[if_neg he]
  exact w_t3 q hS hn (by omega) m2 b d h
theorem w_cr(q:Asks prog w A s κ rk S){lo nrem:Nat}{Q:Option Nat->SortSt->Prop}(hS:AllS S (arrOf st))(hn:lo+nrem<=(arrOf st).size)(h1:1<=nrem)(hB:Bs κ st lo nrem st)
  (h:∀m z,Bs κ st lo nrem z->1<=m->m<=nrem->Sg rk (arrOf z) lo m->Q (some m) z):wpS (model prog w) A E s (countRun' lo nrem) Q st:=by
 rw[crL_eq]
 refine wpS_bind (w_asc q hS hn (A0 1) h1 hB (λi j hi hij hj=>by have:i=j:=(by omega);subst this;exact A0 _) λn n1 n2 sn hor=>?_)
 dsimp only
 by_cases hnn:n=nrem
 ·rw[if_pos (by simpa using hnn)]
  exact wpS_pure (h n st hB n1 n2 sn)
 ·rw[if_neg (by simpa using hnn)]
  have hlt:=hor.resolve_left hnn
  by_cases hgt:n > 1
  ·rw[if_pos hgt]
   refine wpS_bind (w_ltAt q hS hB (by omega) (by omega) ?_)
   dsimp only
   by_cases hr:KR rk (arrOf st) lo < KR rk (arrOf st) (lo+n - 1)
   ·rw[if_pos (by simpa using hr)]
    exact wpS_pure (h n st hB n1 n2 sn)
   ·rw[if_neg (by simpa using hr)]
    have hz:lo+n<=(arrOf st).size:=by omega
    have all:∀k,lo<=k->k < lo+n->KR rk (arrOf st) k=KR rk (arrOf st) (lo+n - 1):=λk k1 k2=>by
     have a1:=sn lo k (by omega) k1 k2
     have a2:=sn k (lo+n - 1) k1 (by omega) (by omega)
     omega
    refine wpS_bind (w_rev (w_dp q hS hn (by omega) (hB.mir (by omega) (by omega) (by omega)) (λi j hi hij hj=>?_) h))
    show KR rk (mirror _ _ _ _) j<=KR rk (mirror _ _ _ _) i
    rw[KR_alike hz all,KR_alike hz all]
    by_cases hjn:j < lo+n
    ·have:=all i hi (by omega)
     have:=all j (by omega) hjn
     omega
    ·have:j=lo+n:=by omega
     subst this
     by_cases hi':i=lo+n
     ·subst hi';exact A0 _
     ·have:=all i hi (by omega)
      omega
  ·rw[if_neg hgt]
   have:n=1:=by omega
   subst this
   refine w_dp q hS hn (by omega) hB (λi j hi hij hj=>?_) h
   by_cases hi':i=j
   ·subst hi';exact A0 _
   ·have e1:i=lo:=by omega
    have e2:j=lo+1:=by omega
    subst e1;subst e2
    exact U5 hlt
theorem w_bins(q:Asks prog w A s κ rk S){st':SortSt}{lo N n ok:Nat}{Q:Bool->SortSt->Prop}(hS:AllS S (arrOf st))(hn:lo+n<=(arrOf st).size)(hnN:n<=N)(hok:ok<=n)(hB:Bs κ st lo N st')(hs:Sg rk (arrOf st') lo ok)
  (h:∀z,Bs κ st lo N z->Sg rk (arrOf z) lo n->Q true z):wpS (model prog w) A E s (binarySort' lo n ok) Q st':=by
 rw[binarySort'_eq]
 refine wpS_bind (wpS_mono (wpS_forRange (I:=λk c z=>c=(none,())/\Bs κ st lo N z/\Sg rk (arrOf z) lo (min k n)) (Q:=λc z=>c=(none,())/\Bs κ st lo N z/\Sg rk (arrOf z) lo n) ?step ?fin ?init) ?post)
 case post =>
  rintro c z ⟨rfl,b,hs'⟩
  exact wpS_pure (h z b hs')
 case init =>
  refine ⟨rfl,hB,λi j hi hij hj=>?_⟩
  by_cases h1:ok=0
  ·have:i=j:=by omega
   subst this;exact A0 _
  ·exact hs i j hi hij (by omega)
 case fin =>
  rintro c z ⟨hc,b,hs'⟩
  refine ⟨hc,b,?_⟩
  rwa [show min (max (max ok 1) n) n=n by omega]at hs'
 case step =>
  rintro k c z hak hkn ⟨rfl,b,hs'⟩
  rw[show min k n=k by omega]at hs'
  refine wpS_bind (wpS_mono (wpS_forRange (I:=λx c z'=>z'=z/\∃l r,c=(none,l,r)/\l<=r/\r<=k/\r - l<=k - x/\(∀i,i < l->KR rk (arrOf z) (lo+i)<=KR rk (arrOf z) (lo+k))/\(∀i,r<=i->i < k->KR rk (arrOf z) (lo+k) < KR rk (arrOf z) (lo+i)))
    (Q:=λc z'=>z'=z/\∃l r,c=(none,l,r)/\l<=k/\(∀i,i < l->KR rk (arrOf z) (lo+i)<=KR rk (arrOf z) (lo+k))/\(∀i,l<=i->i < k->KR rk (arrOf z) (lo+k) < KR rk (arrOf z) (lo+i))) ?istep ?ifin ?iinit) ?ipost)
  case iinit=>exact ⟨rfl,0,k,rfl,by omega,by omega,by omega,λi hi=>by omega,λi h1 h2=>by omega⟩
  case ifin =>
   rintro c z' ⟨rfl,l,r,rfl,hlr,hrk,hm,hlo,hhi⟩
   have:l=r:=by omega
   subst this
   exact ⟨rfl,l,l,rfl,hrk,hlo,hhi⟩
  case istep =>
   rintro x c z' _ hxk ⟨rfl,l,r,rfl,hlr,hrk,hm,hlo,hhi⟩
   dsimp only
   by_cases hge:l ≥ r
   ·rw[if_pos hge]
    have:l=r:=by omega
    subst this
    exact wpS_pure ⟨rfl,l,l,rfl,hrk,hlo,hhi⟩
   ·rw[if_neg hge]
    refine wpS_bind (w_ltAt q hS b (by omega) (by omega) ?_)
    dsimp only
    by_cases hl:KR rk (arrOf z') (lo+k) < KR rk (arrOf z') (lo+(l+r) / 2)
    ·rw[if_pos (by simpa using hl)]
     refine wpS_pure ⟨rfl,l,(l+r) / 2,rfl,by omega,by omega,by omega,hlo,λi h1 h2=>?_⟩
     have:=hs' (lo+(l+r) / 2) (lo+i) (by omega) (by omega) (by omega)
     omega
    ·rw[if_neg (by simpa using hl)]
     refine wpS_pure ⟨rfl,(l+r) / 2+1,r,rfl,by omega,by omega,by omega,λi h1=>?_,hhi⟩
     have:=hs' (lo+i) (lo+(l+r) / 2) (by omega) (by omega) (by omega)
     omega
  case ipost =>
   rintro c z' ⟨rfl,l,r,rfl,hlk,hlo,hhi⟩
   show wpS _ _ _ _ (do moveDown' (lo+k) (lo+l);pure (ForInStep.yield (none,()))) _ _
   rw[moveDown'_eq]
   have hks:lo+k < (arrOf z').size:=by rw[b.size];omega
   refine wpS_bind (wpS_modify (wpS_pure ⟨rfl,⟨(bubble_perm _ _ _).trans b.perm,b.kind,b.failed,b.pend,λi hi=>?_⟩,?_⟩))
   ·show (bubble (arrOf z') _ _)[i]?=_
    rw[getElem?_bubble hks _ (by omega),if_neg (by omega),if_neg (by omega)]
    exact b.keep i hi
   ·rw[show min (k+1) n=k+1 by omega]
    intro i j hi hij hj
    show KR rk (bubble (arrOf z') (lo+k) (lo+k - (lo+l))) i<=KR rk (bubble (arrOf z') (lo+k) (lo+k - (lo+l))) j
    rw[KR_bubble hks (by omega),KR_bubble hks (by omega),show lo+k - (lo+k - (lo+l))=lo+l by omega]
    have hlo':∀i,lo<=i->i < lo+l->KR rk (arrOf z') i<=KR rk (arrOf z') (lo+k):=λi h1 h2=>by
     have:=hlo (i - lo) (by omega)
     rwa [show lo+(i - lo)=i by omega]at this
    have hhi':∀i,lo+l<=i->i < lo+k->KR rk (arrOf z') (lo+k) < KR rk (arrOf z') i:=λi h1 h2=>by
     have:=hhi (i - lo) (by omega) (by omega)
     rwa [show lo+(i - lo)=i by omega]at this
    repeat' split
    all_goals first
     | (exfalso;omega)
     | exact A0 _
     | exact hlo' _ (by omega) (by omega)
     | exact U5 (hhi' _ (by omega) (by omega))
     | exact hs' _ _ (by omega) (by omega) (by omega)
end
noncomputable def Ch(rk:Keyed->Nat)(xs:Array Keyed):List (Nat×Nat×Nat)->Nat->Nat->Prop
 | [],b,e=>b=e
 | p :: l,b,e=>p.1=b/\1<=p.2.1/\Sg rk xs b p.2.1/\Ch rk xs l (b+p.2.1) e
theorem Ch.len{rk:Keyed->Nat}{xs:Array Keyed}:∀{l:List (Nat×Nat×Nat)}{b e:Nat},Ch rk xs l b e->b+l.length<=e
 | [],b,e,h=>by cases h;simp
 | p :: l,b,e,h=>by
  have:=h.2.2.2.len
  have:=h.2.1
  rw[B2]
  omega
theorem Ch.append{rk:Keyed->Nat}{xs:Array Keyed}:∀{l l':List (Nat×Nat×Nat)}{b e:Nat},Ch rk xs (l++l') b e ↔ ∃m,Ch rk xs l b m/\Ch rk xs l' m e
 | [],l',b,e=>⟨λh=>⟨b,rfl,h⟩,λ⟨m,h1,h2⟩=>by cases h1;exact h2⟩
 | p :: l,l',b,e=>⟨λ⟨h1,h2,h3,h4⟩=>by
     obtain⟨m,h5,h6⟩:=Ch.append.mp h4
     exact ⟨m,⟨h1,h2,h3,h5⟩,h6⟩,λ⟨m,⟨h1,h2,h3,h5⟩,h6⟩=>⟨h1,h2,h3,Ch.append.mpr ⟨m,h5,h6⟩⟩⟩
theorem Ch.congr{rk:Keyed->Nat}{xs ys:Array Keyed}:∀{l:List (Nat×Nat×Nat)}{b e:Nat},(∀i,b<=i->i < e->ys[i]?=xs[i]?)->Ch rk xs l b e->Ch rk ys l b e
 | [],_,_,_,h=>h
 | p :: l,b,e,k,⟨h1,h2,h3,h4⟩=>by
  have:=h4.len
  refine ⟨h1,h2,λi j hi hij hj=>?_,h4.congr λi hi he=>k i (by omega) he⟩
  rw[KR_congr (k i hi (by omega)),KR_congr (k j (by omega) (by omega))]
  exact h3 i j hi hij hj
structure In(κ:SortKind)(rk:Keyed->Nat)(st:SortSt)(lo:Nat)(st':SortSt):Prop where
 perm:(arrOf st').Perm (arrOf st)
 kind:kindOf st'=κ
 failed:failedOf st'=none
 ch:Ch rk (arrOf st') (pendingOf st').toList 0 lo
theorem In.size{κ:SortKind}{rk:Keyed->Nat}{st st':SortSt}{lo:Nat}(h:In κ rk st lo st'):(arrOf st').size=(arrOf st).size:=h.perm.size_eq
section
variable {prog:Program}{w:World}{A:Around}{E:Value->Shared->Prop}{s:Shared}{κ:SortKind}{rk:Keyed->Nat}{S:Keyed->Prop}{st:SortSt}
theorem AllS.perm{xs ys:Array Keyed}(h:AllS S xs)(p:ys.Perm xs):AllS S ys:=λq hq=>h q ((Z4.mp p).mem_iff.mp hq)
theorem In.push{lo n:Nat}{z:SortSt}(h:In κ rk st lo z)(hn:1<=n)(hs:Sg rk (arrOf z) lo n):In κ rk st (lo+n) (setPending z ((pendingOf z).push (lo,n,0))) :=
 ⟨h.perm,h.kind,h.failed,by
   show Ch rk (arrOf z) ((pendingOf z).push (lo,n,0)).toList 0 (lo+n)
   rw[m9]
   exact Ch.append.mpr ⟨lo,h.ch,rfl,hn,hs,rfl⟩⟩
theorem In.run{lo n:Nat}{z z':SortSt}(h:In κ rk st lo z)(b:Bs κ z lo n z'):In κ rk st lo z' :=
 ⟨b.perm.trans h.perm,b.kind,b.failed,by
   rw[b.pend]
   exact h.ch.congr λi _ hi=>b.keep i (.inl hi)⟩
end
end SG
namespace L2
open PySem PySem.Spec PyProof.Rows PySem.W
section
variable {prog:Program}{w:World}{A:Around}{E:Value->Shared->Prop}{s:Shared}{κ:SortKind}{vs:List Value}{rk:Value->Nat}
theorem pairs_mem{p:Keyed}(h:p∈(pairsOf vs).toList):p.1=p.2/\p.2∈vs:=by
 have h:p∈(vs.toArray.zip vs.toArray).toList:=h
 rw[Array.toList_zip]at h
 obtain⟨i,hi,e⟩:=A7 h
 rw[List.getElem_zip]at e
 subst e
 exact ⟨rfl,V2 _⟩
end
end L2
namespace SG
structure Wk{α:Type}(lt:α->α->Bool):Prop where
 irr:∀a,lt a a=false
 tr:∀a b c,lt a b=true->lt b c=true->lt a c=true
 nt:∀a b c,lt a b=false->lt b c=false->lt a c=false
theorem cnt_le{α:Type}{p q:α->Bool}:∀{l:List α},(∀a∈l,p a=true->q a=true)->l.countP p<=l.countP q
 | [],_=>A0 _
 | a :: l,h=>by
  have ih:=cnt_le (l:=l) λx hx=>h x (L0 _ hx)
  rw[V6,V6]
  have:=h a P0
  cases hp:p a
  ·simp;omega
  ·rw[this hp];simp;omega
theorem cnt_lt{α:Type}{p q:α->Bool}:∀{l:List α},(∀a∈l,p a=true->q a=true)->(∃a∈l,p a=false/\q a=true)->l.countP p < l.countP q
 | [],_,⟨_,h,_⟩=>by simp at h
 | a :: l,h,⟨x,hx,h1,h2⟩=>by
  rw[V6,V6]
  rcases X0.mp hx with rfl|hx
  ·have:=cnt_le (l:=l) λx hx=>h x (L0 _ hx)
   rw[h1,h2]
   simp
   omega
  ·have ih:=cnt_lt (l:=l) (λx hx=>h x (L0 _ hx)) ⟨x,hx,h1,h2⟩
   have:=h a P0
   cases hp:p a
   ·simp;omega
   ·rw[this hp];simp;omega
theorem rank{α:Type}{lt:α->α->Bool}(W:Wk lt){l:List α}{x y:α}(hx:x∈l)(hy:y∈l):decide (l.countP (λa=>lt a x) < l.countP (λa=>lt a y))=lt x y:=by
 cases h:lt x y
 ·rw[decide_eq_false_iff_not,S8]
  refine cnt_le λa _ ha=>?_
  cases h2:lt a x
  ·rw[W.nt a x y h2 h]at ha;cases ha
  ·rfl
 ·rw[decide_eq_true_eq]
  exact cnt_lt (λa _ ha=>W.tr a x y ha h) ⟨x,hx,W.irr x,h⟩
theorem lex_wk:Wk HT.lexLt:=by
 refine ⟨λa=>?_,λa=>?_,λa=>?_⟩
 ·induction a with
  | nil=>rfl
  | cons x a ih=>rw[HT.lexLt_cons,if_pos rfl];exact ih
 ·induction a with
  | nil =>
   intro b c h1 h2
   cases c with
   | nil=>cases b<;>cases h2
   | cons z c=>rfl
  | cons x a ih =>
   intro b c h1 h2
   cases b with
   | nil=>cases h1
   | cons y b =>
    cases c with
    | nil=>cases h2
    | cons z c =>
     rw[HT.lexLt_cons]at h1 h2 ⊢
     by_cases e1:x=y
     ·subst e1
      rw[if_pos rfl]at h1
      by_cases e2:x=z
      ·subst e2
       rw[if_pos rfl]at h2 ⊢
       exact ih b c h1 h2
      ·rw[if_neg e2]at h2 ⊢;exact h2
     ·rw[if_neg e1]at h1
      have h1:=of_decide_eq_true h1
      by_cases e2:y=z
      ·subst e2
       rw[if_neg e1]
       exact decide_eq_true h1
      ·rw[if_neg e2]at h2
       have h2:=of_decide_eq_true h2
       rw[if_neg (by omega)]
       exact decide_eq_true (by omega)
 ·induction a with
  | nil =>
   intro b c h1 h2
   cases b with
   | nil=>exact h2
   | cons y b=>cases h1
  | cons x a ih =>
   intro b c h1 h2
   cases c with
   | nil=>rfl
   | cons z c =>
    cases b with
    | nil=>cases h2
    | cons y b =>
     rw[HT.lexLt_cons]at h1 h2 ⊢
     by_cases e1:x=y
     ·subst e1
      rw[if_pos rfl]at h1
      by_cases e2:x=z
      ·subst e2
       rw[if_pos rfl]at h2 ⊢
       exact ih b c h1 h2
      ·rw[if_neg e2]at h2 ⊢;exact h2
     ·rw[if_neg e1]at h1
      have h1:=of_decide_eq_false h1
      by_cases e2:y=z
      ·subst e2
       rw[if_neg e1]
       exact decide_eq_false h1
      ·rw[if_neg e2]at h2
       have h2:=of_decide_eq_false h2
       rw[if_neg (by omega)]
       exact decide_eq_false (by omega)
theorem lex_eq:∀{a b:List Int},HT.lexLt a b=false->HT.lexLt b a=false->a=b
 | [],[],_,_=>rfl
 | [],_ :: _,h,_=>by cases h
 | _ :: _,[],_,h=>by cases h
 | x :: a,y :: b,h1,h2=>by
  rw[HT.lexLt_cons]at h1 h2
  by_cases e:x=y
  ·subst e
   rw[if_pos rfl]at h1 h2
   rw[lex_eq h1 h2]
  ·rw[if_neg e]at h1
   rw[if_neg (λz=>e z.symm)]at h2
   have h1:=of_decide_eq_false h1
   have h2:=of_decide_eq_false h2
   omega
theorem sorted_uniq{α:Type}{lt:α->α->Bool}(an:∀a b,lt a b=false->lt b a=false->a=b):∀{l m:List α},l.Perm m->l.Pairwise (λa b=>lt b a=false)->m.Pairwise (λa b=>lt b a=false)->l=m
 | [],m,p,_,_=>by rw[List.nil_perm.mp p]
 | x :: l,[],p,_,_=>by simp at p
 | x :: l,y :: m,p,h1,h2=>by
  have e:x=y:=by
   have hx:x∈y :: m:=p.mem_iff.mp P0
   have hy:y∈x :: l:=p.mem_iff.mpr P0
   rcases X0.mp hx with e|hx
   ·exact e
   ·rcases X0.mp hy with e|hy
    ·exact e.symm
    ·exact an x y ((m6.mp h2).1 x hx) ((m6.mp h1).1 y hy)
  subst e
  rw[sorted_uniq an (List.perm_cons x |>.mp p) (m6.mp h1).2 (m6.mp h2).2]
end SG
namespace L2
open PySem PySem.Spec PyProof.Rows PySem.W
section
variable {X:Cx}{α:Type}[Inhabited α]
theorem vals_perm{us:List V}{its:List Value}:∀{out:List Value},out.Perm its->Vals us its->∃us':List V,us'.Perm us/\Vals us' out:=by
 intro out p
 induction p generalizing us with
 | nil=>intro h;exact ⟨us,List.Perm.refl _,h⟩
 | cons x _ ih =>
  intro h
  cases h with
  | cons h t =>
   obtain⟨us',p,r⟩:=ih t
   exact ⟨_,p.cons _,.cons h r⟩
 | swap x y l =>
  intro h
  cases h with
  | cons h1 t=>cases t with|cons h2 t=>exact ⟨_,List.Perm.swap _ _ _,.cons h2 (.cons h1 t)⟩
 | trans _ _ ih1 ih2 =>
  intro h
  obtain⟨u2,p2,r2⟩:=ih2 h
  obtain⟨u1,p1,r1⟩:=ih1 r2
  exact ⟨u1,p1.trans p2,r1⟩
end
theorem int_wk:SG.Wk (λx y:Int=>decide (x < y)):=by
 refine ⟨λa=>decide_eq_false (Int.lt_irrefl a),λa b c h k=>?_,λa b c h k=>?_⟩
 ·exact decide_eq_true (Int.lt_trans (of_decide_eq_true h) (of_decide_eq_true k))
 ·have h:=of_decide_eq_false h
  have k:=of_decide_eq_false k
  exact decide_eq_false (by omega)
section
variable {prog:Program}{w:World}{A:Around}{E:Value->Shared->Prop}{s:Shared}{vs:List Value}{kz:List Int}{keys:Array Value}{a kS:Addr}{e e1:Nat}{P:PySem.Fin->Shared->Prop}
theorem key_tail{st:SortSt}(nk:s.heap.get? kS=some (seqObj "list" keys e))(na:s.heap.get? a=some (seqObj "list" #[] e1))(hka:kS≠a)(hk:IntsAre keys.toList kz)(hlen:kz.length=vs.length)(hz:vs.length<=sizeLine)
  (hp:(arrOf st).Perm (keys.zip vs.toArray)) (hs:SortedTo (arrOf st) (arrOf st).size) (hfl:failedOf st=none)
  (h:∀h' out c,(∀b o,b≠a->b≠kS->s.heap.get? b=some o->h'.get? b=some o)->h'.get? a=some (seqObj "list" out c)->KskOut false kz vs out.toList->P (.done (.ret .none)) { s with heap:=h' }) :
  wpAny (model prog w) A (ksk_tail a false e1 (.ref kS) st) P E s:=by
 have hsz:keys.size=vs.length:=by
  have h1:=hk.length
  rw[S1]at h1
  omega
 have hsz2:(arrOf st).size=vs.length:=by rw[hp.size_eq,J8,hsz,N0,Nat.min_self]
 have na1:(s.heap.update kS (U1 λ_=>(#[]:Array Value))).get? a=some (seqObj "list" #[] e1):=(B3 _ _ _ _ hka.symm).trans na
 obtain⟨c2,hc2⟩:∃c2,((s.heap.update kS (U1 λ_=>(#[]:Array Value))).update a (U1 λ_=>(arrOf st).map (·.2))).get? a=some (seqObj "list" ((arrOf st).map (·.2)) c2):=by
  have hc:=get?_update_seq (n:=e1) na1 (λ_=>(arrOf st).map (·.2))
  exact ⟨_,hc⟩
 unfold ksk_tail
 try dsimp only
 refine wpAny_bind (listUpdate_at nk rfl ?_ (by rw[hsz];exact hz) (m3 _))
 refine wpAny_bind (wpAny_letGo ?_)
 refine wpAny_bind (seqEpoch_at na1 rfl ?_)
 refine wpAny_bind (listUpdate_at na1 rfl ?_ (m3 _) (show ((arrOf st).map (·.2)).size<=sizeLine+1 from by rw[Array.size_map,hsz2];exact Q0 hz (T2 _ _)))
 rw[hfl]
 simp only[bne_self_eq_false,W2,if_false]
 refine wpAny_pure (h _ _ c2 (λb o h1 h2 e=>?_) hc2 (ksk_out (b:=false) hk hp hs))
 rw[B3 _ _ _ _ h1,B3 _ _ _ _ h2]
 exact e
end
open PySem PySem.Spec PyProof.Rows
noncomputable abbrev lamO(f c:Addr)(qual:Str)(ar:Arguments)(body:Expr)(sc:Scope):HO:=.ext λh=>∃pm ctv,h.get? f=some (O5 "<lambda>" qual ar body sc [] pm c ctv)
theorem lamO_ok{P:Program}{w:World}{H:Hp}{h:Heap}{f c:Addr}{qual:Str}{ar:Arguments}{body:Expr}{sc:Scope}{pm ctv:Value}(e:h.get? f=some (O5 "<lambda>" qual ar body sc [] pm c ctv)) :
  ObjOk P w H h f (lamO f c qual ar body sc):=⟨⟨pm,ctv,e⟩,⟨_,e⟩,λh1 h2 ⟨pm,ctv,e1⟩ k=>⟨pm,ctv,k _ e1⟩⟩
theorem lam_run{P:Program}{w:World}{K:n0}{mg:Str->Option Value}{base:Heap}{k:Nat}{f c:Addr}{qual:Str}{ar:Arguments}{body:Expr}{scope:Scope}{N ps:List Str}{A:Around}{outer:List Env}{s:Shared}{H:Hp}
  {us:List Value}{vs:List V}{Q:VK}{oc:Obj}{u:HO} (S:FnScope N ps scope) (hr:Room (k+1) A) (e0:Env0 P w K mg base A outer s H) (hf:H f=some (lamO f c qual ar body scope)) (hc:H c=some (.frz oc u))
  (hq:∃vs t,oc.data=.fields vs/\vs[1]?=some (.str qual t))
  (hb:∀(pm ctv:Value) (us:List Value),us.length=ps.length->bindArgs (PySem.W.kla_fn "<lambda>" qual ar body scope [] pm (.ref c) ctv) ⟨us,[]⟩=pure (ps.zip us))
  (hl:vs.length=ps.length) (r:Vals vs us)
  (hbody:Room k (A.deeper (envOfC qual scope s.heap.objs.size f (.ref c)))->∃t:TE,PE (cxOf CX0 P w K mg base N qual scope f (.ref c) A outer s H E0).nox body t/\t (start N vs) H Q) :
  codeAny (model P w) A (.call (.ref f) ⟨us,[]⟩) (CR CX0 outer P w H s Q E0) s:=by
 obtain⟨⟨pm,ctv,ho⟩,_⟩:=(show ObjOk P w H s.heap f (lamO f c qual ar body scope) from e0.hok f _ hf)
 obtain⟨hoc,_⟩:=(show ObjOk P w H s.heap c (.frz oc u) from e0.hok c _ hc)
 obtain⟨vs',t',hd,hv⟩:=hq
 have lim:s.heap.NoLimit:=e0.mod.nolimit.keeps λb o e=>(e0.bs b o e).1
 have hkind:∀y∈ps.zip us,scope.names.lookup y.1=some .local\/(scope.names.lookup y.1=some .cell/\((cellsFrom (s.heap.objs.size+1) scope.names []).lookup y.1).isSome=true):=λ⟨n,v⟩ hy=>by
  rcases S.par n (L5 hy).1 with q|q
  ·exact .inl q
  ·exact .inr ⟨q,K6 _ _ _ (.inl q)⟩
 refine PySem.W.kla_callFunE hr.depth ho rfl S.co S.gen rfl ⟨c,oc,vs',t',rfl,hoc,hd,hv⟩ ?_
 rw[hb pm ctv us (by rw[<- r.length];exact hl)]
 refine wpAny_pure (wpAny_newFunctionEnv_cells S.kind hkind λenv he s1 x=>?_)
 subst he
 refine ⟨lim.keeps x.toInCall.keep,PySem.W.kla_codeExpr ?_⟩
 obtain⟨t,ht,hq⟩:=hbody (hr.deeper _)
 have I:Inv (cxOf CX0 P w K mg base N qual scope f (.ref c) A outer s H E0) [] (start N vs) H s1:=inv_start S hr.hd e0 hl r x
 exact wpAny_mono (ht.nox [] s1 (start N vs) H _ I hq) (λu s' ⟨v,H',J,rv,q⟩=>⟨v,H',J.os,J.bare,J.base,J.hok,rv,q⟩) λe s' hs=>hs
end L2
namespace L3
open PySem PySem.Spec PyProof.Rows L2
theorem among_snoc{pos pos':Pos}{c v:Value}:∀(l:List Value),TriplesOk l->codeAmong pos' (l++[rawInt pos.line,rawInt pos.col,c])=some v->codeAmong pos' l=some v\/v=c:=by
 intro l h e
 fun_induction TriplesOk l with
 | case1 =>
  simp only[j7,codeAmong,rawInt]at e
  split at e
  ·exact .inr (N1 e).symm
  ·cases e
 | case2 a t b u x rest ih =>
  simp only[List.cons_append,codeAmong]at e ⊢
  split at e
  ·rename_i hc;rw[if_pos hc];exact .inl e
  ·rename_i hc;rw[if_neg hc];exact ih h e
 | case3 l h1 h2=>exact h.elim
noncomputable def tLam(P:Addr)(x:Str)(ar:Arguments)(body:Expr)(sc:Scope)(pos:Pos):TE:=λ_ H Q=>∃ps,H P=some (.tbl ps)/\TriplesOk ps.toList /\
 (∀pos v,codeAmong pos ps.toList=some v->∃c o,v=.ref c/\H c=some (codO c o)/\CodQ x o) /\
 ∀(H':Hp) (ps':Array Value) (f c:Addr) (o:Obj),(∀b u,b≠P->H b=some u->H' b=some u)->H f=none->H' P=some (.tbl ps')->TriplesOk ps'.toList ->
  (∀pos v,codeAmong pos ps'.toList=some v->∃c o,v=.ref c/\H' c=some (codO c o)/\CodQ x o)->H' c=some (codO c o)->CodQ x o->H' f=some (lamO f c (x ++ ".<locals>.<lambda>") ar body sc)->Q (.ref f) H'
theorem pe_lam{X:Cx}{c0 P:Addr}{x:Str}{ar:Arguments}{body:Expr}{sc:Scope}{pos:Pos}(hcode:X.env.code=.ref c0)(hqual:X.env.qual ++ "<lambda>"=x ++ ".<locals>.<lambda>")(hC:P4 X.K c0 P=true)
  (hcl:closureFor sc X.env=pure []) (hdef:defaultsOf ar X.env=([],[])):PE X (.Lambda ar body sc pos) (tLam P x ar body sc pos):=by
 intro pins s σ H Q I ⟨ps,eP,tP,cP,h⟩
 have hP:s.heap.get? P=some (u6 ps):=(show ObjOk X.prog X.w H s.heap P (.tbl ps) from I.hok P _ eP)
 have C:=O8 I.kIn hC
 have hg:=I.ok.mod.glob.keeps I.bk
 obtain⟨bm,ob,b1,b2,b3,b4,b5,b6⟩:=I.ok.mod.bm
 have b3':=I.bk _ _ b3
 have hgP:mainGlobals≠P:=λq=>by
  obtain⟨o,es,ep,e,hd,_⟩:=hg
  rw[q,hP]at e;cases e;cases hd
 have hbP:bm≠P:=λq=>by
  rw[q,hP]at b3';cases b3';cases b4
 have hbG:bm≠mainGlobals:=λq=>by
  obtain⟨o,es,ep,e,hd,_⟩:=hg
  rw[q,e]at b3';cases b3';rw[hd]at b6;cases b6
 have hB:s.heap.BuiltinsAt X.mg P:=⟨bm,ob,b1,b2,hbG,hbP,b3',b4,b5,b6⟩
 refine PySem.W.kla_eval hdef ?_
 rw[hqual]
 cases ec:codeAmong pos ps.toList with
 | some v =>
  obtain⟨c,o,rfl,hc,q⟩:=cP pos v ec
  refine PySem.W.kla_makeFunctionHit (mg:=X.mg) hcl I.ok.glob hg hcode C hP tP ec hB λctv h' tk k hsz=>?_
  have hf:H h'.objs.size=none:=I.hok.fresh hsz
  have old:∀b u,H b=some u->upd H h'.objs.size (lamO h'.objs.size c (x ++ ".<locals>.<lambda>") ar body sc) b=some u:=λb u e=>by rw[upd_ne (ne_of_none e hf)];exact e
  refine ⟨.ref _,_,I.laid (a:=h'.objs.size) (o:=lamO h'.objs.size c (x ++ ".<locals>.<lambda>") ar body sc) (λb u e=>i0 _ (k b u e)) hsz (lamO_ok (M0 _ rfl)),rfl,?_⟩
  refine h _ ps _ c o (λb u _ e=>old b u e) hf (old _ _ eP) tP (λpos v e=>?_) (old _ _ hc) q upd_same
  obtain⟨c,o,e1,e2,e3⟩:=cP pos v e
  exact ⟨c,o,e1,old _ _ e2,e3⟩
 | none =>
  refine PySem.W.kla_makeFunction (mg:=X.mg) hcl I.ok.glob hg hcode C hP tP ec hgP hB λc ctv h' tk hx hge hlt hrec htb=>?_
  obtain⟨c₂,oc,vs,t,e2,hoc,hd,hv⟩:=hrec
  cases e2
  have hsz:s.heap.objs.size<=h'.objs.size:=U5 (Q1 hge hlt)
  have hc:H c=none:=I.hok.fresh hge
  have hf:H h'.objs.size=none:=I.hok.fresh hsz
  have ePc:P≠c:=ne_of_none eP hc
  have ePf:P≠h'.objs.size:=ne_of_none eP hf
  have ecf:c≠h'.objs.size:=Y0 hlt
  have old:∀b u,b≠P->H b=some u->upd (upd (upd H P (.tbl (ps++#[rawInt pos.line,rawInt pos.col,.ref c]))) c (codO c oc)) h'.objs.size (lamO h'.objs.size c (x ++ ".<locals>.<lambda>") ar body sc) b=some u:=λb u n e=>by
   rw[upd_ne (ne_of_none e hf),upd_ne (ne_of_none e hc),upd_ne n];exact e
  have newP:upd (upd (upd H P (.tbl (ps++#[rawInt pos.line,rawInt pos.col,.ref c]))) c (codO c oc)) h'.objs.size (lamO h'.objs.size c (x ++ ".<locals>.<lambda>") ar body sc) P=some (.tbl (ps++#[rawInt pos.line,rawInt pos.col,.ref c])):=by
   rw[upd_ne ePf,upd_ne ePc,upd_same]
  have newC:upd (upd (upd H P (.tbl (ps++#[rawInt pos.line,rawInt pos.col,.ref c]))) c (codO c oc)) h'.objs.size (lamO h'.objs.size c (x ++ ".<locals>.<lambda>") ar body sc) c=some (codO c oc):=by
   rw[upd_ne ecf,upd_same]
  generalize hH:upd (upd (upd H P (.tbl (ps++#[rawInt pos.line,rawInt pos.col,.ref c]))) c (codO c oc)) h'.objs.size (lamO h'.objs.size c (x ++ ".<locals>.<lambda>") ar body sc)=H' at old newP newC
  have newF:H' h'.objs.size=some (lamO h'.objs.size c (x ++ ".<locals>.<lambda>") ar body sc):=by rw[<- hH,upd_same]
  have kp:∀b u,b≠P->s.heap.get? b=some u->(h'.push (O5 "<lambda>" (x ++ ".<locals>.<lambda>") ar body sc [] ((X.mg "__name__").getD .none) c ctv)).get? b=some u:=λb u n e=>i0 _ (hx b u n e)
  have nP:∀b,H b=none->b≠P:=λb n e=>by rw[e,eP]at n;cases n
  have un:Un X.fs [] H H' s.heap (h'.push (O5 "<lambda>" (x ++ ".<locals>.<lambda>") ar body sc [] ((X.mg "__name__").getD .none) c ctv)):=by
   refine ⟨λb o e n _ _=>kp b o (nP b n) e,λb o e n _ _=>⟨o.slots,kp b o (nP b n) e⟩,λb o e n _=>?_,λb o e _=>?_,λb xs e=>old b _ (λz=>by rw[z,eP]at e;cases e) e,λb o u e=>old b _ (λz=>by rw[z,eP]at e;cases e) e,λb qs e=>?_⟩
   ·have lt:=J0 e
    rw[<- hH,upd_ne (Y0 (T0 lt hsz)),upd_ne (Y0 (T0 lt hge)),upd_ne (nP b n)]
    exact n
   ·by_cases z:b=P
    ·subst z;exact ⟨_,i0 _ htb⟩
    ·exact ⟨_,kp b o z e⟩
   ·by_cases z:b=P
    ·subst z
     rw[eP]at e;cases e
     exact ⟨_,newP⟩
    ·exact ⟨#[],by rw[old b _ z e];simp⟩
  have hok:HOk X.prog X.w H' (h'.push (O5 "<lambda>" (x ++ ".<locals>.<lambda>") ar body sc [] ((X.mg "__name__").getD .none) c ctv)):=λb u e=>by
   by_cases zf:b=h'.objs.size
   ·subst zf
    rw[newF]at e;cases e
    exact lamO_ok (M0 _ rfl)
   by_cases zc:b=c
   ·subst zc
    rw[newC]at e;cases e
    have e1:=i0 (O5 "<lambda>" (x ++ ".<locals>.<lambda>") ar body sc [] ((X.mg "__name__").getD .none) b ctv) hoc
    exact ⟨e1,⟨_,e1⟩,⟨_,e1⟩,λh1 h2 ⟨o,e1⟩ k=>⟨o,k _ e1⟩⟩
   by_cases zp:b=P
   ·subst zp
    rw[newP]at e;cases e
    exact i0 _ htb
   have e:H b=some u:=by rw[<- hH,upd_ne zf,upd_ne zc,upd_ne zp]at e;exact e
   refine (I.hok b u e).stay (λd v hd q=>kp d v (λz=>?_) q) (λd q=>old d _ (λz=>by rw[z,eP]at q;cases q) q) λd xs q=>old d _ (λz=>by rw[z,eP]at q;cases q) q
   rcases hd with hd|hd
   ·exact zp (hd.symm.trans z)
   ·rw[z,eP]at hd;cases hd
  refine ⟨.ref _,H',I.un un hok,rfl,h H' _ _ c oc old hf newP (by rw[P8];exact TriplesOk_snoc _ _ _ _ tP) (λpos' v e=>?_) newC ⟨vs,t,hd,hv⟩ newF⟩
  rw[P8]at e
  rcases among_snoc _ tP e with e|e
  ·obtain⟨c1,o,e1,e2,e3⟩:=cP pos' v e
   exact ⟨c1,o,e1,old _ _ (λz=>by rw[z,eP]at e2;cases e2) e2,e3⟩
  ·exact ⟨c,oc,e,newC,⟨vs,t,hd,hv⟩⟩
end L3
namespace L2
open PySem PySem.Spec PyProof.Rows PySem.W
theorem paired_perm{α β:Type}{R:α->β->Prop}{l2 l2':List β}(p:l2'.Perm l2):∀{l1:List α},Paired R l1 l2->∃l1',l1'.Perm l1/\Paired R l1' l2':=by
 induction p with
 | nil=>intro l1 h;exact ⟨l1,List.Perm.refl _,h⟩
 | cons x p ih =>
  intro l1 h
  cases h with
  | cons r t =>
   obtain⟨l,q,z⟩:=ih t
   exact ⟨_ :: l,q.cons _,.cons r z⟩
 | swap x y l =>
  intro l1 h
  cases h with
  | cons r t =>
   cases t with
   | cons r2 t=>exact ⟨_ :: _ :: _,List.Perm.swap _ _ _,.cons r2 (.cons r t)⟩
 | trans p q ih1 ih2 =>
  intro l1 h
  obtain⟨l,a,b⟩:=ih2 h
  obtain⟨l',c,d⟩:=ih1 b
  exact ⟨l',c.trans a,d⟩
theorem paired_zip:∀{kz:List Int}{vs:List V}{its:List Value},Vals vs its->Paired (λ(p:Int×V) (q:Int×Value)=>p.1=q.1/\RelV p.2 q.2) (kz.zip vs) (kz.zip its)
 | [],_,_,_=>.nil
 | _ :: _,_,_,.nil=>.nil
 | _ :: _,_,_,.cons r t=>.cons ⟨rfl,r⟩ (paired_zip t)
theorem paired_fst:∀{ps:List (Int×V)}{qs:List (Int×Value)},Paired (λ(p:Int×V) (q:Int×Value)=>p.1=q.1/\RelV p.2 q.2) ps qs->ps.map (·.1)=qs.map (·.1)/\Vals (ps.map (·.2)) (qs.map (·.2))
 | _,_,.nil=>⟨rfl,.nil⟩
 | _,_,.cons r t=>⟨by rw[B1,B1,r.1,(paired_fst t).1],.cons r.2 (paired_fst t).2⟩
theorem Inv.at{X:Cx}{pins:List (Addr×Obj)}{σ:St}{H:Hp}{s:Shared}(I:Inv X pins σ H s){A:Around}(h1:A.handled=X.A.handled)(h2:A.frames=X.A.frames):Inv { X with A:=A } pins σ H s :=
 ⟨⟨I.ok.mod,I.ok.kind,I.ok.glob,I.ok.blt,I.ok.above,I.ok.inj,I.ok.has,I.ok.cab,λc=>h1.trans (I.ok.hd c),h2.trans I.ok.frames,I.ok.stk,I.ok.exf,I.ok.bs,I.ok.bsz,I.ok.noex,I.ok.exfs,I.ok.funs,I.ok.frf⟩,I.os,I.bare,I.base,I.loc,I.cell,I.free,I.freeC,I.pin,I.hok,I.len⟩
end L2
namespace L3
open PySem PySem.Spec PyProof.Rows L2
structure Lm(K:Fg)(x:Str)(fd:FuncData):Prop where
 ex:∃c P,fd.code=.ref c/\P4 K c P=true/\(P,x)∈TB K/\∀z∈TB K,z.1=P->z.2=x
section
variable {K:Fg}{F:Hp}
theorem DaAll.zip:∀{kz:List Int}{xs:List V}{ds:List D},DaAll K F xs ds->Paired (λ(p:Int×D) (q:Int×V)=>p.1=q.1/\Da K F q.2 p.2) (kz.zip ds) (kz.zip xs)
 | [],_,_,_=>.nil
 | _ :: _,_,_,.nil=>.nil
 | _ :: _,_,_,.cons r t=>.cons ⟨rfl,r⟩ (DaAll.zip t)
theorem unzipD:∀{ps:List (Int×D)}{qs:List (Int×V)},Paired (λ(p:Int×D) (q:Int×V)=>p.1=q.1/\Da K F q.2 p.2) ps qs->ps.map (·.1)=qs.map (·.1)/\DaAll K F (qs.map (·.2)) (ps.map (·.2))
 | _,_,.nil=>⟨rfl,.nil⟩
 | _,_,.cons r t=>⟨by rw[B1,B1,r.1,(unzipD t).1],.cons r.2 (unzipD t).2⟩
theorem da_int{v:V}{k:Int}(h:Da K F v (.int k)):v=.int k:=by cases h;rfl
end
section
variable {P:Program}{w:World}{K:Fg}{mg:Str->Option Value}{base:Heap}
theorem wfnL{x qual:Str}{st:Stmt}{f c:Addr}{fd:FuncData}{N ps:List Str}{k:Nat}{con:Con}{ts:TDS}(F:Fun K x qual st f fd)(hcd:fd.code=.ref c)(S:FnScope N ps (defScope st))
  (hb:∀(A:Around) (outer:List Env) (s:Shared) (H:Hp) (E:XK),Room k (A.deeper (envOfC qual (defScope st) s.heap.objs.size f (.ref c)))->WSs (cxOf CX0 P w K mg base N qual (defScope st) f (.ref c) A outer s H E).nox (defBody st) (liftS K ts))
  (hl:∀args Qd,con args Qd->args.length=ps.length) (hc:∀args Qd,con args Qd->(∀s∈args,∀d,s≠.ow d)/\ts (endsOf args Qd) (startE N.length args)):FnOk P w K mg base CX0 (k+1) f fd ps (conSp K con):=by
 obtain⟨oc,od,kV,doc,pm,an,cdv,ct,osl,rfl,lk,hcd'⟩:=F.ex
 have e:cdv=.ref c:=hcd
 subst e
 refine fn_of lk hcd' S (λvs H Q E h=>?_) λA outer s H vs Q E hr hsp=>⟨_,(hb A outer s H E hr).h.nox,l_def hc hsp⟩
 obtain⟨G,F',args,Qd,R,w',_⟩:=h
 have h1:=hl args Qd w'
 have h2:=R.len
 rw[j0,j0]at h2
 rw[h2,h1]
end
theorem rel_law{K:Fg}{H:Hp}{a:Addr}{ns:List Int}(hS:SqL K H a (ns.map V.int))(hT:∀z∈TB K,H z.1=some (.tbl #[])) :
  ∃F:Hp,Rel K ⟨H,F,λ_=>none⟩ F [some (.ref a)] H [some (.fz (scrD ns))]:=by
 refine ⟨λb=>match H b with
   | some (.tbl ps)=>none
   | o=>o,?_⟩
 have su:Sub (λb=>match H b with
   | some (.tbl ps)=>none
   | o=>o) H:=λb o e=>by
  dsimp only at e
  split at e
  ·cases e
  ·exact e
 have back:∀b u,H b=some u->stk u=false\/(∃o x,u=.frz o x)->(match H b with
   | some (.tbl ps)=>none
   | o=>o)=some u:=λb u e s=>by
  rw[e]
  cases u<;>first|rfl|(rcases s with s|⟨_,_,s⟩<;>cases s)
 have hS':SqL K (λb=>match H b with
   | some (.tbl ps)=>none
   | o=>o) a (ns.map V.int):=by
  rcases hS with (h|⟨o,h⟩)|h
  ·exact .inl (.inl (back _ _ h (.inl rfl)))
  ·exact .inl (.inr ⟨o,back _ _ h (.inr ⟨_,_,rfl⟩)⟩)
  ·exact .inr h
 have tb:TabOk K (λb=>match H b with
   | some (.tbl ps)=>none
   | o=>o) H:=λz hz=>by
  have e:=hT z hz
  refine ⟨by dsimp only;rw[e],#[],e,trivial,λpos v q=>?_⟩
  cases q
 exact rel_call (vs:=[.ref a]) (ds:=[scrD ns]) su tb (.cons (.scr hS') .nil)
end L3
namespace L2
open PySem PySem.Spec PyProof.Rows
noncomputable def OnlyT(ts:List Addr)(H:Hp):Prop:=(∀b,H b=none\/(∃o xs,H b=some (.frz o (.lst xs)))\/b∈ts)/\∀P∈ts,H P=some (.tbl #[])
theorem law_callT{P:Program}{w:World}{K:n0}{mg mb:Str->Option Value}{CX:CXT}{k:Nat}{fa a:Addr}{fd:FuncData}{x:Str}{sp:Sp}{s₁:Shared}{vs:List Value}{ns:List Int}{ts:List Addr}
  (KX:K.In s₁.heap) (hts:∀P∈ts,s₁.heap.get? P=some (u6 #[])) (hct:∀P∈ts,K.lookup P=none/\∃c,P4 K c P=true)
  (hns:s₁.heap.Ns mainGlobals mg) (hb:s₁.heap.Ns builtinsNs mb) (hbb:∀x:Str,x ≠ "__name__"->mb x=bootBuiltins x) (hlim:s₁.heap.NoLimit) (hbm:BmOk mg s₁.heap) (hg:s₁.gens=#[])
  (ha:s₁.heap.get? a=some { cls:=.type "list",data:=.seq vs.toArray }) (hi:IntsAre vs ns) (hl:ns.length<=sizeLine) (hr:Room k callerA)
  (F:∀base:Heap,K.In base->base.Ns mainGlobals mg->FnOk P w K mg base CX k fa fd [x] sp) (hbind:∀(s:Shared) (u:Value),BindsTo s fd ⟨[u],[]⟩ [(x,u)])
  (hsp:∀H:Hp,OnlyT ts H->SqL K H a (ns.map V.int)->sp [.ref a] H (λv _=>v=.bl true) λ_ _ _=>False)
  (hCX:∀H e s',CX [] H s₁ (λ_ _ _=>False) e s'->False) :
  codeAny (model P w) callerA (.call (.ref fa) ⟨[.ref a],[]⟩) (λr s'=>r=.ok (.ret (.bool true))/\OldK s₁.heap s'.heap/\s'.os=s₁.os/\AllBare s'.gens) s₁:=by
 have rv:=vals_ints hi
 have lenV:=hi.length
 have nat:a∉ts:=λz=>by
  have:=hts a z
  rw[ha]at this
  cases this
 have core:∀H:Hp,OnlyT ts H->SqL K H a (ns.map V.int)->HOk P w H s₁.heap->(∀b,H b≠none->b=a\/b∈ts)->(H a≠none->K.lookup a=none) ->
   codeAny (model P w) callerA (.call (.ref fa) ⟨[.ref a],[]⟩) (λr s'=>r=.ok (.ret (.bool true))/\OldK s₁.heap s'.heap/\s'.os=s₁.os/\AllBare s'.gens) s₁:=by
  intro H hO hS hok hA hK
  have base_of:∀{b:Addr}{o:Obj},s₁.heap.get? b=some o->H b=none->(hidT s₁.heap H).get? b=some o:=λe n=>hidT_get e n
  have noA:∀{b:Addr}{o:Obj},s₁.heap.get? b=some o->o.cls≠.none->o.cls≠.type "list"->H b=none:=λ{b o} e d1 d2=>by
   cases q:H b with
   | none=>rfl
   | some u =>
    rcases hA b (by rw[q];simp) with e'|e'
    ·subst e'
     rw[ha]at e;cases e
     exact absurd rfl d2
    ·rw[hts b e']at e;cases e
     exact absurd rfl d1
  have noD:∀{b:Addr}{o:Obj}{es:Array DictEntry}{ep:Nat},s₁.heap.get? b=some o->o.data=.dict es ep->H b=none:=λ{b o es ep} e d=>by
   cases q:H b with
   | none=>rfl
   | some u =>
    rcases hA b (by rw[q];simp) with e'|e'
    ·subst e'
     rw[ha]at e;cases e
     have d':Data.seq vs.toArray _=Data.dict es ep:=d
     cases d'
    ·rw[hts b e']at e;cases e
     cases d
  have nsK:∀{b:Addr}{m:Str->Option Value},s₁.heap.Ns b m->(hidT s₁.heap H).Ns b m:=λ{b m} ⟨o,es,ep,e,d,r⟩=>⟨o,es,ep,base_of e (noD e d),d,r⟩
  have hKb:K.In (hidT s₁.heap H):=λb o e=>base_of (KX b o e) (by
    cases q:H b with
    | none=>rfl
    | some u =>
      rcases hA b (by rw[q];simp) with e'|e'
      · subst e'
        rw[hK (by rw[q];simp)]at e;cases e
      · rw[(hct b e').1]at e;cases e)
  have hM:Mod K mg (hidT s₁.heap H):=⟨hKb,nsK hns,⟨mb,nsK hb,hbb⟩,let ⟨mc,h1,h2⟩:=hlim;⟨mc,nsK h1,h2⟩,let ⟨bm,o,b1,b2,b3,b4,b5,b6⟩:=hbm;⟨bm,o,b1,b2,base_of b3 (noA b3 (by rw[b4];exact λz=>by cases z) (by rw[b4];intro z;injection z with z;exact absurd z (by decide))),b4,b5,b6⟩⟩
  have e0:Env0 P w K mg (hidT s₁.heap H) callerA [] s₁ H:=⟨rfl,hM,λb o e=>of_hidT e,B7 (hidT_size _ _),trivial,λb hb=>absurd (show b∈([]:List Addr) from hb) (by simp),hok,.of_eq hg⟩
  refine codeAny_mono ((F _ hKb (nsK hns)).run callerA [] s₁ H ⟨[.ref a],[]⟩ [.ref a] [.ref a] _ _ hr e0 (hbind s₁ (.ref a)) (.cons rfl .nil) (hsp H hO hS)) λr s' h=>?_
  cases r with
  | error e=>exact (hCX H e s' h).elim
  | ok fl =>
   cases fl with
   | next=>exact False.elim h
   | brk=>exact False.elim h
   | cont=>exact False.elim h
   | ret u =>
    obtain⟨v,H',os,bare,un,hok',r',q⟩:=h
    have q':v=.bl true:=q
    subst q'
    obtain rfl:u=T6 true:=r'
    have tabs:∀b∈ts,∃more,s'.heap.get? b=some (u6 (#[]++more)):=λb hb=>by
     obtain⟨more,e⟩:=un.tbls b _ (hO.2 b hb)
     exact ⟨more,(show ObjOk P w H' s'.heap b (.tbl (#[]++more)) from hok' b _ e)⟩
    have others:∀b o,b∉ts->s₁.heap.get? b=some o->s'.heap.get? b=some o:=λb o hb e=>by
     cases q:H b with
     | none=>exact un.keep b o e q (by intro z;exact absurd (show b∈([]:List Addr) from z) (by simp)) (by simp)
     | some u =>
      rcases hO.1 b with z|⟨ob,xs,z⟩|z
      ·rw[q]at z;cases z
      ·have z2:=un.frzs b ob _ z
       obtain⟨e1,_⟩:=hok b _ z
       obtain⟨e2,_⟩:=hok' b _ z2
       rw[e]at e1;cases e1
       exact e2
      ·exact absurd z hb
    refine ⟨rfl,⟨λb o e=>?_,λb o e=>?_⟩,os,bare⟩
    ·by_cases hb:b∈ts
     ·obtain⟨more,e2⟩:=tabs b hb
      obtain⟨_,c,hc⟩:=hct b hb
      have e3:=hts b hb
      rw[e]at e3
      cases e3
      exact .inr (.inl ⟨((O8 KX hc).tab (hts b hb)).isCodeTable,rfl,#[],more,rfl,e2⟩)
     ·exact .inl (others b o hb e)
    ·by_cases hb:b∈ts
     ·obtain⟨more,e2⟩:=tabs b hb
      exact ⟨_,e2⟩
     ·exact ⟨_,others b o hb e⟩
 cases hk:K.lookup a with
 | some o =>
  have e:=KX a o hk
  rw[ha]at e
  cases e
  refine core (λb=>if b∈ts then some (.tbl #[]) else none) ⟨λb=>?_,λP hP=>if_pos hP⟩ (.inr ⟨_,vs.toArray,_,hk,rfl,rfl,rfl,by rw[N0,lenV];exact hl,by simpa using rv⟩) (λb u z=>?_) (λb z=>?_) λz=>absurd (if_neg nat) z
  ·by_cases hb:b∈ts
   ·exact .inr (.inr hb)
   ·exact .inl (if_neg hb)
  ·by_cases hb:b∈ts
   ·have z':=(if_pos hb).symm.trans z
    cases z'
    exact hts b hb
   ·have z':=(if_neg hb).symm.trans z
    cases z'
  ·by_cases hb:b∈ts
   ·exact .inr hb
   ·exact absurd (if_neg hb) z
 | none =>
  refine core (λb=>if b=a then some (.frz { cls:=.type "list",data:=.seq vs.toArray } (.lst (ns.map V.int))) else if b∈ts then some (.tbl #[]) else none) ⟨λb=>?_,λP hP=>?_⟩ (.inl (.inr ⟨{ cls:=.type "list",data:=.seq vs.toArray },if_pos rfl⟩)) (λb u z=>?_) (λb z=>?_) λ_=>hk
  ·by_cases hb:b=a
   ·exact .inr (.inl ⟨_,_,if_pos hb⟩)
   ·by_cases hb2:b∈ts
    ·exact .inr (.inr hb2)
    ·exact .inl (by dsimp only;rw[if_neg hb,if_neg hb2])
  ·have ne:P≠a:=λq=>nat (q ▸ hP)
   show (if P=a then _ else if P∈ts then some (HO.tbl #[]) else none)=_
   rw[if_neg ne,if_pos hP]
  ·have z:(if b=a then some (HO.frz { cls:=.type "list",data:=.seq vs.toArray } (.lst (ns.map V.int))) else if b∈ts then some (.tbl #[]) else none)=some u:=z
   by_cases hb:b=a
   ·rw[if_pos hb]at z
    cases z
    subst hb
    exact ⟨ha,by rw[j0];exact hl,vs,_,rv,ha⟩
   ·rw[if_neg hb]at z
    by_cases hb2:b∈ts
    ·rw[if_pos hb2]at z
     cases z
     exact hts b hb2
    ·rw[if_neg hb2]at z
     cases z
  ·have z:(if b=a then some (HO.frz { cls:=.type "list",data:=.seq vs.toArray } (.lst (ns.map V.int))) else if b∈ts then some (.tbl #[]) else none)≠none:=z
   by_cases hb:b=a
   ·exact .inl hb
   ·rw[if_neg hb]at z
    by_cases hb2:b∈ts
    ·exact .inr hb2
    ·exact absurd (if_neg hb2) z
theorem walk_ofT{l:u8}{n k:Nat}{q:Program}{loose:List Str}{XP:(Str->Option Value)->Heap->Prop}{YP:World->Heap->Prop}{d:DefRec}{K:Params->n0}{CX:World->CXT}{sp:World->Sp}{x:Str}{ts:List Addr}
  (hn:l.most=some n) (hn2:n<=sizeLine) (hdf:d.params.defaults=[]) (hr:Room k callerA)
  (hY:∀(w:World) (h:Heap),YP w h->(K w.params).In h/\∀P∈ts,h.get? P=some (u6 #[]))
  (hct:∀w:World,∀P∈ts,(K w.params).lookup P=none/\∃c,P4 (K w.params) c P=true)
  (F:∀(w:World) (mg:Str->Option Value) (fa:Addr) (h:Heap),(K w.params).In h->h.Ns mainGlobals mg->mg d.name=some (.ref fa) ->
    ∃fd:FuncData,(∀(s:Shared) (u:Value),BindsTo s fd ⟨[u],[]⟩ [(x,u)]) /\
      ∀base:Heap,(K w.params).In base->base.Ns mainGlobals mg->FnOk l.prog w (K w.params) mg base (CX w) k fa fd [x] (sp w))
  (hsp:∀(w:World) (H:Hp) (a:Addr) (ns:List Int),ns.length<=n->OnlyT ts H->SqL (K w.params) H a (ns.map V.int)->sp w [.ref a] H (λv _=>v=.bl true) λ_ _ _=>False)
  (hCX:∀(w:World) (H:Hp) (s:Shared) (e:Value) (s':Shared),CX w [] H s (λ_ _ _=>False) e s'->False) :
  PySem.W.WalkO q loose XP YP l.row.toRowW d [] (λf vs=>PySem.call f vs):=by
 refine Att.attach_call hn hdf λw s₀ s₁ mg mb fa o pm cd doc a vs ns G Y ho hd hcd hmg hobj hints hlen hg=>?_
 obtain⟨KX,hts⟩:=hY w _ Y
 obtain⟨fd,hb,hF⟩:=F w mg fa _ KX G.T.g hmg
 exact law_callT KX hts (hct w) G.T.g G.T.b G.T.builtins G.T.nolimit G.T.bmain hg hobj hints (Q0 hlen hn2) hr hF hb (λH hO hS=>hsp w H a ns hlen hO hS) λH e s'=>hCX w H s₁ e s'
end L2
namespace L3
open PySem PySem.Spec PyProof.Rows L2
noncomputable def lmIn(K:Fg)(x:Str)(fd:FuncData):Bool:=match Q8 K x with
 | some (c,P)=>(match fd.code with | .ref c'=>c'==c|_=>false)&&P4 K c P&&(TB K).all (λz=>z.1 != P||z.2==x)&&(TB K).any λz=>z.1==P&&z.2==x
 | none=>false
theorem lm_of{K:Fg}{x:Str}{fd:FuncData}(h:lmIn K x fd=true):Lm K x fd:=by
 unfold lmIn at h
 split at h
 ·rename_i c P e
  simp only[W1]at h
  obtain⟨⟨⟨h1,h2⟩,h3⟩,h4⟩:=h
  refine ⟨c,P,?_,h2,?_,λz hz q=>?_⟩
  ·split at h1
   ·rename_i c' e1
    rw[e1,beq_iff_eq.mp h1]
   ·cases h1
  ·obtain⟨z,hz,q⟩:=List.any_eq_true.mp h4
   simp only[W1,beq_iff_eq]at q
   have:z=(P,x):=Prod.ext q.1 q.2
   rw[<- this]
   exact hz
  ·have:=J3.mp h3 z hz
   rw[q]at this
   simpa using this
 ·cases h
noncomputable def tsOk(K:Fg)(ts:List Addr):Bool:=(ts.all λP=>(K.lookup P).isNone&&lamN.any λx=>match Q8 K x with
  | some (c,P')=>P'==P&&P4 K c P
  | none=>false)&&(TB K).all λz=>ts.contains z.1
theorem ts_of{K:Fg}{ts:List Addr}(h:tsOk K ts=true):(∀P∈ts,K.lookup P=none/\∃c,P4 K c P=true)/\∀z∈TB K,z.1∈ts:=by
 unfold tsOk at h
 rw[W1]at h
 refine ⟨λP hP=>?_,λz hz=>?_⟩
 ·have:=J3.mp h.1 P hP
  rw[W1]at this
  refine ⟨Option.isNone_iff_eq_none.mp this.1,?_⟩
  obtain⟨x,_,q⟩:=List.any_eq_true.mp this.2
  split at q
  ·rename_i c P' _
   rw[W1]at q
   exact ⟨c,q.2⟩
  ·cases q
 ·have:=J3.mp h.2 z hz
  simpa using this
theorem walkT{l:u8}{k:Nat}{q:Program}{loose:List Str}{XP:(Str->Option Value)->Heap->Prop}{YP:World->Heap->Prop}{d:DefRec}{K:Params->n0}{x:Str}{ts:List Addr}{cLaw:Con}
  (hc:∀ns:List Int,ns.length<=63->cLaw [.fz (scrD ns)] λr _=>r=.fz (.bool true)) (hr:Room k callerA) (hn:l.most=some 63) (hdf:d.params.defaults=[])
  (hY:∀(w:World) (h:Heap),YP w h->(K w.params).In h/\∀P∈ts,h.get? P=some (u6 #[])) (hts:∀w:World,tsOk (K w.params) ts=true)
  (F:∀(w:World) (mg:Str->Option Value) (fa:Addr) (h:Heap),(K w.params).In h->h.Ns mainGlobals mg->mg d.name=some (.ref fa) ->
    ∃fd:FuncData,(∀(s:Shared) (u:Value),BindsTo s fd ⟨[u],[]⟩ [(x,u)])/\∀base:Heap,(K w.params).In base->base.Ns mainGlobals mg->FnOk l.prog w (K w.params) mg base CX0 k fa fd [x] (conSp (K w.params) cLaw)) :
  PySem.W.WalkO q loose XP YP l.row.toRowW d [] (λf vs=>PySem.call f vs):=by
 refine L2.walk_ofT (ts:=ts) (n:=63) (k:=k) (x:=x) (CX:=λ_=>CX0) (sp:=λw=>conSp (K w.params) cLaw) hn (by decide) hdf hr hY (λw=>(ts_of (hts w)).1) F (λw H a ns hl hO hS=>?_) λ_ _ _ _ _ z=>z
 obtain⟨Fr,R⟩:=rel_law hS λz hz=>hO.2 _ ((ts_of (hts w)).2 z hz)
 refine ⟨_,Fr,[.fz (scrD ns)],λr _=>r=.fz (.bool true),R,hc ns hl,λv H' F' r ρ' _ _ res e=>?_⟩
 subst e
 have res:Da (K w.params) F' v (.bool true):=res
 cases res
 rfl
end L3
namespace L2
open PySem PySem.Spec PyProof.Rows PySem.W
section
variable {X:Cx}{α:Type}[Inhabited α]{Rep:Hp->Addr->α->Prop}{fn:Hp->V->α}{lt:α->α->Bool}{κ:SortKind}
theorem relV_ref{c:Addr}{u:Value}(h:RelV (.ref c) u):u=.ref c:=h
noncomputable def ofVal(fn:Hp->V->α)(H:Hp):Value->α
 | .ref c=>fn H (.ref c)
 | _=>default
end
section
variable {prog:Program}{w:World}{A:Around}{s:Shared}
theorem one_int(b:Bool){n m:Int}{t u:Tok}{Q:Bool->Shared->Prop}{E:Value->Shared->Prop}(h:Q (decide (n < m)) s):wpAny (model prog w) A (oneLt' b (.int n t) (.int m u)) Q E s:=by
 cases b with
 | true=>exact oneLt_int h
 | false=>exact kat_one _ _ (lt_int h)
theorem kat_ints{b:Bool}{Q:Bool->Shared->Prop}:∀{ns ms:List Int}{xs ys:List Value} (i:Nat),IntsAre xs ns->IntsAre ys ms->Q (HT.lexLt ns ms) s->KatLex prog w A b (decide (xs.length < ys.length)) Q (xs.zip ys) i s
 | _,_,_,_,i,.nil,.nil,h=>h
 | _,_,_,_,i,.nil,.cons m u r,h=>h
 | _,_,_,_,i,.cons n t r,.nil,h=>h
 | _,_,_,_,i,.cons (vs:=xs) (ns:=ns) n t r,.cons (vs:=ys) (ns:=ms) m u r',h=>by
  have e:decide ((n6 n t :: xs).length < (n6 m u :: ys).length)=decide (xs.length < ys.length):=by simp
  rw[e]
  rw[HT.lexLt_cons]at h
  show KatLex prog w A b _ Q ((n6 n t,n6 m u) :: xs.zip ys) i s
  refine kat_cons (SeqAt.EqAt.int_int n t m u _ _ _ _ ?_)
  refine kat_go (λq=>kat_yes ?_) (λq=>kat_no ?_)
  ·rw[if_pos (by simpa using q)]at h
   exact kat_ints (i+1) r r' h
  ·rw[if_neg (by simpa using q)]at h
   exact one_int _ h
end
noncomputable def RepT(H:Hp)(c:Addr)(r:List Int):Prop:=H c=some (.tup (r.map V.int))/\r≠[]
noncomputable def fnT(H:Hp):V->List Int
 | .ref c=>match H c with
  | some (.tup xs)=>xs.map unV
  | _=>[]
 | _=>[]
theorem fnT_of(H:Hp)(c:Addr)(r:List Int)(h:RepT H c r):fnT H (.ref c)=r:=by
 show (match H c with|some (.tup xs)=>xs.map unV|_=>[])=r
 rw[h.1]
 exact unV_ints r
end L2
namespace L3
open PySem PySem.Spec PyProof.Rows L2
theorem DaAll.mem{K:Fg}{F:Hp}:∀{us:List V}{ds:List D},DaAll K F us ds->∀v∈us,∃d∈ds,Da K F v d
 | _,_,.nil,v,h=>by simp at h
 | _,_,.cons a t,v,h=>by
  rcases X0.mp h with rfl|h
  ·exact ⟨_,P0,a⟩
  ·obtain⟨d,h1,h2⟩:=DaAll.mem t v h
   exact ⟨d,L0 _ h1,h2⟩
theorem DaAll.map_of{K:Fg}{F:Hp}{f:V->D}:∀{us:List V},(∀v∈us,Da K F v (f v))->DaAll K F us (us.map f)
 | [],_=>.nil
 | v :: us,h=>.cons (h v P0) (DaAll.map_of λx hx=>h x (L0 _ hx))
theorem DaAll.map_eq{K:Fg}{F:Hp}{α:Type}{g:α->D}{f:V->α}(hg:∀v a,Da K F v (g a)->f v=a):∀{us:List V}{as:List α},DaAll K F us (as.map g)->us.map f=as
 | [],[],_=>rfl
 | _ :: _,[],h=>by cases h
 | [],_ :: _,h=>by cases h
 | v :: us,a :: as,h=>by
  cases h with
  | cons h t=>rw[B1,hg v a h,DaAll.map_eq hg t]
theorem da_tup{K:Fg}{F:Hp}{v:V}{r:List Int}(h:Da K F v (.tuple (r.map G0))):∃c,v=.ref c/\F c=some (.tup (r.map V.int)):=by
 cases h with
 | tup h t =>
  have:=t.ints_of
  subst this
  exact ⟨_,rfl,h⟩
end L3
namespace L2
open PySem PySem.Spec PyProof.Rows
theorem draws_at{P:Program}{w:World}{A:Around}(hh:A.handled=none){k:Kd}{it l:Addr}(ne:l≠it){xs:Array Value} :
  Draws P w A it [it,l] xs.size (λi x=>xs[i]?=some x) (λi h=>ItAt k h it l i/\SqAt k h l xs) where
 live:=λi h st=>by obtain⟨o,e,_⟩:=st.1.obj;exact ⟨o,e⟩
 frame:=λi h h' st kp=>⟨st.1.at λo e=>kp it (by simp) o e,st.2.at λo e=>kp l (by simp) o e⟩
 item:=λi s Q E hi st hQ=>by
  refine nextOf_item st.1 st.2 (M4 hi) λh' t' s'=>?_
  exact hQ _ h' s.toks (M4 hi) ⟨t',st.2.at λo e=>(s'.2 l ne).trans e⟩ s'
 done:=λs Q E st hE=>nextOf_end hh st.1 st.2 (by simp) hE
noncomputable def Ite(K:n0)(k:Kd)(l:Addr):It :=
 ⟨λi H=>∃ys x,Sq k K H l ys/\ys[i]?=some x,
  λi H x H'=>∃T y,H T=none/\x=.ref T/\H'=upd H T (.tup [.int (i:Nat),y])/\∀ys,Sq k K H l ys->ys[i]?=some y,
  λi H=>∃ys,Sq k K H l ys/\ys.length<=i⟩
theorem turn_enum{P:Program}{w:World}{K:n0}{es:List Expr}{kk:Nat}{pos:Pos}(k:Kd)(e it l:Addr)(ne:e≠it)(nl:l≠it)(nel:e≠l):Turn P w K (.Tuple es kk pos) (Ite K k l) [e,it] e
  (λi h=>(∃old,IsEnum h e it (i:Nat) old)/\ItAt k h it l i) where
 mem:=by simp
 obj:=λi h st b hb=>by
  obtain⟨⟨old,he⟩,t⟩:=st
  have hb:b=e\/b=it:=by simpa using hb
  rcases hb with rfl|rfl
  ·exact ⟨_,he,λv e=>by cases e⟩
  ·exact t.obj
 keep:=λi h h' st kp=>by
  obtain⟨⟨old,he⟩,t⟩:=st
  exact ⟨⟨old,kp _ (by simp) _ he⟩,t.at λo e=>kp _ (by simp) _ e⟩
 item:=by
  intro X hP hw hK hc i pins s σ H E I hf st hg
  subst hP hw hK
  obtain⟨⟨old,he⟩,t⟩:=st
  obtain⟨ys,y,q1,e1⟩:=hg
  obtain⟨its,rv,p1,z1⟩:=I.sq q1
  obtain⟨u,hu,ru⟩:=rv.get e1
  have hh:X.A.in1.handled=none:=I.ok.hd hc
  have hlt:i < its.toArray.size:=by
   have:=(W0.mp hu).1
   simpa using this
  refine wpAny_pyNext_enum_itemD (draws_at hh nl (k:=k) (xs:=its.toArray)) he ⟨t,p1⟩ hlt ne (by simp[ne,nel]) λx h' tk hx b1 b2 b3 b4 b5=>?_
  have hx:x=u:=by
   rw[show its.toArray[i]?=some u by simpa using hu]at hx
   exact (N1 hx).symm
  subst hx
  have hTn:s.heap.objs.size≠e:=T1 (J0 he)
  refine ⟨_,rfl,wpAny_letOwnedTupleGo_enum (s:={ s with heap:=h',toks:=tk+1 }) b1 λh2 he2 hs2=>?_⟩
  have kp:∀b o,b∉[e,it]->s.heap.get? b=some o->h2.get? b=some o:=λb o hb eb=>by
   have hb:b≠e/\b≠it:=by simpa using hb
   exact hs2.extBut _ _ hb.1 (b5 b o hb.1 hb.2 eb)
  have hT2:IsTup2 h2 s.heap.objs.size (.int (i:Nat) tk) x:=hs2.extBut _ _ hTn b3
  have hfr:H s.heap.objs.size=none:=I.hok.fresh (A0 _)
  have I2:Inv X pins σ (upd H s.heap.objs.size (.tup [.int (i:Nat),y])) { s with heap:=h2 }:=by
   have nfp:∀b u,H b=some u->b∉[e,it]:=λb u eb hb=>by have:=(hf b hb).1;rw[eb]at this;cases this
   refine I.step (g':=s.gens) (d':=s.drawn) (ch:=[e,it]) (λb hb=>?_) (λb o _ _ hc' eb _=>kp b o hc' eb) (λb o _ _ hc' eb _=>⟨o.slots,kp b o hc' eb⟩) (λb o _ eb n=>?_)
    (λb o hc' eb=>⟨o,kp b o hc' eb⟩) (λb xs eb=>?_) (λb o xs eb=>?_) (λb ps eb=>⟨#[],?_⟩) (λm hm=>?_) (λb o eb=>?_) I.bare
   ·obtain⟨f0,f1,f2,f3,f4,f5⟩:=hf b hb
    exact ⟨f3,f1,f4,f5⟩
   ·rw[upd_ne (Y0 (J0 eb))];exact n
   ·rw[upd_ne (ne_of_none eb hfr)];exact eb
   ·rw[upd_ne (ne_of_none eb hfr)];exact eb
   ·rw[upd_ne (ne_of_none eb hfr),eb];simp
   ·obtain⟨o,es',ep,ho,r⟩:=hm
    exact ⟨o,es',ep,kp _ o (λhb=>(hf _ hb).2.1 rfl) ho,r⟩
   ·by_cases hb:b=s.heap.objs.size
    ·subst hb
     rw[upd_same]at eb
     cases eb
     exact ⟨by show 2<=sizeLine;decide,[.int (i:Nat) tk,x],.cons ⟨tk,rfl⟩ (.cons ru .nil),_,hT2,rfl,_,rfl,rfl⟩
    ·rw[upd_ne hb]at eb
     refine (I.hok b o eb).stay (λc v hc' q=>kp c v ?_ q) (λc q=>by rw[upd_ne (ne_of_none q hfr)];exact q) λc xs q=>by rw[upd_ne (ne_of_none q hfr)];exact q
     rcases hc' with rfl|hc'
     ·exact nfp _ _ eb
     ·exact nfp _ _ hc'
  refine ⟨.ref s.heap.objs.size,_,I2.tok (tk+1),rfl,⟨_,y,hfr,rfl,rfl,λys' hy=>by rw[I.sq_inj hy q1];exact e1⟩,⟨⟨x,by simpa using he2⟩,b2.1.at λo eo=>hs2.extBut _ _ (v3 ne) eo⟩,λb hb=>?_⟩
  rw[upd_ne ?_]
  ·exact (hf b hb).1
  ·intro z
   subst z
   have hb:s.heap.objs.size=e\/s.heap.objs.size=it:=by simpa using hb
   rcases hb with z|z
   ·exact hTn z
   ·obtain⟨o,eo,_⟩:=t.obj
    exact T1 (J0 eo) z
 done:=by
  intro X hP hw hK hc i pins s σ H E I hf st hg
  subst hP hw hK
  obtain⟨⟨old,he⟩,t⟩:=st
  obtain⟨ys,q1,hend⟩:=hg
  obtain⟨its,rv,p1,z1⟩:=I.sq q1
  have hlen:=rv.length
  have hh:X.A.in1.handled=none:=I.ok.hd hc
  have hT:s.TypeIs (.ref e) "enumerate":=⟨_,he,rfl⟩
  unfold pyNext
  refine wpAny_bind (wpAny_attempt (wpAny_callSpecial?_slot (name:=Str.ofString "__next__") hT F.slot_enumerate_next (wpAny_call_entry F.slot_enumerate_next hT F.entry_enumerate_next ?_ (F.args_enumerate_next_1 _))))
  show wpAny _ _ (field (.ref e) 2 >>= _) _ _ _
  refine wpAny_bind (wpAny_field he rfl (x:=.ref it) rfl ?_)
  refine wpAny_bind (nextOf_end hh t p1 (by simp;omega) λh' x kp hx'=>?_)
  obtain⟨o,ho,hcl⟩:=hx'
  refine wpAny_bind (wpAny_isInstance (T:="StopIteration") (b:=true) ⟨o,ho,hcl⟩ isSubtype_stop ?_)
  refine wpAny_pure ⟨rfl,?_⟩
  have nfp:∀b u,H b=some u->b∉[e,it]:=λb u eb hb=>by have:=(hf b hb).1;rw[eb]at this;cases this
  have kp':∀b o,b∉[e,it]->s.heap.get? b=some o->h'.get? b=some o:=λb o hb eb=>by
   have hb:b≠e/\b≠it:=by simpa using hb
   exact kp b o hb.2 eb
  refine I.step (g':=s.gens) (d':=s.drawn) (ch:=[e,it]) (λb hb=>?_) (λb o _ _ hc' eb _=>kp' b o hc' eb) (λb o _ _ hc' eb _=>⟨o.slots,kp' b o hc' eb⟩) (λb o _ eb n=>n)
   (λb o hc' eb=>⟨o,kp' b o hc' eb⟩) (λb xs eb=>eb) (λb o xs eb=>eb) (λb ps eb=>⟨#[],by rw[eb];simp⟩) (λm hm=>?_) (λb o eb=>?_) I.bare
  ·obtain⟨f0,f1,f2,f3,f4,f5⟩:=hf b hb
   exact ⟨f3,f1,f4,f5⟩
  ·obtain⟨o,es',ep,ho,r⟩:=hm
   exact ⟨o,es',ep,kp' _ o (λhb=>(hf _ hb).2.1 rfl) ho,r⟩
  ·refine (I.hok b o eb).stay (λc v hc' q=>kp' c v ?_ q) (λ_ q=>q) λ_ _ q=>q
   rcases hc' with rfl|hc'
   ·exact nfp _ _ eb
   ·exact nfp _ _ hc'
 self:=λ_ _ _ _ _ st h=>by obtain⟨⟨old,he⟩,_⟩:=st;exact wpAny_pyIter_enum he h
noncomputable abbrev enZ(h:Heap)(k:Kd)(l:Addr):Heap:=(h.push (itObj k l)).push { cls:=.type "enumerate",data:=.fields #[.none,.bool false,.ref h.objs.size,rawInt 0,.none,.none] }
theorem enum_new(k:Kd)(l:Addr)(xs:Array Value) :
  Meets (Builtin.«enumerate.__new__» ⟨[.type "enumerate",.ref l],[]⟩) (λ_ R s=>SqAt k s.heap l xs/\R (.ok (.ret (.ref (s.heap.push (itObj k l)).objs.size))) { s with heap:=enZ s.heap k l }) :=
 .of_wp λprog w A R s h=>by
  obtain⟨hp,g,d,tk,os⟩:=s;obtain⟨hl,h⟩:=h
  have hsub:=sub_enumerate
  have hL:SqAt k (Shared.heap ⟨hp,g,d,tk,os⟩) l xs:=hl
  obtain⟨o,ho⟩:∃o,hp.get? l=some o:=by cases k<;>(obtain⟨o,eo,_⟩:=hl;exact ⟨o,eo⟩)
  wp_walk using AutoSeq1.wpAny_loadPart' ho
  refine wpAny_stack_any λst=>wpAny_pure ?_
  split
  ·rename_i c _ _ _ _ _
   cases (c==i6 "enumerate")
   ·wp_walk using AutoSeq1.wpAny_loadPart' ho,iter_at hL
    exact ⟨_,rfl,h⟩
   ·wp_walk using AutoSeq1.wpAny_loadPart' ho,iter_at hL
    exact ⟨_,rfl,h⟩
  ·wp_walk using AutoSeq1.wpAny_loadPart' ho,iter_at hL
   exact ⟨_,rfl,h⟩
noncomputable def iEnum(K:n0)(ta:TA):TI:=λσ H R=>ta σ H λvs H1=>∃(k:Kd) (l:Addr) (ys:List V),vs=[.ref l]/\Sq k K H1 l ys/\R (Ite K k l) H1
theorem pi_enum{X:Cx}{es:List Expr}{kk:Nat}{tpos:Pos}{a:Expr}{ta:TA}{p pos:Pos}(hg:Gl X "enumerate")(hm:X.mg "enumerate"=none)(ha:PA X [a] ta)(hs:starEach [a] X.env=(false,eval a X.env) :: starEach [] X.env:=by rfl)(hpl:(backTo pos (starEach [] X.env)).any (·.1)=false:=by rfl) :
  PI X (.Tuple es kk tpos) (.Call (.Name "enumerate" p) [a] [] pos) (iEnum X.K ta):=by
 intro pins s σ H R I h
 refine Call_ (ld_blt I hg hm boot_enumerate (V4 (thn (ha pos pins s σ H _ I h) λus s1 ⟨vs,H1,I1,r1,q1⟩=>?_) hs hpl))
 obtain⟨k,l,ys,e,q1,q⟩:=q1
 subst e
 obtain rfl:us=[.ref l]:=by cases r1 with|cons r rr=>cases r;cases rr;rfl
 obtain⟨its,rv,p1,z1⟩:=I1.sq q1
 have lt:l < s1.heap.objs.size:=by
  cases k with
  | l=>obtain⟨o,e,_⟩:=p1;exact J0 e
  | t=>obtain⟨o,e,_⟩:=p1;exact J0 e
 refine callType_new F.called_enumerate (by decide) (F.typeCall_enumerate_1 _) (F.newCall_enumerate_1 _) (λobj=>F.args_object_init_2 obj _) F.entry_enumerate_new (enum_new k l its.toArray) ⟨p1,?_⟩
 have zI:(s1.heap.push (itObj k l)).objs.size=s1.heap.objs.size+1:=by simp[M3]
 have gE:(enZ s1.heap k l).get? (s1.heap.push (itObj k l)).objs.size=some _:=M0 _ rfl
 have g1:(enZ s1.heap k l).get? s1.heap.objs.size=some (itObj k l):=i0 _ (M0 _ (by cases k<;>rfl))
 rw[zI]at gE
 show _/\_
 rw[zI]
 have kp:∀b o,s1.heap.get? b=some o->(enZ s1.heap k l).get? b=some o:=λb o e=>i0 _ (i0 _ e)
 refine ⟨⟨_,gE,rfl⟩,wpAny_pyIter_enum (s:={ s1 with heap:=enZ s1.heap k l }) gE ?_⟩
 have n1:(s1.heap.objs.size+1:Nat)≠s1.heap.objs.size:=by omega
 have n2:l≠s1.heap.objs.size:=Y0 lt
 have n3:(s1.heap.objs.size+1:Nat)≠l:=T1 (v6 lt)
 refine ⟨_,[s1.heap.objs.size+1,s1.heap.objs.size],_,_,H1,rfl,I1.kept (t':=s1.toks) kp,turn_enum k _ _ l n1 n2 n3,⟨⟨_,gE⟩,ItAt.new k g1⟩,λb hb=>?_,q⟩
 have hb:s1.heap.objs.size<=b:=by
  have hb:b=s1.heap.objs.size+1\/b=s1.heap.objs.size:=by simpa using hb
  rcases hb with rfl|rfl
  ·exact T2 _ _
  ·exact A0 _
 exact I1.fpOk hb (I1.hok.fresh hb)
end L2
namespace L3
open PySem PySem.Spec PyProof.Rows L2
noncomputable def enumD(ds:List D):List D:=ds.zipIdx.map λp=>V1 [.int (p.2:Nat),p.1]
noncomputable def dIEnum(a:AD):TDI:=λρ Q=>dArgs [a] ρ λxs ρ1=>match lentAny ρ1 xs with
 | false=>looksQ ρ1 xs λds=>match ds with
  | [x]=>match seqD x with
   | some us=>Q (enumD us) ρ1
   | _=>False
  | _=>False
 | true=>False
theorem walks_enum{K:Fg}{F:Hp}{a:Addr}{k1:Kd}{xs:List V}{ds:List D}(e1:F a=some (match k1 with|Kd.l=>HO.lst xs|Kd.t=>HO.tup xs))(h1:DaAll K F xs ds):Walks K (Ite K k1 a) F (enumD ds):=λi H F1 s1 s2=>by
 have q1:Sq k1 K H a xs:=sq_of (s2 _ _ (s1 _ _ e1))
 refine ⟨λd ed=>?_,λhl=>⟨xs,q1,?_⟩⟩
 ·simp only[enumD,O0,v4]at ed
  obtain⟨⟨x,j⟩,ez,rfl⟩:=ed
  rw[List.getElem?_zipIdx,v4]at ez
  obtain⟨x',ex,ep⟩:=ez
  cases ep
  obtain⟨v,g1,g2⟩:=h1.get ex
  refine ⟨⟨xs,v,q1,g1⟩,λz H' ⟨T,y,hT,ex,eH,f1⟩=>?_⟩
  subst ex eH
  have f1:=f1 xs q1
  rw[g1]at f1;cases f1
  have fT:F1 T=none:=by
   cases z:F1 T with
   | none=>rfl
   | some o=>rw[s2 _ _ z]at hT;cases hT
  refine ⟨upd F1 T (.tup [.int (i:Nat),v]),Sub.new fT,λc o ec=>?_,λc o ec=>?_,Sub.new hT,.tup upd_same (.cons (by rw[V5];exact .int _) (.cons (g2.mono (s1.trans (Sub.new fT))) .nil))⟩
  ·by_cases z:c=T
   ·subst z;exact .inr hT
   ·rw[upd_ne z]at ec;exact .inl ec
  ·by_cases z:c=T
   ·subst z;rw[upd_same]at ec ⊢;exact ec
   ·rw[upd_ne z]at ec ⊢;exact s2 _ _ ec
 ·simp only[enumD,j0,List.length_zipIdx]at hl
  rw[h1.length]
  omega
theorem l_enum{K:Fg}{a:AD}{σ:L2.St}{H:Hp}{R:It->Hp->Prop}(h:liftI K (dIEnum a) σ H R):iEnum K (tArgs ([a].map (argT K))) σ H R:=by
 obtain⟨G,F,ρ,Qd,Rl,w,k⟩:=h
 refine args_ok Rl w λvs H' F' xs ρ' sb R' o w1=>?_
 split at w1
 ·rename_i e
  obtain⟨ds,da,w1⟩:=noLent_looks R' e o w1
  split at w1
  ·rename_i x
   split at w1
   ·rename_i us p1
    cases da with
    | cons d1 t =>
     cases t
     obtain⟨k1,a1,us',rfl,e1,g1⟩:=seqF_of d1 p1
     exact ⟨k1,a1,us',rfl,sq_of (R'.sub _ _ e1),k _ H' F' _ ρ' sb R' (walks_enum e1 g1) w1⟩
   ·exact w1.elim
  ·exact w1.elim
 ·exact w1.elim
section
variable {X:Cx}{K:Fg}{e1:Expr}{a:AD}{p pos tpos:Pos}
theorem i_enum{ts:List Expr}{kk:Nat}(hK:X.K=K)(hm:X.mg "enumerate"=none)(ha:WA X [e1] (tArgs ([a].map (argT K))))(hg:Gl X "enumerate":=by rfl)(he:notStar e1=true:=by rfl):WI X (.Tuple ts kk tpos) (.Call (.Name "enumerate" p) [e1] [] pos) (liftI K (dIEnum a)):=by
 subst hK
 exact ⟨piM (pi_enum hg hm ha.h (starEach_of he) (by rfl)) l_enum⟩
end
end L3
namespace L2
open PySem PySem.Spec PyProof.Rows
end L2
namespace L3
open PySem PySem.Spec PyProof.Rows L2
theorem cutS{t u:TDS}{E:DE}{ρ:Ev}(J:Ev->Prop)(h1:∀N:Ev->Prop,(∀ρ',J ρ'->N ρ')->t { nx:=N,rt:=E.rt,bk:=E.bk,ct:=E.ct } ρ)(h2:∀ρ',J ρ'->u E ρ'):dSeq t u E ρ:=h1 _ h2
end L3
namespace L2
open PySem PySem.Spec PyProof.Rows
section
variable {P:Program}{w:World}{A:Around}{E:Value->Shared->Prop}{s:Shared}{S:Addr}{σ:List Int}{ld:Bool}{o:Obj}{es:Array (Int×Value)}{ep:Nat}{t:SetTable}
theorem upd_oth{h:Heap}{I:Addr}{f:Obj->Obj}{b:Addr}{u:Obj}(n:b≠I)(q:h.get? b=some u):(h.update I f).get? b=some u:=(V3 _ _ (v3 n)).trans q
end
open PySem PySem.Spec PyProof.Rows PySem.W
theorem sh_at{h:Heap}{a:Addr}{vs:List Value}{n:Nat}{out:Array Value}(q:h.get? a=some (seqObj "list" vs.toArray n)):(∃e,(sortedHeap h a vs out).get? a=some (seqObj "list" out e))/\∀b u,b≠a->h.get? b=some u->(sortedHeap h a vs out).get? b=some u:=by
 obtain⟨e1,g1⟩:∃e1,(h.update a (U1 λ_=>#[])).get? a=some (seqObj "list" #[] e1):=⟨_,get?_update_seq q (λ_=>#[])⟩
 have g2:=i0 (seqObj "list" #[] 0) (i0 (seqObj "tuple" vs.toArray 0) g1)
 exact ⟨⟨_,get?_update_seq g2 (λ_=>out)⟩,λb u nb z=>upd_oth nb (i0 _ (i0 _ (upd_oth nb z)))⟩
section
variable {P:Program}{w:World}{A:Around}{E:Value->Shared->Prop}{s:Shared}{S:Addr}{σ:List Int}
end
end L2
namespace HT
open PySem PyProof.Rows
section
open PySem.SeqAt
open PySem.AutoSeq1 (wpAny_loadPart')
open PySem.MeetsSeq PySem.MeetsSeq2 PySem.MeetsSeq3
variable {prog:Program}{w:World}{A:Around}{E:Value->Shared->Prop}{s:Shared}
theorem whole_tup{t sl:Addr}{items:Array Value}{vl vu:Value}{lo hi:Option Int}{Q:Value->Shared->Prop}(hT:IsTup s.heap t items)(hS:s.heap.IsSliceOf sl vl vu .none)(p1:IsPart vl lo)(p2:IsPart vu hi)
  (z1:sIx items.size 0 lo=0) (z2:sIx items.size items.size hi=items.size) (q:Q (.ref t) s):wpAny (model prog w) A (getItem (.ref t) (.ref sl)) Q E s:=by
 obtain⟨os,g1,g2,g3⟩:=id hS
 have tS:s.TypeIs (.ref sl) "slice":=⟨os,g1,g2⟩
 unfold getItem
 try with_reducible refine wpAny_holding ?_
 first|refine wpAny_bind (wpAny_pure ?_)|skip
 refine wpAny_bind (wpAny_sequenceKey hT.typeIs (by decide) ?_)
 refine wpAny_bind (wpAny_callSpecial?_slot (name:=Str.ofString "__getitem__") hT.typeIs L4 (wpAny_call_entry L4 hT.typeIs entry_tuple_getitem ?_ (args_tuple_getitem _ _)))
 show wpAny _ _ (N7 (.ref t) >>= _) _ _ s
 refine wpAny_bind (tupleItemsOf_ hT (wpAny_bind (wpAny_typeOf tS ?_)))
 rw[if_pos (by decide)]
 refine wpAny_bind (sliceApplied_gen hS p1 p2 ?_)
 have yes:((((sIx items.size 0 lo:Nat):Int)==0&&(1:Int)==1&&(sIx items.size items.size hi - sIx items.size 0 lo)==items.size)=true):=by
  rw[z1,z2]
  simp
 show wpAny _ _ (if (((sIx items.size 0 lo:Nat):Int)==0&&(1:Int)==1&&(sIx items.size items.size hi - sIx items.size 0 lo)==items.size)=true then _ else _) _ _ s
 rw[if_pos yes]
 refine wpAny_bind (m:=Builtin.Tuple.tupleIsExact _) (wpAny_bind (wpAny_typeOf hT.typeIs (wpAny_pure ?_)))
 rw[if_pos (by decide)]
 exact wpAny_bind (wpAny_rule (wpAny_pure ⟨_,rfl,wpAny_pure q⟩))
end
end HT
namespace L2
open PySem PySem.Spec PyProof.Rows
noncomputable def rSlA(K:n0):V->Option Int->Option Int->Hp->VK->Prop:=λx lo hi H Q=>∃a xs,x=.ref a/\SqT K H a xs /\
 (cutV xs lo hi=xs->Q (.ref a) H)/\∀p,H p=none->Q (.ref p) (upd H p (.tup (cutV xs lo hi)))
theorem sl_tupA{X:Cx}:SlR X (rSlA X.K):=by
 intro pins s σ H x v vl vu lo hi sl Q I rx hS p1 p2 h
 obtain⟨a,xs,rfl,hx,q1,q2⟩:=h
 by_cases z:HT.sIx xs.length 0 lo=0/\HT.sIx xs.length xs.length hi=xs.length
 ·cases rx
  obtain⟨its,r,hT,hz⟩:=I.tuple hx
  have hl:its.toArray.size=xs.length:=by rw[N0];exact r.length.symm
  refine ⟨"tuple",_,L4.lookup,hT.typeIs,HT.whole_tup hT hS p1 p2 (by rw[hl];exact z.1) (by rw[hl];exact z.2) ⟨.ref a,H,I,rfl,q1 ?_⟩⟩
  unfold cutV
  rw[z.1,z.2]
  simp
 ·exact sl_tup pins s σ H (.ref a) v vl vu lo hi sl Q I rx hS p1 p2 ⟨a,xs,rfl,hx,z,q2⟩
theorem cutV_hi(xs:List V){j:Int}(hj:0<=j):cutV xs none (some j)=xs.take j.toNat:=by
 unfold cutV
 have e2:HT.sIx xs.length xs.length (some j)=min j.toNat xs.length:=by
  show (if j < 0 then (j+(xs.length:Int)).toNat else min j.toNat xs.length)=_
  rw[if_neg (by omega)]
 rw[e2]
 show (xs.drop 0).take (min j.toNat xs.length - 0)=_
 rw[List.drop_zero,Nat.sub_zero]
 by_cases h2:j.toNat<=xs.length
 ·rw[o7 h2]
 ·rw[Nat.min_eq_right (by omega),S2 (by omega),S2 (by omega)]
end L2
namespace L3
open PySem PySem.Spec PyProof.Rows L2
noncomputable def dSl3(a b c:AD)(f:D->Int->Int->(Sl->Prop)->Prop):TD:=λρ Q=>dArgs [a,b] ρ λxs ρ1=>looksQ ρ1 xs λds=>match ds with
 | [_,.int i]=>dArgs [c] ρ1 λzs ρ2=>looksQ ρ2 (xs.take 1++zs) λes=>match es with
  | [d,.int j]=>f d i j λr=>Q r ρ2
  | _=>False
 | _=>False
noncomputable def rSl2(r:V->Option Int->Option Int->Hp->VK->Prop):R2:=λx z H Q=>∃j,z=.int j/\r x none (some j) H Q
noncomputable def fSl3T:D->Int->Int->(Sl->Prop)->Prop
 | .tuple ds,i,j,Q=>0<=i/\0<=j/\Q (.fz (.tuple ((ds.take j.toNat).drop i.toNat)))
 | _,_,_,_=>False
noncomputable def fSl2T:D->D->(Sl->Prop)->Prop
 | .tuple ds,.int j,Q=>0<=j/\Q (.fz (.tuple (ds.take j.toNat)))
 | _,_,_=>False
theorem ok_sl2T{K:Fg}:OpOk K (r2L (rSl2 (rSlA K))) (o2 fSl2T):=ok2 λG F σ H ρ x y d e Q Qd R h1 h2 w k=>by
 cases d<;>first|exact w.elim|(cases e<;>first|exact w.elim|skip)
 rename_i ds j
 obtain⟨w1,w⟩:=w
 cases h2.int
 obtain⟨a,us,rfl,f1,e1,d1⟩:=h1.tuple R.sub
 have dc:=d1.take j.toNat
 refine ⟨j,rfl,a,us,rfl,SqT.of e1,λz=>?_,λp hp=>?_⟩
 ·rw[cutV_hi us w1]at z
  refine k _ H F (.fz _) (Sub.refl _) R (Da.tup f1 ?_) w
  rw[z]at dc
  exact dc
 ·rw[cutV_hi us w1]
  obtain⟨sb,R',dd⟩:=R.newTup hp dc
  exact k _ _ _ (.fz _) sb R' dd w
section
variable {X:Cx}{K:Fg}{e1 e2 e3:Expr}{a b c:AD}{p pos p2 apos cpos:Pos}{x:Str}
theorem w_sl2T(hK:X.K=K)(ha:WE X e1 (argT K a))(hb:WE X e2 (argT K b)):WE X (.Subscript e1 (.Slice none (some e2) none p2) pos) (lift K (dOp [a,b] (o2 fSl2T))):=by
 subst hK
 exact ⟨peM (pe_slice sl_tupA ha.h po_none (po_some hb.h)) λq=>arg2 (P:=λx z H=>rSl2 (rSlA X.K) x z H _) (l_op ok_sl2T q)⟩
end
end L3
namespace L2
open PySem PySem.Spec PyProof.Rows PySem.W
noncomputable abbrev Bxx:=List Int×List Int
noncomputable def ltB(x y:Bxx):Bool:=if x.1=y.1 then HT.lexLt x.2 y.2 else HT.lexLt x.1 y.1
theorem ltB_wk:SG.Wk ltB:=by
 have W:=SG.lex_wk
 refine ⟨λa=>?_,λa b c h1 h2=>?_,λa b c h1 h2=>?_⟩
 ·unfold ltB;rw[if_pos rfl];exact W.irr _
 ·unfold ltB at h1 h2 ⊢
  by_cases e1:a.1=b.1
  ·rw[if_pos e1]at h1
   by_cases e2:b.1=c.1
   ·rw[if_pos e2]at h2
    rw[if_pos (e1.trans e2)]
    exact W.tr _ _ _ h1 h2
   ·rw[if_neg e2]at h2
    rw[if_neg (by rw[e1];exact e2),e1]
    exact h2
  ·rw[if_neg e1]at h1
   by_cases e2:b.1=c.1
   ·rw[if_neg (by rw[<- e2];exact e1),<- e2]
    exact h1
   ·rw[if_neg e2]at h2
    have h3:=W.tr _ _ _ h1 h2
    rw[if_neg (λz=>by rw[z,W.irr]at h3;cases h3)]
    exact h3
 ·unfold ltB at h1 h2 ⊢
  by_cases e1:a.1=b.1
  ·rw[if_pos e1]at h1
   by_cases e2:b.1=c.1
   ·rw[if_pos e2]at h2
    rw[if_pos (e1.trans e2)]
    exact W.nt _ _ _ h1 h2
   ·rw[if_neg e2]at h2
    rw[if_neg (by rw[e1];exact e2),e1]
    exact h2
  ·rw[if_neg e1]at h1
   by_cases e2:b.1=c.1
   ·rw[if_neg (by rw[<- e2];exact e1),<- e2]
    exact h1
   ·rw[if_neg e2]at h2
    have h3:=W.nt _ _ _ h1 h2
    by_cases e3:a.1=c.1
    ·exfalso
     rw[<- e3]at h2
     exact e1 (SG.lex_eq h1 h2)
    ·rw[if_neg e3];exact h3
theorem ltB_eq{a b:Bxx}(h1:ltB a b=false)(h2:ltB b a=false):a=b:=by
 unfold ltB at h1 h2
 by_cases e:a.1=b.1
 ·rw[if_pos e]at h1
  rw[if_pos e.symm]at h2
  have:=SG.lex_eq h1 h2
  cases a;cases b;cases e;cases this;rfl
 ·rw[if_neg e]at h1
  rw[if_neg (λz=>e z.symm)]at h2
  exact absurd (SG.lex_eq h1 h2) e
noncomputable def RepB(H:Hp)(c:Addr)(x:Bxx):Prop:=∃a b,H c=some (.tup [.ref a,.ref b])/\H a=some (.tup (x.1.map V.int))/\H b=some (.tup (x.2.map V.int))
noncomputable def fnB(H:Hp):V->Bxx
 | .ref c=>match H c with
  | some (.tup [x,y])=>(fnT H x,fnT H y)
  | _=>([],[])
 | _=>([],[])
theorem fnT_is{H:Hp}{c:Addr}{r:List Int}(h:H c=some (.tup (r.map V.int))):fnT H (.ref c)=r:=by
 show (match H c with|some (.tup xs)=>xs.map unV|_=>[])=r
 rw[h]
 exact unV_ints r
theorem fnB_of(H:Hp)(c:Addr)(x:Bxx)(h:RepB H c x):fnB H (.ref c)=x:=by
 obtain⟨a,b,h1,h2,h3⟩:=h
 show (match H c with|some (.tup [x,y])=>(fnT H x,fnT H y)|_=>([],[]))=x
 rw[h1]
 show (fnT H (.ref a),fnT H (.ref b))=x
 rw[fnT_is h2,fnT_is h3]
theorem eqTupB{X:Cx}{pins:List (Addr×Obj)}{σ:St}{H:Hp}{s:Shared}{a b:Addr}{x y:List Int}{A:Around}(I:Inv X pins σ H s)(hu:A.units < cLine)(ha:H a=some (.tup (x.map V.int)))(hb:H b=some (.tup (y.map V.int))){s':Shared}(k:∀b o,s.heap.get? b=some o->s'.heap.get? b=some o) :
  SeqAt.EqAt A s' (.ref a) (.ref b) (decide (x=y)):=by
 by_cases e:a=b
 ·subst e
  rw[ha]at hb
  injection hb with hb;injection hb with hb
  rw[ints_inj hb,decide_eq_true rfl]
  exact SeqAt.EqAt.same _
 ·have I':Inv X pins σ H { s with heap:=s'.heap }:=I.kept (t':=s.toks) k
  obtain⟨_,ia,ra,ta⟩:=(show ObjOk X.prog X.w H s'.heap a (.tup (x.map V.int)) from I'.hok a _ ha)
  obtain⟨_,ib,rb,tb⟩:=(show ObjOk X.prog X.w H s'.heap b (.tup (y.map V.int)) from I'.hok b _ hb)
  have la:=ra.length
  have lb:=rb.length
  rw[j0]at la lb
  have h:=SeqAt.RcAt.tuples (A:=A) (s:=s') (e:=λk=>x.getD k 0==y.getD k 0) ta.t tb.t hu λj h1 h2=>by
   obtain⟨t1,e1⟩:=vals_intsAt ra (k:=j) (by simpa using h1)
   obtain⟨t2,e2⟩:=vals_intsAt rb (k:=j) (by simpa using h2)
   simp only[List.getElem_toArray]
   rw[e1,e2]
   exact SeqAt.EqAt.int_int _ _ _ _
  have hv:((G3 (min ia.toArray.size ib.toArray.size)).all (λk=>x.getD k 0==y.getD k 0)&&ia.toArray.size==ib.toArray.size)=decide (x=y):=by
   simp only[N0,<- la,<- lb]
   by_cases z:x=y
   ·subst z
    rw[decide_eq_true rfl]
    simp
   ·rw[decide_eq_false z,w6]
    intro hb
    rw[W1,J3,beq_iff_eq]at hb
    refine z (List.ext_getElem hb.2 λk k1 k2=>?_)
    have:=hb.1 k (S5.mpr (by omega))
    rw[beq_iff_eq,Z1,Z1,y0 k1,y0 k2]at this
    exact this
  rw[<- hv]
  exact SeqAt.EqAt.of_refs e h
end L2
namespace L3
open PySem PySem.Spec PyProof.Rows L2
noncomputable abbrev boxD(b:Bxx):D:=.tuple [.tuple (b.1.map G0),.tuple (b.2.map G0)]
theorem repB_da{K:Fg}{F:Hp}{c:Addr}{r:Bxx}(h:RepB F c r):Da K F (.ref c) (boxD r):=by
 obtain⟨a,b,h1,h2,h3⟩:=h
 exact .tup h1 (.cons (.tup h2 (DaAll.ints _)) (.cons (.tup h3 (DaAll.ints _)) .nil))
theorem cutV_lo(us:List V){i:Int}(h:0<=i):cutV us (some i) none=us.drop i.toNat:=by
 unfold cutV
 have e1:HT.sIx us.length 0 (some i)=min i.toNat us.length:=by
  show (if i < 0 then (i+(us.length:Int)).toNat else min i.toNat us.length)=_
  rw[if_neg (by omega)]
 rw[e1]
 show (us.drop (min i.toNat us.length)).take (us.length - min i.toNat us.length)=_
 rw[S2 (by rw[E2];exact A0 _)]
 by_cases z:i.toNat<=us.length
 ·rw[o7 z]
 ·rw[Nat.min_eq_right (by omega),A4 (A0 _),A4 (by omega)]
noncomputable def rSl1(r:V->Option Int->Option Int->Hp->VK->Prop):R2:=λx z H Q=>∃j,z=.int j/\r x (some j) none H Q
noncomputable def fSl1T:D->D->(Sl->Prop)->Prop
 | .tuple ds,.int j,Q=>0<=j/\Q (.fz (.tuple (ds.drop j.toNat)))
 | _,_,_=>False
theorem ok_sl1T{K:Fg}:OpOk K (r2L (rSl1 (rSlA K))) (o2 fSl1T):=ok2 λG F σ H ρ x y d e Q Qd R h1 h2 w k=>by
 cases d<;>first|exact w.elim|(cases e<;>first|exact w.elim|skip)
 rename_i ds j
 obtain⟨w1,w⟩:=w
 cases h2.int
 obtain⟨a,us,rfl,f1,e1,d1⟩:=h1.tuple R.sub
 have dc:=d1.drop j.toNat
 refine ⟨j,rfl,a,us,rfl,SqT.of e1,λz=>?_,λp hp=>?_⟩
 ·rw[cutV_lo us w1]at z
  refine k _ H F (.fz _) (Sub.refl _) R (Da.tup f1 ?_) w
  rw[z]at dc
  exact dc
 ·rw[cutV_lo us w1]
  obtain⟨sb,R',dd⟩:=R.newTup hp dc
  exact k _ _ _ (.fz _) sb R' dd w
theorem w_sl1T{X:Cx}{K:Fg}{e1 e2:Expr}{a b:AD}{pos p2:Pos}(hK:X.K=K)(ha:WE X e1 (argT K a))(hb:WE X e2 (argT K b)):WE X (.Subscript e1 (.Slice (some e2) none none p2) pos) (lift K (dOp [a,b] (o2 fSl1T))):=by
 subst hK
 exact ⟨peM (pe_slice sl_tupA ha.h (po_some hb.h) po_none) λq=>arg2 (P:=λx z H=>rSl1 (rSlA X.K) x z H _) (l_op ok_sl1T q)⟩
theorem DaAll.eraseIdx{K:Fg}{F:Hp}:∀{xs:List V}{ds:List D} (_:DaAll K F xs ds) (k:Nat),DaAll K F (xs.eraseIdx k) (ds.eraseIdx k)
 | _,_,.nil,_=>.nil
 | _,_,.cons _ t,0=>t
 | _,_,.cons h t,k+1=>.cons h (DaAll.eraseIdx t k)
noncomputable def fPopAt:List D->List D->(D->D->Prop)->Prop
 | es,[.int i],k=>0<=i/\i < es.length/\i < 2 ^ 63/\∀d,es[i.toNat]?=some d->k (.list (es.eraseIdx i.toNat)) d
 | _,_,_=>False
theorem ok_popAt{K:Fg}:MOk K rPopAt fPopAt:=by
 intro F H a xs es vs ds Q k s e d1 d2 w q
 rcases ds with _|⟨d,_|⟨x,ds⟩⟩<;>first|exact w.elim|(cases d<;>first|exact w.elim|skip)
 rename_i i
 obtain⟨w0,w1,w2,w3⟩:=w
 cases d2 with|cons h t=>?_
 cases t
 cases h
 have hi:i.toNat < es.length:=by omega
 obtain⟨v,h1,h2⟩:=d1.get (y0 hi)
 exact ⟨a,xs,i,i.toNat,v,rfl,rfl,e,by omega,w2,by rw[d1.length];exact seqIndex_of w0 w1,h1,q v (.lst (xs.eraseIdx i.toNat)) (.list (es.eraseIdx i.toNat)) _ (d1.eraseIdx _) h2 (w3 _ (y0 hi))⟩
end L3
namespace L2
open PySem PySem.Spec PyProof.Rows
section
variable {P:Program}{w:World}{κ:Type}[DecidableEq κ]{kd:KeyKind P w κ}
variable {A:Around}{E:Value->Shared->Prop}{s:Shared}
end
section
variable {X:Cx}
end
end L2
namespace L3
open PySem PySem.Spec L2 PyProof.Rows
section
variable {X:Cx}{K:Fg}{e e1:Expr}{a:AD}{p pos p2:Pos}
theorem hu6_of{A:Around}{k:Nat}(hr:Room k A):A.units+6 < cLine:=Q1 (y7 (by decide:6<=64) _) hr.units
end
end L3
namespace L2
open PySem PySem.Spec PyProof.Rows
section
variable {prog:Program}{w:World}{A:Around}{E:Value->Shared->Prop}{s:Shared}
theorem own_items:t7 "dict_itemiterator"=true:=by decide
theorem no_none(d:Addr):¬((X1 d==Q3)=true):=G1
theorem it_next{it d:Addr}{i ep:Nat}{es:Array DictEntry}{ok ov:Value}{od:Obj}{Q:Option Value->Shared->Prop}(x:IsItemIter s.heap it d i es.size ep ok ov)(y:s.heap.get? d=some od)(yd:od.data=.dict es ep)(hi:i < es.size)
  (q:∀h',IsItemIterOut h' it d (i+1) es.size ep es[i].key es[i].val s.heap.objs.size->h'.get? s.heap.objs.size=some { cls:=.type "tuple",data:=.seq #[es[i].key,es[i].val] }->h'.objs.size=s.heap.objs.size+1 ->
    (∀b o,b≠it->s.heap.get? b=some o->h'.get? b=some o)->Q (some (.ref s.heap.objs.size)) { s with heap:=h' }) :
  wpAny (model prog w) A (pyNext (.ref it)) Q E s:=by
 obtain⟨hp,g,dr,tk,os⟩:=s
 have ty:Shared.TypeIs ⟨hp,g,dr,tk,os⟩ (.ref it) "dict_itemiterator":=⟨_,x,rfl⟩
 have lt0:it < hp.objs.size:=J0 x
 have ne0:hp.objs.size≠it:=T1 lt0
 unfold pyNext
 refine wpAny_bind (wpAny_attempt (wpAny_callSpecial?_slot (name:=Str.ofString "__next__") ty F.slot_dict_itemiterator_next (wpAny_call_entry F.slot_dict_itemiterator_next ty F.entry_dict_itemiterator_next ?_ (F.args_dict_itemiterator_next_1 _))))
 refine wpAny_bind (wpAny_pure (wpAny_bind (wpAny_bind ?_)))
 first|refine wpAny_bind (wpAny_typeNameOfWhole_itemiter ty (wpAny_pure ?_))|refine wpAny_bind (wpAny_typeNameOf_itemiter ty (wpAny_pure ?_))
 refine wpAny_bind (wpAny_fieldsOf x rfl ?_)
 simp only[own_items,if_true]
 show wpAny _ _ (if (X1 d==Q3)=true then _ else _) _ _ _
 rw[if_neg (no_none d)]
 refine wpAny_bind (wpAny_pure (wpAny_bind (wpAny_dictEntries y yd ?_)))
 rw[if_neg (by simp)]
 refine wpAny_bind (wpAny_pure (wpAny_bind (wpAny_dictEpoch y yd ?_)))
 rw[if_neg (by simp)]
 refine wpAny_pure ?_
 simp only[show ¬((i:Int) < 0) from by omega,if_false,Y3,M4 hi]
 refine wpAny_bind ?_
 first|refine wpAny_bind (wpAny_typeNameOfWhole_itemiter ty (wpAny_pure ?_))|refine wpAny_bind (wpAny_typeNameOf_itemiter ty (wpAny_pure ?_))
 refine wpAny_bind (wpAny_isOneOf_itemiter ty ?_)
 show wpAny _ _ (setField (.ref it) 3 (rawInt ((i:Int)+1)) >>= _) _ _ ⟨hp,g,dr,tk,os⟩
 refine wpAny_bind (wpAny_setField_rec x (by simp) λh1 x1 s1=>?_)
 have s1:Y2 it hp h1:=s1
 have x1:IsItemIter h1 it d (i+1) es.size ep ok ov:=by
  unfold IsItemIter
  rw[show ((i+1:Nat):Int)=(i:Int)+1 by omega]
  simpa [rawInt]using x1
 have ty1:Shared.TypeIs ⟨h1,g,dr,tk,os⟩ (.ref it) "dict_itemiterator":=⟨_,x1,rfl⟩
 refine wpAny_bind (wpAny_holding (wpAny_bind (wpAny_isOneOf_itemiter ty1 (wpAny_bind (wpAny_isOneOf_itemiter ty1 ?_)))))
 show wpAny _ _ (B4 (.ref it) 6 es[i].key es[i].val) _ _ ⟨h1,g,dr,tk,os⟩
 unfold B4
 refine wpAny_bind (wpAny_newTuple ?_)
 have z1:h1.objs.size=hp.objs.size:=s1.1
 obtain⟨h2,e2⟩:∃h2,h2=h1.push { cls:=.type "tuple",data:=.seq #[es[i].key,es[i].val] }:=⟨_,rfl⟩
 have x2:IsItemIter h2 it d (i+1) es.size ep ok ov:=by rw[e2];exact i0 _ x1
 have t2:h2.get? hp.objs.size=some { cls:=.type "tuple",data:=.seq #[es[i].key,es[i].val] }:=by rw[e2,<- z1];exact M0 _ rfl
 have z2:h2.objs.size=hp.objs.size+1:=by rw[e2,M3,z1]
 have k2:∀b o,b≠it->hp.get? b=some o->h2.get? b=some o:=λb o hb e=>by rw[e2];exact i0 _ (s1.extBut b o hb e)
 rw[<- e2]
 show wpAny _ _ (j4 (.ref it) >>= _) _ _ ⟨h2,g,dr,tk,os⟩
 rw[z1]
 refine wpAny_bind ?_
 unfold j4
 refine wpAny_bind (wpAny_field x2 rfl (x:=.none) rfl (wpAny_pure ?_))
 simp only[if_true]
 refine wpAny_bind (wpAny_field x2 rfl (x:=ok) rfl (wpAny_bind (wpAny_field x2 rfl (x:=ov) rfl ?_)))
 refine wpAny_bind (wpAny_setField_rec x2 (by simp) λh3 x3 s3=>?_)
 have s3:Y2 it h2 h3:=s3
 have x3:IsItemIter h3 it d (i+1) es.size ep es[i].key ov:=x3
 refine wpAny_bind (wpAny_setField_rec x3 (by simp) λh4 x4 s4=>?_)
 have s4:Y2 it h3 h4:=s4
 have x4:IsItemIter h4 it d (i+1) es.size ep es[i].key es[i].val:=x4
 refine wpAny_bind (wpAny_setField_rec x4 (by simp) λh5 x5 s5=>?_)
 have s5:Y2 it h4 h5:=s5
 have x5:IsItemIterOut h5 it d (i+1) es.size ep es[i].key es[i].val hp.objs.size:=x5
 refine wpAny_bind (wpAny_setField_rec x5 (by simp) λh6 x6 s6=>?_)
 have s6:Y2 it h5 h6:=s6
 have go:∀b o,b≠it->h2.get? b=some o->h6.get? b=some o:=λb o hb e=>s6.extBut b o hb (s5.extBut b o hb (s4.extBut b o hb (s3.extBut b o hb e)))
 refine wpAny_bind (wpAny_letGo (wpAny_pure (wpAny_pure ⟨_,rfl,wpAny_pure (q h6 x6 (go _ _ ne0 t2) ?_ λb o hb e=>go b o hb (k2 b o hb e))⟩)))
 show h6.objs.size=hp.objs.size+1
 rw[s6.1,s5.1,s4.1,s3.1,z2]
theorem it_end{it d:Addr}{i ep:Nat}{es:Array DictEntry}{ok ov:Value}{od:Obj}{Q:Option Value->Shared->Prop}(hh:A.handled=none)(x:IsItemIter s.heap it d i es.size ep ok ov)(y:s.heap.get? d=some od)(yd:od.data=.dict es ep)(hi:es.size<=i)
  (q:∀h',g7 it s.heap h'->Q none { s with heap:=h' }):wpAny (model prog w) A (pyNext (.ref it)) Q E s:=by
 have ty:s.TypeIs (.ref it) "dict_itemiterator":=⟨_,x,rfl⟩
 unfold pyNext
 refine wpAny_bind (wpAny_attempt (wpAny_callSpecial?_slot (name:=Str.ofString "__next__") ty F.slot_dict_itemiterator_next (wpAny_call_entry F.slot_dict_itemiterator_next ty F.entry_dict_itemiterator_next ?_ (F.args_dict_itemiterator_next_1 _))))
 refine wpAny_bind (wpAny_pure (wpAny_bind (wpAny_bind ?_)))
 first|refine wpAny_bind (wpAny_typeNameOfWhole_itemiter ty (wpAny_pure ?_))|refine wpAny_bind (wpAny_typeNameOf_itemiter ty (wpAny_pure ?_))
 refine wpAny_bind (wpAny_fieldsOf x rfl ?_)
 simp only[own_items,if_true]
 show wpAny _ _ (if (X1 d==Q3)=true then _ else _) _ _ s
 rw[if_neg (no_none d)]
 refine wpAny_bind (wpAny_pure (wpAny_bind (wpAny_dictEntries y yd ?_)))
 rw[if_neg (by simp)]
 refine wpAny_bind (wpAny_pure (wpAny_bind (wpAny_dictEpoch y yd ?_)))
 rw[if_neg (by simp)]
 refine wpAny_pure ?_
 simp only[show ¬((i:Int) < 0) from by omega,if_false,Y3,L6 hi]
 refine wpAny_bind ?_
 first|refine wpAny_bind (wpAny_typeNameOfWhole_itemiter ty (wpAny_pure ?_))|refine wpAny_bind (wpAny_typeNameOf_itemiter ty (wpAny_pure ?_))
 show wpAny _ _ (setField (.ref it) 2 .none >>= _) _ _ s
 refine wpAny_bind (wpAny_setField x rfl (by simp) ?_)
 show wpAny _ _ (newExc (.type "StopIteration") [] >>= _) _ _ _
 refine wpAny_bind ?_
 simp only[newExc,newTuple]
 refine wpAny_bind (wpAny_newObj_type ?_ (by size_fits))
 refine wpAny_bind (m:=firstArgMember _ _) (wpAny_of_eq (a:=Q3) (by first|rfl|(simp only[firstArgMember];rfl)) ?_)
 refine wpAny_newObj_type ?_ (by size_fits)
 simp only[raiseNew]
 refine wpAny_bind (wpAny_handled ?_)
 rw[show A.in1.handled=none from hh]
 refine wpAny_bind (wpAny_pure (wpAny_throw ?_))
 refine wpAny_bind (wpAny_isInstance (b:=true) (T:="StopIteration") ⟨_,M0 _ rfl,rfl⟩ isSubtype_stop ?_)
 exact wpAny_pure (q _ (((G4 ..).extBut.push _).push _))
theorem it_view{v d:Addr}{es:Array DictEntry}{ep:Nat}{od:Obj}{Q:Value->Shared->Prop}(hv:s.heap.IsItemsView v d)(y:s.heap.get? d=some od)(yd:od.data=.dict es ep)
  (q:Q (.ref s.heap.objs.size) { s with heap:=s.heap.push { cls:=.type "dict_itemiterator",data:=.fields #[.none,.bool false,.ref d,.int 0 0,.int es.size 0,.int ep 0,.none,.none] } }) :
  wpAny (model prog w) A (pyIter (.ref v)) Q E s:=by
 obtain⟨ov,e1,e2,e3⟩:=id hv
 refine wpAny_pyIter_slot hv.typeIs F.slot_dict_items_iter (wpAny_call_entry F.slot_dict_items_iter hv.typeIs F.entry_dict_items_iter ?_ (F.args_dict_items_iter_1 _))
 unfold Builtin.«dict_items.__iter__»
 refine wpAny_bind (wpAny_pure (wpAny_bind ?_))
 unfold Builtin.Dict_items.dictOf
 refine wpAny_bind (wpAny_field e1 e3 (x:=.ref d) rfl (wpAny_pure (wpAny_bind ?_)))
 unfold Builtin.Dict_items.newIterator
 refine wpAny_bind (wpAny_dictEntries y yd (wpAny_bind (wpAny_dictEpoch y yd ?_)))
 simp only[own_items,if_true]
 refine wpAny_newObj_type (wpAny_pure ⟨_,rfl,"dict_itemiterator",_,⟨_,M0 _ rfl,rfl⟩,F.slot_dict_itemiterator_next.lookup,?_⟩)
  (by simp only[sizeOk,e6,N0,B0,B2,i7,sizeLine_eq];omega)
 simpa [rawInt,e6]using q
end
theorem prd_get{α β:Type}{R:α->β->Prop}:∀{l:List α}{m:List β},Paired R l m->∀{i:Nat}{x:α},l[i]?=some x->∃y,m[i]?=some y/\R x y
 | _,_,.nil,i,x,h=>by simp at h
 | _,_,.cons r t,0,x,h=>by
  simp only[e8,Option.some.injEq]at h
  subst h
  exact ⟨_,rfl,r⟩
 | _,_,.cons r t,i+1,x,h=>by
  simp only[o4]at h
  obtain⟨y,e,ry⟩:=prd_get t h
  exact ⟨y,e,ry⟩
section
variable {κ:Type}{hs:κ->Int}
theorem ext_same{P:Program}{w:World}{H:Hp}{h:Heap}{d d':Addr}{ep:Nat}{xs:List (κ×Addr×V)}(e:ObjOk P w H h d (extD hs d' ep xs)):d'=d:=by
 obtain⟨f,⟨o,ho⟩,st⟩:=e
 by_cases z:d'=d
 ·exact z
 exfalso
 obtain⟨⟨vs,pr,o',es,e1,e2,e3,e4⟩,_⟩:=id f
 obtain⟨⟨vs2,_,o2,es2,g1,g2,_⟩,_⟩:=st h (h.update d' λ_=>{ cls:=.type "tuple",data:=.seq #[] }) f λq hq=>by rw[B3 _ d d' _ (v3 z)];exact hq
 have g3:(h.update d' λ_=>{ cls:=.type "tuple",data:=.seq #[] }).get? d'=some { cls:=.type "tuple",data:=.seq #[] }:=u3 _ e1 rfl
 rw[g3]at g1
 injection g1 with g1
 rw[<- g1]at g2
 exact absurd g2.1 (by decide)
theorem ext_at{X:Cx}{pins:List (Addr×Obj)}{σ:St}{H:Hp}{s:Shared}{d d':Addr}{ep:Nat}{xs:List (κ×Addr×V)}(I:Inv X pins σ H s)(e:H d=some (extD hs d' ep xs)) :
  ∃(vs:List (κ×Addr×Value)) (o:Obj) (es:Array DictEntry),Paired (λx v=>x.1=v.1/\x.2.1=v.2.1/\RelV x.2.2 v.2.2) xs vs/\s.heap.get? d=some o/\o.ExactDict/\o.data=.dict es ep/\(es.toList=vs.map λx=>⟨hs x.1,.ref x.2.1,x.2.2⟩)/\es.size=xs.length/\(xs.map (·.1)).Nodup/\xs.length<=sizeLine/\(d==sysModules)=false:=by
 have ed:=ext_same (show ObjOk X.prog X.w H s.heap d (extD hs d' ep xs) from I.hok d _ e)
 subst ed
 obtain⟨⟨⟨vs,pr,o,es,e1,e2,e3,e4⟩,nd,hl,hm⟩,_⟩:=(show ObjOk X.prog X.w H s.heap d' (extD hs d' ep xs) from I.hok d' _ e)
 refine ⟨vs,o,es,pr,e1,e2,e3,e4,?_,nd,hl,hm⟩
 have:=congrArg S4 e4
 rw[j0,<- pr.length]at this
 simpa using this
theorem items_call{prog:Program}{w:World}{A:Around}{E:Value->Shared->Prop}{s:Shared}{d:Addr}{o:Obj}{Q:Value->Shared->Prop}(hm:(d==sysModules)=false)(e:s.heap.get? d=some o)(hx:o.ExactDict)
  (q:Q (.ref s.heap.objs.size) { s with heap:=s.heap.push { cls:=.type "dict_items",data:=.fields #[.ref d] } }):wpAny (model prog w) A (call (.builtin "dict.items") [.ref d]) Q E s:=by
 have ty:s.TypeIs (.ref d) "dict":=⟨o,e,hx.1⟩
 refine wpAny_call_entry PySem.F.slot_dict_items ty PySem.F.entry_dict_items ?_ (PySem.F.args_dict_items_1 _)
 unfold Builtin.«dict.items»
 refine wpAny_bind ?_
 unfold Builtin.Dict.noArgs
 refine wpAny_bind (wpAny_notOrdered_dict ty ?_)
 show wpAny _ _ (pure d) _ _ s
 refine wpAny_pure ?_
 show wpAny _ _ (j5 d >>= _) _ _ s
 unfold j5
 rw[if_neg (by rw[hm];decide)]
 exact wpAny_bind (wpAny_pure (wpAny_bind (wpAny_newObj_type (wpAny_pure ⟨_,rfl,q⟩))))
end
theorem ints_are{P:Program}{w:World}:∀{ks:List Int}{us:List Value},Vals (ks.map V.int) us->ItemsAre (intKind P w) ks us
 | [],_,r=>by cases r;exact .nil
 | k :: ks,_,r=>by
  cases r with
  | cons h t =>
   obtain⟨tk,rfl⟩:=h
   exact .cons (by show A8 k (.int k tk)=true;simp[A8]) (ints_are t)
theorem prd_snoc{α β:Type}{R:α->β->Prop}{x:α}{y:β}:∀{l:List α}{m:List β},Paired R l m->R x y->Paired R (l++[x]) (m++[y])
 | _,_,.nil,r=>.cons r .nil
 | _,_,.cons r0 t,r=>.cons r0 (prd_snoc t r)
theorem prd_keys{κ:Type}:∀{xs:List (κ×Addr×V)}{vs:List (κ×Addr×Value)},Paired (λx v=>x.1=v.1/\x.2.1=v.2.1/\RelV x.2.2 v.2.2) xs vs->vs.map (·.1)=xs.map (·.1)
 | _,_,.nil=>rfl
 | _,_,.cons r t=>by simp only[B1,prd_keys t,r.1]
theorem prd_len{α β:Type}{R:α->β->Prop}:∀{l:List α}{m:List β},Paired R l m->l.length=m.length
 | _,_,.nil=>rfl
 | _,_,.cons _ t=>by simp[prd_len t]
theorem prd_mem{α β:Type}{R:α->β->Prop}:∀{l:List α}{m:List β},Paired R l m->∀y∈m,∃x∈l,R x y
 | _,_,.nil,y,h=>by cases h
 | _,_,.cons r t,y,h=>by
  rcases X0.mp h with z|z
  ·subst z;exact ⟨_,P0,r⟩
  ·obtain⟨x,hx,r'⟩:=prd_mem t y z
   exact ⟨x,L0 _ hx,r'⟩
theorem at_new{κ:Type}[DecidableEq κ]{vs:List (κ×Addr×Value)}{k:κ}(h:k∉vs.map (·.1)):atKey vs k=none:=atKey_none_of_get λj p e=>h (A1.mpr ⟨_,E1 e,rfl⟩)
theorem take_get{α:Type}{l:List α}{i:Nat}{x:α}(h:l[i]?=some x):l.take (i+1)=l.take i++[x]:=by
 have hi:=(W0.mp h).1
 have e:=(W0.mp h).2
 rw[List.take_add_one,h]
 rfl
theorem key_fresh{κ:Type}{xs:List (κ×Addr×V)}{i:Nat}{x:κ×Addr×V}(nd:(xs.map (·.1)).Nodup)(h:xs[i]?=some x):x.1∉(xs.take i).map (·.1):=λz=>by
 obtain⟨y,hy,e⟩:=A1.mp z
 obtain⟨j,hj⟩:=P3.mp hy
 rw[V8]at hj
 split at hj
 ·rename_i hlt
  have a1:(xs.map (·.1))[j]?=some x.1:=by rw[O0,hj,K4,e]
  have a2:(xs.map (·.1))[i]?=some x.1:=by rw[O0,h];rfl
  have:=(A6 (W0.mp a1).1 nd).mp (a1.trans a2.symm)
  omega
 ·cases hj
section
variable {X:Cx}{pins:List (Addr×Obj)}{σ:St}{H:Hp}{s:Shared}
theorem tup_at(I:Inv X pins σ H s){b:Addr}{zs:List V}(e:H b=some (.tup zs)):∃its,Vals zs its/\∃o,s.heap.get? b=some o/\o.cls=.type "tuple"/\∃n,o.data=.seq its.toArray n:=by
 obtain⟨_,its,r,o,h1,h2,n,h3,_⟩:=(show ObjOk X.prog X.w H s.heap b (.tup zs) from I.hok b _ e)
 exact ⟨its,r,o,h1,h2,n,h3⟩
end
end L2
namespace L3
open PySem PySem.Spec PyProof.Rows L2
noncomputable abbrev tI(k:List Int):D:=.tuple (k.map G0)
noncomputable abbrev b2(k:List Int×List Int):D:=.tuple [tI k.1,tI k.2]
section
variable {K:Fg}{F H:Hp}
theorem ints_da:∀{ks:List Int}{xs:List V},DaAll K F xs (ks.map G0)->xs=ks.map V.int
 | [],_,h=>by cases h;rfl
 | k :: ks,_,h=>by
  cases h with
  | cons h t =>
   rw[ints_da t]
   cases h
   rfl
theorem da_tI{v:V}{k:List Int}(h:Da K F v (tI k)):∃b,v=.ref b/\F b=some (.tup (k.map V.int)):=by
 cases h with
 | tup e t =>
  have:=ints_da t
  subst this
  exact ⟨_,rfl,e⟩
theorem da_mark{v:V}{d0:D}(h:Da K F v (.dict [(.bool false,d0)])):(∃a,v=.ref a/\d0=.none/\F a=some (opqO a))\/(∃a a' ep xs ps,v=.ref a/\F a=some (extD hL a' ep xs)/\DaPd K F xs ps/\d0=.list (ps.map λp=>.tuple [tI p.1,p.2])) \/
  ∃a a' ep xs ps,v=.ref a/\F a=some (extD hB a' ep xs)/\DaBd K F xs ps/\d0=.tuple (ps.map λp=>.tuple [b2 p.1,p.2]):=by
 generalize e0:(B8 [(.bool false,d0)])=d at h
 cases h with
 | opq q=>cases e0;exact .inl ⟨_,rfl,rfl,q⟩
 | pd q t=>injection e0 with e0;injection e0 with e0 _;injection e0 with _ e0;exact .inr (.inl ⟨_,_,_,_,_,rfl,q,t,e0⟩)
 | bd q t=>injection e0 with e0;injection e0 with e0 _;injection e0 with _ e0;exact .inr (.inr ⟨_,_,_,_,_,rfl,q,t,e0⟩)
 | dk q t =>
  injection e0 with e0
  subst e0
  generalize e9:([(J4 false,d0)]:List (D×D))=es at t
  cases t with
  | nil=>cases e9
  | @cons k _ _ _ _ _ _=>cases k<;>cases e9
 | dt q t =>
  injection e0 with e0
  subst e0
  generalize e9:([(J4 false,d0)]:List (D×D))=es at t
  cases t with
  | nil=>cases e9
  | cons _ _=>cases e9
 | _=>cases e0
theorem DaPd.get:∀{xs:List (List Int×Addr×V)}{ps:List (List Int×D)},DaPd K F xs ps->∀{i:Nat}{x:List Int×Addr×V},xs[i]?=some x->∃d,ps[i]?=some (x.1,d)/\F x.2.1=some (.tup (x.1.map V.int))/\Da K F x.2.2 d
 | _,_,.nil,i,x,h=>by simp at h
 | _,_,.cons e h t,0,x,z=>by
  simp only[e8,Option.some.injEq]at z
  subst z
  exact ⟨_,rfl,e,h⟩
 | _,_,.cons e h t,i+1,x,z=>by
  simp only[o4]at z
  exact DaPd.get t z
theorem DaPd.length:∀{xs:List (List Int×Addr×V)}{ps:List (List Int×D)},DaPd K F xs ps->xs.length=ps.length
 | _,_,.nil=>rfl
 | _,_,.cons _ _ t=>by simp[DaPd.length t]
theorem Rel.newE{G:Gh}{σ:L2.St}{ρ:Ev}{a:Addr}{o:HO}(R:Rel K G F σ H ρ)(h:H a=none)(hk:stk o=false:=by rfl):Sub F (upd F a o)/\Rel K G (upd F a o) σ (upd H a o) ρ:=by
 have R1:Rel K G F σ (upd H a o) ρ:=R.laid h
 refine R1.grow (a:=a) (o:=o) (R.h0 h) upd_same (λi s e w z=>?_) hk
 obtain⟨a',o',h1,h2,h3,h4⟩:=R.ow i s e w
 rw[z]at h1
 cases h1
 rw[h]at h3
 cases h3
end
section
variable {X:Cx}{K:Fg}{e e1 e2:Expr}{a b:AD}{p pos pos' p2 tpos apos cpos:Pos}
end
end L3
namespace L2
open PySem PySem.Spec PyProof.Rows
section
variable {prog:Program}{w:World}{A:Around}{E:Value->Shared->Prop}{s:Shared}
theorem own_keys:t7 "dict_keyiterator"=false:=by decide
theorem ky_next{it d:Addr}{i ep:Nat}{es:Array DictEntry}{od:Obj}{Q:Option Value->Shared->Prop}(x:s.heap.IsKeyIter it d i es.size ep)(y:s.heap.get? d=some od)(yd:od.data=.dict es ep)(hi:i < es.size)
  (q:∀h',h'.IsKeyIter it d (i+1) es.size ep->Y2 it s.heap h'->Q (some es[i].key) { s with heap:=h' }):wpAny (model prog w) A (pyNext (.ref it)) Q E s:=by
 obtain⟨o,e1,e2,e3⟩:=id x
 have ty:=x.typeIs
 unfold pyNext
 refine wpAny_bind (wpAny_attempt (wpAny_callSpecial?_slot (name:=Str.ofString "__next__") ty F.slot_dict_keyiterator_next (wpAny_call_entry F.slot_dict_keyiterator_next ty F.entry_dict_keyiterator_next ?_ (F.args_dict_keyiterator_next_1 _))))
 refine wpAny_bind (wpAny_pure (wpAny_bind (wpAny_bind ?_)))
 first|refine wpAny_bind (wpAny_typeNameOfWhole_keyiter ty (wpAny_pure ?_))|refine wpAny_bind (wpAny_typeNameOf_keyiter ty (wpAny_pure ?_))
 refine wpAny_bind (wpAny_fieldsOf e1 e3 ?_)
 simp only[own_keys,W2,if_false]
 show wpAny _ _ (if (X1 d==Q3)=true then _ else _) _ _ _
 rw[if_neg (no_none d)]
 refine wpAny_bind (wpAny_pure (wpAny_bind (wpAny_dictEntries y yd ?_)))
 rw[if_neg (by simp)]
 refine wpAny_bind (wpAny_pure (wpAny_bind (wpAny_dictEpoch y yd ?_)))
 rw[if_neg (by simp)]
 refine wpAny_pure ?_
 simp only[show ¬((i:Int) < 0) from by omega,if_false,Y3,M4 hi]
 refine wpAny_bind ?_
 first|refine wpAny_bind (wpAny_typeNameOfWhole_keyiter ty (wpAny_pure ?_))|refine wpAny_bind (wpAny_typeNameOf_keyiter ty (wpAny_pure ?_))
 refine wpAny_bind (wpAny_isOneOf_keyiter ty ?_)
 show wpAny _ _ (setField (.ref it) 1 (rawInt ((i:Int)+1)) >>= _) _ _ s
 refine wpAny_bind (wpAny_setField e1 e3 (by simp) ?_)
 obtain⟨h1,z1⟩:∃h1,h1=s.heap.update it (Obj.mapFields (·.setIfInBounds 1 (rawInt ((i:Int)+1)))):=⟨_,rfl⟩
 have x1:h1.IsKeyIter it d (i+1) es.size ep:=by
  rw[z1]
  exact ⟨_,u3 _ e1 (w8 (j6 e3 _)),(Obj.cls_mapFields ..).trans e2,by rw[j6 e3];simp[rawInt]⟩
 have b1:Y2 it s.heap h1:=by rw[z1];exact G4 ..
 rw[<- z1]
 refine wpAny_bind (wpAny_holding (wpAny_bind (wpAny_isOneOf_keyiter (s:={ s with heap:=h1 }) x1.typeIs ?_)))
 show wpAny _ _ (pure es[i].key) _ _ _
 exact wpAny_pure (wpAny_pure ⟨_,rfl,wpAny_pure (q h1 x1 b1)⟩)
theorem ky_end{it d:Addr}{i ep:Nat}{es:Array DictEntry}{od:Obj}{Q:Option Value->Shared->Prop}(hh:A.handled=none)(x:s.heap.IsKeyIter it d i es.size ep)(y:s.heap.get? d=some od)(yd:od.data=.dict es ep)(hi:es.size<=i)
  (q:∀h',g7 it s.heap h'->Q none { s with heap:=h' }):wpAny (model prog w) A (pyNext (.ref it)) Q E s:=by
 obtain⟨o,e1,e2,e3⟩:=id x
 have ty:=x.typeIs
 unfold pyNext
 refine wpAny_bind (wpAny_attempt (wpAny_callSpecial?_slot (name:=Str.ofString "__next__") ty F.slot_dict_keyiterator_next (wpAny_call_entry F.slot_dict_keyiterator_next ty F.entry_dict_keyiterator_next ?_ (F.args_dict_keyiterator_next_1 _))))
 refine wpAny_bind (wpAny_pure (wpAny_bind (wpAny_bind ?_)))
 first|refine wpAny_bind (wpAny_typeNameOfWhole_keyiter ty (wpAny_pure ?_))|refine wpAny_bind (wpAny_typeNameOf_keyiter ty (wpAny_pure ?_))
 refine wpAny_bind (wpAny_fieldsOf e1 e3 ?_)
 simp only[own_keys,W2,if_false]
 show wpAny _ _ (if (X1 d==Q3)=true then _ else _) _ _ s
 rw[if_neg (no_none d)]
 refine wpAny_bind (wpAny_pure (wpAny_bind (wpAny_dictEntries y yd ?_)))
 rw[if_neg (by simp)]
 refine wpAny_bind (wpAny_pure (wpAny_bind (wpAny_dictEpoch y yd ?_)))
 rw[if_neg (by simp)]
 refine wpAny_pure ?_
 simp only[show ¬((i:Int) < 0) from by omega,if_false,Y3,L6 hi]
 refine wpAny_bind ?_
 first|refine wpAny_bind (wpAny_typeNameOfWhole_keyiter ty (wpAny_pure ?_))|refine wpAny_bind (wpAny_typeNameOf_keyiter ty (wpAny_pure ?_))
 show wpAny _ _ (setField (.ref it) 0 .none >>= _) _ _ s
 refine wpAny_bind (wpAny_setField e1 e3 (by simp) ?_)
 show wpAny _ _ (newExc (.type "StopIteration") [] >>= _) _ _ _
 refine wpAny_bind ?_
 simp only[newExc,newTuple]
 refine wpAny_bind (wpAny_newObj_type ?_ (by size_fits))
 refine wpAny_bind (m:=firstArgMember _ _) (wpAny_of_eq (a:=Q3) (by first|rfl|(simp only[firstArgMember];rfl)) ?_)
 refine wpAny_newObj_type ?_ (by size_fits)
 simp only[raiseNew]
 refine wpAny_bind (wpAny_handled ?_)
 rw[show A.in1.handled=none from hh]
 refine wpAny_bind (wpAny_pure (wpAny_throw ?_))
 refine wpAny_bind (wpAny_isInstance (b:=true) (T:="StopIteration") ⟨_,M0 _ rfl,rfl⟩ isSubtype_stop ?_)
 exact wpAny_pure (q _ (((G4 ..).extBut.push _).push _))
theorem ky_iter{d:Addr}{es:Array DictEntry}{ep:Nat}{od:Obj}{Q:Value->Shared->Prop}(hm:(d==sysModules)=false)(y:s.heap.get? d=some od)(hx:od.ExactDict)(yd:od.data=.dict es ep)
  (q:Q (.ref s.heap.objs.size) { s with heap:=s.heap.push { cls:=.type "dict_keyiterator",data:=.fields #[.ref d,.int 0 0,.int es.size 0,.int ep 0] } }):wpAny (model prog w) A (pyIter (.ref d)) Q E s:=by
 have ty:s.TypeIs (.ref d) "dict":=⟨od,y,hx.1⟩
 refine wpAny_pyIter_slot ty F.slot_dict_iter (wpAny_call_entry F.slot_dict_iter ty F.entry_dict_iter ?_ (F.args_dict_iter_1 _))
 unfold Builtin.«dict.__iter__»
 refine wpAny_bind ?_
 unfold Builtin.Dict.dictSlotNone
 refine wpAny_bind (wpAny_notOrdered_dict ty ?_)
 show wpAny _ _ (pure (X1 d)) _ _ s
 refine wpAny_pure ?_
 show wpAny _ _ (j5 d >>= _) _ _ s
 unfold j5
 rw[if_neg (by rw[hm];decide)]
 refine wpAny_bind (wpAny_pure (wpAny_bind (wpAny_dictEntries y yd (wpAny_bind (wpAny_dictEpoch y yd ?_)))))
 refine wpAny_bind (wpAny_newObj_type (wpAny_pure ⟨_,rfl,"dict_keyiterator",_,⟨_,M0 _ rfl,rfl⟩,F.slot_dict_keyiterator_next.lookup,?_⟩))
 simpa [rawInt]using q
end
noncomputable def Itk{κ:Type}(hs:κ->Int)(d d':Addr)(ep:Nat)(xs:List (κ×Addr×V)):It :=
 ⟨λi H=>H d=some (extD hs d' ep xs)/\i < xs.length,
  λi H x H'=>∃k b v,x=.ref b/\H'=H/\xs[i]?=some (k,b,v),
  λi H=>H d=some (extD hs d' ep xs)/\xs.length<=i⟩
section
variable {κ:Type}{hs:κ->Int}
theorem turn_keys{P:Program}{w:World}{K:n0}{tg:Expr}(it d d':Addr)(ep:Nat)(xs:List (κ×Addr×V)):Turn P w K tg (Itk hs d d' ep xs) [it] it (λi h=>h.IsKeyIter it d i xs.length ep) where
 mem:=by simp
 obj:=λi h st b hb=>by
  have e:b=it:=by simpa using hb
  subst e
  obtain⟨o,e,c,d⟩:=st
  exact ⟨o,e,λv z=>by rw[d]at z;cases z⟩
 keep:=λi h h' st k=>st.at λo e=>k it (by simp) o e
 item:=by
  intro X hP hw hK hc i pins s σ H E I hf st hg
  subst hP hw hK
  obtain⟨hd,hi⟩:=hg
  obtain⟨vs,o,es,pr,e1,e2,e3,e4,hz,_⟩:=ext_at I hd
  obtain⟨⟨k,b,v⟩,hx⟩:∃x,xs[i]?=some x:=⟨_,y0 hi⟩
  obtain⟨⟨k',b',u⟩,hv,r1,r2,r3⟩:=prd_get pr hx
  have r2:b=b':=r2
  subst r2
  have hi':i < es.size:=by rw[hz];exact hi
  have hent:es[i].key=.ref b:=by
   have q:es.toList[i]?=some (⟨hs k',.ref b,u⟩:DictEntry):=by rw[e4,O0,hv];rfl
   have q2:es.toList[i]?=some es[i]:=by simp[hi']
   rw[q2]at q
   rw[N1 q]
  obtain⟨f0,f1,f2,f3,f4,f5⟩:=hf it (by simp)
  rw[<- hz]at st
  refine ky_next st e1 e3 hi' λh' st' sb=>?_
  have I1:Inv X pins σ H { s with heap:=h' }:=I.turned (t':=s.toks) (λb o hb e=>(sb.2 b hb).trans e) f0 f1 f3 f4 f5
  obtain⟨o',g1,g2,g3⟩:=id st'
  rw[hent]
  rw[hz]at st'
  exact ⟨.ref b,rfl,go_of (s:={ s with heap:=h' }) g1 g2 g3 (by decide) ⟨.ref b,H,I1,rfl,⟨k,b,v,rfl,rfl,hx⟩,st',λc hb=>(hf c hb).1⟩⟩
 done:=by
  intro X hP hw hK hc i pins s σ H E I hf st hg
  subst hP hw hK
  obtain⟨hd,hi⟩:=hg
  obtain⟨vs,o,es,pr,e1,e2,e3,e4,hz,_⟩:=ext_at I hd
  obtain⟨f0,f1,f2,f3,f4,f5⟩:=hf it (by simp)
  rw[<- hz]at st
  exact ky_end (I.ok.hd hc) st e1 e3 (by omega) λh' eb=>⟨rfl,I.turned (t':=s.toks) (λb o hb e=>eb b o hb e) f0 f1 f3 f4 f5⟩
 self:=λ_ _ _ _ _ st h=>wpAny_pyIter_keyiter st h
noncomputable def iKeys(hs:κ->Int)(to:TE):TI:=λσ H R=>to σ H λx H1=>∃(d d':Addr) (ep:Nat) (xs:List (κ×Addr×V)),x=.ref d/\H1 d=some (extD hs d' ep xs)/\R (Itk hs d d' ep xs) H1
theorem pi_keys{X:Cx}{tg o:Expr}{to:TE}(ho:PE X o to):PI X tg o (iKeys hs to):=by
 intro pins s σ H R I h
 refine thn (ho pins s σ H _ I h) λv s1 ⟨x,H1,I1,r1,d,d',ep,xs,ex,hd,q1⟩=>?_
 subst ex
 cases r1
 obtain⟨vs,ob,es,pr,e1,e2,e3,e4,hz,_,_,hm⟩:=ext_at I1 hd
 refine ky_iter hm e1 e2 e3 ?_
 rw[hz]
 refine ⟨_,[s1.heap.objs.size],_,_,H1,rfl,I1.kept (t':=s1.toks) (λb oc e=>i0 _ e),turn_keys (hs:=hs) s1.heap.objs.size d d' ep xs,⟨_,M0 _ rfl,rfl,rfl⟩,λb hb=>?_,q1⟩
 have hb:b=s1.heap.objs.size:=by simpa using hb
 subst hb
 exact I1.fpOk (A0 _) (I1.hok.fresh (A0 _))
end
end L2
namespace L3
open PySem PySem.Spec PyProof.Rows L2
noncomputable def firsts(L:List D):List D:=L.map λd=>match d with
 | .tuple (x :: _)=>x
 | _=>.none
noncomputable def dIKeys(a:AD):TDI:=λρ Q=>dArgs [a] ρ λxs ρ1=>match lentAny ρ1 xs with
 | true=>False
 | false=>looksQ ρ1 xs λds=>match ds with
  | [.dict [(.bool false,.list L)]]=>Q (firsts L) ρ1
  | _=>False
theorem firsts_pd(ps:List (List Int×D)):firsts (ps.map λp=>.tuple [tI p.1,p.2])=ps.map λp=>tI p.1:=by
 unfold firsts
 rw[S0]
 rfl
theorem walks_keys{K:Fg}{F:Hp}{a a':Addr}{ep:Nat}{xs:List (List Int×Addr×V)}{ps:List (List Int×D)}(e1:F a=some (extD hL a' ep xs))(h1:DaPd K F xs ps):Walks K (Itk hL a a' ep xs) F (ps.map λp=>tI p.1):=λi H F1 s1 s2=>by
 have hl:=h1.length
 refine ⟨λd ed=>?_,λhz=>⟨s2 _ _ (s1 _ _ e1),by rw[j0]at hz;omega⟩⟩
 have hi:i < xs.length:=by
  have:=(W0.mp ed).1
  rw[j0]at this
  omega
 refine ⟨⟨s2 _ _ (s1 _ _ e1),hi⟩,λz H' ⟨k,b,v,ex,eH,hx⟩=>?_⟩
 subst ex eH
 obtain⟨d',g1,g2,g3⟩:=h1.get hx
 rw[O0,g1]at ed
 cases ed
 exact ⟨F1,Sub.refl _,λc o ec=>.inl ec,λc o ec=>s2 _ _ ec,Sub.refl _,.tup (s1 _ _ g2) (DaAll.ints _)⟩
theorem l_keys{K:Fg}{a:AD}{σ:L2.St}{H:Hp}{R:It->Hp->Prop}(h:liftI K (dIKeys a) σ H R):iKeys hL (argT K a) σ H R:=by
 obtain⟨G,F,ρ,Qd,Rl,w,k⟩:=h
 refine arg1 (P:=λx H1=>∃(d d':Addr) (ep:Nat) (xs:List (List Int×Addr×V)),x=.ref d/\H1 d=some (extD hL d' ep xs)/\R (Itk hL d d' ep xs) H1) (args_ok Rl w λvs H' F' xs ρ' sb R' o w1=>?_)
 split at w1
 ·exact w1.elim
 rename_i m
 obtain⟨ds,da,w1⟩:=noLent_looks R' m o w1
 split at w1
 ·rename_i L
  cases da with
  | cons d1 t =>
   cases t
   rcases da_mark d1 with⟨a,_,z,_⟩|⟨a,a',ep,ys,qs,rfl,e1,g1,z⟩|⟨a,_,ep,ys,qs,_,_,_,z⟩
   ·cases z
   ·injection z with z
    subst z
    rw[firsts_pd]at w1
    exact ⟨_,rfl,a,a',ep,ys,rfl,R'.sub _ _ e1,k _ H' F' _ ρ' sb R' (walks_keys e1 g1) w1⟩
   ·cases z
 ·exact w1.elim
section
variable {X:Cx}{K:Fg}{e1 tg:Expr}{a:AD}
theorem i_keys(ha:WE X e1 (argT K a)):WI X tg e1 (liftI K (dIKeys a)):=⟨piM (pi_keys ha.h) l_keys⟩
end
end L3
namespace L2
open PySem PySem.Spec PyProof.Rows
noncomputable def putP{α:Type}(xs:List (List Int×Addr×α))(k:List Int)(b:Addr)(v:α):List (List Int×Addr×α) :=
 if k∈xs.map (·.1) then xs.map (λx=>if x.1=k then (x.1,x.2.1,v) else x) else xs++[(k,b,v)]
theorem putP_stored{vs:List (List Int×Addr×Value)}{k:List Int}{b:Addr}{u:Value}:storedH vs k b u=putP vs k b u:=by
 unfold storedH putP
 have e:(atKey vs k).isSome=true ↔ k∈vs.map (·.1):=by
  unfold atKey
  rw[Option.isSome_map,List.find?_isSome]
  constructor
  ·rintro⟨x,hx,e⟩
   exact A1.mpr ⟨x,hx,of_decide_eq_true e⟩
  ·intro h
   obtain⟨x,hx,e⟩:=A1.mp h
   exact ⟨x,hx,decide_eq_true e⟩
 by_cases z:k∈vs.map (·.1)
 ·rw[if_pos (e.mpr z),if_pos z];rfl
 ·rw[if_neg (λy=>z (e.mp y)),if_neg z]
theorem putP_len{α:Type}(xs:List (List Int×Addr×α))(k:List Int)(b:Addr)(v:α):(putP xs k b v).length<=xs.length+1:=by
 unfold putP
 split
 ·rw[j0];omega
 ·rw[B0];simp
theorem putP_nodup{α:Type}{xs:List (List Int×Addr×α)}{k:List Int}{b:Addr}{v:α}(h:(xs.map (·.1)).Nodup):((putP xs k b v).map (·.1)).Nodup:=by
 unfold putP
 split
 ·rw[S0]
  have e:((λx:List Int×Addr×α=>x.1) ∘ λx=>if x.1=k then (x.1,x.2.1,v) else x)=λx=>x.1:=by
   funext x
   show (if x.1=k then (x.1,x.2.1,v) else x).1=x.1
   split<;>rfl
  rw[e]
  exact h
 ·rename_i z
  rw[O3,B6]
  refine ⟨h,by simp,λa ha b hb e=>?_⟩
  have hb:b=k:=by simpa using hb
  rw[e,hb]at ha
  exact z ha
theorem putP_prd{xs:List (List Int×Addr×V)}{vs:List (List Int×Addr×Value)}{k:List Int}{b:Addr}{v:V}{u:Value}(h:Paired (λx v=>x.1=v.1/\x.2.1=v.2.1/\RelV x.2.2 v.2.2) xs vs)(r:RelV v u) :
  Paired (λx v=>x.1=v.1/\x.2.1=v.2.1/\RelV x.2.2 v.2.2) (putP xs k b v) (putP vs k b u):=by
 unfold putP
 rw[prd_keys h]
 split
 ·rename_i z
  clear z
  induction h with
  | nil=>exact .nil
  | @cons x y l m r1 t ih =>
   refine .cons ?_ ih
   obtain⟨a1,a2,a3⟩:=r1
   by_cases z:x.1=k
   ·have z2:y.1=k:=a1.symm.trans z
    dsimp only
    rw[if_pos z,if_pos z2]
    exact ⟨a1,a2,r⟩
   ·have z2:¬y.1=k:=λq=>z (a1.trans q)
    dsimp only
    rw[if_neg z,if_neg z2]
    exact ⟨a1,a2,a3⟩
 ·exact prd_snoc h ⟨rfl,rfl,r⟩
theorem d_setItemP{X:Cx}{pins:List (Addr×Obj)}{σ:St}{H:Hp}{s:Shared}{A:Around}{E:Value->Shared->Prop}{d d' b:Addr}{ep:Nat}{xs:List (List Int×Addr×V)}{k:List Int}{v:V}{u:Value}{Q:Unit->Shared->Prop}(hu:A.units+1 < cLine)(I:Inv X pins σ H s)
  (e:H d=some (extD hL d' ep xs)) (hky:∀x∈xs,H x.2.1=some (.tup (x.1.map V.int))) (hk:H b=some (.tup (k.map V.int))) (rv:RelV v u) (hl:xs.length < sizeLine)
  (q:∀ep' s',Inv X pins σ (upd H d (extD hL d ep' (putP xs k b v))) s'->Q () s'):wpAny (model X.prog X.w) A (setItem (.ref d) (.ref b) u) Q E s:=by
 obtain⟨vs,o,es,pr,e1,e2,e3,e4,hz,nd,_,hm⟩:=ext_at I e
 have key:∀{k:List Int}{b:Addr},H b=some (.tup (k.map V.int))->(tupleKind (intKind X.prog X.w)).is s.heap k b:=λ{k b} hb=>by
  obtain⟨_,its,r,o,h1,h2,n,h3,_⟩:=(show ObjOk X.prog X.w H s.heap b (.tup (k.map V.int)) from I.hok _ _ hb)
  exact ⟨o,its.toArray,n,h1,h2,h3,by simpa using ints_are r⟩
 have hvl:=prd_len pr
 refine wpAny_setItem_heap (hsz:=by omega) (knd:=tupleKind (intKind X.prog X.w)) (tupleKind_room_in1 hu) (key hk) ⟨o,es,ep,e1,e2,e3,e4,λx hx=>?_,by rw[prd_keys pr];exact nd⟩ λh' dd' sb=>?_
 ·obtain⟨y,hy,r1,r2,_⟩:=prd_mem pr x hx
  have:=key (hky y hy)
  rw[r1,r2]at this
  exact this
 ·obtain⟨o2,es2,ep2,g1,g2,g3,g4,_,g5⟩:=dd'
  rw[putP_stored]at g4
  have hlen:=putP_len xs k b v
  refine q ep2 _ (d_write I (by rw[e];exact True.intro) sb ⟨o2,g1⟩ ⟨⟨⟨putP vs k b u,putP_prd pr rv,o2,es2,g1,g2,g3,g4⟩,putP_nodup nd,by omega,hm⟩,⟨o2,g1⟩,λh1 h2 z k'=>?_⟩)
  obtain⟨⟨vs',r',o',es',f1,f2⟩,f3⟩:=z
  exact ⟨⟨vs',r',o',es',k' _ f1,f2⟩,f3⟩
noncomputable def sPPut(td ty tv:TE):TS:=λE σ H=>tv σ H λv H1=>td σ H1 λx H2=>ty σ H2 λy H3=>∃(d d' b:Addr) (ep:Nat) (xs:List (List Int×Addr×V)) (k:List Int),x=.ref d/\y=.ref b/\H3 d=some (extD hL d' ep xs)/\(∀z∈xs,H3 z.2.1=some (.tup (z.1.map V.int))) /\
 H3 b=some (.tup (k.map V.int))/\xs.length < sizeLine/\∀ep',E.nx σ (upd H3 d (extD hL d ep' (putP xs k b v)))
theorem ps_pput{X:Cx}{o i value:Expr}{td ty tv:TE}{pos pos':Pos}(hu:X.A.units+1 < cLine)(ho:PE X o td)(hi:PE X i ty)(hv:PE X value tv)(hs:swapsWith value (some (.Subscript o i pos')) pos.line X.env=pure false) :
  PS X (.Assign [.Subscript o i pos'] value pos) (sPPut td ty tv):=by
 intro pins s σ H D I h
 refine wpAny_Assign_Subscript (thn (hv pins s σ H _ I h) λr s1 ⟨v,H1,I1,rv,q1⟩=>thn (ho pins s1 σ H1 _ I1 q1) λu s2 ⟨x,H2,I2,rx,q2⟩=>thn (hi pins s2 σ H2 _ I2 q2) λiv s3 ⟨y,H3,I3,ry,d,d',b,ep,xs,k,ex,ey,e1,e2,e3,e4,q3⟩=>?_) hs
 subst ex ey
 obtain rfl:u=X1 d:=rx
 obtain rfl:iv=X1 b:=ry
 exact d_setItemP hu I3 e1 e2 e3 rv e4 λep' s4 I4=>⟨σ,_,I4,q3 ep'⟩
noncomputable def tDNewP:TE:=λ_ H Q=>∀p,H p=none->Q (.ref p) (upd H p (extD hL p 0 []))
theorem pe_dnewP{X:Cx}{pos:Pos}:PE X (.Dict [] [] pos) tDNewP:=λpins s σ H Q I h =>
 wpAny_Dict_empty ⟨.ref s.heap.objs.size,_,I.laid (a:=s.heap.objs.size) (o:=extD hL s.heap.objs.size 0 []) (t':=s.toks) (λ_ _ q=>i0 _ q) (A0 _)
   ⟨⟨⟨[],.nil,_,#[],M0 _ rfl,⟨rfl,rfl,rfl⟩,rfl,rfl⟩,List.nodup_nil,m3 _,beq_eq_false_iff_ne.mpr (v3 (Y0 I.big))⟩,⟨_,M0 _ rfl⟩,λh1 h2 z k=>by
     obtain⟨⟨vs,r,o,es,g1,g2⟩,g3⟩:=z
     exact ⟨⟨vs,r,o,es,k _ g1,g2⟩,g3⟩⟩,rfl,h _ (I.hok.fresh (A0 _))⟩
end L2
namespace L3
open PySem PySem.Spec PyProof.Rows L2
noncomputable def putPs(ps:List (List Int×D))(k:List Int)(d:D):List (List Int×D) :=
 if k∈ps.map (·.1) then ps.map (λx=>if x.1=k then (x.1,d) else x) else ps++[(k,d)]
theorem DaPd.keys{K:Fg}{F:Hp}:∀{xs:List (List Int×Addr×V)}{ps:List (List Int×D)},DaPd K F xs ps->xs.map (·.1)=ps.map (·.1)
 | _,_,.nil=>rfl
 | _,_,.cons _ _ t=>by simp only[B1,DaPd.keys t]
theorem DaPd.at{K:Fg}{F:Hp}:∀{xs:List (List Int×Addr×V)}{ps:List (List Int×D)},DaPd K F xs ps->∀z∈xs,F z.2.1=some (.tup (z.1.map V.int))
 | _,_,.nil,z,h=>by cases h
 | _,_,.cons e _ t,z,h=>by
  rcases X0.mp h with q|q
  ·subst q;exact e
  ·exact DaPd.at t z q
theorem DaPd.snoc{K:Fg}{F:Hp}{k:List Int}{b:Addr}{v:V}{d:D}(hb:F b=some (.tup (k.map V.int)))(hv:Da K F v d):∀{xs:List (List Int×Addr×V)}{ps:List (List Int×D)},DaPd K F xs ps->DaPd K F (xs++[(k,b,v)]) (ps++[(k,d)])
 | _,_,.nil=>.cons hb hv .nil
 | _,_,.cons e h t=>.cons e h (DaPd.snoc hb hv t)
theorem DaPd.repl{K:Fg}{F:Hp}{k:List Int}{v:V}{d:D}(hv:Da K F v d):∀{xs:List (List Int×Addr×V)}{ps:List (List Int×D)},DaPd K F xs ps->DaPd K F (xs.map λx=>if x.1=k then (x.1,x.2.1,v) else x) (ps.map λx=>if x.1=k then (x.1,d) else x)
 | _,_,.nil=>.nil
 | _,_,@DaPd.cons _ _ k' b' v' d' xs ps e h t=>by
  have ih:=DaPd.repl (k:=k) hv t
  rw[B1,B1]
  by_cases z:k'=k
  ·dsimp only
   rw[if_pos z,if_pos z]
   exact .cons e hv ih
  ·dsimp only
   rw[if_neg z,if_neg z]
   exact .cons e h ih
theorem DaPd.put{K:Fg}{F:Hp}{k:List Int}{b:Addr}{v:V}{d:D}{xs:List (List Int×Addr×V)}{ps:List (List Int×D)}(h:DaPd K F xs ps)(hb:F b=some (.tup (k.map V.int)))(hv:Da K F v d):DaPd K F (putP xs k b v) (putPs ps k d):=by
 unfold putP putPs
 rw[h.keys]
 split
 ·exact h.repl hv
 ·exact h.snoc hb hv
noncomputable def dSetP(j:Nat)(ak:AD)(te:TD):TDS:=λE ρ=>te ρ λr ρ1=>match ρ1[j]? with
 | some (some _)=>dArgs [ak] ρ1 λxs ρ2=>match lentAny ρ2 xs with
  | true=>False
  | false=>looksQ ρ2 xs λds=>match ρ2[j]? with
   | some (some s)=>∃(k:List Int) (ps:List (List Int×D)),ds=[tI k]/\s.d=pdD ps/\isOw s=true/\ps.length < sizeLine/\E.nx (ρ2.set j (some (s.put (pdD (putPs ps k r.d)))))
   | _=>False
 | _=>False
theorem l_setP{K:Fg}{j:Nat}{ak:AD}{te:TD}{σ:L2.St}{H:Hp}{E:Ends}(h:liftS K (dSetP j ak te) E σ H):sPPut (tVar j) (argT K ak) (lift K te) E σ H:=by
 obtain⟨G,F,ρ,D,R,w,n,r,b,c⟩:=h
 refine ⟨G,F,ρ,_,R,w,λv H1 F1 x ρ1 s1 R1 r1 w1=>?_⟩
 obtain⟨F2,s2,R2,d2⟩:=r1.frz R1
 split at w1
 ·rename_i s0 e0
  obtain⟨u,eu⟩:=R2.bound e0
  refine ⟨u,eu,arg1 (P:=λy H3=>∃(d d' b:Addr) (ep:Nat) (xs:List (List Int×Addr×V)) (k:List Int),u=.ref d/\y=.ref b/\H3 d=some (extD hL d' ep xs)/\(∀z∈xs,H3 z.2.1=some (.tup (z.1.map V.int))) /\
    H3 b=some (.tup (k.map V.int))/\xs.length < sizeLine/\∀ep',E.nx σ (upd H3 d (extD hL d ep' (putP xs k b v)))) (args_ok R2 w1 λvs H3 F3 xs ρ3 s3 R3 o3 w3=>?_)⟩
  split at w3
  ·exact w3.elim
  rename_i m
  obtain⟨ds,ha,w3⟩:=noLent_looks R3 m o3 w3
  split at w3
  ·rename_i s e
   obtain⟨k,ps,rfl,p1,p2,p3,w3⟩:=w3
   cases ha with
   | cons hk ht =>
    cases ht
    obtain⟨kb,rfl,hb⟩:=da_tup hk
    obtain⟨a,o,g1,g2,g3,g4⟩:=R3.ow j s e p2
    rw[eu]at g1;cases g1
    rw[p1]at g4
    cases o with
    | ext φ =>
     rcases g4.ext with⟨a',ep,ys,qs,z,z2,t⟩|⟨_,_,_,_,_,z2,_⟩
     case inr=>injection z2 with z2;injection z2 with z2 _;injection z2 with _ z2;cases z2
     have t:DaPd K F3 ys ps:=by
      have e2:ps.map (λp=>V1 [V1 (p.1.map G0),p.2])=qs.map (λp=>V1 [V1 (p.1.map G0),p.2]):=by
       injection z2 with z2;injection z2 with z2 _;injection z2 with _ z2;injection z2
      have e3:ps=qs:=(J5 (λx y q=>by
        injection q with q
        injection q with q1 q2
        injection q2 with q2 _
        injection q1 with q1
        exact Prod.ext ((J5 (λx y z=>by injection z)).mp q1) q2)).mp e2
      rw[e3];exact t
     rw[z]at g3
     refine ⟨_,rfl,a,a',kb,ep,ys,k,rfl,rfl,g3,λq hq=>R3.sub _ _ (t.at q hq),R3.sub _ _ hb,by have:=congrArg S4 t.keys;rw[j0,j0]at this;omega,λep'=>?_⟩
     have R4:=R3.change (o':=extD hL a ep' (putP ys k kb v)) (d':=pdD (putPs ps k x.d)) e p2 eu (Own1.pd (t.put hb (d2.mono s3)))
     exact n σ _ F3 _ (s1.trans (s2.trans s3)) R4 w3
    | dK kvs =>
     exfalso
     have h:DaKV K F3 kvs [(J4 false,T4 (ps.map λp=>V1 [V1 (p.1.map G0),p.2]))]:=g4
     generalize e9:[(J4 false,T4 (ps.map λp=>V1 [V1 (p.1.map G0),p.2]))]=es at h
     cases h with
     | nil=>cases e9
     | @cons k _ _ _ _ _ _=>cases k<;>cases e9
    | dT kvs =>
     exfalso
     have h:DaKT K F3 kvs [(J4 false,T4 (ps.map λp=>V1 [V1 (p.1.map G0),p.2]))]:=g4
     generalize e9:[(J4 false,T4 (ps.map λp=>V1 [V1 (p.1.map G0),p.2]))]=es at h
     cases h with
     | nil=>cases e9
     | cons _ _=>cases e9
    | _=>exact g4.elim
  ·exact w3.elim
 ·exact w1.elim
noncomputable def dNewP:TD:=λρ Q=>Q (.ow (pdD [])) ρ
theorem l_newP{K:Fg}{σ:L2.St}{H:Hp}{Q:VK}(h:lift K dNewP σ H Q):tDNewP σ H Q:=by
 obtain⟨G,F,ρ,Qd,R,w,k⟩:=h
 intro p hp
 obtain⟨R',r'⟩:=R.newOw (o:=extD hL p 0 []) (d:=pdD []) hp (Own1.pd .nil)
 exact k _ _ F _ ρ (Sub.refl _) R' r' w
section
variable {X:Cx}{K:Fg}{e e1 e2:Expr}{a:AD}{td:TD}{pos pos':Pos}
theorem s_keyP{j:Nat}(hu:X.A.units+1 < cLine)(ho:WE X e1 (argT K (.inl j)))(hi:WE X e2 (argT K a))(hv:WE X e (lift K td))(hs:notComp e=true:=by rfl):WS X (.Assign [.Subscript e1 e2 pos'] e pos) (liftS K (dSetP j a td)):=⟨psM (ps_pput hu ho.h hi.h hv.h (swaps_of hs)) l_setP⟩
theorem w_dnewP:WE X (.Dict [] [] pos) (lift K dNewP):=⟨peM pe_dnewP l_newP⟩
end
end L3
namespace L2
open PySem PySem.Spec PyProof.Rows
theorem keys_walk{prog:Program}{w:World}{A:Around}{it d:Addr}{es:Array DictEntry}{ep:Nat}{od:Obj}(hh:A.handled=none)(nd:d≠it)(yd:od.data=.dict es ep) :
  PySem.Walks prog w A it [it,d] [it] es.size (λi v=>∃h:i < es.size,v=es[i].key) (λi h=>h.IsKeyIter it d i es.size ep/\h.get? d=some od) where
 sub:=λb hb=>X0.mpr (.inl (by simpa using hb))
 frame:=λi h h' st k=>⟨st.1.at λo e=>k it (by simp) o e,k d (by simp) od st.2⟩
 item:=λi s Q E hi st q=>ky_next st.1 st.2 yd hi λh' st' sb=>q es[i].key h' s.toks ⟨hi,rfl⟩ ⟨st',(sb.2 d nd).trans st.2⟩ λb o hb e=>(sb.2 b (by simpa using hb)).trans e
 done:=λs Q E st q=>ky_end hh st.1 st.2 yd (A0 _) λh' eb=>q h' s.toks λb o hb e=>eb b o (by simpa using hb) e
 self:=λi s Q E st h=>wpAny_pyIter_keyiter st.1 h
theorem keys_src{prog:Program}{w:World}{d:Addr}{es:Array DictEntry}{ep:Nat}{od:Obj}(hm:(d==sysModules)=false)(hx:od.ExactDict)(yd:od.data=.dict es ep) :
  PySem.W.KdlSrc prog w "dict" d d es.size (λi v=>∃h:i < es.size,v=es[i].key) (λh=>h.get? d=some od) where
 type:=λs e=>⟨od,e,hx.1⟩
 there:=λh e=>⟨J0 e,J0 e⟩
 keep:=λh h' e k=>k d (.inl rfl) od e
 notList:=by decide
 notTuple:=by decide
 hint:=λA E s Q e q=>PySem.W.kdl_hint_dict ⟨od,e,hx.1⟩ q
 iter:=λA s hh e=>⟨_,_,λE Q q=>ky_iter hm e hx yd q,keys_walk hh (Y0 (J0 e)) yd,⟨⟨_,M0 _ rfl,rfl,rfl⟩,i0 _ e⟩⟩
theorem vals_refs:∀ys:List (List Int×Addr×V),Vals (ys.map λy=>V.ref y.2.1) (ys.map λy=>X1 y.2.1)
 | []=>.nil
 | _ :: ys=>.cons rfl (vals_refs ys)
end L2
namespace L3
open PySem PySem.Spec PyProof.Rows L2
theorem pd_at{K:Fg}{F H:Hp}{v:V}{L:List D}(s:Sub F H)(h1:At K F H v (.dict [(.bool false,.list L)])):∃(b b':Addr) (ep:Nat) (ys:List (List Int×Addr×V)) (qs:List (List Int×D)),v=.ref b/\H b=some (extD hL b' ep ys)/\DaPd K F ys qs/\L=qs.map λp=>.tuple [tI p.1,p.2]:=by
 rcases h1 with h1|⟨b,o,rfl,g1,g2,g3⟩
 ·rcases da_mark h1 with⟨_,_,z,_⟩|⟨c,a',ep,ys,qs,rfl,e1,g1,z⟩|⟨_,_,_,_,_,_,_,_,z⟩
  ·cases z
  ·injection z with z
   exact ⟨c,a',ep,ys,qs,rfl,s _ _ e1,g1,z⟩
  ·cases z
 ·cases o with
  | ext φ =>
   rcases g3.ext with⟨a',ep,ys,qs,z,z2,t⟩|⟨_,_,_,_,_,z2,_⟩
   case inr=>injection z2 with z2;injection z2 with z2 _;injection z2 with _ z2;cases z2
   rw[z]at g2
   refine ⟨b,a',ep,ys,qs,rfl,g2,t,?_⟩
   injection z2 with z2;injection z2 with z2 _;injection z2 with _ z2;injection z2
  | dK kvs =>
   exfalso
   have h:DaKV K F kvs [(J4 false,T4 L)]:=g3
   generalize e9:[(J4 false,T4 L)]=es at h
   cases h with
   | nil=>cases e9
   | @cons k _ _ _ _ _ _=>cases k<;>cases e9
  | dT kvs =>
   exfalso
   have h:DaKT K F kvs [(J4 false,T4 L)]:=g3
   generalize e9:[(J4 false,T4 L)]=es at h
   cases h with
   | nil=>cases e9
   | cons _ _=>cases e9
  | _=>exact g3.elim
noncomputable abbrev rwD(rows:List (List Int×Int)):D:=pdD (rows.map λq=>(q.1,G0 q.2))
theorem pd_inj{ps qs:List (List Int×D)}(z2:pdD ps=pdD qs):ps=qs:=by
 have e2:ps.map (λp=>V1 [V1 (p.1.map G0),p.2])=qs.map (λp=>V1 [V1 (p.1.map G0),p.2]):=by
  injection z2 with z2;injection z2 with z2 _;injection z2 with _ z2;injection z2
 exact (J5 (λx y q=>by
   injection q with q
   injection q with q1 q2
   injection q2 with q2 _
   injection q1 with q1
   exact Prod.ext ((J5 (λx y z=>by injection z)).mp q1) q2)).mp e2
theorem DaAll.both{K:Fg}{F:Hp}{xs:List V}{d e:D}(h:DaAll K F xs [d,e]):∃u v,xs=[u,v]/\Da K F u d/\Da K F v e:=by
 cases h with
 | cons h1 h =>
  cases h with
  | cons h2 h=>cases h;exact ⟨_,_,rfl,h1,h2⟩
section
variable {X:Cx}{K:Fg}{p p1 p2 p3 p4 pos pos':Pos}{f a x y:Str}
end
end L3
namespace L2
open PySem PySem.Spec PyProof.Rows
theorem col_pd{X:Cx}{pins:List (Addr×Obj)}{σ:St}{H:Hp}{s:Shared}{d d':Addr}{ep:Nat}{ys:List (List Int×Addr×V)}(hc:X.calm=true)(I:Inv X pins σ H s)(hd:H d=some (extD hL d' ep ys)) :
  ∃its:List Value,Vals (ys.map λy=>V.ref y.2.1) its/\its.length<=sizeLine/\∀(R:List Value->Shared->Prop),(∀(h1:Heap) (tk:Nat),(∀b o,s.heap.get? b=some o->h1.get? b=some o)->R its { s with heap:=h1,toks:=tk }) ->
   wpAny (model X.prog X.w) X.A.in1 (collect (.ref d)) R X.xe s:=by
 obtain⟨vs,o,es,pr,e1,e2,e3,e4,hz,nd,hl,hm⟩:=ext_at I hd
 have hn:es.size<=sizeLine:=by rw[hz];exact hl
 refine ⟨ys.map λy=>X1 y.2.1,vals_refs ys,by rw[j0];exact hl,λR hR=>?_⟩
 refine PySem.W.kdu_collect (keys_src hm e2 e3) (I.ok.hd hc) e1 hn λh' tk acc' hk hacc=>?_
 have e5:acc'.toList=ys.map λy=>X1 y.2.1:=by
  refine E6 λi=>?_
  by_cases hi:i < ys.length
  ·have hi':i < acc'.size:=by rw[hacc.1,hz];exact hi
   have hie:i < es.size:=by rw[hz];exact hi
   obtain⟨_,hv⟩:=hacc.2 i acc'[i] (by simp[hi'])
   have g1:acc'.toList[i]?=some acc'[i]:=by simp[hi']
   obtain⟨v,hv2,r1,r2,_⟩:=prd_get pr (y0 hi)
   have q2:es.toList[i]?=some es[i]:=by simp[hie]
   rw[e4,O0,hv2]at q2
   rw[g1,hv,O0,y0 hi]
   rw[<- N1 q2]
   show some (X1 v.2.1)=some (X1 ys[i].2.1)
   rw[r2]
  ·have h1:acc'.size<=i:=by rw[hacc.1,hz];omega
   rw[m5 (by simpa using h1),m5 (by rw[j0];omega)]
 rw[e5]
 exact hR h' tk hk
end L2
namespace L3
open PySem PySem.Spec PyProof.Rows L2
section
variable {K:Fg}{F:Hp}
theorem map_paired{α β:Type}{f:α->β}:∀{zs:List α}{qs:List β},Paired (λz q=>q=f z) zs qs->qs=zs.map f
 | _,_,.nil=>rfl
 | _,_,.cons r t=>by rw[r,map_paired t];rfl
theorem paired_map{α β:Type}{f:α->β}:∀(l:List α),Paired (λz q=>q=f z) l (l.map f)
 | []=>.nil
 | _ :: l=>.cons rfl (paired_map l)
theorem perm_map{α β:Type}{f:α->β}{l:List α}{qs:List β}(h:qs.Perm (l.map f)):∃zs:List α,zs.Perm l/\qs=zs.map f:=by
 obtain⟨zs,z1,z2⟩:=paired_perm h (paired_map l)
 exact ⟨zs,z1,map_paired z2⟩
theorem pd_keysD:∀{ys:List (List Int×Addr×V)}{ps:List (List Int×D)},DaPd K F ys ps->DaAll K F (ys.map λy=>V.ref y.2.1) (ps.map λq=>tI q.1)
 | _,_,.nil=>.nil
 | _,_,.cons e _ t=>.cons (.tup e (DaAll.ints _)) (pd_keysD t)
theorem keys_back{kz:List Int}{ps:List (List Int×D)}{qs:List (Int×D)}(h:qs.Perm (kz.zip (ps.map λq=>tI q.1))):∃zs:List (Int×List Int),qs=zs.map (λq=>(q.1,tI q.2))/\zs.Perm (kz.zip (ps.map (·.1))):=by
 have e:kz.zip (ps.map λq=>tI q.1)=(kz.zip (ps.map (·.1))).map λq=>((q.1,tI q.2):Int×D):=by
  rw[show (ps.map λq=>tI q.1)=(ps.map (·.1)).map tI from by rw[S0];rfl,W8]
  rfl
 rw[e]at h
 obtain⟨zs,z1,z2⟩:=perm_map h
 exact ⟨zs,z2,z1⟩
end
end L3
namespace SG
open PySem PyProof.Rows
section
variable {prog:Program}{w:World}{A:Around}{E:Value->Shared->Prop}{s:Shared}{κ:SortKind}{rk:Keyed->Nat}{S:Keyed->Prop}{st:SortSt}
theorem w_sort64(q:Asks prog w A s κ rk S){Q:Unit->SortSt->Prop}(h64:(arrOf st).size < 64)(hS:AllS S (arrOf st))(hk:kindOf st=κ)(hF:failedOf st=none)(hP:pendingOf st=#[])
  (h:∀st',(arrOf st').Perm (arrOf st)->failedOf st'=none->Sg rk (arrOf st') 0 (arrOf st).size->Q () st'):wpS (model prog w) A E s sortRuns' Q st:=by
 have hmr:1<=(arrOf st).size->minRun' (arrOf st).size (arrOf st).size 0=(arrOf st).size:=λh1=>by
  obtain⟨k,ek⟩:∃k,(arrOf st).size=k+1:=⟨(arrOf st).size - 1,by omega⟩
  rw[ek,minRun'_succ,if_pos (by omega),Nat.add_zero]
 rw[sortRuns'_eq]
 refine wpS_bind (wpS_get ?_)
 dsimp only
 have I0:In κ rk st 0 st:=⟨Array.Perm.refl _,hk,hF,by rw[hP];rfl⟩
 refine wpS_bind (wpS_mono (wpS_forRange (I:=λx c z=>∃lo,c=(none,lo)/\In κ rk st lo z/\(lo=0/\pendingOf z=#[]\/lo=(arrOf st).size/\(pendingOf z).size<=1)/\(x<=lo\/lo=(arrOf st).size)) (Q:=λc z=>c=(none,(arrOf st).size)/\In κ rk st (arrOf st).size z/\(pendingOf z).size<=1) ?step ?fin ⟨0,rfl,I0,.inl ⟨rfl,hP⟩,.inl (A0 _)⟩) ?post)
 case fin =>
  rintro c z ⟨lo,rfl,hI,h1,h2⟩
  rcases h1 with⟨rfl,hp⟩|⟨rfl,hp⟩
  ·have:0=(arrOf st).size:=by omega
   rw[<- this]
   exact ⟨rfl,hI,by rw[hp];exact m3 _⟩
  ·exact ⟨rfl,hI,hp⟩
 case step =>
  rintro x c z _ hx ⟨lo,rfl,hI,h1,h2⟩
  dsimp only
  by_cases hge:lo ≥ (arrOf st).size
  ·rw[if_pos hge]
   rcases h1 with⟨rfl,hp⟩|⟨rfl,hp⟩
   ·have:0=(arrOf st).size:=by omega
    rw[<- this]
    exact wpS_pure ⟨rfl,hI,by rw[hp];exact m3 _⟩
   ·exact wpS_pure ⟨rfl,hI,hp⟩
  ·rw[if_neg hge]
   obtain⟨rfl,hp⟩:lo=0/\pendingOf z=#[]:=by
    rcases h1 with h1|⟨h1,_⟩
    ·exact h1
    ·omega
   have hz:=hI.size
   have hm:=hmr (by omega)
   have hS':AllS S (arrOf z):=AllS.perm hS hI.perm
   refine wpS_bind (w_cr q hS' (by omega) (by omega) ⟨Array.Perm.refl _,hI.kind,hI.failed,rfl,λ_ _=>rfl⟩ λn z1 b1 n1 n2 g1=>?_)
   dsimp only
   have last:∀(m:Nat) (z2:SortSt),m=(arrOf st).size->pendingOf z2=#[]->In κ rk st 0 z2->Sg rk (arrOf z2) 0 m->∃lo,((none:Option Unit),0+m)=(none,lo)/\In κ rk st lo (setPending z2 ((pendingOf z2).push (0,m,0)))/\(lo=0/\pendingOf (setPending z2 ((pendingOf z2).push (0,m,0)))=#[]\/lo=(arrOf st).size/\(pendingOf (setPending z2 ((pendingOf z2).push (0,m,0)))).size<=1)/\(x+1<=lo\/lo=(arrOf st).size):=λm z2 e1 e2 hI2 g2=>by
    refine ⟨0+m,rfl,hI2.push (by omega) g2,.inr ⟨by omega,?_⟩,.inr (by omega)⟩
    show ((pendingOf z2).push (0,m,0)).size<=1
    rw[e2]
    exact A0 _
   by_cases hlt:n < minRun' (arrOf st).size (arrOf st).size 0
   ·rw[if_pos hlt]
    refine wpS_bind (wpS_lift (wpAny_rule ⟨rfl,?_⟩))
    refine wpS_bind (w_bins (N:=(arrOf st).size - 0) q hS' (n:=min ((arrOf st).size - 0) (minRun' (arrOf st).size (arrOf st).size 0)) (by omega) (by omega) (by omega) b1 g1 λz2 b2 g2=>?_)
    simp only[Bool.not_true,W2,if_false]
    refine wpS_bind (wpS_get ?_)
    have e2:pendingOf z2=#[]:=by rw[b2.pend];exact hp
    have eb:(pendingOf z2).back?=none:=by rw[e2];rfl
    rw[eb]
    exact wpS_bind (wpS_modify (wpS_pure (last _ z2 (by omega) e2 (hI.run b2) g2)))
   ·rw[if_neg hlt]
    refine wpS_bind (wpS_get ?_)
    have e2:pendingOf z1=#[]:=by rw[b1.pend];exact hp
    have eb:(pendingOf z1).back?=none:=by rw[e2];rfl
    rw[eb]
    exact wpS_bind (wpS_modify (wpS_pure (last _ z1 (by omega) e2 (hI.run b1) g1)))
 case post =>
  rintro c z ⟨rfl,hI,hp⟩
  dsimp only
  refine wpS_bind (wpS_mono (wpS_forRange (I:=λx c y=>c=(none,())/\y=z) (Q:=λc y=>c=(none,())/\y=z) ?_ ?_ ⟨rfl,rfl⟩) ?_)
  ·rintro x c y _ hx ⟨rfl,rfl⟩
   refine wpS_bind (wpS_get ?_)
   rw[if_pos hp]
   exact wpS_pure ⟨rfl,rfl⟩
  ·rintro c y ⟨rfl,rfl⟩
   exact ⟨rfl,rfl⟩
  ·rintro c y ⟨rfl,rfl⟩
   refine wpS_pure (h y hI.perm hI.failed ?_)
   have hc:=hI.ch
   have hl:(pendingOf y).toList.length<=1:=by rw[S1];exact hp
   match (pendingOf y).toList,hc,hl with
   | [],hc,_ =>
    have:0=(arrOf st).size:=hc
    intro i j _ _ hj
    omega
   | [p],⟨h1,h2,h3,h4⟩,_ =>
    have h4:0+p.2.1=(arrOf st).size:=h4
    rw[V5]at h4
    rw[h4]at h3
    exact h3
end
end SG
namespace L2
open PySem PySem.Spec PyProof.Rows PySem.W
section
variable {prog:Program}{w:World}{A:Around}{E:Value->Shared->Prop}{s:Shared}{vs:List Value}{kz:List Int}{keys:Array Value}{a kS:Addr}{e e1:Nat}{P:PySem.Fin->Shared->Prop}
theorem key_end64(nk:s.heap.get? kS=some (seqObj "list" keys e))(na:s.heap.get? a=some (seqObj "list" #[] e1))(hka:kS≠a)(hk:IntsAre keys.toList kz)(hlen:kz.length=vs.length)(hz:vs.length<=sizeLine)(h64:vs.length < 64)
  (h:∀h' out c,(∀b o,b≠a->b≠kS->s.heap.get? b=some o->h'.get? b=some o)->h'.get? a=some (seqObj "list" out c)->KskOut false kz vs out.toList->P (.done (.ret .none)) { s with heap:=h' }) :
  wpAny (model prog w) A (ksk_end a false vs.toArray e1 (.ref kS) keys) P E s:=by
 have hsz:keys.size=vs.length:=by
  have h1:=hk.length
  rw[S1]at h1
  omega
 have hzs:(keys.zip vs.toArray).size=vs.length:=by rw[J8,hsz,N0,Nat.min_self]
 unfold ksk_end
 simp only[W2,if_false]
 try dsimp only
 by_cases h2:vs.toArray.size < 2
 ·rw[if_pos h2,if_pos h2]
  refine wpAny_bind (wpAny_pure ?_)
  rw[StateT.run_pure]
  refine wpAny_bind (wpAny_pure ?_)
  try dsimp only
  refine key_tail (st:=SortSt.mk' general' (keys.zip vs.toArray) #[] 7 none) nk na hka hk hlen hz (Array.Perm.refl _) ?_ rfl h
  intro i j hij hj
  have hj2:j < (keys.zip vs.toArray).size:=hj
  rw[hzs]at hj2
  rw[N0]at h2
  have:i=j:=by omega
  subst this
  exact h7 _
 ·rw[if_neg h2,if_neg h2]
  rw[N0]at h2
  rw[ksk_kind hk (by rw[hsz];omega)]
  refine wpAny_bind (wpAny_pure ?_)
  have hI:IntKeys (keys.zip vs.toArray):=ksk_intKeys hk
  have mem:∀p:Keyed,p∈(keys.zip vs.toArray).toList->∃n t,p.1=.int n t/\n∈kz:=λp hp=>by
   obtain⟨n,t,e⟩:=hI p hp
   refine ⟨n,t,e,?_⟩
   rw[ksk_zip]at hp
   have:=(L5 hp).1
   rw[<- hk.nums]
   exact A1.mpr ⟨p.1,this,by rw[e];rfl⟩
  have run:=SG.w_sort64 (prog:=prog) (w:=w) (A:=A) (E:=E) (κ:=oneType') (rk:=λp=>kz.countP λz=>decide (z < numOf p.1)) (S:=λp=>∃n t,p.1=.int n t/\n∈kz) (st:=SortSt.mk' oneType' (keys.zip vs.toArray) #[] 7 none) (s:=s)
   (Q:=λ_ st'=>(arrOf st').Perm (keys.zip vs.toArray)/\failedOf st'=none/\SG.Sg (λp=>kz.countP λz=>decide (z < numOf p.1)) (arrOf st') 0 (keys.zip vs.toArray).size)
   (λ⟨x1,x2⟩ ⟨y1,y2⟩ ⟨n,t,ex,hn⟩ ⟨m,u,ey,hm⟩ Q' hQ'=>by
     have ex:x1=.int n t:=ex
     have ey:y1=.int m u:=ey
     subst ex ey
     show wpAny (model prog w) A (keyLt' oneType' (.int n t) (.int m u)) Q' _ s
     rw[keyLt'_oneType]
     have rk:=SG.rank int_wk hn hm
     have hQ':Q' (decide (kz.countP (λz=>decide (z < n)) < kz.countP (λz=>decide (z < m)))) s:=hQ'
     rw[rk]at hQ'
     exact oneLt_int hQ') (show (keys.zip vs.toArray).size < 64 by omega) (λp hp=>mem p hp) rfl rfl rfl λst' p1 p2 p3=>⟨p1,p2,p3⟩
  refine wpAny_bind (wpAny_mono run ?_ λ_ _ e=>e)
  rintro⟨⟨⟩,st'⟩ s' ⟨rfl,hp,hf,hs⟩
  try dsimp only
  refine key_tail nk na hka hk hlen hz hp (λi j hij hj=>?_) hf h
  have hz2:(arrOf st').size=(keys.zip vs.toArray).size:=hp.size_eq
  have hs:SG.Sg (λp=>kz.countP λz=>decide (z < numOf p.1)) (arrOf st') 0 (keys.zip vs.toArray).size:=hs
  have hj:j < (arrOf st').size:=hj
  have g:=hs i j (m3 _) hij (by omega)
  have hi:i < (arrOf st').size:=Q1 hij hj
  rw[SG.KR_at hi,SG.KR_at hj]at g
  have hpl:(arrOf st').toList.Perm (keys.zip vs.toArray).toList:=Z4.mp hp
  obtain⟨n,t,en,mn⟩:=mem (arrOf st')[i] (hpl.mem_iff.mp (by simp))
  obtain⟨m,u,em,mm⟩:=mem (arrOf st')[j] (hpl.mem_iff.mp (by simp))
  have rk:=SG.rank int_wk mm mn
  have ki:G7 (arrOf st') i=n:=by unfold G7;rw[getElem?_pos (arrOf st') i hi];show numOf (arrOf st')[i].1=n;rw[en];rfl
  have kj:G7 (arrOf st') j=m:=by unfold G7;rw[getElem?_pos (arrOf st') j hj];show numOf (arrOf st')[j].1=m;rw[em];rfl
  rw[ki,kj]
  try dsimp only at g
  rw[en,em]at g
  have g:kz.countP (λz=>decide (z < n))<=kz.countP (λz=>decide (z < m)):=g
  rw[decide_eq_false (S8.mpr g)]at rk
  have:=of_decide_eq_false rk.symm
  omega
end
theorem call_sortKG64{X:Cx}{pins:List (Addr×Obj)}{σ:St}{H:Hp}{s:Shared}{l f:Addr}{vs:List V}{kz:List Int}{Q:VK}{its:List Value}(I:Inv X pins σ H s)(rv:Vals vs its)(hz2:its.length<=sizeLine)
  (hcol:∀(R:List Value->Shared->Prop),(∀(h1:Heap) (tk:Nat),(∀b o,s.heap.get? b=some o->h1.get? b=some o)->R its { s with heap:=h1,toks:=tk })->wpAny (model X.prog X.w) X.A.in1 (collect (.ref l)) R X.xe s)
  (hlen:kz.length=vs.length) (h64:vs.length < 64) (W:Nat->Hp->Prop) (w0:W 0 H)
  (turn:∀(i:Nat) (v:V) (u:Value) (k:Int) (pins:List (Addr×Obj)) (s:Shared) (H:Hp),vs[i]?=some v->kz[i]?=some k->RelV v u->Inv { X with A:=X.A.in1.in1 } pins σ H s->W i H ->
    wpAny (model X.prog X.w) X.A.in1.in1 (call (.ref f) [u]) (EP { X with A:=X.A.in1.in1 } pins σ λr H'=>r=.int k/\W (i+1) H') (λ_ _=>False) s)
  (h:∀(H':Hp) (D:Addr) (ps:List (Int×V)),W vs.length H'->H' D=none->ps.Perm (kz.zip vs)->ps.Pairwise (λp q=>p.1<=q.1)->Q (.ref D) (upd H' D (.lst (ps.map (·.2))))) :
  wpAny (model X.prog X.w) X.A (call (.builtin "sorted") [.ref l] [(Str.ofString "key",.ref f)]) (EP X pins σ Q) X.xe s:=by
 have hl:=rv.length
 have hz:vs.length<=sizeLine:=by omega
 refine call_function_entry_kw kind_sorted plain_sorted entry_sorted (ksk_s1 _ _) ?_
 unfold Builtin.«sorted»
 refine wpAny_bind (m:=checkCount "sorted" 1 1 _) (wpAny_pure ?_)
 refine wpAny_bind (hcol _ λh0 tk0 kp0=>?_)
 have I:=I.kept (t':=tk0) kp0
 generalize ({ s with heap:=h0,toks:=tk0 }:Shared)=s at I ⊢
 refine wpAny_bind (wpAny_newList ?_ hz2)
 have hoL:(s.heap.push (seqObj "list" its.toArray 0)).get? s.heap.objs.size=some (seqObj "list" its.toArray 0):=M0 _ rfl
 have keep:∀b o,s.heap.get? b=some o->(s.heap.push (seqObj "list" its.toArray 0)).get? b=some o:=λb o q=>i0 _ q
 have hsz2:(s.heap.push (seqObj "list" its.toArray 0)).objs.size=s.heap.objs.size+1:=size_push' ..
 show wpAny _ _ _ _ _ { s with heap:=s.heap.push (seqObj "list" its.toArray 0) }
 generalize s.heap.push (seqObj "list" its.toArray 0)=h1 at *
 refine wpAny_bind (wpAny_holding (wpAny_call_entry_kw slot_list_sort ⟨_,hoL,rfl⟩ entry_list_sort ?body (ksk_l1 _ _)))
 case body =>
  show wpAny (model X.prog X.w) X.A.in1.in1 (Builtin.«list.sort» ⟨[.ref (s.heap.objs.size)],[(Str.ofString "key",.ref f)]⟩) _ _ _
  rw[ksk_t1]
  unfold ksk_tree
  refine wpAny_bind (listItems_at hoL rfl ?_)
  refine wpAny_bind (listUpdate_at hoL rfl ?_ (by rw[N0];exact hz2) (m3 _))
  obtain⟨e1,ho1⟩:∃e1,(h1.update (s.heap.objs.size) (U1 λ_=>(#[]:Array Value))).get? (s.heap.objs.size)=some (seqObj "list" #[] e1):=⟨_,get?_update_seq hoL λ_=>#[]⟩
  refine wpAny_bind (seqEpoch_at ho1 rfl ?_)
  refine wpAny_bind (wpAny_newTuple ?_ (by show its.length<=_;exact hz2))
  refine wpAny_bind (wpAny_newList ?_ (m3 _))
  refine wpAny_holding ?_
  have hk3:((h1.update (s.heap.objs.size) (U1 λ_=>(#[]:Array Value))).push (seqObj "tuple" its.toArray 0)).objs.size=s.heap.objs.size+2:=by rw[size_push',W6,hsz2]
  have keep2:∀b o,s.heap.get? b=some o->(((h1.update (s.heap.objs.size) (U1 λ_=>(#[]:Array Value))).push (seqObj "tuple" its.toArray 0)).push (seqObj "list" #[] 0)).get? b=some o:=λb o q=>by
   refine i0 _ (i0 _ ?_)
   rw[B3 _ _ _ _ (Y0 (J0 q))]
   exact keep b o q
  have ho2:(((h1.update (s.heap.objs.size) (U1 λ_=>(#[]:Array Value))).push (seqObj "tuple" its.toArray 0)).push (seqObj "list" #[] 0)).get? (s.heap.objs.size)=some (seqObj "list" #[] e1):=i0 _ (i0 _ ho1)
  have hk2:(((h1.update (s.heap.objs.size) (U1 λ_=>(#[]:Array Value))).push (seqObj "tuple" its.toArray 0)).push (seqObj "list" #[] 0)).get? (s.heap.objs.size+2)=some (seqObj "list" #[] 0):=by
   rw[<- hk3];exact M0 _ rfl
  show wpAny _ _ (ksk_rest (s.heap.objs.size) (.ref f) false its.toArray e1 (.ref ((h1.update (s.heap.objs.size) (U1 λ_=>(#[]:Array Value))).push (seqObj "tuple" its.toArray 0)).objs.size)) _ _ { s with heap:=((h1.update (s.heap.objs.size) (U1 λ_=>(#[]:Array Value))).push (seqObj "tuple" its.toArray 0)).push (seqObj "list" #[] 0) }
  rw[hk3]
  generalize ((h1.update (s.heap.objs.size) (U1 λ_=>(#[]:Array Value))).push (seqObj "tuple" its.toArray 0)).push (seqObj "list" #[] 0)=h3 at *
  have fresh:∀j,∀q:Obj,h3.get? (s.heap.objs.size+j)=some q->(∀v,q.data≠.cell v)->h3.get? (s.heap.objs.size+j)=some q/\H (s.heap.objs.size+j)=none/\s.heap.objs.size+j≠X.env.locals/\s.heap.objs.size+j∉X.fs/\∀v,q.data≠.cell v:=λj q hq hd =>
   ⟨hq,I.hok.fresh (T2 _ _),T1 (T0 I.lt (T2 _ _)),I.nofs (T2 _ _),hd⟩
  have I0:Inv X pins σ H { s with heap:=h3 }:=I.kept (t':=s.toks) keep2
  have I1:Inv { X with A:=X.A.in1.in1 } ([(s.heap.objs.size+2,seqObj "list" #[] 0),(s.heap.objs.size,seqObj "list" #[] e1)]++pins) σ H { s with heap:=h3 }:=by
   refine (I0.at (A:=X.A.in1.in1) rfl rfl).pins_of λp hp=>?_
   rcases R0.mp hp with hp|hp
   ·rcases X0.mp hp with rfl|hp
    ·exact fresh 2 _ hk2 (λv z=>by cases z)
    ·rw[U0.mp hp]
     exact fresh 0 _ ho2 (λv z=>by cases z)
   ·exact I0.pin p (Z0 _ hp)
  have oldC:∀j,∀x c,X.env.cells.lookup x=some c->c≠s.heap.objs.size+j:=λj x c z=>by
   obtain⟨v,o,ho,_⟩:=I.cell x c z
   exact Y0 (T0 (J0 ho) (T2 _ _))
  have oldP:∀j,∀p∈X.pn++pins,p.1≠s.heap.objs.size+j:=λj p hp=>Y0 (T0 (J0 (I.pin p hp).1) (T2 _ _))
  have sz0:∀j,X.s₀.heap.objs.size<=s.heap.objs.size+j:=λj=>Q0 I.sz (T2 _ _)
  unfold ksk_rest
  refine wpAny_bind (wpAny_rule ?_)
  first
   | rw[List.forIn_toArray]
   | (rw[<- X8];simp only[List.toList_toArray])
  refine wpAny_bind (ksk_fold (λi s'=>∃H' kA e,Inv { X with A:=X.A.in1.in1 } ([(s.heap.objs.size+2,seqObj "list" kA e),(s.heap.objs.size,seqObj "list" #[] e1)]++pins) σ H' s'/\IntsAre kA.toList (kz.take i)/\W i H') its 0 _
    ⟨H,#[],0,I1,by simpa using IntsAre.nil,w0⟩ ?step ?done)
  case step =>
   rintro j x s' hx ⟨H',kA,e,J,hk,wj⟩
   simp only[V5]at hk wj ⊢
   have hj:j < its.length:=(W0.mp hx).1
   obtain⟨k,hkj⟩:∃k,kz[j]?=some k:=⟨_,y0 (by omega)⟩
   obtain⟨v,hv⟩:∃v,vs[j]?=some v:=⟨_,y0 (by omega)⟩
   obtain⟨u,hu,ru⟩:=rv.get hv
   rw[hx]at hu;cases hu
   have hzk:kA.size<=its.length:=by
    have h1:=hk.length
    rw[S1,J1]at h1
    omega
   refine wpAny_bind (wpAny_attempt (wpAny_mono (turn j v x k _ s' H' hv hkj ru J wj) (λv s'' he=>?_) λ_ _ hF=>hF.elim))
   obtain⟨r,H2,J2,rr,er,w2⟩:=he
   subst er
   obtain⟨t2,rfl⟩:=rr
   try dsimp only
   have nk:=J2.pin (s.heap.objs.size+2,seqObj "list" kA e) (Z0 _ (n4 _ (.head _)))
   have na:=J2.pin (s.heap.objs.size,seqObj "list" #[] e1) (Z0 _ (n4 _ (.tail _ (.head _))))
   obtain⟨c2,hc2⟩:∃c2,(s''.heap.update (s.heap.objs.size+2) (U1 (·.push (.int k t2)))).get? (s.heap.objs.size+2)=some (seqObj "list" (kA.push (.int k t2)) c2):=⟨_,get?_update_seq nk.1 (·.push (.int k t2))⟩
   have ek:kz.take (j+1)=kz.take j++[k]:=by rw[List.take_add_one,hkj];simp
   have ea:(kA.push (n6 k t2)).toList=kA.toList++[n6 k t2]:=by simp
   refine wpAny_bind (listUpdate_at nk.1 rfl ?_ (Q0 hzk hz2) (by rw[Array.size_push];exact Nat.succ_le_succ (Q0 hzk hz2)))
   have K0:Inv { X with A:=X.A.in1.in1 } pins σ H2 s'':=J2.pins_of λp hp=>J2.pin p (Z0 _ (Z0 _ hp))
   have K1:=K0.turned (t':=s''.toks) (it:=s.heap.objs.size+2) (h':=s''.heap.update (s.heap.objs.size+2) (U1 (·.push (.int k t2)))) (λb o hb ho=>(B3 _ _ _ _ hb).trans ho) nk.2.1 nk.2.2.1 (.inr (sz0 2)) (oldC 2) (oldP 2)
   refine wpAny_pure ⟨rfl,H2,kA.push (.int k t2),c2,K1.pins_of λp hp=>?_,by rw[ea,ek];exact ksk_snoc hk,w2⟩
   rcases R0.mp hp with hp|hp
   ·rcases X0.mp hp with rfl|hp
    ·exact ⟨hc2,nk.2.1,nk.2.2.1,nk.2.2.2.1,λv z=>by cases z⟩
    ·rw[U0.mp hp]
     exact ⟨(B3 _ _ _ _ (Y0 (g8 (by decide:0 < 2)))).trans na.1,na.2⟩
   ·exact K1.pin p (Z0 _ hp)
  case done =>
   rintro s' ⟨H',kA,e,J,hk,wj⟩
   have hk':IntsAre kA.toList kz:=by
    have e3:kz.take (0+its.length)=kz:=S2 (by omega)
    rw[e3]at hk
    exact hk
   have wj:W vs.length H':=by rw[hl];simpa using wj
   have nk:=J.pin (s.heap.objs.size+2,seqObj "list" kA e) (Z0 _ (n4 _ (.head _)))
   have na:=J.pin (s.heap.objs.size,seqObj "list" #[] e1) (Z0 _ (n4 _ (.tail _ (.head _))))
   try dsimp only
   refine wpAny_bind (listItems_at nk.1 rfl ?_)
   refine key_end64 nk.1 na.1 (T1 (g8 (by decide:0 < 2))) hk' (by omega) hz2 (by omega) λh' out c kp ha ⟨qs,q1,q2,q3⟩=>⟨_,rfl,?_⟩
   refine wpAny_pure ⟨_,rfl,?_⟩
   obtain⟨ps,p1,p2⟩:=paired_perm q1 (paired_zip rv)
   obtain⟨p3,p4⟩:=paired_fst p2
   have K0:Inv X pins σ H' s':=(J.at (A:=X.A) rfl rfl).pins_of λp hp=>J.pin p (Z0 _ (Z0 _ hp))
   have nn:H' (s.heap.objs.size)=none:=na.2.1
   have lenP:(ps.map (·.2)).length=vs.length:=by rw[j0,p1.length_eq,r8];omega
   have mch:∀{b:Addr},b∉[s.heap.objs.size,s.heap.objs.size+2]->b≠s.heap.objs.size/\b≠s.heap.objs.size+2:=λ{b} z=>⟨λq=>z (by simp[q]),λq=>z (by simp[q])⟩
   refine ⟨.ref (s.heap.objs.size),upd H' (s.heap.objs.size) (.lst (ps.map (·.2))),K0.step (g':=s'.gens) (d':=s'.drawn) (t':=s'.toks) (ch:=[s.heap.objs.size,s.heap.objs.size+2]) (λb hb=>?_) (λb o _ _ hb e _=>kp b o (mch hb).1 (mch hb).2 e) (λb o _ _ hb e _=>⟨o.slots,kp b o (mch hb).1 (mch hb).2 e⟩)
     (λb o hb e n=>by rw[upd_ne (mch hb).1];exact n) (λb o hb e=>⟨o,kp b o (mch hb).1 (mch hb).2 e⟩) (λb xs e=>by rw[upd_ne (ne_of_none e nn)];exact e) (λb o u e=>by rw[upd_ne (ne_of_none e nn)];exact e) (λb ps e=>⟨#[],by rw[upd_ne (ne_of_none e nn),e];simp⟩) (λm hm=>?_) (λb u e=>?_) K0.bare,rfl,h H' _ ps wj nn p1 ?_⟩
   ·rcases X0.mp hb with rfl|hb
    ·exact ⟨.inr (sz0 0),na.2.2.1,oldC 0,oldP 0⟩
    ·rw[U0.mp hb]
     exact ⟨.inr (sz0 2),nk.2.2.1,oldC 2,oldP 2⟩
   ·obtain⟨o,es,ep,ho,r⟩:=hm
    exact ⟨o,es,ep,kp _ o (v3 na.2.2.1) (v3 nk.2.2.1) ho,r⟩
   ·by_cases z:b=s.heap.objs.size
    ·subst z
     rw[upd_same]at e;cases e
     exact ⟨by rw[lenP];exact hz,out.toList,c,by rw[q2];exact p4,by rw[ha,K8]⟩
    ·rw[upd_ne z]at e
     have hb3:∀d v,H' d=some v->d≠s.heap.objs.size+2:=λd v q z=>by rw[z]at q;have:=nk.2.1;rw[this]at q;cases q
     refine (K0.hok b u e).stay (λd v hd q=>?_) (λd q=>by rw[upd_ne (ne_of_none q nn)];exact q) λd xs q=>by rw[upd_ne (ne_of_none q nn)];exact q
     rcases hd with rfl|hd
     ·exact kp _ _ z (hb3 _ _ e) q
     ·exact kp _ _ (ne_of_none hd nn) (hb3 _ _ hd) q
   ·have:(ps.map (·.1)).Pairwise (·<=·):=by
     rw[p3,P2]
     exact q3.imp λh=>by simpa using h
    rw[P2]at this
    exact this
end L2
namespace L3
open PySem PySem.Spec PyProof.Rows L2
noncomputable def dSortKQ(j:Nat)(tb:TD):TD:=λρ Q=>match ρ[j]? with
 | some (some s)=>∃(ps:List (List Int×D)) (kz:List Int),s.d=pdD ps/\ps.length < 64/\kz.length=ps.length/\(∀(i:Nat) (p:List Int×D) (k:Int),ps[i]?=some p->kz[i]?=some k->tb [some (.fz (tI p.1))] λr' _=>r'=.fz (.int k)) /\
  ∀qs:List (Int×List Int),qs.Perm (kz.zip (ps.map (·.1)))->qs.Pairwise (λp q=>p.1<=q.1)->Q (.ow (.list (qs.map λq=>tI q.2))) ρ
 | _=>False
theorem w_sortKQ{X:Cx}{K:Fg}{k:Nat}{x y:Str}{c0 P:Addr}{ar:Arguments}{body e:Expr}{sc:Scope}{lp kp p pos:Pos}{j:Nat}{tb:TD}(hK:X.K=K)(hr:Room (k+3) X.A)(hc:X.calm=true)(hm:X.mg "sorted"=none)(he:WE X e (argT K (.inl j)))
  (hcode:X.env.code=.ref c0) (hqual:X.env.qual ++ "<lambda>"=x ++ ".<locals>.<lambda>") (hC:P4 K c0 P=true) (hP:(P,x)∈TB K) (hPx:∀z∈TB K,z.1=P->z.2=x) (S:FnScope [y] [y] sc)
  (hb:∀(f:Addr) (cdv:Value) (A:Around) (outer:List Env) (s:Shared) (H:Hp),Room k (A.deeper (envOfC (x ++ ".<locals>.<lambda>") sc s.heap.objs.size f cdv)) ->
    WE (cxOf CX0 X.prog X.w K X.mg X.base [y] (x ++ ".<locals>.<lambda>") sc f cdv A outer s H E0).nox body (lift K tb))
  (hba:∀(c:Addr) (pm ctv u:Value),bindArgs (PySem.W.kla_fn "<lambda>" (x ++ ".<locals>.<lambda>") ar body sc [] pm (.ref c) ctv) ⟨[u],[]⟩=pure [(y,u)]:=by intros;rfl)
  (hcl:closureFor sc X.env=pure []:=by rfl) (hdef:defaultsOf ar X.env=([],[]):=by rfl) (hg:Gl X "sorted":=by rfl)
  (hst:starEach [e] X.env=(false,eval e X.env) :: starEach [] X.env:=by rfl) (hb2:backTo pos (starEach [e] X.env)=(false,eval e X.env) :: backTo pos (starEach [] X.env):=by rfl) (hpl:(backTo pos (starEach [e] X.env)).any (·.1)=false:=by rfl) :
  WE X (.Call (.Name "sorted" p) [e] [⟨some "key",.Lambda ar body sc lp,kp⟩] pos) (lift K (dSortKQ j tb)):=by
 subst hK
 refine ⟨λpins s σ H Q I h=>?_⟩
 obtain⟨G,F,ρ,Qd,R,w,kk⟩:=h
 refine wpAny_Call_Name_kw (ld_blt I hg hm (show bootBuiltins "sorted"=some (.builtin "sorted") from by first|rfl|decide) ?_)
 refine callWith_kw (env:=X.env) (e:=e) (rest:=[]) (kws:=[⟨some "key",.Lambda ar body sc lp,kp⟩]) ?_ hb2 hpl rfl rfl
 have P1:PA X [e] (tCons (tVar j) tNil):=pa_cons he.h pa_nil hst
 unfold dSortKQ at w
 split at w
 case h_2=>exact w.elim
 rename_i sl eS
 obtain⟨qs0,kz,e1,h64,hlen,hkey,hend⟩:=w
 have own:∃l a' ep ys,σ[j]?=some (some (V.ref l))/\H l=some (extD hL a' ep ys)/\DaPd X.K F ys qs0:=by
  have at':∃v,σ[j]?=some (some v)/\At X.K F H v sl.d:=by
   cases hw:isOw sl with
   | true =>
    obtain⟨l,o,g1,g2,g3,g4⟩:=R.ow j sl eS hw
    exact ⟨_,g1,.inr ⟨l,o,rfl,g2,g3,g4⟩⟩
   | false =>
    cases sl with
    | fz d =>
     obtain⟨v,g1,g2⟩:=R.fz j d eS
     exact ⟨v,g1,.inl g2⟩
    | ow d=>cases hw
    | io d=>cases hw
  obtain⟨v,g1,g2⟩:=at'
  rw[e1]at g2
  obtain⟨b,b',ep,ys,qs,rfl,g3,g4,g5⟩:=pd_at R.sub g2
  have g5:pdD qs0=pdD qs:=by unfold pdD;rw[g5]
  exact ⟨b,b',ep,ys,g1,g3,by rw[pd_inj g5];exact g4⟩
 obtain⟨l,a',ep,ys,eσ,eH,tY⟩:=own
 have dx:DaAll X.K F (ys.map λy=>V.ref y.2.1) (qs0.map λq=>tI q.1):=pd_keysD tY
 refine thn (P1 pos pins s σ H (λvs H1=>vs=[.ref l]/\H1=H) I ⟨_,eσ,rfl,rfl⟩) λus s1 ⟨vs,H1,I1,rv,q1,q2⟩=>?_
 subst q1 q2
 obtain⟨u,rfl,ru⟩:=vals1 rv
 cases ru
 refine kws_cons ?_
 obtain⟨_,ps0,eP,tP,cP⟩:=R.tb (P,x) hP
 refine thn (pe_lam (x:=x) (P:=P) hcode hqual hC hcl hdef pins s1 σ H1 (λv H2=>∃f c o,v=.ref f/\Rel X.K G F σ H2 ρ/\H2 f=some (lamO f c (x ++ ".<locals>.<lambda>") ar body sc)/\H2 c=some (codO c o)/\CodQ x o/\H2 l=some (extD hL a' ep ys)) I1 ⟨ps0,eP,tP,cP,?_⟩) λu2 s2 ⟨v2,H2,I2,rv2,q2⟩=>?_
 ·intro H' ps' f c o kp hf nP nT nC nc nq nf
  have su:Sub F H':=λb o e=>kp b o (λz=>by rw[z,(R.tb (P,x) hP).1]at e;cases e) (R.sub b o e)
  refine ⟨f,c,o,rfl,R.grown (Sub.refl _) su (λb o e=>.inl e) (λb o n e=>kp b o (v3 (n (P,x) hP)) e) λz hz=>?_,nf,nc,nq,kp _ _ (λz=>by rw[z,eP]at eH;cases eH) eH⟩
  refine ⟨(R.tb z hz).1,?_⟩
  by_cases zp:z.1=P
  ·rw[zp,hPx z hz zp]
   exact ⟨ps',nP,nT,nC⟩
  ·obtain⟨_,qs,g1,g2,g3⟩:=R.tb z hz
   refine ⟨qs,kp _ _ zp g1,g2,λpos v e=>?_⟩
   obtain⟨c',o',h1,h2,h3⟩:=g3 pos v e
   exact ⟨c',o',h1,kp _ _ (λq=>by rw[q,eP]at h2;cases h2) h2,h3⟩
 obtain⟨f,c,o,rfl,R2,hf,hc',hq,hs⟩:=q2
 cases rv2
 refine kws_nil ?_
 show wpAny (model X.prog X.w) X.A (call (.builtin "sorted") [.ref l] [(Str.ofString "key",.ref f)]) (EP X pins σ Q) X.xe s2
 have hxl:=dx.length
 obtain⟨its,rv3,hz3,hcol⟩:=col_pd hc I2 hs
 refine call_sortKG64 (vs:=ys.map λy=>V.ref y.2.1) (kz:=kz) I2 rv3 hz3 hcol (by rw[hlen];simpa using hxl.symm) (by rw[hxl,j0];exact h64) (λi H'=>∃F',Sub F F'/\Rel X.K G F' σ H' ρ/\H' f=some (lamO f c (x ++ ".<locals>.<lambda>") ar body sc)/\H' c=some (codO c o)) ⟨F,Sub.refl _,R2,hf,hc'⟩ (λi v u kv pins s H hv hk ru I ⟨F',sb,R,hf,hc⟩=>?_) (λH' Dd ps ⟨F',sb,R,_,_⟩ hn p1 p2=>?_)
 ·obtain⟨d,hd,dv⟩:=(dx.mono sb).getV hv
  rw[O0]at hd
  obtain⟨q0,hq0,rfl⟩:=v4.mp hd
  have kb:=hkey i q0 kv hq0 hk
  have run:=lam_run (k:=k) (N:=[y]) (ps:=[y]) (us:=[u]) (vs:=[v]) (Q:=λr H'=>r=.int kv/\∃F',Sub F F'/\Rel X.K G F' σ H' ρ/\H' f=some (lamO f c (x ++ ".<locals>.<lambda>") ar body sc)/\H' c=some (codO c o)) S hr.in1.in1 I.env0 hf hc hq
   (λpm ctv us hl=>by
     match us,hl with
     | [u],_=>exact hba c pm ctv u) rfl (.cons ru .nil) (λhr'=>⟨_,(hb f (.ref c) X.A.in1.in1 X.stack s H hr').h,⟨H,F',λ_=>none⟩,F',[some (.fz (tI q0.1))],_,rel_call (vs:=[v]) (ds:=[tI q0.1]) R.sub R.tb (.cons dv .nil),kb,λv' H3 F3 r3 ρ3 s3 R3 res3 e3=>?_⟩)
  ·refine wpAny_call (codeAny_mono run λr s' hq=>?_)
   cases r with
   | error e=>exact False.elim hq
   | ok fl =>
    cases fl with
    | ret u=>exact I.after hq
    | next=>exact False.elim hq
    | brk=>exact False.elim hq
    | cont=>exact False.elim hq
  ·subst e3
   have kp:∀b o,(∀z∈TB X.K,z.1≠b)->H b=some o->H3 b=some o:=λb o n e=>R3.keep b o e (λi z=>by cases z) n
   refine ⟨da_int res3,F3,sb.trans s3,R.grown s3 R3.sub (λb o e=>R3.fn b o e) kp R3.tb,kp _ _ (R.tb.ne λu z=>by rw[hf]at z;cases z;rfl) hf,kp _ _ (λz hz e=>?_) hc⟩
   obtain⟨_,qs,g1,_⟩:=R.tb z hz
   rw[e,hc]at g1
   cases g1
 ·obtain⟨qs,q1,q2⟩:=paired_perm p1 (dx.mono sb).zip
  obtain⟨q3,q4⟩:=unzipD q2
  obtain⟨R',r'⟩:=R.newOw (o:=.lst (ps.map λp:Int×V=>p.2)) (d:=.list (qs.map λp:Int×D=>p.2)) hn (show DaAll X.K F' _ _ from q4)
  refine kk _ _ F' _ ρ sb R' r' ?_
  obtain⟨zs,rfl,z2⟩:=keys_back q1
  have ez:(zs.map λq=>((q.1,tI q.2):Int×D)).map (λp:Int×D=>p.2)=zs.map λq=>tI q.2:=by rw[S0];rfl
  rw[ez]
  refine hend zs z2 ?_
  have q3:(zs.map (·.1))=ps.map (·.1):=by rw[<- q3,S0];rfl
  have:(zs.map (·.1)).Pairwise (·<=·):=by
   rw[q3,P2]
   exact p2
  rw[P2]at this
  exact this
theorem reads_no{X:Cx}{pins:List (Addr×Obj)}{σ:L2.St}{H:Hp}{s:Shared}(I:Inv X pins σ H s){a:Addr}(h:Rd H a (.dK [])\/Rd H a (.dT [])):∃as,Reads s.heap (.ref a) (.dict []) as/\sysModules∉as:=by
 have get:∀{u:HO},Rd H a u->ObjOk X.prog X.w H s.heap a u:=λ{u} h=>h.ok I.hok
 obtain⟨hsm,o,es,ep,e1,e2,e3,e4⟩:(a==sysModules)=false/\∃o es ep,s.heap.get? a=some o/\o.ExactDict/\o.data=.dict es ep/\es.toList=[]:=by
  rcases h with h|h
  ·obtain⟨_,hsm,vs,kv,o,es,ep,e1,e2,e3,_,e4,_⟩:=get h
   cases kv
   exact ⟨hsm,o,es,ep,e1,e2,e3,by cases h:es.toList with|nil=>rfl|cons _ _=>rw[h]at e4;cases e4⟩
  ·obtain⟨_,hsm,xs,kt,o,es,ep,e1,e2,e3,e4,_⟩:=get h
   cases kt
   exact ⟨hsm,o,es,ep,e1,e2,e3,by simpa using e4⟩
 refine ⟨a :: []++[],.dict (kvs:=[]) e1 e2.1 e3 (by rw[e4];exact .nil) (by rw[e4];exact .nil),λz=>?_⟩
 have z:sysModules=a:=by simpa using z
 rw[z]at hsm
 simp at hsm
noncomputable def rReprZ(K:Fg):List V->Hp->VK->Prop:=λxs H Q=>rRepr K xs H Q\/∃a:Addr,xs=[.ref a]/\(Rd H a (.dK [])\/Rd H a (.dT []))/\Q (.str (B8 []).shown) H
theorem call_reprZ{X:Cx}{K:Fg}{k:Nat}(hK:X.K=K)(hr:Room k X.A):CallR X (.builtin "repr") (rReprZ K):=λpins s σ H xs us Q I r h=>by
 rcases h with h|⟨a,rfl,h,q⟩
 ·exact call_reprK hK hr pins s σ H xs us Q I r h
 ·obtain⟨u,rfl,ru⟩:=vals1 r
  cases ru
  obtain⟨as,ra,hsm⟩:=reads_no I h
  have hu:=hr.units
  exact repr_of_reads' ra rfl (λ_=>hsm) hr.gd (by show _+(B8 []).depth < _;simp only[u4,J7];omega) (λ_ _ e=>e) (λh' u tk hk=>⟨.str _,H,I.kept hk,⟨u,rfl⟩,q⟩) (by decide +kernel)
noncomputable def shwZ:D->Bool
 | .dict es=>es.isEmpty
 | d=>plainD d
noncomputable def fReprZ(d:D)(Q:Sl->Prop):Prop:=shwZ d=true/\d.showable=true/\d.depth+1<=64/\d.shown.length<=sizeLine/\Q (.fz (.str d.shown))
theorem At.no{K:Fg}{F H:Hp}{v:V}(sb:Sub F H)(h:At K F H v (.dict [])):∃a:Addr,v=.ref a/\(Rd H a (.dK [])\/Rd H a (.dT [])):=by
 rcases h with h|⟨a,o,rfl,n,e,h⟩
 ·cases h with
  | dk h t=>cases t;exact ⟨_,rfl,.inl (sb.rd h)⟩
  | dt h t=>cases t;exact ⟨_,rfl,.inr (sb.rd h)⟩
 ·refine ⟨a,rfl,?_⟩
  cases o with
  | dK kvs=>have h:DaKV K F kvs []:=h;cases h;exact .inl (.inl e)
  | dT kvs=>have h:DaKT K F kvs []:=h;cases h;exact .inr (.inl e)
  | _=>exact h.elim
section
variable {X:Cx}{pins:List (Addr×Obj)}{σ:L2.St}{F H:Hp}{s:Shared}
theorem ints_reads{h:Heap}:∀{k:List Int}{us:List Value},Vals (k.map V.int) us->ReadsAll h us (k.map G0) []
 | [],_,.nil=>.nil
 | i :: k,_,.cons r t=>by
  obtain⟨t',rfl⟩:=r
  have:=ReadsAll.cons (Reads.int (h:=h) i t') (ints_reads t)
  exact this
theorem tup_reads(I:Inv X pins σ H s){b:Addr}{k:List Int}(h:H b=some (.tup (k.map V.int))):Reads s.heap (.ref b) (tI k) []:=by
 obtain⟨its,rv,⟨o,e,c,n,q⟩,_⟩:=I.tuple (SqT.of h)
 exact .tuple e c q (by simpa using ints_reads rv)
theorem pd_all(I:Inv X pins σ H s)(sb:Sub F H):∀{xs:List (List Int×Addr×V)}{ps:List (List Int×List Int)}{vs:List (List Int×Addr×Value)},DaPd X.K F xs (ps.map λp=>(p.1,tI p.2))->Paired (λx v=>x.1=v.1/\x.2.1=v.2.1/\RelV x.2.2 v.2.2) xs vs ->
  ReadsAll s.heap (vs.map λv=>.ref v.2.1) (ps.map λp=>tI p.1) []/\ReadsAll s.heap (vs.map λv=>v.2.2) (ps.map λp=>tI p.2) []
 | _,[],_,d,p=>by
  cases d
  cases p
  exact ⟨.nil,.nil⟩
 | _,q :: ps,_,d,p=>by
  cases d with
  | cons hb hv t =>
   cases p with
   | cons r rr =>
    obtain⟨r1,r2,r3⟩:=r
    obtain⟨a1,a2⟩:=pd_all I sb t rr
    dsimp only at r1 r2 r3
    refine ⟨?_,?_⟩
    ·rw[B1,B1,<- r2]
     exact ReadsAll.cons (tup_reads I (sb _ _ hb)) a1
    ·rw[B1,B1]
     cases hv with
     | tup e t' =>
      have:=DaAll.intsV t'
      subst this
      rw[relV_ref r3]
      exact ReadsAll.cons (tup_reads I (sb _ _ e)) a2
end
noncomputable def dP(ps:List (List Int×List Int)):PyData:=.dict (ps.map λp=>(tI p.1,tI p.2))
theorem pd_reads{X:Cx}{pins:List (Addr×Obj)}{σ:L2.St}{F H:Hp}{s:Shared}(I:Inv X pins σ H s)(sb:Sub F H){a a':Addr}{ep:Nat}{xs:List (List Int×Addr×V)}{ps:List (List Int×List Int)}(hd:H a=some (extD hL a' ep xs))(t:DaPd X.K F xs (ps.map λp=>(p.1,tI p.2))):Reads s.heap (.ref a) (dP ps) [a]/\sysModules∉[a]:=by
 obtain⟨vs,o,es,pr,e1,e2,e3,e4,_,_,_,hm⟩:=ext_at I hd
 obtain⟨a1,a2⟩:=pd_all I sb t pr
 refine ⟨?_,λz=>by rw[U0]at z;rw[<- z]at hm;simp at hm⟩
 have:=Reads.dict (kvs:=ps.map λp=>(tI p.1,tI p.2)) e1 e2.1 e3 (as:=[]) (bs:=[]) (by rw[e4,S0,S0];exact a1) (by rw[e4,S0,S0];exact a2)
 exact this
noncomputable def rReprW(K:Fg):List V->Hp->VK->Prop:=λxs H Q=>rReprZ K xs H Q\/∃(a a':Addr) (ep:Nat) (ys:List (List Int×Addr×V)) (F:Hp) (ps:List (List Int×List Int)),xs=[.ref a]/\Sub F H/\H a=some (extD hL a' ep ys)/\DaPd K F ys (ps.map λp=>(p.1,tI p.2))/\(dP ps).showable=true/\(dP ps).depth+1<=64/\(dP ps).shown.length<=sizeLine/\Q (.str (dP ps).shown) H
theorem call_reprW{X:Cx}{K:Fg}{k:Nat}(hK:X.K=K)(hr:Room k X.A):CallR X (.builtin "repr") (rReprW K):=λpins s σ H xs us Q I r h=>by
 rcases h with h|⟨a,a',ep,ys,F,ps,rfl,sb,hd,t,hs,hz,hl,q⟩
 ·exact call_reprZ hK hr pins s σ H xs us Q I r h
 ·subst hK
  obtain⟨u,rfl,ru⟩:=vals1 r
  cases ru
  obtain⟨ra,hsm⟩:=pd_reads I sb hd t
  have hu:=hr.units
  exact repr_of_reads' ra hs (λ_=>hsm) hr.gd (by omega) (λ_ _ e=>e) (λh' u tk hk=>⟨.str _,H,I.kept hk,⟨u,rfl⟩,q⟩) hl
noncomputable def fReprW(d:D)(Q:Sl->Prop):Prop:=fReprZ d Q\/∃ps:List (List Int×List Int),d=pdD (ps.map λp=>(p.1,tI p.2))/\(dP ps).showable=true/\(dP ps).depth+1<=64/\(dP ps).shown.length<=sizeLine/\Q (.fz (.str (dP ps).shown))
theorem ok_reprW{K:Fg}:OpOk K (rReprW K) (o1 fReprW):=ok1 λG F σ H ρ x d Q Qd R h1 w k=>by
 rcases w with⟨p1,p2,p3,p4,w⟩|⟨ps,rfl,p2,p3,p4,w⟩
 ·have q:=k _ H F (.fz _) (Sub.refl _) R (Da.str _) w
  by_cases hp:plainD d=true
  ·exact .inl (.inl ⟨x,d,rfl,h1.is R.sub hp,p2,plain_noDict hp,p3,p4,q⟩)
  ·cases d with
   | dict es =>
    cases es with
    | nil=>obtain⟨a,rfl,h⟩:=h1.no R.sub;exact .inl (.inr ⟨a,rfl,h,q⟩)
    | cons _ _=>cases p1
   | _=>exact absurd p1 hp
 ·have q:=k _ H F (.fz _) (Sub.refl _) R (Da.str _) w
  obtain⟨b,b',ep,ys,qs,rfl,hd,dq,e⟩:=pd_at R.sub h1
  have e2:qs=ps.map λp=>(p.1,tI p.2):=pd_inj (by unfold pdD;rw[e])
  subst e2
  exact .inr ⟨b,b',ep,ys,F,ps,rfl,R.sub,hd,dq,p2,p3,p4,q⟩
end L3
namespace L2
open PySem PySem.Spec PyProof.Rows PySem.W
section
variable {prog:Program}{w:World}{A:Around}{E:Value->Shared->Prop}{s:Shared}{κ:SortKind}{vs:List Value}{rk:Value->Nat}
theorem list_sort_64{a:Addr}{n:Nat}{P:Fin->Shared->Prop}(ho:s.heap.get? a=some (seqObj "list" vs.toArray n))(hz:vs.length<=sizeLine)(h64:vs.length < 64)
  (hk:2<=vs.length->∀s':Shared,(∀b o,b≠a->s.heap.get? b=some o->s'.heap.get? b=some o)->∀Q':SortKind->Shared->Prop,Q' κ s'->wpAny (model prog w) A (keyKind' vs.toArray) Q' E s')
  (hlt:∀s':Shared,(∀b o,b≠a->s.heap.get? b=some o->s'.heap.get? b=some o)->∀x y,x∈vs->y∈vs->∀Q':Bool->Shared->Prop,Q' (decide (rk x < rk y)) s'->wpAny (model prog w) A (keyLt' κ x y) Q' (λ_ _=>False) s')
  (h:∀out:List Value,out.Perm vs->out.Pairwise (λx y=>rk x<=rk y)->P (.done (.ret .none)) { s with heap:=sortedHeap s.heap a vs out.toArray }) :
  wpAny (model prog w) A (Builtin.«list.sort» ⟨[.ref a],[]⟩) P E s:=by
 rw[list_sort_plain]
 have ha:a < s.heap.objs.size:=J0 ho
 refine wpAny_bind (listItems_at ho rfl ?_)
 refine wpAny_bind (listUpdate_at ho rfl ?_)
 obtain⟨e1,ho1⟩:∃e1,(s.heap.update a (U1 λ_=>#[])).get? a=some (seqObj "list" #[] e1):=⟨_,get?_update_seq ho (λ_=>#[])⟩
 refine wpAny_bind (seqEpoch_at ho1 rfl ?_)
 refine wpAny_bind (wpAny_newTuple ?_)
 refine wpAny_bind (wpAny_newList ?_)
 refine wpAny_holding ?_
 have ho6:(((s.heap.update a (U1 λ_=>#[])).push (seqObj "tuple" vs.toArray 0)).push (seqObj "list" #[] 0)).get? a=some (seqObj "list" #[] e1):=by
  rw[G6 _ _ _ (by rw[size_push',W6];exact Y0 (v6 ha)),G6 _ _ _ (by rw[W6];exact Y0 ha)]
  exact ho1
 have kp:∀b o,b≠a->s.heap.get? b=some o->(((s.heap.update a (U1 λ_=>#[])).push (seqObj "tuple" vs.toArray 0)).push (seqObj "list" #[] 0)).get? b=some o:=λb o hb e=>by
  refine i0 _ (i0 _ ?_)
  rw[B3 _ _ _ _ hb]
  exact e
 show wpAny (model prog w) A _ P E { s with heap:=((s.heap.update a (U1 λ_=>#[])).push (seqObj "tuple" vs.toArray 0)).push (seqObj "list" #[] 0) }
 dsimp only
 have hsz:vs.toArray.size=vs.length:=by simp
 have out0:((pairsOf vs).map (·.2))=vs.toArray:=by
  apply Array.toList_inj.mp
  rw[X6]
  show (vs.toArray.zip vs.toArray).toList.map (·.2)=_
  simp only[Array.toList_zip]
  exact List.map_snd_zip (A0 _)
 by_cases h2:vs.toArray.size < 2
 ·rw[if_pos h2,if_pos h2]
  refine wpAny_bind (wpAny_pure ?_)
  rw[StateT.run_pure]
  refine wpAny_bind (wpAny_pure ?_)
  dsimp only
  refine wpAny_bind (seqEpoch_at ho6 rfl ?_)
  refine wpAny_bind (listUpdate_at ho6 rfl ?_ (hsz2:=by rw[Array.size_map];show (pairsOf vs).size<=_;rw[pairsOf_size];exact Nat.le_succ_of_le hz))
  simp only[bne_self_eq_false,W2,if_false]
  have h':=h vs (List.Perm.refl _) (by
    match vs,h2 with
    | [],_=>exact .nil
    | [x],_=>exact h8 _ _
    | x :: y :: z,h2=>simp at h2;omega)
  rw[<- out0]at h'
  exact wpAny_pure h'
 ·rw[if_neg h2,if_neg h2]
  have h2':2<=vs.length:=by omega
  refine wpAny_bind (hk h2' _ kp _ ?_)
  have run:=SG.w_sort64 (prog:=prog) (w:=w) (A:=A) (E:=E) (κ:=κ) (rk:=λp=>rk p.1) (S:=λp=>p.1∈vs) (st:=SortSt.mk' κ (pairsOf vs) #[] 7 none)
   (s:={ s with heap:=((s.heap.update a (U1 λ_=>#[])).push (seqObj "tuple" vs.toArray 0)).push (seqObj "list" #[] 0) })
   (Q:=λ_ st'=>(arrOf st').Perm (pairsOf vs)/\failedOf st'=none/\SG.Sg (λp=>rk p.1) (arrOf st') 0 (pairsOf vs).size)
   (λx y hx hy Q' hQ'=>hlt _ kp _ _ hx hy Q' hQ') (by show (vs.toArray.zip vs.toArray).size < 64;rw[J8];simp;exact h64) (λp hp=>by have:=pairs_mem hp;show p.1∈vs;rw[this.1];exact this.2) rfl rfl rfl λst' p1 p2 p3=>⟨p1,p2,p3⟩
  refine wpAny_bind (wpAny_mono run ?_ λ_ _ e=>e)
  rintro⟨⟨⟩,st'⟩ s' ⟨rfl,hp,hf,hs⟩
  dsimp only at hp hf hs ⊢
  refine wpAny_bind (seqEpoch_at ho6 rfl ?_)
  have hpl:=Z4.mp hp
  have eq12:∀p∈(arrOf st').toList,p.1=p.2:=λp h=>(pairs_mem (hpl.mem_iff.mp h)).1
  have hO:((arrOf st').map (·.2)).toList.Perm vs:=by
   rw[X6]
   have e:(pairsOf vs).toList.map (·.2)=vs:=by rw[<- X6,out0]
   have:=hpl.map (·.2)
   rw[e]at this
   exact this
  have hL:((arrOf st').map (·.2)).toList.length=vs.length:=hO.length_eq
  rw[S1]at hL
  refine wpAny_bind (listUpdate_at ho6 rfl ?_ (hsz2:=by rw[hL];exact Nat.le_succ_of_le hz))
  rw[hf]
  simp only[bne_self_eq_false,W2,if_false]
  refine wpAny_pure ?_
  have:=h ((arrOf st').map (·.2)).toList hO (by
    rw[X6,P2,O4]
    intro i j hi hj hij
    rw[S1]at hi hj
    have hz2:(arrOf st').size=(pairsOf vs).size:=hp.size_eq
    have:=hs i j (m3 _) (by omega) (by omega)
    rw[SG.KR_at hi,SG.KR_at hj]at this
    rw[L8,L8,<- eq12 _ (by simp),<- eq12 _ (by simp)]
    exact this)
  rw[K8]at this
  exact this
theorem sorted_64{l:Addr}{Q:Value->Shared->Prop}(hl:s.heap.IsList l vs.toArray)(hz:vs.length<=sizeLine)(h64:vs.length < 64)
  (hk:2<=vs.length->∀s':Shared,(∀b o,s.heap.get? b=some o->s'.heap.get? b=some o)->∀(E:Value->Shared->Prop) (Q':SortKind->Shared->Prop),Q' κ s'->wpAny (model prog w) A.in1.in1 (keyKind' vs.toArray) Q' E s')
  (hlt:∀s':Shared,(∀b o,s.heap.get? b=some o->s'.heap.get? b=some o)->∀x y,x∈vs->y∈vs->∀Q':Bool->Shared->Prop,Q' (decide (rk x < rk y)) s'->wpAny (model prog w) A.in1.in1 (keyLt' κ x y) Q' (λ_ _=>False) s')
  (h:∀out:List Value,out.Perm vs->out.Pairwise (λx y=>rk x<=rk y)->Q (.ref (s.heap.objs.size+1)) { s with heap:=sortedAll s.heap vs out.toArray }) :
  wpAny (model prog w) A (call (.builtin "sorted") [.ref l]) Q E s:=by
 refine Calls.call_function_entry kind_sorted plain_sorted entry_sorted (args_sorted1 _) ?_
 unfold Builtin.«sorted»
 refine wpAny_bind (m:=checkCount "sorted" 1 1 _) (wpAny_pure ?_)
 refine wpAny_bind (collect_list hl ?_ (hsz:=hz))
 refine wpAny_bind (wpAny_newList ?_ hz)
 have hsz:((s.heap.push (seqObj "list" #[] 0)).update s.heap.objs.size (U1 (·++vs.toArray))).objs.size=s.heap.objs.size+1:=by
  rw[W6,size_push']
 have hoL:(((s.heap.push (seqObj "list" #[] 0)).update s.heap.objs.size (U1 (·++vs.toArray))).push (seqObj "list" vs.toArray 0)).get? (s.heap.objs.size+1)=some (seqObj "list" vs.toArray 0):=by
  rw[<- hsz];exact M0 _ rfl
 have keep:∀b o,s.heap.get? b=some o->b≠s.heap.objs.size+1/\(((s.heap.push (seqObj "list" #[] 0)).update s.heap.objs.size (U1 (·++vs.toArray))).push (seqObj "list" vs.toArray 0)).get? b=some o:=λb o q=>by
  have hlt:b < s.heap.objs.size:=J0 q
  refine ⟨Y0 (v6 hlt),?_⟩
  rw[G6 _ _ _ (by rw[hsz];exact Y0 (v6 hlt)),B3 _ _ _ _ (Y0 hlt),G6 _ _ _ (Y0 hlt)]
  exact q
 show wpAny _ _ _ _ _ { s with heap:=((s.heap.push (seqObj "list" #[] 0)).update s.heap.objs.size (U1 (·++vs.toArray))).push (seqObj "list" vs.toArray 0) }
 rw[hsz]
 refine wpAny_bind (wpAny_holding (wpAny_call_entry slot_list_sort ⟨_,hoL,rfl⟩ entry_list_sort (list_sort_64 (κ:=κ) (rk:=rk) hoL hz h64 (λh2 s' k Q' q=>hk h2 s' (λb o e=>k b o (keep b o e).1 (keep b o e).2) _ Q' q)
   (λs' k x y hx hy Q' q=>hlt s' (λb o e=>k b o (keep b o e).1 (keep b o e).2) x y hx hy Q' q) λout o1 o2=>⟨_,rfl,?_⟩) (args_list_sort _)))
 exact wpAny_pure ⟨_,rfl,h out o1 o2⟩
end
noncomputable def rSort64(K:n0)(Rep:Hp->Addr->α->Prop)(fn:Hp->V->α)(lt:α->α->Bool):List V->Hp->VK->Prop:=λxs H Q=>∃(a:Addr) (us:List V),xs=[.ref a]/\SqL K H a us/\us.length < 64 /\
 (∀v∈us,∃c x,v=.ref c/\Rep H c x)/\∀(p:Addr) (us':List V),H p=none->us'.Perm us->(us'.map (fn H)).Pairwise (λa b=>lt b a=false)->Q (.ref p) (upd H p (.lst us'))
section
variable {X:Cx}{α:Type}[Inhabited α]{Rep:Hp->Addr->α->Prop}{fn:Hp->V->α}{lt:α->α->Bool}{κ:SortKind}
theorem call_sortG64(W:SG.Wk lt)(hf:∀H c a,Rep H c a->fn H (.ref c)=a)
  (hkind:∀{pins:List (Addr×Obj)}{s:Shared}{σ:St}{H:Hp},Inv X pins σ H s->∀its:List Value,2<=its.length->(∀u∈its,∃c x,u=.ref c/\Rep H c x)->∀(s':Shared),(∀b o,s.heap.get? b=some o->s'.heap.get? b=some o)->∀(E:Value->Shared->Prop) (Q':SortKind->Shared->Prop),Q' κ s'->wpAny (model X.prog X.w) X.A.in1.in1 (keyKind' its.toArray) Q' E s')
  (hcmp:∀{pins:List (Addr×Obj)}{s:Shared}{σ:St}{H:Hp},Inv X pins σ H s->∀(c d:Addr) (x y:α),Rep H c x->Rep H d y->∀(s':Shared),(∀b o,s.heap.get? b=some o->s'.heap.get? b=some o)->∀Q':Bool->Shared->Prop,Q' (lt x y) s'->wpAny (model X.prog X.w) X.A.in1.in1 (keyLt' κ (.ref c) (.ref d)) Q' (λ_ _=>False) s') :
  CallR X (.builtin "sorted") (rSort64 X.K Rep fn lt):=by
 intro pins s σ H xs us Q I r h
 obtain⟨a,vs,rfl,hs,hz,hrep,q⟩:=h
 obtain⟨u,rfl,ru⟩:=vals1 r
 cases ru
 obtain⟨its,rv,⟨o,n,e,c,d1,d2⟩,hz'⟩:=I.list hs
 have hl:=rv.length
 have at':∀u∈its,∃c x,u=.ref c/\Rep H c x:=λu hu=>by
  obtain⟨i,hi,rfl⟩:=A7 hu
  have hi2:i < vs.length:=by omega
  obtain⟨c,x,hv,hr⟩:=hrep _ (V2 hi2)
  obtain⟨u,hu,ru⟩:=rv.get (y0 hi2)
  rw[hv]at ru
  rw[y0 hi]at hu
  have:its[i]=u:=N1 hu
  rw[this]
  exact ⟨c,x,relV_ref ru,hr⟩
 have key:∀x∈its,∀y∈its,decide ((its.map (ofVal fn H)).countP (λa=>lt a (ofVal fn H x)) < (its.map (ofVal fn H)).countP (λa=>lt a (ofVal fn H y)))=lt (ofVal fn H x) (ofVal fn H y):=λx hx y hy =>
  SG.rank W (X5 hx) (X5 hy)
 refine sorted_64 (κ:=κ) (rk:=λv=>(its.map (ofVal fn H)).countP (λa=>lt a (ofVal fn H v))) (vs:=its) ⟨o,e,c,n,by first|exact d2|exact d1⟩ (by rw[sizeLine_eq];omega) (by omega) (λh2 s' k E' Q' q'=>?_) (λs' k x y hx hy Q' q'=>?_) (λout o1 o2=>?_)
 ·exact hkind I its h2 at' s' k E' Q' q'
 ·rw[key x hx y hy]at q'
  obtain⟨c,x',rfl,hx'⟩:=at' x hx
  obtain⟨d,y',rfl,hy'⟩:=at' y hy
  refine hcmp I c d x' y' hx' hy' s' k Q' ?_
  have e1:ofVal fn H (.ref c)=x':=hf H c x' hx'
  have e2:ofVal fn H (.ref d)=y':=hf H d y' hy'
  rw[e1,e2]at q'
  exact q'
 ·obtain⟨ep,he⟩:=sortedAll_at s.heap its out.toArray
  have hn:H (s.heap.objs.size+1)=none:=I.hok.fresh (Q7 _)
  obtain⟨us',p',r'⟩:=vals_perm o1 rv
  refine ⟨.ref (s.heap.objs.size+1),upd H (s.heap.objs.size+1) (.lst us'),I.laid (t':=s.toks) (λb u e=>sortedAll_old e) (Q7 _) ?_,rfl,q _ us' hn p' ?_⟩
  ·exact ⟨by rw[p'.length_eq,sizeLine_eq];omega,out,ep,r',by rw[he]⟩
  ·rw[P2,O4]
   intro i j hi hj hij
   have hl':=r'.length
   have o3:=O4.mp o2 i j (by omega) (by omega) hij
   have hxm:out[i]'(by omega)∈its:=o1.mem_iff.mp (V2 _)
   have hym:out[j]'(by omega)∈its:=o1.mem_iff.mp (V2 _)
   have k2:=key _ hym _ hxm
   rw[decide_eq_false (S8.mpr o3)]at k2
   have ev:∀(m:Nat) (hm:m < us'.length),fn H us'[m]=ofVal fn H (out[m]'(by omega)):=λm hm=>by
    obtain⟨c,x,hv,hr⟩:=hrep _ (p'.mem_iff.mp (V2 hm))
    obtain⟨u,hu,ru⟩:=r'.get (y0 hm)
    rw[y0 (by omega)]at hu
    have hu:out[m]'(by omega)=u:=N1 hu
    rw[hv]at ru ⊢
    rw[hu,relV_ref ru]
    rfl
   rw[ev i hi,ev j hj]
   exact k2.symm
end
theorem call_sortT64{X:Cx}:CallR X (.builtin "sorted") (rSort64 X.K RepT fnT HT.lexLt):=by
 refine call_sortG64 (κ:=tuples' true) SG.lex_wk fnT_of (λ{pins s σ H} I its h2 at' s' k E' Q' q'=>?_) (λ{pins s σ H} I c d x y hx hy s' k Q' q'=>?_)
 ·have gen:∀(l:List Value),(∀v∈l,∃(c:Addr) (r:List Int),v=.ref c/\RepT H c r)->∃fs:List Value,KatTups s'.heap l fs/\fs.length=l.length/\∀v∈fs,Looks (model X.prog X.w) s'.heap (typeOf v) (.type "int"):=by
   intro l
   induction l with
   | nil=>intro _;exact ⟨[],.nil,rfl,λv hv=>by simp at hv⟩
   | cons v l ih =>
    intro hl
    obtain⟨fs,f1,f2,f3⟩:=ih λx hx=>hl x (L0 _ hx)
    obtain⟨c,r,rfl,hc,hr⟩:=hl v P0
    obtain⟨_,itc,rc,ob,e1,e2,m,e3,_⟩:=(show ObjOk X.prog X.w H s.heap c (.tup (r.map V.int)) from I.hok c _ hc)
    cases r with
    | nil=>exact absurd rfl hr
    | cons n r =>
     rw[B1]at rc
     cases rc with
     | cons h1 rc =>
      obtain⟨t,rfl⟩:=h1
      refine ⟨.int n t :: fs,.cons (k _ _ e1) e2 e3 rfl f1,by simp[f2],λv hv=>?_⟩
      rcases X0.mp hv with rfl|hv
      ·exact Looks.of_pure rfl
      ·exact f3 v hv
  obtain⟨fs,f1,f2,f3⟩:=gen its at'
  exact kat_kind (T:=.type "int") f1 (by omega) f3 (by decide) q'
 ·obtain⟨_,ic,rc,oc,c1,c2,m1,c3,_⟩:=(show ObjOk X.prog X.w H s.heap c (.tup (x.map V.int)) from I.hok c _ hx.1)
  obtain⟨_,id',rd,od,d1,d2,m2,d3,_⟩:=(show ObjOk X.prog X.w H s.heap d (.tup (y.map V.int)) from I.hok d _ hy.1)
  refine kat_lt (k _ _ c1) c3 (k _ _ d1) d3 ?_
  have:=kat_ints (prog:=X.prog) (w:=X.w) (A:=X.A.in1.in1) (s:=s') (b:=true) (Q:=Q') 0 (intsAre_of rc) (intsAre_of rd) q'
  simpa using this
end L2
namespace L3
open PySem PySem.Spec PyProof.Rows L2
noncomputable def fSortT64:D->(Sl->Prop)->Prop
 | .list ds,Q=>∃rows:List (List Int),ds=rows.map (λr=>.tuple (r.map G0))/\rows.length < 64/\(∀r∈rows,r≠[])/\∀rows':List (List Int),rows'.Perm rows->rows'.Pairwise (λa b=>HT.lexLt b a=false)->Q (.ow (.list (rows'.map λr=>.tuple (r.map G0))))
 | _,_=>False
theorem ok_sortT64{K:Fg}:OpOk K (rSort64 K RepT fnT HT.lexLt) (o1 fSortT64):=ok1 λG F σ H ρ x d Q Qd R h1 w k=>by
 cases d<;>first|exact w.elim|skip
 case list ds =>
  obtain⟨rows,e,hz,hne,w⟩:=w
  subst e
  obtain⟨a,us,rfl,e1,d1⟩:=h1.list R.sub
  have hl:=d1.length
  rw[j0]at hl
  have hrep:∀v∈us,∃c r,v=.ref c/\RepT F c r/\r∈rows:=λv hv=>by
   obtain⟨d,hd,dv⟩:=d1.mem v hv
   obtain⟨r,hr,rfl⟩:=A1.mp hd
   obtain⟨c,rfl,hc⟩:=da_tup dv
   exact ⟨c,r,rfl,⟨hc,hne r hr⟩,hr⟩
  have hfe:∀v∈us,fnT H v=fnT F v:=λv hv=>by
   obtain⟨c,r,rfl,hc,_⟩:=hrep v hv
   rw[fnT_of F c r hc,fnT_of H c r ⟨R.sub _ _ hc.1,hc.2⟩]
  refine ⟨a,us,rfl,SqL.of e1,by omega,λv hv=>?_,λp us' hp p' o'=>?_⟩
  ·obtain⟨c,r,rfl,hc,_⟩:=hrep v hv
   exact ⟨c,r,rfl,R.sub _ _ hc.1,hc.2⟩
  ·have em:us.map (fnT F)=rows:=by
    refine DaAll.map_eq (K:=K) (F:=F) (g:=λr:List Int=>V1 (r.map G0)) (λv a h=>?_) d1
    obtain⟨c,rfl,hc⟩:=da_tup h
    show (match F c with|some (.tup xs)=>xs.map unV|_=>[])=a
    rw[hc]
    exact unV_ints a
   have ee:us'.map (fnT H)=us'.map (fnT F):=Q2 λv hv=>hfe v (p'.mem_iff.mp hv)
   rw[ee]at o'
   have dall:DaAll K F us' ((us'.map (fnT F)).map λr=>V1 (r.map G0)):=by
    rw[S0]
    refine DaAll.map_of λv hv=>?_
    obtain⟨c,r,rfl,hc,_⟩:=hrep v (p'.mem_iff.mp hv)
    show Da K F (.ref c) (.tuple ((fnT F (.ref c)).map G0))
    rw[fnT_of F c r hc]
    exact .tup hc.1 (DaAll.ints r)
   obtain⟨R',r'⟩:=R.newOw (o:=.lst us') (d:=.list _) hp dall
   exact k _ _ F _ (Sub.refl _) R' r' (w _ (by rw[<- em];exact p'.map _) o')
theorem call_sortTK64{X:Cx}{K:Fg}(h:X.K=K):CallR X (.builtin "sorted") (rSort64 K RepT fnT HT.lexLt):=by subst h;exact call_sortT64
end L3
namespace L2
open PySem PySem.Spec PyProof.Rows PySem.W
section
variable {prog:Program}{w:World}{A:Around}{E:Value->Shared->Prop}{s:Shared}
theorem it_more{it d a:Addr}{f:Bool}{oa od:Obj}{i ep:Nat}{es:Array DictEntry}{ok ov:Value}{Q:Option Value->Shared->Prop}(x:KdxIt s.heap it d i es.size ep ok ov a f)(ha:s.heap.get? a=some oa)(hai:a≠it)(y:s.heap.get? d=some od)(yd:od.data=.dict es ep)(hi:i < es.size)
  (q:∀h',KdxIt h' it d (i+1) es.size ep ok ov a true->h'.get? s.heap.objs.size=some { cls:=.type "tuple",data:=.seq #[es[i].key,es[i].val] }->h'.objs.size=s.heap.objs.size+1 ->
    (∀b o,b≠it->s.heap.get? b=some o->h'.get? b=some o)->Q (some (.ref s.heap.objs.size)) { s with heap:=h' }) :
  wpAny (model prog w) A (pyNext (.ref it)) Q E s:=by
 obtain⟨hp,g,dr,tk,os⟩:=s
 have ty:Shared.TypeIs ⟨hp,g,dr,tk,os⟩ (.ref it) "dict_itemiterator":=⟨_,x,rfl⟩
 have lt0:it < hp.objs.size:=J0 x
 unfold pyNext
 refine wpAny_bind (wpAny_attempt (wpAny_callSpecial?_slot (name:=Str.ofString "__next__") ty F.slot_dict_itemiterator_next (wpAny_call_entry F.slot_dict_itemiterator_next ty F.entry_dict_itemiterator_next ?_ (F.args_dict_itemiterator_next_1 _))))
 refine wpAny_bind (wpAny_pure (wpAny_bind (wpAny_bind ?_)))
 first|refine wpAny_bind (wpAny_typeNameOfWhole_itemiter ty (wpAny_pure ?_))|refine wpAny_bind (wpAny_typeNameOf_itemiter ty (wpAny_pure ?_))
 refine wpAny_bind (wpAny_fieldsOf x rfl ?_)
 simp only[own_items,if_true]
 show wpAny _ _ (if (X1 d==Q3)=true then _ else _) _ _ _
 rw[if_neg (no_none d)]
 refine wpAny_bind (wpAny_pure (wpAny_bind (wpAny_dictEntries y yd ?_)))
 rw[if_neg (by simp)]
 refine wpAny_bind (wpAny_pure (wpAny_bind (wpAny_dictEpoch y yd ?_)))
 rw[if_neg (by simp)]
 refine wpAny_pure ?_
 simp only[show ¬((i:Int) < 0) from by omega,if_false,Y3,M4 hi]
 refine wpAny_bind ?_
 first|refine wpAny_bind (wpAny_typeNameOfWhole_itemiter ty (wpAny_pure ?_))|refine wpAny_bind (wpAny_typeNameOf_itemiter ty (wpAny_pure ?_))
 refine wpAny_bind (wpAny_isOneOf_itemiter ty ?_)
 show wpAny _ _ (setField (.ref it) 3 (rawInt ((i:Int)+1)) >>= _) _ _ ⟨hp,g,dr,tk,os⟩
 refine wpAny_bind (wpAny_setField_rec x (by simp) λh1 x1 s1=>?_)
 have s1:Y2 it hp h1:=s1
 have x1:KdxIt h1 it d (i+1) es.size ep ok ov a f:=by
  unfold KdxIt
  rw[show ((i+1:Nat):Int)=(i:Int)+1 by omega]
  simpa [rawInt]using x1
 have ty1:Shared.TypeIs ⟨h1,g,dr,tk,os⟩ (.ref it) "dict_itemiterator":=⟨_,x1,rfl⟩
 refine wpAny_bind (wpAny_holding (wpAny_bind (wpAny_isOneOf_itemiter ty1 (wpAny_bind (wpAny_isOneOf_itemiter ty1 ?_)))))
 show wpAny _ _ (B4 (.ref it) 6 es[i].key es[i].val) _ _ ⟨h1,g,dr,tk,os⟩
 unfold B4
 refine wpAny_bind (wpAny_newTuple ?_)
 have z1:h1.objs.size=hp.objs.size:=s1.1
 obtain⟨h2,e2⟩:∃h2,h2=h1.push { cls:=.type "tuple",data:=.seq #[es[i].key,es[i].val] }:=⟨_,rfl⟩
 have x2:KdxIt h2 it d (i+1) es.size ep ok ov a f:=by rw[e2];exact i0 _ x1
 have t2:h2.get? hp.objs.size=some { cls:=.type "tuple",data:=.seq #[es[i].key,es[i].val] }:=by rw[e2,<- z1];exact M0 _ rfl
 have z2:h2.objs.size=hp.objs.size+1:=by rw[e2,M3,z1]
 have k2:∀b o,b≠it->hp.get? b=some o->h2.get? b=some o:=λb o hb e=>by rw[e2];exact i0 _ (s1.extBut b o hb e)
 rw[<- e2]
 show wpAny _ _ (j4 (.ref it) >>= _) _ _ ⟨h2,g,dr,tk,os⟩
 rw[z1]
 refine wpAny_bind ?_
 unfold j4
 refine wpAny_bind (wpAny_field x2 rfl (x:=rawInt a) rfl ?_)
 show wpAny _ _ (loadIfAlive ((a:Int).toNat) >>= _) _ _ _
 rw[Y3]
 refine wpAny_bind (kdx_alive (k2 a oa hai ha) ?_)
 simp only[Option.isNone_some,W2,if_false]
 refine wpAny_bind (wpAny_field x2 rfl (x:=.bool f) rfl ?_)
 have fin:∀h3:Heap,KdxIt h3 it d (i+1) es.size ep ok ov a true->Y2 it h2 h3->Q (some (.ref hp.objs.size)) ⟨h3,g,dr,tk,os⟩:=λh3 x3 s3 =>
  q h3 x3 (s3.extBut _ _ (T1 lt0) t2) (by show h3.objs.size=hp.objs.size+1;rw[s3.1,z2]) λb o hb e=>s3.extBut b o hb (k2 b o hb e)
 cases f with
 | true =>
  rw[if_neg (show ¬((T6 true != T6 true)=true) from G1)]
  refine wpAny_pure ?_
  simp only[W2,if_false]
  exact wpAny_pure (wpAny_pure ⟨_,rfl,wpAny_pure (fin h2 x2 (Y2.refl _ _))⟩)
 | false =>
  rw[if_pos (show (T6 false != T6 true)=true from rfl)]
  refine wpAny_bind (wpAny_setField_rec x2 (by simp) λh3 x3 s3=>?_)
  refine wpAny_pure ?_
  simp only[W2,if_false]
  exact wpAny_pure (wpAny_pure ⟨_,rfl,wpAny_pure (fin h3 x3 s3)⟩)
theorem it_stop{it d a:Addr}{f:Bool}{i ep:Nat}{es:Array DictEntry}{ok ov:Value}{od:Obj}{Q:Option Value->Shared->Prop}(hh:A.handled=none)(x:KdxIt s.heap it d i es.size ep ok ov a f)(y:s.heap.get? d=some od)(yd:od.data=.dict es ep)(hi:es.size<=i)
  (q:∀h',g7 it s.heap h'->Q none { s with heap:=h' }):wpAny (model prog w) A (pyNext (.ref it)) Q E s:=by
 have ty:s.TypeIs (.ref it) "dict_itemiterator":=⟨_,x,rfl⟩
 unfold pyNext
 refine wpAny_bind (wpAny_attempt (wpAny_callSpecial?_slot (name:=Str.ofString "__next__") ty F.slot_dict_itemiterator_next (wpAny_call_entry F.slot_dict_itemiterator_next ty F.entry_dict_itemiterator_next ?_ (F.args_dict_itemiterator_next_1 _))))
 refine wpAny_bind (wpAny_pure (wpAny_bind (wpAny_bind ?_)))
 first|refine wpAny_bind (wpAny_typeNameOfWhole_itemiter ty (wpAny_pure ?_))|refine wpAny_bind (wpAny_typeNameOf_itemiter ty (wpAny_pure ?_))
 refine wpAny_bind (wpAny_fieldsOf x rfl ?_)
 simp only[own_items,if_true]
 show wpAny _ _ (if (X1 d==Q3)=true then _ else _) _ _ s
 rw[if_neg (no_none d)]
 refine wpAny_bind (wpAny_pure (wpAny_bind (wpAny_dictEntries y yd ?_)))
 rw[if_neg (by simp)]
 refine wpAny_bind (wpAny_pure (wpAny_bind (wpAny_dictEpoch y yd ?_)))
 rw[if_neg (by simp)]
 refine wpAny_pure ?_
 simp only[show ¬((i:Int) < 0) from by omega,if_false,Y3,L6 hi]
 refine wpAny_bind ?_
 first|refine wpAny_bind (wpAny_typeNameOfWhole_itemiter ty (wpAny_pure ?_))|refine wpAny_bind (wpAny_typeNameOf_itemiter ty (wpAny_pure ?_))
 show wpAny _ _ (setField (.ref it) 2 .none >>= _) _ _ s
 refine wpAny_bind (wpAny_setField x rfl (by simp) ?_)
 show wpAny _ _ (newExc (.type "StopIteration") [] >>= _) _ _ _
 refine wpAny_bind ?_
 simp only[newExc,newTuple]
 refine wpAny_bind (wpAny_newObj_type ?_ (by size_fits))
 refine wpAny_bind (m:=firstArgMember _ _) (wpAny_of_eq (a:=Q3) (by first|rfl|(simp only[firstArgMember];rfl)) ?_)
 refine wpAny_newObj_type ?_ (by size_fits)
 simp only[raiseNew]
 refine wpAny_bind (wpAny_handled ?_)
 rw[show A.in1.handled=none from hh]
 refine wpAny_bind (wpAny_pure (wpAny_throw ?_))
 refine wpAny_bind (wpAny_isInstance (b:=true) (T:="StopIteration") ⟨_,M0 _ rfl,rfl⟩ isSubtype_stop ?_)
 exact wpAny_pure (q _ (((G4 ..).extBut.push _).push _))
structure PrsAt(es:Array DictEntry)(lo:Addr)(h:Heap)(as:List Addr):Prop where
 rise:as.Pairwise (· < ·)
 above:∀a∈as,lo < a
 pairs:∀(j:Nat) (a:Addr),as[j]?=some a->∃e,es.toList[j]?=some e/\h.get? a=some { cls:=.type "tuple",data:=.seq #[e.key,e.val] }
theorem PrsAt.there{es:Array DictEntry}{lo:Addr}{h:Heap}{as:List Addr}(g:PrsAt es lo h as){a:Addr}(ha:a∈as):a < h.objs.size:=by
 obtain⟨j,hj⟩:=P3.mp ha
 obtain⟨_,_,e⟩:=g.pairs j a hj
 exact J0 e
theorem PrsAt.keep{es:Array DictEntry}{lo:Addr}{h h':Heap}{as:List Addr}(g:PrsAt es lo h as)(k:∀b o,lo < b->h.get? b=some o->h'.get? b=some o):PrsAt es lo h' as :=
 ⟨g.rise,g.above,λj a hj=>let ⟨e,h1,h2⟩:=g.pairs j a hj;⟨e,h1,k _ _ (g.above a (E1 hj)) h2⟩⟩
section
variable {R:Result->Shared->Prop}{es:Array DictEntry}{ep:Nat}{od:Obj}
theorem prs_loop{S I d:Addr}(hh:A.handled=none)(hSI:S < I)(hSd:d≠S)(hId:d≠I)(hn:es.size<=sizeLine)(yd:od.data=.dict es ep)(res:Value){h₁:Heap}
  (hR:∀h' tk acc c as,(∀b o,b≠S->b≠I->h₁.get? b=some o->h'.get? b=some o)->h'.get? S=some { cls:=.type "list",dict:=none,data:=.seq acc c,slots:=#[] }->as.length=es.size->PrsAt es I h' as ->
    acc.toList=as.map X1->R (.ok (.ret res)) { s with heap:=h',toks:=tk }) :
  ∀(k i:Nat) (h:Heap) (tk c:Nat) (acc:Array Value) (as:List Addr),es.size - i=k->i<=es.size->KdxSt h I d S i es.size ep->h.get? d=some od->(∀b o,b≠S->b≠I->h₁.get? b=some o->h.get? b=some o) ->
   h.get? S=some { cls:=.type "list",dict:=none,data:=.seq acc c,slots:=#[] }->acc.toList=as.map X1->as.length=i->PrsAt es I h as->I < h.objs.size ->
   codeAny (model prog w) A (.builtin "list.extend.loop" ⟨[.ref S,.ref I,res],[]⟩) R { s with heap:=h,toks:=tk }:=by
 have hne:S≠I:=Y0 hSI
 intro k
 induction k with
 | zero =>
  intro i h tk c acc as hk hi hst hD hkeep hS hacc hal hG hIs
  refine codeAny_builtin PySem.F.entry_extend_loop ?_
  rw[Around.under_plainId PySem.F.plain_extend_loop _]
  show wpAny _ A.in1 (pyNext (.ref I) >>= _) _ _ _
  have fin:∀h',g7 I h h'->R (.ok (.ret res)) { s with heap:=h',toks:=tk }:=λh' he =>
   hR h' tk acc c as (λb o h1 h2 e=>he b o h2 (hkeep b o h1 h2 e)) (he S _ hne hS) (by omega) (hG.keep λb o hb e=>he b o (T1 hb) e) hacc
  rcases hst with⟨rfl,ok,ov,hit⟩|⟨ok,ov,a,f,oa,hit,_,_,_⟩
  ·exact wpAny_bind (it_end (s:={ s with heap:=h,toks:=tk }) (A:=A.in1) hh hit hD yd (by omega) λh' he=>wpAny_pure (fin h' he))
  ·exact wpAny_bind (it_stop (s:={ s with heap:=h,toks:=tk }) (A:=A.in1) hh hit hD yd (by omega) λh' he=>wpAny_pure (fin h' he))
 | succ k ih =>
  intro i h tk c acc as hk hi hst hD hkeep hS hacc hal hG hIs
  have hlt:i < es.size:=by omega
  have hsz:acc.size=i:=by rw[<- S1,hacc,j0,hal]
  have hSl:S < h.objs.size:=J0 hS
  refine codeAny_builtin PySem.F.entry_extend_loop ?_
  rw[Around.under_plainId PySem.F.plain_extend_loop _]
  show wpAny _ A.in1 (pyNext (.ref I) >>= _) _ _ _
  have go:∀(Q:Option Value->Shared->Prop),(∀h',KdxSt h' I d S (i+1) es.size ep->h'.get? h.objs.size=some { cls:=.type "tuple",data:=.seq #[es[i].key,es[i].val] }->h'.objs.size=h.objs.size+1->(∀b o,b≠I->h.get? b=some o->h'.get? b=some o)->Q (some (.ref h.objs.size)) { s with heap:=h',toks:=tk }) ->
    wpAny (model prog w) A.in1 (pyNext (.ref I)) Q (λe s'=>R (.error e) s') { s with heap:=h,toks:=tk }:=λQ hQ=>by
   rcases hst with⟨rfl,ok,ov,hit⟩|⟨ok,ov,a,f,oa,hit,ha,hai,haS⟩
   ·exact it_next (s:={ s with heap:=h,toks:=tk }) hit hD yd hlt λh' hit' ht hz hkp=>hQ h' (.inr ⟨_,_,_,false,_,hit',ht,T1 (J0 hit),T1 hSl⟩) ht hz hkp
   ·exact it_more (s:={ s with heap:=h,toks:=tk }) hit ha hai hD yd hlt λh' hit' ht hz hkp=>hQ h' (.inr ⟨ok,ov,a,true,oa,hit',hkp a oa hai ha,hai,haS⟩) ht hz hkp
  refine wpAny_bind (go _ λh' hst' ht hz hkp=>?_)
  have hS':=hkp S _ hne hS
  have up:∀b o,b≠S->h'.get? b=some o->(h'.update S (U1 (·.push (X1 h.objs.size)))).get? b=some o:=λb o hb e=>(V3 _ _ (v3 hb)).trans e
  show wpAny _ A.in1 (updateSeq S (·.push (X1 h.objs.size)) >>= _) _ _ _
  refine wpAny_bind ?_
  refine wpAny_updateSeq hS' rfl (wpAny_pure ⟨plainId_quiet PySem.F.plain_extend_loop _,ih (i+1) _ tk _ (acc.push (X1 h.objs.size)) (as++[h.objs.size]) (by omega) hlt (hst'.keep up (v3 hne)) (up d od hSd (hkp d od hId hD))
    (λb o h1 h2 e=>up b o h1 (hkp b o h2 (hkeep b o h1 h2 e))) (u3 _ hS' rfl) (by rw[m9,hacc,O3];rfl) (by rw[B0,hal];rfl) ⟨?_,?_,?_⟩ ?_⟩) (by rw[hsz];omega) (by show (acc.push (X1 h.objs.size)).size<=sizeLine+1;rw[Array.size_push,hsz];omega)
  ·refine M8.mpr ⟨hG.rise,h8 _ _,λa ha b hb=>?_⟩
   rw[U0.mp hb]
   exact hG.there ha
  ·intro a ha
   rcases R0.mp ha with ha|ha
   ·exact hG.above a ha
   ·rw[U0.mp ha];exact hIs
  ·intro j b hj
   rcases Nat.lt_trichotomy j as.length with h1|h1|h1
   ·rw[X2 h1]at hj
    obtain⟨e,e1,e2⟩:=hG.pairs j b hj
    have hb:=hG.above b (E1 hj)
    exact ⟨e,e1,up b _ (T1 (p6 hSI hb)) (hkp b _ (T1 hb) e2)⟩
   ·subst h1
    have hb:h.objs.size=b:=by simpa using hj
    subst hb
    exact ⟨es[i],by rw[hal];simp[hlt],up _ _ (T1 hSl) ht⟩
   ·have hnone:(as++[h.objs.size])[j]?=none:=m5 (by rw[B0,O2];omega)
    rw[hnone]at hj;cases hj
  ·have e:(h'.update S (U1 (·.push (X1 h.objs.size)))).get? h.objs.size=_:=up _ _ (T1 hSl) ht
   exact p6 hIs (J0 e)
theorem prs_extend{r d:Addr}(hh:A.handled=none)(hv:s.heap.IsItemsView r d)(hm:s.heap.get? d=some od)(yd:od.data=.dict es ep)(S:Addr)(hSr:S≠r)(hSd:d≠S)(res:Value)(c₀:Nat)(hS:s.heap.get? S=some { cls:=.type "list",data:=.seq #[] c₀ })
  (hR:∀h' tk acc c as,(∀b o,b≠S->s.heap.get? b=some o->h'.get? b=some o)->h'.get? S=some { cls:=.type "list",dict:=none,data:=.seq acc c,slots:=#[] }->as.length=es.size->PrsAt es s.heap.objs.size h' as ->
    acc.toList=as.map X1->R (.ok (.ret res)) { s with heap:=h',toks:=tk }) (hn:es.size<=sizeLine) :
  wpAny (model prog w) A.in1 (Q5 (.ref S) (.ref r) res)
   (λfin s'=>match fin with | .done f=>R (.ok f) s' | .again c'=>c'.quiet=true/\codeAny (model prog w) A c' R s') (λe s'=>R (.error e) s') s:=by
 have hSI:S < s.heap.objs.size:=J0 hS
 have hdI:d < s.heap.objs.size:=J0 hm
 have key:∀(h:Heap) (c₁ tk:Nat),(∀b o,b≠S->(s.heap.push { cls:=.type "dict_itemiterator",data:=.fields #[.none,.bool false,.ref d,.int 0 0,.int es.size 0,.int ep 0,.none,.none] }).get? b=some o->h.get? b=some o) ->
   h.get? S=some { cls:=.type "list",data:=.seq #[] c₁ }->codeAny (model prog w) A (.builtin "list.extend.loop" ⟨[.ref S,.ref s.heap.objs.size,res],[]⟩) R { s with heap:=h,toks:=tk }:=by
  intro h c₁ tk hk hS₁
  have hI:=hk s.heap.objs.size _ (T1 hSI) (M0 _ rfl)
  refine prs_loop (od:=od) (ep:=ep) (s:=s) (h₁:=s.heap) hh hSI hSd (Y0 hdI) hn yd res (λh' tk' acc c as hk' hS' hl hG hacc=>hR h' tk' acc c as (λb o hb e=>hk' b o hb (Y0 (J0 e)) e) hS' hl hG hacc)
   es.size 0 h tk c₁ #[] [] (Nat.sub_zero _) (m3 _) (.inl ⟨rfl,.none,.none,hI⟩) (hk d od hSd (i0 _ hm)) (λb o hb _ e=>hk b o hb (i0 _ e)) hS₁ rfl rfl
   ⟨List.Pairwise.nil,(λ_ ha=>nomatch ha),(λj a hj=>by simp at hj)⟩ (J0 hI)
 unfold Q5
 refine wpAny_bind (wpAny_typeOf (T:="dict_items") hv.typeIs ?_)
 have h1:Y7 (.ref S) (.ref r)=false:=by simp[Y7,hSr]
 have h2:(i6 "dict_items"==i6 "list")=false:=by decide
 have h3:(i6 "dict_items"==i6 "tuple")=false:=by decide
 simp only[h1,h2,h3,Bool.or_false,W2,if_false]
 refine wpAny_bind (it_view hv hm yd ?_)
 have hS₁:=i0 { cls:=.type "dict_itemiterator",data:=.fields #[.none,.bool false,.ref d,.int 0 0,.int es.size 0,.int ep 0,.none,.none] } hS
 refine wpAny_bind (wpAny_holding (kdx_hint (let ⟨o,ho,hc,_⟩:=hv;⟨o,i0 _ ho,hc⟩) ?_))
 refine wpAny_ite_split (λ_=>?_) (λ_=>wpAny_pure ⟨plainId_quiet PySem.F.plain_extend_loop _,key _ c₀ _ (λb o _ e=>e) hS₁⟩)
 refine wpAny_bind (wpAny_rule ?_)
 refine wpAny_bind ?_
 show wpAny _ _ (updateSeq S (·.push .none) >>= λ_=>updateSeq S (·.pop)) _ _ _
 refine wpAny_bind (wpAny_updateSeq hS₁ rfl ?_)
 have hS₂:=u3 (U1 (·.push Q3)) hS₁ rfl
 refine wpAny_updateSeq (hz:=by seq_fits) hS₂ rfl ?_
 have hS₃:=u3 (U1 (·.pop)) hS₂ rfl
 refine wpAny_pure ⟨plainId_quiet PySem.F.plain_extend_loop _,key _ _ _ (λb o hb e=>?_) hS₃⟩
 exact (V3 _ _ (v3 hb)).trans ((V3 _ _ (v3 hb)).trans e)
end
theorem prs_collect{r d:Addr}{es:Array DictEntry}{ep:Nat}{od:Obj}{R:List Value->Shared->Prop}(hh:A.handled=none)(hv:s.heap.IsItemsView r d)(hm:s.heap.get? d=some od)(yd:od.data=.dict es ep)(hn:es.size<=sizeLine)
  (h:∀(h':Heap) (tk:Nat) (as:List Addr),(∀b o,s.heap.get? b=some o->h'.get? b=some o)->as.length=es.size->PrsAt es s.heap.objs.size h' as->R (as.map X1) { s with heap:=h',toks:=tk }) :
  wpAny (model prog w) A (collect (.ref r)) R E s:=by
 have hr:r < s.heap.objs.size:=let ⟨_,ho,_⟩:=hv;J0 ho
 have hd:d < s.heap.objs.size:=J0 hm
 unfold collect
 refine wpAny_bind (wpAny_runValue (codeAny_builtin entry_proto_collect' ?_))
 rw[Around.under_plainId PySem.F.plain_proto_collect _]
 show wpAny _ A.in1 (newList [] >>= λl=>again (.builtin "list.__iadd__" ⟨[l,.ref r],[]⟩)) _ _ s
 refine wpAny_bind (wpAny_newObj_type ?_)
 refine wpAny_pure ⟨plainId_quiet PySem.F.plain_list_iadd _,codeAny_builtin entry_list_iadd' ?_⟩
 rw[Around.under_plainId PySem.F.plain_list_iadd _]
 have hS₁:(s.heap.push { cls:=.type "list",data:=.seq ([]:List Value).toArray }).get? s.heap.objs.size=some { cls:=.type "list",data:=.seq #[] }:=M0 _ rfl
 show wpAny _ A.in1 (Q5 (.ref s.heap.objs.size) (.ref r) (.ref s.heap.objs.size)) _ _ _
 have key:=prs_extend (prog:=prog) (w:=w) (A:=A) (s:={ s with heap:=s.heap.push { cls:=.type "list",data:=.seq ([]:List Value).toArray } }) (od:=od) (es:=es) (ep:=ep)
  (R:=λ(q:Result) (s':Shared)=>∃(h':Heap) (tk:Nat) (acc':Array Value) (c':Nat) (as:List Addr),q=.ok (.ret (.ref s.heap.objs.size))/\s'={ s with heap:=h',toks:=tk } /\
    (∀b o,s.heap.get? b=some o->h'.get? b=some o)/\h'.get? s.heap.objs.size=some { cls:=.type "list",dict:=none,data:=.seq acc' c',slots:=#[] }/\as.length=es.size/\PrsAt es s.heap.objs.size h' as/\acc'.toList=as.map X1)
  hh (let ⟨o,ho,x⟩:=hv;⟨o,i0 _ ho,x⟩) (i0 _ hm) yd s.heap.objs.size (T1 hr) (Y0 hd) (.ref s.heap.objs.size) 0 hS₁
  (λh' tk acc' c' as hk hS' hl hG hacc=>⟨h',tk,acc',c',as,rfl,rfl,λb o e=>hk b o (Y0 (J0 e)) (i0 _ e),hS',hl,
    ⟨hG.rise,λa ha=>Q1 (by show s.heap.objs.size<=(s.heap.push _).objs.size;rw[M3];exact Q7 _) (hG.above a ha),hG.pairs⟩,hacc⟩) hn
 refine wpAny_mono key (λfin s' x=>?_) λe s' x=>?_
 ·cases fin with
  | done f =>
   obtain⟨h',tk,acc',c',as,e,rfl,hk,hS',hl,hG,hacc⟩:=x
   cases e
   show wpAny _ A (load s.heap.objs.size >>= _) _ _ _
   refine wpAny_bind (wpAny_load hS' (wpAny_pure ?_))
   show R acc'.toList _
   rw[hacc]
   exact h h' tk as hk hl hG
  | again c₁ =>
   refine ⟨x.1,codeAny_mono x.2 λq s₂ y=>?_⟩
   obtain⟨h',tk,acc',c',as,rfl,rfl,hk,hS',hl,hG,hacc⟩:=y
   show wpAny _ A (load s.heap.objs.size >>= _) _ _ _
   refine wpAny_bind (wpAny_load hS' (wpAny_pure ?_))
   show R acc'.toList _
   rw[hacc]
   exact h h' tk as hk hl hG
 ·obtain⟨_,_,_,_,_,e',_⟩:=x
  cases e'
end
section
variable {X:Cx}{α:Type}[Inhabited α]{Rep:Hp->Addr->α->Prop}{fn:Hp->V->α}{lt:α->α->Bool}{κ:SortKind}
noncomputable def Col(Rep:Hp->Addr->α->Prop)(fn:Hp->V->α)(lt:α->α->Bool)(X:Cx)(pins:List (Addr×Obj))(σ:St)(Q:VK)(its:List Value)(s:Shared):Prop :=
 ∃(H:Hp) (vs:List V),Inv X pins σ H s/\Vals vs its/\vs.length < 64/\(∀v∈vs,∃c x,v=.ref c/\Rep H c x)/\∀(p:Addr) (us:List V),H p=none->us.Perm vs->(us.map (fn H)).Pairwise (λa b=>lt b a=false)->Q (.ref p) (upd H p (.lst us))
theorem call_sortC64(W:SG.Wk lt)(hf:∀H c a,Rep H c a->fn H (.ref c)=a)
  (hkind:∀{pins:List (Addr×Obj)}{s:Shared}{σ:St}{H:Hp},Inv X pins σ H s->∀its:List Value,2<=its.length->(∀u∈its,∃c x,u=.ref c/\Rep H c x)->∀(s':Shared),(∀b o,s.heap.get? b=some o->s'.heap.get? b=some o)->∀(E:Value->Shared->Prop) (Q':SortKind->Shared->Prop),Q' κ s'->wpAny (model X.prog X.w) X.A.in1.in1 (keyKind' its.toArray) Q' E s')
  (hcmp:∀{pins:List (Addr×Obj)}{s:Shared}{σ:St}{H:Hp},Inv X pins σ H s->∀(c d:Addr) (x y:α),Rep H c x->Rep H d y->∀(s':Shared),(∀b o,s.heap.get? b=some o->s'.heap.get? b=some o)->∀Q':Bool->Shared->Prop,Q' (lt x y) s'->wpAny (model X.prog X.w) X.A.in1.in1 (keyLt' κ (.ref c) (.ref d)) Q' (λ_ _=>False) s')
  {pins:List (Addr×Obj)}{s:Shared}{σ:St}{Q:VK}{l:Addr} (hcol:wpAny (model X.prog X.w) X.A.in1 (collect (.ref l)) (Col Rep fn lt X pins σ Q) X.xe s) :
  wpAny (model X.prog X.w) X.A (call (.builtin "sorted") [.ref l]) (EP X pins σ Q) X.xe s:=by
 refine Calls.call_function_entry kind_sorted plain_sorted entry_sorted (args_sorted1 _) ?_
 unfold Builtin.«sorted»
 refine wpAny_bind (m:=checkCount "sorted" 1 1 _) (wpAny_pure ?_)
 refine wpAny_bind (wpAny_mono hcol ?_ λ_ _ e=>e)
 rintro its s ⟨H,vs,I,rv,hz,hrep,q⟩
 have hl:=rv.length
 have hz2:its.length<=sizeLine:=by rw[sizeLine_eq];omega
 refine wpAny_bind (wpAny_newList ?_ hz2)
 have hoL:(s.heap.push (seqObj "list" its.toArray 0)).get? s.heap.objs.size=some (seqObj "list" its.toArray 0):=M0 _ rfl
 have keep:∀b o,s.heap.get? b=some o->b≠s.heap.objs.size/\(s.heap.push (seqObj "list" its.toArray 0)).get? b=some o:=λb o q=>⟨Y0 (J0 q),i0 _ q⟩
 show wpAny _ _ _ _ _ { s with heap:=s.heap.push (seqObj "list" its.toArray 0) }
 have at':∀u∈its,∃c x,u=.ref c/\Rep H c x:=λu hu=>by
  obtain⟨i,hi,rfl⟩:=A7 hu
  have hi2:i < vs.length:=by omega
  obtain⟨c,x,hv,hr⟩:=hrep _ (V2 hi2)
  obtain⟨u,hu,ru⟩:=rv.get (y0 hi2)
  rw[hv]at ru
  rw[y0 hi]at hu
  have:its[i]=u:=N1 hu
  rw[this]
  exact ⟨c,x,relV_ref ru,hr⟩
 have key:∀x∈its,∀y∈its,decide ((its.map (ofVal fn H)).countP (λa=>lt a (ofVal fn H x)) < (its.map (ofVal fn H)).countP (λa=>lt a (ofVal fn H y)))=lt (ofVal fn H x) (ofVal fn H y):=λx hx y hy =>
  SG.rank W (X5 hx) (X5 hy)
 refine wpAny_bind (wpAny_holding (wpAny_call_entry slot_list_sort ⟨_,hoL,rfl⟩ entry_list_sort (list_sort_64 (κ:=κ) (rk:=λv=>(its.map (ofVal fn H)).countP (λa=>lt a (ofVal fn H v))) hoL hz2 (by omega) (λh2 s' k Q' q'=>?_)
   (λs' k x y hx hy Q' q'=>?_) λout o1 o2=>⟨_,rfl,?_⟩) (args_list_sort _)))
 ·exact hkind I its h2 at' s' (λb o e=>k b o (keep b o e).1 (keep b o e).2) _ Q' q'
 ·rw[key x hx y hy]at q'
  obtain⟨c,x',rfl,hx'⟩:=at' x hx
  obtain⟨d,y',rfl,hy'⟩:=at' y hy
  refine hcmp I c d x' y' hx' hy' s' (λb o e=>k b o (keep b o e).1 (keep b o e).2) Q' ?_
  have e1:ofVal fn H (.ref c)=x':=hf H c x' hx'
  have e2:ofVal fn H (.ref d)=y':=hf H d y' hy'
  rw[e1,e2]at q'
  exact q'
 ·refine wpAny_pure ⟨_,rfl,?_⟩
  obtain⟨⟨ep,he⟩,old⟩:=sh_at (out:=out.toArray) hoL
  have hn:H s.heap.objs.size=none:=I.hok.fresh (A0 _)
  obtain⟨us',p',r'⟩:=vals_perm o1 rv
  refine ⟨.ref s.heap.objs.size,upd H s.heap.objs.size (.lst us'),I.laid (t':=s.toks) (λb u e=>old b u (keep b u e).1 (keep b u e).2) (A0 _) ?_,rfl,q _ us' hn p' ?_⟩
  ·exact ⟨by rw[p'.length_eq,sizeLine_eq];omega,out,ep,r',by rw[he]⟩
  ·rw[P2,O4]
   intro i j hi hj hij
   have hl':=r'.length
   have o3:=O4.mp o2 i j (by omega) (by omega) hij
   have hxm:out[i]'(by omega)∈its:=o1.mem_iff.mp (V2 _)
   have hym:out[j]'(by omega)∈its:=o1.mem_iff.mp (V2 _)
   have k2:=key _ hym _ hxm
   rw[decide_eq_false (S8.mpr o3)]at k2
   have ev:∀(m:Nat) (hm:m < us'.length),fn H us'[m]=ofVal fn H (out[m]'(by omega)):=λm hm=>by
    obtain⟨c,x,hv,hr⟩:=hrep _ (p'.mem_iff.mp (V2 hm))
    obtain⟨u,hu,ru⟩:=r'.get (y0 hm)
    rw[y0 (by omega)]at hu
    have hu:out[m]'(by omega)=u:=N1 hu
    rw[hv]at ru ⊢
    rw[hu,relV_ref ru]
    rfl
   rw[ev i hi,ev j hj]
   exact k2.symm
end
theorem sortCB{X:Cx}(hu:X.A.units+2 < cLine){pins:List (Addr×Obj)}{s:Shared}{σ:St}{Q:VK}{l:Addr}(hcol:wpAny (model X.prog X.w) X.A.in1 (collect (.ref l)) (Col RepB fnB ltB X pins σ Q) X.xe s) :
  wpAny (model X.prog X.w) X.A (call (.builtin "sorted") [.ref l]) (EP X pins σ Q) X.xe s:=by
 have hu1:X.A.in1.in1.units < cLine:=by show X.A.units+2 < cLine;exact hu
 refine call_sortC64 (κ:=tuples' false) ltB_wk fnB_of (λ{pins s σ H} I its h2 at' s' k E' Q' q'=>?_) (λ{pins s σ H} I c d x y hx hy s' k Q' q'=>?_) hcol
 ·have gen:∀(l:List Value),(∀v∈l,∃(c:Addr) (r:Bxx),v=.ref c/\RepB H c r)->∃fs:List Value,KatTups s'.heap l fs/\fs.length=l.length/\∀v∈fs,Looks (model X.prog X.w) s'.heap (typeOf v) (.type "tuple"):=by
   intro l
   induction l with
   | nil=>intro _;exact ⟨[],.nil,rfl,λv hv=>by simp at hv⟩
   | cons v l ih =>
    intro hl
    obtain⟨fs,f1,f2,f3⟩:=ih λx hx=>hl x (L0 _ hx)
    obtain⟨c,r,rfl,a,b,hc,ha,hb⟩:=hl v P0
    obtain⟨_,itc,rc,ob,e1,e2,m,e3,_⟩:=(show ObjOk X.prog X.w H s.heap c (.tup [.ref a,.ref b]) from I.hok c _ hc)
    obtain⟨u1,u2,rfl,r1,r2⟩:=vals2 rc
    cases r1
    obtain⟨_,itb,rb,oa,g1,g2,_⟩:=(show ObjOk X.prog X.w H s.heap a (.tup (r.1.map V.int)) from I.hok a _ ha)
    refine ⟨.ref a :: fs,.cons (k _ _ e1) e2 e3 rfl f1,by simp[f2],λv hv=>?_⟩
    rcases X0.mp hv with rfl|hv
    ·have:=(show Looks (model X.prog X.w) s'.heap (typeOf (.ref a)) oa.cls from (Looks.ld (k _ _ g1)).andThen .now)
     rw[g2]at this
     exact this
    ·exact f3 v hv
  obtain⟨fs,f1,f2,f3⟩:=gen its at'
  exact kat_kind (T:=.type "tuple") f1 (by omega) f3 (by decide) q'
 ·obtain⟨a1,b1,hc1,ha1,hb1⟩:=hx
  obtain⟨a2,b2,hc2,ha2,hb2⟩:=hy
  obtain⟨_,ic,rc,oc,c1,c2,m1,c3,_⟩:=(show ObjOk X.prog X.w H s.heap c (.tup [.ref a1,.ref b1]) from I.hok c _ hc1)
  obtain⟨_,id',rd,od,d1,d2,m2,d3,_⟩:=(show ObjOk X.prog X.w H s.heap d (.tup [.ref a2,.ref b2]) from I.hok d _ hc2)
  obtain⟨u1,u2,rfl,r1,r2⟩:=vals2 rc
  cases r1;cases r2
  obtain⟨w1,w2,rfl,r3,r4⟩:=vals2 rd
  cases r3;cases r4
  have I':Inv X pins σ H { s with heap:=s'.heap }:=I.kept (t':=s.toks) k
  have lt1:∀{a b:Addr}{x y:List Int}{Q:Bool->Shared->Prop},H a=some (.tup (x.map V.int))->H b=some (.tup (y.map V.int))->Q (HT.lexLt x y) s'->wpAny (model X.prog X.w) X.A.in1.in1 (oneLt' false (.ref a) (.ref b)) Q (λ_ _=>False) s':=λ{a b x y Q} ha hb hq=>by
   obtain⟨_,ia,ra,ta⟩:=(show ObjOk X.prog X.w H s'.heap a (.tup (x.map V.int)) from I'.hok a _ ha)
   obtain⟨_,ib,rb,tb⟩:=(show ObjOk X.prog X.w H s'.heap b (.tup (y.map V.int)) from I'.hok b _ hb)
   exact kat_one _ _ (HT.lt_tupInts ta.t tb.t (intsAre_of ra) (intsAre_of rb) hu1 hq)
  refine kat_lt (k _ _ c1) c3 (k _ _ d1) d3 (kat_cons ?_)
  refine eqTupB I hu1 ha1 ha2 k _ _ _ _ ?_
  unfold ltB at q'
  refine kat_go (λq=>kat_yes (kat_cons ?_)) (λq=>kat_no ?_)
  ·have q:=of_decide_eq_true q
   rw[if_pos q]at q'
   refine eqTupB I hu1 hb1 hb2 k _ _ _ _ ?_
   refine kat_go (λz=>kat_yes ?_) (λz=>kat_no ?_)
   ·have z:=of_decide_eq_true z
    rw[z,SG.lex_wk.irr]at q'
    exact q'
   ·exact lt1 hb1 hb2 q'
  ·have q:=of_decide_eq_false q
   rw[if_neg q]at q'
   exact lt1 ha1 ha2 q'
theorem sortCT{X:Cx}{pins:List (Addr×Obj)}{s:Shared}{σ:St}{Q:VK}{l:Addr}(hcol:wpAny (model X.prog X.w) X.A.in1 (collect (.ref l)) (Col RepT fnT HT.lexLt X pins σ Q) X.xe s) :
  wpAny (model X.prog X.w) X.A (call (.builtin "sorted") [.ref l]) (EP X pins σ Q) X.xe s:=by
 refine call_sortC64 (κ:=tuples' true) SG.lex_wk fnT_of (λ{pins s σ H} I its h2 at' s' k E' Q' q'=>?_) (λ{pins s σ H} I c d x y hx hy s' k Q' q'=>?_) hcol
 ·have gen:∀(l:List Value),(∀v∈l,∃(c:Addr) (r:List Int),v=.ref c/\RepT H c r)->∃fs:List Value,KatTups s'.heap l fs/\fs.length=l.length/\∀v∈fs,Looks (model X.prog X.w) s'.heap (typeOf v) (.type "int"):=by
   intro l
   induction l with
   | nil=>intro _;exact ⟨[],.nil,rfl,λv hv=>by simp at hv⟩
   | cons v l ih =>
    intro hl
    obtain⟨fs,f1,f2,f3⟩:=ih λx hx=>hl x (L0 _ hx)
    obtain⟨c,r,rfl,hc,hr⟩:=hl v P0
    obtain⟨_,itc,rc,ob,e1,e2,m,e3,_⟩:=(show ObjOk X.prog X.w H s.heap c (.tup (r.map V.int)) from I.hok c _ hc)
    cases r with
    | nil=>exact absurd rfl hr
    | cons n r =>
     rw[B1]at rc
     cases rc with
     | cons h1 rc =>
      obtain⟨t,rfl⟩:=h1
      refine ⟨.int n t :: fs,.cons (k _ _ e1) e2 e3 rfl f1,by simp[f2],λv hv=>?_⟩
      rcases X0.mp hv with rfl|hv
      ·exact Looks.of_pure rfl
      ·exact f3 v hv
  obtain⟨fs,f1,f2,f3⟩:=gen its at'
  exact kat_kind (T:=.type "int") f1 (by omega) f3 (by decide) q'
 ·obtain⟨_,ic,rc,oc,c1,c2,m1,c3,_⟩:=(show ObjOk X.prog X.w H s.heap c (.tup (x.map V.int)) from I.hok c _ hx.1)
  obtain⟨_,id',rd,od,d1,d2,m2,d3,_⟩:=(show ObjOk X.prog X.w H s.heap d (.tup (y.map V.int)) from I.hok d _ hy.1)
  refine kat_lt (k _ _ c1) c3 (k _ _ d1) d3 ?_
  have:=kat_ints (prog:=X.prog) (w:=X.w) (A:=X.A.in1.in1) (s:=s') (b:=true) (Q:=Q') 0 (intsAre_of rc) (intsAre_of rd) q'
  simpa using this
noncomputable def layH(H:Hp):List (Addr×V×V)->Hp
 | []=>H
 | (a,x,y) :: t=>upd (layH H t) a (.tup [x,y])
theorem layH_not{H:Hp}{b:Addr}:∀{l:List (Addr×V×V)},b∉l.map (·.1)->layH H l b=H b
 | [],_=>rfl
 | (a,x,y) :: t,h=>by
  rw[B1,X0,not_or]at h
  show upd (layH H t) a _ b=_
  rw[upd_ne h.1]
  exact layH_not h.2
theorem layH_in{H:Hp}:∀{l:List (Addr×V×V)},(l.map (·.1)).Nodup->∀p∈l,layH H l p.1=some (.tup [p.2.1,p.2.2])
 | [],_,p,hp=>by cases hp
 | (a,x,y) :: t,nd,p,hp=>by
  rw[B1,E3]at nd
  show upd (layH H t) a _ p.1=_
  rcases X0.mp hp with rfl|hp
  ·rw[upd_same]
  ·rw[upd_ne (λz=>nd.1 (by rw[<- z];exact A1.mpr ⟨_,hp,rfl⟩))]
   exact layH_in nd.2 p hp
theorem lay_pairs{X:Cx}{pins:List (Addr×Obj)}{σ:St}{H:Hp}{s:Shared}{h':Heap}{tk:Nat}{l:List (Addr×V×V)}(I:Inv X pins σ H s)(kp:∀b o,s.heap.get? b=some o->h'.get? b=some o)(nd:(l.map (·.1)).Nodup)(up:∀a∈l.map (·.1),s.heap.objs.size<=a)
  (hx:∀p∈l,∃u v,RelV p.2.1 u/\RelV p.2.2 v/\h'.get? p.1=some { cls:=.type "tuple",data:=.seq #[u,v] }):Inv X pins σ (layH H l) { s with heap:=h',toks:=tk }:=by
 have no:∀{b o},s.heap.get? b=some o->b∉l.map (·.1):=λ{b o} e hb=>Z2 _ (T0 (J0 e) (up b hb))
 have no2:∀{b o},H b=some o->b∉l.map (·.1):=λ{b o} e hb=>by rw[I.hok.fresh (up b hb)]at e;cases e
 have sm:∀{b o},H b=some o->layH H l b=some o:=λ{b o} e=>by rw[layH_not (no2 e)];exact e
 refine I.un ⟨λb u q _ _ _=>kp b u q,λb u q _ _ _=>⟨u.slots,kp b u q⟩,λb u q n _=>by rw[layH_not (no q)];exact n,λb u q _=>⟨u,kp b u q⟩,λb xs q=>sm q,λb u v q=>sm q,λb ps q=>⟨#[],by rw[sm q];simp⟩⟩ λb u e=>?_
 by_cases hb:b∈l.map (·.1)
 ·obtain⟨p,hp,rfl⟩:=A1.mp hb
  rw[layH_in nd p hp]at e
  cases e
  obtain⟨u,v,r1,r2,hg⟩:=hx p hp
  exact ⟨by show 2<=sizeLine;decide,[u,v],.cons r1 (.cons r2 .nil),_,hg,rfl,_,rfl,rfl⟩
 ·rw[layH_not hb]at e
  exact (I.hok b u e).stay (λc v _ q=>kp c v q) (λc q=>sm q) λc xs q=>sm q
theorem col_items{X:Cx}{pins:List (Addr×Obj)}{σ:St}{H:Hp}{s:Shared}{r d d':Addr}{ep:Nat}{ys:List (List Int×Addr×V)}{R:List Value->Shared->Prop}(hc:X.calm=true)(I:Inv X pins σ H s)(hd:H d=some (extD hL d' ep ys))(hv:s.heap.IsItemsView r d)
  (q:∀(as:List Addr) (s':Shared),as.length=ys.length->as.Nodup->(∀a∈as,H a=none)->Inv X pins σ (layH H (as.zip (ys.map λy=>(V.ref y.2.1,y.2.2)))) s'->R (as.map X1) s'):wpAny (model X.prog X.w) X.A.in1 (collect (.ref r)) R X.xe s:=by
 obtain⟨vs,o,es,pr,e1,e2,e3,e4,hz,nd,hl,hm⟩:=ext_at I hd
 refine prs_collect (A:=X.A.in1) (I.ok.hd hc) hv e1 e3 (by rw[hz];exact hl) λh' tk as kp ha hG=>?_
 have ez:(as.zip (ys.map λy=>(V.ref y.2.1,y.2.2))).map (·.1)=as:=by
  rw[Y6]
  rw[j0];omega
 have up:∀a∈as,s.heap.objs.size<=a:=λa h=>U5 (hG.above a h)
 have ndA:as.Nodup:=hG.rise.imp λh=>Y0 h
 refine q as _ (by omega) ndA (λa h=>I.hok.fresh (up a h)) (lay_pairs I kp (by rw[ez];exact ndA) (by rw[ez];exact up) λp hp=>?_)
 obtain⟨j,hj⟩:=P3.mp hp
 obtain⟨h1,h2⟩:=o5.mp hj
 rw[O0]at h2
 obtain⟨y,hy,ey⟩:=v4.mp h2
 obtain⟨e,he,hg⟩:=hG.pairs j p.1 h1
 obtain⟨v,hv2,r1,r2,r3⟩:=prd_get pr hy
 rw[e4,O0,hv2]at he
 have he:=N1 he
 subst he
 refine ⟨.ref v.2.1,v.2.2,?_,?_,hg⟩
 ·rw[<- ey,r2];rfl
 ·rw[<- ey];exact r3
noncomputable def rSrtIt(K:n0):List V->Hp->VK->Prop:=λxs H Q=>∃(d d':Addr) (ep:Nat) (ys:List (List Int×Addr×V)) (es:List (List Int)),xs=[.ref d]/\H d=some (extD hL d' ep ys)/\ys.length < 64/\es.length=ys.length /\ 
 (∀(j:Nat) (y:List Int×Addr×V) (e:List Int),ys[j]?=some y->es[j]?=some e->H y.2.1=some (.tup (y.1.map V.int))/\∃b,y.2.2=.ref b/\H b=some (.tup (e.map V.int))) /\
 ∀(as:List Addr) (p:Addr) (us:List V),as.length=ys.length->as.Nodup->(∀a∈as,H a=none)->layH H (as.zip (ys.map λy=>(V.ref y.2.1,y.2.2))) p=none->us.Perm (as.map V.ref) ->
  (us.map (fnB (layH H (as.zip (ys.map λy=>(V.ref y.2.1,y.2.2)))))).Pairwise (λa b=>ltB b a=false)->Q (.ref p) (upd (layH H (as.zip (ys.map λy=>(V.ref y.2.1,y.2.2)))) p (.lst us))
theorem vals_as:∀as:List Addr,Vals (as.map V.ref) (as.map X1)
 | []=>.nil
 | _ :: as=>.cons rfl (vals_as as)
theorem pe_srtIt{X:Cx}{o:Expr}{to:TE}{apos cpos p pos:Pos}(hcm:X.calm=true)(hu:X.A.units+2 < cLine)(hm:X.mg "sorted"=none)(ho:PE X o to)(hg:Gl X "sorted":=by rfl)
  (hbase:attributeBase o "items" X.env (eval o X.env)=eval o X.env:=by rfl) (hline:(apos.endLine==cpos.line)=true:=by rfl)
  (hst:starEach [.Call (.Attribute o "items" apos) [] [] cpos] X.env=(false,eval (.Call (.Attribute o "items" apos) [] [] cpos) X.env) :: starEach [] X.env:=by rfl) :
  PE X (.Call (.Name "sorted" p) [.Call (.Attribute o "items" apos) [] [] cpos] [] pos) (λσ H Q=>to σ H λx H1=>rSrtIt X.K [x] H1 Q):=by
 intro pins s σ H Q I h
 refine wpAny_Call_Name_kw (ld_blt I hg hm (show bootBuiltins "sorted"=some (.builtin "sorted") from by first|rfl|decide) ?_)
 refine Z6 ?_ hst rfl
 rw[hst]
 show wpAny _ _ (spliced ((false,eval (.Call (.Attribute o "items" apos) [] [] cpos) X.env) :: backTo pos (starEach [] X.env))) _ _ s
 refine Calls.spliced_cons ?_
 refine wpAny_Call_method0_late hbase hline (thn (ho pins s σ H _ I h) λv s1 ⟨x,H1,I1,r1,d,d',ep,ys,es,ex,hd,hz,hle,hat,q⟩=>?_)
 cases ex
 cases r1
 obtain⟨vs,ob,ea,pr,e1,e2,e3,e4,_,_,_,hmo⟩:=ext_at I1 hd
 refine ⟨"dict","dict.items",PySem.F.plainAttrs_dict,PySem.F.slot_dict_items,PySem.F.type_dict_items,⟨ob,e1,e2.1⟩,λa z=>?_,Calls.callWith_builtin rfl (PySem.evalArgs_none (items_call hmo e1 e2 ?_))⟩
 ·cases z
  exact ⟨ob,e1,e2.2.1⟩
 refine Calls.spliced_nil ?_
 have g1:(s1.heap.push { cls:=.type "dict_items",data:=.fields #[.ref d] }).get? s1.heap.objs.size=some { cls:=.type "dict_items",data:=.fields #[.ref d] }:=M0 _ rfl
 have kp:∀b oc,s1.heap.get? b=some oc->(s1.heap.push { cls:=.type "dict_items",data:=.fields #[.ref d] }).get? b=some oc:=λb oc e=>i0 _ e
 refine sortCB hu (col_items hcm (I1.kept (t':=s1.toks) kp) hd ⟨_,g1,rfl,rfl⟩ λas s' hl nd hfr I2=>⟨_,as.map V.ref,I2,vals_as as,by rw[j0];omega,λv hv=>?_,λp us hp pp pw=>q as p us hl nd hfr hp pp pw⟩)
 obtain⟨a,ha,rfl⟩:=A1.mp hv
 obtain⟨j,hj⟩:=P3.mp ha
 have hjl:j < as.length:=(W0.mp hj).1
 have hy:ys[j]?=some (ys[j]'(by omega)):=y0 _
 have he:es[j]?=some (es[j]'(by omega)):=y0 _
 obtain⟨h1,b,h2,h3⟩:=hat j _ _ hy he
 have sm:∀{c o},H1 c=some o->layH H1 (as.zip (ys.map λy=>(V.ref y.2.1,y.2.2))) c=some o:=λ{c o} e=>by
  rw[layH_not,e]
  intro hc'
  rw[Y6 (by rw[j0];omega)]at hc'
  rw[hfr c hc']at e
  cases e
 have h4:=layH_in (H:=H1) (l:=as.zip (ys.map λy=>(V.ref y.2.1,y.2.2))) (by rw[Y6 (by rw[j0];omega)];exact nd) (a,V.ref (ys[j]'(by omega)).2.1,(ys[j]'(by omega)).2.2) (E1 (i:=j) (o5.mpr ⟨hj,by rw[O0,hy];rfl⟩))
 exact ⟨a,((ys[j]'(by omega)).1,es[j]'(by omega)),rfl,_,b,by rw[h4,h2],sm h1,sm h3⟩
noncomputable def rSrtKy(K:n0):List V->Hp->VK->Prop:=λxs H Q=>∃(d d':Addr) (ep:Nat) (ys:List (List Int×Addr×V)),xs=[.ref d]/\H d=some (extD hL d' ep ys)/\ys.length < 64/\(∀y∈ys,H y.2.1=some (.tup (y.1.map V.int))/\y.1≠[]) /\
 ∀(p:Addr) (us:List V),H p=none->us.Perm (ys.map λy=>V.ref y.2.1)->(us.map (fnT H)).Pairwise (λa b=>HT.lexLt b a=false)->Q (.ref p) (upd H p (.lst us))
theorem call_srtKy{X:Cx}{K:n0}(hK:X.K=K)(hcm:X.calm=true):CallR X (.builtin "sorted") (rSrtKy K):=by
 intro pins s σ H xs us Q I r h
 obtain⟨d,d',ep,ys,rfl,hd,hz,hky,q⟩:=h
 obtain⟨u,rfl,ru⟩:=vals1 r
 cases ru
 obtain⟨its,rv,hzz,hcol⟩:=col_pd hcm I hd
 refine sortCT (hcol _ λh1 tk kp=>⟨H,_,I.kept (t':=tk) kp,rv,by rw[j0];exact hz,λv hv=>?_,q⟩)
 obtain⟨y,hy,rfl⟩:=A1.mp hv
 exact ⟨_,y.1,rfl,(hky y hy).1,(hky y hy).2⟩
end L2
namespace L3
open PySem PySem.Spec PyProof.Rows L2
theorem rel_lay{K:Fg}{G:Gh}{σ:L2.St}{ρ:Ev}{F H:Hp}(R:Rel K G F σ H ρ):∀{l:List (Addr×V×V)},(l.map (·.1)).Nodup->(∀a∈l.map (·.1),H a=none)->Sub F (layH F l)/\Rel K G (layH F l) σ (layH H l) ρ
 | [],_,_=>⟨Sub.refl _,R⟩
 | (a,x,y) :: t,nd,hn=>by
  rw[B1,E3]at nd
  obtain⟨s1,R1⟩:=rel_lay R nd.2 λb hb=>hn b (L0 _ hb)
  obtain⟨s2,R2⟩:=R1.newE (a:=a) (o:=.tup [x,y]) (by rw[layH_not nd.1];exact hn a P0)
  exact ⟨s1.trans s2,R2⟩
noncomputable def fSrtIt(d:D)(Q:Sl->Prop):Prop:=∃rows:List Bxx,d=pdD (rows.map λp=>(p.1,tI p.2))/\rows.length < 64/\∀rows':List Bxx,rows'.Perm rows->rows'.Pairwise (λa b=>ltB b a=false)->Q (.ow (.list (rows'.map boxD)))
theorem ok_srtIt{K:Fg}:OpOk K (rSrtIt K) (o1 fSrtIt):=ok1 λG F σ H ρ x d Q Qd R h1 w k=>by
 obtain⟨rows,rfl,hz,w⟩:=w
 obtain⟨b,b',ep,ys,qs,rfl,hd,dq,e⟩:=pd_at R.sub h1
 have e2:qs=rows.map λp=>(p.1,tI p.2):=pd_inj (by unfold pdD;rw[e])
 subst e2
 have hl:=dq.length
 rw[j0]at hl
 have at':∀(j:Nat) (y:List Int×Addr×V) (r:Bxx),ys[j]?=some y->rows[j]?=some r->y.1=r.1/\F y.2.1=some (.tup (y.1.map V.int))/\∃b,y.2.2=.ref b/\F b=some (.tup (r.2.map V.int)):=λj y r hy hr=>by
  obtain⟨d,g1,g2,g3⟩:=dq.get hy
  rw[O0,hr]at g1
  obtain⟨g5,g4⟩:=Prod.mk.inj (N1 g1)
  rw[<- g4]at g3
  obtain⟨c,hc,hf⟩:=da_tup g3
  exact ⟨g5.symm,g2,c,hc,hf⟩
 refine ⟨b,b',ep,ys,rows.map (·.2),rfl,hd,by omega,by rw[j0];omega,λj y e hy he=>?_,λas p us ha nd hfr hp pp pw=>?_⟩
 ·rw[O0]at he
  obtain⟨r,hr,rfl⟩:=v4.mp he
  obtain⟨_,g2,c,g3,g4⟩:=at' j y r hy hr
  exact ⟨R.sub _ _ g2,c,g3,R.sub _ _ g4⟩
 ·have ez:(as.zip (ys.map λy=>(V.ref y.2.1,y.2.2))).map (·.1)=as:=Y6 (by rw[j0];omega)
  obtain⟨sb,R'⟩:=rel_lay (l:=as.zip (ys.map λy=>(V.ref y.2.1,y.2.2))) R (by rw[ez];exact nd) (by rw[ez];exact hfr)
  have rep:∀(j:Nat) (a:Addr) (r:Bxx),as[j]?=some a->rows[j]?=some r->RepB (layH F (as.zip (ys.map λy=>(V.ref y.2.1,y.2.2)))) a r:=λj a r hj hr=>by
   have hjl:j < ys.length:=by have:=(W0.mp hr).1;omega
   have hy:ys[j]?=some ys[j]:=y0 hjl
   obtain⟨g1,g2,c,g3,g4⟩:=at' j _ r hy hr
   have h4:=layH_in (H:=F) (l:=as.zip (ys.map λy=>(V.ref y.2.1,y.2.2))) (by rw[ez];exact nd) (a,V.ref ys[j].2.1,ys[j].2.2) (E1 (i:=j) (o5.mpr ⟨hj,by rw[O0,hy];rfl⟩))
   exact ⟨_,c,by rw[h4,g3],by rw[<- g1];exact sb _ _ g2,sb _ _ g4⟩
  have repU:∀v∈us,∃c r,v=.ref c/\RepB (layH F (as.zip (ys.map λy=>(V.ref y.2.1,y.2.2)))) c r:=λv hv=>by
   obtain⟨a,ha',rfl⟩:=A1.mp (pp.mem_iff.mp hv)
   obtain⟨j,hj⟩:=P3.mp ha'
   have hjl:j < rows.length:=by have:=(W0.mp hj).1;omega
   exact ⟨a,_,rfl,rep j a _ hj (y0 hjl)⟩
  have up:∀{c:Addr}{r:Bxx},RepB (layH F (as.zip (ys.map λy=>(V.ref y.2.1,y.2.2)))) c r->RepB (layH H (as.zip (ys.map λy=>(V.ref y.2.1,y.2.2)))) c r:=λ{c r} ⟨a,b,h1,h2,h3⟩=>⟨a,b,R'.sub _ _ h1,R'.sub _ _ h2,R'.sub _ _ h3⟩
  have ee:us.map (fnB (layH H (as.zip (ys.map λy=>(V.ref y.2.1,y.2.2)))))=us.map (fnB (layH F (as.zip (ys.map λy=>(V.ref y.2.1,y.2.2))))):=Q2 λv hv=>by
   obtain⟨c,r,rfl,hc⟩:=repU v hv
   rw[fnB_of _ c r hc,fnB_of _ c r (up hc)]
  rw[ee]at pw
  have em:(as.map V.ref).map (fnB (layH F (as.zip (ys.map λy=>(V.ref y.2.1,y.2.2)))))=rows:=by
   refine E6 λj=>?_
   rw[S0,O0]
   cases hj:as[j]? with
   | none =>
    have:=W3.mp hj
    rw[m5 (by omega)]
    rfl
   | some a =>
    have hjl:j < rows.length:=by have:=(W0.mp hj).1;omega
    have:=fnB_of _ a _ (rep j a _ hj (y0 hjl))
    rw[y0 hjl,K4]
    exact congrArg some this
  have dall:DaAll K (layH F (as.zip (ys.map λy=>(V.ref y.2.1,y.2.2)))) us ((us.map (fnB (layH F (as.zip (ys.map λy=>(V.ref y.2.1,y.2.2)))))).map boxD):=by
   rw[S0]
   refine DaAll.map_of λv hv=>?_
   obtain⟨c,r,rfl,hc⟩:=repU v hv
   show Da K _ (.ref c) (boxD (fnB _ (.ref c)))
   rw[fnB_of _ c r hc]
   exact repB_da hc
  obtain⟨R2,r2⟩:=R'.newOw (o:=.lst us) (d:=.list _) hp dall
  exact k _ _ _ _ sb R2 r2 (w _ (by rw[<- em];exact pp.map _) pw)
theorem w_srtIt{X:Cx}{K:Fg}{o:Expr}{a:AD}{apos cpos p pos:Pos}(hK:X.K=K)(hcm:X.calm=true)(hu:X.A.units+2 < cLine)(hm:X.mg "sorted"=none)(ho:WE X o (argT K a))(hg:Gl X "sorted":=by rfl)
  (hbase:attributeBase o "items" X.env (eval o X.env)=eval o X.env:=by rfl) (hline:(apos.endLine==cpos.line)=true:=by rfl)
  (hst:starEach [.Call (.Attribute o "items" apos) [] [] cpos] X.env=(false,eval (.Call (.Attribute o "items" apos) [] [] cpos) X.env) :: starEach [] X.env:=by rfl) :
  WE X (.Call (.Name "sorted" p) [.Call (.Attribute o "items" apos) [] [] cpos] [] pos) (lift K (dOp [a] (o1 fSrtIt))):=by
 subst hK
 refine ⟨λpins s σ H Q I h=>pe_srtIt hcm hu hm ho.h hg hbase hline hst pins s σ H Q I (l_op ok_srtIt h)⟩
noncomputable def fSrtKy(d:D)(Q:Sl->Prop):Prop:=∃ps:List (List Int×D),d=pdD ps/\ps.length < 64/\(∀p∈ps,p.1≠[])/\∀rows':List (List Int),rows'.Perm (ps.map (·.1))->rows'.Pairwise (λa b=>HT.lexLt b a=false)->Q (.ow (.list (rows'.map tI)))
theorem ok_srtKy{K:Fg}:OpOk K (rSrtKy K) (o1 fSrtKy):=ok1 λG F σ H ρ x d Q Qd R h1 w k=>by
 obtain⟨ps,rfl,hz,hne,w⟩:=w
 obtain⟨b,b',ep,ys,qs,rfl,hd,dq,e⟩:=pd_at R.sub h1
 have e2:qs=ps:=pd_inj (by unfold pdD;rw[e])
 subst e2
 have hl:=dq.length
 have at':∀y∈ys,F y.2.1=some (.tup (y.1.map V.int))/\y.1≠[]:=λy hy=>by
  obtain⟨j,hj⟩:=P3.mp hy
  obtain⟨d,g1,g2,g3⟩:=dq.get hj
  exact ⟨g2,hne _ (E1 g1)⟩
 have ek:ys.map (·.1)=qs.map (·.1):=by
  refine E6 λj=>?_
  rw[O0,O0]
  cases hj:ys[j]? with
  | none=>rw[m5 (by have:=W3.mp hj;omega)];rfl
  | some y =>
   obtain⟨d,g1,_⟩:=dq.get hj
   rw[g1]
   rfl
 refine ⟨b,b',ep,ys,rfl,hd,by omega,λy hy=>⟨R.sub _ _ (at' y hy).1,(at' y hy).2⟩,λp us hp pp pw=>?_⟩
 have repU:∀v∈us,∃c r,v=.ref c/\RepT F c r:=λv hv=>by
  obtain⟨y,hy,rfl⟩:=A1.mp (pp.mem_iff.mp hv)
  exact ⟨_,y.1,rfl,at' y hy⟩
 have ee:us.map (fnT H)=us.map (fnT F):=Q2 λv hv=>by
  obtain⟨c,r,rfl,hc⟩:=repU v hv
  rw[fnT_of F c r hc,fnT_of H c r ⟨R.sub _ _ hc.1,hc.2⟩]
 rw[ee]at pw
 have em:(ys.map λy=>V.ref y.2.1).map (fnT F)=ys.map (·.1):=by
  rw[S0]
  exact Q2 λy hy=>fnT_of F _ y.1 (at' y hy)
 have dall:DaAll K F us ((us.map (fnT F)).map tI):=by
  rw[S0]
  refine DaAll.map_of λv hv=>?_
  obtain⟨c,r,rfl,hc⟩:=repU v hv
  show Da K F (.ref c) (tI (fnT F (.ref c)))
  rw[fnT_of F c r hc]
  exact .tup hc.1 (DaAll.ints r)
 obtain⟨R',r'⟩:=R.newOw (o:=.lst us) (d:=.list _) hp dall
 exact k _ _ F _ (Sub.refl _) R' r' (w _ (by rw[<- ek,<- em];exact pp.map _) pw)
end L3
namespace L2
open PySem PySem.Spec PyProof.Rows
theorem len_meets{prog:Program}{w:World}{d:Addr}(hd:(d==sysModules)=false):MeetsIn prog w (Builtin.«dict.__len__» ⟨[.ref d],[]⟩) λ_ R s=>∃(o:Obj) (es:Array DictEntry) (ep:Nat),s.heap.get? d=some o/\o.data=.dict es ep/\R (.ok (.ret (.int es.size s.toks))) { s with toks:=s.toks+1 } :=
 .of_wp λA R s ⟨o,es,ep,ho,hdat,h⟩=>by
  show wpAny _ _ (dictSize d >>= _) _ _ s
  unfold dictSize
  refine wpAny_bind (wpAny_bind (wpAny_dictEntries ho hdat (wpAny_pure ?_)))
  show wpAny _ _ (Builtin.Dict.pendingCount d >>= _) _ _ s
  refine wpAny_bind (wpAny_pendingCount_other hd (wpAny_ret_mkInt ?_))
  rw[Nat.add_zero]
  exact h
theorem len_ent{prog:Program}{w:World}{A:Around}{E:Value->Shared->Prop}{s:Shared}{d:Addr}{o:Obj}{es:Array DictEntry}{ep:Nat}{Q:Value->Shared->Prop}(hd:(d==sysModules)=false)(ho:s.heap.get? d=some o)(hx:o.ExactDict)(hdat:o.data=.dict es ep)(hfit:(es.size:Int) < 2 ^ 63)
  (h:Q (.int es.size (s.toks+1)) { s with toks:=s.toks+1+1 }):wpAny (model prog w) A (call (.builtin "len") [.ref d]) Q E s:=by
 refine Calls.call_function_entry kind_len plain_len entry_len (args_len1 _) ?_
 have ty:s.TypeIs (.ref d) "dict":=⟨o,ho,hx.1⟩
 unfold Builtin.«len»
 refine wpAny_bind (m:=oneArg "len" _) (wpAny_pure (wpAny_bind (m:=callSpecial? (.ref d) (Str.ofString "__len__")) (wpAny_callSpecial?_slot (name:=Str.ofString "__len__") ty F.slot_dict_len (call_meetsIn F.slot_dict_len ty F.entry_dict_len (F.args_dict_len_1 _) (len_meets hd) ⟨o,es,ep,ho,hdat,?_⟩))))
 show wpAny _ _ _ _ _ { s with toks:=s.toks+1 }
 refine wpAny_bind (wpAny_holding (wpAny_pure (wpAny_bind (wpAny_letGo ?_))))
 show wpAny _ _ (if ((es.size:Nat):Int) < 0 then _ else _) _ _ _
 rw[if_neg (by omega)]
 show wpAny _ _ (if ((es.size:Nat):Int) ≥ 2 ^ 63 then _ else _) _ _ _
 rw[if_neg (by omega)]
 exact wpAny_bind (wpAny_mkInt (wpAny_pure ⟨_,rfl,h⟩))
noncomputable def rLenP:List V->Hp->VK->Prop:=λxs H Q=>∃(d d':Addr) (ep:Nat) (ys:List (List Int×Addr×V)),xs=[.ref d]/\H d=some (extD hL d' ep ys)/\Q (.int ys.length) H
theorem call_lenP{X:Cx}:CallR X (.builtin "len") rLenP:=by
 intro pins s σ H xs us Q I r h
 obtain⟨d,d',ep,ys,rfl,hd,q⟩:=h
 obtain⟨u,rfl,ru⟩:=vals1 r
 cases ru
 obtain⟨vs,o,es,pr,e1,e2,e3,e4,hz,nd,hl,hm⟩:=ext_at I hd
 have hs:sizeLine=16777216:=sizeLine_eq
 refine len_ent hm e1 e2 e3 (by omega) ⟨.int ys.length,H,I.tok _,⟨_,by rw[hz]⟩,q⟩
end L2
namespace L3
open PySem PySem.Spec PyProof.Rows L2
noncomputable def fLenP:D->(Sl->Prop)->Prop
 | .dict [(.bool false,.list L)],Q=>Q (.fz (.int L.length))
 | _,_=>False
theorem ok_lenP{K:Fg}:OpOk K rLenP (o1 fLenP):=by
 intro G F σ H ρ vs ds Q Qd R a w k
 match ds,a,w with
 | [d],a,w =>
  obtain⟨v,rfl,h1⟩:=a.one
  have w:fLenP d Qd:=w
  unfold fLenP at w
  split at w
  rotate_left
  ·exact w.elim
  rename_i L w
  obtain⟨b,b',ep,ys,qs,rfl,hb,t,rfl⟩:=pd_at R.sub h1
  have hl:=t.length
  rw[j0,<- hl]at w
  exact ⟨b,b',ep,ys,rfl,hb,k _ _ F (.fz (.int ys.length)) (Sub.refl _) R (Da.int _) w⟩
end L3
namespace L2
open PySem PySem.Spec PyProof.Rows
noncomputable def rPGet:R2:=λx y H Q=>∃(d d' b:Addr) (ep:Nat) (xs:List (List Int×Addr×V)) (k:List Int) (c:Addr) (v:V),x=.ref d/\y=.ref b/\H d=some (extD hL d' ep xs)/\(∀z∈xs,H z.2.1=some (.tup (z.1.map V.int)))/\H b=some (.tup (k.map V.int))/\(k,c,v)∈xs/\Q v H
theorem pe_pget{X:Cx}{o i:Expr}{td ty:TE}{pos:Pos}(hu:X.A.units+6 < cLine)(ho:PE X o td)(hi:PE X i ty)(hs:NoSl i):PE X (.Subscript o i pos) (tOp rPGet td ty):=by
 intro pins s σ H Q I h
 refine subD_of PySem.F.slot_dict_getitem.lookup hs (thn (ho pins s σ H _ I h) λu s1 ⟨x,H1,I1,rx,q1⟩=>thn (hi pins s1 σ H1 _ I1 q1) λiv s2 ⟨y,H2,I2,ry,q2⟩=>?_)
 obtain⟨d,d',b,ep,xs,k,c,v,ex,ey,hd,hk,hb,hm,q⟩:=q2
 subst ex ey
 obtain rfl:u=X1 d:=rx
 obtain rfl:iv=X1 b:=ry
 obtain⟨vs,ob,es,pr,e1,e2,e3,e4,hz,hnd,_,_⟩:=ext_at I2 hd
 have key:∀{k:List Int}{b:Addr},H2 b=some (.tup (k.map V.int))->(tupleKind (intKind X.prog X.w)).is s2.heap k b:=λ{k b} hb=>by
  obtain⟨_,its,r,o,h1,h2,n,h3,_⟩:=(show ObjOk X.prog X.w H2 s2.heap b (.tup (k.map V.int)) from I2.hok _ _ hb)
  exact ⟨o,its.toArray,n,h1,h2,h3,by simpa using ints_are r⟩
 refine ⟨⟨ob,e1,e2.1⟩,?_⟩
 obtain⟨j,hj⟩:=P3.mp hm
 obtain⟨⟨k',b',w'⟩,hv,r1,r2,r3⟩:=prd_get pr hj
 have r1:k=k':=r1
 subst r1
 have hvn:(vs.map (·.1)).Nodup:=by rw[prd_keys pr];exact hnd
 have hall:∀x∈vs,(tupleKind (intKind X.prog X.w)).is s2.heap x.1 x.2.1:=λx hx=>by
  obtain⟨x',hx',r1,r2,_⟩:=prd_mem pr x hx
  have:=key (hk x' hx')
  rw[r1,r2]at this
  exact this
 exact wpAny_getItem_heap (knd:=tupleKind (intKind X.prog X.w)) (tupleKind_room_in1 (show X.A.units+1 < cLine by omega)) (key hb) ⟨ob,es,ep,e1,e2,e3,e4,hall,hvn⟩ (atKey_of_get hvn hv) ⟨v,H2,I2.tok _,r3,q⟩
end L2
namespace L3
open PySem PySem.Spec PyProof.Rows L2
noncomputable def fPGet:D->D->(Sl->Prop)->Prop
 | .dict [(.bool false,.list L)],.tuple ds,Q=>∃(ps:List (List Int×D)) (k:List Int) (d:D),L=ps.map (λp=>.tuple [tI p.1,p.2])/\ds=k.map G0/\(k,d)∈ps/\Q (.fz d)
 | _,_,_=>False
theorem DaPd.has{K:Fg}{F:Hp}{k:List Int}{d:D}:∀{xs:List (List Int×Addr×V)}{ps:List (List Int×D)},DaPd K F xs ps->(k,d)∈ps->∃b v,(k,b,v)∈xs/\Da K F v d
 | _,_,.nil,h=>by cases h
 | _,_,.cons e h t,z=>by
  rcases X0.mp z with q|q
  ·cases q;exact ⟨_,_,P0,h⟩
  ·obtain⟨b,v,hb,hv⟩:=DaPd.has t q
   exact ⟨b,v,L0 _ hb,hv⟩
theorem ok_pget{K:Fg}:OpOk K (r2L rPGet) (o2 fPGet):=ok2 λG F σ H ρ x y d e Q Qd R h1 h2 w k=>by
 unfold fPGet at w
 split at w
 rotate_left
 ·exact w.elim
 rename_i L ds w
 obtain⟨ps,kk,d0,hL',rfl,hm,w⟩:=w
 obtain⟨b,b',ep,ys,qs,rfl,hb,t,hq⟩:=pd_at R.sub h1
 have e3:ps=qs:=pd_inj (by unfold pdD;rw[<- hL',hq])
 subst e3
 obtain⟨c,us,rfl,hc1,hc2,hd⟩:=h2.tuple R.sub
 rw[hd.intsV]at hc2
 obtain⟨b0,v,hv,dv⟩:=t.has hm
 exact ⟨b,b',c,ep,ys,kk,b0,v,rfl,rfl,hb,λz hz=>R.sub _ _ (t.at z hz),hc2,hv,k _ _ F (.fz d0) (Sub.refl _) R dv w⟩
section
variable {X:Cx}{K:Fg}{e1 e2:Expr}{a b:AD}{pos:Pos}
theorem w_pget(hu:X.A.units+6 < cLine)(ha:WE X e1 (argT K a))(hb:WE X e2 (argT K b))(hs:NoSl e2:=by exact λ_ _=>rfl):WE X (.Subscript e1 e2 pos) (lift K (dOp [a,b] (o2 fPGet))):=⟨cv2 ok_pget (pe_pget hu ha.h hb.h hs)⟩
end
end L3
namespace L2
open PySem PySem.Spec PyProof.Rows
section
variable {X:Cx}
noncomputable def rDictPd(K:n0):List V->Hp->VK->Prop:=λvs H Q=>∃(p:Addr) (ys:List V) (xs:List (List Int×Addr×V)),vs=[.ref p]/\SqL K H p ys/\ys.length=xs.length /\
 (∀(i:Nat) x,xs[i]?=some x->∃q,ys[i]?=some (.ref q)/\H q=some (.tup [.ref x.2.1,x.2.2]))/\(∀x∈xs,H x.2.1=some (.tup (x.1.map V.int))) /\
 (xs.map (·.1)).Nodup/\∀l ep,H l=none->Q (.ref l) (upd H l (extD hL l ep xs))
theorem call_dictPd(hc:X.calm=true)(hu:X.A.units+6 < cLine):CallR X (.type "dict") (rDictPd X.K):=by
 intro pins s σ H vs us Q I r h
 obtain⟨p,ys,xs,rfl,hq,hyl,hp,hk,hnd,q⟩:=h
 obtain⟨u,rfl,rx⟩:=vals1 r
 cases rx
 obtain⟨its,r',⟨o,n,e1,e2,e3,e4⟩,hz⟩:=I.list hq
 have hlen:=r'.length
 have key:∀{x:List Int×Addr×V}{h':Heap},x∈xs->(∀b ob,s.heap.get? b=some ob->h'.get? b=some ob)->(tupleKind (intKind X.prog X.w)).is h' x.1 x.2.1:=λ{x h'} hx kk=>by
  obtain⟨_,its,r,o,h1,h2,n,h3,_⟩:=(show ObjOk X.prog X.w H s.heap x.2.1 (.tup (x.1.map V.int)) from I.hok _ _ (hk x hx))
  exact ⟨o,its.toArray,n,kk _ _ h1,h2,h3,by simpa using ints_are r⟩
 have hb:(s.heap.objs.size==sysModules)=false:=beq_eq_false_iff_ne.mpr (v3 (Y0 I.big))
 have hz5:xs.length<=sizeLine:=by omega
 refine call_dict_pairs (λi h=>∃vs:List (List Int×Addr×Value),Paired (λx v=>x.1=v.1/\x.2.1=v.2.1/\RelV x.2.2 v.2.2) (xs.take i) vs/\∃o es ep,h.get? s.heap.objs.size=some o/\o.ExactDict/\o.data=.dict es ep/\es.toList=vs.map λx=>⟨hL x.1,.ref x.2.1,x.2.2⟩) (I.ok.hd hc) e1 e2 e4 e3 ?_ ?_ ?_ ?_
 ·intro h' _ e
  exact ⟨[],.nil,_,#[],0,e,⟨rfl,rfl,rfl⟩,rfl,rfl⟩
 ·rintro i h1 h2 ⟨vs,rel,o',es,ep,ho,rest⟩ kp
  exact ⟨vs,rel,o',es,ep,kp _ _ (Nat.lt_succ_self _) ho,rest⟩
 ·rintro i v s' Q' E' hv ⟨vs,rel,o',es,ep,ho,a1,a2,a3⟩ kk hq'
  have hi:i < its.length:=(W0.mp (by simpa using hv)).1
  obtain⟨⟨k,b,w'⟩,hxi⟩:∃x,xs[i]?=some x:=⟨_,y0 (by omega)⟩
  obtain⟨qq,ey,eq⟩:=hp i _ hxi
  obtain⟨y,ey',ry⟩:=r'.getV (by simpa using hv)
  rw[ey]at ey'
  cases ey'
  cases ry
  have hxm:(k,b,w')∈xs:=E1 hxi
  obtain⟨its2,r2,ob,h1,h2,m,h3⟩:=tup_at I eq
  obtain⟨u1,u2,rfl,ru1,ru2⟩:=vals2 r2
  cases ru1
  have hvl:=prd_len rel
  rw[J1]at hvl
  have hz2:vs.length<=sizeLine:=by omega
  have hfr:=key_fresh hnd hxi
  rw[<- prd_keys rel]at hfr
  have hvn:(vs.map (·.1)).Nodup:=by rw[prd_keys rel,List.map_take];exact hnd.sublist (List.take_sublist _ _)
  refine ⟨qq,.ref b,u2,rfl,⟨ob,kk _ _ h1,h2,m,h3⟩,wpAny_dictSet_heap (hsz:=hz2) (knd:=tupleKind (intKind X.prog X.w)) (tupleKind_room_in1 (A:=X.A.in1) (show X.A.units+1+1 < cLine by omega)) (key hxm kk) ⟨o',es,ep,ho,a1,a2,a3,λu hu'=>?_,hvn⟩ λh' dd' sb=>hq' h' _ ⟨vs++[(k,b,u2)],?_,?_⟩ sb⟩
  ·obtain⟨x',hx',r1,r2,_⟩:=prd_mem rel u hu'
   have:=key (U2 hx') kk
   rw[r1,r2]at this
   exact this
  ·rw[take_get hxi]
   exact prd_snoc rel ⟨rfl,rfl,ru2⟩
  ·obtain⟨q,es,ep,hq,h2,h3,h4,_,h5⟩:=dd'
   rw[storedH_new (at_new hfr)]at h4
   exact ⟨q,es,ep,hq,h2,h3,h4⟩
 ·rintro h' tk ⟨vs,rel,o',es,ep,f1,f2,f3,f4⟩ kp
  have et:xs.take its.toArray.size=xs:=by rw[S2];simp only[N0];omega
  rw[et]at rel
  have hfr:H s.heap.objs.size=none:=I.hok.fresh (A0 _)
  refine ⟨.ref s.heap.objs.size,_,I.laid (t':=tk) kp (A0 _) (show ObjOk X.prog X.w _ h' _ (extD hL s.heap.objs.size ep xs) from ⟨⟨⟨vs,rel,o',es,f1,f2,f3,f4⟩,hnd,hz5,hb⟩,⟨o',f1⟩,λh1 h2 z k=>?_⟩),rfl,q _ ep hfr⟩
  obtain⟨⟨vs,r,o,es,g1,g2⟩,g3⟩:=z
  exact ⟨⟨vs,r,o,es,k _ g1,g2⟩,g3⟩
end
end L2
namespace L3
open PySem PySem.Spec PyProof.Rows L2
noncomputable def fDictPd:D->(Sl->Prop)->Prop
 | .list ds,Q=>∃ps:List (List Int×D),(ds=ps.map λp=>.tuple [tI p.1,p.2])/\(ps.map (·.1)).Nodup/\Q (.ow (pdD ps))
 | _,_=>False
theorem prs_pd{K:Fg}{F:Hp}:∀{ps:List (List Int×D)}{ys:List V},DaAll K F ys (ps.map λp=>.tuple [tI p.1,p.2]) ->
  ∃xs:List (List Int×Addr×V),ys.length=xs.length/\(∀(i:Nat) x,xs[i]?=some x->∃q,ys[i]?=some (.ref q)/\F q=some (.tup [.ref x.2.1,x.2.2]))/\DaPd K F xs ps
 | [],_,h=>by
  cases h
  exact ⟨[],rfl,λi x e=>by simp at e,.nil⟩
 | p :: ps,_,h=>by
  cases h with
  | @cons v _ _ _ h t =>
   obtain⟨xs,e2,e3,e4⟩:=prs_pd t
   cases h with
   | @tup q us _ eq tt =>
    obtain⟨y,u,rfl,hy,hu⟩:=tt.both
    obtain⟨b,rfl,f1⟩:=da_tI hy
    refine ⟨(p.1,b,u) :: xs,by simp[e2],λi x ex=>?_,.cons f1 hu e4⟩
    cases i with
    | zero=>cases ex;exact ⟨q,rfl,eq⟩
    | succ i=>exact e3 i x ex
theorem ok_dictPd{K:Fg}:OpOk K (rDictPd K) (o1 fDictPd):=ok1 λG F σ H ρ x d Q Qd R h1 w k=>by
 match d,h1,w with
 | .list ds,h1,⟨ps,e,nd,w⟩ =>
  subst e
  obtain⟨a,us,rfl,e1,d1⟩:=h1.list R.sub
  obtain⟨xs,g2,g3,g4⟩:=prs_pd d1
  refine ⟨a,us,xs,rfl,SqL.of e1,g2,λi x ex=>?_,λx hx=>R.sub _ _ (g4.at x hx),by rw[g4.keys];exact nd,λl ep hl=>?_⟩
  ·obtain⟨q,z1,z2⟩:=g3 i x ex
   exact ⟨q,z1,R.sub _ _ z2⟩
  ·obtain⟨R',r'⟩:=R.newOw (o:=extD hL l ep xs) (d:=pdD ps) hl (Own1.pd g4)
   exact k _ _ F _ (Sub.refl _) R' r' w
section
variable {X:Cx}{K:Fg}{e e1 e2:Expr}{a b:AD}{p pos:Pos}
theorem w_dictPd(hK:X.K=K)(hc:X.calm=true)(hu:X.A.units+6 < cLine)(hm:X.mg "dict"=none)(hv:bootBuiltins "dict"=some (.type "dict"))(ha:WA X [e] (tArgs ([a].map (argT K))))(hg:Gl X "dict":=by rfl)(he:notStar e=true:=by rfl) :
  WE X (.Call (.Name "dict" p) [e] [] pos) (lift K (dOp [a] (o1 fDictPd))):=by
 subst hK
 exact w_callT ok_dictPd (call_dictPd hc hu) hm hv ha hg (by decide) (by decide) he rfl
end
end L3
namespace L2
open PySem PySem.Spec PyProof.Rows PySem.W
section
variable {prog:Program}{w:World}{A:Around}{E:Value->Shared->Prop}{s:Shared}
theorem all_taken{id:String}{d:Addr}{o:Obj}{es:Array DictEntry}{ep:Nat}{Q:Array DictEntry->Shared->Prop}(ho:s.heap.get? d=some o)(hd:o.data=.dict es ep)(hk:∀e∈es.toList,∃a,e.key=.ref a/\s.TypeIs (.ref a) "tuple")(hh:(es.toList.map (·.hash)).Nodup)(h:Q es s) :
  wpAny (model prog w) A (u7 id d) Q E s:=by
 unfold u7
 refine wpAny_bind (wpAny_dictEntries ho hd ?_)
 have one:∀e∈es.toList,¬((es.filter (·.hash==e.hash)).size > 1):=λe he=>by
  rw[<- S1,Array.toList_filter]
  intro hgt
  have h1:es.toList.filter (·.hash==e.hash) |>.map (·.hash) |>.Nodup:=hh.sublist (List.Sublist.map _ List.filter_sublist)
  generalize hl:es.toList.filter (·.hash==e.hash)=l at hgt h1
  have h2:∀x∈l,x.hash=e.hash:=λx hx=>by
   rw[<- hl]at hx
   simpa using (K5.mp hx).2
  match l,hgt,h1,h2 with
  | x :: y :: t,_,h1,h2 =>
   rw[B1,B1,E3]at h1
   exact h1.1 (by rw[h2 x (by simp),h2 y (by simp)];simp)
 rw[<- X8]
 refine wpAny_bind ?_
 refine wpAny_forIn_list _ (λrest _ s'=>s'=s/\∀e∈rest,e∈es.toList) _ ?_ ?_ _ _ ⟨rfl,λe he=>he⟩
 ·rintro x rest b s' ⟨rfl,hr⟩
  obtain⟨a,ha,ty⟩:=hk x (hr x (by simp))
  refine wpAny_bind ?_
  rw[ha]
  show wpAny _ _ (specialOf (.ref a) "__eq__" >>= _) _ _ _
  refine wpAny_bind (wpAny_specialOf ty F.slot_tuple_eq.lookup (wpAny_pure ?_))
  rw[if_pos (by decide),if_neg (one x (hr x (by simp)))]
  exact wpAny_pure ⟨rfl,λe he=>hr e (L0 _ he)⟩
 ·rintro b s' ⟨rfl,_⟩
  exact wpAny_pure h
theorem dict_copy{d:Addr}{o:Obj}{es:Array DictEntry}{ep:Nat}{Q:Value->Shared->Prop}(hoS:(d==sysModules)=false)(ho:s.heap.get? d=some o)(hx:o.ExactDict)(hd:o.data=.dict es ep)(hne:es.toList≠[])(hz:es.size<=sizeLine)
  (hk:∀e∈es.toList,∃a,e.key=.ref a/\s.TypeIs (.ref a) "tuple") (hh:(es.toList.map (·.hash)).Nodup)
  (h:∀h' o',h'.get? s.heap.objs.size=some o'->o'.ExactDict->o'.data=.dict es 1->(∀b o,s.heap.get? b=some o->h'.get? b=some o)->Q (.ref s.heap.objs.size) { s with heap:=h' }) :
  wpAny (model prog w) A (call (.type "dict") [.ref d]) Q E s:=by
 refine callType_codes (Q₁:=λobj s₁=>obj=.ref s.heap.objs.size/\s₁={ s with heap:=s.heap.push { cls:=.type "dict",data:=.dict #[] } }) F.kt_called_dict (F.kt_typeCall_dict_1 _) F.entry_dict_init (kt_code_dict_new _ ⟨rfl,rfl⟩) ?_
 rintro obj s₁ ⟨rfl,rfl⟩
 have g0:(s.heap.push { cls:=.type "dict",data:=.dict #[] }).get? s.heap.objs.size=some { cls:=.type "dict",data:=.dict #[] }:=M0 _ rfl
 have g1:(s.heap.push { cls:=.type "dict",data:=.dict #[] }).get? d=some o:=i0 _ ho
 have ty0:Shared.TypeIs { s with heap:=s.heap.push { cls:=.type "dict",data:=.dict #[] } } (.ref s.heap.objs.size) "dict":=⟨_,g0,rfl⟩
 have ty1:Shared.TypeIs { s with heap:=s.heap.push { cls:=.type "dict",data:=.dict #[] } } (.ref d) "dict":=⟨_,g1,hx.1⟩
 have hdo:s.heap.objs.size≠d:=T1 (J0 ho)
 refine ⟨ty0,F.args_dict_init_2 _ _,?_⟩
 unfold Builtin.«dict.__init__»
 refine wpAny_bind ?_
 unfold X7
 refine wpAny_bind (wpAny_notOrdered_dict ty0 ?_)
 show wpAny _ _ (pure (s.heap.objs.size,[X1 d])) _ _ _
 refine wpAny_pure ?_
 show wpAny _ _ (E5 "dict.__init__" s.heap.objs.size (.ref d) [] .none) _ _ _
 unfold E5
 refine wpAny_bind (wpAny_typeOf ty1 ?_)
 rw[if_neg (by decide)]
 refine wpAny_bind ?_
 unfold Builtin.Dict.merge
 refine wpAny_bind ?_
 unfold Builtin.Dict.readDirectly
 refine wpAny_bind (wpAny_isInstance ty1 isSubtype_dict_dict ?_)
 simp only[Bool.not_true,W2,if_false]
 refine wpAny_bind (wpAny_specialOf ty1 F.slot_dict_iter.lookup (wpAny_pure ?_))
 simp only[beq_self_eq_true,if_true]
 refine wpAny_bind (wpAny_pure ?_)
 unfold Builtin.Dict.mergeDict
 rw[if_neg (by simpa using hdo)]
 unfold j5
 rw[if_neg (by rw[hoS];exact G1)]
 refine wpAny_bind (wpAny_pure ?_)
 refine wpAny_bind (wpAny_dictEntries g1 hd ?_)
 have few:(decide (es.size<=8)&&es.all λe=>(keyPart e.key).isSome)=false:=by
  rw[P6]
  refine .inr ?_
  match hl:es.toList,hne with
  | e :: l,_ =>
   obtain⟨a,ha,_⟩:=hk e (by rw[hl];simp)
   rw[<- Array.all_toList,hl,List.all_cons,ha]
   rfl
 simp only[few,Bool.not_false,if_true]
 refine wpAny_bind (wpAny_dictEntries g0 rfl ?_)
 rw[if_pos (by rfl)]
 refine wpAny_bind (all_taken g1 hd (λe he=>?_) hh ?_)
 ·obtain⟨a,ha,⟨oa,ga,gt⟩⟩:=hk e he
  exact ⟨a,ha,oa,i0 _ ga,gt⟩
 rw[if_pos (by
   rw[T7]
   rw[<- Bool.not_eq_true,Array.isEmpty_iff]
   intro z
   exact hne (by rw[z]))]
 refine wpAny_bind (wpAny_updateDictKeysTo g0 rfl (wpAny_pure ?_) (by omega))
 show wpAny _ _ (W7 s.heap.objs.size [] >>= _) _ _ _
 refine wpAny_bind (wpAny_pure (wpAny_pure ⟨rfl,h _ _ (u3 _ g0 rfl) ⟨rfl,rfl,rfl⟩ rfl λb u e=>?_⟩))
 rw[B3 _ _ _ _ (Y0 (J0 e))]
 exact i0 _ e
end
noncomputable def rDictCp(K:n0):List V->Hp->VK->Prop:=λxs H Q=>∃(d d':Addr) (ep:Nat) (ys:List (List Int×Addr×V)),xs=[.ref d]/\H d=some (extD hL d' ep ys)/\ys≠[]/\(ys.map λy=>hL y.1).Nodup/\(∀y∈ys,H y.2.1=some (.tup (y.1.map V.int))) /\
 ∀l,H l=none->Q (.ref l) (upd H l (extD hL l 1 ys))
theorem call_dictCp{X:Cx}{K:n0}(hK:X.K=K):CallR X (.type "dict") (rDictCp K):=by
 intro pins s σ H xs us Q I r h
 obtain⟨d,d',ep,ys,rfl,hd,hne,hh,hky,q⟩:=h
 obtain⟨u,rfl,ru⟩:=vals1 r
 cases ru
 obtain⟨vs,o,es,pr,e1,e2,e3,e4,hz,nd,hl,hm⟩:=ext_at I hd
 have hlv:=prd_len pr
 refine dict_copy hm e1 e2 e3 (λz=>?_) (by rw[hz];exact hl) (λe he=>?_) ?_ λh' o' g1 g2 g3 kp=>?_
 ·have:=congrArg S4 z
  rw[S1,hz]at this
  exact hne (i8.mp this)
 ·rw[e4]at he
  obtain⟨v,hv,rfl⟩:=A1.mp he
  obtain⟨x,hx,r1,r2,r3⟩:=prd_mem pr v hv
  obtain⟨_,its,r,ob,h1,h2,_⟩:=(show ObjOk X.prog X.w H s.heap x.2.1 (.tup (x.1.map V.int)) from I.hok _ _ (hky x hx))
  exact ⟨v.2.1,rfl,by rw[<- r2];exact ⟨ob,h1,h2⟩⟩
 ·rw[e4,S0]
  have:(vs.map ((λx:DictEntry=>x.hash) ∘ λx=>⟨hL x.1,X1 x.2.1,x.2.2⟩))=ys.map λy=>hL y.1:=by
   show (vs.map λx=>hL x.1)=_
   have e5:=prd_keys pr
   calc vs.map (λx=>hL x.1)=(vs.map (·.1)).map hL:=by rw[S0];rfl
    _=(ys.map (·.1)).map hL:=by rw[e5]
    _=_:=by rw[S0];rfl
  rw[this]
  exact hh
 ·have hfr:H s.heap.objs.size=none:=I.hok.fresh (A0 _)
  have hb:(s.heap.objs.size==sysModules)=false:=beq_eq_false_iff_ne.mpr (v3 (Y0 I.big))
  refine ⟨.ref s.heap.objs.size,_,I.laid (t':=s.toks) kp (A0 _) (show ObjOk X.prog X.w _ h' _ (extD hL s.heap.objs.size 1 ys) from ⟨⟨⟨vs,pr,o',es,g1,g2,g3,e4⟩,nd,hl,hb⟩,⟨o',g1⟩,λh1 h2 z k=>?_⟩),rfl,q _ hfr⟩
  obtain⟨⟨vs,r,o,es,g1,g2⟩,g3⟩:=z
  exact ⟨⟨vs,r,o,es,k _ g1,g2⟩,g3⟩
end L2
namespace L3
open PySem PySem.Spec PyProof.Rows L2
noncomputable def fDictCp(d:D)(Q:Sl->Prop):Prop:=∃ps:List (List Int×D),d=pdD ps/\ps≠[]/\(ps.map λp=>hL p.1).Nodup/\Q (.ow (pdD ps))
theorem ok_dictCp{K:Fg}:OpOk K (rDictCp K) (o1 fDictCp):=ok1 λG F σ H ρ x d Q Qd R h1 w k=>by
 obtain⟨ps,rfl,hne,hh,w⟩:=w
 obtain⟨b,b',ep,ys,qs,rfl,hd,dq,e⟩:=pd_at R.sub h1
 have e2:qs=ps:=pd_inj (by unfold pdD;rw[e])
 subst e2
 have hl:=dq.length
 have ek:=dq.keys
 refine ⟨b,b',ep,ys,rfl,hd,λz=>hne (i8.mp (by rw[<- hl,z];rfl)),?_,λy hy=>R.sub _ _ (dq.at y hy),λl hn=>?_⟩
 ·have:(ys.map λy=>hL y.1)=qs.map λp=>hL p.1:=by
   calc ys.map (λx=>hL x.1)=(ys.map (·.1)).map hL:=by rw[S0];rfl
    _=(qs.map (·.1)).map hL:=by rw[ek]
    _=_:=by rw[S0];rfl
  rw[this]
  exact hh
 ·obtain⟨R',r'⟩:=R.newOw (o:=extD hL l 1 ys) (d:=pdD qs) hn (Own1.pd dq)
  exact k _ _ F _ (Sub.refl _) R' r' w
end L3
namespace L2
open PySem PySem.Spec PyProof.Rows
noncomputable def rIsiP(K:n0):List V->Hp->VK->Prop:=λxs H Q=>rIsi2 K xs H Q\/∃(a a':Addr) (ep:Nat) (ys:List (List Int×Addr×V)) (T:Ki),xs=[.ref a,.ty T.nm]/\H a=some (extD hL a' ep ys)/\Q (.bl (Ki.dct.sub T)) H
theorem call_isiP{X:Cx}:CallR X (.builtin "isinstance") (rIsiP X.K):=by
 intro pins s σ H xs us Q I r h
 rcases h with h|⟨a,a',ep,ys,T,rfl,hd,q⟩
 ·exact call_isi2 pins s σ H xs us Q I r h
 ·obtain⟨u,w',rfl,ru,rw'⟩:=vals2 r
  obtain rfl:w'=.type T.nm:=rw'
  cases ru
  obtain⟨vs,o,es,pr,e1,e2,e3,e4,_⟩:=ext_at I hd
  have ht:s.TypeIs (.ref a) Ki.dct.nm:=⟨o,e1,e2.1⟩
  cases hs:Ki.dct.sub T with
  | true =>
   rw[hs]at q
   exact call_isinstance (isinstance_true (Tx:=Ki.dct.nm) (ki_meta T) (by rw[ki_sub,hs])) ⟨ht,.bl true,H,I,rfl,q⟩
  | false =>
   rw[hs]at q
   have hsub:isSubtype (.type Ki.dct.nm) (.type T.nm)=pure false:=by rw[ki_sub,hs]
   have hne:=ki_ne Ki.dct T hs
   have fin:EP X pins σ Q (.bool false) { s with toks:=s.toks+1 }:=⟨.bl false,H,I.tok _,rfl,q⟩
   exact call_isinstance (isinstance_false_dict hne (ki_meta T) hsub) ⟨ht,fin⟩
end L2
namespace L3
open PySem PySem.Spec PyProof.Rows L2
noncomputable def fIsiP(T:Ki)(d:D)(Q:Sl->Prop):Prop:=fIsiA T d Q\/∃ps:List (List Int×D),d=pdD ps/\Q (.fz (.bool (Ki.dct.sub T)))
theorem ok_isiP{K:Fg}{T:Ki}:OpOk K (λvs H Q=>∃x,vs=[x]/\rIsiP K [x,.ty T.nm] H Q) (o1 (fIsiP T)):=ok1 λG F σ H ρ x d Q Qd R h1 w k=>by
 rcases w with w|⟨ps,rfl,w⟩
 ·obtain⟨x',e,q⟩:=ok_isiA (T:=T) G F σ H ρ [x] [d] Q Qd R (.cons h1 .nil) w k
  exact ⟨x',e,.inl q⟩
 ·obtain⟨b,b',ep,ys,qs,rfl,hd,_,_⟩:=pd_at R.sub h1
  exact ⟨_,rfl,.inr ⟨b,b',ep,ys,T,rfl,hd,k _ H F (.fz _) (Sub.refl _) R (Da.bl _) w⟩⟩
section
variable {X:Cx}{K:Fg}{e e1:Expr}{a:AD}{p pos p2:Pos}
theorem w_isiP(T:Ki)(hK:X.K=K)(hm:X.mg "isinstance"=none){y:Str}(hm2:X.mg y=none)(hv2:bootBuiltins y=some (.type T.nm))(ha:WE X e1 (argT K a))(hg:Gl X "isinstance":=by rfl)(hg2:Gl X y:=by rfl)(hy:y ≠ "__name__":=by decide)(hy2:(y==("__debug__":Str))=false:=by decide)(he:notStar e1=true:=by rfl) :
  WE X (.Call (.Name "isinstance" p) [e1,.Name y p2] [] pos) (lift K (dOp [a] (o1 (fIsiP T)))):=by
 subst hK
 exact ⟨peM (pe_callB call_isiP hg hm boot_isinstance (pa_cons ha.h (pa_cons (pe_bltn hg2 hm2 hv2 (v:=.ty T.nm) rfl hy hy2) pa_nil (starEach_of rfl)) (starEach_of he)) (by decide) (by decide) (starEach_of he) (plain_of rfl)) λq=>arg1 (P:=λx H1=>rIsiP X.K [x,.ty T.nm] H1 _) (l_op ok_isiP q)⟩
end
end L3
namespace R29
open PySem L2 L3 PyProof.Rows
noncomputable def top(i:Nat):Stmt:=PySem.Challenge.pw_boxsums_k29_entries_spoilt.main.body.getD i (.Pass ⟨0,0,0,0⟩)
structure Txt(mg:Str->Option Value):Prop where
 len_:mg "len"=none
 max_:mg "max"=none
 min_:mg "min"=none
 all_:mg "all"=none
 isinstance_:mg "isinstance"=none
 tuple_:mg "tuple"=none
 list_:mg "list"=none
 int_:mg "int"=none
 bool_:mg "bool"=none
 range_:mg "range"=none
 zip_:mg "zip"=none
 enumerate_:mg "enumerate"=none
 repr_:mg "repr"=none
 sorted_:mg "sorted"=none
 sum_:mg "sum"=none
 dict_:mg "dict"=none
section
variable {P:Program}{w:World}{K:n0}{mg:Str->Option Value}{base:Heap}
noncomputable abbrev liD(l:List Int):PyData:=.list (l.map G0)
noncomputable abbrev penD(a b c:Int):PyData:=.list [.int a,.int b,.int c]
noncomputable def cPen:Con:=λargs Q=>∃(ns:List Int) (k:Int),args=[.fz (scrD ns),.fz (.int k)]/\0<=k/\k<=1000/\∀(a b:Int) (o:Ev),0<=a->0<=b->Q (.ow (penD a b 0)) o
theorem scPen:FnScope ["_law_script","_law_k","_law_cell"] ["_law_script","_law_k"] (defScope (top 19)):=⟨rfl,rfl,rfl,by decide +kernel,rfl,by decide +kernel,by decide +kernel⟩
theorem ok_pen{f:Addr}{fd:FuncData}(F:Fun K "_law_pen" "_law_pen" (top 19) f fd)(T:Txt mg):FnOk P w K mg base CX0 1 f fd ["_law_script","_law_k"] (conSp K cPen):=by
 have S:=scPen
 refine wfn F S (λcdv A outer s H E hr=>(s_cons (s_set (i:=2) S.nd rfl (Or.inl rfl) w_int)
     (s_cons (s_if (t_cmp ok_gt op_gt (wx (w_callB ok_len (call_lenK (K:=K) rfl) T.len_ PySem.boot_len (wa_cons (wn 0) wa_nil))) (wx w_int)) (s_one (s_set (i:=2) S.nd rfl (Or.inl rfl) (w_ix rfl (wn 0) (wx (w_bin ok_mod op_mod (wn 1) (wx (w_callB ok_len (call_lenK (K:=K) rfl) T.len_ PySem.boot_len (wa_cons (wn 0) wa_nil)))))))) s_nil)
     (s_cons (s_if (t_w (t_and (t_cmp ok_lt op_lt (wn 1) (wx (w_callB ok_len (call_lenK (K:=K) rfl) T.len_ PySem.boot_len (wa_cons (wn 0) wa_nil)))) (t_and1 (t_cmp ok_ge op_ge (wn 2) (wx (w_bin ok_pow op_pow (wx w_int) (wx w_int))))))) (s_one (s_ret (w_lst (wa_cons (wx (wv 2)) (wa_cons (wx w_int) (wa_cons (wx w_int) wa_nil)))))) s_nil)
     (s_one (s_ret (w_lst (wa_cons (wx w_int) (wa_cons (wx (w_bin ok_add op_addD (wx (w_bin ok_mod op_mod (wn 2) (wx w_int))) (wx (w_bin ok_mul op_mulD (wx w_int) (wn 1))))) (wa_cons (wx w_int) wa_nil)))))))))) ?_ ?_
 ·rintro args Qd ⟨ns,k,rfl,_⟩;rfl
 ·rintro args Qd ⟨ns,k,rfl,k0,k1,q⟩
  have fin:∀(c:Int) (o:Ev),Qd (.ow (penD 0 (c % 999999937+70001 * k) 0)) o:=λc o=>by
   have:=p7 c (show (999999937:Int)≠0 by decide)
   exact q _ _ _ (by decide) (by omega)
  refine ⟨noOw_of rfl,?_⟩
  refine ⟨ns,rfl,?_⟩
  refine ite2 (λh1=>?_) (λh1=>?_)
  ·have hp:0 < ns.length:=by have:(0:Int) < (ns.length:Int):=of_decide_eq_true h1;omega
   have hb:=L7 k (show (0:Int) < ns.length by omega)
   have ha:=p7 k (show (ns.length:Int)≠0 by omega)
   obtain⟨j,hj⟩:=L1 ha
   have hjl:j < ns.length:=by omega
   refine ⟨ns,rfl,by show (0:Int) < (ns.length:Int);omega,ns,ns[j],rfl,by rw[hj];exact atI_nat (y0 hjl),?_⟩
   refine ⟨ns,rfl,?_⟩
   refine ite2 (λh3=>?_) (λh3=>?_)
   ·refine ⟨⟨by decide,by decide,by decide⟩,ite2 (λh4=>?_) (λh4=>?_)⟩
    ·have h4:(10:Int) ^ 18<=ns[j]:=of_decide_eq_true h4
     exact q _ _ _ (by omega) (by decide)
    ·exact ⟨by show (0:Int) < 999999937;decide,.inl ⟨by decide,by decide⟩,fin _ _⟩
   ·exact ⟨by show (0:Int) < 999999937;decide,.inl ⟨by decide,by decide⟩,fin _ _⟩
  ·refine ⟨ns,rfl,?_⟩
   refine ite2 (λh3=>?_) (λh3=>?_)
   ·exfalso
    have h3:k < (ns.length:Int):=of_decide_eq_true h3
    exact h1 (decide_eq_true (by omega))
   ·exact ⟨by show (0:Int) < 999999937;decide,.inl ⟨by decide,by decide⟩,fin _ _⟩
noncomputable def cDraw:Con:=λargs Q=>∃(a b c m:Int),args=[.io (penD a b c),.fz (.int m)]/\0<=a/\0<=b/\0<=c/\0 < m/\m < 1073741824 /\
 ∀(r a' b' c':Int) (o:Ev),0<=r->r < m->0<=a'->0<=b'->0<=c'->Q (.fz (.int r)) (some (.io (penD a' b' c')) :: o)
theorem scDraw:FnScope ["_law_pen_here","_law_many","_law_found","_law_number_here"] ["_law_pen_here","_law_many"] (defScope (top 20)):=⟨rfl,rfl,rfl,by decide +kernel,rfl,by decide +kernel,by decide +kernel⟩
theorem ok_draw{f:Addr}{fd:FuncData}(F:Fun K "_law_draw" "_law_draw" (top 20) f fd):FnOk P w K mg base CX0 1 f fd ["_law_pen_here","_law_many"] (conSp K cDraw):=by
 have S:=scDraw
 refine wfn F S (λcdv A outer s H E hr=>(s_cons (s_if (t_cmp ok_gt op_gt (wx (w_ix rfl (wn 0) (wx w_int))) (wx w_int)) (s_cons (s_set (i:=2) S.nd rfl (Or.inl rfl) (w_bin ok_mod op_mod (wx (w_ix rfl (wn 0) (wx w_int))) (wn 1)))
     (s_cons (s_ix (w_bin ok_fdiv op_fdiv (wx (w_ix rfl (wn 0) (wx w_int))) (wn 1)) (wn 0) (wx w_int))
     (s_one (s_retV (wn 2))))) s_nil)
     (s_cons (s_ix (w_bin ok_add op_addD (wx (w_ix rfl (wn 0) (wx w_int))) (wx w_int)) (wn 0) (wx w_int))
     (s_cons (s_set (i:=3) S.nd rfl (Or.inl rfl) (w_bin ok_mod op_mod (wx (w_bin ok_add op_addD (wx (w_bin ok_add op_addD (wx (w_bin ok_mul op_mulD (wx (w_ix rfl (wn 0) (wx w_int))) (wx w_int))) (wx (w_bin ok_mul op_mulD (wx (w_ix rfl (wn 0) (wx w_int))) (wx w_int))))) (wx w_int))) (wx w_int)))
     (s_cons (s_set (i:=3) S.nd rfl (Or.inl rfl) (w_bin ok_mod op_mod (wx (w_bin ok_mul op_mulD (wn 3) (wx (w_bin ok_add op_addD (wx (w_bin ok_mod op_mod (wn 3) (wx w_int))) (wx (w_ix rfl (wn 0) (wx w_int))))))) (wx w_int)))
     (s_one (s_ret (w_bin ok_mod op_mod (wx (w_bin ok_fdiv op_fdiv (wn 3) (wx w_int))) (wn 1))))))))) ?_ ?_
 ·rintro args Qd ⟨a,b,c,m,rfl,_⟩;rfl
 ·rintro args Qd ⟨a,b,c,m,rfl,ha,hb,hc,m0,m1,q⟩
  have hmd:∀x:Int,0<=x % m/\x % m < m:=λx=>⟨p7 _ (by omega),L7 _ m0⟩
  refine ⟨noOw_of rfl,?_⟩
  refine ⟨_,rfl,?_⟩
  refine ite2 (λh1=>?_) (λh1=>?_)
  ·refine ⟨_,rfl,m0,_,rfl,⟨m0,by omega⟩,0,rfl,?_⟩
   exact q _ _ _ _ _ (hmd _).1 (hmd _).2 (Int.ediv_nonneg ha (by omega)) hb hc
  refine ⟨_,rfl,2,rfl,?_⟩
  refine ⟨_,rfl,.inr ⟨by decide,by decide⟩,_,rfl,.inr ⟨by decide,by decide⟩,by show (0:Int) < 2147483647;decide,?_⟩
  have hx:∀x:Int,0<=x % 2147483647/\x % 2147483647 < 2147483647:=λx=>⟨p7 _ (by decide),L7 _ (by decide)⟩
  generalize ey:(b * 48271+(c+1) * 39373+11:Int) % 2147483647=y
  have hy:=hx (b * 48271+(c+1) * 39373+11)
  rw[ey]at hy
  refine ⟨by show (0:Int) < 65521;decide,_,rfl,.inl ⟨by omega,by omega⟩,by show (0:Int) < 2147483629;decide,?_⟩
  exact ⟨⟨by decide,by decide⟩,m0,q _ _ _ _ _ (hmd _).1 (hmd _).2 ha hb (by omega)⟩
noncomputable def Big(c:Int):Prop:=-(10 ^ 30) < c/\c < 10 ^ 30
structure CalsN(P:Program)(w:World)(K:n0)(mg:Str->Option Value)(base:Heap):Prop where
 law_draw:Cal P w K mg base 1 "_law_draw" ["_law_pen_here","_law_many"] (conSp K cDraw)
noncomputable def cNumber:Con:=λargs Q=>∃(a b c:Int),args=[.io (penD a b c)]/\0<=a/\0<=b/\0<=c /\
 ∀(r a' b' c':Int) (o:Ev),Big r->0<=a'->0<=b'->0<=c'->Q (.fz (.int r)) (some (.io (penD a' b' c')) :: o)
theorem scNumber:FnScope ["_law_pen_here","_law_way"] ["_law_pen_here"] (defScope (top 21)):=⟨rfl,rfl,rfl,by decide +kernel,rfl,by decide +kernel,by decide +kernel⟩
theorem ok_number{f:Addr}{fd:FuncData}(F:Fun K "_law_number" "_law_number" (top 21) f fd)(C:CalsN P w K mg base):FnOk P w K mg base CX0 2 f fd ["_law_pen_here"] (conSp K cNumber):=by
 have S:=scNumber
 refine wfn F S (λcdv A outer s H E hr=>(s_cons (s_set (i:=1) S.nd rfl (Or.inl rfl) (w_fnI C.law_draw (hr.mono (by first|decide|omega)) (wa_cons (wn 0) (wa_cons (wx w_int) wa_nil))))
     (s_cons (s_if (t_cmp ok_eq (op_eqE (K:=K) rfl hr.units) (wn 1) (wx w_int)) (s_one (s_ret (w_bin ok_mul op_mulD (wx (w_bin ok_add op_addD (wx (w_bin ok_pow op_pow (wx w_int) (wx w_int))) (wx (w_fnI C.law_draw (hr.mono (by first|decide|omega)) (wa_cons (wn 0) (wa_cons (wx w_int) wa_nil)))))) (wx (w_bin ok_sub op_sub (wx w_int) (wx (w_bin ok_mul op_mulD (wx w_int) (wx (w_fnI C.law_draw (hr.mono (by first|decide|omega)) (wa_cons (wn 0) (wa_cons (wx w_int) wa_nil))))))))))) s_nil)
     (s_cons (s_if (t_cmp ok_gt op_gt (wn 1) (wx w_int)) (s_one (s_ret (w_bin ok_sub op_sub (wx (w_fnI C.law_draw (hr.mono (by first|decide|omega)) (wa_cons (wn 0) (wa_cons (wx w_int) wa_nil)))) (wx w_int)))) s_nil)
     (s_one (s_ret (w_bin ok_sub op_sub (wx (w_fnI C.law_draw (hr.mono (by first|decide|omega)) (wa_cons (wn 0) (wa_cons (wx w_int) wa_nil)))) (wx w_int)))))))) ?_ ?_
 ·rintro args Qd ⟨a,b,c,rfl,_⟩;rfl
 ·rintro args Qd ⟨a,b,c,rfl,ha,hb,hc,q⟩
  refine ⟨noOw_of rfl,?_⟩
  refine ⟨a,b,c,_,rfl,ha,hb,hc,by decide,by decide,λr a1 b1 c1 _ r0 r1 ha1 hb1 hc1=>?_⟩
  refine ite2 (λh1=>?_) (λh1=>?_)
  ·refine ⟨⟨by decide,by decide,by decide⟩,?_⟩
   refine ⟨a1,b1,c1,_,rfl,ha1,hb1,hc1,by decide,by decide,λu a2 b2 c2 _ u0 u1 ha2 hb2 hc2=>?_⟩
   refine ⟨a2,b2,c2,_,rfl,ha2,hb2,hc2,by decide,by decide,λv a3 b3 c3 _ v0 v1 ha3 hb3 hc3=>?_⟩
   refine ⟨.inl ⟨by decide,by decide⟩,.inr ⟨by omega,by omega⟩,?_⟩
   refine q _ _ _ _ _ ?_ ha3 hb3 hc3
   show Big ((10 ^ 29+u) * (1 - 2 * v))
   have:v=0\/v=1:=by omega
   rcases this with rfl|rfl
   ·exact ⟨by omega,by omega⟩
   ·exact ⟨by omega,by omega⟩
  refine ite2 (λh2=>?_) (λh2=>?_)
  ·refine ⟨a1,b1,c1,_,rfl,ha1,hb1,hc1,by decide,by decide,λu a2 b2 c2 _ u0 u1 ha2 hb2 hc2=>?_⟩
   exact q _ _ _ _ _ ⟨by omega,by omega⟩ ha2 hb2 hc2
  ·refine ⟨a1,b1,c1,_,rfl,ha1,hb1,hc1,by decide,by decide,λu a2 b2 c2 _ u0 u1 ha2 hb2 hc2=>?_⟩
   exact q _ _ _ _ _ ⟨by omega,by omega⟩ ha2 hb2 hc2
structure CalsR(P:Program)(w:World)(K:n0)(mg:Str->Option Value)(base:Heap):Prop where
 law_draw:Cal P w K mg base 1 "_law_draw" ["_law_pen_here","_law_many"] (conSp K cDraw)
 law_number:Cal P w K mg base 2 "_law_number" ["_law_pen_here"] (conSp K cNumber)
noncomputable def cRow:Con:=λargs Q=>∃(a b c m:Int),args=[.io (penD a b c),.fz (.int m)]/\0<=a/\0<=b/\0<=c/\0 < m/\m<=100 /\
 ∀(xs:List Int) (a' b' c':Int) (o:Ev),(∀x∈xs,Big x)->1<=xs.length->(xs.length:Int)<=m->0<=a'->0<=b'->0<=c'->Q (.ow (liD xs)) (some (.io (penD a' b' c')) :: o)
theorem scRow:FnScope ["_law_pen_here","_law_most"] ["_law_pen_here","_law_most"] (defScope (top 22)):=⟨rfl,rfl,rfl,by decide +kernel,rfl,by decide +kernel,by decide +kernel⟩
theorem ok_row{f:Addr}{fd:FuncData}(F:Fun K "_law_row" "_law_row" (top 22) f fd)(T:Txt mg)(C:CalsR P w K mg base):FnOk P w K mg base CX0 3 f fd ["_law_pen_here","_law_most"] (conSp K cRow):=by
 have S:=scRow
 refine wfn F S (λcdv A outer s H E hr=>(s_one (s_ret (w_comp rfl (own:=["_law_k"]) (fr:=[0]) (by kernel_rfl) (i_rng1 T.range_ (wa_cons (wx (w_bin ok_add op_addD (wx w_int) (wx (w_fnI C.law_draw (hr.mono (by first|decide|omega)) (wa_cons (wn 0) (wa_cons (wn 1) wa_nil)))))) wa_nil)) (λ_ _ _ _=>(g_name (i:=0) (by decide +kernel:U4 (["_law_k","_law_pen_here"]:List Str)) rfl (Or.inl rfl))) (λ_ _ _ _=>if0) (λ_ _ _ _=>(w_fnI C.law_number (hr.mono (by first|decide|omega)) (wa_cons (wn 1) wa_nil))))))) ?_ ?_
 ·rintro args Qd ⟨a,b,c,m,rfl,_⟩;rfl
 ·rintro args Qd ⟨a,b,c,m,rfl,ha,hb,hc,hm0,hm1,q⟩
  refine ⟨noOw_of rfl,?_⟩
  refine ⟨a,b,c,m,rfl,ha,hb,hc,hm0,by omega,λr a1 b1 c1 _ r0 r1 ha1 hb1 hc1=>?_⟩
  have hL:(rangeD 0 (1+r).toNat).length=(1+r).toNat:=by rw[rangeD,j0,V7]
  refine ⟨by omega,by omega,by rw[hL];exact le_size (by omega),compN (λrest acc τ=>∃(cs:List Int) (a4 b4 c4:Int),acc=cs.map G0/\cs.length+rest.length=(1+r).toNat/\(∀c∈cs,Big c)/\τ=[none,some (.io (penD a4 b4 c4))]/\0<=a4/\0<=b4/\0<=c4) ?_ ?_ ⟨[],a1,b1,c1,rfl,by rw[hL];exact V5 _,λc hc=>(by cases hc),rfl,ha1,hb1,hc1⟩⟩
  ·rintro d ds acc τ ⟨cs,a4,b4,c4,rfl,hlen,hB,rfl,ha4,hb4,hc4⟩ N' hN'
   refine ⟨a4,b4,c4,rfl,ha4,hb4,hc4,λx a5 b5 c5 _ hx ha5 hb5 hc5=>?_⟩
   refine hN' _ _ ⟨cs++[x],a5,b5,c5,by simp[Sl.d],by simp at hlen ⊢;omega,λc hc=>?_,rfl,ha5,hb5,hc5⟩
   rcases R0.mp hc with z|z
   ·exact hB c z
   ·rw[U0.mp z];exact hx
  ·rintro acc τ ⟨cs,a4,b4,c4,rfl,hlen,hB,rfl,ha4,hb4,hc4⟩
   have hlen:cs.length=(1+r).toNat:=by simpa using hlen
   exact q cs a4 b4 c4 _ hB (by omega) (by omega) ha4 hb4 hc4
end
open PySem PySem.Spec L2 L3 PyProof.Rows
noncomputable def hl(lo hi:Int):List (List Int):=[lo,hi] :: if h:lo < hi then hl ((lo+hi) / 2+1) hi++hl lo ((lo+hi) / 2) else []
termination_by (hi - lo).toNat
decreasing_by all_goals omega
theorem hl_lt{lo hi:Int}(h:lo < hi):hl lo hi=[lo,hi] :: (hl ((lo+hi) / 2+1) hi++hl lo ((lo+hi) / 2)):=by rw[hl,dif_pos h]
theorem hl_ge{lo hi:Int}(h:¬lo < hi):hl lo hi=[[lo,hi]]:=by rw[hl,dif_neg h]
theorem hl_len:∀(n:Nat) (lo hi:Int),(hi - lo).toNat=n->lo<=hi->((hl lo hi).length:Int)=2 * (hi - lo+1) - 1:=by
 intro n
 induction n using m4 with
 | _ n ih =>
  intro lo hi e h
  by_cases hlt:lo < hi
  ·rw[hl_lt hlt,B2,B0]
   have h1:=ih _ (by omega) ((lo+hi) / 2+1) hi rfl (by omega)
   have h2:=ih _ (by omega) lo ((lo+hi) / 2) rfl (by omega)
   omega
  ·rw[hl_ge hlt]
   simp
   omega
noncomputable abbrev prD(p:Int×Int):PyData:=.tuple [.int p.1,.int p.2]
noncomputable abbrev rwD(r:List Int):PyData:=.tuple (r.map G0)
noncomputable def pile(wt:List (Int×Int)):List (List Int):=wt.reverse.flatMap λp=>hl p.1 p.2
theorem pile_snoc(wt:List (Int×Int))(p:Int×Int):pile (wt++[p])=hl p.1 p.2++pile wt:=by simp[pile]
theorem hl_pos(a b:Int):1<=(hl a b).length:=by rw[hl];simp
theorem pile_len(wt:List (Int×Int)):wt.length<=(pile wt).length:=by
 induction wt with
 | nil=>simp
 | cons p wt ih =>
  have e:pile (p :: wt)=pile wt++hl p.1 p.2:=by simp[pile]
  have:=hl_pos p.1 p.2
  rw[e,B0,B2]
  omega
theorem hl_ne:∀(n:Nat) (lo hi:Int),(hi - lo).toNat=n->∀r∈hl lo hi,r≠[]:=by
 intro n
 induction n using m4 with
 | _ n ih =>
  intro lo hi e r hr
  by_cases hlt:lo < hi
  ·rw[hl_lt hlt]at hr
   rcases X0.mp hr with rfl|hr
   ·simp
   ·rcases R0.mp hr with hr|hr
    ·exact ih _ (by omega) _ _ rfl r hr
    ·exact ih _ (by omega) _ _ rfl r hr
  ·rw[hl_ge hlt]at hr
   simp at hr
   subst hr
   simp
theorem hl_in:∀(n:Nat) (lo hi:Int),(hi - lo).toNat=n->lo<=hi->∀r∈hl lo hi,∃a b:Int,r=[a,b]/\lo<=a/\a<=b/\b<=hi:=by
 intro n
 induction n using m4 with
 | _ n ih =>
  intro lo hi e h r hr
  by_cases hlt:lo < hi
  ·rw[hl_lt hlt]at hr
   rcases X0.mp hr with rfl|hr
   ·exact ⟨lo,hi,rfl,by omega,by omega,by omega⟩
   ·rcases R0.mp hr with hr|hr
    ·obtain⟨a,b,e,h1,h2,h3⟩:=ih _ (by omega) _ _ rfl (by omega) r hr
     exact ⟨a,b,e,by omega,h2,by omega⟩
    ·obtain⟨a,b,e,h1,h2,h3⟩:=ih _ (by omega) _ _ rfl (by omega) r hr
     exact ⟨a,b,e,by omega,h2,by omega⟩
  ·rw[hl_ge hlt]at hr
   simp at hr
   subst hr
   exact ⟨lo,hi,rfl,by omega,by omega,by omega⟩
noncomputable def srtL{α:Type}(lt:α->α->Bool)(l:List α):List α:=l.mergeSort λa b=>!lt b a
theorem srtL_perm{α:Type}(lt:α->α->Bool)(l:List α):(srtL lt l).Perm l:=List.mergeSort_perm _ _
theorem srtL_up{α:Type}{lt:α->α->Bool}(h:SG.Wk lt)(l:List α):(srtL lt l).Pairwise λa b=>lt b a=false:=by
 have:=List.pairwise_mergeSort (le:=λa b=>!lt b a) (λa b c h1 h2=>by
   simp only[T7]at h1 h2 ⊢
   exact h.nt c b a h2 h1) (λa b=>by
   cases e1:lt b a with
   | false=>rfl
   | true =>
     cases e2:lt a b with
     | false=>rfl
     | true=>have:=h.tr _ _ _ e1 e2;rw[h.irr]at this;cases this) l
 exact this.imp λ{a b} z=>by simpa using z
noncomputable def strS(n:Int):List (List Int):=srtL HT.lexLt (hl 0 (n - 1))
theorem strS_eq{n:Int}{rows:List (List Int)}(h1:rows.Perm (hl 0 (n - 1)))(h2:rows.Pairwise λa b=>HT.lexLt b a=false):rows=strS n :=
 SG.sorted_uniq (lt:=HT.lexLt) (λa b=>SG.lex_eq) (h1.trans (srtL_perm _ _).symm) h2 (srtL_up SG.lex_wk _)
theorem strS_mem{n:Int}{r:List Int}:r∈strS n ↔ r∈hl 0 (n - 1):=(srtL_perm _ _).mem_iff
noncomputable def prI(r:List Int):Int×Int:=(r.getD 0 0,r.getD 1 0)
noncomputable def strP(n:Int):List (Int×Int):=(strS n).map prI
theorem strP_row{n:Int}(h:1<=n):(strS n).map rwD=(strP n).map prD:=by
 unfold strP
 rw[S0]
 refine Q2 λr hr=>?_
 obtain⟨a,b,rfl,_⟩:=hl_in _ 0 (n - 1) rfl (by omega) r (strS_mem.mp hr)
 rfl
theorem strP_in{n:Int}(h:1<=n){p:Int×Int}(hp:p∈strP n):[p.1,p.2]∈hl 0 (n - 1)/\0<=p.1/\p.1<=p.2/\p.2 < n:=by
 obtain⟨r,hr,rfl⟩:=A1.mp hp
 have hr:=strS_mem.mp hr
 obtain⟨a,b,rfl,h1,h2,h3⟩:=hl_in _ 0 (n - 1) rfl (by omega) r hr
 exact ⟨hr,h1,h2,by show b < n;omega⟩
theorem strP_of{n:Int}{a b:Int}(h:[a,b]∈hl 0 (n - 1)):(a,b)∈strP n:=A1.mpr ⟨[a,b],strS_mem.mpr h,rfl⟩
theorem strP_len{n:Int}(h:1<=n):((strP n).length:Int)=2 * n - 1:=by
 unfold strP strS
 rw[j0,(srtL_perm _ _).length_eq]
 have:=hl_len _ 0 (n - 1) rfl (by omega)
 omega
section
variable {P:Program}{w:World}{K:n0}{mg:Str->Option Value}{base:Heap}
noncomputable def cTwo:Con:=λargs Q=>∃a b:Int,args=[.fz (prD (a,b))]/\0<=a/\0<=b/\a<=10000/\b<=10000/\∀o,Q (.ow (.list [prD (a,(a+b) / 2),prD ((a+b) / 2+1,b)])) o
theorem scTwo:FnScope ["stretch","middle"] ["stretch"] (defScope (top 1)):=⟨rfl,rfl,rfl,by decide +kernel,rfl,by decide +kernel,by decide +kernel⟩
theorem ok_two{f:Addr}{fd:FuncData}(F:Fun K "two_halves" "two_halves" (top 1) f fd):FnOk P w K mg base CX0 1 f fd ["stretch"] (conSp K cTwo):=by
 have S:=scTwo
 refine wfn F S (λcdv A outer s H E hr=>(s_cons (s_set (i:=1) S.nd rfl (Or.inl rfl) (w_bin ok_fdiv op_fdiv (wx (w_bin ok_add op_addD (wx (w_ix rfl (wn 0) (wx w_int))) (wx (w_ix rfl (wn 0) (wx w_int))))) (wx w_int)))
     (s_one (s_ret (w_lst (wa_cons (wx (w_tup (wa_cons (wx (w_ix rfl (wn 0) (wx w_int))) (wa_cons (wx (wv 1)) wa_nil)))) (wa_cons (wx (w_tup (wa_cons (wx (w_bin ok_add op_addD (wn 1) (wx w_int))) (wa_cons (wx (w_ix rfl (wn 0) (wx w_int))) wa_nil)))) wa_nil))))))) ?_ ?_
 ·rintro args Qd ⟨a,b,rfl,_⟩;rfl
 ·rintro args Qd ⟨a,b,rfl,a0,b0,a1,b1,q⟩
  refine ⟨noOw_of rfl,?_⟩
  refine ⟨_,rfl,_,rfl,⟨by decide,by decide⟩,?_⟩
  refine ⟨_,rfl,_,rfl,?_⟩
  exact q _
structure CalsS(P:Program)(w:World)(K:n0)(mg:Str->Option Value)(base:Heap):Prop where
 two_halves:Cal P w K mg base 1 "two_halves" ["stretch"] (conSp K cTwo)
noncomputable def cStr:Con:=λargs Q=>∃n:Int,args=[.fz (.int n)]/\1<=n/\n<=31/\∀o,Q (.ow (.list ((strP n).map prD))) o
theorem scStr:FnScope ["side","found","waiting","stretch"] ["side"] (defScope (top 2)):=⟨rfl,rfl,rfl,by decide +kernel,rfl,by decide +kernel,by decide +kernel⟩
theorem ok_str{f:Addr}{fd:FuncData}(F:Fun K "stretches" "stretches" (top 2) f fd)(T:Txt mg)(C:CalsS P w K mg base):FnOk P w K mg base CX0 2 f fd ["side"] (conSp K cStr):=by
 have S:=scStr
 refine wfn F S (λcdv A outer s H E hr=>(s_cons (s_set (i:=1) S.nd rfl (Or.inl rfl) (w_lst wa_nil))
     (s_cons (s_set (i:=2) S.nd rfl (Or.inl rfl) (w_lst (wa_cons (wx (w_tup (wa_cons (wx w_int) (wa_cons (wx (w_bin ok_sub op_sub (wn 0) (wx w_int))) wa_nil)))) wa_nil)))
     (s_cons (s_while PassesOwn.never (t_cmp ok_gt op_gt (wx (w_callB ok_len (call_lenK (K:=K) rfl) T.len_ PySem.boot_len (wa_cons (wn 2) wa_nil))) (wx w_int)) (s_cons (s_set (i:=3) S.nd rfl (Or.inl rfl) (w_m0 ok_pop rfl PySem.F.slot_list_pop PySem.F.type_list_pop mt_pop (wn 2)))
     (s_cons (s_expr (w_m ok_append rfl PySem.F.slot_list_append PySem.F.type_list_append mt_append (wn 1) (wa_cons (wx (wv 3)) wa_nil)))
     (s_one (s_if (t_cmp ok_lt op_lt (wx (w_ix rfl (wn 3) (wx w_int))) (wx (w_ix rfl (wn 3) (wx w_int)))) (s_one (s_expr (w_m ok_extend rfl PySem.F.slot_list_extend PySem.F.type_list_extend mt_extend (wn 2) (wa_cons (wx (w_fn C.two_halves (hr.mono (by first|decide|omega)) (wa_cons (wn 3) wa_nil))) wa_nil)))) s_nil)))))
     (s_one (s_ret (w_callB ok_sortT64 (call_sortTK64 rfl) T.sorted_ boot_sorted (wa_cons (wn 1) wa_nil)))))))) ?_ ?_
 ·rintro args Qd ⟨n,rfl,_⟩;rfl
 ·rintro args Qd ⟨n,rfl,n1,n2,q⟩
  refine ⟨noOw_of rfl,?_⟩
  have hlen:=hl_len _ 0 (n - 1) rfl (by omega)
  refine ⟨λm ρ=>∃(dn:List (List Int)) (wt:List (Int×Int)) (x:Option Sl),ρ=[some (.fz (.int n)),some (.ow (.list (dn.map rwD))),some (.ow (.list (wt.map prD))),x]/\dn++pile wt=hl 0 (n - 1)/\(∀p∈wt,0<=p.1/\p.1<=p.2/\p.2<=1000)/\m=(pile wt).length/\(x=none\/∃d,x=some (.fz d)),⟨_,[],[(0,n - 1)],none,rfl,by simp[pile],by simp;omega,rfl,.inl rfl⟩,?_⟩
  rintro m ρ ⟨dn,wt,x,rfl,hp,hw,rfl,hx⟩
  rcases hx with rfl|⟨xd,rfl⟩
  all_goals
   refine ite2 (λh=>?_) (λh=>?_)
   ·refine ⟨λρ'=>∃m',m' < (pile wt).length/\_,λρ' h=>h,?_⟩
    obtain⟨wt',p,rfl⟩:∃wt' p,wt=wt'++[p]:=by
     rcases y8 wt with e|⟨a,b,e⟩
     ·subst e;simp at h
     ·exact ⟨a,b,by simpa using e⟩
    have e1:((wt'++[p]).map prD)[((wt'++[p]).map prD).length - 1]?=some (prD p):=by simp
    have e2:((wt'++[p]).map prD).dropLast=wt'.map prD:=by simp
    have ea:(dn++[[p.1,p.2]]).map rwD=dn.map rwD++[prD p]:=by rw[O3];rfl
    have eb:(wt'++[(p.1,(p.1+p.2) / 2),((p.1+p.2) / 2+1,p.2)]).map prD=wt'.map prD++[prD (p.1,(p.1+p.2) / 2),prD ((p.1+p.2) / 2+1,p.2)]:=by rw[O3];rfl
    have hpp:=hw p (by simp)
    have hw':∀p∈wt',0<=p.1/\p.1<=p.2/\p.2<=1000:=λx hx=>hw x (by simp[hx])
    rw[pile_snoc]at hp ⊢
    have hL:=congrArg S4 hp
    rw[B0,B0]at hL
    have hwl:wt'.length<=(pile wt').length:=pile_len wt'
    refine ⟨_,e1,?_⟩
    rw[e2]
    refine ⟨by rw[j0];exact Q1 (show dn.length<=1999 by omega) (by decide),?_⟩
    refine ⟨_,rfl,_,rfl,ite2 (λh3=>?_) (λh3=>?_)⟩
    ·have h3:p.1 < p.2:=of_decide_eq_true h3
     refine ⟨p.1,p.2,rfl,by omega,by omega,by omega,by omega,λo=>?_⟩
     refine ⟨by rw[j0];exact Q0 (show wt'.length+2<=3000 by omega) (by decide),?_⟩
     rw[hl_lt h3]at hp hL ⊢
     refine ⟨(pile (wt'++[(p.1,(p.1+p.2) / 2),((p.1+p.2) / 2+1,p.2)])).length,?_,dn++[[p.1,p.2]],wt'++[(p.1,(p.1+p.2) / 2),((p.1+p.2) / 2+1,p.2)],_,by rw[ea,eb];rfl,?_,?_,rfl,.inr ⟨_,rfl⟩⟩
     ·simp[pile]
     ·rw[<- hp];simp[pile]
     ·intro x hx
      simp only[R0,X0,Q4,or_false]at hx
      rcases hx with hx|rfl|rfl
      ·exact hw' x hx
      ·exact ⟨by omega,by show p.1<=(p.1+p.2) / 2;omega,by show (p.1+p.2) / 2<=1000;omega⟩
      ·exact ⟨by show 0<=(p.1+p.2) / 2+1;omega,by show (p.1+p.2) / 2+1<=p.2;omega,by show p.2<=1000;omega⟩
    ·have h3:¬p.1 < p.2:=λz=>h3 (decide_eq_true z)
     rw[hl_ge h3]at hp hL ⊢
     refine ⟨(pile wt').length,by simp,dn++[[p.1,p.2]],wt',_,by rw[ea];rfl,?_,hw',rfl,.inr ⟨_,rfl⟩⟩
     rw[<- hp];simp
   ·have e:wt=[]:=by
     cases wt with
     | nil=>rfl
     | cons a b=>exact absurd (decide_eq_true (by simp)) h
    subst e
    have hp:dn=hl 0 (n - 1):=by simpa [pile]using hp
    subst hp
    refine ⟨hl 0 (n - 1),rfl,by omega,hl_ne _ _ _ rfl,λrows r1 r2=>?_⟩
    rw[strS_eq r1 r2,strP_row n1]
    exact q _
end
section
variable {P:Program}{w:World}{K:n0}{mg:Str->Option Value}{base:Heap}
theorem wt_nice(wt:List (Int×Int)):Nice 2 (.list (wt.map prD)):=.list λd hd=>by
 obtain⟨p,_,rfl⟩:=A1.mp hd
 exact Nice.tup [p.1,p.2]
theorem wt_mix(wt:List (Int×Int)):SeqAt.noMix (.list (wt.map prD)) (.list [])=true:=by cases wt<;>simp[SeqAt.noMix,SeqAt.noMixAll]
theorem wt_same(wt:List (Int×Int)):same (.list (wt.map prD)) (.list [])=decide (wt=[]):=by cases wt<;>simp[same,sameAll]
noncomputable def cLSt:Con:=λargs Q=>∃n:Int,args=[.fz (.int n)]/\1<=n/\n<=31/\∀o,Q (.ow (.list ((strP n).map prD))) o
theorem scLSt:FnScope ["_law_size","_law_left","_law_found","_law_first","_law_last","_law_middle"] ["_law_size"] (defScope (top 24)):=⟨rfl,rfl,rfl,by decide +kernel,rfl,by decide +kernel,by decide +kernel⟩
theorem ok_lst_{f:Addr}{fd:FuncData}(F:Fun K "_law_halves" "_law_halves" (top 24) f fd)(T:Txt mg):FnOk P w K mg base CX0 1 f fd ["_law_size"] (conSp K cLSt):=by
 have S:=scLSt
 refine wfn F S (λcdv A outer s H E hr=>(s_cons (s_set (i:=1) S.nd rfl (Or.inl rfl) (w_lst (wa_cons (wx (w_tup (wa_cons (wx w_int) (wa_cons (wx (w_bin ok_sub op_sub (wn 0) (wx w_int))) wa_nil)))) wa_nil)))
     (s_cons (s_set (i:=2) S.nd rfl (Or.inl rfl) (w_lst wa_nil))
     (s_cons (s_while PassesOwn.never (t_cmp ok_ne (op_neE (K:=K) rfl hr.units) (wn 1) (wx (w_lst wa_nil))) (s_cons (s_asgG (w_m0 ok_pop rfl PySem.F.slot_list_pop PySem.F.type_list_pop mt_pop (wn 1)) (g_tup rfl rfl (gs_cons (g_name (i:=3) S.nd rfl (Or.inl rfl)) (gs_cons (g_name (i:=4) S.nd rfl (Or.inl rfl)) gs_nil))))
     (s_cons (s_expr (w_m ok_append rfl PySem.F.slot_list_append PySem.F.type_list_append mt_append (wn 2) (wa_cons (wx (w_tup (wa_cons (wx (wv 3)) (wa_cons (wx (wv 4)) wa_nil)))) wa_nil)))
     (s_one (s_if (t_cmp ok_lt op_lt (wn 3) (wn 4)) (s_cons (s_set (i:=5) S.nd rfl (Or.inl rfl) (w_bin ok_fdiv op_fdiv (wx (w_bin ok_add op_addD (wn 3) (wn 4))) (wx w_int)))
     (s_one (s_expr (w_m ok_extend rfl PySem.F.slot_list_extend PySem.F.type_list_extend mt_extend (wn 1) (wa_cons (wx (w_lst (wa_cons (wx (w_tup (wa_cons (wx (wv 3)) (wa_cons (wx (wv 5)) wa_nil)))) (wa_cons (wx (w_tup (wa_cons (wx (w_bin ok_add op_addD (wn 5) (wx w_int))) (wa_cons (wx (wv 4)) wa_nil)))) wa_nil)))) wa_nil))))) s_nil)))))
     (s_one (s_ret (w_callB ok_sortT64 (call_sortTK64 rfl) T.sorted_ boot_sorted (wa_cons (wn 2) wa_nil)))))))) ?_ ?_
 ·rintro args Qd ⟨n,rfl,_⟩;rfl
 ·rintro args Qd ⟨n,rfl,n1,n2,q⟩
  refine ⟨noOw_of rfl,?_⟩
  have hlen:=hl_len _ 0 (n - 1) rfl (by omega)
  refine ⟨λm ρ=>∃(dn:List (List Int)) (wt:List (Int×Int)) (x y v:Option Sl),ρ=[some (.fz (.int n)),some (.ow (.list (wt.map prD))),some (.ow (.list (dn.map rwD))),x,y,v]/\dn++pile wt=hl 0 (n - 1)/\(∀p∈wt,0<=p.1/\p.1<=p.2/\p.2<=1000)/\m=(pile wt).length/\((x=none/\y=none)\/∃d e,x=some (.fz d)/\y=some (.fz e))/\(v=none\/∃d,v=some (.fz d)),⟨_,[],[(0,n - 1)],none,none,none,rfl,by simp[pile],by simp;omega,rfl,.inl ⟨rfl,rfl⟩,.inl rfl⟩,?_⟩
  rintro m ρ ⟨dn,wt,x,y,v,rfl,hp,hw,rfl,hx,hv⟩
  have nw:=wt_nice wt
  rcases hx with⟨rfl,rfl⟩|⟨xd,xe,rfl,rfl⟩<;>rcases hv with rfl|⟨vd,rfl⟩
  all_goals
   refine ⟨nw.p,rfl,nw.sh (by decide),rfl,wt_mix wt,?_⟩
   refine ite2 (λh=>?_) (λh=>?_)
   ·refine ⟨λρ'=>∃m',m' < (pile wt).length/\_,λρ' h=>h,?_⟩
    obtain⟨wt',p,rfl⟩:∃wt' p,wt=wt'++[p]:=by
     rcases y8 wt with e|⟨a,b,e⟩
     ·subst e;exact absurd h (by show ¬((!same (.list (([]:List (Int×Int)).map prD)) (.list []))=true);rw[wt_same];decide)
     ·exact ⟨a,b,by simpa using e⟩
    have e1:((wt'++[p]).map prD)[((wt'++[p]).map prD).length - 1]?=some (prD p):=by simp
    have e2:((wt'++[p]).map prD).dropLast=wt'.map prD:=by simp
    have ea:(dn++[[p.1,p.2]]).map rwD=dn.map rwD++[prD p]:=by rw[O3];rfl
    have eb:(wt'++[(p.1,(p.1+p.2) / 2),((p.1+p.2) / 2+1,p.2)]).map prD=wt'.map prD++[prD (p.1,(p.1+p.2) / 2),prD ((p.1+p.2) / 2+1,p.2)]:=by rw[O3];rfl
    have eb2:(wt'++[(p.1,(p.1+p.2) / 2),((p.1+p.2) / 2+1,p.2)]).map prD=wt'.map prD++[prD (p.1,(p.1+p.2) / 2)]++[prD ((p.1+p.2) / 2+1,p.2)]:=by rw[eb];simp
    have hpp:=hw p (by simp)
    have hw':∀p∈wt',0<=p.1/\p.1<=p.2/\p.2<=1000:=λx hx=>hw x (by simp[hx])
    rw[pile_snoc]at hp ⊢
    have hL:=congrArg S4 hp
    rw[B0,B0]at hL
    have hwl:wt'.length<=(pile wt').length:=pile_len wt'
    refine ⟨_,e1,?_⟩
    rw[e2]
    refine ⟨rfl,?_⟩
    refine ⟨by rw[j0];exact Q1 (show dn.length<=1999 by omega) (by decide),?_⟩
    refine ite2 (λh3=>?_) (λh3=>?_)
    ·have h3:p.1 < p.2:=of_decide_eq_true h3
     refine ⟨⟨by decide,by decide⟩,by rw[j0];exact Q0 (show wt'.length+2<=3000 by omega) (by decide),?_⟩
     rw[hl_lt h3]at hp hL ⊢
     refine ⟨(pile (wt'++[(p.1,(p.1+p.2) / 2),((p.1+p.2) / 2+1,p.2)])).length,?_,dn++[[p.1,p.2]],wt'++[(p.1,(p.1+p.2) / 2),((p.1+p.2) / 2+1,p.2)],_,_,_,by rw[ea,eb];rfl,?_,?_,rfl,.inr ⟨_,_,rfl,rfl⟩,.inr ⟨_,rfl⟩⟩
     ·simp[pile]
     ·rw[<- hp];simp[pile]
     ·intro x hx
      simp only[R0,X0,Q4,or_false]at hx
      rcases hx with hx|rfl|rfl
      ·exact hw' x hx
      ·exact ⟨by omega,by show p.1<=(p.1+p.2) / 2;omega,by show (p.1+p.2) / 2<=1000;omega⟩
      ·exact ⟨by show 0<=(p.1+p.2) / 2+1;omega,by show (p.1+p.2) / 2+1<=p.2;omega,by show p.2<=1000;omega⟩
    ·have h3:¬p.1 < p.2:=λz=>h3 (decide_eq_true z)
     rw[hl_ge h3]at hp hL ⊢
     refine ⟨(pile wt').length,by simp,dn++[[p.1,p.2]],wt',_,_,_,by rw[ea];rfl,?_,hw',rfl,.inr ⟨_,_,rfl,rfl⟩,by first|exact .inl rfl|exact .inr ⟨_,rfl⟩⟩
     rw[<- hp];simp
   ·have e:wt=[]:=by
     have h:¬((!same (.list (wt.map prD)) (.list []))=true):=h
     rw[wt_same]at h
     simpa using h
    subst e
    have hp:dn=hl 0 (n - 1):=by simpa [pile]using hp
    subst hp
    refine ⟨hl 0 (n - 1),rfl,by omega,hl_ne _ _ _ rfl,λrows r1 r2=>?_⟩
    rw[strS_eq r1 r2,strP_row n1]
    exact q _
end
noncomputable abbrev tupD(p:List Int):PyData:=.tuple (p.map G0)
mutual
noncomputable def okD:PyData->Bool
 | .dict es=>notScr es
 | .list xs=>okAll xs
 | .tuple xs=>okAll xs
 | .none=>true
 | .bool _=>true
 | .int _=>true
 | .str _=>true
noncomputable def okAll:List PyData->Bool
 | []=>true
 | x :: xs=>okD x&&okAll xs
end
theorem okAll_mem:∀{xs:List PyData},okAll xs=true->∀d∈xs,okD d=true
 | [],_,d,h=>by simp at h
 | x :: xs,h,d,hd=>by
  simp[okAll]at h
  rcases X0.mp hd with rfl|hd
  ·exact h.1
  ·exact okAll_mem h.2 d hd
theorem okAll_of:∀{xs:List PyData},(∀d∈xs,okD d=true)->okAll xs=true
 | [],_=>rfl
 | x :: xs,h=>by
  simp[okAll]
  exact ⟨h x P0,okAll_of λd hd=>h d (L0 _ hd)⟩
noncomputable def isI:PyData->Bool
 | .int _=>true
 | _=>false
theorem ints_of:∀{ds:List PyData},ds.all isI=true->∃ns:List Int,ds=ns.map G0
 | [],_=>⟨[],rfl⟩
 | d :: ds,h=>by
  simp at h
  obtain⟨ns,e⟩:=ints_of (ds:=ds) (by simpa using h.2)
  cases d<;>simp[isI]at h
  rename_i i
  exact ⟨i :: ns,by rw[e];rfl⟩
noncomputable def unI:PyData->Int
 | .int i=>i
 | _=>0
theorem sameAll_ints:∀a b:List Int,sameAll (a.map G0) (b.map G0)=decide (a=b)
 | [],[]=>rfl
 | [],_ :: _=>by simp[sameAll]
 | _ :: _,[]=>by simp[sameAll]
 | x :: a,y :: b=>by
  have ih:=sameAll_ints a b
  simp only[B1,sameAll,same,ih]
  by_cases h1:x=y<;>by_cases h2:a=b<;>simp[h1,h2]
theorem mixAll_ints:∀a b:List Int,SeqAt.noMixAll (a.map G0) (b.map G0)=true
 | [],[]=>rfl
 | [],_ :: _=>by simp[SeqAt.noMixAll]
 | _ :: _,[]=>by simp[SeqAt.noMixAll]
 | x :: a,y :: b=>by simp[SeqAt.noMixAll,SeqAt.noMix,mixAll_ints a b]
theorem rw_inj{a b:List Int}(h:tupD a=tupD b):a=b:=by
 injection h with h
 exact J5 (λ_ _ z=>by injection z) |>.mp h
theorem same_tup(a b:List Int):same (tupD a) (tupD b)=decide (a=b):=sameAll_ints a b
theorem mix_tup(a b:List Int):SeqAt.noMix (tupD a) (tupD b)=true:=mixAll_ints a b
structure En where
 t:Int
 l:Int
 g:Int
 w:Int
deriving DecidableEq
noncomputable abbrev enD(e:En):PyData:=tupD [e.t,e.l,e.g,e.w]
noncomputable def arnd(lo hi:Int)(p:Int×Int):List (Int×Int):=if h:lo < hi/\(lo,hi)≠p then (lo,hi) :: (if p.2<=(lo+hi) / 2 then arnd lo ((lo+hi) / 2) p else arnd ((lo+hi) / 2+1) hi p) else []
termination_by (hi - lo).toNat
decreasing_by all_goals omega
theorem arnd_go{lo hi:Int}{p:Int×Int}(h:lo < hi)(hn:(lo,hi)≠p):arnd lo hi p=(lo,hi) :: (if p.2<=(lo+hi) / 2 then arnd lo ((lo+hi) / 2) p else arnd ((lo+hi) / 2+1) hi p):=by rw[arnd,dif_pos ⟨h,hn⟩]
theorem arnd_end{lo hi:Int}{p:Int×Int}(h:(lo,hi)=p):arnd lo hi p=[]:=by rw[arnd,dif_neg λz=>z.2 h]
theorem hl_lt_of{lo hi:Int}{p:Int×Int}(h:[p.1,p.2]∈hl lo hi)(hn:(lo,hi)≠p):lo < hi:=by
 by_cases z:lo < hi
 ·exact z
 ·rw[hl_ge z]at h
  simp only[U0,List.cons.injEq,and_true]at h
  exact absurd (Prod.ext h.1.symm h.2.symm) hn
theorem hl_half{lo hi:Int}{p:Int×Int}(hle:lo<=hi)(h:[p.1,p.2]∈hl lo hi)(hn:(lo,hi)≠p):if p.2<=(lo+hi) / 2 then [p.1,p.2]∈hl lo ((lo+hi) / 2) else [p.1,p.2]∈hl ((lo+hi) / 2+1) hi:=by
 have hlt:=hl_lt_of h hn
 rw[hl_lt hlt]at h
 rcases X0.mp h with z|z
 ·simp only[List.cons.injEq,and_true]at z
  exact absurd (Prod.ext z.1.symm z.2.symm) hn
 ·rcases R0.mp z with y|y
  ·obtain⟨a,b,e,h1,h2,h3⟩:=hl_in _ _ _ rfl (by omega) _ y
   simp only[List.cons.injEq,and_true]at e
   rw[if_neg (by omega)]
   exact y
  ·obtain⟨a,b,e,h1,h2,h3⟩:=hl_in _ _ _ rfl (by omega) _ y
   simp only[List.cons.injEq,and_true]at e
   rw[if_pos (by omega)]
   exact y
theorem arnd_in{p:Int×Int}:∀(n:Nat) (lo hi:Int),(hi - lo).toNat=n->lo<=hi->[p.1,p.2]∈hl lo hi->∀q∈arnd lo hi p,[q.1,q.2]∈hl lo hi:=by
 intro n
 induction n using m4 with
 | _ n ih =>
  intro lo hi e hle h q hq
  by_cases hn:(lo,hi)=p
  ·rw[arnd_end hn]at hq;cases hq
  ·have hlt:=hl_lt_of h hn
   have hh:=hl_half hle h hn
   rw[arnd_go hlt hn]at hq
   rw[hl_lt hlt]
   rcases X0.mp hq with z|z
   ·rw[z];exact P0
   ·refine L0 _ (R0.mpr ?_)
    split at z
    ·rename_i hc
     rw[if_pos hc]at hh
     exact .inr (ih _ (by omega) _ _ rfl (by omega) hh q z)
    ·rename_i hc
     rw[if_neg hc]at hh
     exact .inl (ih _ (by omega) _ _ rfl (by omega) hh q z)
noncomputable abbrev Vt:=Int×Int->En
noncomputable def tdE(n:Int)(V:Vt):List (List Int×PyData):=(strP n).map λp=>([p.1,p.2],enD (V p))
theorem tdE_mem{n:Int}{V:Vt}{p:Int×Int}(h:[p.1,p.2]∈hl 0 (n - 1)):([p.1,p.2],enD (V p))∈tdE n V:=A1.mpr ⟨p,strP_of h,rfl⟩
noncomputable def wts(V:Vt)(n:Int)(p:Int×Int):Int:=((arnd 0 (n - 1) p).map λq=>(V q).w).sum
noncomputable def hf1(p:Int×Int):Int×Int:=(p.1,(p.1+p.2) / 2)
noncomputable def hf2(p:Int×Int):Int×Int:=((p.1+p.2) / 2+1,p.2)
noncomputable def anw(V:Vt)(p:Int×Int):En:=⟨(V (hf1 p)).t+(V (hf2 p)).t+(V p).w * (p.2 - p.1+1),min (V (hf1 p)).l (V (hf2 p)).l+(V p).w,max (V (hf1 p)).g (V (hf2 p)).g+(V p).w,(V p).w⟩
section
variable {P:Program}{w:World}{K:n0}{mg:Str->Option Value}{base:Heap}
noncomputable def cWhole:Con:=λargs Q=>∃d,args=[.fz d]/\okD d=true/\∀o,Q (.fz (.bool (isI d))) o
theorem scWhole:FnScope ["thing"] ["thing"] (defScope (top 4)):=⟨rfl,rfl,rfl,by decide +kernel,rfl,by decide +kernel,by decide +kernel⟩
theorem ok_whole{f:Addr}{fd:FuncData}(F:Fun K "is_whole" "is_whole" (top 4) f fd)(T:Txt mg):FnOk P w K mg base CX0 1 f fd ["thing"] (conSp K cWhole):=by
 have S:=scWhole
 refine wfn F S (λcdv A outer s H E hr=>(s_one (s_ret (w_and (w_isiA .int rfl T.isinstance_ T.int_ boot_int (wn 0)) (w_one (w_not (w_isiA .bl rfl T.isinstance_ T.bool_ boot_bool (wn 0)))))))) ?_ ?_
 ·rintro args Qd ⟨d,rfl,_⟩;rfl
 ·rintro args Qd ⟨d,rfl,hd,q⟩
  refine ⟨noOw_of rfl,?_⟩
  cases d with
  | dict es=>exact ⟨hd,q _⟩
  | int i=>exact q _
  | bool b=>exact q _
  | none=>exact q _
  | str x=>exact q _
  | list xs=>exact q _
  | tuple xs=>exact q _
structure CalsC(P:Program)(w:World)(K:n0)(mg:Str->Option Value)(base:Heap):Prop where
 is_whole:Cal P w K mg base 1 "is_whole" ["thing"] (conSp K cWhole)
noncomputable def areW(n:Nat):PyData->Bool
 | .tuple ds=>decide (ds.length=n)&&ds.all isI
 | _=>false
noncomputable def cAreW:Con:=λargs Q=>∃(d:PyData) (n:Nat),args=[.fz d,.fz (.int n)]/\okD d=true/\n<=1000/\∀o,Q (.fz (.bool (areW n d))) o
theorem scAreW:FnScope ["thing","many"] ["thing","many"] (defScope (top 5)):=⟨rfl,rfl,rfl,by decide +kernel,rfl,by decide +kernel,by decide +kernel⟩
theorem ok_areW{f:Addr}{fd:FuncData}(F:Fun K "are_wholes" "are_wholes" (top 5) f fd)(T:Txt mg)(C:CalsC P w K mg base):FnOk P w K mg base CX0 2 f fd ["thing","many"] (conSp K cAreW):=by
 have S:=scAreW
 refine wfn F S (λcdv A outer s H E hr=>(s_cons (s_if (t_w (t_or (t_not (t_val (w_isiA .tup rfl T.isinstance_ T.tuple_ boot_tuple (wn 0)))) (t_or1 (t_cmp ok_ne (op_neE (K:=K) rfl hr.units) (wx (w_callB ok_len (call_lenK (K:=K) rfl) T.len_ PySem.boot_len (wa_cons (wn 0) wa_nil))) (wn 1))))) (s_one (s_ret w_bl)) s_nil)
     (s_one (s_ret (w_callB ok_all (call_allK (K:=K) rfl rfl) T.all_ boot_all (wa_cons (wx (w_comp rfl (own:=["number"]) (fr:=[]) (by kernel_rfl) (i_seq rfl (wv 0)) (λ_ _ _ _=>(g_name (i:=0) (by decide +kernel:U4 (["number"]:List Str)) rfl (Or.inl rfl))) (λ_ _ _ _=>if0) (λ_ _ _ _=>(w_fn C.is_whole (hr.mono (by first|decide|omega)) (wa_cons (wn 0) wa_nil))))) wa_nil)))))) ?_ ?_
 ·rintro args Qd ⟨d,n,rfl,_⟩;rfl
 ·rintro args Qd ⟨d,n,rfl,hd,hn,q⟩
  refine ⟨noOw_of rfl,?_⟩
  cases d with
  | dict es=>exact ⟨hd,q _⟩
  | int i=>exact q _
  | bool b=>exact q _
  | none=>exact q _
  | str x=>exact q _
  | list xs=>exact q _
  | tuple xs =>
   refine ite2 (λh=>?_) (λh=>?_)
   ·have h:¬(xs.length:Int)=n:=by simpa using h
    have e:areW n (.tuple xs)=false:=by simp[areW];intro z;omega
    rw[e]at q
    exact q _
   ·have h:(xs.length:Int)=n:=by simpa using h
    have hl:xs.length=n:=by omega
    refine ⟨le_size (by omega),mapC (λd=>.bool (isI d)) ?_ ?_⟩
    ·intro d hd2 N hN
     exact ⟨d,rfl,okAll_mem (by simpa [okD]using hd) d hd2,λo=>hN⟩
    ·refine ⟨xs.map isI,by rw[S0];rfl,?_⟩
     have e:areW n (.tuple xs)=(xs.map isI).all id:=by simp[areW,hl]
     rw[<- e]
     exact q _
noncomputable def cPt:Con:=λargs Q=>∃ts us:List Int,args=[.fz (.list [tupD ts,tupD us])]/\ts.length=4/\us.length=4/\∀o,Q (.fz (tupD [ts.getD 0 0+us.getD 0 0,min (ts.getD 1 0) (us.getD 1 0),max (ts.getD 2 0) (us.getD 2 0)])) o
theorem scPt:FnScope ["parts","total"] ["parts"] (defScope (top 7)):=⟨rfl,rfl,rfl,by decide +kernel,rfl,by decide +kernel,by decide +kernel⟩
theorem ok_pt{f:Addr}{fd:FuncData}(F:Fun K "put_together" "put_together" (top 7) f fd)(T:Txt mg):FnOk P w K mg base CX0 1 f fd ["parts"] (conSp K cPt):=by
 have S:=scPt
 refine wfn F S (λcdv A outer s H E hr=>(s_cons (s_set (i:=1) S.nd rfl (Or.inl rfl) (w_callB ok_sum (call_sumK (K:=K) rfl rfl) T.sum_ boot_sum (wa_cons (wx (w_comp rfl (own:=["part"]) (fr:=[]) (by kernel_rfl) (i_seq rfl (wv 0)) (λ_ _ _ _=>(g_name (i:=0) (by decide +kernel:U4 (["part"]:List Str)) rfl (Or.inl rfl))) (λ_ _ _ _=>if0) (λ_ _ _ _=>(w_ix rfl (wn 0) (wx w_int))))) wa_nil)))
     (s_one (s_ret (w_tup (wa_cons (wx (wv 1)) (wa_cons (wx (w_callB ok_mnI (call_mnI (K:=K) rfl rfl) T.min_ boot_min (wa_cons (wx (w_comp rfl (own:=["part"]) (fr:=[]) (by kernel_rfl) (i_seq rfl (wv 0)) (λ_ _ _ _=>(g_name (i:=0) (by decide +kernel:U4 (["part"]:List Str)) rfl (Or.inl rfl))) (λ_ _ _ _=>if0) (λ_ _ _ _=>(w_ix rfl (wn 0) (wx w_int))))) wa_nil))) (wa_cons (wx (w_callB ok_mxI (call_mxI (K:=K) rfl rfl) T.max_ boot_max (wa_cons (wx (w_comp rfl (own:=["part"]) (fr:=[]) (by kernel_rfl) (i_seq rfl (wv 0)) (λ_ _ _ _=>(g_name (i:=0) (by decide +kernel:U4 (["part"]:List Str)) rfl (Or.inl rfl))) (λ_ _ _ _=>if0) (λ_ _ _ _=>(w_ix rfl (wn 0) (wx w_int))))) wa_nil))) wa_nil)))))))) ?_ ?_
 ·rintro args Qd ⟨ts,us,rfl,_⟩;rfl
 ·rintro args Qd ⟨ts,us,rfl,ht,hu,q⟩
  refine ⟨noOw_of rfl,?_⟩
  obtain⟨a,b,c,x,rfl⟩:∃a b c x,ts=[a,b,c,x]:=by
   rcases ts with _|⟨a,_|⟨b,_|⟨c,_|⟨d,_|⟨e,ts⟩⟩⟩⟩⟩<;>first|exact ⟨_,_,_,_,rfl⟩|(simp at ht)
  obtain⟨a',b',c',x',rfl⟩:∃a b c x,us=[a,b,c,x]:=by
   rcases us with _|⟨a,_|⟨b,_|⟨c,_|⟨d,_|⟨e,ts⟩⟩⟩⟩⟩<;>first|exact ⟨_,_,_,_,rfl⟩|(simp at hu)
  have q:∀o,Qd (.fz (tupD [a+a',min b b',max c c'])) o:=q
  with_reducible refine cutS (λρ=>ρ=[some (.fz (.list [tupD [a,b,c,x],tupD [a',b',c',x']])),some (.fz (.int (a+a')))]) ?_ ?_
  ·intro N hN
   refine ⟨le_size (by simp),_,rfl,_,rfl,[a,a'],rfl,?_⟩
   have e:[a,a'].sum=a+a':=by simp
   rw[e]
   exact hN _ rfl
  rintro _ rfl
  refine ⟨le_size (by simp),_,rfl,_,rfl,[b,b'],rfl,by simp,λm hm hmy=>⟨le_size (by simp),_,rfl,_,rfl,[c,c'],rfl,by simp,λM hM hMy=>?_⟩⟩
  have e1:m=min b b':=by
   have h1:=hmy b (by simp)
   have h2:=hmy b' (by simp)
   have h3:m=b\/m=b':=by simpa using hm
   omega
  have e2:M=max c c':=by
   have h1:=hMy c (by simp)
   have h2:=hMy c' (by simp)
   have h3:M=c\/M=c':=by simpa using hM
   omega
  rw[e1,e2]
  exact q _
noncomputable def cTh:Con:=λargs Q=>∃x:Int,args=[.fz (.int x)]/\∀o,Q (.fz (tupD [x,x,x])) o
theorem scTh:FnScope ["number"] ["number"] (defScope (top 8)):=⟨rfl,rfl,rfl,by decide +kernel,rfl,by decide +kernel,by decide +kernel⟩
theorem ok_th{f:Addr}{fd:FuncData}(F:Fun K "thrice" "thrice" (top 8) f fd):FnOk P w K mg base CX0 1 f fd ["number"] (conSp K cTh):=by
 have S:=scTh
 refine wfn F S (λcdv A outer s H E hr=>(s_one (s_ret (w_tup (wa_cons (wx (wv 0)) (wa_cons (wx (wv 0)) (wa_cons (wx (wv 0)) wa_nil))))))) ?_ ?_
 ·rintro args Qd ⟨x,rfl,_⟩;rfl
 ·rintro args Qd ⟨x,rfl,q⟩
  exact ⟨noOw_of rfl,q _⟩
noncomputable def cRa:Con:=λargs Q=>∃(x y z v a b:Int),args=[.fz (tupD [x,y,z]),.fz (prD (a,b)),.fz (.int v)]/\0<=a/\a<=b/\b<=1000/\∀o,Q (.fz (tupD [x+v * (b - a+1),y+v,z+v])) o
theorem scRa:FnScope ["values","stretch","number","length"] ["values","stretch","number"] (defScope (top 12)):=⟨rfl,rfl,rfl,by decide +kernel,rfl,by decide +kernel,by decide +kernel⟩
theorem ok_ra{f:Addr}{fd:FuncData}(F:Fun K "raised" "raised" (top 12) f fd):FnOk P w K mg base CX0 1 f fd ["values","stretch","number"] (conSp K cRa):=by
 have S:=scRa
 refine wfn F S (λcdv A outer s H E hr=>(s_cons (s_set (i:=3) S.nd rfl (Or.inl rfl) (w_bin ok_add op_addD (wx (w_bin ok_sub op_sub (wx (w_ix rfl (wn 1) (wx w_int))) (wx (w_ix rfl (wn 1) (wx w_int))))) (wx w_int)))
     (s_one (s_ret (w_tup (wa_cons (wx (w_bin ok_add op_addD (wx (w_ix rfl (wn 0) (wx w_int))) (wx (w_bin ok_mul op_mulD (wn 2) (wn 3))))) (wa_cons (wx (w_bin ok_add op_addD (wx (w_ix rfl (wn 0) (wx w_int))) (wn 2))) (wa_cons (wx (w_bin ok_add op_addD (wx (w_ix rfl (wn 0) (wx w_int))) (wn 2))) wa_nil)))))))) ?_ ?_
 ·rintro args Qd ⟨x,y,z,v,a,b,rfl,_⟩;rfl
 ·rintro args Qd ⟨x,y,z,v,a,b,rfl,ha,hab,hb,q⟩
  refine ⟨noOw_of rfl,?_⟩
  refine ⟨_,rfl,_,rfl,_,rfl,.inr ⟨by omega,by omega⟩,_,rfl,_,rfl,q _⟩
theorem lz{n:Nat}(h:Nat.ble n 1000=true):n<=sizeLine:=le_size (Q6 h)
structure CalsAr(P:Program)(w:World)(K:n0)(mg:Str->Option Value)(base:Heap):Prop where
 two_halves:Cal P w K mg base 1 "two_halves" ["stretch"] (conSp K cTwo)
noncomputable def cAr:Con:=λargs Q=>∃(n:Int) (p:Int×Int),args=[.fz (.int n),.fz (prD p)]/\1<=n/\n<=31/\[p.1,p.2]∈hl 0 (n - 1)/\∀o,Q (.ow (.list ((arnd 0 (n - 1) p).map prD))) o
theorem scAr:FnScope ["side","stretch","found","longer","halves"] ["side","stretch"] (defScope (top 10)):=⟨rfl,rfl,rfl,by decide +kernel,rfl,by decide +kernel,by decide +kernel⟩
theorem ok_ar{f:Addr}{fd:FuncData}(F:Fun K "around" "around" (top 10) f fd)(T:Txt mg)(C:CalsAr P w K mg base):FnOk P w K mg base CX0 2 f fd ["side","stretch"] (conSp K cAr):=by
 have S:=scAr
 refine wfn F S (λcdv A outer s H E hr=>(s_cons (s_set (i:=2) S.nd rfl (Or.inl rfl) (w_lst wa_nil))
     (s_cons (s_set (i:=3) S.nd rfl (Or.inl rfl) (w_tup (wa_cons (wx w_int) (wa_cons (wx (w_bin ok_sub op_sub (wn 0) (wx w_int))) wa_nil))))
     (s_cons (s_while PassesOwn.never (t_cmp ok_ne (op_neE (K:=K) rfl hr.units) (wn 3) (wn 1)) (s_cons (s_expr (w_m ok_append rfl PySem.F.slot_list_append PySem.F.type_list_append mt_append (wn 2) (wa_cons (wx (wv 3)) wa_nil)))
     (s_cons (s_set (i:=4) S.nd rfl (Or.inl rfl) (w_fn C.two_halves (hr.mono (by first|decide|omega)) (wa_cons (wn 3) wa_nil)))
     (s_one (s_set (i:=3) S.nd rfl (Or.inl rfl) (w_ifE (t_cmp ok_le op_le (wx (w_ix rfl (wn 1) (wx w_int))) (wx (w_ix rfl (wx (w_ix rfl (wn 4) (wx w_int))) (wx w_int)))) (w_ix rfl (wn 4) (wx w_int)) (w_ix rfl (wn 4) (wx w_int))))))))
     (s_one (s_retV (wn 2))))))) ?_ ?_
 ·rintro args Qd ⟨n,p,rfl,_⟩;rfl
 ·rintro args Qd ⟨n,p,rfl,n1,n2,hp,q⟩
  refine ⟨noOw_of rfl,?_⟩
  have go:∀(lo hi:Int),0<=lo->lo<=hi->hi < n->((hi - lo).toNat:Int) < 31:=λlo hi h1 h2 h3=>by omega
  refine ⟨λm ρ=>∃(lo hi:Int) (dn:List (Int×Int)) (x:Option Sl),ρ=[some (.fz (.int n)),some (.fz (prD p)),some (.ow (.list (dn.map prD))),some (.fz (prD (lo,hi))),x]/\0<=lo/\lo<=hi/\hi < n/\[p.1,p.2]∈hl lo hi/\dn++arnd lo hi p=arnd 0 (n - 1) p/\m=(hi - lo).toNat/\dn.length+m<=31/\(x=none\/∃d,x=some (.ow d)),⟨_,0,n - 1,[],none,rfl,by omega,by omega,by omega,hp,rfl,rfl,by show 0+_<=31;omega,.inl rfl⟩,?_⟩
  rintro m ρ ⟨lo,hi,dn,x,rfl,h0,h1,h2,hin,hd,rfl,hm,hx⟩
  have n1:=Nice.tup [lo,hi]
  have n2:=Nice.tup [p.1,p.2]
  rcases hx with rfl|⟨xd,rfl⟩
  all_goals
   refine ⟨n1.p,n2.p,n1.sh (by decide),n2.sh (by decide),mix_tup [lo,hi] [p.1,p.2],ite2 (λh=>?_) (λh=>?_)⟩
   ·have h:(!same (tupD [lo,hi]) (tupD [p.1,p.2]))=true:=h
    rw[same_tup]at h
    have hn:(lo,hi)≠p:=λz=>by rw[<- z]at h;simp at h
    have hlt:=hl_lt_of hin hn
    have hh:=hl_half h1 hin hn
    rw[arnd_go hlt hn]at hd
    refine ⟨λρ'=>∃m',m' < (hi - lo).toNat/\_,λρ' h=>h,?_⟩
    refine ⟨Q1 (show (dn.map prD).length<=100 by rw[j0];omega) (by decide),?_⟩
    refine ⟨lo,hi,rfl,by omega,by omega,by omega,by omega,λo=>?_⟩
    have ea:(dn++[(lo,hi)]).map prD=dn.map prD++[prD (lo,hi)]:=by rw[O3];rfl
    refine ⟨_,rfl,_,rfl,_,rfl,ite2 (λhc=>?_) (λhc=>?_)⟩
    ·have hc:p.2<=(lo+hi) / 2:=of_decide_eq_true hc
     rw[if_pos hc]at hh hd
     exact ⟨_,rfl,((lo+hi) / 2 - lo).toNat,by omega,lo,(lo+hi) / 2,dn++[(lo,hi)],_,by rw[ea];rfl,h0,by omega,by omega,hh,by rw[<- hd];simp,rfl,by rw[B0];show dn.length+1+_<=31;omega,.inr ⟨_,rfl⟩⟩
    ·have hc:¬p.2<=(lo+hi) / 2:=λz=>hc (decide_eq_true z)
     rw[if_neg hc]at hh hd
     exact ⟨_,rfl,(hi - ((lo+hi) / 2+1)).toNat,by omega,(lo+hi) / 2+1,hi,dn++[(lo,hi)],_,by rw[ea];rfl,by omega,by omega,by omega,hh,by rw[<- hd];simp,rfl,by rw[B0];show dn.length+1+_<=31;omega,.inr ⟨_,rfl⟩⟩
   ·have h:¬(!same (tupD [lo,hi]) (tupD [p.1,p.2]))=true:=h
    rw[same_tup]at h
    have hn:(lo,hi)=p:=by
     have:[lo,hi]=[p.1,p.2]:=by simpa using h
     simp only[List.cons.injEq,and_true]at this
     exact Prod.ext this.1 this.2
    rw[arnd_end hn,S3]at hd
    rw[hd]
    exact q _
structure CalsWa(P:Program)(w:World)(K:n0)(mg:Str->Option Value)(base:Heap):Prop where
 around:Cal P w K mg base 2 "around" ["side","stretch"] (conSp K cAr)
noncomputable def cWa:Con:=λargs Q=>∃(n:Int) (V:Vt) (p:Int×Int),args=[.fz (pdD (tdE n V)),.fz (.int n),.fz (prD p)]/\1<=n/\n<=31/\[p.1,p.2]∈hl 0 (n - 1)/\∀o,Q (.fz (.int (wts V n p))) o
noncomputable def fWa(V:Vt):PyData->PyData
 | .tuple [.int a,.int b]=>.int (V (a,b)).w
 | _=>.none
theorem arnd_len{p:Int×Int}:∀(n:Nat) (lo hi:Int),(hi - lo).toNat=n->lo<=hi->(arnd lo hi p).length<=n:=by
 intro n
 induction n using m4 with
 | _ n ih =>
  intro lo hi e hle
  by_cases hn:lo < hi/\(lo,hi)≠p
  ·rw[arnd_go hn.1 hn.2,B2]
   split
   ·have:=ih _ (by omega) lo ((lo+hi) / 2) rfl (by omega);omega
   ·have:=ih _ (by omega) ((lo+hi) / 2+1) hi rfl (by omega);omega
  ·rw[arnd,dif_neg hn];simp
theorem scWa:FnScope ["told","side","stretch"] ["told","side","stretch"] (defScope (top 11)):=⟨rfl,rfl,rfl,by decide +kernel,rfl,by decide +kernel,by decide +kernel⟩
theorem ok_wa{f:Addr}{fd:FuncData}(F:Fun K "waits_around" "waits_around" (top 11) f fd)(T:Txt mg)(C:CalsWa P w K mg base):FnOk P w K mg base CX0 3 f fd ["told","side","stretch"] (conSp K cWa):=by
 have S:=scWa
 refine wfn F S (λcdv A outer s H E hr=>(s_one (s_ret (w_callB ok_sum (call_sumK (K:=K) rfl rfl) T.sum_ boot_sum (wa_cons (wx (w_comp rfl (own:=["longer"]) (fr:=[0]) (by kernel_rfl) (i_seq rfl (w_fn C.around (hr.mono (by first|decide|omega)) (wa_cons (wn 1) (wa_cons (wn 2) wa_nil)))) (λ_ _ _ _=>(g_name (i:=0) (by decide +kernel:U4 (["longer","told"]:List Str)) rfl (Or.inl rfl))) (λ_ _ _ _=>if0) (λ_ _ _ _=>(w_ix rfl (wx (w_pget (hu6_of hr) (wn 1) (wn 0))) (wx w_int))))) wa_nil))))) ?_ ?_
 ·rintro args Qd ⟨n,V,p,rfl,_⟩;rfl
 ·rintro args Qd ⟨n,V,p,rfl,n1,n2,hp,q⟩
  refine ⟨noOw_of rfl,?_⟩
  refine ⟨n,p,rfl,n1,n2,hp,λo=>?_⟩
  have hl:=arnd_len (p:=p) _ 0 (n - 1) rfl (by omega)
  refine ⟨le_size (by rw[j0];omega),mapC (fWa V) ?_ ?_⟩
  ·intro d hd N hN
   obtain⟨x,hx,rfl⟩:=A1.mp hd
   have hm:=arnd_in _ 0 (n - 1) rfl (by omega) hp x hx
   exact ⟨tdE n V,[x.1,x.2],_,rfl,rfl,tdE_mem hm,_,rfl,hN⟩
  ·refine ⟨(arnd 0 (n - 1) p).map λx=>(V x).w,?_,q _⟩
   rw[S0,S0]
   rfl
structure CalsCe(P:Program)(w:World)(K:n0)(mg:Str->Option Value)(base:Heap):Prop where
 waits_around:Cal P w K mg base 3 "waits_around" ["told","side","stretch"] (conSp K cWa)
 thrice:Cal P w K mg base 1 "thrice" ["number"] (conSp K cTh)
noncomputable def cen(V:Vt)(n a x:Int):En:=⟨x - wts V n (a,a),x - wts V n (a,a),x - wts V n (a,a),0⟩
noncomputable def cCe:Con:=λargs Q=>∃(n:Int) (V:Vt) (a x:Int),args=[.fz (pdD (tdE n V)),.fz (.int n),.fz (.int a),.fz (.int x)]/\1<=n/\n<=31/\[a,a]∈hl 0 (n - 1)/\∀o,Q (.fz (enD (cen V n a x))) o
theorem scCe:FnScope ["told","side","place","number"] ["told","side","place","number"] (defScope (top 13)):=⟨rfl,rfl,rfl,by decide +kernel,rfl,by decide +kernel,by decide +kernel⟩
theorem ok_ce{f:Addr}{fd:FuncData}(F:Fun K "cell_entry" "cell_entry" (top 13) f fd)(C:CalsCe P w K mg base):FnOk P w K mg base CX0 4 f fd ["told","side","place","number"] (conSp K cCe):=by
 have S:=scCe
 refine wfn F S (λcdv A outer s H E hr=>(s_one (s_ret (w_bin ok_add op_addD (wx (w_fn C.thrice (hr.mono (by first|decide|omega)) (wa_cons (wx (w_bin ok_sub op_sub (wn 3) (wx (w_fn C.waits_around (hr.mono (by first|decide|omega)) (wa_cons (wn 0) (wa_cons (wn 1) (wa_cons (wx (w_tup (wa_cons (wx (wv 2)) (wa_cons (wx (wv 2)) wa_nil)))) wa_nil))))))) wa_nil))) (wx (w_tup (wa_cons (wx w_int) wa_nil))))))) ?_ ?_
 ·rintro args Qd ⟨n,V,a,x,rfl,_⟩;rfl
 ·rintro args Qd ⟨n,V,a,x,rfl,n1,n2,ha,q⟩
  refine ⟨noOw_of rfl,?_⟩
  exact ⟨n,V,(a,a),rfl,n1,n2,ha,λo=>⟨_,rfl,λo=>⟨lz rfl,q _⟩⟩⟩
structure CalsEa(P:Program)(w:World)(K:n0)(mg:Str->Option Value)(base:Heap):Prop where
 two_halves:Cal P w K mg base 1 "two_halves" ["stretch"] (conSp K cTwo)
 put_together:Cal P w K mg base 1 "put_together" ["parts"] (conSp K cPt)
 raised:Cal P w K mg base 1 "raised" ["values","stretch","number"] (conSp K cRa)
theorem hl_sub:∀(n:Nat) (lo hi:Int),(hi - lo).toNat=n->lo<=hi->∀p:Int×Int,[p.1,p.2]∈hl lo hi->p.1 < p.2->[(hf1 p).1,(hf1 p).2]∈hl lo hi/\[(hf2 p).1,(hf2 p).2]∈hl lo hi:=by
 intro n
 induction n using m4 with
 | _ n ih =>
  intro lo hi e hle p h hp
  by_cases hn:(lo,hi)=p
  ·subst hn
   have hp:lo < hi:=hp
   rw[hl_lt hp]
   refine ⟨L0 _ (R0.mpr (.inr ?_)),L0 _ (R0.mpr (.inl ?_))⟩
   ·rw[hl];exact P0
   ·rw[hl];exact P0
  ·have hlt:=hl_lt_of h hn
   have hh:=hl_half hle h hn
   rw[hl_lt hlt]
   split at hh
   ·obtain⟨k1,k2⟩:=ih _ (by omega) lo ((lo+hi) / 2) rfl (by omega) p hh hp
    exact ⟨L0 _ (R0.mpr (.inr k1)),L0 _ (R0.mpr (.inr k2))⟩
   ·obtain⟨k1,k2⟩:=ih _ (by omega) ((lo+hi) / 2+1) hi rfl (by omega) p hh hp
    exact ⟨L0 _ (R0.mpr (.inl k1)),L0 _ (R0.mpr (.inl k2))⟩
noncomputable def cEa:Con:=λargs Q=>∃(n:Int) (V:Vt) (p:Int×Int),args=[.fz (pdD (tdE n V)),.fz (prD p)]/\1<=n/\n<=31/\[p.1,p.2]∈hl 0 (n - 1)/\p.1 < p.2/\∀o,Q (.fz (enD (anw V p))) o
noncomputable def fEa(V:Vt):PyData->PyData
 | .tuple [.int a,.int b]=>enD (V (a,b))
 | _=>.none
theorem scEa:FnScope ["told","stretch","waits","values"] ["told","stretch"] (defScope (top 14)):=⟨rfl,rfl,rfl,by decide +kernel,rfl,by decide +kernel,by decide +kernel⟩
theorem ok_ea{f:Addr}{fd:FuncData}(F:Fun K "entry_anew" "entry_anew" (top 14) f fd)(C:CalsEa P w K mg base):FnOk P w K mg base CX0 2 f fd ["told","stretch"] (conSp K cEa):=by
 have S:=scEa
 refine wfn F S (λcdv A outer s H E hr=>(s_cons (s_set (i:=2) S.nd rfl (Or.inl rfl) (w_ix rfl (wx (w_pget (hu6_of hr) (wn 0) (wn 1))) (wx w_int)))
     (s_cons (s_set (i:=3) S.nd rfl (Or.inl rfl) (w_fn C.put_together (hr.mono (by first|decide|omega)) (wa_cons (wx (w_comp rfl (own:=["half"]) (fr:=[0]) (by kernel_rfl) (i_seq rfl (w_fn C.two_halves (hr.mono (by first|decide|omega)) (wa_cons (wn 1) wa_nil))) (λ_ _ _ _=>(g_name (i:=0) (by decide +kernel:U4 (["half","told"]:List Str)) rfl (Or.inl rfl))) (λ_ _ _ _=>if0) (λ_ _ _ _=>(w_pget (hu6_of hr) (wn 1) (wn 0))))) wa_nil)))
     (s_one (s_ret (w_bin ok_add op_addD (wx (w_fn C.raised (hr.mono (by first|decide|omega)) (wa_cons (wn 3) (wa_cons (wn 1) (wa_cons (wn 2) wa_nil))))) (wx (w_tup (wa_cons (wx (wv 2)) wa_nil))))))))) ?_ ?_
 ·rintro args Qd ⟨n,V,p,rfl,_⟩;rfl
 ·rintro args Qd ⟨n,V,p,rfl,n1,n2,hp,hlt,q⟩
  refine ⟨noOw_of rfl,?_⟩
  obtain⟨a,b,e,h1,h2,h3⟩:=hl_in _ 0 (n - 1) rfl (by omega) _ hp
  simp only[List.cons.injEq,and_true]at e
  obtain⟨s1,s2⟩:=hl_sub _ 0 (n - 1) rfl (by omega) p hp hlt
  refine ⟨tdE n V,[p.1,p.2],_,rfl,rfl,tdE_mem hp,_,rfl,?_⟩
  refine ⟨p.1,p.2,rfl,by omega,by omega,by omega,by omega,λo=>?_⟩
  refine ⟨lz rfl,mapC (fEa V) ?_ ?_⟩
  ·intro d hd N hN
   have hd:d∈[prD (hf1 p),prD (hf2 p)]:=hd
   simp only[X0,Q4,or_false]at hd
   rcases hd with rfl|rfl
   ·exact ⟨tdE n V,[(hf1 p).1,(hf1 p).2],_,rfl,rfl,tdE_mem s1,hN⟩
   ·exact ⟨tdE n V,[(hf2 p).1,(hf2 p).2],_,rfl,rfl,tdE_mem s2,hN⟩
  ·refine ⟨[(V (hf1 p)).t,(V (hf1 p)).l,(V (hf1 p)).g,(V (hf1 p)).w],[(V (hf2 p)).t,(V (hf2 p)).l,(V (hf2 p)).g,(V (hf2 p)).w],rfl,rfl,rfl,λo=>?_⟩
   exact ⟨_,_,_,_,p.1,p.2,rfl,by omega,by omega,by omega,λo=>⟨le_size (by simp),q _⟩⟩
end
theorem en_eq(x y:En):same (enD x) (enD y)=decide (x=y):=by
 rw[same_tup]
 obtain⟨a,b,c,d⟩:=x
 obtain⟨a',b',c',d'⟩:=y
 exact decide_eq_decide.mpr (by simp)
noncomputable def rgE(xs:List Int)(V:Vt)(p:Int×Int):Bool:=if p.1=p.2 then decide (V p=cen V xs.length p.1 (xs.getD p.1.toNat 0)) else decide (V p=anw V p)
section
variable {P:Program}{w:World}{K:n0}{mg:Str->Option Value}{base:Heap}
structure CalsIr(P:Program)(w:World)(K:n0)(mg:Str->Option Value)(base:Heap):Prop where
 cell_entry:Cal P w K mg base 4 "cell_entry" ["told","side","place","number"] (conSp K cCe)
 entry_anew:Cal P w K mg base 2 "entry_anew" ["told","stretch"] (conSp K cEa)
noncomputable def cIr:Con:=λargs Q=>∃(xs:List Int) (V:Vt) (p:Int×Int),args=[.fz (liD xs),.fz (pdD (tdE xs.length V)),.fz (prD p)]/\1<=xs.length/\xs.length<=31/\[p.1,p.2]∈hl 0 ((xs.length:Int) - 1)/\∀o,Q (.fz (.bool (rgE xs V p))) o
theorem scIr:FnScope ["numbers","told","stretch","place"] ["numbers","told","stretch"] (defScope (top 17)):=⟨rfl,rfl,rfl,by decide +kernel,rfl,by decide +kernel,by decide +kernel⟩
theorem ok_ir{f:Addr}{fd:FuncData}(F:Fun K "is_right" "is_right" (top 17) f fd)(T:Txt mg)(C:CalsIr P w K mg base):FnOk P w K mg base CX0 5 f fd ["numbers","told","stretch"] (conSp K cIr):=by
 have S:=scIr
 refine wfn F S (λcdv A outer s H E hr=>(s_cons (s_set (i:=3) S.nd rfl (Or.inl rfl) (w_ix rfl (wn 2) (wx w_int)))
     (s_cons (s_if (t_cmp ok_eq (op_eqE (K:=K) rfl hr.units) (wn 3) (wx (w_ix rfl (wn 2) (wx w_int)))) (s_one (s_ret (w_cmp ok_eq (op_eqE (K:=K) rfl hr.units) (wx (w_pget (hu6_of hr) (wn 1) (wn 2))) (wx (w_fn C.cell_entry (hr.mono (by first|decide|omega)) (wa_cons (wn 1) (wa_cons (wx (w_callB ok_len (call_lenK (K:=K) rfl) T.len_ PySem.boot_len (wa_cons (wn 0) wa_nil))) (wa_cons (wn 3) (wa_cons (wx (w_ix rfl (wn 0) (wn 3))) wa_nil))))))))) s_nil)
     (s_one (s_ret (w_cmp ok_eq (op_eqE (K:=K) rfl hr.units) (wx (w_pget (hu6_of hr) (wn 1) (wn 2))) (wx (w_fn C.entry_anew (hr.mono (by first|decide|omega)) (wa_cons (wn 1) (wa_cons (wn 2) wa_nil)))))))))) ?_ ?_
 ·rintro args Qd ⟨xs,V,p,rfl,_⟩;rfl
 ·rintro args Qd ⟨xs,V,p,rfl,n1,n2,hp,q⟩
  refine ⟨noOw_of rfl,?_⟩
  obtain⟨a,b,e,h1,h2,h3⟩:=hl_in _ 0 ((xs.length:Int) - 1) rfl (by omega) _ hp
  simp only[List.cons.injEq,and_true]at e
  have nn:∀e:En,Nice 1 (enD e):=λe=>Nice.tup _
  refine ⟨_,rfl,_,rfl,ite2 (λh=>?_) (λh=>?_)⟩
  ·have h:p.1=p.2:=of_decide_eq_true h
   have er:rgE xs V p=decide (V p=cen V xs.length p.1 (xs.getD p.1.toNat 0)):=by unfold rgE;rw[if_pos h]
   rw[er,<- en_eq]at q
   have hx:atI (xs.map G0) p.1=some (.int (xs.getD p.1.toNat 0)):=by
    obtain⟨k,hk⟩:=L1 (show 0<=p.1 by omega)
    have hkl:k < xs.length:=by omega
    rw[hk]
    exact atI_nat (by rw[O0,y0 hkl];show _=some (G0 (xs.getD k 0));rw[Z1,y0 hkl];rfl)
   refine ⟨tdE xs.length V,[p.1,p.2],_,rfl,rfl,tdE_mem hp,?_⟩
   refine ⟨_,hx,(xs.length:Int),V,p.1,_,by rw[j0];rfl,by omega,by omega,by rw[<- h]at hp;exact hp,λo=>?_⟩
   exact ⟨(nn _).p,(nn _).p,(nn _).sh (by decide),(nn _).sh (by decide),mix_tup _ _,q _⟩
  ·have h:¬p.1=p.2:=λz=>h (decide_eq_true z)
   have er:rgE xs V p=decide (V p=anw V p):=by unfold rgE;rw[if_neg h]
   rw[er,<- en_eq]at q
   refine ⟨tdE xs.length V,[p.1,p.2],_,rfl,rfl,tdE_mem hp,?_⟩
   refine ⟨(xs.length:Int),V,p,rfl,by omega,by omega,hp,by omega,λo=>?_⟩
   exact ⟨(nn _).p,(nn _).p,(nn _).sh (by decide),(nn _).sh (by decide),mix_tup _ _,q _⟩
end
noncomputable abbrev rowE(V:Vt)(p:Int×Int):PyData:=.tuple [prD p,enD (V p)]
noncomputable def isEnE(p:Int×Int):PyData->Bool
 | .tuple [x,y]=>areW 2 x&&(same x (prD p)&&areW 4 y)
 | _=>false
theorem isEnE_len{p:Int×Int}{xs:List PyData}(h:xs.length≠2):isEnE p (.tuple xs)=false:=by
 rcases xs with _|⟨a,_|⟨c,_|⟨d,xs⟩⟩⟩<;>first|rfl|simp at h
theorem areW_ints{n:Nat}{d:PyData}(h:areW n d=true):∃ns:List Int,d=tupD ns/\ns.length=n:=by
 cases d<;>simp only[areW,W1]at h<;>first|(cases h;done)|skip
 obtain⟨ns,e⟩:=ints_of h.2
 refine ⟨ns,by rw[e],?_⟩
 have:=of_decide_eq_true h.1
 rw[e,j0]at this
 exact this
theorem areW_tup(l:List Int):areW l.length (tupD l)=true:=by
 show (decide ((l.map G0).length=l.length)&&(l.map G0).all isI)=true
 rw[j0,decide_eq_true rfl,Bool.true_and,E7]
 exact J3.mpr λx _=>rfl
theorem isEnE_mp{p:Int×Int}{d:PyData}(h:isEnE p d=true):∃e:En,d=.tuple [prD p,enD e]:=by
 cases d with
 | tuple xs =>
  rcases xs with _|⟨x,_|⟨y,_|⟨f,xs⟩⟩⟩<;>first|(cases h;done)|skip
  simp only[isEnE,W1]at h
  obtain⟨h1,h2,h3⟩:=h
  obtain⟨q,rfl,_⟩:=areW_ints h1
  obtain⟨v,rfl,hv⟩:=areW_ints h3
  have h2:same (tupD q) (tupD [p.1,p.2])=true:=h2
  rw[same_tup]at h2
  rw[of_decide_eq_true h2]
  rcases v with _|⟨a,_|⟨b,_|⟨c,_|⟨d,_|⟨e,v⟩⟩⟩⟩⟩<;>first|exact ⟨⟨_,_,_,_⟩,rfl⟩|simp at hv
 | _=>cases h
theorem isEnE_mpr(p:Int×Int)(e:En):isEnE p (.tuple [prD p,enD e])=true:=by
 have e1:areW 2 (tupD [p.1,p.2])=true:=areW_tup [p.1,p.2]
 have e2:areW 4 (enD e)=true:=areW_tup [e.t,e.l,e.g,e.w]
 have e3:same (tupD [p.1,p.2]) (tupD [p.1,p.2])=true:=same_self _
 show (areW 2 (tupD [p.1,p.2])&&(same (tupD [p.1,p.2]) (tupD [p.1,p.2])&&areW 4 (enD e)))=true
 rw[e1,e2,e3]
 rfl
theorem ens_E:∀{ls:List (Int×Int)}{ds:List PyData},ls.Nodup->ds.length=ls.length->(∀p∈ls.zip ds,isEnE p.1 p.2=true)->∃V:Vt,ds=ls.map (rowE V)
 | [],[],_,_,_=>⟨λ_=>⟨0,0,0,0⟩,rfl⟩
 | [],_ :: _,_,h,_=>by simp at h
 | _ :: _,[],_,h,_=>by simp at h
 | b :: ls,d :: ds,hn,hl,h=>by
  have h0:isEnE b d=true:=h (b,d) (by rw[G5];exact P0)
  obtain⟨x,rfl⟩:=isEnE_mp h0
  have hn:=E3.mp hn
  obtain⟨V,e⟩:=ens_E (ls:=ls) (ds:=ds) hn.2 (by simpa using hl) λp hp=>h p (by rw[G5];exact L0 _ hp)
  refine ⟨λc=>if c=b then x else V c,?_⟩
  rw[B1]
  congr 1
  ·unfold rowE
   dsimp only
   rw[if_pos rfl]
  ·rw[e]
   refine Q2 λc hc=>?_
   unfold rowE
   dsimp only
   rw[if_neg (λz:c=b=>hn.1 (z ▸ hc))]
theorem rowE_inj{V V':Vt}{ls:List (Int×Int)}(h:ls.map (rowE V)=ls.map (rowE V')):∀p∈ls,V p=V' p:=λp hp=>by
 have h:=List.map_inj_left.mp h p hp
 injection h with h
 injection h with _ h
 injection h with h _
 have h:=rw_inj h
 simp only[List.cons.injEq,and_true]at h
 obtain⟨h1,h2,h3,h4⟩:=h
 cases e:V p;cases e':V' p
 rw[e,e']at h1 h2 h3 h4
 simp only[En.mk.injEq]
 exact ⟨h1,h2,h3,h4⟩
theorem strP_hl{n:Int}(h:1<=n){p:Int×Int}:p∈strP n ↔ [p.1,p.2]∈hl 0 (n - 1):=⟨λhp=>(strP_in h hp).1,λhp=>strP_of hp⟩
theorem wts_congr{V V':Vt}{n:Int}(h1:1<=n)(h:∀q,[q.1,q.2]∈hl 0 (n - 1)->V q=V' q){p:Int×Int}(hp:[p.1,p.2]∈hl 0 (n - 1)):wts V n p=wts V' n p:=by
 unfold wts
 congr 1
 refine Q2 λq hq=>?_
 rw[h q (arnd_in _ 0 (n - 1) rfl (by omega) hp q hq)]
theorem rgE_congr{xs:List Int}{V V':Vt}(h1:1<=xs.length)(h:∀q,[q.1,q.2]∈hl 0 ((xs.length:Int) - 1)->V q=V' q){p:Int×Int}(hp:[p.1,p.2]∈hl 0 ((xs.length:Int) - 1)):rgE xs V p=rgE xs V' p:=by
 unfold rgE
 split
 ·rename_i e
  unfold cen
  have hp':[p.1,p.1]∈hl 0 ((xs.length:Int) - 1):=by rw[<- e]at hp;exact hp
  rw[h p hp,wts_congr (by omega) h (p:=(p.1,p.1)) hp']
 ·rename_i e
  obtain⟨a,b,e',k1,k2,k3⟩:=hl_in _ 0 ((xs.length:Int) - 1) rfl (by omega) _ hp
  simp only[List.cons.injEq,and_true]at e'
  obtain⟨s1,s2⟩:=hl_sub _ 0 ((xs.length:Int) - 1) rfl (by omega) p hp (by omega)
  unfold anw
  rw[h p hp,h _ s1,h _ s2]
theorem hl_nodup:∀(n:Nat) (lo hi:Int),(hi - lo).toNat=n->lo<=hi->(hl lo hi).Nodup:=by
 intro n
 induction n using m4 with
 | _ n ih =>
  intro lo hi e h
  by_cases hlt:lo < hi
  ·rw[hl_lt hlt,E3,B6]
   refine ⟨λz=>?_,ih _ (by omega) _ _ rfl (by omega),ih _ (by omega) _ _ rfl (by omega),λa ha b hb z=>?_⟩
   ·rcases R0.mp z with z|z
    ·obtain⟨a,b,e',k1,k2,k3⟩:=hl_in _ _ _ rfl (by omega) _ z
     simp only[List.cons.injEq,and_true]at e'
     omega
    ·obtain⟨a,b,e',k1,k2,k3⟩:=hl_in _ _ _ rfl (by omega) _ z
     simp only[List.cons.injEq,and_true]at e'
     omega
   ·subst z
    obtain⟨c,d,e1,k1,k2,k3⟩:=hl_in _ _ _ rfl (by omega) _ ha
    obtain⟨c',d',e2,j1,j2,j3⟩:=hl_in _ _ _ rfl (by omega) _ hb
    rw[e1]at e2
    simp only[List.cons.injEq,and_true]at e2
    omega
  ·rw[hl_ge hlt]
   exact E3.mpr ⟨Q4,List.nodup_nil⟩
theorem strP_nodup{n:Int}(h:1<=n):(strP n).Nodup:=by
 have h1:(strS n).Nodup:=(srtL_perm _ _).nodup_iff.mpr (hl_nodup _ 0 (n - 1) rfl (by omega))
 unfold strP
 rw[i5,P2]
 refine h1.imp_of_mem λ{a b} ha hb hab z=>?_
 obtain⟨c,d,rfl,_⟩:=hl_in _ 0 (n - 1) rfl (by omega) a (strS_mem.mp ha)
 obtain⟨c',d',rfl,_⟩:=hl_in _ 0 (n - 1) rfl (by omega) b (strS_mem.mp hb)
 have z:(c,d)=(c',d'):=z
 injection z with z1 z2
 exact hab (by rw[z1,z2])
theorem tdE_nodup{n:Int}{V:Vt}(h:1<=n):((tdE n V).map (·.1)).Nodup:=by
 unfold tdE
 rw[S0,i5,P2]
 refine (strP_nodup h).imp λ{a b} hab z=>?_
 have z:[a.1,a.2]=[b.1,b.2]:=z
 simp only[List.cons.injEq,and_true]at z
 exact hab (Prod.ext z.1 z.2)
section
variable {P:Program}{w:World}{K:n0}{mg:Str->Option Value}{base:Heap}
structure CalsIe(P:Program)(w:World)(K:n0)(mg:Str->Option Value)(base:Heap):Prop where
 are_wholes:Cal P w K mg base 2 "are_wholes" ["thing","many"] (conSp K cAreW)
noncomputable def cIe:Con:=λargs Q=>∃(p:Int×Int) (d:PyData),args=[.fz (prD p),.fz d]/\okD d=true/\∀o,Q (.fz (.bool (isEnE p d))) o
theorem scIe:FnScope ["stretch","thing"] ["stretch","thing"] (defScope (top 16)):=⟨rfl,rfl,rfl,by decide +kernel,rfl,by decide +kernel,by decide +kernel⟩
theorem ok_ie{f:Addr}{fd:FuncData}(F:Fun K "is_entry" "is_entry" (top 16) f fd)(T:Txt mg)(C:CalsIe P w K mg base):FnOk P w K mg base CX0 3 f fd ["stretch","thing"] (conSp K cIe):=by
 have S:=scIe
 refine wfn F S (λcdv A outer s H E hr=>(s_cons (s_if (t_w (t_or (t_not (t_val (w_isiA .tup rfl T.isinstance_ T.tuple_ boot_tuple (wn 1)))) (t_or1 (t_cmp ok_ne (op_neE (K:=K) rfl hr.units) (wx (w_callB ok_len (call_lenK (K:=K) rfl) T.len_ PySem.boot_len (wa_cons (wn 1) wa_nil))) (wx w_int))))) (s_one (s_ret w_bl)) s_nil)
     (s_one (s_ret (w_and (w_fn C.are_wholes (hr.mono (by first|decide|omega)) (wa_cons (wx (w_ix rfl (wn 1) (wx w_int))) (wa_cons (wx w_int) wa_nil))) (w_and (w_cmp ok_eq (op_eqE (K:=K) rfl hr.units) (wx (w_ix rfl (wn 1) (wx w_int))) (wn 0)) (w_one (w_fn C.are_wholes (hr.mono (by first|decide|omega)) (wa_cons (wx (w_ix rfl (wn 1) (wx w_int))) (wa_cons (wx w_int) wa_nil)))))))))) ?_ ?_
 ·rintro args Qd ⟨p,d,rfl,_⟩;rfl
 ·rintro args Qd ⟨p,d,rfl,hd,q⟩
  refine ⟨noOw_of rfl,?_⟩
  cases d with
  | dict es=>exact ⟨hd,q _⟩
  | int i=>exact q _
  | bool b=>exact q _
  | none=>exact q _
  | str x=>exact q _
  | list xs=>exact q _
  | tuple xs =>
   refine ite2 (λh=>?_) (λh=>?_)
   ·have h:(!decide ((xs.length:Int)=2))=true:=h
    rw[isEnE_len (λz=>by rw[z]at h;cases h)]at q
    exact q _
   have hl:xs.length=2:=by
    have h:¬(!decide ((xs.length:Int)=2))=true:=h
    simp at h
    omega
   obtain⟨x,y,rfl⟩:∃x y,xs=[x,y]:=by
    rcases xs with _|⟨a,_|⟨c,_|⟨d,xs⟩⟩⟩<;>first|exact ⟨_,_,rfl⟩|simp at hl
   have hd:okAll [x,y]=true:=hd
   have hx:=okAll_mem hd x (by simp)
   have hy:=okAll_mem hd y (by simp)
   have q:∀o,Qd (.fz (.bool (areW 2 x&&(same x (prD p)&&areW 4 y)))) o:=q
   refine ⟨_,rfl,x,2,rfl,hx,by decide,λo=>?_⟩
   cases e1:areW 2 x with
   | false=>rw[e1]at q;exact q _
   | true =>
    rw[e1]at q
    obtain⟨ns,rfl,_⟩:=areW_ints e1
    have k1:=Nice.tup ns
    have k2:=Nice.tup [p.1,p.2]
    refine ⟨_,rfl,k1.p,k2.p,k1.sh (by decide),k2.sh (by decide),mix_tup ns [p.1,p.2],?_⟩
    cases e2:same (tupD ns) (prD p) with
    | false =>
     rw[e2]at q
     refine ite2 (λh=>?_) (λh=>q _)
     have h:same (tupD ns) (prD p)=true:=h
     rw[e2]at h;cases h
    | true =>
     rw[e2]at q
     refine ite2 (λh=>?_) (λh=>absurd (show same (tupD ns) (prD p)=true from e2) h)
     exact ⟨_,rfl,y,4,rfl,hy,by decide,λo=>q _⟩
structure CalsHe(P:Program)(w:World)(K:n0)(mg:Str->Option Value)(base:Heap):Prop where
 stretches:Cal P w K mg base 2 "stretches" ["side"] (conSp K cStr)
 is_entry:Cal P w K mg base 3 "is_entry" ["stretch","thing"] (conSp K cIe)
 is_right:Cal P w K mg base 5 "is_right" ["numbers","told","stretch"] (conSp K cIr)
noncomputable def Hld(xs:List Int)(d:PyData):Prop:=∃V:Vt,d=.list ((strP xs.length).map (rowE V))/\∀p∈strP xs.length,rgE xs V p=true
noncomputable def okP(d:PyData):Prop:=okD d=true\/∃ps:List (List Int×PyData),d=pdD ps
theorem okP_list{ds:List PyData}(h:okP (.list ds)):okAll ds=true:=by
 rcases h with h|⟨ps,h⟩
 ·exact h
 ·cases h
noncomputable def cHe:Con:=λargs Q=>∃(xs:List Int) (d:PyData),args=[.fz (liD xs),.fz d]/\okP d/\1<=xs.length/\xs.length<=31/\∀(t:Bool) (o:Ev),(t=true ↔ Hld xs d)->Q (.fz (.bool t)) o
noncomputable def unP:PyData->Int×Int
 | .tuple [.int a,.int b]=>(a,b)
 | _=>(0,0)
noncomputable def fEn:PyData->PyData
 | .tuple [x,y]=>.bool (isEnE (unP x) y)
 | _=>.none
theorem scHe:FnScope ["numbers","thing","pieces","told"] ["numbers","thing"] (defScope (top 15)):=⟨rfl,rfl,rfl,by decide +kernel,rfl,by decide +kernel,by decide +kernel⟩
theorem ok_he{f:Addr}{fd:FuncData}(F:Fun K "holds_entries" "holds_entries" (top 15) f fd)(T:Txt mg)(C:CalsHe P w K mg base):FnOk P w K mg base CX0 6 f fd ["numbers","thing"] (conSp K cHe):=by
 have S:=scHe
 refine wfn F S (λcdv A outer s H E hr=>(s_cons (s_set (i:=2) S.nd rfl (Or.inl rfl) (w_fn C.stretches (hr.mono (by first|decide|omega)) (wa_cons (wx (w_callB ok_len (call_lenK (K:=K) rfl) T.len_ PySem.boot_len (wa_cons (wn 0) wa_nil))) wa_nil)))
     (s_cons (s_if (t_w (t_or (t_not (t_val (w_isiP .lst rfl T.isinstance_ T.list_ boot_list (wn 1)))) (t_or1 (t_cmp ok_ne (op_neE (K:=K) rfl hr.units) (wx (w_callB ok_len (call_lenK (K:=K) rfl) T.len_ PySem.boot_len (wa_cons (wn 1) wa_nil))) (wx (w_callB ok_len (call_lenK (K:=K) rfl) T.len_ PySem.boot_len (wa_cons (wn 2) wa_nil))))))) (s_one (s_ret w_bl)) s_nil)
     (s_cons (s_if (t_not (t_val (w_callB ok_all (call_allK (K:=K) rfl rfl) T.all_ boot_all (wa_cons (wx (w_comp rfl (own:=["piece","entry"]) (fr:=[]) (by kernel_rfl) (i_zip2 rfl T.zip_ (wa_cons (wx (wv 2)) (wa_cons (wx (wv 1)) wa_nil))) (λ_ _ _ _=>(g_tup rfl rfl (gs_cons (g_name (i:=0) (by decide +kernel:U4 (["piece","entry"]:List Str)) rfl (Or.inl rfl)) (gs_cons (g_name (i:=1) (by decide +kernel:U4 (["piece","entry"]:List Str)) rfl (Or.inl rfl)) gs_nil)))) (λ_ _ _ _=>if0) (λ_ _ _ _=>(w_fn C.is_entry (hr.mono (by first|decide|omega)) (wa_cons (wn 0) (wa_cons (wn 1) wa_nil)))))) wa_nil)))) (s_one (s_ret w_bl)) s_nil)
     (s_cons (s_set (i:=3) S.nd rfl (Or.inr rfl) (w_dictPd rfl rfl (hu6_of hr) T.dict_ (by decide +kernel) (wa_cons (wn 1) wa_nil)))
     (s_one (s_ret (w_callB ok_all (call_allK (K:=K) rfl rfl) T.all_ boot_all (wa_cons (wx (w_comp rfl (own:=["piece"]) (fr:=[0,3]) (by kernel_rfl) (i_seq rfl (wv 2)) (λ_ _ _ _=>(g_name (i:=0) (by decide +kernel:U4 (["piece","numbers","told"]:List Str)) rfl (Or.inl rfl))) (λ_ _ _ _=>if0) (λ_ _ _ _=>(w_fn C.is_right (hr.mono (by first|decide|omega)) (wa_cons (wn 1) (wa_cons (wn 2) (wa_cons (wn 0) wa_nil))))))) wa_nil))))))))) ?_ ?_
 ·rintro args Qd ⟨xs,d,rfl,_⟩;rfl
 ·rintro args Qd ⟨xs,d,rfl,hd,n1,n2,q⟩
  refine ⟨noOw_of rfl,?_⟩
  have hn:(1:Int)<=(xs.length:Int):=by omega
  have hl:=strP_len hn
  with_reducible refine cutS (λρ=>ρ=[some (.fz (liD xs)),some (.fz d),some (.ow (.list ((strP xs.length).map prD))),none]) ?_ ?_
  ·intro N hN
   exact ⟨(xs.length:Int),by rw[j0];rfl,by omega,by omega,λo=>hN _ rfl⟩
  rintro _ rfl
  with_reducible refine cutS (λρ=>∃ds,d=.list ds/\ds.length=(strP xs.length).length/\ρ=[some (.fz (liD xs)),some (.fz (.list ds)),some (.ow (.list ((strP xs.length).map prD))),none]) ?_ ?_
  ·intro N hN
   have no:(∀ds,d≠.list ds)->(false=true ↔ Hld xs d):=λh=>⟨λz=>(by cases z),λ⟨V,z,_⟩=>(h _ z).elim⟩
   rcases hd with hd|⟨ps,rfl⟩
   rotate_left
   ·exact .inr ⟨ps,rfl,q false _ (no λ_ z=>by cases z)⟩
   refine .inl ?_
   cases d with
   | dict es=>exact ⟨hd,q false _ (no λ_ z=>by cases z)⟩
   | int i=>exact q false _ (no λ_ z=>by cases z)
   | bool b=>exact q false _ (no λ_ z=>by cases z)
   | none=>exact q false _ (no λ_ z=>by cases z)
   | str x=>exact q false _ (no λ_ z=>by cases z)
   | tuple xs=>exact q false _ (no λ_ z=>by cases z)
   | list ds =>
    refine ite2 (λh=>?_) (λh=>?_)
    ·have h:(!decide ((ds.length:Int)=(((strP xs.length).map prD).length:Int)))=true:=h
     refine q false _ ⟨λz=>(by cases z),λ⟨V,z,_⟩=>?_⟩
     injection z with z
     rw[z,j0,j0]at h
     simp at h
    ·refine hN _ ⟨ds,rfl,?_,rfl⟩
     have h:¬(!decide ((ds.length:Int)=(((strP xs.length).map prD).length:Int)))=true:=h
     rw[j0]at h
     simp at h
     omega
  rintro _ ⟨ds,rfl,hds,rfl⟩
  with_reducible refine cutS (λρ=>∃V,ds=(strP xs.length).map (rowE V)/\ρ=[some (.fz (liD xs)),some (.fz (.list ds)),some (.fz (.list ((strP xs.length).map prD))),none]) ?_ ?_
  ·intro N hN
   have hz:zipD ((strP xs.length).map prD) ds=((strP xs.length).zip ds).map λp=>V1 [prD p.1,p.2]:=by
    unfold zipD
    rw[List.zip_map_left,S0]
    rfl
   refine ⟨by rw[hz,j0,r8];exact le_size (by omega),?_⟩
   rw[hz]
   refine mapC fEn ?_ ?_
   ·intro d' hd' N' hN'
    obtain⟨⟨b,e⟩,hb,rfl⟩:=A1.mp hd'
    have hb:=L5 hb
    exact ⟨rfl,b,e,rfl,okAll_mem (okP_list hd) e hb.2,λo=>hN'⟩
   ·have em:(((strP xs.length).zip ds).map λp=>V1 [prD p.1,p.2]).map fEn=(((strP xs.length).zip ds).map λp=>isEnE p.1 p.2).map J4:=by
     rw[S0,S0]
     rfl
    refine ⟨_,em,?_⟩
    cases ea:(((strP xs.length).zip ds).map λp=>isEnE p.1 p.2).all id with
    | false =>
     refine q false _ ⟨λz=>(by cases z),λ⟨V,z,_⟩=>?_⟩
     injection z with z
     exfalso
     rw[z]at ea
     have:(((strP xs.length).zip ((strP xs.length).map (rowE V))).map λp=>isEnE p.1 p.2).all id=true:=by
      rw[E7]
      refine J3.mpr λp hp=>?_
      rw[W8]at hp
      obtain⟨⟨b,c⟩,hb,rfl⟩:=A1.mp hp
      have hbc:b=c:=by
       have:∀{l:List (Int×Int)},(b,c)∈l.zip l->b=c:=by
        intro l
        induction l with
        | nil=>intro h;simp at h
        | cons x l ih =>
         intro h
         rw[G5]at h
         rcases X0.mp h with z|z
         ·injection z with z1 z2;rw[z1,z2]
         ·exact ih z
       exact this hb
      subst hbc
      exact isEnE_mpr b (V b)
     rw[this]at ea
     cases ea
    | true =>
     obtain⟨V,e⟩:=ens_E (strP_nodup hn) hds λp hp=>by
      rw[E7]at ea
      exact J3.mp ea p hp
     exact hN _ ⟨V,e,rfl⟩
  rintro _ ⟨V,rfl,rfl⟩
  with_reducible refine cutS (λρ=>ρ=[some (.fz (liD xs)),some (.fz (.list ((strP xs.length).map (rowE V)))),some (.fz (.list ((strP xs.length).map prD))),some (.ow (pdD (tdE xs.length V)))]) ?_ ?_
  ·intro N hN
   refine ⟨tdE xs.length V,?_,tdE_nodup hn,hN _ rfl⟩
   unfold tdE
   rw[S0]
   rfl
  rintro _ rfl
  refine ⟨le_size (by rw[j0];omega),mapC (λd=>.bool (rgE xs V (unP d))) ?_ ?_⟩
  ·intro d hd N' hN'
   obtain⟨b,hb,rfl⟩:=A1.mp hd
   exact ⟨xs,V,b,rfl,n1,n2,(strP_hl hn).mp hb,λo=>⟨rfl,hN'⟩⟩
  ·refine ⟨(strP xs.length).map (rgE xs V),?_,q _ _ ⟨λh=>?_,λ⟨V',h,hr⟩=>?_⟩⟩
   ·rw[S0,S0]
    rfl
   ·rw[E7]at h
    exact ⟨V,rfl,J3.mp h⟩
   ·injection h with h
    have hv:=rowE_inj h
    rw[E7]
    refine J3.mpr λp hp=>?_
    show rgE xs V p=true
    rw[rgE_congr n1 (λq hq=>hv q ((strP_hl hn).mpr hq)) ((strP_hl hn).mp hp)]
    exact hr p hp
end
theorem mn_if(x z:Int):min x z=if z < x then z else x:=by rw[Int.min_def];split<;>split<;>omega
theorem mx_if(x z:Int):max x z=if z > x then z else x:=by rw[Int.max_def];split<;>split<;>omega
noncomputable def wdB(p q:Int×Int):Bool:=!decide (q=p)&&(decide (q.1<=p.1)&&decide (p.2<=q.2))
theorem wd_no{p q:Int×Int}(h:¬(q.1<=p.1/\p.2<=q.2)):wdB p q=false:=by
 unfold wdB
 rw[P6,P6,decide_eq_false_iff_not,decide_eq_false_iff_not]
 by_cases z:q.1<=p.1
 ·exact .inr (.inr λy=>h ⟨z,y⟩)
 ·exact .inr (.inl z)
theorem fil_no{lo hi:Int}{p:Int×Int}(hle:lo<=hi)(h:∀a b:Int,lo<=a->a<=b->b<=hi->¬(a<=p.1/\p.2<=b)):((hl lo hi).map prI).filter (wdB p)=[]:=by
 rw[M6]
 intro q hq
 obtain⟨r,hr,rfl⟩:=A1.mp hq
 obtain⟨a,b,rfl,h1,h2,h3⟩:=hl_in _ lo hi rfl hle r hr
 rw[wd_no (h a b h1 h2 h3)]
 decide
theorem ar_perm{p:Int×Int}:∀(n:Nat) (lo hi:Int),(hi - lo).toNat=n->lo<=hi->p.1<=p.2->[p.1,p.2]∈hl lo hi->(((hl lo hi).map prI).filter (wdB p)).Perm (arnd lo hi p):=by
 intro n
 induction n using m4 with
 | _ n ih =>
  intro lo hi e hle hpp h
  obtain⟨a,b,e',h1,h2,h3⟩:=hl_in _ lo hi rfl hle _ h
  simp only[List.cons.injEq,and_true]at e'
  by_cases hn:(lo,hi)=p
  ·rw[arnd_end hn]
   have hh:wdB p (prI [lo,hi])=false:=by
    show wdB p (lo,hi)=false
    unfold wdB
    rw[decide_eq_true hn]
    rfl
   by_cases hlt:lo < hi
   ·rw[hl_lt hlt,B1,j8 (by rw[hh];decide),O3,Y8]
    rw[<- hn]
    rw[fil_no (by omega) (λa b k1 k2 k3 z=>by have:=z.1;have:a<=lo:=this;omega),fil_no (by omega) (λa b k1 k2 k3 z=>by have:=z.2;have:hi<=b:=this;omega)]
    exact .nil
   ·rw[hl_ge hlt,B1,j8 (by rw[hh];decide)]
    exact .nil
  ·have hlt:=hl_lt_of h hn
   have hf:=hl_half hle h hn
   have hh:wdB p (prI [lo,hi])=true:=by
    show wdB p (lo,hi)=true
    unfold wdB
    rw[decide_eq_false hn,decide_eq_true (show lo<=p.1 by omega),decide_eq_true (show p.2<=hi by omega)]
    rfl
   rw[hl_lt hlt,B1,List.filter_cons_of_pos hh,O3,Y8,arnd_go hlt hn]
   refine List.Perm.cons _ ?_
   split at hf
   ·rename_i hc
    rw[if_pos hc,fil_no (by omega) (λa b k1 k2 k3 z=>by omega),j7]
    exact ih _ (by omega) lo ((lo+hi) / 2) rfl (by omega) hpp hf
   ·rename_i hc
    rw[if_neg hc,fil_no (lo:=lo) (hi:=(lo+hi) / 2) (by omega) (λa b k1 k2 k3 z=>by omega),S3]
    exact ih _ (by omega) ((lo+hi) / 2+1) hi rfl (by omega) hpp hf
theorem perm_sumI{l m:List Int}(h:l.Perm m):l.sum=m.sum:=by
 induction h with
 | nil=>rfl
 | cons x _ ih=>rw[e7,e7,ih]
 | swap x y l=>simp only[e7];omega
 | trans _ _ h1 h2=>rw[h1,h2]
theorem wts_eq{V:Vt}{n:Int}{p:Int×Int}(h1:1<=n)(hp:[p.1,p.2]∈hl 0 (n - 1)):(((strP n).filter (wdB p)).map λq=>(V q).w).sum=wts V n p:=by
 obtain⟨a,b,e,k1,k2,k3⟩:=hl_in _ 0 (n - 1) rfl (by omega) _ hp
 simp only[List.cons.injEq,and_true]at e
 unfold wts
 refine perm_sumI (List.Perm.map _ ?_)
 refine List.Perm.trans ?_ (ar_perm _ 0 (n - 1) rfl (by omega) (by omega) hp)
 unfold strP strS
 exact ((srtL_perm _ _).map prI).filter _
noncomputable def fLw(V:Vt):PyData->PyData
 | .tuple [.int a,.int b]=>.int (V (a,b)).w
 | _=>.none
noncomputable def unP':PyData->Int×Int
 | .tuple [.int a,.int b]=>(a,b)
 | _=>(0,0)
theorem keys_tdE(n:Int)(V:Vt):firsts ((tdE n V).map λp=>.tuple [tI p.1,p.2])=(strP n).map prD:=by
 rw[firsts_pd]
 unfold tdE
 rw[S0]
 rfl
section
variable {P:Program}{w:World}{K:n0}{mg:Str->Option Value}{base:Heap}
noncomputable def cLar:Con:=λargs Q=>∃(n:Int) (V:Vt) (p:Int×Int),args=[.fz (pdD (tdE n V)),.fz (prD p)]/\1<=n/\n<=31/\[p.1,p.2]∈hl 0 (n - 1)/\∀o,Q (.fz (.int (wts V n p))) o
theorem scLar:FnScope ["_law_kept","_law_one"] ["_law_kept","_law_one"] (defScope (top 26)):=⟨rfl,rfl,rfl,by decide +kernel,rfl,by decide +kernel,by decide +kernel⟩
theorem ok_lar{f:Addr}{fd:FuncData}(F:Fun K "_law_around" "_law_around" (top 26) f fd)(T:Txt mg):FnOk P w K mg base CX0 1 f fd ["_law_kept","_law_one"] (conSp K cLar):=by
 have S:=scLar
 refine wfn F S (λcdv A outer s H E hr=>(s_one (s_ret (w_callB ok_sum (call_sumK (K:=K) rfl rfl) T.sum_ boot_sum (wa_cons (wx (w_comp rfl (own:=["_law_wide"]) (fr:=[0,1]) (by kernel_rfl) (i_keys (wn 0)) (λ_ _ _ _=>(g_name (i:=0) (by decide +kernel:U4 (["_law_wide","_law_kept","_law_one"]:List Str)) rfl (Or.inl rfl))) (λ_ _ _ _=>if1 (t_w (t_and (t_cmp ok_ne (op_neE (K:=K) rfl hr.units) (wn 0) (wn 2)) (t_and (t_cmp ok_le op_le (wx (w_ix rfl (wn 0) (wx w_int))) (wx (w_ix rfl (wn 2) (wx w_int)))) (t_and1 (t_cmp ok_le op_le (wx (w_ix rfl (wn 2) (wx w_int))) (wx (w_ix rfl (wn 0) (wx w_int))))))))) (λ_ _ _ _=>(w_ix rfl (wx (w_pget (hu6_of hr) (wn 1) (wn 0))) (wx w_int))))) wa_nil))))) ?_ ?_
 ·rintro args Qd ⟨n,V,p,rfl,_⟩;rfl
 ·rintro args Qd ⟨n,V,p,rfl,n1,n2,hp,q⟩
  refine ⟨noOw_of rfl,?_⟩
  have hl:=strP_len n1
  have hk:firsts ((tdE n V).map λp=>.tuple [tI p.1,p.2])=(strP n).map prD:=keys_tdE n V
  rw[<- wts_eq n1 hp]at q
  refine (?_:(firsts ((tdE n V).map λp=>.tuple [tI p.1,p.2])).length<=sizeLine/\_)
  rw[hk]
  refine ⟨le_size (by rw[j0];omega),filC (λd=>wdB p (unP' d)) (fLw V) ?_ ?_⟩
  ·intro d hd N M hN hM
   obtain⟨x,hx,rfl⟩:=A1.mp hd
   have hx':=(strP_hl n1).mp hx
   have k1:=Nice.tup [x.1,x.2]
   have k2:=Nice.tup [p.1,p.2]
   have hN:wdB p x=true->N (.int (V x).w) _:=hN
   have hM:wdB p x=false->M _:=hM
   have ew:∀(h:x≠p),wdB p x=(decide (x.1<=p.1)&&decide (p.2<=x.2)):=λh=>by unfold wdB;rw[decide_eq_false h];rfl
   refine ⟨k1.p,k2.p,k1.sh (by decide),k2.sh (by decide),mix_tup [x.1,x.2] [p.1,p.2],ite2 (λh=>?_) (λh=>?_)⟩
   ·have h:(!same (tupD [x.1,x.2]) (tupD [p.1,p.2]))=true:=h
    rw[same_tup]at h
    have hne:x≠p:=λz=>by rw[z]at h;simp at h
    rw[ew hne]at hN hM
    refine ⟨_,rfl,_,rfl,ite2 (λh2=>?_) (λh2=>?_)⟩
    ·have h2:x.1<=p.1:=of_decide_eq_true h2
     refine ⟨_,rfl,_,rfl,ite2 (λh3=>?_) (λh3=>?_)⟩
     ·have h3:p.2<=x.2:=of_decide_eq_true h3
      exact ⟨tdE n V,[x.1,x.2],_,rfl,rfl,tdE_mem hx',_,rfl,hN (by rw[decide_eq_true h2,decide_eq_true h3];rfl)⟩
     ·exact hM (by rw[decide_eq_true h2,decide_eq_false λz=>h3 (decide_eq_true z)];rfl)
    ·exact hM (by rw[decide_eq_false λz=>h2 (decide_eq_true z)];rfl)
   ·have h:¬(!same (tupD [x.1,x.2]) (tupD [p.1,p.2]))=true:=h
    rw[same_tup]at h
    have he:x=p:=by
     have:[x.1,x.2]=[p.1,p.2]:=by simpa using h
     simp only[List.cons.injEq,and_true]at this
     exact Prod.ext this.1 this.2
    exact hM (by unfold wdB;rw[decide_eq_true he];rfl)
  ·refine ⟨((strP n).filter (wdB p)).map λq=>(V q).w,?_,q _⟩
   rw[List.filter_map,S0,S0]
   rfl
noncomputable def cLan:Con:=λargs Q=>∃(n:Int) (V:Vt) (p:Int×Int),args=[.fz (pdD (tdE n V)),.fz (prD p)]/\1<=n/\n<=31/\[p.1,p.2]∈hl 0 (n - 1)/\p.1 < p.2/\∀o,Q (.fz (enD (anw V p))) o
theorem scLan:FnScope ["_law_kept","_law_one","_law_middle","_law_here","_law_there","_law_waits","_law_total"] ["_law_kept","_law_one"] (defScope (top 27)):=⟨rfl,rfl,rfl,by decide +kernel,rfl,by decide +kernel,by decide +kernel⟩
theorem ok_lan{f:Addr}{fd:FuncData}(F:Fun K "_law_anew" "_law_anew" (top 27) f fd)(T:Txt mg):FnOk P w K mg base CX0 1 f fd ["_law_kept","_law_one"] (conSp K cLan):=by
 have S:=scLan
 refine wfn F S (λcdv A outer s H E hr=>(s_cons (s_set (i:=2) S.nd rfl (Or.inl rfl) (w_bin ok_fdiv op_fdiv (wx (w_bin ok_add op_addD (wx (w_ix rfl (wn 1) (wx w_int))) (wx (w_ix rfl (wn 1) (wx w_int))))) (wx w_int)))
     (s_cons (s_set (i:=3) S.nd rfl (Or.inl rfl) (w_pget (hu6_of hr) (wn 0) (wx (w_tup (wa_cons (wx (w_ix rfl (wn 1) (wx w_int))) (wa_cons (wx (wv 2)) wa_nil))))))
     (s_cons (s_set (i:=4) S.nd rfl (Or.inl rfl) (w_pget (hu6_of hr) (wn 0) (wx (w_tup (wa_cons (wx (w_bin ok_add op_addD (wn 2) (wx w_int))) (wa_cons (wx (w_ix rfl (wn 1) (wx w_int))) wa_nil))))))
     (s_cons (s_set (i:=5) S.nd rfl (Or.inl rfl) (w_ix rfl (wx (w_pget (hu6_of hr) (wn 0) (wn 1))) (wx w_int)))
     (s_cons (s_set (i:=6) S.nd rfl (Or.inl rfl) (w_bin ok_add op_addD (wx (w_bin ok_add op_addD (wx (w_ix rfl (wn 3) (wx w_int))) (wx (w_ix rfl (wn 4) (wx w_int))))) (wx (w_bin ok_mul op_mulD (wn 5) (wx (w_bin ok_add op_addD (wx (w_bin ok_sub op_sub (wx (w_ix rfl (wn 1) (wx w_int))) (wx (w_ix rfl (wn 1) (wx w_int))))) (wx w_int)))))))
     (s_one (s_ret (w_tup (wa_cons (wx (wv 6)) (wa_cons (wx (w_bin ok_add op_addD (wx (w_callB ok_2I (call_min2 rfl) T.min_ boot_min (wa_cons (wx (w_ix rfl (wn 3) (wx w_int))) (wa_cons (wx (w_ix rfl (wn 4) (wx w_int))) wa_nil)))) (wn 5))) (wa_cons (wx (w_bin ok_add op_addD (wx (w_callB ok_2I (call_max2 rfl) T.max_ boot_max (wa_cons (wx (w_ix rfl (wn 3) (wx w_int))) (wa_cons (wx (w_ix rfl (wn 4) (wx w_int))) wa_nil)))) (wn 5))) (wa_cons (wx (wv 5)) wa_nil))))))))))))) ?_ ?_
 ·rintro args Qd ⟨n,V,p,rfl,_⟩;rfl
 ·rintro args Qd ⟨n,V,p,rfl,n1,n2,hp,hlt,q⟩
  refine ⟨noOw_of rfl,?_⟩
  obtain⟨s1,s2⟩:=hl_sub _ 0 (n - 1) rfl (by omega) p hp hlt
  obtain⟨a,b,e,k1,k2,k3⟩:=hl_in _ 0 (n - 1) rfl (by omega) _ hp
  simp only[List.cons.injEq,and_true]at e
  unfold anw at q
  rw[mn_if,mx_if]at q
  refine ⟨_,rfl,_,rfl,⟨by decide,by decide⟩,?_⟩
  refine ⟨_,rfl,tdE n V,[(hf1 p).1,(hf1 p).2],_,rfl,rfl,tdE_mem s1,?_⟩
  refine ⟨_,rfl,tdE n V,[(hf2 p).1,(hf2 p).2],_,rfl,rfl,tdE_mem s2,?_⟩
  refine ⟨tdE n V,[p.1,p.2],_,rfl,rfl,tdE_mem hp,_,rfl,?_⟩
  refine ⟨_,rfl,_,rfl,_,rfl,_,rfl,.inr ⟨by omega,by omega⟩,?_⟩
  exact ⟨.int (V (hf1 p)).l,rfl,.int (V (hf2 p)).l,rfl,.int (V (hf1 p)).g,rfl,.int (V (hf2 p)).g,rfl,q _⟩
end
noncomputable def chg(cs:List (Int×Int))(q:Int×Int):Bool:=!decide (cs.filter (λc=>wdB c q)=[])
theorem chg_lt{cs:List (Int×Int)}{q:Int×Int}(hc:∀c∈cs,c.1<=c.2)(h:chg cs q=true):q.1 < q.2:=by
 unfold chg at h
 have h:cs.filter (λc=>wdB c q)≠[]:=λz=>by rw[z]at h;simp at h
 obtain⟨c,r,e⟩:=List.exists_cons_of_ne_nil h
 have hm:c∈cs.filter (λc=>wdB c q):=by rw[e];exact P0
 obtain⟨m1,m2⟩:=K5.mp hm
 unfold wdB at m2
 rw[W1,W1,decide_eq_true_eq,decide_eq_true_eq]at m2
 have k:=hc c m1
 have ne:q≠c:=λz=>by rw[decide_eq_true z]at m2;exact absurd m2.1 (by decide)
 by_cases z:q.1 < q.2
 ·exact z
 ·exact absurd (Prod.ext (by omega) (by omega)) ne
noncomputable def upV(V:Vt)(q:Int×Int)(e:En):Vt:=λc=>if c=q then e else V c
theorem upV_same(V:Vt)(q:Int×Int)(e:En):upV V q e q=e:=if_pos rfl
theorem upV_ne{V:Vt}{q c:Int×Int}{e:En}(h:c≠q):upV V q e c=V c:=if_neg h
theorem hf_ne{q c:Int×Int}(hq:q.1 < q.2)(h:q.2 - q.1<=c.2 - c.1):hf1 q≠c/\hf2 q≠c:=by
 refine ⟨λz=>?_,λz=>?_⟩
 ·rw[<- z]at h
  have h:q.2 - q.1<=(q.1+q.2) / 2 - q.1:=h
  omega
 ·rw[<- z]at h
  have h:q.2 - q.1<=q.2 - ((q.1+q.2) / 2+1):=h
  omega
theorem anw_up{V:Vt}{q c:Int×Int}{e:En}(hq:q.1 < q.2)(h:q.2 - q.1<=c.2 - c.1)(hw:(upV V c e q).w=(V q).w):anw (upV V c e) q=anw V q:=by
 obtain⟨h1,h2⟩:=hf_ne hq h
 unfold anw
 rw[upV_ne h1,upV_ne h2,hw]
structure Stl(n:Int)(V:Vt)(cs:List (Int×Int))(V':Vt):Prop where
 w:∀q∈strP n,(V' q).w=(V q).w
 no:∀q∈strP n,chg cs q=false->V' q=V q
 go:∀q∈strP n,chg cs q=true->V' q=anw V' q
theorem tdE_put{n:Int}{V:Vt}(h1:1<=n){q:Int×Int}(hq:q∈strP n)(e:En):(tdE n V).map (λx=>if x.1=[q.1,q.2] then (x.1,enD e) else x)=tdE n (upV V q e):=by
 unfold tdE
 rw[S0]
 refine Q2 λc _=>?_
 show (if [c.1,c.2]=[q.1,q.2] then ([c.1,c.2],enD e) else ([c.1,c.2],enD (V c)))=([c.1,c.2],enD (upV V q e c))
 by_cases z:c=q
 ·rw[if_pos (by rw[z]),z,upV_same]
 ·rw[if_neg (λy=>z (by simp only[List.cons.injEq,and_true]at y;exact Prod.ext y.1 y.2)),upV_ne z]
theorem tdE_puts{n:Int}{V:Vt}(h1:1<=n){q:Int×Int}(hq:q∈strP n)(e:En):putPs (tdE n V) [q.1,q.2] (enD e)=tdE n (upV V q e):=by
 unfold putPs
 rw[if_pos (by unfold tdE;rw[S0];exact A1.mpr ⟨q,hq,rfl⟩)]
 exact tdE_put h1 hq e
theorem sorted_pr{n:Int}{V:Vt}{qs:List (Int×List Int)}(h:qs.Perm (((strP n).map λp=>p.2 - p.1).zip ((tdE n V).map (·.1))))(hp:qs.Pairwise λp q=>p.1<=q.1) :
  ∃bs:List (Int×Int),bs.Perm (strP n)/\(qs.map λq=>tI q.2)=bs.map prD/\bs.Pairwise λb c=>b.2 - b.1<=c.2 - c.1:=by
 have e0:(tdE n V).map (·.1)=(strP n).map λp=>[p.1,p.2]:=by unfold tdE;rw[S0];rfl
 have e:((strP n).map λp=>p.2 - p.1).zip ((tdE n V).map (·.1))=(strP n).map λp=>(p.2 - p.1,[p.1,p.2]):=by
  rw[e0,List.zip_map']
 rw[e]at h
 have h2:∀p∈qs,p=((prI p.2).2 - (prI p.2).1,[(prI p.2).1,(prI p.2).2]):=λp hp=>by
  obtain⟨b,_,rfl⟩:=A1.mp (h.mem_iff.mp hp)
  rfl
 refine ⟨qs.map λp=>prI p.2,?_,?_,?_⟩
 ·have:=h.map λp=>prI p.2
  rw[S0]at this
  have e2:(strP n).map ((λp:Int×List Int=>prI p.2) ∘ λb:Int×Int=>(b.2 - b.1,[b.1,b.2]))=strP n:=q9 (strP n)
  rw[e2]at this
  exact this
 ·rw[S0]
  refine Q2 λp hp=>?_
  have:=congrArg Prod.snd (h2 p hp)
  exact congrArg tI this
 ·rw[P2]
  refine hp.imp_of_mem λ{p q} hp hq hl=>?_
  have e1:=congrArg Prod.fst (h2 p hp)
  have e2:=congrArg Prod.fst (h2 q hq)
  dsimp only at e1 e2
  rw[<- e1,<- e2]
  exact hl
section
variable {P:Program}{w:World}{K:n0}{mg:Str->Option Value}{base:Heap}
structure CalsSe(P:Program)(w:World)(K:n0)(mg:Str->Option Value)(base:Heap):Prop where
 law_anew:Cal P w K mg base 1 "_law_anew" ["_law_kept","_law_one"] (conSp K cLan)
noncomputable def cSe:Con:=λargs Q=>∃(n:Int) (V:Vt) (cs:List (Int×Int)),args=[.io (pdD (tdE n V)),.fz (.list (cs.map prD))]/\1<=n/\n<=31/\cs.length<=100/\(∀c∈cs,c.1<=c.2)/\∀(V':Vt) (o:Ev),Stl n V cs V'->Q (.fz .none) (some (.io (pdD (tdE n V'))) :: o)
theorem scSe:FnScope ["_law_kept","_law_changed","_law_wide"] ["_law_kept","_law_changed"] (defScope (top 28)):=⟨rfl,rfl,rfl,by decide +kernel,rfl,by decide +kernel,by decide +kernel⟩
theorem ok_se{f:Addr}{fd:FuncData}(F:Fun K "_law_settle" "_law_settle" (top 28) f fd)(T:Txt mg)(C:CalsSe P w K mg base)(M:Lm K "_law_settle" fd):FnOk P w K mg base CX0 12 f fd ["_law_kept","_law_changed"] (conSp K cSe):=by
 have S:=scSe
 obtain⟨c,P,hcd,hC,hP,hPx⟩:=M.ex
 refine wfnL F hcd S (λA outer s H E hr=>(s_one (s_for [2] PassesOwn.never rfl (i_seq rfl (w_sortKQ (k:=0) (x:="_law_settle") (y:="_law_one") rfl (hr.mono (by first|decide|omega)) rfl T.sorted_ (wn 0) rfl (show (Str.ofString "_law_settle"++Str.ofString ".<locals>.")++Str.ofString "<lambda>"=Str.ofString "_law_settle"++Str.ofString ".<locals>.<lambda>" from by decide +kernel) hC hP hPx ⟨rfl,rfl,rfl,by decide +kernel,rfl,by decide +kernel,by decide +kernel⟩ (λf cdv A outer s H hr=>(w_bin ok_sub op_sub (wx (w_ix rfl (wn 0) (wx w_int))) (wx (w_ix rfl (wn 0) (wx w_int))))))) (g_name (i:=2) S.nd rfl (Or.inr rfl)) (s_one (s_if (t_cmp ok_ne (op_neE (K:=K) rfl hr.units) (wx (w_comp rfl (own:=["_law_one"]) (fr:=[2]) (by kernel_rfl) (i_seq rfl (wv 1)) (λ_ _ _ _=>(g_name (i:=0) (by decide +kernel:U4 (["_law_one","_law_wide"]:List Str)) rfl (Or.inl rfl))) (λ_ _ _ _=>if1 (t_w (t_and (t_cmp ok_ne (op_neE (K:=K) rfl hr.units) (wn 0) (wn 1)) (t_and (t_cmp ok_le op_le (wx (w_ix rfl (wn 1) (wx w_int))) (wx (w_ix rfl (wn 0) (wx w_int)))) (t_and1 (t_cmp ok_le op_le (wx (w_ix rfl (wn 0) (wx w_int))) (wx (w_ix rfl (wn 1) (wx w_int))))))))) (λ_ _ _ _=>(wv 0)))) (wx (w_lst wa_nil))) (s_one (s_keyP (hu_of hr) (wn 0) (wn 2) (w_fn C.law_anew (hr.mono (by first|decide|omega)) (wa_cons (wn 0) (wa_cons (wn 2) wa_nil))))) s_nil))))) ?_ ?_
 ·rintro args Qd ⟨n,V,cs,rfl,_⟩;rfl
 ·rintro args Qd ⟨n,V,cs,rfl,n1,n2,hcl,hcs,q⟩
  refine ⟨noOw_of rfl,?_⟩
  have hl:=strP_len n1
  refine ⟨tdE n V,(strP n).map λp=>p.2 - p.1,rfl,by unfold tdE;rw[j0];omega,by unfold tdE;rw[j0,j0],?_,λqs hperm hpw=>?_⟩
  ·intro i x k h1 h2
   unfold tdE at h1
   rw[O0]at h1 h2
   cases e:(strP n)[i]? with
   | none=>rw[e]at h1;cases h1
   | some b =>
    rw[e]at h1 h2
    cases h1
    cases h2
    exact ⟨_,rfl,_,rfl,rfl⟩
  obtain⟨bs,hbs,e,hup⟩:=sorted_pr hperm hpw
  rw[e]
  have hnd:bs.Nodup:=hbs.nodup_iff.mpr (strP_nodup n1)
  refine loopC (λrest ρ=>∃(V':Vt) (done rs:List (Int×Int)),bs=done++rs/\rest=rs.map prD/\(∀q∈strP n,(V' q).w=(V q).w)/\(∀q∈strP n,(chg cs q=false\/q∈rs)->V' q=V q)/\(∀q∈done,chg cs q=true->V' q=anw V' q)/\ρ=[some (.io (pdD (tdE n V'))),some (.fz (.list (cs.map prD))),none]) ?_ ?_ ⟨V,[],bs,rfl,rfl,λ_ _=>rfl,λ_ _ _=>rfl,λq hq=>(by cases hq),rfl⟩
  ·rintro d ds ρ ⟨V',done,rs,eb,er,hw,hno,hgo,rfl⟩ N hN
   cases rs with
   | nil=>cases er
   | cons b rs =>
    cases er
    have hbm:b∈strP n:=hbs.mem_iff.mp (by rw[eb];simp)
    have hb:=(strP_hl n1).mp hbm
    have hfl:(cs.filter λc=>wdB c b).length<=100:=Q0 (S6 _ _) hcl
    have nf:=wt_nice (cs.filter λc=>wdB c b)
    refine ⟨le_size (by rw[j0];omega),filC (λd=>wdB (unP' d) b) id ?_ ?_⟩
    ·intro d hd N' M' hN' hM'
     obtain⟨x,hx,rfl⟩:=A1.mp hd
     have k1:=Nice.tup [x.1,x.2]
     have k2:=Nice.tup [b.1,b.2]
     have hN':wdB x b=true->N' (prD x) _:=hN'
     have hM':wdB x b=false->M' _:=hM'
     have ew:∀(h:b≠x),wdB x b=(decide (b.1<=x.1)&&decide (x.2<=b.2)):=λh=>by unfold wdB;rw[decide_eq_false h];rfl
     refine ⟨k1.p,k2.p,k1.sh (by decide),k2.sh (by decide),mix_tup [x.1,x.2] [b.1,b.2],ite2 (λh=>?_) (λh=>?_)⟩
     ·have h:(!same (tupD [x.1,x.2]) (tupD [b.1,b.2]))=true:=h
      rw[same_tup]at h
      have hne:b≠x:=λz=>by rw[z]at h;simp at h
      rw[ew hne]at hN' hM'
      refine ⟨_,rfl,_,rfl,ite2 (λh2=>?_) (λh2=>?_)⟩
      ·have h2:b.1<=x.1:=of_decide_eq_true h2
       refine ⟨_,rfl,_,rfl,ite2 (λh3=>?_) (λh3=>?_)⟩
       ·have h3:x.2<=b.2:=of_decide_eq_true h3
        exact hN' (by rw[decide_eq_true h2,decide_eq_true h3];rfl)
       ·exact hM' (by rw[decide_eq_true h2,decide_eq_false λz=>h3 (decide_eq_true z)];rfl)
      ·exact hM' (by rw[decide_eq_false λz=>h2 (decide_eq_true z)];rfl)
     ·have h:¬(!same (tupD [x.1,x.2]) (tupD [b.1,b.2]))=true:=h
      rw[same_tup]at h
      have he:b=x:=by
       have:[x.1,x.2]=[b.1,b.2]:=by simpa using h
       simp only[List.cons.injEq,and_true]at this
       exact Prod.ext this.1.symm this.2.symm
      exact hM' (by unfold wdB;rw[decide_eq_true he];rfl)
    ·have ef:((cs.map prD).filter λd=>wdB (unP' d) b).map id=(cs.filter λc=>wdB c b).map prD:=by
      rw[q9,List.filter_map]
      rfl
     rw[ef]
     refine ⟨nf.p,rfl,nf.sh (by decide),rfl,wt_mix _,ite2 (λh=>?_) (λh=>?_)⟩
     ·have h:(!same (.list ((cs.filter λc=>wdB c b).map prD)) (.list []))=true:=h
      rw[wt_same]at h
      have hc:chg cs b=true:=h
      have hlt:=chg_lt hcs hc
      refine ⟨n,V',b,rfl,n1,n2,hb,hlt,λo=>⟨rfl,[b.1,b.2],tdE n V',rfl,rfl,rfl,by unfold tdE;rw[j0];exact Q1 (show (strP n).length<=100 by omega) (by decide),?_⟩⟩
      have hne:∀q∈done++rs,q≠b:=λq hq z=>by
       rw[eb]at hnd
       have h1:=B6.mp hnd
       rcases R0.mp hq with y|y
       ·exact h1.2.2 q y b P0 z
       ·exact (E3.mp h1.2.1).1 (z ▸ y)
      have ew:(upV V' b (anw V' b) b).w=(V' b).w:=by rw[upV_same];rfl
      refine hN _ ⟨upV V' b (anw V' b),done++[b],rs,by rw[eb,X3];rfl,rfl,λq hq=>?_,λq hq z=>?_,λq hq z=>?_,by rw[<- tdE_puts n1 hbm];rfl⟩
      ·by_cases y:q=b
       ·rw[y,ew];exact hw b hbm
       ·rw[upV_ne y];exact hw q hq
      ·have y:q≠b:=λy=>by
        rcases z with z|z
        ·rw[y,hc]at z;cases z
        ·exact hne q (R0.mpr (.inr z)) y
       rw[upV_ne y]
       exact hno q hq (z.imp id λz=>L0 _ z)
      ·rcases R0.mp hq with y|y
       ·have yb:=hne q (R0.mpr (.inl y))
        have hle:q.2 - q.1<=b.2 - b.1:=by
         rw[eb]at hup
         exact (M8.mp hup).2.2 q y b P0
        rw[anw_up (chg_lt hcs z) hle (by rw[upV_ne yb]),upV_ne yb]
        exact hgo q y z
       ·rw[U0.mp y,anw_up hlt (h7 _) ew,upV_same]
     ·have h:¬(!same (.list ((cs.filter λc=>wdB c b).map prD)) (.list []))=true:=h
      rw[wt_same]at h
      have hc:chg cs b=false:=w6.mpr h
      refine hN _ ⟨V',done++[b],rs,by rw[eb,X3];rfl,rfl,hw,λq hq z=>hno q hq (z.elim .inl λy=>.inr (L0 _ y)),λq hq z=>?_,rfl⟩
      rcases R0.mp hq with y|y
      ·exact hgo q y z
      ·rw[U0.mp y,hc]at z;cases z
  ·rintro ρ ⟨V',done,rs,eb,er,hw,hno,hgo,rfl⟩
   cases rs with
   | cons _ _=>cases er
   | nil =>
    rw[S3]at eb
    exact q V' _ ⟨hw,λq hq z=>hno q hq (.inl z),λq hq z=>hgo q (eb ▸ hbs.mem_iff.mpr hq) z⟩
end
theorem hl_cell:∀(n:Nat) (lo hi:Int),(hi - lo).toNat=n->∀i:Int,lo<=i->i<=hi->[i,i]∈hl lo hi:=by
 intro n
 induction n using m4 with
 | _ n ih =>
  intro lo hi e i h1 h2
  by_cases hlt:lo < hi
  ·rw[hl_lt hlt]
   refine L0 _ (R0.mpr ?_)
   by_cases z:i<=(lo+hi) / 2
   ·exact .inr (ih _ (by omega) lo ((lo+hi) / 2) rfl i h1 z)
   ·exact .inl (ih _ (by omega) ((lo+hi) / 2+1) hi rfl i (by omega) h2)
  ·rw[hl_ge hlt,show lo=i by omega,show hi=i by omega]
   exact P0
theorem wts_w{V V':Vt}{n:Int}(h1:1<=n)(h:∀q∈strP n,(V' q).w=(V q).w){p:Int×Int}(hp:[p.1,p.2]∈hl 0 (n - 1)):wts V' n p=wts V n p:=by
 unfold wts
 congr 1
 exact Q2 λq hq=>h q ((strP_hl h1).mpr (arnd_in _ 0 (n - 1) rfl (by omega) hp q hq))
theorem cen_w{V V':Vt}{n a x:Int}(h:wts V' n (a,a)=wts V n (a,a)):cen V' n a x=cen V n a x:=by unfold cen;rw[h]
noncomputable def tdL(V:Vt)(ls:List (Int×Int)):List (List Int×PyData):=ls.map λp=>([p.1,p.2],enD (V p))
theorem tdL_put{V:Vt}{ls:List (Int×Int)}{b:Int×Int}(h:b∉ls)(e:En):putPs (tdL V ls) [b.1,b.2] (enD e)=tdL (upV V b e) (ls++[b]):=by
 have hk:[b.1,b.2]∉(tdL V ls).map (·.1):=λz=>by
  unfold tdL at z
  rw[S0]at z
  obtain⟨c,hc,e⟩:=A1.mp z
  have e:[c.1,c.2]=[b.1,b.2]:=e
  simp only[List.cons.injEq,and_true]at e
  exact h ((Prod.ext e.1 e.2:c=b) ▸ hc)
 unfold putPs
 rw[if_neg hk]
 unfold tdL
 rw[O3]
 congr 1
 ·refine Q2 λc hc=>?_
  rw[upV_ne λz:c=b=>h (z ▸ hc)]
 ·show [([b.1,b.2],enD e)]=[([b.1,b.2],enD (upV V b e b))]
  rw[upV_same]
noncomputable def Wok(n:Int)(V:Vt):Prop:=∀q∈strP n,(V q).w.natAbs<=2/\(q.1=q.2->(V q).w=0)
noncomputable abbrev clls(n:Nat):List (Int×Int):=(G3 n).map λ(i:Nat)=>((i:Int),(i:Int))
theorem by_right{xs:List Int}{V V':Vt}(n1:1<=xs.length)(hW:Wok xs.length V)(hc:∀i:Nat,i < xs.length->V ((i:Int),(i:Int))=cen V xs.length i (xs.getD i 0))(hs:Stl xs.length V (clls xs.length) V'):(∀p∈strP xs.length,rgE xs V' p=true)/\∀p∈strP xs.length,(V' p).w.natAbs<=2:=by
 have hn:(1:Int)<=(xs.length:Int):=by omega
 refine ⟨λp hp=>?_,λp hp=>by rw[hs.w p hp];exact (hW p hp).1⟩
 have hi:=(strP_in hn hp)
 unfold rgE
 split
 ·rename_i e
  refine decide_eq_true ?_
  have hno:chg (clls xs.length) p=false:=by
   unfold chg
   rw[show (clls xs.length).filter (λc=>wdB c p)=[] from ?_]
   ·rfl
   ·rw[M6]
    intro c hc
    obtain⟨i,_,rfl⟩:=A1.mp hc
    unfold wdB
    intro z
    rw[W1,W1,decide_eq_true_eq,decide_eq_true_eq]at z
    obtain⟨z1,z2,z3⟩:=z
    have z2:p.1<=(i:Int):=z2
    have z3:(i:Int)<=p.2:=z3
    rw[decide_eq_true (show p=((i:Int),(i:Int)) from Prod.ext (by show p.1=(i:Int);omega) (by show p.2=(i:Int);omega))]at z1
    cases z1
  obtain⟨i,hi'⟩:=L1 hi.2.1
  have ep:p=((i:Int),(i:Int)):=Prod.ext hi' (by rw[<- e];exact hi')
  rw[hs.no p hp hno,ep,hc i (by omega)]
  unfold cen
  have:=wts_w hn hs.w (p:=((i:Int),(i:Int))) (by rw[<- ep];exact hi.1)
  rw[this]
  rfl
 ·rename_i e
  refine decide_eq_true (hs.go p hp ?_)
  obtain⟨i,hi'⟩:=L1 hi.2.1
  have hm:((i:Int),(i:Int))∈(clls xs.length).filter (λc=>wdB c p):=by
   refine K5.mpr ⟨A1.mpr ⟨i,S5.mpr (by omega),rfl⟩,?_⟩
   unfold wdB
   rw[decide_eq_false (λz=>e (by rw[z])),decide_eq_true (show p.1<=(i:Int) by omega),decide_eq_true (show (i:Int)<=p.2 by omega)]
   rfl
  unfold chg
  rw[decide_eq_false (λz=>by rw[z]at hm;cases hm)]
  rfl
structure By(xs:List Int)(V':Vt):Prop where
 ex:∃V:Vt,Wok xs.length V/\(∀i:Nat,i < xs.length->V ((i:Int),(i:Int))=cen V xs.length i (xs.getD i 0))/\(∀q∈strP xs.length,q.1 < q.2->(V q).t=0/\(V q).l=0/\(V q).g=0)/\Stl xs.length V (clls xs.length) V'
noncomputable def fCc:PyData->PyData
 | .int i=>prD (i,i)
 | _=>.none
theorem clls_map(n:Nat):(rangeD 0 n).map fCc=(clls n).map prD:=by
 rw[rangeD,clls,S0,S0]
 refine Q2 λi _=>?_
 show prD (0+(i:Int),0+(i:Int))=prD ((i:Int),(i:Int))
 rw[Int.zero_add]
section
variable {P:Program}{w:World}{K:n0}{mg:Str->Option Value}{base:Heap}
structure CalsBh(P:Program)(w:World)(K:n0)(mg:Str->Option Value)(base:Heap):Prop where
 law_halves:Cal P w K mg base 1 "_law_halves" ["_law_size"] (conSp K cLSt)
 law_draw:Cal P w K mg base 1 "_law_draw" ["_law_pen_here","_law_many"] (conSp K cDraw)
 law_around:Cal P w K mg base 1 "_law_around" ["_law_kept","_law_one"] (conSp K cLar)
 law_settle:Cal P w K mg base 12 "_law_settle" ["_law_kept","_law_changed"] (conSp K cSe)
noncomputable def cBh:Con:=λargs Q=>∃(a b c:Int) (xs:List Int),args=[.io (penD a b c),.fz (liD xs)]/\0<=a/\0<=b/\0<=c/\1<=xs.length/\xs.length<=31 /\
 ∀(V:Vt) (a' b' c':Int) (o:Ev),By xs V->0<=a'->0<=b'->0<=c'->Q (.ow (pdD (tdE xs.length V))) (some (.io (penD a' b' c')) :: o)
theorem scBh:FnScope ["_law_pen_here","_law_numbers","_law_kept","_law_one","_law_at","_law_number_here","_law_own"] ["_law_pen_here","_law_numbers"] (defScope (top 34)):=⟨rfl,rfl,rfl,by decide +kernel,rfl,by decide +kernel,by decide +kernel⟩
theorem ok_bh{f:Addr}{fd:FuncData}(F:Fun K "_law_by_hand" "_law_by_hand" (top 34) f fd)(T:Txt mg)(C:CalsBh P w K mg base):FnOk P w K mg base CX0 13 f fd ["_law_pen_here","_law_numbers"] (conSp K cBh):=by
 have S:=scBh
 refine wfn F S (λcdv A outer s H E hr=>(s_cons (s_set (i:=2) S.nd rfl (Or.inl rfl) w_dnewP)
     (s_cons (s_for [3] PassesOwn.never rfl (i_seq rfl (w_fn C.law_halves (hr.mono (by first|decide|omega)) (wa_cons (wx (w_callB ok_len (call_lenK (K:=K) rfl) T.len_ PySem.boot_len (wa_cons (wn 1) wa_nil))) wa_nil))) (g_name (i:=3) S.nd rfl (Or.inl rfl)) (s_one (s_keyP (hu_of hr) (wn 2) (wn 3) (w_tup (wa_cons (wx w_int) (wa_cons (wx w_int) (wa_cons (wx w_int) (wa_cons (wx (w_bin ok_mul op_mulD (wx (w_bin ok_sub op_sub (wx (w_fnI C.law_draw (hr.mono (by first|decide|omega)) (wa_cons (wn 0) (wa_cons (wx w_int) wa_nil)))) (wx w_int))) (wx (w_callT ok_int call_int1 T.int_ boot_int (wa_cons (wx (w_cmp ok_lt op_lt (wx (w_ix rfl (wn 3) (wx w_int))) (wx (w_ix rfl (wn 3) (wx w_int))))) wa_nil))))) wa_nil))))))))
     (s_cons (s_for [4,5,6] PassesOwn.never rfl (i_enum rfl T.enumerate_ (wa_cons (wn 1) wa_nil)) (g_tup rfl rfl (gs_cons (g_name (i:=4) S.nd rfl (Or.inl rfl)) (gs_cons (g_name (i:=5) S.nd rfl (Or.inl rfl)) gs_nil))) (s_cons (s_set (i:=6) S.nd rfl (Or.inl rfl) (w_bin ok_sub op_sub (wn 5) (wx (w_fn C.law_around (hr.mono (by first|decide|omega)) (wa_cons (wn 2) (wa_cons (wx (w_tup (wa_cons (wx (wv 4)) (wa_cons (wx (wv 4)) wa_nil)))) wa_nil))))))
     (s_one (s_keyP (hu_of hr) (wn 2) (wx (w_tup (wa_cons (wx (wv 4)) (wa_cons (wx (wv 4)) wa_nil)))) (w_tup (wa_cons (wx (wv 6)) (wa_cons (wx (wv 6)) (wa_cons (wx (wv 6)) (wa_cons (wx w_int) wa_nil)))))))))
     (s_cons (s_expr (w_fnI C.law_settle (hr.mono (by first|decide|omega)) (wa_cons (wn 2) (wa_cons (wx (w_comp rfl (own:=["_law_at"]) (fr:=[]) (by kernel_rfl) (i_rng1 T.range_ (wa_cons (wx (w_callB ok_len (call_lenK (K:=K) rfl) T.len_ PySem.boot_len (wa_cons (wn 1) wa_nil))) wa_nil)) (λ_ _ _ _=>(g_name (i:=0) (by decide +kernel:U4 (["_law_at"]:List Str)) rfl (Or.inl rfl))) (λ_ _ _ _=>if0) (λ_ _ _ _=>(w_tup (wa_cons (wx (wv 0)) (wa_cons (wx (wv 0)) wa_nil)))))) wa_nil))))
     (s_one (s_retV (wn 2)))))))) ?_ ?_
 ·rintro args Qd ⟨a,b,c,xs,rfl,_⟩;rfl
 ·rintro args Qd ⟨a,b,c,xs,rfl,ha,hb,hc,n1,n2,q⟩
  refine ⟨noOw_of rfl,?_⟩
  have hn:(1:Int)<=(xs.length:Int):=by omega
  have hsl:=strP_len hn
  have hxl:(xs.map G0).length=xs.length:=j0 ..
  with_reducible refine cutS (λρ=>ρ=[some (.io (penD a b c)),some (.fz (liD xs)),some (.ow (pdD [])),none,none,none,none]) ?_ ?_
  ·intro N hN
   exact hN _ rfl
  rintro _ rfl
  with_reducible refine cutS (λρ=>∃(V:Vt) (a b c:Int),Wok xs.length V/\(∀q∈strP xs.length,(V q).t=0/\(V q).l=0/\(V q).g=0)/\0<=a/\0<=b/\0<=c/\ρ=[some (.io (penD a b c)),some (.fz (liD xs)),some (.ow (pdD (tdE xs.length V))),none,none,none,none]) ?_ ?_
  ·intro N hN
   refine ⟨(xs.length:Int),by rw[hxl];rfl,by omega,by omega,λo=>?_⟩
   have hnd:=strP_nodup hn
   refine loopC (λrest ρ=>∃(V:Vt) (done rs:List (Int×Int)) (a b c:Int),strP xs.length=done++rs/\rest=rs.map prD/\(∀q∈done,((V q).w.natAbs<=2/\(q.1=q.2->(V q).w=0))/\(V q).t=0/\(V q).l=0/\(V q).g=0)/\0<=a/\0<=b/\0<=c/\ρ=[some (.io (penD a b c)),some (.fz (liD xs)),some (.ow (pdD (tdL V done))),none,none,none,none]) ?_ ?_ ⟨λ_=>⟨0,0,0,0⟩,[],strP xs.length,a,b,c,rfl,rfl,λq hq=>(by cases hq),ha,hb,hc,rfl⟩
   ·rintro d ds ρ ⟨V,done,rs,a,b,c,eb,er,hW,ha,hb,hc,rfl⟩ N' hN'
    cases rs with
    | nil=>cases er
    | cons p rs =>
     cases er
     have hpn:p∉done:=λz=>by
      rw[eb]at hnd
      exact (B6.mp hnd).2.2 p z p P0 rfl
     refine ⟨a,b,c,5,rfl,ha,hb,hc,by decide,by decide,λr a1 b1 c1 _ r0 r1 ha1 hb1 hc1=>?_⟩
     have hdl:(tdL V done).length < sizeLine:=by
      unfold tdL
      rw[j0]
      have:=congrArg S4 eb
      rw[B0]at this
      exact Q1 (show done.length<=100 by omega) (by decide)
     refine ⟨_,rfl,_,rfl,.inr ⟨by split<;>decide,by split<;>decide⟩,[p.1,p.2],tdL V done,rfl,rfl,rfl,hdl,?_⟩
     have e0:=tdL_put (V:=V) hpn ⟨0,0,0,(r - 2) * (if decide (p.1 < p.2)=true then 1 else 0)⟩
     refine hN' _ ⟨upV V p ⟨0,0,0,(r - 2) * (if decide (p.1 < p.2)=true then 1 else 0)⟩,done++[p],rs,a1,b1,c1,by rw[eb,X3];rfl,rfl,λq hq=>?_,ha1,hb1,hc1,by rw[<- e0];rfl⟩
     rcases R0.mp hq with z|z
     ·rw[upV_ne λy:q=p=>hpn (y ▸ z)]
      exact hW q z
     ·rw[U0.mp z,upV_same]
      refine ⟨⟨?_,λy=>?_⟩,rfl,rfl,rfl⟩
      ·show ((r - 2) * (if decide (p.1 < p.2)=true then 1 else 0)).natAbs<=2
       split
       ·rw[Int.mul_one];omega
       ·rw[Int.mul_zero];decide
      ·show (r - 2) * (if decide (p.1 < p.2)=true then 1 else 0)=0
       rw[if_neg (λw=>by have:=of_decide_eq_true w;omega),Int.mul_zero]
   ·rintro ρ ⟨V,done,rs,a,b,c,eb,er,hW,ha,hb,hc,rfl⟩
    cases rs with
    | cons _ _=>cases er
    | nil =>
     rw[S3]at eb
     refine hN _ ⟨V,a,b,c,λq hq=>(hW q (eb ▸ hq)).1,λq hq=>(hW q (eb ▸ hq)).2,ha,hb,hc,?_⟩
     rw[<- eb]
     rfl
  rintro _ ⟨V,a,b,c,hW,hZ,ha,hb,hc,rfl⟩
  with_reducible refine cutS (λρ=>∃V:Vt,Wok xs.length V/\(∀i:Nat,i < xs.length->V ((i:Int),(i:Int))=cen V xs.length i (xs.getD i 0))/\(∀q∈strP xs.length,q.1 < q.2->(V q).t=0/\(V q).l=0/\(V q).g=0)/\ρ=[some (.io (penD a b c)),some (.fz (liD xs)),some (.ow (pdD (tdE xs.length V))),none,none,none,none]) ?_ ?_
  ·intro N hN
   refine loopC (λrest ρ=>∃(pre rs:List Int) (V:Vt),xs=pre++rs/\rest=((rs.map G0).zipIdx pre.length).map (λp=>V1 [.int (p.2:Nat),p.1])/\Wok xs.length V/\(∀i:Nat,i < pre.length->V ((i:Int),(i:Int))=cen V xs.length i (xs.getD i 0))/\(∀q∈strP xs.length,q.1 < q.2->(V q).t=0/\(V q).l=0/\(V q).g=0)/\ρ=[some (.io (penD a b c)),some (.fz (liD xs)),some (.ow (pdD (tdE xs.length V))),none,none,none,none]) ?_ ?_ ⟨[],xs,V,rfl,rfl,hW,λi hi=>(by cases hi),λq hq _=>hZ q hq,rfl⟩
   ·rintro d ds ρ ⟨pre,rs,V,ex,er,hW,hC,hZ,rfl⟩ N' hN'
    cases rs with
    | nil=>cases er
    | cons x rs =>
     rw[B1,U6,B1]at er
     cases er
     have hpl:pre.length < xs.length:=by rw[ex,B0,B2];omega
     have hx:xs.getD pre.length 0=x:=by rw[ex,Z1,Y1 (A0 _),Nat.sub_self];rfl
     have hin:[((pre.length:Nat):Int),((pre.length:Nat):Int)]∈hl 0 ((xs.length:Int) - 1):=hl_cell _ 0 _ rfl _ (by omega) (by omega)
     have hmem:(((pre.length:Nat):Int),((pre.length:Nat):Int))∈strP xs.length:=strP_of hin
     refine ⟨rfl,xs.length,V,((pre.length:Nat),(pre.length:Nat)),rfl,by omega,by omega,hin,λo=>?_⟩
     refine ⟨rfl,[((pre.length:Nat):Int),((pre.length:Nat):Int)],tdE xs.length V,rfl,rfl,rfl,by unfold tdE;rw[j0];exact Q1 (show (strP xs.length).length<=100 by omega) (by decide),?_⟩
     have e0:=tdE_puts (V:=V) hn hmem (cen V xs.length (pre.length:Nat) x)
     have hw0:=(hW _ hmem).2 rfl
     have hww:∀q∈strP xs.length,(upV V ((pre.length:Nat),(pre.length:Nat)) (cen V xs.length (pre.length:Nat) x) q).w=(V q).w:=λq hq=>by
      by_cases z:q=(((pre.length:Nat):Int),((pre.length:Nat):Int))
      ·rw[z,upV_same,hw0];rfl
      ·rw[upV_ne z]
     have hcc:∀(j:Nat) (y:Int),j < xs.length->cen (upV V ((pre.length:Nat),(pre.length:Nat)) (cen V xs.length (pre.length:Nat) x)) xs.length j y=cen V xs.length j y:=λj y hj=>by
      exact cen_w (wts_w hn hww (p:=((j:Int),(j:Int))) (hl_cell _ 0 _ rfl _ (by omega) (by omega)))
     refine hN' _ ⟨pre++[x],rs,upV V ((pre.length:Nat),(pre.length:Nat)) (cen V xs.length (pre.length:Nat) x),by rw[ex];simp,by rw[B0];rfl,λq hq=>by rw[hww q hq];exact hW q hq,λi hi=>?_,λq hq hlt=>by rw[upV_ne (λy=>by rw[y]at hlt;exact Int.lt_irrefl _ hlt)];exact hZ q hq hlt,by rw[<- e0];rfl⟩
     rw[B0,O2]at hi
     rw[hcc i _ (by omega)]
     by_cases z:i=pre.length
     ·rw[z,upV_same,hx]
     ·rw[upV_ne (λy=>z (by injection y with y;omega))]
      exact hC i (by omega)
   ·rintro ρ ⟨pre,rs,V,ex,er,hW,hC,hZ,rfl⟩
    cases rs with
    | cons x rs=>rw[B1,U6]at er;cases er
    | nil =>
     rw[S3]at ex
     exact hN _ ⟨V,hW,λi hi=>hC i (ex ▸ hi),hZ,rfl⟩
  rintro _ ⟨V,hW,hC,hZ,rfl⟩
  with_reducible refine cutS (λρ=>∃V':Vt,Stl xs.length V (clls xs.length) V'/\ρ=[some (.io (penD a b c)),some (.fz (liD xs)),some (.ow (pdD (tdE xs.length V'))),none,none,none,none]) ?_ ?_
  ·intro N hN
   refine ⟨by rw[hxl];omega,by rw[hxl];omega,by rw[rangeD,j0,V7,hxl];exact le_size (by omega),mapC fCc ?_ ?_⟩
   ·intro d hd N' hN'
    rw[rangeD]at hd
    obtain⟨i,_,rfl⟩:=A1.mp hd
    exact hN'
   ·rw[hxl,show ((xs.length:Nat):Int).toNat=xs.length from rfl,clls_map]
    refine ⟨xs.length,V,clls xs.length,rfl,by omega,by omega,by rw[j0,V7];omega,λc hc=>?_,λV' o hs=>hN _ ⟨V',hs,rfl⟩⟩
    obtain⟨i,_,rfl⟩:=A1.mp hc
    exact h7 _
  rintro _ ⟨V',hs,rfl⟩
  exact q V' a b c _ ⟨V,hW,hC,hZ,hs⟩ ha hb hc
end
structure Sh(b k:Nat)(d:PyData):Prop where
 o:okD d=true
 p:plainD d=true
 s:d.showable=true
 z:d.depth<=k
 l:d.shown.length<=b
theorem Sh.mono{b k b' k':Nat}{d:PyData}(h:Sh b k d)(hb:b<=b')(hk:k<=k'):Sh b' k' d:=⟨h.o,h.p,h.s,Q0 h.z hk,Q0 h.l hb⟩
theorem plainAll_of:∀{l:List PyData},(∀d∈l,plainD d=true)->plainAll l=true
 | [],_=>rfl
 | x :: l,h=>by
  simp[plainAll,h x P0]
  exact plainAll_of λd hd=>h d (L0 _ hd)
theorem depth_all:∀{xs:List PyData}{n:Nat},(∀d∈xs,d.depth<=n)->M5 xs<=n
 | [],_,_=>by simp[M5]
 | x :: xs,n,h=>by
  have h1:=h x (by simp)
  have h2:=depth_all (xs:=xs) λd hd=>h d (by simp[hd])
  simp only[M5]
  omega
theorem Sh.tup{b k n:Nat}{l:List PyData}(h:∀d∈l,Sh b k d)(hn:l.length<=n):Sh (n * (b+2)+3) (k+1) (.tuple l):=by
 refine ⟨okAll_of λd hd=>(h d hd).o,by simp only[plainD];exact plainAll_of λd hd=>(h d hd).p,by simp only[t8];exact L3.showableAll_of λd hd=>(h d hd).s,?_,?_⟩
 ·have:=depth_all λd hd=>(h d hd).z
  simp only[u4]
  omega
 ·have:=shown_tuple λd hd=>(h d hd).l
  have h2:=N8 (b+2) hn
  omega
theorem Sh.lst{b k n:Nat}{l:List PyData}(h:∀d∈l,Sh b k d)(hn:l.length<=n):Sh (n * (b+2)+3) (k+1) (.list l):=by
 refine ⟨okAll_of λd hd=>(h d hd).o,by simp only[plainD];exact plainAll_of λd hd=>(h d hd).p,by simp only[t8];exact L3.showableAll_of λd hd=>(h d hd).s,?_,?_⟩
 ·have:=depth_all λd hd=>(h d hd).z
  simp only[u4]
  omega
 ·have:=shown_list λd hd=>(h d hd).l
  have h2:=N8 (b+2) hn
  omega
theorem sh_int{x:Int}(h:x.natAbs < 10 ^ 70):Sh 71 0 (.int x) :=
 ⟨rfl,rfl,showable_int (k:=233) (p6 h (by decide)) (by decide),by simp[u4],shown_int (k:=70) (by decide) h⟩
theorem sh_none:Sh 71 0 .none:=⟨rfl,rfl,rfl,by simp[u4],by decide +kernel⟩
theorem sh_bool(b:Bool):Sh 71 0 (.bool b):=⟨rfl,rfl,rfl,by simp[u4],by cases b<;>decide +kernel⟩
theorem sh_ints{l:List Int}(h:∀x∈l,x.natAbs < 10 ^ 70):∀d∈l.map G0,Sh 71 0 d:=λd hd=>by
 obtain⟨x,hx,rfl⟩:=A1.mp hd
 exact sh_int (h x hx)
theorem am{p:PyData->Prop}{x:PyData}{l:List PyData}(h:p x)(t:∀d∈l,p d):∀d∈x :: l,p d:=List.forall_mem_cons.mpr ⟨h,t⟩
theorem a0{p:PyData->Prop}:∀d∈([]:List PyData),p d:=λd hd=>by cases hd
noncomputable def Bv(e:En):Prop:=e.t.natAbs < 10 ^ 70/\e.l.natAbs < 10 ^ 70/\e.g.natAbs < 10 ^ 70/\e.w.natAbs < 10 ^ 70
theorem sh_en{e:En}(h:Bv e):Sh 400 1 (enD e):=(Sh.tup (n:=4) (sh_ints (l:=[e.t,e.l,e.g,e.w]) λx hx=>by
  simp only[X0,Q4,or_false]at hx
  rcases hx with rfl|rfl|rfl|rfl
  · exact h.1
  · exact h.2.1
  · exact h.2.2.1
  · exact h.2.2.2) (A0 4)).mono (by decide) (by decide)
theorem sh_pr{p:Int×Int}(h1:p.1.natAbs < 10 ^ 70)(h2:p.2.natAbs < 10 ^ 70):Sh 400 1 (prD p):=(Sh.tup (n:=2) (am (sh_int h1) (am (sh_int h2) a0)) (A0 2)).mono (by decide) (by decide)
theorem sh_rowp{p:Int×Int}{e:En}(h1:p.1.natAbs < 10 ^ 70)(h2:p.2.natAbs < 10 ^ 70)(h:Bv e):Sh 1000 2 (.tuple [prD p,enD e]):=(Sh.tup (n:=2) (am (sh_pr h1 h2) (am (sh_en h) a0)) (A0 2)).mono (by decide) (by decide)
structure Bad(n:Nat)(d:PyData):Prop where
 no:∀xs:List Int,xs.length=n->¬Hld xs d
 ok:okD d=true
 sh:shwZ d=true
 ss:d.showable=true
 dd:d.depth+1<=64
 ll:d.shown.length<=sizeLine
theorem shwZ_of{d:PyData}(h:plainD d=true):shwZ d=true:=by cases d<;>first|exact h|cases h
theorem Sh.bad{n:Nat}{d:PyData}(h:Sh 200000 4 d)(hn:∀xs:List Int,xs.length=n->¬Hld xs d):Bad n d:=⟨hn,h.o,shwZ_of h.p,h.s,by have:=h.z;omega,Q0 h.l (by decide)⟩
noncomputable def keyD:PyData->PyData
 | .tuple (x :: _)=>x
 | _=>.none
theorem hld_keys{xs:List Int}{ds:List PyData}(h:Hld xs (.list ds)):ds.map keyD=(strP xs.length).map prD:=by
 obtain⟨V,e,_⟩:=h
 injection e with e
 rw[e,S0]
 rfl
theorem bad_list{n:Nat}{ds:List PyData}(h:∀d∈ds,Sh 1000 2 d)(hl:ds.length<=150)(hk:ds.map keyD≠(strP n).map prD):Bad n (.list ds):=((Sh.lst h hl).mono (by decide) (by decide)).bad λxs hx z=>hk (by rw[<- hx];exact hld_keys z)
theorem keys_rows(V:Vt)(ls:List (Int×Int)):(ls.map (rowE V)).map keyD=ls.map prD:=by rw[S0];rfl
theorem prD_inj{p q:Int×Int}(h:prD p=prD q):p=q:=by
 injection h with h
 injection h with h1 h
 injection h with h2 _
 injection h1 with h1
 injection h2 with h2
 exact Prod.ext h1 h2
noncomputable abbrev cutN(K:Int)(n:Nat):Nat:=if K < 0 then (K+(n:Int)).toNat else K.toNat
theorem cutN_nat{K:Int}{k n:Nat}(h:K=k):cutN K n=k:=by
 subst h
 unfold cutN
 rw[if_neg (by omega)]
 rfl
theorem ln3{a b x y:Nat}(h:x<=a)(k:y<=b)(z:a+b<=1000):x+y<=sizeLine:=le_size (by omega)
theorem lenA{l m:List PyData}{a b:Nat}(h:l.length<=a)(k:m.length<=b):(l++m).length<=a+b:=by rw[B0];omega
theorem tkN{α:Type}{l:List α}{m:Nat}(h:l.length<=m)(n:Nat):(l.take n).length<=m:=Q0 (List.length_take_le' _ _) h
theorem dpN{α:Type}{l:List α}{m:Nat}(h:l.length<=m)(n:Nat):(l.drop n).length<=m:=by rw[E2];exact Q0 (Nat.sub_le _ _) h
theorem app_sh{l m:List PyData}{b k:Nat}(h:∀d∈l,Sh b k d)(g:∀d∈m,Sh b k d):∀d∈l++m,Sh b k d:=λd hd=>(R0.mp hd).elim (h d) (g d)
theorem put_keys{l:List PyData}{K:List PyData}{i:Nat}{x y:PyData}(hi:i < l.length)(hK:K[i]?=some y)(h:keyD x≠y):(l.take i++[x]++l.drop (i+1)).map keyD≠K:=λz=>by
 have e:(l.take i++[x]++l.drop (i+1))[i]?=some x:=by
  rw[X3,Y1 (by rw[J1];omega),J1,show i - min i l.length=0 by omega]
  rfl
 have e2:((l.take i++[x]++l.drop (i+1)).map keyD)[i]?=some (keyD x):=by rw[O0,e];rfl
 rw[z,hK]at e2
 injection e2 with e2
 exact h e2.symm
theorem rot_keys{l:List PyData}{K:List PyData}(hk:l.map keyD=K)(hK:K.Nodup)(hl:1 < l.length):(l.drop 1++l.take 1).map keyD≠K:=λz=>by
 have hKl:K.length=l.length:=by rw[<- hk,j0]
 have e1:(l.drop 1++l.take 1)[0]?=l[1]?:=by rw[X2 (by rw[E2];omega),K7]
 have e2:((l.drop 1++l.take 1).map keyD)[0]?=K[1]?:=by rw[O0,e1,<- O0,hk]
 rw[z]at e2
 have:=(A6 (by omega) hK).mp e2
 omega
theorem prDs_nodup{l:List (Int×Int)}(h:l.Nodup):(l.map prD).Nodup:=by
 rw[i5,P2]
 exact h.imp λ{a b} h z=>h (prD_inj z)
structure Rws(n:Nat)(V:Vt):Prop where
 n1:1<=n
 n2:n<=31
 b:∀p∈strP n,Bv (V p)
theorem Rws.sh{n:Nat}{V:Vt}(h:Rws n V):∀d∈(strP n).map (rowE V),Sh 1000 2 d:=λd hd=>by
 obtain⟨p,hp,rfl⟩:=A1.mp hd
 have h1:=h.n1
 have h2:=h.n2
 have:=strP_in (by omega) hp
 exact sh_rowp (by omega) (by omega) (h.b p hp)
theorem Rws.len{n:Nat}{V:Vt}(h:Rws n V):((strP n).map (rowE V)).length=(strP n).length/\((strP n).length:Int)=2 * n - 1:=by
 have h1:=h.n1
 exact ⟨j0 ..,strP_len (by omega)⟩
section
variable {P:Program}{w:World}{K:n0}{mg:Str->Option Value}{base:Heap}
structure CalsOs(P:Program)(w:World)(K:n0)(mg:Str->Option Value)(base:Heap):Prop where
 law_draw:Cal P w K mg base 1 "_law_draw" ["_law_pen_here","_law_many"] (conSp K cDraw)
noncomputable def cOs:Con:=λargs Q=>∃(a b c:Int) (n:Nat) (V:Vt),args=[.io (penD a b c),.fz (.list ((strP n).map (rowE V)))]/\0<=a/\0<=b/\0<=c/\Rws n V/\∀(d:PyData) (a' b' c':Int) (o:Ev),Bad n d->0<=a'->0<=b'->0<=c'->Q (.ow d) (some (.io (penD a' b' c')) :: o)
theorem scOs:FnScope ["_law_pen_here","_law_some","_law_at","_law_way","_law_stretch","_law_entry"] ["_law_pen_here","_law_some"] (defScope (top 37)):=⟨rfl,rfl,rfl,by decide +kernel,rfl,by decide +kernel,by decide +kernel⟩
theorem ok_os{f:Addr}{fd:FuncData}(F:Fun K "_law_other_stretches" "_law_other_stretches" (top 37) f fd)(T:Txt mg)(C:CalsOs P w K mg base):FnOk P w K mg base CX0 2 f fd ["_law_pen_here","_law_some"] (conSp K cOs):=by
 have S:=scOs
 refine wfn F S (λcdv A outer s H E hr=>(s_cons (s_set (i:=2) S.nd rfl (Or.inl rfl) (w_fnI C.law_draw (hr.mono (by first|decide|omega)) (wa_cons (wn 0) (wa_cons (wx (w_callB ok_len (call_lenK (K:=K) rfl) T.len_ PySem.boot_len (wa_cons (wn 1) wa_nil))) wa_nil))))
     (s_cons (s_set (i:=3) S.nd rfl (Or.inl rfl) (w_fnI C.law_draw (hr.mono (by first|decide|omega)) (wa_cons (wn 0) (wa_cons (wx w_int) wa_nil))))
     (s_cons (s_asgG (w_ix rfl (wn 1) (wn 2)) (g_tup rfl rfl (gs_cons (g_name (i:=4) S.nd rfl (Or.inl rfl)) (gs_cons (g_name (i:=5) S.nd rfl (Or.inl rfl)) gs_nil))))
     (s_cons (s_if (t_cmp ok_eq (op_eqE (K:=K) rfl hr.units) (wn 3) (wx w_int)) (s_one (s_ret (w_bin ok_add op_addD (wx (w_slHiL rfl (wn 1) (wn 2))) (wx (w_slLoL rfl (wn 1) (wx (w_bin ok_add op_addD (wn 2) (wx w_int)))))))) s_nil)
     (s_cons (s_if (t_cmp ok_eq (op_eqE (K:=K) rfl hr.units) (wn 3) (wx w_int)) (s_one (s_ret (w_bin ok_add op_addD (wx (w_bin ok_add op_addD (wx (w_slHiL rfl (wn 1) (wn 2))) (wx (w_lst (wa_cons (wx (w_ix rfl (wn 1) (wn 2))) wa_nil))))) (wx (w_slLoL rfl (wn 1) (wn 2)))))) s_nil)
     (s_cons (s_if (t_cmp ok_eq (op_eqE (K:=K) rfl hr.units) (wn 3) (wx w_int)) (s_one (s_ret (w_bin ok_add op_addD (wx (w_bin ok_add op_addD (wx (w_slHiL rfl (wn 1) (wn 2))) (wx (w_lst (wa_cons (wx (w_tup (wa_cons (wx (w_tup (wa_cons (wx (w_ix rfl (wn 4) (wx w_int))) (wa_cons (wx (w_bin ok_add op_addD (wx (w_ix rfl (wn 4) (wx w_int))) (wx w_int))) wa_nil)))) (wa_cons (wx (wv 5)) wa_nil)))) wa_nil))))) (wx (w_slLoL rfl (wn 1) (wx (w_bin ok_add op_addD (wn 2) (wx w_int)))))))) s_nil)
     (s_cons (s_if (t_cmp ok_gt op_gt (wx (w_callB ok_len (call_lenK (K:=K) rfl) T.len_ PySem.boot_len (wa_cons (wn 1) wa_nil))) (wx w_int)) (s_one (s_ret (w_bin ok_add op_addD (wx (w_slLoL rfl (wn 1) (wx w_int))) (wx (w_slHiL rfl (wn 1) (wx w_int)))))) s_nil)
     (s_one (s_ret (w_bin ok_add op_addD (wn 1) (wn 1)))))))))))) ?_ ?_
 ·rintro args Qd ⟨a,b,c,n,V,rfl,_⟩;rfl
 ·rintro args Qd ⟨a,b,c,n,V,rfl,ha,hb,hc,hR,q⟩
  refine ⟨noOw_of rfl,?_⟩
  obtain⟨hl1,hl2⟩:=hR.len
  have n1:=hR.n1
  have n2:=hR.n2
  have hS:=hR.sh
  have hK:=keys_rows V (strP n)
  have hnd:=strP_nodup (n:=(n:Int)) (by omega)
  have hat:∀i:Nat,i < (strP n).length->∃p,(strP n)[i]?=some p/\((strP n).map (rowE V))[i]?=some (rowE V p):=λi hi=>⟨_,y0 hi,by rw[O0,y0 hi];rfl⟩
  generalize hrows:(strP n).map (rowE V)=rows at *
  have hr62:rows.length<=62:=by omega
  refine ⟨a,b,c,_,rfl,ha,hb,hc,by omega,by omega,λr a1 b1 c1 _ r0 r1 ha1 hb1 hc1=>?_⟩
  obtain⟨i,rfl⟩:=L1 r0
  obtain⟨p,hp,hr⟩:=hat i (by omega)
  have c1':cutN ((i:Nat):Int) rows.length=i:=cutN_nat rfl
  have c2':cutN (((i:Nat):Int)+1) rows.length=i+1:=cutN_nat rfl
  refine ⟨a1,b1,c1,4,rfl,ha1,hb1,hc1,by decide,by decide,λv a2 b2 c2 _ v0 v1 ha2 hb2 hc2=>?_⟩
  have hp2:=strP_in (n:=(n:Int)) (by omega) (E1 hp)
  refine ⟨_,atI_nat hr,rfl,?_⟩
  have lenne:∀l:List PyData,l.length≠rows.length->l.map keyD≠(strP n).map prD:=λl h z=>by
   have:=congrArg S4 z
   rw[j0,j0]at this
   omega
  refine ite2 (λh=>?_) (λh=>?_)
  ·refine ⟨ln3 (tkN hr62 _) (dpN hr62 _) (by decide),q (.list (rows.take (cutN ((i:Nat):Int) rows.length)++rows.drop (cutN (((i:Nat):Int)+1) rows.length))) a2 b2 c2 _ ?_ ha2 hb2 hc2⟩
   rw[c1',c2']
   refine bad_list (app_sh (λd hd=>hS d (U2 hd)) λd hd=>hS d (K3 hd)) (by rw[B0,J1,E2];omega) (lenne _ ?_)
   rw[B0,J1,E2];omega
  refine ite2 (λh=>?_) (λh=>?_)
  ·refine ⟨_,atI_nat hr,ln3 (tkN hr62 _) (A0 1) (by decide),ln3 (lenA (tkN hr62 _) (A0 1)) (dpN hr62 _) (by decide),q (.list (rows.take (cutN ((i:Nat):Int) rows.length)++[rowE V p]++rows.drop (cutN ((i:Nat):Int) rows.length))) a2 b2 c2 _ ?_ ha2 hb2 hc2⟩
   rw[c1']
   refine bad_list (app_sh (app_sh (λd hd=>hS d (U2 hd)) (am (hS _ (E1 hr)) a0)) λd hd=>hS d (K3 hd)) (by rw[B0,B0,J1,E2,O2];omega) (lenne _ ?_)
   rw[B0,B0,J1,E2,O2];omega
  refine ite2 (λh=>?_) (λh=>?_)
  ·refine ⟨_,rfl,_,rfl,ln3 (tkN hr62 _) (A0 1) (by decide),ln3 (lenA (tkN hr62 _) (A0 1)) (dpN hr62 _) (by decide),q (.list (rows.take (cutN ((i:Nat):Int) rows.length)++[V1 [prD (p.1,p.2+1),enD (V p)]]++rows.drop (cutN (((i:Nat):Int)+1) rows.length))) a2 b2 c2 _ ?_ ha2 hb2 hc2⟩
   rw[c1',c2']
   refine bad_list (app_sh (app_sh (λd hd=>hS d (U2 hd)) (am (sh_rowp (by show p.1.natAbs < _;omega) (by show (p.2+1).natAbs < _;omega) (hR.b p (E1 hp))) a0)) λd hd=>hS d (K3 hd)) (by rw[B0,B0,J1,E2,O2];omega) (put_keys (by omega) (y:=prD p) (by rw[O0,hp];rfl) λz=>?_)
   have z:=congrArg Prod.snd (prD_inj z)
   dsimp only at z
   omega
  refine ite2 (λh=>?_) (λh=>?_)
  ·have h:(1:Int) < (rows.length:Int):=of_decide_eq_true h
   refine ⟨ln3 (dpN hr62 _) (tkN hr62 _) (by decide),q (.list (rows.drop 1++rows.take 1)) a2 b2 c2 _ ?_ ha2 hb2 hc2⟩
   exact bad_list (app_sh (λd hd=>hS d (K3 hd)) λd hd=>hS d (U2 hd)) (by rw[B0,J1,E2];omega) (rot_keys hK (prDs_nodup hnd) (by omega))
  ·refine ⟨ln3 hr62 hr62 (by decide),q (.list (rows++rows)) a2 b2 c2 _ ?_ ha2 hb2 hc2⟩
   refine bad_list (app_sh hS hS) (by rw[B0];omega) (lenne _ ?_)
   rw[B0];omega
end
noncomputable def En.bend(e:En):Nat->Int->En
 | 0,m=>⟨e.t+m,e.l,e.g,e.w⟩
 | 1,m=>⟨e.t,e.l+m,e.g,e.w⟩
 | 2,m=>⟨e.t,e.l,e.g+m,e.w⟩
 | _,m=>⟨e.t,e.l,e.g,e.w+m⟩
theorem bend_ne{e:En}{k:Nat}{m:Int}(h:m≠0):e.bend k m≠e:=λz=>by
 rcases k with _|_|_|k
 ·have:=congrArg En.t z;have:e.t+m=e.t:=this;omega
 ·have:=congrArg En.l z;have:e.l+m=e.l:=this;omega
 ·have:=congrArg En.g z;have:e.g+m=e.g:=this;omega
 ·have:=congrArg En.w z;have:e.w+m=e.w:=this;omega
theorem chg_self{p q:Int×Int}(h:¬(q.1<=p.1/\p.2<=q.2/\q≠p)):chg [p] q=false:=by
 unfold chg
 rw[show [p].filter (λc=>wdB c q)=[] from ?_]
 ·rfl
 ·rw[M6]
  intro c hc
  rw[U0.mp hc]
  unfold wdB
  intro z
  rw[W1,W1,decide_eq_true_eq,decide_eq_true_eq]at z
  refine h ⟨z.2.1,z.2.2,λy=>?_⟩
  rw[decide_eq_true y]at z
  exact absurd z.1 (by decide)
theorem arnd_wide{p:Int×Int}{n:Int}(n1:1<=n)(hp:[p.1,p.2]∈hl 0 (n - 1)):∀q∈arnd 0 (n - 1) p,q≠p/\[q.1,q.2]∈hl 0 (n - 1):=λq hq=>by
 refine ⟨λz=>?_,arnd_in _ 0 (n - 1) rfl (by omega) hp q hq⟩
 obtain⟨a,b,e,k1,k2,k3⟩:=hl_in _ 0 (n - 1) rfl (by omega) _ hp
 simp only[List.cons.injEq,and_true]at e
 have:=(ar_perm _ 0 (n - 1) rfl (by omega) (by omega) hp).mem_iff.mpr hq
 have:=(K5.mp this).2
 unfold wdB at this
 rw[W1,decide_eq_true z]at this
 exact absurd this.1 (by decide)
theorem bent_no{xs:List Int}{V V':Vt}{p:Int×Int}{e:En}(n1:1<=xs.length)(hr:∀q∈strP xs.length,rgE xs V q=true)(hp:p∈strP xs.length)
  (he:e≠V p/\(p.1 < p.2->e.w=(V p).w\/(e.w≠(V p).w/\e.t=(V p).t))) (hV:V'=upV V p e\/Stl xs.length (upV V p e) [p] V'):rgE xs V' p=false:=by
 have hn:(1:Int)<=(xs.length:Int):=by omega
 have hin:=strP_in hn hp
 have w1:∀q∈strP xs.length,(V' q).w=(upV V p e q).w:=λq hq=>by
  rcases hV with z|z
  ·rw[z]
  ·exact z.w q hq
 have same_:∀q∈strP xs.length,¬(q.1<=p.1/\p.2<=q.2/\q≠p)->V' q=upV V p e q:=λq hq h=>by
  rcases hV with z|z
  ·rw[z]
  ·exact z.no q hq (chg_self h)
 have hself:V' p=e:=by rw[same_ p hp (λz=>z.2.2 rfl),upV_same]
 have hrp:=hr p hp
 unfold rgE at hrp ⊢
 split
 ·rename_i ep
  rw[if_pos ep]at hrp
  have hv:=of_decide_eq_true hrp
  refine decide_eq_false λz=>?_
  rw[hself]at z
  have hpp:[(p.1,p.1).1,(p.1,p.1).2]∈hl 0 ((xs.length:Int) - 1):=by have:=hin.1;rw[<- ep]at this;exact this
  have ew:wts V' xs.length (p.1,p.1)=wts V xs.length (p.1,p.1):=by
   unfold wts
   congr 1
   refine Q2 λq hq=>?_
   obtain⟨q1,q2⟩:=arnd_wide hn hpp q hq
   rw[w1 q ((strP_hl hn).mpr q2),upV_ne (λy=>q1 (by rw[y];exact Prod.ext rfl ep.symm))]
  rw[cen_w ew,<- hv]at z
  exact he.1 z
 ·rename_i ep
  rw[if_neg ep]at hrp
  have hv:=of_decide_eq_true hrp
  have hlt:p.1 < p.2:=by have:=hin.2.2.1;omega
  obtain⟨s1,s2⟩:=hl_sub _ 0 ((xs.length:Int) - 1) rfl (by omega) p hin.1 hlt
  obtain⟨f1,f2⟩:=hf_ne (q:=p) (c:=p) hlt (h7 _)
  have h1:V' (hf1 p)=V (hf1 p):=by
   rw[same_ _ ((strP_hl hn).mpr s1) (λz=>by have:=z.2.1;have:p.2<=(p.1+p.2) / 2:=this;omega),upV_ne f1]
  have h2:V' (hf2 p)=V (hf2 p):=by
   rw[same_ _ ((strP_hl hn).mpr s2) (λz=>by have:=z.1;have:(p.1+p.2) / 2+1<=p.1:=this;omega),upV_ne f2]
  refine decide_eq_false λz=>?_
  have za:e=⟨(V (hf1 p)).t+(V (hf2 p)).t+e.w * (p.2 - p.1+1),min (V (hf1 p)).l (V (hf2 p)).l+e.w,max (V (hf1 p)).g (V (hf2 p)).g+e.w,e.w⟩:=by
   have z':=z
   unfold anw at z'
   rw[h1,h2,hself]at z'
   exact z'
  unfold anw at hv
  rcases he.2 hlt with k|⟨k1,k2⟩
  ·rw[k]at za
   exact he.1 (za.trans hv.symm)
  ·have t1:=congrArg En.t za
   have t2:=congrArg En.t hv
   dsimp only at t1 t2
   rw[k2,t2]at t1
   have:(V p).w * (p.2 - p.1+1)=e.w * (p.2 - p.1+1):=by omega
   exact k1 (Int.eq_of_mul_eq_mul_right (show p.2 - p.1+1≠0 by omega) this).symm
theorem bend_ok{e:En}{k:Nat}{m:Int}(hm:m≠0):e.bend k m≠e/\((e.bend k m).w=e.w\/((e.bend k m).w≠e.w/\(e.bend k m).t=e.t)):=by
 refine ⟨bend_ne hm,?_⟩
 rcases k with _|_|_|k
 ·exact .inl rfl
 ·exact .inl rfl
 ·exact .inl rfl
 ·exact .inr ⟨λz=>by have z:e.w+m=e.w:=z;omega,rfl⟩
theorem k4:∀k:Nat,k+2<=2 * 4 ^ k
 | 0=>by decide
 | k+1=>by have:=k4 k;rw[Nat.pow_succ];omega
theorem stl_bnd{n:Int}{V V':Vt}{cs:List (Int×Int)}{C:Nat}(n1:1<=n)(h:Stl n V cs V')(hcs:∀c∈cs,c.1<=c.2)(hb:∀q∈strP n,(V q).t.natAbs<=C * 4 ^ (q.2 - q.1).toNat/\(V q).l.natAbs<=C * 4 ^ (q.2 - q.1).toNat/\(V q).g.natAbs<=C * 4 ^ (q.2 - q.1).toNat)
  (hw:∀q∈strP n,(V q).w.natAbs<=C):∀(m:Nat) (q:Int×Int),q∈strP n->(q.2 - q.1).toNat=m->(V' q).t.natAbs<=C * 4 ^ m/\(V' q).l.natAbs<=C * 4 ^ m/\(V' q).g.natAbs<=C * 4 ^ m:=by
 intro m
 induction m using m4 with
 | _ m ih =>
  intro q hq e
  cases hc:chg cs q with
  | false =>
   rw[h.no q hq hc,<- e]
   exact hb q hq
  | true =>
   have hlt:=chg_lt hcs hc
   have hin:=strP_in n1 hq
   obtain⟨s1,s2⟩:=hl_sub _ 0 (n - 1) rfl (by omega) q hin.1 hlt
   have i1:=ih ((hf1 q).2 - (hf1 q).1).toNat (by show ((q.1+q.2) / 2 - q.1).toNat < m;omega) (hf1 q) ((strP_hl n1).mpr s1) rfl
   have i2:=ih ((hf2 q).2 - (hf2 q).1).toNat (by show (q.2 - ((q.1+q.2) / 2+1)).toNat < m;omega) (hf2 q) ((strP_hl n1).mpr s2) rfl
   have ww:=hw q hq
   rw[<- h.w q hq]at ww
   rw[h.go q hq hc]
   obtain⟨k,rfl⟩:∃k,m=k+1:=⟨m - 1,by omega⟩
   have p1:4 ^ ((hf1 q).2 - (hf1 q).1).toNat<=4 ^ k:=T5 (by decide) (by show ((q.1+q.2) / 2 - q.1).toNat<=k;omega)
   have p2:4 ^ ((hf2 q).2 - (hf2 q).1).toNat<=4 ^ k:=T5 (by decide) (by show (q.2 - ((q.1+q.2) / 2+1)).toNat<=k;omega)
   have m1:=Y5 C p1
   have m2:=Y5 C p2
   have e4:C * 4 ^ (k+1)=4 * (C * 4 ^ k):=by rw[Nat.pow_succ,<- R8,g9]
   have big:C<=C * 4 ^ k:=o6 _ (Nat.pos_of_ne_zero (by simp))
   have len:((V' q).w * (q.2 - q.1+1)).natAbs<=2 * (C * 4 ^ k):=by
    rw[Int.natAbs_mul]
    have hl:(q.2 - q.1+1).natAbs<=2 * 4 ^ k:=by
     have:=k4 k
     omega
    have:=Nat.mul_le_mul ww hl
    rw[<- R8,g9 C 2,R8]at this
    exact this
   unfold anw
   dsimp only
   generalize (V' q).w * (q.2 - q.1+1)=X at *
   obtain⟨a1,a2,a3⟩:=i1
   obtain⟨b1,b2,b3⟩:=i2
   rw[e4]
   refine ⟨by omega,?_,?_⟩
   ·have:(min (V' (hf1 q)).l (V' (hf2 q)).l).natAbs<=C * 4 ^ k:=by rw[Int.min_def];split<;>omega
    omega
   ·have:(max (V' (hf1 q)).g (V' (hf2 q)).g).natAbs<=C * 4 ^ k:=by rw[Int.max_def];split<;>omega
    omega
theorem By.right{xs:List Int}{V:Vt}(n1:1<=xs.length)(h:By xs V):∀p∈strP xs.length,rgE xs V p=true:=by
 obtain⟨V0,hW,hC,_,hs⟩:=h.ex
 exact (by_right n1 hW hC hs).1
theorem By.wait{xs:List Int}{V:Vt}(n1:1<=xs.length)(h:By xs V):∀p∈strP xs.length,(V p).w.natAbs<=2:=by
 obtain⟨V0,hW,hC,_,hs⟩:=h.ex
 exact (by_right n1 hW hC hs).2
theorem sum_abs{B:Nat}:∀{l:List Int},(∀x∈l,x.natAbs<=B)->l.sum.natAbs<=B * l.length
 | [],_=>m3 _
 | x :: l,h=>by
  have h1:=h x P0
  have h2:=sum_abs (l:=l) λy hy=>h y (L0 _ hy)
  rw[e7,B2,Nat.mul_succ]
  omega
theorem wts_abs{V:Vt}{n:Int}(n1:1<=n)(n2:n<=31)(hw:∀q∈strP n,(V q).w.natAbs<=2){p:Int×Int}(hp:[p.1,p.2]∈hl 0 (n - 1)):(wts V n p).natAbs<=122:=by
 have hl:=strP_len n1
 have h1:(arnd 0 (n - 1) p).length<=61:=by
  obtain⟨a,b,e,k1,k2,k3⟩:=hl_in _ 0 (n - 1) rfl (by omega) _ hp
  simp only[List.cons.injEq,and_true]at e
  have:=(ar_perm _ 0 (n - 1) rfl (by omega) (by omega) hp).length_eq
  have h2:=S6 (wdB p) (strP n)
  have h3:=hl_len _ 0 (n - 1) rfl (by omega)
  rw[<- this]
  refine Q0 (S6 _ _) ?_
  try rw[j0]
  omega
 have:=sum_abs (B:=2) (l:=(arnd 0 (n - 1) p).map λq=>(V q).w) λx hx=>by
  obtain⟨q,hq,rfl⟩:=A1.mp hx
  exact hw q ((strP_hl n1).mpr (arnd_in _ 0 (n - 1) rfl (by omega) hp q hq))
 rw[j0]at this
 unfold wts
 omega
noncomputable def Bw(B:Nat)(e:En):Prop:=e.t.natAbs<=B/\e.l.natAbs<=B/\e.g.natAbs<=B
theorem By.bnd{xs:List Int}{V:Vt}(n1:1<=xs.length)(n2:xs.length<=31)(hB:∀x∈xs,x.natAbs<=10 ^ 30)(h:By xs V):∀p∈strP xs.length,Bw (10 ^ 50) (V p):=λp hp=>by
 obtain⟨V0,hW,hC,hZ,hs⟩:=h.ex
 have hn:(1:Int)<=(xs.length:Int):=by omega
 have pz:∀k:Nat,2 * 10 ^ 30<=2 * 10 ^ 30 * 4 ^ k:=λk=>o6 _ (Nat.pow_pos (by decide))
 have:=stl_bnd (C:=2 * 10 ^ 30) hn hs (λc hc=>by obtain⟨i,_,rfl⟩:=A1.mp hc;exact h7 _) (λq hq=>?_) (λq hq=>Q0 (hW q hq).1 (by decide)) _ p hp rfl
 ·have hin:=strP_in hn hp
  have p1:4 ^ (p.2 - p.1).toNat<=4 ^ 30:=T5 (by decide) (by omega)
  have p2:=Y5 (2 * 10 ^ 30) p1
  have p3:2 * 10 ^ 30 * 4 ^ 30<=10 ^ 50:=by decide
  exact ⟨Q0 this.1 (Q0 p2 p3),Q0 this.2.1 (Q0 p2 p3),Q0 this.2.2 (Q0 p2 p3)⟩
 ·have hin:=strP_in hn hq
  by_cases e:q.1=q.2
  ·obtain⟨i,hi⟩:=L1 hin.2.1
   have eq:q=((i:Int),(i:Int)):=Prod.ext hi (by rw[<- e];exact hi)
   have hil:i < xs.length:=by omega
   have hx:(xs.getD i 0).natAbs<=10 ^ 30:=by
    rw[Z1,y0 hil]
    exact hB _ (V2 hil)
   have hw:=wts_abs (V:=V0) hn (by omega) (λq hq=>(hW q hq).1) (p:=((i:Int),(i:Int))) (by rw[<- eq];exact hin.1)
   have hv:((xs.getD i 0) - wts V0 xs.length ((i:Int),(i:Int))).natAbs<=2 * 10 ^ 30:=by omega
   have:=Q0 hv (pz (q.2 - q.1).toNat)
   rw[eq,hC i hil]
   rw[eq]at this
   exact ⟨this,this,this⟩
  ·obtain⟨z1,z2,z3⟩:=hZ q hq (by omega)
   rw[z1,z2,z3]
   exact ⟨m3 _,m3 _,m3 _⟩
theorem big_abs{x:Int}(h:Big x):x.natAbs<=10 ^ 30:=by
 obtain⟨h1,h2⟩:=h
 omega
noncomputable def Shw(d:PyData):Prop:=(shwZ d=true/\d.showable=true/\d.depth+1<=64/\d.shown.length<=sizeLine) \/
 ∃ps:List (List Int×List Int),d=pdD (ps.map λp=>(p.1,tI p.2))/\(dP ps).showable=true/\(dP ps).depth+1<=64/\(dP ps).shown.length<=sizeLine
structure Spo(xs:List Int)(d:PyData):Prop where
 no:¬Hld xs d
 ok:okP d
 sw:Shw d
theorem Bad.spo{xs:List Int}{d:PyData}(h:Bad xs.length d):Spo xs d:=⟨h.no xs rfl,.inl h.ok,.inl ⟨h.sh,h.ss,h.dd,h.ll⟩⟩
theorem sh_spo{xs:List Int}{d:PyData}(h:Sh 200000 4 d)(hn:¬Hld xs d):Spo xs d:=⟨hn,.inl h.o,.inl ⟨shwZ_of h.p,h.s,by have:=h.z;omega,Q0 h.l (by decide)⟩⟩
theorem rows_spo{xs:List Int}{V:Vt}{n:Nat}(n1:1<=n)(n2:n<=31)(hb:∀p∈strP n,Bv (V p))(hn:¬Hld xs (.list ((strP n).map (rowE V)))):Spo xs (.list ((strP n).map (rowE V))) :=
 sh_spo ((Sh.lst (Rws.sh ⟨n1,n2,hb⟩) (n:=62) (by rw[j0];have:=strP_len (n:=(n:Int)) (by omega);omega)).mono (by decide) (by decide)) hn
noncomputable def rwB(n:Int)(V:Vt):List Bxx:=(strP n).map λp=>([p.1,p.2],[(V p).t,(V p).l,(V p).g,(V p).w])
theorem tdE_rwB(n:Int)(V:Vt):tdE n V=(rwB n V).map λr=>(r.1,tI r.2):=by
 unfold tdE rwB
 rw[S0]
 rfl
theorem rwB_box(n:Int)(V:Vt):(rwB n V).map boxD=(strP n).map (rowE V):=by
 unfold rwB
 rw[S0]
 rfl
theorem strP_up{n:Int}(h:1<=n):(strP n).Pairwise λp q=>HT.lexLt [q.1,q.2] [p.1,p.2]=false:=by
 unfold strP
 rw[P2]
 have:=srtL_up SG.lex_wk (hl 0 (n - 1))
 refine List.Pairwise.imp_of_mem ?_ this
 intro a b ha hb hab
 obtain⟨a1,a2,rfl,_⟩:=hl_in _ 0 (n - 1) rfl (by omega) a (strS_mem.mp ha)
 obtain⟨b1,b2,rfl,_⟩:=hl_in _ 0 (n - 1) rfl (by omega) b (strS_mem.mp hb)
 exact hab
theorem rwB_sort{n:Int}{V:Vt}(h:1<=n){rows:List Bxx}(h1:rows.Perm (rwB n V))(h2:rows.Pairwise λa b=>ltB b a=false):rows=rwB n V:=by
 refine SG.sorted_uniq (lt:=ltB) (λa b=>ltB_eq) h1 h2 ?_
 unfold rwB
 rw[P2]
 refine ((strP_up h).and (strP_nodup h)).imp λ{p q} hpq=>?_
 unfold ltB
 rw[if_neg]
 ·exact hpq.1
 ·intro z
  have z:[q.1,q.2]=[p.1,p.2]:=z
  simp only[List.cons.injEq,and_true]at z
  exact hpq.2 (Prod.ext z.1.symm z.2.symm)
theorem keys_sort{n:Int}{V:Vt}(h:1<=n){rows:List (List Int)}(h1:rows.Perm ((tdE n V).map (·.1)))(h2:rows.Pairwise λa b=>HT.lexLt b a=false):rows=(strP n).map λp=>[p.1,p.2]:=by
 have e0:(tdE n V).map (·.1)=(strP n).map λp=>[p.1,p.2]:=by unfold tdE;rw[S0];rfl
 rw[e0]at h1
 refine SG.sorted_uniq (lt:=HT.lexLt) (λa b=>SG.lex_eq) h1 h2 ?_
 rw[P2]
 exact strP_up h
noncomputable def prs9:List (List Int):=[0,1,2,3,4,5,6,7,8].flatMap λa=>[0,1,2,3,4,5,6,7,8].map λb=>[a,b]
theorem prs9_hash:(prs9.map hL).Nodup:=by decide +kernel
theorem mem9:∀{a:Int},0<=a->a < 9->a∈([0,1,2,3,4,5,6,7,8]:List Int):=λ{a} h1 h2=>by
 simp only[X0,Q4,or_false]
 omega
theorem prs9_mem{a b:Int}(h1:0<=a)(h2:a < 9)(h3:0<=b)(h4:b < 9):[a,b]∈prs9:=List.mem_flatMap.mpr ⟨a,mem9 h1 h2,A1.mpr ⟨b,mem9 h3 h4,rfl⟩⟩
theorem inj_nodup{α β:Type}{f:α->β}:∀{l:List α},(l.map f).Nodup->∀x∈l,∀y∈l,f x=f y->x=y
 | [],_,x,hx,_,_,_=>by cases hx
 | a :: l,h,x,hx,y,hy,e=>by
  rw[B1,E3]at h
  rcases X0.mp hx with rfl|hx
  ·rcases X0.mp hy with rfl|hy
   ·rfl
   ·exact absurd (A1.mpr ⟨y,hy,e.symm⟩) h.1
  ·rcases X0.mp hy with z|hy
   ·exact absurd (A1.mpr ⟨x,hx,by rw[e,z]⟩) h.1
   ·exact inj_nodup h.2 x hx y hy e
theorem hL9{a b:Int×Int}(ha:[a.1,a.2]∈prs9)(hb:[b.1,b.2]∈prs9)(h:hL [a.1,a.2]=hL [b.1,b.2]):a=b:=by
 have:=inj_nodup prs9_hash [a.1,a.2] ha [b.1,b.2] hb h
 simp only[List.cons.injEq,and_true]at this
 exact Prod.ext this.1 this.2
theorem tdE_hash{n:Int}{V:Vt}(h:1<=n)(h9:n<=9):((tdE n V).map λp=>hL p.1).Nodup:=by
 have e:((tdE n V).map λp=>hL p.1)=(strP n).map λp=>hL [p.1,p.2]:=by
  unfold tdE
  rw[S0]
  rfl
 rw[e,i5,P2]
 refine List.Pairwise.imp_of_mem ?_ (strP_nodup h)
 intro a b ha hb hab z
 have ia:=strP_in h ha
 have ib:=strP_in h hb
 exact hab (hL9 (prs9_mem (by omega) (by omega) (by omega) (by omega)) (prs9_mem (by omega) (by omega) (by omega) (by omega)) z)
structure Rgt(xs:List Int)(V:Vt):Prop where
 n1:1<=xs.length
 n2:xs.length<=9
 r:∀p∈strP xs.length,rgE xs V p=true
 b:∀p∈strP xs.length,Bw (10 ^ 50) (V p)
 w:∀p∈strP xs.length,(V p).w.natAbs<=2
theorem hld_right{xs:List Int}{V:Vt}(n1:1<=xs.length)(h:Hld xs (.list ((strP xs.length).map (rowE V)))):∀p∈strP xs.length,rgE xs V p=true:=λp hp=>by
 have hn:(1:Int)<=(xs.length:Int):=by omega
 obtain⟨V',e,hr⟩:=h
 injection e with e
 have hv:=rowE_inj e
 rw[rgE_congr n1 (λq hq=>hv q ((strP_hl hn).mpr hq)) ((strP_hl hn).mp hp)]
 exact hr p hp
theorem bend_bw{B m:Nat}{e:En}{k:Nat}{x:Int}(h:Bw B e)(hw:e.w.natAbs<=2)(hx:x.natAbs<=m):Bw (B+m) (e.bend k x)/\(e.bend k x).w.natAbs<=2+m:=by
 obtain⟨h1,h2,h3⟩:=h
 rcases k with _|_|_|k
 ·exact ⟨⟨by show (e.t+x).natAbs<=_;omega,by show e.l.natAbs<=_;omega,by show e.g.natAbs<=_;omega⟩,by show e.w.natAbs<=_;omega⟩
 ·exact ⟨⟨by show e.t.natAbs<=_;omega,by show (e.l+x).natAbs<=_;omega,by show e.g.natAbs<=_;omega⟩,by show e.w.natAbs<=_;omega⟩
 ·exact ⟨⟨by show e.t.natAbs<=_;omega,by show e.l.natAbs<=_;omega,by show (e.g+x).natAbs<=_;omega⟩,by show e.w.natAbs<=_;omega⟩
 ·exact ⟨⟨by show e.t.natAbs<=_;omega,by show e.l.natAbs<=_;omega,by show e.g.natAbs<=_;omega⟩,by show (e.w+x).natAbs<=_;omega⟩
theorem bw_bv{B:Nat}{e:En}(h:Bw B e)(hw:e.w.natAbs<=B)(hB:B < 10 ^ 70):Bv e:=⟨Q1 h.1 hB,Q1 h.2.1 hB,Q1 h.2.2 hB,Q1 hw hB⟩
theorem bent_bnd{xs:List Int}{V V':Vt}{p:Int×Int}{k:Nat}{m:Int}(hR:Rgt xs V)(hp:p∈strP xs.length)(hm:m.natAbs<=10 ^ 9)(hV:V'=upV V p ((V p).bend k m)\/Stl xs.length (upV V p ((V p).bend k m)) [p] V'):∀q∈strP xs.length,Bv (V' q):=λq hq=>by
 have hn:(1:Int)<=(xs.length:Int):=by have:=hR.n1;omega
 have h9:=hR.n2
 have u:∀q∈strP xs.length,Bw (10 ^ 50+10 ^ 9) (upV V p ((V p).bend k m) q)/\(upV V p ((V p).bend k m) q).w.natAbs<=2+10 ^ 9:=λq hq=>by
  by_cases z:q=p
  ·rw[z,upV_same]
   exact bend_bw (hR.b p hp) (hR.w p hp) hm
  ·rw[upV_ne z]
   have h:=hR.b q hq
   have hw:=hR.w q hq
   exact ⟨⟨Q0 h.1 (T2 _ _),Q0 h.2.1 (T2 _ _),Q0 h.2.2 (T2 _ _)⟩,Q0 hw (T2 _ _)⟩
 rcases hV with z|z
 ·rw[z]
  exact bw_bv (u q hq).1 (Q0 (u q hq).2 (by decide)) (by decide)
 ·have pz:∀k:Nat,10 ^ 50+10 ^ 9<=10 ^ 51 * 4 ^ k:=λk=>Q0 (show 10 ^ 50+10 ^ 9<=10 ^ 51 by decide) (o6 _ (Nat.pow_pos (by decide)))
  have h:=stl_bnd (C:=10 ^ 51) hn z (λc hc=>by rw[U0.mp hc];exact (strP_in hn hp).2.2.1) (λq hq=>?_) (λq hq=>Q0 (u q hq).2 (by decide)) _ q hq rfl
  ·have hin:=strP_in hn hq
   have p1:4 ^ (q.2 - q.1).toNat<=4 ^ 9:=T5 (by decide) (by omega)
   have p2:=Y5 (10 ^ 51) p1
   have hw:=(u q hq).2
   rw[<- z.w q hq]at hw
   exact bw_bv (B:=10 ^ 51 * 4 ^ 9) ⟨Q0 h.1 p2,Q0 h.2.1 p2,Q0 h.2.2 p2⟩ (Q0 hw (by decide)) (by decide)
  ·have h:=(u q hq).1
   exact ⟨Q0 h.1 (pz _),Q0 h.2.1 (pz _),Q0 h.2.2 (pz _)⟩
section
variable {P:Program}{w:World}{K:n0}{mg:Str->Option Value}{base:Heap}
structure CalsBe(P:Program)(w:World)(K:n0)(mg:Str->Option Value)(base:Heap):Prop where
 law_draw:Cal P w K mg base 1 "_law_draw" ["_law_pen_here","_law_many"] (conSp K cDraw)
 law_settle:Cal P w K mg base 12 "_law_settle" ["_law_kept","_law_changed"] (conSp K cSe)
noncomputable def cBe:Con:=λargs Q=>∃(a b c:Int) (xs:List Int) (V:Vt),args=[.io (penD a b c),.fz (pdD (tdE xs.length V)),.fz (liD xs)]/\0<=a/\0<=b/\0<=c/\Rgt xs V /\
 ∀(d:PyData) (a' b' c':Int) (o:Ev),Spo xs d->0<=a'->0<=b'->0<=c'->Q (.ow d) (some (.io (penD a' b' c')) :: o)
theorem scBe:FnScope ["_law_pen_here","_law_kept","_law_numbers","_law_found","_law_one","_law_spot","_law_more","_law_entry"] ["_law_pen_here","_law_kept","_law_numbers"] (defScope (top 35)):=⟨rfl,rfl,rfl,by decide +kernel,rfl,by decide +kernel,by decide +kernel⟩
theorem ok_be{f:Addr}{fd:FuncData}(F:Fun K "_law_bent" "_law_bent" (top 35) f fd)(T:Txt mg)(C:CalsBe P w K mg base):FnOk P w K mg base CX0 13 f fd ["_law_pen_here","_law_kept","_law_numbers"] (conSp K cBe):=by
 have S:=scBe
 refine wfn F S (λcdv A outer s H E hr=>(s_cons (s_set (i:=3) S.nd rfl (Or.inl rfl) (w_callT ok_dictCp (call_dictCp rfl) T.dict_ (by decide +kernel) (wa_cons (wn 1) wa_nil)))
     (s_cons (s_set (i:=4) S.nd rfl (Or.inl rfl) (w_ix rfl (wx (w_callB ok_srtKy (call_srtKy rfl rfl) T.sorted_ boot_sorted (wa_cons (wn 1) wa_nil))) (wx (w_fnI C.law_draw (hr.mono (by first|decide|omega)) (wa_cons (wn 0) (wa_cons (wx (w_callB ok_lenP call_lenP T.len_ PySem.boot_len (wa_cons (wn 1) wa_nil))) wa_nil))))))
     (s_cons (s_set (i:=5) S.nd rfl (Or.inl rfl) (w_fnI C.law_draw (hr.mono (by first|decide|omega)) (wa_cons (wn 0) (wa_cons (wx w_int) wa_nil))))
     (s_cons (s_set (i:=6) S.nd rfl (Or.inl rfl) (w_ix rfl (wx (w_lst (wa_cons (wx w_int) (wa_cons (wx (w_neg (wx w_int))) (wa_cons (wx (w_bin ok_add op_addD (wx w_int) (wx (w_fnI C.law_draw (hr.mono (by first|decide|omega)) (wa_cons (wn 0) (wa_cons (wx (w_bin ok_pow op_pow (wx w_int) (wx w_int))) wa_nil)))))) wa_nil))))) (wx (w_fnI C.law_draw (hr.mono (by first|decide|omega)) (wa_cons (wn 0) (wa_cons (wx w_int) wa_nil))))))
     (s_cons (s_set (i:=7) S.nd rfl (Or.inl rfl) (w_callT ok_list (call_listK (K:=K) rfl) T.list_ boot_list (wa_cons (wx (w_pget (hu6_of hr) (wn 1) (wn 4))) wa_nil)))
     (s_cons (s_ix (w_bin ok_add op_addD (wx (w_ix rfl (wn 7) (wn 5))) (wn 6)) (wn 7) (wn 5))
     (s_cons (s_keyP (hu_of hr) (wn 3) (wn 4) (w_callT ok_tuple (call_tupleK (K:=K) rfl) T.tuple_ boot_tuple (wa_cons (wn 7) wa_nil)))
     (s_cons (s_if (t_cmp ok_eq (op_eqE (K:=K) rfl hr.units) (wx (w_fnI C.law_draw (hr.mono (by first|decide|omega)) (wa_cons (wn 0) (wa_cons (wx w_int) wa_nil)))) (wx w_int)) (s_one (s_expr (w_fnI C.law_settle (hr.mono (by first|decide|omega)) (wa_cons (wn 3) (wa_cons (wx (w_lst (wa_cons (wx (wv 4)) wa_nil))) wa_nil))))) s_nil)
     (s_one (s_ret (w_srtIt rfl rfl (hu2_of hr) T.sorted_ (wn 3))))))))))))) ?_ ?_
 ·rintro args Qd ⟨a,b,c,xs,V,rfl,_⟩;rfl
 ·rintro args Qd ⟨a,b,c,xs,V,rfl,ha,hb,hc,hR,q⟩
  refine ⟨noOw_of rfl,?_⟩
  have hn:(1:Int)<=(xs.length:Int):=by have:=hR.n1;omega
  have hsl:=strP_len hn
  have h9:=hR.n2
  have htl:(tdE xs.length V).length=(strP xs.length).length:=by unfold tdE;rw[j0]
  with_reducible refine cutS (λρ=>ρ=[some (.io (penD a b c)),some (.fz (pdD (tdE xs.length V))),some (.fz (liD xs)),some (.ow (pdD (tdE xs.length V))),none,none,none,none]) ?_ ?_
  ·intro N hN
   exact ⟨tdE xs.length V,rfl,λz=>by rw[z]at htl;rw[<- htl]at hsl;simp at hsl;omega,tdE_hash hn (by omega),hN _ rfl⟩
  rintro _ rfl
  with_reducible refine cutS (λρ=>∃(p:Int×Int) (a b c:Int),p∈strP xs.length/\0<=a/\0<=b/\0<=c/\ρ=[some (.io (penD a b c)),some (.fz (pdD (tdE xs.length V))),some (.fz (liD xs)),some (.ow (pdD (tdE xs.length V))),some (.fz (prD p)),none,none,none]) ?_ ?_
  ·intro N hN
   refine ⟨tdE xs.length V,rfl,by omega,?_,λrows hp hw=>?_⟩
   ·intro x hx
    unfold tdE at hx
    obtain⟨q,_,rfl⟩:=A1.mp hx
    exact List.cons_ne_nil _ _
   rw[keys_sort hn hp hw]
   refine ⟨a,b,c,_,rfl,ha,hb,hc,by rw[j0];omega,by rw[j0];omega,λr a1 b1 c1 _ r0 r1 ha1 hb1 hc1=>?_⟩
   obtain⟨i,rfl⟩:=L1 r0
   rw[j0]at r1
   have hi:i < (strP xs.length).length:=by omega
   refine ⟨prD (strP xs.length)[i],?_,hN _ ⟨(strP xs.length)[i],a1,b1,c1,V2 hi,ha1,hb1,hc1,rfl⟩⟩
   refine atI_nat ?_
   rw[S0,O0,y0 hi]
   rfl
  rintro _ ⟨p,a,b,c,hp,ha,hb,hc,rfl⟩
  with_reducible refine cutS (λρ=>∃(k:Nat) (a b c:Int),k < 4/\0<=a/\0<=b/\0<=c/\ρ=[some (.io (penD a b c)),some (.fz (pdD (tdE xs.length V))),some (.fz (liD xs)),some (.ow (pdD (tdE xs.length V))),some (.fz (prD p)),some (.fz (.int k)),none,none]) ?_ ?_
  ·intro N hN
   refine ⟨a,b,c,_,rfl,ha,hb,hc,by decide,by decide,λr a1 b1 c1 _ r0 r1 ha1 hb1 hc1=>?_⟩
   obtain⟨i,rfl⟩:=L1 r0
   exact hN _ ⟨i,a1,b1,c1,by omega,ha1,hb1,hc1,rfl⟩
  rintro _ ⟨k,a,b,c,hk,ha,hb,hc,rfl⟩
  with_reducible refine cutS (λρ=>∃(m a b c:Int),m≠0/\m.natAbs<=10 ^ 9/\0<=a/\0<=b/\0<=c/\ρ=[some (.io (penD a b c)),some (.fz (pdD (tdE xs.length V))),some (.fz (liD xs)),some (.ow (pdD (tdE xs.length V))),some (.fz (prD p)),some (.fz (.int k)),some (.fz (.int m)),none]) ?_ ?_
  ·intro N hN
   refine ⟨⟨by decide,by decide,by decide⟩,a,b,c,_,rfl,ha,hb,hc,by decide,by decide,λr a1 b1 c1 _ r0 r1 ha1 hb1 hc1=>?_⟩
   have r1:r < 10 ^ 9:=r1
   refine ⟨a1,b1,c1,3,rfl,ha1,hb1,hc1,by decide,by decide,λv a2 b2 c2 _ v0 v1 ha2 hb2 hc2=>?_⟩
   obtain⟨j,rfl⟩:=L1 v0
   have hj:j=0\/j=1\/j=2:=by omega
   rcases hj with rfl|rfl|rfl
   ·exact ⟨.int 1,rfl,hN _ ⟨1,a2,b2,c2,by decide,by decide,ha2,hb2,hc2,rfl⟩⟩
   ·exact ⟨.int (-1),rfl,hN _ ⟨-1,a2,b2,c2,by decide,by decide,ha2,hb2,hc2,rfl⟩⟩
   ·exact ⟨.int (1+r),rfl,hN _ ⟨1+r,a2,b2,c2,by omega,by omega,ha2,hb2,hc2,rfl⟩⟩
  rintro _ ⟨m,a,b,c,hm,hm9,ha,hb,hc,rfl⟩
  with_reducible refine cutS (λρ=>ρ=[some (.io (penD a b c)),some (.fz (pdD (tdE xs.length V))),some (.fz (liD xs)),some (.ow (pdD (tdE xs.length V))),some (.fz (prD p)),some (.fz (.int k)),some (.fz (.int m)),some (.ow (liD [(V p).t,(V p).l,(V p).g,(V p).w]))]) ?_ ?_
  ·intro N hN
   exact ⟨tdE xs.length V,[p.1,p.2],_,rfl,rfl,tdE_mem ((strP_hl hn).mp hp),hN _ rfl⟩
  rintro _ rfl
  with_reducible refine cutS (λρ=>ρ=[some (.io (penD a b c)),some (.fz (pdD (tdE xs.length V))),some (.fz (liD xs)),some (.ow (pdD (tdE xs.length V))),some (.fz (prD p)),some (.fz (.int k)),some (.fz (.int m)),some (.ow (liD [((V p).bend k m).t,((V p).bend k m).l,((V p).bend k m).g,((V p).bend k m).w]))]) ?_ ?_
  ·intro N hN
   have hk4:k=0\/k=1\/k=2\/k=3:=by omega
   rcases hk4 with rfl|rfl|rfl|rfl
   ·exact ⟨_,rfl,0,rfl,hN _ rfl⟩
   ·exact ⟨_,rfl,1,rfl,hN _ rfl⟩
   ·exact ⟨_,rfl,2,rfl,hN _ rfl⟩
   ·exact ⟨_,rfl,3,rfl,hN _ rfl⟩
  rintro _ rfl
  with_reducible refine cutS (λρ=>∃x7,ρ=[some (.io (penD a b c)),some (.fz (pdD (tdE xs.length V))),some (.fz (liD xs)),some (.ow (pdD (tdE xs.length (upV V p ((V p).bend k m))))),some (.fz (prD p)),some (.fz (.int k)),some (.fz (.int m)),x7]) ?_ ?_
  ·intro N hN
   have hdl:(tdE xs.length V).length < sizeLine:=Q1 (show (tdE xs.length V).length<=100 by omega) (by decide)
   have e0:=tdE_puts (V:=V) hn hp ((V p).bend k m)
   exact ⟨[p.1,p.2],tdE xs.length V,rfl,rfl,rfl,hdl,hN _ ⟨_,by rw[<- e0];rfl⟩⟩
  rintro _ ⟨x7,rfl⟩
  with_reducible refine cutS (λρ=>∃(V':Vt) (a b c:Int),(V'=upV V p ((V p).bend k m)\/Stl xs.length (upV V p ((V p).bend k m)) [p] V')/\0<=a/\0<=b/\0<=c/\ρ=[some (.io (penD a b c)),some (.fz (pdD (tdE xs.length V))),some (.fz (liD xs)),some (.ow (pdD (tdE xs.length V'))),some (.fz (prD p)),some (.fz (.int k)),some (.fz (.int m)),x7]) ?_ ?_
  ·intro N hN
   refine ⟨a,b,c,_,rfl,ha,hb,hc,by decide,by decide,λr a1 b1 c1 _ r0 r1 ha1 hb1 hc1=>?_⟩
   refine ite2 (λh=>?_) (λh=>hN _ ⟨_,a1,b1,c1,.inl rfl,ha1,hb1,hc1,rfl⟩)
   refine ⟨xs.length,upV V p ((V p).bend k m),[p],rfl,hn,by omega,Q6 rfl,λc hc=>?_,λV' o hs=>hN _ ⟨V',a1,b1,c1,.inr hs,ha1,hb1,hc1,rfl⟩⟩
   rw[U0.mp hc]
   exact (strP_in hn hp).2.2.1
  rintro _ ⟨V',a,b,c,hV,ha,hb,hc,rfl⟩
  refine ⟨rwB xs.length V',by rw[tdE_rwB];rfl,by unfold rwB;rw[j0];omega,λrows h1 h2=>?_⟩
  rw[rwB_sort hn h1 h2,rwB_box]
  refine q _ a b c _ (rows_spo hR.n1 (by omega) ?_ ?_) ha hb hc
  ·exact bent_bnd hR hp hm9 hV
  ·intro h
   have h1:=hld_right hR.n1 h p hp
   rw[bent_no hR.n1 hR.r hp (⟨(bend_ok hm).1,λ_=>(bend_ok hm).2⟩) hV]at h1
   cases h1
end
noncomputable def Oth(xs ys:List Int):Prop:=ys.length≠xs.length\/∃(i:Nat) (x:Int),i < xs.length/\x≠xs.getD i 0/\ys=xs.set i x
theorem other_no{xs ys:List Int}{V:Vt}(n1:1<=xs.length)(m1:1<=ys.length)(h:Oth xs ys)(hr:∀p∈strP ys.length,rgE ys V p=true):¬Hld xs (.list ((strP ys.length).map (rowE V))):=λz=>by
 rcases h with h|⟨i,x,hi,hx,rfl⟩
 ·obtain⟨V',e,_⟩:=z
  injection e with e
  have e:=congrArg S4 e
  rw[j0,j0]at e
  have h1:=strP_len (n:=(xs.length:Int)) (by omega)
  have h2:=strP_len (n:=(ys.length:Int)) (by omega)
  omega
 ·have el:(xs.set i x).length=xs.length:=T3 ..
  have hn:(1:Int)<=(xs.length:Int):=by omega
  rw[el]at z hr
  have hc:[(i:Int),(i:Int)]∈hl 0 ((xs.length:Int) - 1):=hl_cell _ 0 _ rfl _ (by omega) (by omega)
  have h1:=hld_right n1 z (i,i) (strP_of hc)
  have h2:=hr (i,i) (strP_of hc)
  unfold rgE at h1 h2
  rw[if_pos rfl]at h1 h2
  have h1:=of_decide_eq_true h1
  have h2:=of_decide_eq_true h2
  rw[el]at h2
  rw[h1]at h2
  have h3:=congrArg En.t h2
  unfold cen at h3
  have e1:(xs.set i x).getD i 0=x:=by rw[Z1,J6 hi];rfl
  have h3:xs.getD i 0 - wts V xs.length ((i:Int),(i:Int))=(xs.set i x).getD i 0 - wts V xs.length ((i:Int),(i:Int)):=h3
  rw[e1]at h3
  omega
theorem er_map:∀(l:List Int) (j:Nat),(l.map G0).eraseIdx j=(l.eraseIdx j).map G0
 | [],_=>rfl
 | _ :: _,0=>rfl
 | x :: l,j+1=>by
  show G0 x :: (l.map G0).eraseIdx j=G0 x :: (l.eraseIdx j).map G0
  rw[er_map l j]
theorem ins_map(l:List Int)(j:Nat)(x:Int):(l.map G0).take j++G0 x :: (l.map G0).drop j=(l.take j++x :: l.drop j).map G0:=by
 rw[O3,B1,List.map_take,List.map_drop]
section
variable {P:Program}{w:World}{K:n0}{mg:Str->Option Value}{base:Heap}
structure CalsOr(P:Program)(w:World)(K:n0)(mg:Str->Option Value)(base:Heap):Prop where
 law_draw:Cal P w K mg base 1 "_law_draw" ["_law_pen_here","_law_many"] (conSp K cDraw)
 law_by_hand:Cal P w K mg base 13 "_law_by_hand" ["_law_pen_here","_law_numbers"] (conSp K cBh)
noncomputable def cOr:Con:=λargs Q=>∃(a b c:Int) (xs:List Int),args=[.io (penD a b c),.fz (liD xs)]/\0<=a/\0<=b/\0<=c/\1<=xs.length/\xs.length<=9/\(∀x∈xs,Big x) /\
 ∀(d:PyData) (a' b' c':Int) (o:Ev),Spo xs d->0<=a'->0<=b'->0<=c'->Q (.ow d) (some (.io (penD a' b' c')) :: o)
theorem scOr:FnScope ["_law_pen_here","_law_numbers","_law_some","_law_at","_law_way"] ["_law_pen_here","_law_numbers"] (defScope (top 36)):=⟨rfl,rfl,rfl,by decide +kernel,rfl,by decide +kernel,by decide +kernel⟩
theorem ok_or{f:Addr}{fd:FuncData}(F:Fun K "_law_other_row" "_law_other_row" (top 36) f fd)(T:Txt mg)(C:CalsOr P w K mg base):FnOk P w K mg base CX0 14 f fd ["_law_pen_here","_law_numbers"] (conSp K cOr):=by
 have S:=scOr
 refine wfn F S (λcdv A outer s H E hr=>(s_cons (s_set (i:=2) S.nd rfl (Or.inl rfl) (w_callT ok_list (call_listK (K:=K) rfl) T.list_ boot_list (wa_cons (wn 1) wa_nil)))
     (s_cons (s_set (i:=3) S.nd rfl (Or.inl rfl) (w_fnI C.law_draw (hr.mono (by first|decide|omega)) (wa_cons (wn 0) (wa_cons (wx (w_callB ok_len (call_lenK (K:=K) rfl) T.len_ PySem.boot_len (wa_cons (wn 2) wa_nil))) wa_nil))))
     (s_cons (s_set (i:=4) S.nd rfl (Or.inl rfl) (w_fnI C.law_draw (hr.mono (by first|decide|omega)) (wa_cons (wn 0) (wa_cons (wx w_int) wa_nil))))
     (s_cons (s_if (t_w (t_and (t_cmp ok_eq (op_eqE (K:=K) rfl hr.units) (wn 4) (wx w_int)) (t_and1 (t_cmp ok_gt op_gt (wx (w_callB ok_len (call_lenK (K:=K) rfl) T.len_ PySem.boot_len (wa_cons (wn 2) wa_nil))) (wx w_int))))) (s_one (s_expr (w_m ok_popAt rfl PySem.F.slot_list_pop PySem.F.type_list_pop mt_popAt (wn 2) (wa_cons (wx (w_ix rfl (wx (w_lst (wa_cons (wx (wv 3)) (wa_cons (wx (w_bin ok_sub op_sub (wx (w_callB ok_len (call_lenK (K:=K) rfl) T.len_ PySem.boot_len (wa_cons (wn 2) wa_nil))) (wx w_int))) (wa_cons (wx w_int) wa_nil))))) (wx (w_fnI C.law_draw (hr.mono (by first|decide|omega)) (wa_cons (wn 0) (wa_cons (wx w_int) wa_nil)))))) wa_nil)))) (s_one (s_if (t_cmp ok_eq (op_eqE (K:=K) rfl hr.units) (wn 4) (wx w_int)) (s_one (s_expr (w_m ok_insert rfl PySem.F.slot_list_insert PySem.F.type_list_insert mt_insert (wn 2) (wa_cons (wx (w_ix rfl (wx (w_lst (wa_cons (wx (wv 3)) (wa_cons (wx (w_callB ok_len (call_lenK (K:=K) rfl) T.len_ PySem.boot_len (wa_cons (wn 2) wa_nil))) wa_nil)))) (wx (w_fnI C.law_draw (hr.mono (by first|decide|omega)) (wa_cons (wn 0) (wa_cons (wx w_int) wa_nil)))))) (wa_cons (wx (w_ix rfl (wn 2) (wn 3))) wa_nil))))) (s_one (s_if (t_cmp ok_eq (op_eqE (K:=K) rfl hr.units) (wn 4) (wx w_int)) (s_one (s_set (i:=2) S.nd rfl (Or.inl rfl) (w_bin ok_add op_addD (wn 2) (wn 2)))) (s_one (s_ix (w_bin ok_sub op_sub (wx (w_bin ok_add op_addD (wx (w_ix rfl (wn 2) (wn 3))) (wx w_int))) (wx (w_bin ok_mul op_mulD (wx w_int) (wx (w_fnI C.law_draw (hr.mono (by first|decide|omega)) (wa_cons (wn 0) (wa_cons (wx w_int) wa_nil))))))) (wn 2) (wn 3))))))))
     (s_one (s_ret (w_srtIt rfl rfl (hu2_of hr) T.sorted_ (wx (w_fnI C.law_by_hand (hr.mono (by first|decide|omega)) (wa_cons (wn 0) (wa_cons (wx (wv 2)) wa_nil)))))))))))) ?_ ?_
 ·rintro args Qd ⟨a,b,c,xs,rfl,_⟩;rfl
 ·rintro args Qd ⟨a,b,c,xs,rfl,ha,hb,hc,n1,n2,hB,q⟩
  refine ⟨noOw_of rfl,?_⟩
  have hxl:(xs.map G0).length=xs.length:=j0 ..
  with_reducible refine cutS (λρ=>ρ=[some (.io (penD a b c)),some (.fz (liD xs)),some (.ow (liD xs)),none,none]) ?_ ?_
  ·intro N hN
   exact hN _ rfl
  rintro _ rfl
  with_reducible refine cutS (λρ=>∃(i:Nat) (a b c:Int),i < xs.length/\0<=a/\0<=b/\0<=c/\ρ=[some (.io (penD a b c)),some (.fz (liD xs)),some (.ow (liD xs)),some (.fz (.int i)),none]) ?_ ?_
  ·intro N hN
   refine ⟨a,b,c,_,rfl,ha,hb,hc,by rw[hxl];omega,by rw[hxl];omega,λr a1 b1 c1 _ r0 r1 ha1 hb1 hc1=>?_⟩
   obtain⟨i,rfl⟩:=L1 r0
   rw[hxl]at r1
   exact hN _ ⟨i,a1,b1,c1,by omega,ha1,hb1,hc1,rfl⟩
  rintro _ ⟨i,a,b,c,hi,ha,hb,hc,rfl⟩
  with_reducible refine cutS (λρ=>∃(v a b c:Int),0<=a/\0<=b/\0<=c/\ρ=[some (.io (penD a b c)),some (.fz (liD xs)),some (.ow (liD xs)),some (.fz (.int i)),some (.fz (.int v))]) ?_ ?_
  ·intro N hN
   exact ⟨a,b,c,_,rfl,ha,hb,hc,by decide,by decide,λr a1 b1 c1 _ r0 r1 ha1 hb1 hc1=>hN _ ⟨r,a1,b1,c1,ha1,hb1,hc1,rfl⟩⟩
  rintro _ ⟨v,a,b,c,ha,hb,hc,rfl⟩
  with_reducible refine cutS (λρ=>∃(ys:List Int) (a b c:Int),Oth xs ys/\1<=ys.length/\ys.length<=18/\(∀y∈ys,y.natAbs<=10 ^ 30)/\0<=a/\0<=b/\0<=c/\ρ=[some (.io (penD a b c)),some (.fz (liD xs)),some (.ow (liD ys)),some (.fz (.int i)),some (.fz (.int v))]) ?_ ?_
  ·intro N hN
   have hBy:∀y∈xs,y.natAbs<=10 ^ 30:=λy hy=>big_abs (hB y hy)
   have hat:atI (xs.map G0) ((i:Nat):Int)=some (.int (xs.getD i 0)):=atI_nat (by rw[O0,y0 hi,Z1,y0 hi];rfl)
   refine ite2 (λh=>ite2 (λh2=>?pop) (λh2=>?r)) (λh=>ite2 (λh2=>nomatch h2) (λ_=>?r2))
   case pop =>
    have h2:(1:Int) < ((xs.map G0).length:Nat):=of_decide_eq_true h2
    rw[hxl]at h2
    have pop:∀(j:Nat),j < xs.length->Oth xs (xs.eraseIdx j)/\1<=(xs.eraseIdx j).length/\(xs.eraseIdx j).length<=18/\∀y∈xs.eraseIdx j,y.natAbs<=10 ^ 30:=λj hj=>by
     have el:(xs.eraseIdx j).length=xs.length - 1:=List.length_eraseIdx_of_lt hj
     exact ⟨.inl (by omega),by omega,by omega,λy hy=>hBy y (List.mem_of_mem_eraseIdx hy)⟩
    have em:∀j:Nat,(xs.map G0).eraseIdx j=(xs.eraseIdx j).map G0:=λj=>er_map xs j
    refine ⟨a,b,c,3,rfl,ha,hb,hc,by decide,by decide,λr a1 b1 c1 _ r0 r1 ha1 hb1 hc1=>?_⟩
    obtain⟨j,rfl⟩:=L1 r0
    have hj:j=0\/j=1\/j=2:=by omega
    have fin:∀(j:Nat),j < xs.length->N [some (.io (penD a1 b1 c1)),some (.fz (liD xs)),some (.ow (.list ((xs.map G0).eraseIdx j))),some (.fz (.int i)),some (.fz (.int v))]:=λj hj=>by
     obtain⟨g1,g2,g3,g4⟩:=pop j hj
     exact hN _ ⟨xs.eraseIdx j,a1,b1,c1,g1,g2,g3,g4,ha1,hb1,hc1,by rw[em j]⟩
    rcases hj with rfl|rfl|rfl
    ·exact ⟨.int i,rfl,by omega,by rw[hxl];omega,by omega,λd hd=>fin i hi⟩
    ·refine ⟨.int (((xs.map G0).length:Nat) - 1:Int),rfl,by rw[hxl];omega,by omega,by rw[hxl];omega,λd hd=>?_⟩
     have e:((((xs.map G0).length:Nat):Int) - 1).toNat=xs.length - 1:=by rw[hxl];omega
     show N [some (.io (penD a1 b1 c1)),some (.fz (liD xs)),some (.ow (.list ((xs.map G0).eraseIdx ((((xs.map G0).length:Nat):Int) - 1).toNat))),some (.fz (.int i)),some (.fz (.int v))]
     rw[e]
     exact fin (xs.length - 1) (by omega)
    ·exact ⟨.int 0,rfl,by decide,by rw[hxl];omega,by decide,λd hd=>fin 0 (by omega)⟩
   all_goals
    refine ite2 (λh3=>?_) (λh3=>ite2 (λh4=>?_) (λh4=>?_))
    ·have hx:(xs.getD i 0).natAbs<=10 ^ 30:=hBy _ (by rw[Z1,y0 hi];exact V2 hi)
     refine ⟨a,b,c,2,rfl,ha,hb,hc,by decide,by decide,λr a1 b1 c1 _ r0 r1 ha1 hb1 hc1=>?_⟩
     have fin:∀(j:Nat),j<=xs.length->N [some (.io (penD a1 b1 c1)),some (.fz (liD xs)),some (.ow (.list ((xs.map G0).take j++G0 (xs.getD i 0) :: (xs.map G0).drop j))),some (.fz (.int i)),some (.fz (.int v))]:=λj hj=>by
      have el:(xs.take j++xs.getD i 0 :: xs.drop j).length=xs.length+1:=by rw[B0,B2,J1,E2];omega
      refine hN _ ⟨xs.take j++xs.getD i 0 :: xs.drop j,a1,b1,c1,.inl (by omega),by omega,by omega,λy hy=>?_,ha1,hb1,hc1,by rw[ins_map]⟩
      rcases R0.mp hy with z|z
      ·exact hBy y (U2 z)
      ·rcases X0.mp z with z|z
       ·rw[z];exact hx
       ·exact hBy y (K3 z)
     obtain⟨j,rfl⟩:=L1 r0
     have hj:j=0\/j=1:=by omega
     have hsz:(xs.map G0).length < sizeLine:=Q1 (show (xs.map G0).length<=100 by omega) (by decide)
     rcases hj with rfl|rfl
     ·exact ⟨.int i,rfl,_,hat,hsz,by omega,by rw[hxl];omega,fin i (by omega)⟩
     ·refine ⟨.int ((xs.map G0).length:Nat),rfl,_,hat,hsz,by omega,h7 _,?_⟩
      have:=fin (xs.map G0).length (by omega)
      exact this
    ·refine ⟨by rw[hxl];exact le_size (by omega),hN _ ⟨xs++xs,a,b,c,.inl (by rw[B0];omega),by rw[B0];omega,by rw[B0];omega,λy hy=>(R0.mp hy).elim (hBy y) (hBy y),ha,hb,hc,by rw[show liD (xs++xs)=.list (xs.map G0++xs.map G0) from congrArg T4 O3];rfl⟩⟩
    ·refine ⟨_,hat,a,b,c,2,rfl,ha,hb,hc,by decide,by decide,λr a1 b1 c1 _ r0 r1 ha1 hb1 hc1=>?_⟩
     have hix:ixN (xs.map G0).length ((i:Nat):Int)=some i:=by
      have h:((i:Nat):Int) < (((xs.map G0).length:Nat):Int):=by rw[hxl];omega
      simp[ixN]
      omega
     refine ⟨.inl ⟨by decide,by decide⟩,i,hix,?_⟩
     have hx:Big (xs.getD i 0):=hB _ (by rw[Z1,y0 hi];exact V2 hi)
     have hx1:=hx.1
     have hx2:=hx.2
     have hy:(xs.getD i 0+1 - 2 * r).natAbs<=10 ^ 30:=by omega
     refine hN _ ⟨xs.set i (xs.getD i 0+1 - 2 * r),a1,b1,c1,.inr ⟨i,_,hi,by omega,rfl⟩,by rw[T3];exact n1,by rw[T3];omega,λy hy'=>?_,ha1,hb1,hc1,?_⟩
     ·rcases List.mem_or_eq_of_mem_set hy' with z|z
      ·exact hBy y z
      ·rw[z];exact hy
     ·rw[show liD (xs.set i (xs.getD i 0+1 - 2 * r))=.list ((xs.map G0).set i (.int (xs.getD i 0+1 - 2 * r))) from congrArg T4 List.map_set]
      rfl
  rintro _ ⟨ys,a,b,c,ho,m1,m2,hY,ha,hb,hc,rfl⟩
  refine ⟨a,b,c,ys,rfl,ha,hb,hc,m1,by omega,λV a1 b1 c1 o hV ha1 hb1 hc1=>?_⟩
  have hn:(1:Int)<=(ys.length:Int):=by omega
  have hsl:=strP_len hn
  refine ⟨rwB ys.length V,by rw[tdE_rwB];rfl,by unfold rwB;rw[j0];omega,λrows h1 h2=>?_⟩
  rw[rwB_sort hn h1 h2,rwB_box]
  have hbd:=hV.bnd m1 (by omega) hY
  have hw:=hV.wait m1
  exact q _ a1 b1 c1 _ (rows_spo m1 (by omega) (λp hp=>bw_bv (hbd p hp) (Q0 (hw p hp) (by decide)) (by decide)) (other_no n1 m1 ho (hV.right m1))) ha1 hb1 hc1
end
theorem sh_dP:∀{ps:List (List Int×List Int)},(∀p∈ps,Sh 400 1 (tI p.1)/\Sh 400 1 (tI p.2))->o9 (ps.map λp=>(tI p.1,tI p.2))=true/\J7 (ps.map λp=>(tI p.1,tI p.2))<=1/\((Y4 (ps.map λp=>(tI p.1,tI p.2))).map (·.length)).sum<=802 * ps.length/\(Y4 (ps.map λp=>(tI p.1,tI p.2))).length=ps.length
 | [],_=>⟨rfl,by simp[J7],by simp[Y4],by simp[Y4]⟩
 | p :: ps,h=>by
  obtain⟨h1,h2⟩:=h p P0
  obtain⟨i1,i2,i3,i4⟩:=sh_dP (ps:=ps) λq hq=>h q (L0 _ hq)
  refine ⟨?_,?_,?_,?_⟩
  ·rw[B1]
   simp only[o9,i1,Bool.and_true]
   rw[h1.s,h2.s]
   rfl
  ·have z1:=h1.z
   have z2:=h2.z
   rw[B1]
   simp only[J7]
   omega
  ·have e2:((tI p.1).shown++Str.ofString ": "++(tI p.2).shown).length=(tI p.1).shown.length+2+(tI p.2).shown.length:=by
    rw[Str.length_append,Str.length_append,len_ofString];rfl
   have l1:=h1.l
   have l2:=h2.l
   rw[B1]
   simp only[Y4,B1,e7,B2]
   have e3:((tI p.1).shown ++ ": "++(tI p.2).shown).length=(tI p.1).shown.length+2+(tI p.2).shown.length:=e2
   rw[e3]
   omega
  ·rw[B1]
   simp only[Y4,B2,i4]
theorem shw_dP{ps:List (List Int×List Int)}(h:∀p∈ps,Sh 400 1 (tI p.1)/\Sh 400 1 (tI p.2))(hl:ps.length<=62):Shw (pdD (ps.map λp=>(p.1,tI p.2))):=by
 obtain⟨h1,h2,h3,h4⟩:=sh_dP h
 refine .inr ⟨ps,rfl,h1,?_,?_⟩
 ·show (B8 _).depth+1<=64
  simp only[u4]
  omega
 ·have:=dictText_len_le (Y4 (ps.map λp=>(tI p.1,tI p.2)))
  show (dictText (Y4 (ps.map λp=>(tI p.1,tI p.2)))).length<=_
  refine Q0 this ?_
  rw[h4]
  exact Q0 (show _<=60000 by omega) (by decide)
structure Og(p:Int×Int)(d:PyData):Prop where
 sh:Sh 1600 3 d
 ne:∀e:En,d≠.tuple [prD p,enD e]
structure Th(d:PyData):Prop where
 i:isI d=false
 sh:Sh 100 1 d
 t:∀x y,d≠.tuple [x,y]
theorem og2{p:Int×Int}{x y:PyData}(hx:Sh 490 2 x)(hy:Sh 490 2 y)(h:x≠prD p\/∀e:En,y≠enD e):Og p (.tuple [x,y]):=⟨(Sh.tup (n:=2) (am hx (am hy a0)) (A0 2)).mono (by decide) (by decide),λe z=>by
  injection z with z
  injection z with z1 z
  injection z with z2 z
  rcases h with h|h
  · exact h z1
  · exact h e z2⟩
noncomputable def isT:PyData->Bool
 | .tuple _=>true
 | _=>false
theorem neT{x:PyData}{l:List PyData}(h:isT x=false):x≠.tuple l:=λe=>by rw[e]at h;cases h
noncomputable def isLs:PyData->Bool
 | .list _=>true
 | _=>false
theorem not_ints{l:List PyData}{x:PyData}(hx:x∈l)(hi:isI x=false)(ns:List Int):V1 l≠tupD ns:=λz=>by
 injection z with z
 rw[z]at hx
 obtain⟨i,_,e⟩:=A1.mp hx
 rw[<- e]at hi
 cases hi
theorem len_ints{l:List PyData}{ns:List Int}(h:l.length≠ns.length):V1 l≠tupD ns:=λz=>by
 injection z with z
 rw[z,j0]at h
 exact h rfl
theorem sh_th{d:PyData}(h:Th d):Sh 490 2 d:=h.sh.mono (by decide) (by decide)
theorem th_all{r:Nat}(h:r < 6):∃d,atI [.none,.bool true,.bool false,.str "0",.tuple [.int 0],.list []] ((r:Nat):Int)=some d/\Th d:=by
 have hr:r=0\/r=1\/r=2\/r=3\/r=4\/r=5:=by omega
 rcases hr with rfl|rfl|rfl|rfl|rfl|rfl
 ·exact ⟨_,rfl,rfl,sh_none.mono (by decide) (by decide),λx y z=>by cases z⟩
 ·exact ⟨_,rfl,rfl,(sh_bool true).mono (by decide) (by decide),λx y z=>by cases z⟩
 ·exact ⟨_,rfl,rfl,(sh_bool false).mono (by decide) (by decide),λx y z=>by cases z⟩
 ·exact ⟨_,rfl,rfl,⟨rfl,rfl,rfl,by simp[u4],by decide +kernel⟩,λx y z=>by cases z⟩
 ·exact ⟨_,rfl,rfl,(Sh.tup (n:=1) (am (sh_int (x:=0) (by decide)) a0) (A0 1)).mono (by decide) (by decide),λx y z=>by cases z⟩
 ·exact ⟨_,rfl,rfl,(Sh.lst (n:=0) a0 (A0 0) (b:=0) (k:=0)).mono (by decide) (by decide),λx y z=>by cases z⟩
noncomputable abbrev Bd(n:Nat)(d:PyData):Prop:=∀xs:List Int,xs.length=n->Spo xs d
theorem og_bd{n:Nat}{V:Vt}{p:Int×Int}{i:Nat}{d:PyData}(hR:Rws n V)(hp:(strP n)[i]?=some p)(h:Og p d):Bd n (.list (((strP n).map (rowE V)).take i++[d]++((strP n).map (rowE V)).drop (i+1))):=λxs hx=>by
 have hS:=hR.sh
 obtain⟨l1,l2⟩:=hR.len
 have n2:=hR.n2
 have hi:i < (strP n).length:=(W0.mp hp).1
 have hs:∀x∈((strP n).map (rowE V)).take i++[d]++((strP n).map (rowE V)).drop (i+1),Sh 1600 3 x:=app_sh (app_sh (λx hx=>(hS x (U2 hx)).mono (by decide) (by decide)) (am h.sh a0)) λx hx=>(hS x (K3 hx)).mono (by decide) (by decide)
 refine sh_spo ((Sh.lst hs (n:=62) (by rw[B0,B0,J1,E2,O2];omega)).mono (by decide) (by decide)) λ⟨V',z,_⟩=>?_
 injection z with z
 rw[hx]at z
 have e1:(((strP n).map (rowE V)).take i++[d]++((strP n).map (rowE V)).drop (i+1))[i]?=some d:=by
  rw[X3,Y1 (by rw[J1];omega),J1,show i - min i ((strP n).map (rowE V)).length=0 by omega]
  rfl
 rw[z,O0,hp]at e1
 exact h.ne (V' p) (N1 e1).symm
theorem bd_no{n:Nat}{d:PyData}(h:Sh 200000 4 d)(hl:isLs d=false):Bd n d:=λxs hx=>sh_spo h λ⟨V,z,_⟩=>by rw[z]at hl;cases hl
theorem nn(n:Nat):(0:Int)<=(n:Int):=Int.natCast_nonneg n
theorem nS(n:Nat):(0:Int)<=(n:Int)+1:=by omega
theorem bv_all{e:En}(h:Bv e):∀x∈[e.t,e.l,e.g,e.w],x.natAbs < 10 ^ 70:=λx hx=>by
 simp only[X0,Q4,or_false]at hx
 rcases hx with rfl|rfl|rfl|rfl
 ·exact h.1
 ·exact h.2.1
 ·exact h.2.2.1
 ·exact h.2.2.2
theorem pr_all{p:Int×Int}{n:Nat}(h:[p.1,p.2]∈hl 0 ((n:Int) - 1)/\0<=p.1/\p.1<=p.2/\p.2 < (n:Int))(hn:n<=31:=by omega):∀x∈[p.1,p.2],x.natAbs < 10 ^ 70:=λx hx=>by
 simp only[X0,Q4,or_false]at hx
 rcases hx with rfl|rfl<;>omega
noncomputable abbrev rO(a b c:Int)(rows:List PyData)(i:Nat)(p:Int×Int)(e:En)(x5 x6 x7 x8:Option Sl):Ev:=[some (.io (penD a b c)),some (.fz (.list rows)),some (.fz (.int (i:Nat))),some (.fz (prD p)),some (.fz (enD e)),x5,x6,x7,x8]
noncomputable def JO(a b c:Int)(rows:List PyData)(i:Nat)(p:Int×Int)(e:En)(d:PyData)(k m:Nat)(ρ:Ev):Prop:=∃ss:List PyData,(∀x∈ss,Og p x)/\ss.length=m/\ρ=rO a b c rows i p e (some (.fz d)) (some (.fz (.int (k:Nat)))) (some (.ow (.list ss))) none
theorem lt100{n m:Nat}(h:n<=m)(hm:m<=1000:=by decide):n < sizeLine:=Q1 (Q0 h hm) (by decide)
theorem og_app{p:Int×Int}{ss ts:List PyData}(h:∀d∈ss,Og p d)(k:∀d∈ts,Og p d):∀d∈ss++ts,Og p d:=λd hd=>(R0.mp hd).elim (h d) (k d)
section
variable {P:Program}{w:World}{K:n0}{mg:Str->Option Value}{base:Heap}
structure CalsOd(P:Program)(w:World)(K:n0)(mg:Str->Option Value)(base:Heap):Prop where
 law_draw:Cal P w K mg base 1 "_law_draw" ["_law_pen_here","_law_many"] (conSp K cDraw)
noncomputable def cOd:Con:=λargs Q=>∃(a b c:Int) (n:Nat) (V:Vt),args=[.io (penD a b c),.fz (.list ((strP n).map (rowE V)))]/\0<=a/\0<=b/\0<=c/\Rws n V/\∀(d:PyData) (s:Sl) (a' b' c':Int) (o:Ev),Bd n d->(s=.ow d\/s=.fz d)->0<=a'->0<=b'->0<=c'->Q s (some (.io (penD a' b' c')) :: o)
theorem scOd:FnScope ["_law_pen_here","_law_some","_law_at","_law_stretch","_law_entry","_law_thing","_law_spot","_law_rows","_law_whole"] ["_law_pen_here","_law_some"] (defScope (top 38)):=⟨rfl,rfl,rfl,by decide +kernel,rfl,by decide +kernel,by decide +kernel⟩
theorem ok_od{f:Addr}{fd:FuncData}(F:Fun K "_law_odd" "_law_odd" (top 38) f fd)(T:Txt mg)(C:CalsOd P w K mg base):FnOk P w K mg base CX0 9 f fd ["_law_pen_here","_law_some"] (conSp K cOd):=by
 have S:=scOd
 refine wfn F S (λcdv A outer s H E hr=>(s_cons (s_set (i:=2) S.nd rfl (Or.inl rfl) (w_fnI C.law_draw (hr.mono (by first|decide|omega)) (wa_cons (wn 0) (wa_cons (wx (w_callB ok_len (call_lenK (K:=K) rfl) T.len_ PySem.boot_len (wa_cons (wn 1) wa_nil))) wa_nil))))
     (s_cons (s_asgG (w_ix rfl (wn 1) (wn 2)) (g_tup rfl rfl (gs_cons (g_name (i:=3) S.nd rfl (Or.inl rfl)) (gs_cons (g_name (i:=4) S.nd rfl (Or.inl rfl)) gs_nil))))
     (s_cons (s_set (i:=5) S.nd rfl (Or.inl rfl) (w_ix rfl (wx (w_lst (wa_cons (wx w_non) (wa_cons (wx w_bl) (wa_cons (wx w_bl) (wa_cons (wx w_str) (wa_cons (wx (w_tup (wa_cons (wx w_int) wa_nil))) (wa_cons (wx (w_lst wa_nil)) wa_nil)))))))) (wx (w_fnI C.law_draw (hr.mono (by first|decide|omega)) (wa_cons (wn 0) (wa_cons (wx w_int) wa_nil))))))
     (s_cons (s_set (i:=6) S.nd rfl (Or.inl rfl) (w_fnI C.law_draw (hr.mono (by first|decide|omega)) (wa_cons (wn 0) (wa_cons (wx w_int) wa_nil))))
     (s_cons (s_set (i:=7) S.nd rfl (Or.inl rfl) (w_lst (wa_cons (wx (w_tup (wa_cons (wx (wv 3)) (wa_cons (wx (w_bin ok_add op_addD (wx (w_bin ok_add op_addD (wx (w_sl2T rfl (wn 4) (wn 6))) (wx (w_tup (wa_cons (wx (wv 5)) wa_nil))))) (wx (w_sl1T rfl (wn 4) (wx (w_bin ok_add op_addD (wn 6) (wx w_int))))))) wa_nil)))) (wa_cons (wx (w_tup (wa_cons (wx (wv 3)) (wa_cons (wx (w_callT ok_list (call_listK (K:=K) rfl) T.list_ boot_list (wa_cons (wn 4) wa_nil))) wa_nil)))) (wa_cons (wx (w_tup (wa_cons (wx (w_callT ok_list (call_listK (K:=K) rfl) T.list_ boot_list (wa_cons (wn 3) wa_nil))) (wa_cons (wx (wv 4)) wa_nil)))) wa_nil)))))
     (s_cons (s_set (i:=7) S.nd rfl (Or.inl rfl) (w_bin ok_add op_addD (wn 7) (wx (w_lst (wa_cons (wx (w_lst (wa_cons (wx (wv 3)) (wa_cons (wx (wv 4)) wa_nil)))) (wa_cons (wx (w_tup (wa_cons (wx (wv 3)) (wa_cons (wx (w_bin ok_add op_addD (wn 4) (wx (w_tup (wa_cons (wx w_int) wa_nil))))) wa_nil)))) (wa_cons (wx (w_tup (wa_cons (wx (wv 3)) (wa_cons (wx (w_sl2T rfl (wn 4) (wx w_int))) wa_nil)))) (wa_cons (wx (w_tup (wa_cons (wx (wv 3)) wa_nil))) (wa_cons (wx w_non) (wa_cons (wx (wv 5)) wa_nil))))))))))
     (s_cons (s_set (i:=7) S.nd rfl (Or.inl rfl) (w_bin ok_add op_addD (wn 7) (wx (w_lst (wa_cons (wx (w_tup (wa_cons (wx (w_tup (wa_cons (wx (w_ix rfl (wn 3) (wx w_int))) (wa_cons (wx (wv 5)) wa_nil)))) (wa_cons (wx (wv 4)) wa_nil)))) (wa_cons (wx (w_tup (wa_cons (wx (wv 3)) (wa_cons (wx (wv 4)) (wa_cons (wx (wv 4)) wa_nil))))) (wa_cons (wx (w_tup (wa_cons (wx (w_tup (wa_cons (wx (w_ix rfl (wn 3) (wx w_int))) wa_nil))) (wa_cons (wx (wv 4)) wa_nil)))) wa_nil)))))))
     (s_cons (s_expr (w_m ok_append rfl PySem.F.slot_list_append PySem.F.type_list_append mt_append (wn 7) (wa_cons (wx (w_tup (wa_cons (wx (w_tup (wa_cons (wx (wv 5)) (wa_cons (wx (w_ix rfl (wn 3) (wx w_int))) wa_nil)))) (wa_cons (wx (wv 4)) wa_nil)))) wa_nil)))
     (s_cons (s_set (i:=8) S.nd rfl (Or.inl rfl) (w_lst (wa_cons (wx (w_callT ok_tuple (call_tupleK (K:=K) rfl) T.tuple_ boot_tuple (wa_cons (wn 1) wa_nil))) (wa_cons (wx (w_dictPd rfl rfl (hu6_of hr) T.dict_ (by decide +kernel) (wa_cons (wn 1) wa_nil))) (wa_cons (wx w_non) (wa_cons (wx w_int) (wa_cons (wx w_str) (wa_cons (wx (w_lst wa_nil)) (wa_cons (wx w_bl) (wa_cons (wx (w_ix rfl (wn 1) (wx w_int))) wa_nil))))))))))
     (s_cons (s_if (t_cmp ok_eq (op_eqE (K:=K) rfl hr.units) (wx (w_fnI C.law_draw (hr.mono (by first|decide|omega)) (wa_cons (wn 0) (wa_cons (wx w_int) wa_nil)))) (wx w_int)) (s_one (s_ret (w_ix rfl (wn 8) (wx (w_fnI C.law_draw (hr.mono (by first|decide|omega)) (wa_cons (wn 0) (wa_cons (wx w_int) wa_nil))))))) s_nil)
     (s_one (s_ret (w_bin ok_add op_addD (wx (w_bin ok_add op_addD (wx (w_slHiL rfl (wn 1) (wn 2))) (wx (w_lst (wa_cons (wx (w_ix rfl (wn 7) (wx (w_fnI C.law_draw (hr.mono (by first|decide|omega)) (wa_cons (wn 0) (wa_cons (wx w_int) wa_nil)))))) wa_nil))))) (wx (w_slLoL rfl (wn 1) (wx (w_bin ok_add op_addD (wn 2) (wx w_int))))))))))))))))))) ?_ ?_
 ·rintro args Qd ⟨a,b,c,n,V,rfl,_⟩;rfl
 ·rintro args Qd ⟨a,b,c,n,V,rfl,ha,hb,hc,hR,q⟩
  refine ⟨noOw_of rfl,?_⟩
  obtain⟨hl1,hl2⟩:=hR.len
  have n1:=hR.n1
  have n2:=hR.n2
  have hS:=hR.sh
  have hn:(1:Int)<=(n:Int):=by omega
  have hat:∀i:Nat,i < (strP n).length->∃p,(strP n)[i]?=some p/\((strP n).map (rowE V))[i]?=some (rowE V p):=λi hi=>⟨_,y0 hi,by rw[O0,y0 hi];rfl⟩
  have hod:∀{i:Nat}{p:Int×Int}{d:PyData},(strP n)[i]?=some p->Og p d->Bd n (.list (((strP n).map (rowE V)).take i++[d]++((strP n).map (rowE V)).drop (i+1))):=λhp h=>og_bd hR hp h
  have hdict:Bd n (pdD (tdE n V))/\(strP n).map (rowE V)=(tdE n V).map (λp=>.tuple [tI p.1,p.2]):=by
   refine ⟨λxs hx=>⟨λ⟨V',z,_⟩=>(by cases z),.inr ⟨_,rfl⟩,?_⟩,?_⟩
   ·rw[tdE_rwB]
    refine shw_dP (λr hr=>?_) (by unfold rwB;rw[j0];omega)
    unfold rwB at hr
    obtain⟨p,hp,rfl⟩:=A1.mp hr
    have hi:=strP_in hn hp
    exact ⟨sh_pr (by omega) (by omega),sh_en (hR.b p hp)⟩
   ·unfold tdE
    rw[S0]
    rfl
  have hst:=λp (hp:p∈strP n)=>strP_in hn hp
  have hbv:=hR.b
  generalize hrows:(strP n).map (rowE V)=rows at *
  have hr62:rows.length<=62:=by omega
  with_reducible refine cutS (λρ=>∃(a b c:Int) (i:Nat),i < rows.length/\0<=a/\0<=b/\0<=c/\ρ=[some (.io (penD a b c)),some (.fz (.list rows)),some (.fz (.int i)),none,none,none,none,none,none]) ?_ ?_
  ·intro N hN
   refine ⟨a,b,c,_,rfl,ha,hb,hc,by omega,by omega,λr a1 b1 c1 _ r0 r1 ha1 hb1 hc1=>?_⟩
   obtain⟨i,rfl⟩:=L1 r0
   exact hN _ ⟨a1,b1,c1,i,by omega,ha1,hb1,hc1,rfl⟩
  rintro _ ⟨a,b,c,i,hi,ha,hb,hc,rfl⟩
  obtain⟨p,hp,hr⟩:=hat i (by omega)
  have hpi:=hst p (E1 hp)
  have hpb:=hbv p (E1 hp)
  have sP:Sh 490 2 (prD p):=(sh_pr (p:=p) (by omega) (by omega)).mono (by decide) (by decide)
  have sE:Sh 490 2 (enD (V p)):=(sh_en hpb).mono (by decide) (by decide)
  have c1':cutN ((i:Nat):Int) rows.length=i:=cutN_nat rfl
  have c2':cutN (((i:Nat):Int)+1) rows.length=i+1:=cutN_nat rfl
  with_reducible refine cutS (λρ=>ρ=rO a b c rows i p (V p) none none none none) ?_ ?_
  ·intro N hN
   exact ⟨_,atI_nat hr,rfl,hN _ rfl⟩
  rintro _ rfl
  with_reducible refine cutS (λρ=>∃(d:PyData) (a b c:Int),Th d/\0<=a/\0<=b/\0<=c/\ρ=rO a b c rows i p (V p) (some (.fz d)) none none none) ?_ ?_
  ·intro N hN
   refine ⟨a,b,c,_,rfl,ha,hb,hc,by decide,by decide,λr a1 b1 c1 _ r0 r1 ha1 hb1 hc1=>?_⟩
   obtain⟨j,rfl⟩:=L1 r0
   obtain⟨d,hd,hT⟩:=th_all (r:=j) (by omega)
   exact ⟨d,hd,hN _ ⟨d,a1,b1,c1,hT,ha1,hb1,hc1,rfl⟩⟩
  rintro _ ⟨d,a,b,c,hT,ha,hb,hc,rfl⟩
  have sD:=sh_th hT
  with_reducible refine cutS (λρ=>∃(k:Nat) (a b c:Int),k < 4/\0<=a/\0<=b/\0<=c/\ρ=rO a b c rows i p (V p) (some (.fz d)) (some (.fz (.int (k:Nat)))) none none) ?_ ?_
  ·intro N hN
   refine ⟨a,b,c,_,rfl,ha,hb,hc,by decide,by decide,λr a1 b1 c1 _ r0 r1 ha1 hb1 hc1=>?_⟩
   obtain⟨j,rfl⟩:=L1 r0
   exact hN _ ⟨j,a1,b1,c1,by omega,ha1,hb1,hc1,rfl⟩
  rintro _ ⟨k,a,b,c,hk,ha,hb,hc,rfl⟩
  with_reducible refine cutS (JO a b c rows i p (V p) d k 3) ?_ ?_
  ·intro N hN
   have h4:[G0 (V p).t,.int (V p).l,.int (V p).g,.int (V p).w].length<=4:=A0 4
   refine ⟨nn k,ln3 (tkN h4 _) (A0 1) (by decide),nS k,ln3 (lenA (tkN h4 _) (A0 1)) (dpN h4 _) (by decide),hN _ ⟨[.tuple [prD p,.tuple ([G0 (V p).t,.int (V p).l,.int (V p).g,.int (V p).w].take k++[d]++[G0 (V p).t,.int (V p).l,.int (V p).g,.int (V p).w].drop (k+1))],.tuple [prD p,.list [.int (V p).t,.int (V p).l,.int (V p).g,.int (V p).w]],.tuple [.list [.int p.1,.int p.2],enD (V p)]],am ?_ (am ?_ (am ?_ a0)),rfl,rfl⟩⟩
   ·have s4:∀x∈[G0 (V p).t,.int (V p).l,.int (V p).g,.int (V p).w],Sh 100 1 x:=λx hx=>(sh_ints (l:=[(V p).t,(V p).l,(V p).g,(V p).w]) (bv_all hpb) x hx).mono (by decide) (by decide)
    refine og2 sP ((Sh.tup (n:=4) (app_sh (app_sh (λx hx=>s4 x (U2 hx)) (am hT.sh a0)) λx hx=>s4 x (K3 hx)) ?_).mono (by decide) (by decide)) (.inr λe=>not_ints (x:=d) (by simp) hT.i _)
    rw[B0,B0,J1,E2]
    show min k 4+1+(4 - (k+1))<=4
    omega
   ·exact og2 sP ((Sh.lst (n:=4) (sh_ints (l:=[(V p).t,(V p).l,(V p).g,(V p).w]) (bv_all hpb)) (A0 4)).mono (by decide) (by decide)) (.inr λe=>neT rfl)
   ·exact og2 ((Sh.lst (n:=2) (sh_ints (l:=[p.1,p.2]) (pr_all hpi)) (A0 2)).mono (by decide) (by decide)) sE (.inl (neT rfl))
  rintro _ ⟨ss,hss,hsl,rfl⟩
  have iI:∀x∈[G0 (V p).t,.int (V p).l,.int (V p).g,.int (V p).w],Sh 71 0 x:=sh_ints (l:=[(V p).t,(V p).l,(V p).g,(V p).w]) (bv_all hpb)
  have s0:Sh 71 0 (.int 0):=sh_int (by decide)
  with_reducible refine cutS (JO a b c rows i p (V p) d k 9) ?_ ?_
  ·intro N hN
   refine ⟨lz rfl,by decide,ln3 (B7 hsl) (A0 6) (by decide),hN _ ⟨ss++[.list [prD p,enD (V p)],.tuple [prD p,.tuple ([G0 (V p).t,.int (V p).l,.int (V p).g,.int (V p).w]++[.int 0])],.tuple [prD p,.tuple ([G0 (V p).t,.int (V p).l,.int (V p).g,.int (V p).w].take 3)],.tuple [prD p],.none,d],og_app hss (am ?_ (am ?_ (am ?_ (am ?_ (am ?_ (am ?_ a0)))))),by rw[B0,hsl];rfl,rfl⟩⟩
   ·exact ⟨(Sh.lst (n:=2) (am sP (am sE a0)) (A0 2)).mono (by decide) (by decide),λe=>neT rfl⟩
   ·exact og2 sP ((Sh.tup (n:=5) (app_sh iI (am s0 a0)) (A0 5)).mono (by decide) (by decide)) (.inr λe=>len_ints (show 5≠4 by decide))
   ·exact og2 sP ((Sh.tup (n:=3) (l:=[G0 (V p).t,.int (V p).l,.int (V p).g,.int (V p).w].take 3) (λx hx=>iI x (U2 hx)) (Q6 rfl)).mono (by decide) (by decide)) (.inr λe=>len_ints (show 3≠4 by decide))
   ·exact ⟨(Sh.tup (n:=1) (am sP a0) (A0 1)).mono (by decide) (by decide),λe z=>by cases z⟩
   ·exact ⟨sh_none.mono (by decide) (by decide),λe=>neT rfl⟩
   ·exact ⟨hT.sh.mono (by decide) (by decide),λe=>hT.t _ _⟩
  rintro _ ⟨ss,hss,hsl,rfl⟩
  with_reducible refine cutS (JO a b c rows i p (V p) d k 12) ?_ ?_
  ·intro N hN
   refine ⟨_,rfl,_,rfl,ln3 (B7 hsl) (A0 3) (by decide),hN _ ⟨ss++[.tuple [.tuple [.int p.1,d],enD (V p)],.tuple [prD p,enD (V p),enD (V p)],.tuple [.tuple [.int p.1],enD (V p)]],og_app hss (am ?_ (am ?_ (am ?_ a0))),by rw[B0,hsl];rfl,rfl⟩⟩
   ·exact og2 ((Sh.tup (n:=2) (am ((sh_int (x:=p.1) (by omega)).mono (by decide) (by decide)) (am hT.sh a0)) (A0 2)).mono (by decide) (by decide)) sE (.inl (not_ints (x:=d) (by simp) hT.i [p.1,p.2]))
   ·exact ⟨(Sh.tup (n:=3) (am sP (am sE (am sE a0))) (A0 3)).mono (by decide) (by decide),λe z=>by injection z with z;exact absurd (congrArg S4 z) (show 3≠2 by decide)⟩
   ·exact og2 ((Sh.tup (n:=1) (am (sh_int (x:=p.1) (by omega)) a0) (A0 1)).mono (by decide) (by decide)) sE (.inl (len_ints (ns:=[p.1,p.2]) (show 1≠2 by decide)))
  rintro _ ⟨ss,hss,hsl,rfl⟩
  with_reducible refine cutS (JO a b c rows i p (V p) d k 13) ?_ ?_
  ·intro N hN
   refine ⟨_,rfl,lt100 (B7 hsl),hN _ ⟨ss++[.tuple [.tuple [d,.int p.2],enD (V p)]],og_app hss (am ?_ a0),by rw[B0,hsl];rfl,rfl⟩⟩
   exact og2 ((Sh.tup (n:=2) (am hT.sh (am ((sh_int (x:=p.2) (by omega)).mono (by decide) (by decide)) a0)) (A0 2)).mono (by decide) (by decide)) sE (.inl (not_ints (x:=d) (by simp) hT.i [p.1,p.2]))
  rintro _ ⟨ss,hss,hsl,rfl⟩
  have hr0:∃r0,atI rows 0=some r0/\Sh 1000 2 r0/\isLs r0=false:=by
   obtain⟨p0,_,h0⟩:=hat 0 (by omega)
   refine ⟨rowE V p0,atI_nat h0,hS _ (E1 h0),rfl⟩
  obtain⟨r0,hr0,sR0,lR0⟩:=hr0
  with_reducible refine cutS (λρ=>∃x8:List PyData,(∀x∈x8,Bd n x)/\x8.length=8/\ρ=rO a b c rows i p (V p) (some (.fz d)) (some (.fz (.int (k:Nat)))) (some (.ow (.list ss))) (some (.ow (.list x8)))) ?_ ?_
  ·intro N hN
   refine ⟨tdE n V,hdict.2,tdE_nodup hn,_,hr0,hN _ ⟨[.tuple rows,pdD (tdE n V),.none,.int 7,.str "rows",.list [],.bool true,r0],am ?_ (am hdict.1 (am ?_ (am ?_ (am ?_ (am ?_ (am ?_ (am ?_ a0))))))),rfl,rfl⟩⟩
   ·exact bd_no ((Sh.tup hS (n:=62) hr62).mono (by decide) (by decide)) rfl
   ·exact bd_no (sh_none.mono (by decide) (by decide)) rfl
   ·exact bd_no ((sh_int (x:=7) (by decide)).mono (by decide) (by decide)) rfl
   ·exact bd_no ⟨rfl,rfl,rfl,by simp[u4],by decide +kernel⟩ rfl
   ·exact λxs hx=>sh_spo ((Sh.lst (n:=0) a0 (A0 0) (b:=0) (k:=0)).mono (by decide) (by decide)) λ⟨V',z,_⟩=>by
     injection z with z
     have:=congrArg S4 z
     rw[hx,j0]at this
     have h0:(0:Nat)=(strP n).length:=this
     omega
   ·exact bd_no ((sh_bool true).mono (by decide) (by decide)) rfl
   ·exact bd_no (sR0.mono (by decide) (by decide)) lR0
  rintro _ ⟨x8,hx8,hxl,rfl⟩
  refine ⟨a,b,c,_,rfl,ha,hb,hc,by decide,by decide,λr a1 b1 c1 _ r0 r1 ha1 hb1 hc1=>?_⟩
  refine ite2 (λh=>?_) (λh=>?_)
  ·refine ⟨a1,b1,c1,_,rfl,ha1,hb1,hc1,by decide,by decide,λv a2 b2 c2 _ v0 v1 ha2 hb2 hc2=>?_⟩
   obtain⟨j,rfl⟩:=L1 v0
   obtain⟨y,hy⟩:∃y,x8[j]?=some y:=⟨_,y0 (by omega)⟩
   exact ⟨y,atI_nat hy,q y _ a2 b2 c2 _ (hx8 y (E1 hy)) (.inr rfl) ha2 hb2 hc2⟩
  ·refine ⟨a1,b1,c1,_,rfl,ha1,hb1,hc1,by decide,by decide,λv a2 b2 c2 _ v0 v1 ha2 hb2 hc2=>?_⟩
   obtain⟨j,rfl⟩:=L1 v0
   obtain⟨y,hy⟩:∃y,ss[j]?=some y:=⟨_,y0 (by omega)⟩
   refine ⟨y,atI_nat hy,ln3 (tkN hr62 _) (A0 1) (by decide),ln3 (lenA (tkN hr62 _) (A0 1)) (dpN hr62 _) (by decide),q (.list (rows.take (cutN ((i:Nat):Int) rows.length)++[y]++rows.drop (cutN (((i:Nat):Int)+1) rows.length))) _ a2 b2 c2 _ ?_ (.inl rfl) ha2 hb2 hc2⟩
   rw[c1',c2']
   exact hod hp (hss y (E1 hy))
end
theorem Rgt.rws{xs:List Int}{V:Vt}(h:Rgt xs V):Rws xs.length V:=⟨h.n1,Q0 h.n2 (by decide),λp hp=>bw_bv (h.b p hp) (Q0 (h.w p hp) (by decide)) (by decide)⟩
section
variable {P:Program}{w:World}{K:n0}{mg:Str->Option Value}{base:Heap}
structure CalsSp(P:Program)(w:World)(K:n0)(mg:Str->Option Value)(base:Heap):Prop where
 law_draw:Cal P w K mg base 1 "_law_draw" ["_law_pen_here","_law_many"] (conSp K cDraw)
 law_bent:Cal P w K mg base 13 "_law_bent" ["_law_pen_here","_law_kept","_law_numbers"] (conSp K cBe)
 law_other_row:Cal P w K mg base 14 "_law_other_row" ["_law_pen_here","_law_numbers"] (conSp K cOr)
 law_other_stretches:Cal P w K mg base 2 "_law_other_stretches" ["_law_pen_here","_law_some"] (conSp K cOs)
 law_odd:Cal P w K mg base 9 "_law_odd" ["_law_pen_here","_law_some"] (conSp K cOd)
noncomputable def cSp:Con:=λargs Q=>∃(a b c:Int) (xs:List Int) (V:Vt),args=[.io (penD a b c),.fz (pdD (tdE xs.length V)),.fz (liD xs)]/\0<=a/\0<=b/\0<=c/\Rgt xs V/\(∀x∈xs,Big x) /\
 ∀(d:PyData) (s:Sl) (a' b' c':Int) (o:Ev),Spo xs d->(s=.ow d\/s=.fz d)->0<=a'->0<=b'->0<=c'->Q s (some (.io (penD a' b' c')) :: o)
theorem scSp:FnScope ["_law_pen_here","_law_kept","_law_numbers","_law_way"] ["_law_pen_here","_law_kept","_law_numbers"] (defScope (top 39)):=⟨rfl,rfl,rfl,by decide +kernel,rfl,by decide +kernel,by decide +kernel⟩
theorem ok_sp{f:Addr}{fd:FuncData}(F:Fun K "_law_spoilt" "_law_spoilt" (top 39) f fd)(T:Txt mg)(C:CalsSp P w K mg base):FnOk P w K mg base CX0 15 f fd ["_law_pen_here","_law_kept","_law_numbers"] (conSp K cSp):=by
 have S:=scSp
 refine wfn F S (λcdv A outer s H E hr=>(s_cons (s_set (i:=3) S.nd rfl (Or.inl rfl) (w_fnI C.law_draw (hr.mono (by first|decide|omega)) (wa_cons (wn 0) (wa_cons (wx w_int) wa_nil))))
     (s_cons (s_if (t_cmp ok_lt op_lt (wn 3) (wx w_int)) (s_one (s_ret (w_fnI C.law_bent (hr.mono (by first|decide|omega)) (wa_cons (wn 0) (wa_cons (wn 1) (wa_cons (wn 2) wa_nil)))))) s_nil)
     (s_cons (s_if (t_cmp ok_eq (op_eqE (K:=K) rfl hr.units) (wn 3) (wx w_int)) (s_one (s_ret (w_fnI C.law_other_row (hr.mono (by first|decide|omega)) (wa_cons (wn 0) (wa_cons (wn 2) wa_nil))))) s_nil)
     (s_cons (s_if (t_cmp ok_eq (op_eqE (K:=K) rfl hr.units) (wn 3) (wx w_int)) (s_one (s_ret (w_fnI C.law_other_stretches (hr.mono (by first|decide|omega)) (wa_cons (wn 0) (wa_cons (wx (w_srtIt rfl rfl (hu2_of hr) T.sorted_ (wn 1))) wa_nil))))) s_nil)
     (s_one (s_ret (w_fnI C.law_odd (hr.mono (by first|decide|omega)) (wa_cons (wn 0) (wa_cons (wx (w_srtIt rfl rfl (hu2_of hr) T.sorted_ (wn 1))) wa_nil)))))))))) ?_ ?_
 ·rintro args Qd ⟨a,b,c,xs,V,rfl,_⟩;rfl
 ·rintro args Qd ⟨a,b,c,xs,V,rfl,ha,hb,hc,hR,hB,q⟩
  refine ⟨noOw_of rfl,?_⟩
  have hn:(1:Int)<=(xs.length:Int):=by have:=hR.n1;omega
  have h9:=hR.n2
  have hsl:=strP_len hn
  refine ⟨a,b,c,_,rfl,ha,hb,hc,by decide,by decide,λr a1 b1 c1 _ r0 r1 ha1 hb1 hc1=>?_⟩
  refine ite2 (λh=>?_) (λh=>ite2 (λh=>?_) (λh=>ite2 (λh=>?_) (λh=>?_)))
  ·exact ⟨a1,b1,c1,xs,V,rfl,ha1,hb1,hc1,hR,λd a2 b2 c2 o hd ha2 hb2 hc2=>q d _ a2 b2 c2 _ hd (.inl rfl) ha2 hb2 hc2⟩
  ·exact ⟨a1,b1,c1,xs,rfl,ha1,hb1,hc1,hR.n1,hR.n2,hB,λd a2 b2 c2 o hd ha2 hb2 hc2=>q d _ a2 b2 c2 _ hd (.inl rfl) ha2 hb2 hc2⟩
  ·refine ⟨rwB xs.length V,by rw[tdE_rwB];rfl,by unfold rwB;rw[j0];omega,λrows h1 h2=>?_⟩
   rw[rwB_sort hn h1 h2,rwB_box]
   exact ⟨a1,b1,c1,xs.length,V,rfl,ha1,hb1,hc1,hR.rws,λd a2 b2 c2 o hd ha2 hb2 hc2=>q d _ a2 b2 c2 _ hd.spo (.inl rfl) ha2 hb2 hc2⟩
  ·refine ⟨rwB xs.length V,by rw[tdE_rwB];rfl,by unfold rwB;rw[j0];omega,λrows h1 h2=>?_⟩
   rw[rwB_sort hn h1 h2,rwB_box]
   exact ⟨a1,b1,c1,xs.length,V,rfl,ha1,hb1,hc1,hR.rws,λd s a2 b2 c2 o hd hs ha2 hb2 hc2=>q d s a2 b2 c2 _ (hd xs rfl) hs ha2 hb2 hc2⟩
end
theorem forC{ks:List Nat}{ti:TDI}{g:TDG}{tb:TDS}{E:DE}{ρ:Ev}(ds:List PyData)(ρ':Ev)(h:∀Q:List PyData->Ev->Prop,Q ds ρ'->ti ρ Q)(w:dLoopC ks g tb E ds (clean ks ρ')):dForC ks ti g tb E ρ:=h _ w
theorem gnC{i:Nat}{d:PyData}{ρ ρ':Ev}{Q:Ev->Prop}(h:dGN i d ρ Q=Q ρ')(w:Q ρ'):dGN i d ρ Q:=by rw[h];exact w
theorem rows_put{n:Nat}{V:Vt}{p:Int×Int}{i:Nat}{e:En}(n1:1<=n)(hp:(strP n)[i]?=some p):((strP n).map (rowE V)).take i++[.tuple [prD p,enD e]]++((strP n).map (rowE V)).drop (i+1)=(strP n).map (rowE (upV V p e)):=by
 have hi:i < (strP n).length:=(W0.mp hp).1
 have hnd:=strP_nodup (n:=(n:Int)) (by omega)
 refine E6 λj=>?_
 rw[O0]
 rcases Nat.lt_trichotomy j i with h|h|h
 ·rw[X3,X2 (by rw[J1,j0];omega),V8,if_pos h,O0,y0 (show j < (strP n).length by omega)]
  have:(strP n)[j]'(by omega)≠p:=λz=>by
   have e2:(strP n)[j]?=(strP n)[i]?:=by rw[hp,y0 (by omega),z]
   have:=(A6 (by omega) hnd).mp e2
   omega
  show some (rowE V _)=some (rowE (upV V p e) _)
  unfold rowE
  rw[upV_ne this]
 ·subst h
  rw[X3,Y1 (by rw[J1,j0];omega),J1,j0,show j - min j (strP n).length=0 by omega,hp]
  show some _=some (rowE (upV V p e) p)
  unfold rowE
  rw[upV_same]
 ·rw[Y1 (by rw[B0,J1,j0];show min i _+1<=j;omega),B0,J1,j0,K7,O0]
  have ej:i+1+(j - (min i (strP n).length+[V1 [prD p,enD e]].length))=j:=by show i+1+(j - (min i (strP n).length+1))=j;omega
  rw[ej]
  cases hj:(strP n)[j]? with
  | none=>rfl
  | some q =>
   have:q≠p:=λz=>by
    have e2:(strP n)[j]?=(strP n)[i]?:=by rw[hp,hj,z]
    have:=(A6 (W0.mp hj).1 hnd).mp e2
    omega
   show some (rowE V q)=some (rowE (upV V p e) q)
   unfold rowE
   rw[upV_ne this]
structure No(xs:List Int)(d:PyData):Prop where
 no:¬Hld xs d
 ok:okP d
theorem no_list{xs:List Int}{ds:List PyData}(h:∀d∈ds,okD d=true)(hk:ds.map keyD≠(strP xs.length).map prD):No xs (.list ds):=⟨λz=>hk (hld_keys z),.inl (okAll_of h)⟩
theorem no_bent{xs:List Int}{V:Vt}(hR:Rgt xs V){p:Int×Int}{i k:Nat}{m:Int}(hp:(strP xs.length)[i]?=some p)(hm:m≠0)(hok:∀d∈(strP xs.length).map (rowE V),okD d=true):No xs (.list (((strP xs.length).map (rowE V)).take i++[.tuple [prD p,enD ((V p).bend k m)]]++((strP xs.length).map (rowE V)).drop (i+1))):=by
 refine ⟨λz=>?_,.inl (okAll_of λd hd=>?_)⟩
 ·rw[rows_put hR.n1 hp]at z
  have hpm:=E1 hp
  have h1:=hld_right hR.n1 z p hpm
  rw[bent_no hR.n1 hR.r hpm ⟨(bend_ok hm).1,λ_=>(bend_ok hm).2⟩ (.inl rfl)]at h1
  cases h1
 ·rcases R0.mp hd with z|z
  ·rcases R0.mp z with z|z
   ·exact hok d (U2 z)
   ·rw[U0.mp z];rfl
  ·exact hok d (K3 z)
noncomputable abbrev rE(n:Int)(V:Vt)(xs:List Int)(rows:List PyData)(x3 x4 x5 x6 x7 x8 x9 x10:Option Sl):Ev:=[some (.fz (pdD (tdE n V))),some (.fz (liD xs)),some (.ow (.list rows)),x3,x4,x5,x6,x7,x8,x9,x10]
section
variable {P:Program}{w:World}{K:n0}{mg:Str->Option Value}{base:Heap}
structure CalsEo(P:Program)(w:World)(K:n0)(mg:Str->Option Value)(base:Heap):Prop where
 holds_entries:Cal P w K mg base 6 "holds_entries" ["numbers","thing"] (conSp K cHe)
noncomputable def cEo:Con:=λargs Q=>∃(xs:List Int) (V:Vt),args=[.fz (pdD (tdE xs.length V)),.fz (liD xs)]/\Rgt xs V/\∀o,Q (.fz (.bool true)) o
theorem scEo:FnScope ["_law_kept","_law_numbers","_law_good","_law_at","_law_stretch","_law_entry","_law_some","_law_by","_law_spot","_law_bent_here","_law_thing"] ["_law_kept","_law_numbers"] (defScope (top 40)):=⟨rfl,rfl,rfl,by decide +kernel,rfl,by decide +kernel,by decide +kernel⟩
theorem ok_eo{f:Addr}{fd:FuncData}(F:Fun K "_law_every_one" "_law_every_one" (top 40) f fd)(T:Txt mg)(C:CalsEo P w K mg base):FnOk P w K mg base CX0 9 f fd ["_law_kept","_law_numbers"] (conSp K cEo):=by
 have S:=scEo
 refine wfn F S (λcdv A outer s H E hr=>(s_cons (s_set (i:=2) S.nd rfl (Or.inl rfl) (w_srtIt rfl rfl (hu2_of hr) T.sorted_ (wn 0)))
     (s_cons (s_for [3,6,7,10,4,5] PassesOwn.never rfl (i_rng1 T.range_ (wa_cons (wx (w_callB ok_len (call_lenK (K:=K) rfl) T.len_ PySem.boot_len (wa_cons (wn 2) wa_nil))) wa_nil)) (g_name (i:=3) S.nd rfl (Or.inl rfl)) (s_cons (s_asgG (w_ix rfl (wn 2) (wn 3)) (g_tup rfl rfl (gs_cons (g_name (i:=4) S.nd rfl (Or.inl rfl)) (gs_cons (g_name (i:=5) S.nd rfl (Or.inl rfl)) gs_nil))))
     (s_cons (s_set (i:=6) S.nd rfl (Or.inl rfl) (w_lst (wa_cons (wx (w_bin ok_add op_addD (wx (w_slHiL rfl (wn 2) (wn 3))) (wx (w_slLoL rfl (wn 2) (wx (w_bin ok_add op_addD (wn 3) (wx w_int))))))) (wa_cons (wx (w_bin ok_add op_addD (wx (w_bin ok_add op_addD (wx (w_slHiL rfl (wn 2) (wn 3))) (wx (w_lst (wa_cons (wx (w_ix rfl (wn 2) (wn 3))) wa_nil))))) (wx (w_slLoL rfl (wn 2) (wn 3))))) wa_nil))))
     (s_cons (s_for [7,8] PassesOwn.never rfl (i_seq rfl (w_tup (wa_cons (wx (w_neg (wx w_int))) (wa_cons (wx w_int) wa_nil)))) (g_name (i:=7) S.nd rfl (Or.inl rfl)) (s_cons (s_for [8,9] PassesOwn.never rfl (i_rng1 T.range_ (wa_cons (wx w_int) wa_nil)) (g_name (i:=8) S.nd rfl (Or.inl rfl)) (s_cons (s_set (i:=9) S.nd rfl (Or.inl rfl) (w_bin ok_add op_addD (wx (w_bin ok_add op_addD (wx (w_sl2T rfl (wn 5) (wn 8))) (wx (w_tup (wa_cons (wx (w_bin ok_add op_addD (wx (w_ix rfl (wn 5) (wn 8))) (wn 7))) wa_nil))))) (wx (w_sl1T rfl (wn 5) (wx (w_bin ok_add op_addD (wn 8) (wx w_int)))))))
     (s_one (s_expr (w_m ok_append rfl PySem.F.slot_list_append PySem.F.type_list_append mt_append (wn 6) (wa_cons (wx (w_bin ok_add op_addD (wx (w_bin ok_add op_addD (wx (w_slHiL rfl (wn 2) (wn 3))) (wx (w_lst (wa_cons (wx (w_tup (wa_cons (wx (wv 4)) (wa_cons (wx (wv 9)) wa_nil)))) wa_nil))))) (wx (w_slLoL rfl (wn 2) (wx (w_bin ok_add op_addD (wn 3) (wx w_int))))))) wa_nil))))))
     (s_cons (s_expr (w_m ok_append rfl PySem.F.slot_list_append PySem.F.type_list_append mt_append (wn 6) (wa_cons (wx (w_bin ok_add op_addD (wx (w_bin ok_add op_addD (wx (w_slHiL rfl (wn 2) (wn 3))) (wx (w_lst (wa_cons (wx (w_tup (wa_cons (wx (w_tup (wa_cons (wx (w_bin ok_add op_addD (wx (w_ix rfl (wn 4) (wx w_int))) (wn 7))) (wa_cons (wx (w_ix rfl (wn 4) (wx w_int))) wa_nil)))) (wa_cons (wx (wv 5)) wa_nil)))) wa_nil))))) (wx (w_slLoL rfl (wn 2) (wx (w_bin ok_add op_addD (wn 3) (wx w_int))))))) wa_nil)))
     (s_one (s_expr (w_m ok_append rfl PySem.F.slot_list_append PySem.F.type_list_append mt_append (wn 6) (wa_cons (wx (w_bin ok_add op_addD (wx (w_bin ok_add op_addD (wx (w_slHiL rfl (wn 2) (wn 3))) (wx (w_lst (wa_cons (wx (w_tup (wa_cons (wx (w_tup (wa_cons (wx (w_ix rfl (wn 4) (wx w_int))) (wa_cons (wx (w_bin ok_add op_addD (wx (w_ix rfl (wn 4) (wx w_int))) (wn 7))) wa_nil)))) (wa_cons (wx (wv 5)) wa_nil)))) wa_nil))))) (wx (w_slLoL rfl (wn 2) (wx (w_bin ok_add op_addD (wn 3) (wx w_int))))))) wa_nil)))))))
     (s_one (s_for [10] PassesOwn.never rfl (i_seq rfl (wv 6)) (g_name (i:=10) S.nd rfl (Or.inl rfl)) (s_one (s_if (t_cmp ok_isnB op_isnotB (wx (w_fn C.holds_entries (hr.mono (by first|decide|omega)) (wa_cons (wx (w_callT ok_list (call_listK (K:=K) rfl) T.list_ boot_list (wa_cons (wn 1) wa_nil))) (wa_cons (wn 10) wa_nil)))) (wx w_bl)) (s_one (s_ret w_bl)) s_nil))))))))
     (s_one (s_ret w_bl))))) ?_ ?_
 ·rintro args Qd ⟨xs,V,rfl,_⟩;rfl
 ·rintro args Qd ⟨xs,V,rfl,hR,q⟩
  refine ⟨noOw_of rfl,?_⟩
  have n1:=hR.n1
  have hn:(1:Int)<=(xs.length:Int):=by omega
  have h9:=hR.n2
  have hsl:=strP_len hn
  have hS:=hR.rws.sh
  have hok:∀d∈(strP xs.length).map (rowE V),okD d=true:=λd hd=>(hS d hd).o
  have hbent:=λ{p:Int×Int}{i k:Nat}{m:Int} (hp:(strP xs.length)[i]?=some p) (hm:m≠0)=>no_bent (k:=k) hR hp hm hok
  have hK:=keys_rows V (strP xs.length)
  have hrl:((strP xs.length).map (rowE V)).length=(strP xs.length).length:=j0 ..
  have hat:∀i:Nat,i < (strP xs.length).length->∃p,(strP xs.length)[i]?=some p/\((strP xs.length).map (rowE V))[i]?=some (rowE V p):=λi hi=>⟨_,y0 hi,by rw[O0,y0 hi];rfl⟩
  with_reducible refine cutS (λρ=>ρ=[some (.fz (pdD (tdE xs.length V))),some (.fz (liD xs)),some (.ow (.list ((strP xs.length).map (rowE V)))),none,none,none,none,none,none,none,none]) ?_ ?_
  ·intro N hN
   refine ⟨rwB xs.length V,by rw[tdE_rwB];rfl,by unfold rwB;rw[j0];omega,λrows h1 h2=>?_⟩
   rw[rwB_sort hn h1 h2,rwB_box]
   exact hN _ rfl
  rintro _ rfl
  generalize hrows:(strP xs.length).map (rowE V)=rows at *
  have hr62:rows.length<=62:=by omega
  have htk:∀n:Nat,(rows.take n).length<=62:=tkN hr62
  have hdp:∀n:Nat,(rows.drop n).length<=62:=dpN hr62
  have hokt:∀n,∀d∈rows.take n,okD d=true:=λn d hd=>hok d (U2 hd)
  have hokd:∀n,∀d∈rows.drop n,okD d=true:=λn d hd=>hok d (K3 hd)
  have lenne:∀l:List PyData,l.length≠rows.length->l.map keyD≠(strP xs.length).map prD:=λl h z=>by
   have:=congrArg S4 z
   rw[j0,j0]at this
   omega
  with_reducible refine cutS (λρ=>ρ=rE xs.length V xs rows none none none none none none none none) ?_ ?_
  ·intro N hN
   refine ⟨by omega,by omega,?_⟩
   refine loopC (λrest ρ=>∃t k:Nat,t+k=rows.length/\rest=(List.range' t k).map (λi:Nat=>G0 (0+i))/\ρ=rE xs.length V xs rows none none none none none none none none) ?_ ?_ ⟨0,rows.length,V5 _,by rw[rangeD,List.range_eq_range'];rfl,rfl⟩
   ·rintro d ds ρ ⟨t,k,hk,e1,rfl⟩ N' hN'
    cases k with
    | zero=>cases e1
    | succ k =>
     rw[List.range'_succ,B1]at e1
     cases e1
     rw[show (0:Int)+(t:Int)=((t:Nat):Int) from Int.zero_add _]
     obtain⟨p,hp,hr⟩:=hat t (by omega)
     have c1':cutN ((t:Nat):Int) rows.length=t:=cutN_nat rfl
     have c2':cutN (((t:Nat):Int)+1) rows.length=t+1:=cutN_nat rfl
     have ok3:∀y:PyData,okD y=true->∀d∈rows.take t++[y]++rows.drop (t+1),okD d=true:=λy hy d hd=>by
      rcases R0.mp hd with z|z
      ·rcases R0.mp z with z|z
       ·exact hokt _ d z
       ·rw[U0.mp z];exact hy
      ·exact hokd _ d z
     with_reducible refine gnC (ρ':=rE xs.length V xs rows (some (.fz (.int (t:Nat)))) none none none none none none none) rfl ?_
     with_reducible refine cutS (λρ=>ρ=rE xs.length V xs rows (some (.fz (.int (t:Nat)))) (some (.fz (prD p))) (some (.fz (enD (V p)))) none none none none none) ?_ ?_
     ·intro N2 hN2
      exact ⟨_,atI_nat hr,rfl,hN2 _ rfl⟩
     rintro _ rfl
     with_reducible refine cutS (λρ=>∃ss:List PyData,(∀d∈ss,No xs d)/\ss.length=2/\ρ=rE xs.length V xs rows (some (.fz (.int (t:Nat)))) (some (.fz (prD p))) (some (.fz (enD (V p)))) (some (.ow (.list ss))) none none none none) ?_ ?_
     ·intro N2 hN2
      refine ⟨ln3 (htk _) (hdp _) (by decide),_,atI_nat hr,ln3 (htk _) (A0 1) (by decide),ln3 (lenA (htk _) (A0 1)) (hdp _) (by decide),hN2 _ ⟨[.list (rows.take (cutN ((t:Nat):Int) rows.length)++rows.drop (cutN (((t:Nat):Int)+1) rows.length)),.list (rows.take (cutN ((t:Nat):Int) rows.length)++[rowE V p]++rows.drop (cutN ((t:Nat):Int) rows.length))],am ?_ (am ?_ a0),rfl,rfl⟩⟩
      ·rw[c1',c2']
       refine no_list (λd hd=>(R0.mp hd).elim (hokt _ d) (hokd _ d)) (lenne _ ?_)
       rw[B0,J1,E2];omega
      ·rw[c1']
       refine no_list (λd hd=>(R0.mp hd).elim (λz=>(R0.mp z).elim (hokt _ d) λy=>by rw[U0.mp y];exact hok _ (E1 hr)) (hokd _ d)) (lenne _ ?_)
       rw[B0,B0,J1,E2,O2];omega
     rintro _ ⟨ss,hss,hsl2,rfl⟩
     have hbn:∀(k:Nat) (m:Int),m≠0->No xs (.list (rows.take t++[.tuple [prD p,enD ((V p).bend k m)]]++rows.drop (t+1))):=λk m hm=>hbent hp hm
     have hst:∀(x:Int×Int),x≠p->No xs (.list (rows.take t++[.tuple [prD x,enD (V p)]]++rows.drop (t+1))):=λx hx=>no_list (ok3 _ rfl) (put_keys (by omega) (y:=prD p) (by rw[O0,hp];rfl) λz=>hx (prD_inj z))
     with_reducible refine cutS (λρ=>∃ss:List PyData,(∀d∈ss,No xs d)/\ss.length<=14/\ρ=rE xs.length V xs rows (some (.fz (.int (t:Nat)))) (some (.fz (prD p))) (some (.fz (enD (V p)))) (some (.ow (.list ss))) none none none none) ?_ ?_
     ·intro N2 hN2
      with_reducible refine forC [.int (-1),.int 1] (rE xs.length V xs rows (some (.fz (.int (t:Nat)))) (some (.fz (prD p))) (some (.fz (enD (V p)))) (some (.ow (.list ss))) none none none none) ?_ ?_
      ·exact λQ h=>h
      with_reducible refine loopC (λrest ρ=>∃ss:List PyData,(∀d∈rest,∃m:Int,d=.int m/\m≠0)/\(∀d∈ss,No xs d)/\ss.length+6 * rest.length<=14/\ρ=rE xs.length V xs rows (some (.fz (.int (t:Nat)))) (some (.fz (prD p))) (some (.fz (enD (V p)))) (some (.ow (.list ss))) none none none none) ?_ ?_ ⟨ss,?_,hss,?_,rfl⟩
      ·rintro d ds ρ ⟨ss,hm,hss,hsl3,rfl⟩ N3 hN3
       obtain⟨m,rfl,hm0⟩:=hm d P0
       rw[B2]at hsl3
       with_reducible refine gnC (ρ':=rE xs.length V xs rows (some (.fz (.int (t:Nat)))) (some (.fz (prD p))) (some (.fz (enD (V p)))) (some (.ow (.list ss))) (some (.fz (.int m))) none none none) rfl ?_
       with_reducible refine cutS (λρ=>∃ss':List PyData,(∀d∈ss',No xs d)/\ss'.length<=ss.length+4/\ρ=rE xs.length V xs rows (some (.fz (.int (t:Nat)))) (some (.fz (prD p))) (some (.fz (enD (V p)))) (some (.ow (.list ss'))) (some (.fz (.int m))) none none none) ?_ ?_
       ·intro N4 hN4
        with_reducible refine forC [.int 0,.int 1,.int 2,.int 3] (rE xs.length V xs rows (some (.fz (.int (t:Nat)))) (some (.fz (prD p))) (some (.fz (enD (V p)))) (some (.ow (.list ss))) (some (.fz (.int m))) none none none) ?_ ?_
        ·exact λQ h=>⟨by decide,by decide,h⟩
        with_reducible refine loopC (λrest ρ=>∃ss':List PyData,(∀d∈rest,∃k:Nat,d=.int k/\k < 4)/\(∀d∈ss',No xs d)/\ss'.length+rest.length<=ss.length+4/\ρ=rE xs.length V xs rows (some (.fz (.int (t:Nat)))) (some (.fz (prD p))) (some (.fz (enD (V p)))) (some (.ow (.list ss'))) (some (.fz (.int m))) none none none) ?_ ?_ ⟨ss,?_,hss,?_,rfl⟩
        ·rintro d ds' ρ ⟨ss',hkk,hss',hsl4,rfl⟩ N5 hN5
         obtain⟨k,rfl,hk4⟩:=hkk d P0
         rw[B2]at hsl4
         with_reducible refine gnC (ρ':=rE xs.length V xs rows (some (.fz (.int (t:Nat)))) (some (.fz (prD p))) (some (.fz (enD (V p)))) (some (.ow (.list ss'))) (some (.fz (.int m))) (some (.fz (.int k))) none none) rfl ?_
         with_reducible refine cutS (λρ=>ρ=rE xs.length V xs rows (some (.fz (.int (t:Nat)))) (some (.fz (prD p))) (some (.fz (enD (V p)))) (some (.ow (.list ss'))) (some (.fz (.int m))) (some (.fz (.int k))) (some (.fz (enD ((V p).bend k m)))) none) ?_ ?_
         ·intro N6 hN6
          have hk5:k=0\/k=1\/k=2\/k=3:=by omega
          rcases hk5 with rfl|rfl|rfl|rfl
          all_goals exact ⟨by decide,_,rfl,lz rfl,by decide,lz rfl,hN6 _ rfl⟩
         rintro _ rfl
         refine ⟨ln3 (htk _) (A0 1) (by decide),ln3 (lenA (htk _) (A0 1)) (hdp _) (by decide),lt100 (show ss'.length<=100 by omega),hN5 _ ⟨ss'++[.list (rows.take (cutN ((t:Nat):Int) rows.length)++[.tuple [prD p,enD ((V p).bend k m)]]++rows.drop (cutN (((t:Nat):Int)+1) rows.length))],λd hd=>hkk d (L0 _ hd),λd hd=>?_,by rw[B0,O2];omega,rfl⟩⟩
         rcases R0.mp hd with z|z
         ·exact hss' d z
         ·rw[U0.mp z,c1',c2'];exact hbn k m hm0
        ·rintro ρ ⟨ss',_,hss',hsl4,rfl⟩
         exact hN4 _ ⟨ss',hss',hsl4,rfl⟩
        ·exact am (p:=λd=>∃k:Nat,d=.int k/\k < 4) ⟨0,rfl,by decide⟩ (am ⟨1,rfl,by decide⟩ (am ⟨2,rfl,by decide⟩ (am ⟨3,rfl,by decide⟩ a0)))
        ·exact A0 _
       rintro _ ⟨ss',hss',hsl4,rfl⟩
       with_reducible refine cutS (λρ=>∃s2:List PyData,(∀d∈s2,No xs d)/\s2.length<=ss.length+5/\ρ=rE xs.length V xs rows (some (.fz (.int (t:Nat)))) (some (.fz (prD p))) (some (.fz (enD (V p)))) (some (.ow (.list s2))) (some (.fz (.int m))) none none none) ?_ ?_
       ·intro N4 hN4
        refine ⟨_,rfl,_,rfl,ln3 (htk _) (A0 1) (by decide),ln3 (lenA (htk _) (A0 1)) (hdp _) (by decide),lt100 (show ss'.length<=100 by omega),hN4 _ ⟨ss'++[.list (rows.take (cutN ((t:Nat):Int) rows.length)++[.tuple [prD (p.1+m,p.2),enD (V p)]]++rows.drop (cutN (((t:Nat):Int)+1) rows.length))],λd hd=>?_,by rw[B0,O2];omega,rfl⟩⟩
        rcases R0.mp hd with z|z
        ·exact hss' d z
        ·rw[U0.mp z,c1',c2'];exact hst (p.1+m,p.2) λz=>by have:=congrArg Prod.fst z;dsimp only at this;omega
       rintro _ ⟨s2,hs2,hsl5,rfl⟩
       refine ⟨_,rfl,_,rfl,ln3 (htk _) (A0 1) (by decide),ln3 (lenA (htk _) (A0 1)) (hdp _) (by decide),lt100 (show s2.length<=100 by omega),hN3 _ ⟨s2++[.list (rows.take (cutN ((t:Nat):Int) rows.length)++[.tuple [prD (p.1,p.2+m),enD (V p)]]++rows.drop (cutN (((t:Nat):Int)+1) rows.length))],λd hd=>hm d (L0 _ hd),λd hd=>?_,by rw[B0,O2];omega,rfl⟩⟩
       rcases R0.mp hd with z|z
       ·exact hs2 d z
       ·rw[U0.mp z,c1',c2'];exact hst (p.1,p.2+m) λz=>by have:=congrArg Prod.snd z;dsimp only at this;omega
      ·rintro ρ ⟨ss,_,hss,hsl3,rfl⟩
       exact hN2 _ ⟨ss,hss,Q0 (T2 _ _) hsl3,rfl⟩
      ·exact am (p:=λd=>∃m:Int,d=.int m/\m≠0) ⟨-1,rfl,by decide⟩ (am ⟨1,rfl,by decide⟩ a0)
      ·rw[hsl2];exact A0 _
     rintro _ ⟨ss,hss,hsl3,rfl⟩
     refine loopC (λrest ρ=>(∀d∈rest,No xs d)/\ρ=rE xs.length V xs rows (some (.fz (.int (t:Nat)))) (some (.fz (prD p))) (some (.fz (enD (V p)))) (some (.fz (.list ss))) none none none none) ?_ ?_ ⟨hss,rfl⟩
     ·rintro d ds ρ ⟨hd,rfl⟩ N2 hN2
      have hd0:=hd d P0
      refine ⟨xs,d,rfl,hd0.ok,n1,by omega,λb o hb=>?_⟩
      have et:b=false:=w6.mpr λz=>hd0.no (hb.mp z)
      rw[et]
      exact hN2 _ ⟨λd hd'=>hd d (L0 _ hd'),rfl⟩
     ·rintro ρ ⟨_,rfl⟩
      exact hN' _ ⟨t+1,k,by omega,rfl,rfl⟩
   ·rintro ρ ⟨t,k,hk,e1,rfl⟩
    exact hN _ rfl
  rintro _ rfl
  exact q _
end
theorem rpW{d:PyData}(h:Shw d):∃t:Str,∀Q:Sl->Prop,Q (.fz (.str t))->fReprW d Q:=by
 rcases h with⟨h1,h2,h3,h4⟩|⟨ps,e,h2,h3,h4⟩
 ·exact ⟨d.shown,λQ q=>.inl ⟨h1,h2,h3,h4,q⟩⟩
 ·exact ⟨(dP ps).shown,λQ q=>.inr ⟨ps,e,h2,h3,h4,q⟩⟩
noncomputable abbrev rL(ns:List Int)(x1 x2 x3 x4 x5 x6 x7 x8:Option Sl):Ev:=[some (.fz (scrD ns)),x1,x2,x3,x4,x5,x6,x7,x8]
section
variable {P:Program}{w:World}{K:n0}{mg:Str->Option Value}{base:Heap}
structure CalsL(P:Program)(w:World)(K:n0)(mg:Str->Option Value)(base:Heap):Prop where
 law_pen:Cal P w K mg base 1 "_law_pen" ["_law_script","_law_k"] (conSp K cPen)
 law_row:Cal P w K mg base 3 "_law_row" ["_law_pen_here","_law_most"] (conSp K cRow)
 law_by_hand:Cal P w K mg base 13 "_law_by_hand" ["_law_pen_here","_law_numbers"] (conSp K cBh)
 law_spoilt:Cal P w K mg base 15 "_law_spoilt" ["_law_pen_here","_law_kept","_law_numbers"] (conSp K cSp)
 law_every_one:Cal P w K mg base 9 "_law_every_one" ["_law_kept","_law_numbers"] (conSp K cEo)
 holds_entries:Cal P w K mg base 6 "holds_entries" ["numbers","thing"] (conSp K cHe)
noncomputable def cLaw:Con:=λargs Q=>∃ns:List Int,args=[.fz (scrD ns)]/\ns.length<=63/\∀o,Q (.fz (.bool true)) o
theorem cLaw_at(ns:List Int)(h:ns.length<=63):cLaw [.fz (scrD ns)] λr _=>r=.fz (.bool true):=⟨ns,rfl,h,λ_=>rfl⟩
theorem scLaw:FnScope ["_law_script","_law_k","_law_pen_here","_law_numbers","_law_kept","_law_good","_law_turn","_law_thing","_law_shown"] ["_law_script"] (defScope (top 41)):=⟨rfl,rfl,rfl,by decide +kernel,rfl,by decide +kernel,by decide +kernel⟩
theorem ok_law{f:Addr}{fd:FuncData}(F:Fun K "law" "law" (top 41) f fd)(T:Txt mg)(C:CalsL P w K mg base):FnOk P w K mg base CX0 16 f fd ["_law_script"] (conSp K cLaw):=by
 have S:=scLaw
 refine wfn F S (λcdv A outer s H E hr=>(s_cons (s_for [1,2,3,4,5,6] PassesOwn.never rfl (i_rng1 T.range_ (wa_cons (wx (w_callB ok_2I (call_max2 rfl) T.max_ boot_max (wa_cons (wx w_int) (wa_cons (wx (w_callB ok_2I (call_min2 rfl) T.min_ boot_min (wa_cons (wx w_int) (wa_cons (wx (w_callB ok_len (call_lenK (K:=K) rfl) T.len_ PySem.boot_len (wa_cons (wn 0) wa_nil))) wa_nil)))) wa_nil)))) wa_nil)) (g_name (i:=1) S.nd rfl (Or.inl rfl)) (s_cons (s_set (i:=2) S.nd rfl (Or.inl rfl) (w_fn C.law_pen (hr.mono (by first|decide|omega)) (wa_cons (wn 0) (wa_cons (wn 1) wa_nil))))
     (s_cons (s_set (i:=3) S.nd rfl (Or.inl rfl) (w_fnI C.law_row (hr.mono (by first|decide|omega)) (wa_cons (wn 2) (wa_cons (wx w_int) wa_nil))))
     (s_cons (s_set (i:=4) S.nd rfl (Or.inl rfl) (w_fnI C.law_by_hand (hr.mono (by first|decide|omega)) (wa_cons (wn 2) (wa_cons (wx (wv 3)) wa_nil))))
     (s_cons (s_set (i:=5) S.nd rfl (Or.inl rfl) (w_srtIt rfl rfl (hu2_of hr) T.sorted_ (wn 4)))
     (s_cons (s_for [6,7,8] PassesOwn.never rfl (i_rng1 T.range_ (wa_cons (wx w_int) wa_nil)) (g_name (i:=6) S.nd rfl (Or.inl rfl)) (s_cons (s_set (i:=7) S.nd rfl (Or.inl rfl) (w_fnI C.law_spoilt (hr.mono (by first|decide|omega)) (wa_cons (wn 2) (wa_cons (wx (wv 4)) (wa_cons (wx (wv 3)) wa_nil)))))
     (s_cons (s_set (i:=8) S.nd rfl (Or.inl rfl) (w_callB ok_reprW (call_reprW (K:=K) rfl hr) T.repr_ boot_repr (wa_cons (wn 7) wa_nil)))
     (s_one (s_if (t_w (t_or (t_cmp ok_isnB op_isnotB (wx (w_fn C.holds_entries (hr.mono (by first|decide|omega)) (wa_cons (wx (w_callT ok_list (call_listK (K:=K) rfl) T.list_ boot_list (wa_cons (wn 3) wa_nil))) (wa_cons (wx (wv 7)) wa_nil)))) (wx w_bl)) (t_or1 (t_cmp ok_ne (op_neE (K:=K) rfl hr.units) (wx (w_callB ok_reprW (call_reprW (K:=K) rfl hr) T.repr_ boot_repr (wa_cons (wn 7) wa_nil))) (wn 8))))) (s_one (s_ret w_bl)) s_nil)))))
     (s_cons (s_if (t_cmp ok_isnB op_isnotB (wx (w_fn C.holds_entries (hr.mono (by first|decide|omega)) (wa_cons (wx (w_callT ok_list (call_listK (K:=K) rfl) T.list_ boot_list (wa_cons (wn 3) wa_nil))) (wa_cons (wx (wv 5)) wa_nil)))) (wx w_bl)) (s_one (s_ret w_bl)) s_nil)
     (s_one (s_if (t_w (t_and (t_cmp ok_lt op_lt (wx (w_callB ok_len (call_lenK (K:=K) rfl) T.len_ PySem.boot_len (wa_cons (wn 3) wa_nil))) (wx w_int)) (t_and1 (t_not (t_val (w_fn C.law_every_one (hr.mono (by first|decide|omega)) (wa_cons (wx (wv 4)) (wa_cons (wx (wv 3)) wa_nil)))))))) (s_one (s_ret w_bl)) s_nil)))))))))
     (s_one (s_ret w_bl)))) ?_ ?_
 ·rintro args Qd ⟨ns,rfl,_⟩;rfl
 ·rintro args Qd ⟨ns,rfl,hn,q⟩
  refine ⟨noOw_of rfl,?_⟩
  with_reducible refine cutS (λρ=>ρ=rL ns none none none none none none none none) ?_ ?_
  ·intro N hN
   refine ⟨ns,rfl,by omega,by omega,?_⟩
   refine loopC (λrest ρ=>(∀d∈rest,∃k:Int,d=.int k/\0<=k/\k<=1000)/\ρ=rL ns none none none none none none none none) ?_ ?_ ⟨?_,rfl⟩
   ·rintro d ds ρ ⟨hk,rfl⟩ N' hN'
    obtain⟨k,rfl,hk0,hk1⟩:=hk d P0
    have hN':N' (rL ns none none none none none none none none):=hN' _ ⟨λd hd=>hk d (L0 _ hd),rfl⟩
    with_reducible refine gnC (ρ':=rL ns (some (.fz (.int k))) none none none none none none none) rfl ?_
    with_reducible refine cutS (λρ=>∃a b c:Int,0<=a/\0<=b/\0<=c/\ρ=rL ns (some (.fz (.int k))) (some (.ow (penD a b c))) none none none none none none) ?_ ?_
    ·intro N2 hN2
     exact ⟨ns,k,rfl,hk0,hk1,λa b o ha hb=>hN2 _ ⟨a,b,0,ha,hb,by decide,rfl⟩⟩
    rintro _ ⟨a,b,c,ha,hb,hc,rfl⟩
    with_reducible refine cutS (λρ=>∃(a b c:Int) (xs:List Int),0<=a/\0<=b/\0<=c/\(∀x∈xs,Big x)/\1<=xs.length/\xs.length<=9/\ρ=rL ns (some (.fz (.int k))) (some (.ow (penD a b c))) (some (.ow (liD xs))) none none none none none) ?_ ?_
    ·intro N2 hN2
     exact ⟨a,b,c,9,rfl,ha,hb,hc,by decide,by decide,λxs a1 b1 c1 o hB h1 h9 ha1 hb1 hc1=>hN2 _ ⟨a1,b1,c1,xs,ha1,hb1,hc1,hB,h1,by omega,rfl⟩⟩
    rintro _ ⟨a,b,c,xs,ha,hb,hc,hB,n1,n2,rfl⟩
    with_reducible refine cutS (λρ=>∃(a b c:Int) (V:Vt),0<=a/\0<=b/\0<=c/\Rgt xs V/\ρ=rL ns (some (.fz (.int k))) (some (.ow (penD a b c))) (some (.fz (liD xs))) (some (.ow (pdD (tdE xs.length V)))) none none none none) ?_ ?_
    ·intro N2 hN2
     exact ⟨a,b,c,xs,rfl,ha,hb,hc,n1,by omega,λV a1 b1 c1 o hV ha1 hb1 hc1=>hN2 _ ⟨a1,b1,c1,V,ha1,hb1,hc1,⟨n1,n2,hV.right n1,hV.bnd n1 (by omega) λx hx=>big_abs (hB x hx),hV.wait n1⟩,rfl⟩⟩
    rintro _ ⟨a,b,c,V,ha,hb,hc,hR,rfl⟩
    have hx:(1:Int)<=(xs.length:Int):=by omega
    have hsl:=strP_len hx
    with_reducible refine cutS (λρ=>ρ=rL ns (some (.fz (.int k))) (some (.ow (penD a b c))) (some (.fz (liD xs))) (some (.ow (pdD (tdE xs.length V)))) (some (.ow (.list ((strP xs.length).map (rowE V))))) none none none) ?_ ?_
    ·intro N2 hN2
     refine ⟨rwB xs.length V,by rw[tdE_rwB];rfl,by unfold rwB;rw[j0];omega,λrows h1 h2=>?_⟩
     rw[rwB_sort hx h1 h2,rwB_box]
     exact hN2 _ rfl
    rintro _ rfl
    with_reducible refine cutS (λρ=>∃(a b c:Int) (x4:Option Sl),0<=a/\0<=b/\0<=c/\(x4=some (.ow (pdD (tdE xs.length V)))\/x4=some (.fz (pdD (tdE xs.length V))))/\ρ=rL ns (some (.fz (.int k))) (some (.ow (penD a b c))) (some (.fz (liD xs))) x4 (some (.ow (.list ((strP xs.length).map (rowE V))))) none none none) ?_ ?_
    ·intro N2 hN2
     with_reducible refine forC (rangeD 0 (8:Int).toNat) (rL ns (some (.fz (.int k))) (some (.ow (penD a b c))) (some (.fz (liD xs))) (some (.ow (pdD (tdE xs.length V)))) (some (.ow (.list ((strP xs.length).map (rowE V))))) none none none) ?_ ?_
     ·exact λQ h=>⟨by decide,by decide,h⟩
     generalize rangeD 0 (8:Int).toNat=L
     with_reducible refine loopC (λrest ρ=>∃(a b c:Int) (x4:Option Sl),0<=a/\0<=b/\0<=c/\(x4=some (.ow (pdD (tdE xs.length V)))\/x4=some (.fz (pdD (tdE xs.length V))))/\ρ=rL ns (some (.fz (.int k))) (some (.ow (penD a b c))) (some (.fz (liD xs))) x4 (some (.ow (.list ((strP xs.length).map (rowE V))))) none none none) ?_ ?_ ⟨a,b,c,_,ha,hb,hc,.inl rfl,rfl⟩
     ·rintro d ds ρ ⟨a,b,c,x4,ha,hb,hc,hx4,rfl⟩ N3 hN3
      have hN3:∀a b c:Int,0<=a->0<=b->0<=c->N3 (rL ns (some (.fz (.int k))) (some (.ow (penD a b c))) (some (.fz (liD xs))) (some (.fz (pdD (tdE xs.length V)))) (some (.ow (.list ((strP xs.length).map (rowE V))))) none none none):=λa b c ha hb hc=>hN3 _ ⟨a,b,c,_,ha,hb,hc,.inr rfl,rfl⟩
      with_reducible refine gnC (ρ':=rL ns (some (.fz (.int k))) (some (.ow (penD a b c))) (some (.fz (liD xs))) x4 (some (.ow (.list ((strP xs.length).map (rowE V))))) (some (.fz d)) none none) rfl ?_
      with_reducible refine cutS (λρ=>∃(a b c:Int) (d':PyData) (s:Sl),0<=a/\0<=b/\0<=c/\Spo xs d'/\(s=.ow d'\/s=.fz d')/\ρ=rL ns (some (.fz (.int k))) (some (.ow (penD a b c))) (some (.fz (liD xs))) (some (.fz (pdD (tdE xs.length V)))) (some (.ow (.list ((strP xs.length).map (rowE V))))) (some (.fz d)) (some s) none) ?_ ?_
      ·intro N4 hN4
       rcases hx4 with rfl|rfl
       all_goals exact ⟨a,b,c,xs,V,rfl,ha,hb,hc,hR,hB,λd' s a1 b1 c1 o hd hs ha1 hb1 hc1=>hN4 _ ⟨a1,b1,c1,d',s,ha1,hb1,hc1,hd,hs,rfl⟩⟩
      rintro _ ⟨a,b,c,d',s,ha,hb,hc,hd,hs,rfl⟩
      obtain⟨t,ht⟩:=rpW hd.sw
      with_reducible refine cutS (λρ=>ρ=rL ns (some (.fz (.int k))) (some (.ow (penD a b c))) (some (.fz (liD xs))) (some (.fz (pdD (tdE xs.length V)))) (some (.ow (.list ((strP xs.length).map (rowE V))))) (some (.fz d)) (some s) (some (.fz (.str t)))) ?_ ?_
      ·intro N4 hN4
       rcases hs with rfl|rfl
       all_goals exact ht _ (hN4 _ rfl)
      rintro _ rfl
      rcases hs with rfl|rfl
      all_goals
       refine ⟨xs,d',rfl,hd.ok,n1,by omega,λb o hb=>?_⟩
       have et:b=false:=w6.mpr λz=>hd.no (hb.mp z)
       rw[et]
       refine ht _ (ite2 (λh=>?_) (λh=>hN3 a _ c ha (by assumption) hc))
       exfalso
       have h:(!decide (t=t))=true:=h
       simp at h
     ·rintro ρ ⟨a,b,c,x4,ha,hb,hc,hx4,rfl⟩
      exact hN2 _ ⟨a,b,c,x4,ha,hb,hc,hx4,rfl⟩
    rintro _ ⟨a,b,c,x4,ha,hb,hc,hx4,rfl⟩
    with_reducible refine cutS (λρ=>ρ=rL ns (some (.fz (.int k))) (some (.ow (penD a b c))) (some (.fz (liD xs))) x4 (some (.fz (.list ((strP xs.length).map (rowE V))))) none none none) ?_ ?_
    ·intro N2 hN2
     refine ⟨xs,_,rfl,.inl (okAll_of λd hd=>(hR.rws.sh d hd).o),n1,by omega,λb o hb=>?_⟩
     rw[hb.mpr ⟨V,rfl,hR.r⟩]
     exact hN2 _ rfl
    rintro _ rfl
    rcases hx4 with rfl|rfl
    all_goals
     refine ite2 (λh=>?_) (λh=>ite2 (λz=>nomatch z) λ_=>hN')
     exact ⟨xs,V,rfl,hR,λo=>hN'⟩
   ·rintro ρ ⟨_,rfl⟩
    exact hN _ rfl
   ·intro d hd
    rw[rangeD]at hd
    obtain⟨i,hi,rfl⟩:=A1.mp hd
    have hi:=S5.mp hi
    refine ⟨_,rfl,by omega,?_⟩
    omega
  rintro _ rfl
  exact q _
end
theorem len0{p:List Value->Prop}(h:p []):∀us:List Value,us.length=0->p us:=λus e=>by
 cases us with
 | nil=>exact h
 | cons x us=>cases e
theorem len1{p:List Value->Prop}(h:∀x0,p [x0]):∀us:List Value,us.length=1->p us:=λus e=>by
 cases us with
 | nil=>cases e
 | cons x us=>exact len0 (p:=λl=>p (x :: l)) (h x) us (n8 e)
theorem len2{p:List Value->Prop}(h:∀x0 x1,p [x0,x1]):∀us:List Value,us.length=2->p us:=λus e=>by
 cases us with
 | nil=>cases e
 | cons x us=>exact len1 (p:=λl=>p (x :: l)) (λx1=>h x x1) us (n8 e)
theorem len3{p:List Value->Prop}(h:∀x0 x1 x2,p [x0,x1,x2]):∀us:List Value,us.length=3->p us:=λus e=>by
 cases us with
 | nil=>cases e
 | cons x us=>exact len2 (p:=λl=>p (x :: l)) (λx1 x2=>h x x1 x2) us (n8 e)
theorem len4{p:List Value->Prop}(h:∀x0 x1 x2 x3,p [x0,x1,x2,x3]):∀us:List Value,us.length=4->p us:=λus e=>by
 cases us with
 | nil=>cases e
 | cons x us=>exact len3 (p:=λl=>p (x :: l)) (λx1 x2 x3=>h x x1 x2 x3) us (n8 e)
structure Df(K:n0)(mg:Str->Option Value)(x:Str)(st:Stmt)(f:Addr)(d:FuncData):Prop where
 F:Fun K x x st f d
 m:mg x=some (.ref f)
 k:X4 K (.ref f)=true
section
variable {K:n0}{mg:Str->Option Value}
theorem df_mk{h:Heap}(X:K.In h)(G:h.Ns mainGlobals mg){x:Str}{st:Stmt}{f:Addr}{oc:Value}{od an:Option Addr}{osl:Array (Option Value)}{kV doc pm cdv ct:Value}(a:A3 K mainGlobals x=some (some (.ref f)))(l:K.lookup f=some ⟨oc,od,.func (q5 x x (defArgs st) (defBody st) (defScope st) .none kV doc pm an cdv ct),osl⟩)(c:F7 K cdv x=true)(k:X4 K (.ref f)=true):Df K mg x st f (q5 x x (defArgs st) (defBody st) (defScope st) .none kV doc pm an cdv ct) :=
 ⟨fun_mk l c k,PySem.W.mg_of X G a,k⟩
theorem calD(P:Program)(w:World)(base:Heap){k:Nat}{x:Str}{ps:List Str}{sp:Sp}{st:Stmt}{f:Addr}{d:FuncData}(D:Df K mg x st f d)(h:FnOk P w K mg base CX0 k f d ps sp)(b:∀(kV doc pm:Value) (an:Option Addr) (cdv ct:Value) (us:List Value),us.length=ps.length->bindArgs (q5 x x (defArgs st) (defBody st) (defScope st) .none kV doc pm an cdv ct) ⟨us,[]⟩=pure (ps.zip us)):Cal P w K mg base k x ps sp :=
 ⟨⟨f,d,h,D.m,D.k,D.F.binds b⟩⟩
end
theorem all_mk{l:u8}{w:World}{K:n0}{h:Heap}{mg:Str->Option Value}{fa f0 f1 f2 f3 f4 f5 f6 f7 f8 f9 f10 f11 f12 f13 f14 f15 f16 f17 f18 f19 f20 f21 f22 f23 f24 f25 f26 f27 f28 f29:Addr}{d0 d1 d2 d3 d4 d5 d6 d7 d8 d9 d10 d11 d12 d13 d14 d15 d16 d17 d18 d19 d20 d21 d22 d23 d24 d25 d26 d27 d28 d29:FuncData}(X:K.In h)(G:h.Ns mainGlobals mg)(hfa:mg "law"=some (.ref fa))
  (D0:Df K mg "_law_pen" (top 19) f0 d0) (D1:Df K mg "_law_draw" (top 20) f1 d1) (D2:Df K mg "_law_number" (top 21) f2 d2) (D3:Df K mg "_law_row" (top 22) f3 d3) (D4:Df K mg "_law_halves" (top 24) f4 d4) (D5:Df K mg "_law_around" (top 26) f5 d5) (D6:Df K mg "_law_anew" (top 27) f6 d6) (D7:Df K mg "_law_settle" (top 28) f7 d7) (D8:Df K mg "_law_by_hand" (top 34) f8 d8) (D9:Df K mg "_law_bent" (top 35) f9 d9) (D10:Df K mg "_law_other_row" (top 36) f10 d10) (D11:Df K mg "_law_other_stretches" (top 37) f11 d11) (D12:Df K mg "_law_odd" (top 38) f12 d12) (D13:Df K mg "_law_spoilt" (top 39) f13 d13) (D14:Df K mg "two_halves" (top 1) f14 d14) (D15:Df K mg "stretches" (top 2) f15 d15) (D16:Df K mg "is_whole" (top 4) f16 d16) (D17:Df K mg "are_wholes" (top 5) f17 d17) (D18:Df K mg "is_entry" (top 16) f18 d18) (D19:Df K mg "around" (top 10) f19 d19) (D20:Df K mg "waits_around" (top 11) f20 d20) (D21:Df K mg "thrice" (top 8) f21 d21) (D22:Df K mg "cell_entry" (top 13) f22 d22) (D23:Df K mg "put_together" (top 7) f23 d23) (D24:Df K mg "raised" (top 12) f24 d24) (D25:Df K mg "entry_anew" (top 14) f25 d25) (D26:Df K mg "is_right" (top 17) f26 d26) (D27:Df K mg "holds_entries" (top 15) f27 d27) (D28:Df K mg "_law_every_one" (top 40) f28 d28) (D29:Df K mg "law" (top 41) f29 d29)
  (z0:A3 K mainGlobals "len"=some none) (z1:A3 K mainGlobals "max"=some none) (z2:A3 K mainGlobals "min"=some none) (z3:A3 K mainGlobals "all"=some none) (z4:A3 K mainGlobals "isinstance"=some none) (z5:A3 K mainGlobals "tuple"=some none) (z6:A3 K mainGlobals "list"=some none) (z7:A3 K mainGlobals "int"=some none) (z8:A3 K mainGlobals "bool"=some none) (z9:A3 K mainGlobals "range"=some none) (z10:A3 K mainGlobals "zip"=some none) (z11:A3 K mainGlobals "enumerate"=some none) (z12:A3 K mainGlobals "repr"=some none) (z13:A3 K mainGlobals "sorted"=some none) (z14:A3 K mainGlobals "sum"=some none) (z15:A3 K mainGlobals "dict"=some none) (e0:lmIn K "_law_settle" d7=true) :
  ∃fd:FuncData,(∀(s:Shared) (v:Value),BindsTo s fd ⟨[v],[]⟩ [("_law_script",v)])/\∀base:Heap,K.In base->base.Ns mainGlobals mg->FnOk l.prog w K mg base CX0 16 fa fd ["_law_script"] (conSp K cLaw):=by
 cases hfa.symm.trans D29.m
 have T:Txt mg:=⟨A2 X G z0,A2 X G z1,A2 X G z2,A2 X G z3,A2 X G z4,A2 X G z5,A2 X G z6,A2 X G z7,A2 X G z8,A2 X G z9,A2 X G z10,A2 X G z11,A2 X G z12,A2 X G z13,A2 X G z14,A2 X G z15⟩
 obtain⟨oc,od,kV,doc,pm,an,cdv,ct,osl,e,lk,hcd⟩:=D29.F.ex
 refine ⟨d29,λs v=>by subst e;exact .of_eq rfl,λb _ _=>?_⟩
 have C0:=calD l.prog w b D0 (ok_pen D0.F T) λ_ _ _ _ _ _=>len2 λ_ _=>rfl
 have C1:=calD l.prog w b D1 (ok_draw D1.F) λ_ _ _ _ _ _=>len2 λ_ _=>rfl
 have C2:=calD l.prog w b D2 (ok_number D2.F ⟨C1⟩) λ_ _ _ _ _ _=>len1 λ_=>rfl
 have C3:=calD l.prog w b D3 (ok_row D3.F T ⟨C1,C2⟩) λ_ _ _ _ _ _=>len2 λ_ _=>rfl
 have C4:=calD l.prog w b D4 (ok_lst_ D4.F T) λ_ _ _ _ _ _=>len1 λ_=>rfl
 have C5:=calD l.prog w b D5 (ok_lar D5.F T) λ_ _ _ _ _ _=>len2 λ_ _=>rfl
 have C6:=calD l.prog w b D6 (ok_lan D6.F T) λ_ _ _ _ _ _=>len2 λ_ _=>rfl
 have C7:=calD l.prog w b D7 (ok_se D7.F T ⟨C6⟩ (lm_of e0)) λ_ _ _ _ _ _=>len2 λ_ _=>rfl
 have C8:=calD l.prog w b D8 (ok_bh D8.F T ⟨C4,C1,C5,C7⟩) λ_ _ _ _ _ _=>len2 λ_ _=>rfl
 have C9:=calD l.prog w b D9 (ok_be D9.F T ⟨C1,C7⟩) λ_ _ _ _ _ _=>len3 λ_ _ _=>rfl
 have C10:=calD l.prog w b D10 (ok_or D10.F T ⟨C1,C8⟩) λ_ _ _ _ _ _=>len2 λ_ _=>rfl
 have C11:=calD l.prog w b D11 (ok_os D11.F T ⟨C1⟩) λ_ _ _ _ _ _=>len2 λ_ _=>rfl
 have C12:=calD l.prog w b D12 (ok_od D12.F T ⟨C1⟩) λ_ _ _ _ _ _=>len2 λ_ _=>rfl
 have C13:=calD l.prog w b D13 (ok_sp D13.F T ⟨C1,C9,C10,C11,C12⟩) λ_ _ _ _ _ _=>len3 λ_ _ _=>rfl
 have C14:=calD l.prog w b D14 (ok_two D14.F) λ_ _ _ _ _ _=>len1 λ_=>rfl
 have C15:=calD l.prog w b D15 (ok_str D15.F T ⟨C14⟩) λ_ _ _ _ _ _=>len1 λ_=>rfl
 have C16:=calD l.prog w b D16 (ok_whole D16.F T) λ_ _ _ _ _ _=>len1 λ_=>rfl
 have C17:=calD l.prog w b D17 (ok_areW D17.F T ⟨C16⟩) λ_ _ _ _ _ _=>len2 λ_ _=>rfl
 have C18:=calD l.prog w b D18 (ok_ie D18.F T ⟨C17⟩) λ_ _ _ _ _ _=>len2 λ_ _=>rfl
 have C19:=calD l.prog w b D19 (ok_ar D19.F T ⟨C14⟩) λ_ _ _ _ _ _=>len2 λ_ _=>rfl
 have C20:=calD l.prog w b D20 (ok_wa D20.F T ⟨C19⟩) λ_ _ _ _ _ _=>len3 λ_ _ _=>rfl
 have C21:=calD l.prog w b D21 (ok_th D21.F) λ_ _ _ _ _ _=>len1 λ_=>rfl
 have C22:=calD l.prog w b D22 (ok_ce D22.F ⟨C20,C21⟩) λ_ _ _ _ _ _=>len4 λ_ _ _ _=>rfl
 have C23:=calD l.prog w b D23 (ok_pt D23.F T) λ_ _ _ _ _ _=>len1 λ_=>rfl
 have C24:=calD l.prog w b D24 (ok_ra D24.F) λ_ _ _ _ _ _=>len3 λ_ _ _=>rfl
 have C25:=calD l.prog w b D25 (ok_ea D25.F ⟨C14,C23,C24⟩) λ_ _ _ _ _ _=>len2 λ_ _=>rfl
 have C26:=calD l.prog w b D26 (ok_ir D26.F T ⟨C22,C25⟩) λ_ _ _ _ _ _=>len3 λ_ _ _=>rfl
 have C27:=calD l.prog w b D27 (ok_he D27.F T ⟨C15,C18,C26⟩) λ_ _ _ _ _ _=>len2 λ_ _=>rfl
 have C28:=calD l.prog w b D28 (ok_eo D28.F T ⟨C27⟩) λ_ _ _ _ _ _=>len2 λ_ _=>rfl
 exact ok_law D29.F T ⟨C0,C3,C8,C13,C28,C27⟩
end R29
open PySem PySem.W PyProof.Rows
namespace PySem.W.Fast
def tw5258763316341266592:Unit:=()
def tw10698132187437953839:Unit:=()
def tw10680283364019593189:Unit:=()
def tw13853656742901821134:Unit:=()
def tw16836331806024627880:Unit:=()
def tw11440858246587504577:Unit:=()
def tw18147021175645658900:Unit:=()
def tw11843666343249147254:Unit:=()
def tw17818937041423928928:Unit:=()
def tw5487024586087186825:Unit:=()
def tw11289980611194941443:Unit:=()
def tw6537099436118241535:Unit:=()
def tw895965975583095263:Unit:=()
def tw15354998794621641125:Unit:=()
def tw1563969478571095434:Unit:=()
def tw7456712078076430153:Unit:=()
def tw7688462835363412545:Unit:=()
def tw14693453477481833882:Unit:=()
def tw13155770769063259420:Unit:=()
def tw16494361151176387008:Unit:=()
def tw11526806375499690246:Unit:=()
def tw3077374933524532160:Unit:=()
def tw9564803132900830072:Unit:=()
def tw8647170169477078050:Unit:=()
def tw4840468261079089333:Unit:=()
def tw11177524276820948706:Unit:=()
def tw9885601323377157933:Unit:=()
def tw1141993600370505896:Unit:=()
def tw3249427884906327629:Unit:=()
def tw8143218570121420076:Unit:=()
def tw15761602548279574550:Unit:=()
def tw5718123189265469973:Unit:=()
def tw2898400263302627404:Unit:=()
def tw8904499026991613052:Unit:=()
def tw5258657661008121368:Unit:=()
def tw16084260074035652242:Unit:=()
def tw6882808045414757316:Unit:=()
def tw9585863396462364985:Unit:=()
def tw5648038224074078434:Unit:=()
def tw14639777002402228412:Unit:=()
def tw16189790033281317775:Unit:=()
def tw11557689530525439913:Unit:=()
def tw6106025423204152203:Unit:=()
def tw1600977848653759145:Unit:=()
def tw13701502416844526909:Unit:=()
def tw9962457544517812675:Unit:=()
def tw8151630604388033024:Unit:=()
def tw16945670206640490713:Unit:=()
def tw9729207328806095078:Unit:=()
def tw4197877745944128274:Unit:=()
def tw15131432248927823275:Unit:=()
def tw7711498968657345021:Unit:=()
def tw7437123307693563585:Unit:=()
def tw15762610056709834948:Unit:=()
def tw10245905812877830093:Unit:=()
def tw4083168835280413874:Unit:=()
def tw1792557869410346243:Unit:=()
def tw8086190567041640515:Unit:=()
def tw1964358175836217509:Unit:=()
def tw11982092522846543010:Unit:=()
def tw8190330852560374953:Unit:=()
def tw17799136796460899679:Unit:=()
def tw6882331382408214223:Unit:=()
def tw5626811733165481414:Unit:=()
def tw7134103686563023411:Unit:=()
def tw8656449361975499896:Unit:=()
def tw6616042754685149076:Unit:=()
def tw10603680708998493276:Unit:=()
def tw3164308086781691224:Unit:=()
def tw7115217104476264596:Unit:=()
def tw2350014321051557617:Unit:=()
def tw3237064409854268156:Unit:=()
def tw14902142218223538084:Unit:=()
def tw9382215655641256400:Unit:=()
def tw3478635811910682479:Unit:=()
def tw12163712290654341031:Unit:=()
def tw10296597010639742416:Unit:=()
def tw9951408626608555946:Unit:=()
def tw5297009714771345491:Unit:=()
def tw14410923334032188108:Unit:=()
def tw8879147790292390295:Unit:=()
def tw10611183776801889051:Unit:=()
def tw7658538460655152717:Unit:=()
def tw2651009011688732442:Unit:=()
def tw15936586128008519299:Unit:=()
def tw12613648923106722613:Unit:=()
def tw2477879713830108415:Unit:=()
def tw10693784077867139053:Unit:=()
def tw9014503139901525590:Unit:=()
def tw17278919856204679561:Unit:=()
def tw18330743530628369498:Unit:=()
def tw13384067841785042824:Unit:=()
def tw13220347376246022535:Unit:=()
def tw3530042918823923611:Unit:=()
def tw13105488820135699061:Unit:=()
def tw12333667044292071657:Unit:=()
def tw16944812928265423385:Unit:=()
def tw7760267775538172534:Unit:=()
def tw4240504397940140380:Unit:=()
def tw10434116984965555925:Unit:=()
def tw6370952210041530496:Unit:=()
def tw3109993437684530526:Unit:=()
def tw4790608405132590846:Unit:=()
def tw3648392918428985303:Unit:=()
def tw14228023169286113392:Unit:=()
def tw4220338468254495710:Unit:=()
def tw4983534600879592247:Unit:=()
def tw5617047858973212393:Unit:=()
def tw10915257465032518995:Unit:=()
def tw18049453849079620989:Unit:=()
def tw17119609814820310824:Unit:=()
def tw5800408069667142164:Unit:=()
def tw2287380414127219820:Unit:=()
def tw5201918129748162547:Unit:=()
def tw11656433421040700227:Unit:=()
def tw8773341069678061148:Unit:=()
def tw2949716229721130965:Unit:=()
def tw17051048181067611349:Unit:=()
def tw11603605070907312043:Unit:=()
def tw5288735115449129204:Unit:=()
def tw5485479681944225498:Unit:=()
def tw18003491230209934576:Unit:=()
def tw5450036324826351507:Unit:=()
def tw2159631323932094864:Unit:=()
def tw1970661504706188051:Unit:=()
def tw11630902902593097207:Unit:=()
def tw2666715954100944285:Unit:=()
def tw15832656363643390487:Unit:=()
def tw5631690651571827132:Unit:=()
def tw17148795697379799305:Unit:=()
def tw10135121430654883496:Unit:=()
def tw10733221326719162310:Unit:=()
def tw3024766342900388144:Unit:=()
def tw17624774749124060552:Unit:=()
def tw12908989324693402205:Unit:=()
def tw5705568150659181330:Unit:=()
def tw15651813355354498651:Unit:=()
def tw1332190830134530348:Unit:=()
def tw16216419223524015149:Unit:=()
def tw2759174848519538790:Unit:=()
def tw12005746810163618573:Unit:=()
def tw10828910989997841776:Unit:=()
def tw6941171361924185210:Unit:=()
def tw3623535243709272654:Unit:=()
def tw5406414729489467572:Unit:=()
def tw166461993114752823:Unit:=()
def tw2412989013972755407:Unit:=()
end PySem.W.Fast
set_option maxRecDepth 100000 in
set_option maxHeartbeats 0 in
theorem PySem.Challenge.cw_boxsums_k29_entries_spoilt_holds : PySem.Challenge.rw_boxsums_k29_entries_spoilt.Holds := by
 w_on;o_law;k_head;(case hw=>w_witness2)
 k_fill
 refine L3.walkT (l:=PySem.Challenge.rw_boxsums_k29_entries_spoilt) (k:=16) (x:="_law_script") R29.cLaw_at ⟨rfl,by decide,by decide,rfl⟩ rfl rfl (λw h Y=>⟨PySem.W.km_in_of Y,PySem.W.km_tabs_of Y⟩) (λw=>by kernel_rfl) ?F
 case F =>
  intro w mg fa h KX G hmg
  refine' R29.all_mk KX G hmg (R29.df_mk KX G ?a0 ?l0 ?c0 ?k0) (R29.df_mk KX G ?a1 ?l1 ?c1 ?k1) (R29.df_mk KX G ?a2 ?l2 ?c2 ?k2) (R29.df_mk KX G ?a3 ?l3 ?c3 ?k3) (R29.df_mk KX G ?a4 ?l4 ?c4 ?k4) (R29.df_mk KX G ?a5 ?l5 ?c5 ?k5) (R29.df_mk KX G ?a6 ?l6 ?c6 ?k6) (R29.df_mk KX G ?a7 ?l7 ?c7 ?k7) (R29.df_mk KX G ?a8 ?l8 ?c8 ?k8) (R29.df_mk KX G ?a9 ?l9 ?c9 ?k9) (R29.df_mk KX G ?a10 ?l10 ?c10 ?k10) (R29.df_mk KX G ?a11 ?l11 ?c11 ?k11) (R29.df_mk KX G ?a12 ?l12 ?c12 ?k12) (R29.df_mk KX G ?a13 ?l13 ?c13 ?k13) (R29.df_mk KX G ?a14 ?l14 ?c14 ?k14) (R29.df_mk KX G ?a15 ?l15 ?c15 ?k15) (R29.df_mk KX G ?a16 ?l16 ?c16 ?k16) (R29.df_mk KX G ?a17 ?l17 ?c17 ?k17) (R29.df_mk KX G ?a18 ?l18 ?c18 ?k18) (R29.df_mk KX G ?a19 ?l19 ?c19 ?k19) (R29.df_mk KX G ?a20 ?l20 ?c20 ?k20) (R29.df_mk KX G ?a21 ?l21 ?c21 ?k21) (R29.df_mk KX G ?a22 ?l22 ?c22 ?k22) (R29.df_mk KX G ?a23 ?l23 ?c23 ?k23) (R29.df_mk KX G ?a24 ?l24 ?c24 ?k24) (R29.df_mk KX G ?a25 ?l25 ?c25 ?k25) (R29.df_mk KX G ?a26 ?l26 ?c26 ?k26) (R29.df_mk KX G ?a27 ?l27 ?c27 ?k27) (R29.df_mk KX G ?a28 ?l28 ?c28 ?k28) (R29.df_mk KX G ?a29 ?l29 ?c29 ?k29) ?z0 ?z1 ?z2 ?z3 ?z4 ?z5 ?z6 ?z7 ?z8 ?z9 ?z10 ?z11 ?z12 ?z13 ?z14 ?z15 ?e0
  case a0|l0|c0|k0|a1|l1|c1|k1|a2|l2|c2|k2|a3|l3|c3|k3|a4|l4|c4|k4|a5|l5|c5|k5|a6|l6|c6|k6|a7|l7|c7|k7|a8|l8|c8|k8|a9|l9|c9|k9|a10|l10|c10|k10|a11|l11|c11|k11|a12|l12|c12|k12|a13|l13|c13|k13|a14|l14|c14|k14|a15|l15|c15|k15|a16|l16|c16|k16|a17|l17|c17|k17|a18|l18|c18|k18|a19|l19|c19|k19|a20|l20|c20|k20|a21|l21|c21|k21|a22|l22|c22|k22|a23|l23|c23|k23|a24|l24|c24|k24|a25|l25|c25|k25|a26|l26|c26|k26|a27|l27|c27|k27|a28|l28|c28|k28|a29|l29|c29|k29|z0|z1|z2|z3|z4|z5|z6|z7|z8|z9|z10|z11|z12|z13|z14|z15=>k_is
  case e0=>kernel_rfl
