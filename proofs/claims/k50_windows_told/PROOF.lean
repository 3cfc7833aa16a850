import PyProof.Rows.All
import Wide.All
import OpenK.AllK
import Wide.FinOn
import Lean
import PyProof.EqAt
import PyProof.EqKinds
import PyProof.TupleCall
import PyProof.Rows.SortRuns
import PySem.Challenge.RW_boxsums_k50_windows_told
set_option Elab.async false
set_option linter.all false
set_option maxRecDepth 100000
set_option maxHeartbeats 4000000
open PySem.Heap renaming get?_push_of_some → g0,lt_size → v0,get?_push_size → G0,size_push → B2,get?_update_other → J3,SameBut → u4,get?_update_self → X4,get?_push_ne → X5,size_update → E7,get?_update_ne → i8
open PySem.W renaming Frag → i0,mg_of → q0,nsIn → B0,keepIn → O0,codeIn → Q0,fnOf → U0,mg_none_of → L1,hideAll_get → A5,nsMap_none_of_in → J5,findIn → U5,hideAll_none → D6,hideAll → J6,of_hideAll → T6,isNs_of_in → V6,methodObj → j7,cellsFrom_some → M7,funFrames_hide → N7,OpenLaw → R7,callWith_K → p8,specialIn → G8,instObj → M8
open PySem.PyData renaming int → j0,tuple → N1,list → M4,bool → K8
open List renaming length_map → n0,mem_cons_of_mem → u0,mem_cons_self → K0,getElem?_eq_getElem → L0,size_toArray → N0,map_map → P0,length_append → R0,getElem?_set_ne → S0,mem_map → T0,getElem?_eq_some_iff → X0,mem_cons → Y0,replicate → Z0,getElem?_append_right → B1,mem_append_right → D1,getElem?_map → E1,getD_eq_getElem?_getD → G1,Nodup → O1,getElem?_append_left → T1,length_singleton → U1,range → V1,mem_singleton → W1,map_cons → X1,append_assoc → Z1,mem_of_getElem? → E2,pairwise_iff_getElem → J2,length_zip → K2,map_congr_left → S2,append_nil → T2,length_take → U2,extract_eq_take_drop → W2,drop_of_length_le → X2,getElem_of_mem → Y2,mem_append → u3,find?_cons → A3,map_append → B3,length_cons → E3,lookup_cons → G3,drop_eq_getElem_cons → K3,flatMap_cons → M3,length → Q3,length_drop → T3,getElem_mem → U3,take_of_length_le → W3,replicate_succ → X3,mem_map_of_mem → Y3,getElem?_eq_none_iff → i4,take_append_drop → j4,pairwise_reverse → m4,getElem?_cons_succ → v4,cons_append → D4,length_set → L4,flatten_cons → O4,contains_cons → V4,reverse_cons → Z4,getElem?_set → d5,mem_range → i5,mem_iff_getElem → j5,pairwise_append → m5,all_eq_true → q5,mem_flatMap → u5,filterMap_cons → B5,length_pos_iff → D5,map → G5,nodup_cons → L5,length_nil → M5,forIn_cons → N5,mem_filterMap → P5,pairwise_cons → S5,pairwise_singleton → T5,forIn_nil → V5,drop_sublist → W5,pairwise_map → Y5,getElem?_set_self → Z5,mem_iff_getElem? → j6,perm_append_comm → m6,countP_cons → t6,not_mem_nil → u6,any_cons → w6,mem_append_left → E6,getElem_toArray → G6,of_mem_zip → K6,length_reverse → M6,map_nil → O6,zip_cons_cons → U6,exists_cons_of_ne_nil → Y6,getElem?_zip_eq_some → Z6,lookup → i7,getElem_drop → m7,getElem_take → o7,reverse_perm → t7,getElem?_take_of_lt → y7,mem_reverse → B7,getElem_zip → D7,getElem?_replicate → J7,mem_filter → O7,foldl_cons → P7,nil_append → Q7,drop_drop → W7,mem_of_mem_take → Z7,getElem?_drop → t8,find?_eq_none → u8,forIn_toArray → v8,map_replicate → w8,map_id → L8,foldl → N8
open Nat renaming le_refl → A0,lt_of_lt_of_le → J0,ne_of_lt → V0,le_trans → Q1,lt_irrefl → V2,ne_of_gt → D3,zero_le → S3,le_add_right → E4,le_of_lt → N4,le_of_succ_le → P4,add_sub_cancel_left → T4,min_eq_left → L6,lt_succ_of_lt → u7,le_of_not_lt → A7,le_mul_of_pos_right → L7,one_mul → U7,add_le_add_left → h8,mul_assoc → m8,succ_mul → x8,zero_add → y8,lt_or_ge → A8,min_self → D8,le_succ → J8
open Array renaming length_toList → M0,toList_append → D2,getElem_toList → P2,getElem?_toList → Z2,toList_extract → V3,perm_iff_toList_perm → G4,toList_reverse → o5,size_extract → Q5,toList_map → p6,getElem?_eq_getElem → d7,toList_push → p7
open Bool renaming false_ne_true → W0,and_eq_true → O2,false_eq_true → Q2,and_true → W4,beq_eq_decide_eq → Y4,eq_iff_iff → K5,and_false → S6,false_and → V7,not_true → j8
open PySem.Builtin.SmallTypes renaming nextOf → A1,ownedTupleIsFree → K1,ownedTupleHandOut → E5
open Option.some renaming inj → S1
open PySem.Value renaming ref → Y1,none → O5,builtin → A6,int → Q6,notImplemented → Y7,bool → n8,type → o8
open Ne renaming symm → G2
open PyProof.Rows renaming callWith_type1 → m3,slot_tuple_getitem → Z3
open Int renaming mul_le_mul_of_nonneg_left → N3,eq_ofNat_of_zero_le → A4,toNat_natCast → Q4,mul_le_mul_of_nonneg_right → U4,le_refl → B6,mul_one → h7,mul_assoc → v7,le_ediv_of_mul_le → S7,one_mul → T7,mul_le_mul → X7,mul_ediv_self_le → d8,le_trans → B8
open PySem.Builtin.List renaming listTooLong → O3
open PySem.Obj renaming mapSeq → P3
open Option renaming getD_some → o4,map_eq_some_iff → B4,map_some → K4,isSome_some → r8
open PySem.Builtin.Slice renaming slicePlaces → J4,sliceAdjust → v5,sliceApplied → W6
open PySem.Builtin.Tuple renaming tupleExact → S4,tupleCompareSizes → i6,tupleItemsOf → X6
open PySem.Heap.SameBut renaming update → N6
open PySem.Builtin.Builtins renaming bindParams → P6
open PySem.Builtin.Range renaming rangeSize → G7
open PySem.Builtin.Dict renaming updateFrom → K7
open Nat.succ renaming inj → E8
namespace L2
open PySem PySem.Spec PyProof.Rows
noncomputable abbrev Key:=Sum Int Str
noncomputable def keyIs:Key->Value->Bool
 | .inl k,v=>Value.isInt k v
 | .inr x,v=>Value.isStrOf x v
noncomputable def keyH(w:World):Key->Int
 | .inl k=>hashInt k
 | .inr x=>hashStr w x
theorem keyIs_shape:∀{k:Key}{v:Value},keyIs k v=true->(∃i t,k=Sum.inl i/\v=Q6 i t)\/(∃x t,k=Sum.inr x/\v=Value.str x t)
 | .inl i,v,h=>by
  obtain⟨t,e⟩:=Value.isInt_shape (k:=i) (v:=v) h
  exact .inl ⟨i,t,rfl,e⟩
 | .inr x,v,h=>by
  obtain⟨t,e⟩:=Value.isStrOf_shape (x:=x) (v:=v) h
  exact .inr ⟨x,t,rfl,e⟩
theorem keyIs_int(i:Int)(t:Tok):keyIs (.inl i) (.int i t)=true:=by simp[keyIs,Value.isInt]
theorem keyIs_str(x:Str)(t:Tok):keyIs (.inr x) (.str x t)=true:=by simp[keyIs,Value.isStrOf]
theorem key_ll(a b:Int):decide ((Sum.inl a:Key)=Sum.inl b)=(a==b):=by
 by_cases e:a=b
 ·subst e;simp
 ·have h:¬(Sum.inl a:Key)=Sum.inl b:=λq=>e (Sum.inl.inj q)
  rw[decide_eq_false h]
  exact (beq_eq_false_iff_ne.mpr e).symm
theorem key_rr(a b:Str):decide ((Sum.inr a:Key)=Sum.inr b)=decide (a=b):=by
 by_cases e:a=b
 ·subst e;simp
 ·have h:¬(Sum.inr a:Key)=Sum.inr b:=λq=>e (Sum.inr.inj q)
  rw[decide_eq_false h,decide_eq_false e]
theorem key_lr(a:Int)(b:Str):decide ((Sum.inl a:Key)=Sum.inr b)=false:=decide_eq_false (λq=>nomatch q)
theorem key_rl(a:Str)(b:Int):decide ((Sum.inr a:Key)=Sum.inl b)=false:=decide_eq_false (λq=>nomatch q)
noncomputable def mixKind(prog:Program)(w:World):PySem.KeyKind prog w Key where
 is:=keyIs
 hash:=keyH w
 inj:=λv a b ha hb=>by
  rcases keyIs_shape ha with⟨i,t,rfl,rfl⟩|⟨x,t,rfl,rfl⟩
  ·rcases keyIs_shape hb with⟨j,u,rfl,e⟩|⟨y,u,rfl,e⟩
   ·injection e with e1 _;rw[e1]
   ·exact nomatch e
  ·rcases keyIs_shape hb with⟨j,u,rfl,e⟩|⟨y,u,rfl,e⟩
   ·exact nomatch e
   ·injection e with e1 _;rw[e1]
 byValue:=λk v h=>by
  rcases keyIs_shape h with⟨i,t,rfl,rfl⟩|⟨x,t,rfl,rfl⟩<;>rfl
 pyHash:=λhv h=>by
  rcases keyIs_shape hv with⟨i,t,rfl,rfl⟩|⟨x,t,rfl,rfl⟩
  ·exact wpAny_pyHash_int h
  ·exact wpAny_pyHash_str h
 eqBool:=λhu hv h=>by
  rcases keyIs_shape hu with⟨i,t,rfl,rfl⟩|⟨x,t,rfl,rfl⟩
  ·rcases keyIs_shape hv with⟨j,u,rfl,rfl⟩|⟨y,u,rfl,rfl⟩
   ·rw[key_ll]at h;exact wpAny_eqBool_int h
   ·rw[key_lr]at h;exact SeqAt.EqAt.int_str i t y u _ _ _ _ h
  ·rcases keyIs_shape hv with⟨j,u,rfl,rfl⟩|⟨y,u,rfl,rfl⟩
   ·rw[key_rl]at h;exact SeqAt.EqAt.str_int x t j u _ _ _ _ h
   ·rw[key_rr]at h;exact wpAny_eqBool_str h
 «strs»:=λk x t v h=>by
  rcases keyIs_shape h with⟨i,u,rfl,e⟩|⟨y,u,rfl,e⟩
  ·exact nomatch e
  ·injection e with e1 _
   subst e1
   cases v<;>rfl
theorem mixKind_int(prog:Program)(w:World)(i:Int)(t:Tok):(mixKind prog w).is (.inl i) (.int i t)=true:=keyIs_int i t
theorem mixKind_str(prog:Program)(w:World)(x:Str)(t:Tok):(mixKind prog w).is (.inr x) (.str x t)=true:=keyIs_str x t
inductive V where
 | non|bl (b:Bool)|int (i:Int)|str (x:Str)|byt (b:Array UInt8)|flt (b:UInt64)|ref (a:Addr)|ty (n:String)
 deriving DecidableEq
noncomputable def RelV:V->Value->Prop
 | .non,u=>u=O5
 | .bl b,u=>u=n8 b
 | .int i,u=>∃t,u=Q6 i t
 | .str x,u=>∃t,u=Value.str x t
 | .byt b,u=>∃t,u=Value.bytes b t
 | .flt b,u=>∃t,u=Value.float b t
 | .ref a,u=>u=Y1 a
 | .ty n,u=>u=o8 n
noncomputable abbrev Vals:List V->List Value->Prop:=Paired RelV
theorem Vals.length{xs:List V}{us:List Value}(r:Vals xs us):xs.length=us.length:=Paired.length r
theorem Vals.get:∀{xs:List V}{us:List Value}{i:Nat}{x:V},Vals xs us->xs[i]?=some x->∃u,us[i]?=some u/\RelV x u
 | _,_,_,_,.nil,e=>by simp at e
 | _,_,0,_,.cons r _,e=>by simp at e;subst e;exact ⟨_,rfl,r⟩
 | _,_,i+1,x,.cons _ t,e=>by
  obtain⟨u,h1,h2⟩:=Vals.get (i:=i) (x:=x) t (by simpa using e)
  exact ⟨u,by simpa using h1,h2⟩
theorem Vals.append:∀{xs ys:List V}{us ws:List Value},Vals xs us->Vals ys ws->Vals (xs++ys) (us++ws)
 | _,_,_,_,.nil,s=>s
 | _,_,_,_,.cons r t,s=>.cons r (Vals.append t s)
theorem Vals.take:∀{xs:List V}{us:List Value} (n:Nat),Vals xs us->Vals (xs.take n) (us.take n)
 | _,_,0,_=>.nil
 | _,_,_+1,.nil=>.nil
 | _,_,n+1,.cons r t=>.cons r (Vals.take n t)
theorem Vals.drop:∀{xs:List V}{us:List Value} (n:Nat),Vals xs us->Vals (xs.drop n) (us.drop n)
 | _,_,0,r=>r
 | _,_,_+1,.nil=>.nil
 | _,_,n+1,.cons _ t=>Vals.drop n t
theorem Vals.none_of:∀{xs:List V}{us:List Value}{i:Nat},Vals xs us->xs[i]?=none->us[i]?=none:=λ{xs us i} r e=>by
 have h1:=r.length
 have h2:xs.length<=i:=i4.mp e
 exact i4.mpr (by omega)
noncomputable def RelO:Option V->Option Value->Prop
 | some v,some u=>RelV v u
 | none,none=>True
 | _,_=>False
noncomputable def KV{κ:Type}:List (κ×V)->List (κ×Value)->Prop:=Paired λ(p:κ×V) (q:κ×Value)=>p.1=q.1/\RelV p.2 q.2
noncomputable def kV:Key->V
 | .inl i=>.int i
 | .inr x=>.str x
inductive HO where
 | lst (xs:List V)
 | tup (xs:List V)
 | dK (kvs:List (Key×V))|dT (kvs:List (List Key×V))
 | set (S:Int->Bool) (n:Nat)
 | ins (C dx:Addr) (fs:List (Str×V))
 | own (x:Addr)
 | xd (fs:List (Str×V))
 | met (f x:Addr)
 | rng (lo hi:Int)
 | frz (o:Obj) (u:HO)
 | tbl (ps:Array Value)
 | ext (φ:Heap->Prop)
noncomputable abbrev Hp:=Addr->Option HO
noncomputable def upd(H:Hp)(a:Addr)(o:HO):Hp:=λb=>if b=a then some o else H b
theorem upd_same{H:Hp}{a:Addr}{o:HO}:upd H a o a=some o:=by unfold upd;rw[if_pos rfl]
theorem upd_ne{H:Hp}{a b:Addr}{o:HO}(h:b≠a):upd H a o b=H b:=by unfold upd;rw[if_neg h]
theorem upd_upd{H:Hp}{a:Addr}{o u:HO}:upd (upd H a o) a u=upd H a u:=by
 funext b;unfold upd;split<;>rfl
theorem ne_of{H:Hp}{a b:Addr}{o u:HO}(h:H a=some o)(h':H b=some u)(d:o≠u):a≠b:=by
 intro e;subst e;rw[h]at h';exact d (S1 h')
theorem ne_of_none{H:Hp}{a b:Addr}{o:HO}(h:H a=some o)(h':H b=none):a≠b:=by
 intro e;subst e;rw[h]at h';cases h'
noncomputable def IsTupD(h:Heap)(a:Addr)(items:Array Value):Prop:=∃o,h.get? a=some o/\o.cls=.type "tuple"/\∃n,o.data=.seq items n/\o.dict=none
theorem IsTupD.t{h:Heap}{a:Addr}{items:Array Value}:IsTupD h a items->IsTup h a items:=λ⟨o,e,c,n,d,_⟩=>⟨o,e,c,n,d⟩
theorem IsTupD.new(h:Heap)(items:Array Value):IsTupD (h.push { cls:=.type "tuple",data:=.seq items }) h.objs.size items:=⟨_,G0 _ rfl,rfl,_,rfl,rfl⟩
section
variable (P:Program)(w:World)
noncomputable def ObjOk(H:Hp)(h:Heap)(a:Addr):HO->Prop
 | .lst xs=>xs.length<=sizeLine/\∃(its:List Value) (n:Nat),Vals xs its/\h.get? a=some { cls:=.type "list",data:=.seq its.toArray n }
 | .tup xs=>xs.length<=sizeLine/\∃its:List Value,Vals xs its/\IsTupD h a its.toArray
 | .dK kvs=>kvs.length<=sizeLine/\(a==sysModules)=false/\∃vs,KV kvs vs/\h.DictOf (mixKind P w) a vs
 | .dT kvs=>kvs.length<=sizeLine/\(a==sysModules)=false/\∃xs:List (List Key×Addr×Value),
   Paired (λ(p:List Key×V) (q:List Key×Addr×Value)=>p.1=q.1/\H q.2.1=some (.tup (p.1.map kV))/\RelV p.2 q.2.2) kvs xs /\
   ∃o es ep,h.get? a=some o/\o.ExactDict/\o.data=.dict es ep/\es.toList=xs.map (entryOfKey (tupleKind (mixKind P w)))/\(xs.map (·.1)).Nodup
 | .set S n=>h.SetOf (intKind P w) a S n
 | .ins C dx fs=>H dx=some (.own a)/\fs.length<=1000/\dx≠a/\h.get? a=some (M8 C dx) /\
   ∃mA,h.Ns1 dx mA/\(∀f,RelO (fs.lookup f) (mA f))/\PySem.Within mA (fs.map (·.1))
 | .own _=>∃o,h.get? a=some o
 | .xd fs=>∃mA,h.Ns1 a mA/\∀f,RelO (fs.lookup f) (mA f)
 | .rng lo hi=>∃t u v,h.get? a=some { cls:=.type "range",data:=.fields #[.int lo t,.int hi u,.int 1 v] }
 | .frz o u=>h.get? a=some o/\ObjOk H h a u
 | .tbl ps=>h.get? a=some { cls:=.none,data:=.fields ps }
 | .met f x=>h.get? a=some (j7 (.ref f) (.ref x))
 | .ext φ=>φ h/\(∃o,h.get? a=some o)/\∀h1 h2:Heap,φ h1->(∀o,h1.get? a=some o->h2.get? a=some o)->φ h2
noncomputable def HOk(H:Hp)(h:Heap):Prop:=∀a o,H a=some o->ObjOk P w H h a o
end
section
variable {P:Program}{w:World}{H H':Hp}{h h':Heap}{a:Addr}{o:HO}
theorem ObjOk.lt(x:ObjOk P w H h a o):a < h.objs.size:=by
 cases o with
 | lst xs=>obtain⟨_,_,_,_,e⟩:=x;exact v0 e
 | tup xs=>obtain⟨_,_,_,p⟩:=x;exact p.t.lt
 | dK kvs=>obtain⟨_,_,_,_,o,_,_,e,_⟩:=x;exact v0 e
 | dT kvs=>obtain⟨_,_,_,_,o,_,_,e,_⟩:=x;exact v0 e
 | set S n=>obtain⟨o,_,_,_,e,_⟩:=x;exact v0 e
 | ins C dx fs=>obtain⟨_,_,_,e,_⟩:=x;exact v0 e
 | own y=>obtain⟨_,e⟩:=x;exact v0 e
 | xd fs=>obtain⟨_,⟨_,_,_,e,_⟩,_⟩:=x;exact v0 e
 | rng lo hi=>obtain⟨_,_,_,e⟩:=x;exact v0 e
 | frz ob u=>obtain⟨e,_⟩:=x;exact v0 e
 | tbl ps=>exact v0 (show h.get? a=some _ from x)
 | met f y=>exact v0 (show h.get? a=some _ from x)
 | ext φ=>obtain⟨_,⟨_,e⟩,_⟩:=x;exact v0 e
theorem Paired.mapP{α β:Type}{F G:α->β->Prop}:∀{l₁:List α}{l₂:List β},Paired F l₁ l₂->(∀a b,F a b->G a b)->Paired G l₁ l₂
 | _,_,.nil,_=>.nil
 | _,_,.cons r t,f=>.cons (f _ _ r) (Paired.mapP t f)
theorem ObjOk.stay(x:ObjOk P w H h a o)(k:∀b u,(b=a\/H b=some (.own a))->h.get? b=some u->h'.get? b=some u)
  (ho:∀b,H b=some (.own a)->H' b=some (.own a)) (ht:∀b xs,H b=some (.tup xs)->H' b=some (.tup xs)):ObjOk P w H' h' a o:=by
 induction o with
 | lst xs=>obtain⟨z,its,n,r,e⟩:=x;exact ⟨z,its,n,r,k _ _ (.inl rfl) e⟩
 | tup xs=>obtain⟨z,its,r,ob,e,c⟩:=x;exact ⟨z,its,r,ob,k _ _ (.inl rfl) e,c⟩
 | dK kvs=>obtain⟨z,y,vs,r,ob,es,ep,e,c⟩:=x;exact ⟨z,y,vs,r,ob,es,ep,k _ _ (.inl rfl) e,c⟩
 | dT kvs =>
  obtain⟨z,y,xs,r,ob,es,ep,e,c⟩:=x
  exact ⟨z,y,xs,Paired.mapP r λp q z=>⟨z.1,ht _ _ z.2.1,z.2.2⟩,ob,es,ep,k _ _ (.inl rfl) e,c⟩
 | set S n=>obtain⟨ob,es,ep,t,e,c⟩:=x;exact ⟨ob,es,ep,t,k _ _ (.inl rfl) e,c⟩
 | ins C dx fs =>
  obtain⟨d,z,ne,e,mA,⟨od,es,ep,e2,c⟩,r⟩:=x
  exact ⟨ho _ d,z,ne,k _ _ (.inl rfl) e,mA,⟨od,es,ep,k _ _ (.inr d) e2,c⟩,r⟩
 | own y=>obtain⟨ob,e⟩:=x;exact ⟨ob,k _ _ (.inl rfl) e⟩
 | xd fs=>obtain⟨mA,⟨od,es,ep,e,c⟩,r⟩:=x;exact ⟨mA,⟨od,es,ep,k _ _ (.inl rfl) e,c⟩,r⟩
 | rng lo hi=>obtain⟨t,u,v,e⟩:=x;exact ⟨t,u,v,k _ _ (.inl rfl) e⟩
 | frz ob u ih=>obtain⟨e,q⟩:=x;exact ⟨k _ _ (.inl rfl) e,ih q⟩
 | tbl ps =>
  have e:h.get? a=some { cls:=.none,data:=.fields ps }:=x
  show h'.get? a=some { cls:=.none,data:=.fields ps }
  exact k a _ (.inl rfl) e
 | met f y =>
  have e:h.get? a=some (j7 (.ref f) (.ref y)):=x
  show h'.get? a=some (j7 (.ref f) (.ref y))
  exact k a _ (.inl rfl) e
 | ext φ=>obtain⟨p,⟨o,e⟩,st⟩:=x;exact ⟨st _ _ p λo q=>k _ _ (.inl rfl) q,⟨o,k _ _ (.inl rfl) e⟩,st⟩
theorem HOk.lt(x:HOk P w H h)(e:H a=some o):a < h.objs.size:=(x a o e).lt
theorem HOk.fresh(x:HOk P w H h)(e:h.objs.size<=a):H a=none:=by
 cases q:H a with
 | none=>rfl
 | some u=>exact absurd (J0 (x.lt q) e) (V2 _)
theorem HOk.kept(x:HOk P w H h)(k:∀b u,h.get? b=some u->h'.get? b=some u):HOk P w H h':=λa o e =>
 (x a o e).stay (λb u _ q=>k b u q) (λ_ q=>q) λ_ _ q=>q
theorem HOk.laid(x:HOk P w H h)(k:∀b u,h.get? b=some u->h'.get? b=some u)(hp:h.objs.size<=a)(new:ObjOk P w (upd H a o) h' a o):HOk P w (upd H a o) h':=λb u e=>by
 have hn:=x.fresh hp
 by_cases hb:b=a
 ·subst hb;rw[upd_same]at e;cases e;exact new
 ·rw[upd_ne hb]at e
  exact (x b u e).stay (λc v _ q=>k c v q) (λc q=>by rw[upd_ne (ne_of_none q hn)];exact q) λc xs q=>by rw[upd_ne (ne_of_none q hn)];exact q
end
noncomputable def Rd(H:Hp)(a:Addr)(u:HO):Prop:=H a=some u\/∃o,H a=some (.frz o u)
theorem Rd.ok{P:Program}{w:World}{H:Hp}{h:Heap}{a:Addr}{u:HO}(r:Rd H a u)(x:HOk P w H h):ObjOk P w H h a u:=by
 rcases r with r|⟨o,r⟩
 ·exact x a u r
 ·obtain⟨_,q⟩:=x a _ r
  exact q
noncomputable def Mut:Option HO->Prop
 | some (.lst _)=>True
 | some (.dK _)=>True
 | some (.dT _)=>True
 | some (.set _ _)=>True
 | some (.ins _ _ _)=>True
 | some (.ext _)=>True
 | _=>False
section
variable {P:Program}{w:World}{H:Hp}{h h':Heap}{x e:Addr}{o':HO}
theorem HOk.write(ok:HOk P w H h)(mu:Mut (H x))(he:e=x\/H e=some (.own x))(k:∀b u,b≠e->h.get? b=some u->h'.get? b=some u)(heo:∃u,h'.get? e=some u)
  (new:ObjOk P w (upd H x o') h' x o'):HOk P w (upd H x o') h':=λb u q=>by
 have nown:∀c y,H c=some (.own y)->c≠x:=λc y r z=>by subst z;rw[r]at mu;exact mu
 have ntup:∀c xs,H c=some (.tup xs)->c≠x:=λc xs r z=>by subst z;rw[r]at mu;exact mu
 by_cases hb:b=x
 ·subst hb;rw[upd_same]at q;cases q;exact new
 ·rw[upd_ne hb]at q
  by_cases hbe:b=e
  ·have q':H b=some (.own x):=by
    rcases he with z|z
    ·exact absurd (hbe.trans z) hb
    ·rw[hbe];exact z
   rw[q]at q';cases q'
   obtain⟨v,hv⟩:=heo
   exact ⟨v,by rw[hbe];exact hv⟩
  ·refine (ok b u q).stay (λc v hc r=>k c v ?_ r) (λc r=>by rw[upd_ne (nown c b r)];exact r) λc xs r=>by rw[upd_ne (ntup c xs r)];exact r
   rcases hc with rfl|hc
   ·exact hbe
   ·rintro rfl
    rcases he with z|z
    ·exact nown c b hc z
    ·rw[hc]at z;cases z;exact hb rfl
end
structure Un(fs ex:List Addr)(H H':Hp)(h h':Heap):Prop where
 keep:∀b o,h.get? b=some o->H b=none->b∉fs->b∉ex->h'.get? b=some o
 slot:∀b o,h.get? b=some o->H b=none->b∈fs->b∉ex->∃sl,h'.get? b=some { o with slots:=sl }
 free:∀b o,h.get? b=some o->H b=none->b∉ex->H' b=none
 there:∀b o,h.get? b=some o->b∉ex->∃o',h'.get? b=some o'
 tups:∀b xs,H b=some (.tup xs)->H' b=some (.tup xs)
 frzs:∀b o u,H b=some (.frz o u)->H' b=some (.frz o u)
 tbls:∀b ps,H b=some (.tbl ps)->∃more,H' b=some (.tbl (ps++more))
section
variable {fs fs' ex ex':List Addr}{H H1 H2:Hp}{h h1 h2 h':Heap}{a x e:Addr}{o:HO}
theorem Un.any(u:Un fs ex H H1 h h1){b:Addr}{ob:Obj}(q:h.get? b=some ob)(n:H b=none)(hx:b∉ex):∃sl,h1.get? b=some { ob with slots:=sl }:=by
 by_cases hb:b∈fs
 ·exact u.slot b ob q n hb hx
 ·exact ⟨ob.slots,u.keep b ob q n hb hx⟩
theorem Un.kept(k:∀b u,h.get? b=some u->h'.get? b=some u):Un fs ex H H h h' :=
 ⟨λb ob q _ _ _=>k b ob q,λb ob q _ _ _=>⟨ob.slots,k b ob q⟩,λ_ _ _ n _=>n,λb ob q _=>⟨ob,k b ob q⟩,λ_ _ q=>q,λ_ _ _ q=>q,λ_ ps q=>⟨#[],by rw[q];simp⟩⟩
theorem Un.refl:Un fs ex H H h h:=Un.kept λ_ _ q=>q
theorem Un.laid(k:∀b u,h.get? b=some u->h'.get? b=some u)(hp:h.objs.size<=a)(hn:H a=none):Un fs ex H (upd H a o) h h' where
 keep:=λb u q _ _ _=>k b u q
 slot:=λb u q _ _ _=>⟨u.slots,k b u q⟩
 free:=λb u q n _=>by rw[upd_ne (V0 (J0 (v0 q) hp))];exact n
 there:=λb u q _=>⟨u,k b u q⟩
 tups:=λb xs q=>by rw[upd_ne (ne_of_none q hn)];exact q
 frzs:=λb u xs q=>by rw[upd_ne (ne_of_none q hn)];exact q
 tbls:=λb ps q=>⟨#[],by rw[upd_ne (ne_of_none q hn),q];simp⟩
theorem Un.write(mu:Mut (H x))(he:e=x\/H e=some (.own x))(k:∀b u,b≠e->h.get? b=some u->h'.get? b=some u)(heo:∃u,h'.get? e=some u):Un fs ex H (upd H x o) h h':=by
 have hx:∀b,H b=none->b≠x:=λb n z=>by subst z;rw[n]at mu;exact mu
 have hb:∀b,H b=none->b≠e:=λb n z=>by
  subst z
  rcases he with r|r
  ·exact hx b n r
  ·rw[n]at r;cases r
 have hm:∀b u,H b=some u->¬Mut (some u)->b≠x:=λb u q nm z=>by subst z;rw[q]at mu;exact nm mu
 refine ⟨λb u q n _ _=>k b u (hb b n) q,λb u q n _ _=>⟨u.slots,k b u (hb b n) q⟩,λb u q n _=>by rw[upd_ne (hx b n)];exact n,λb u q _=>?_,
   λb xs q=>by rw[upd_ne (hm b _ q λz=>z)];exact q,λb u xs q=>by rw[upd_ne (hm b _ q λz=>z)];exact q,λb ps q=>⟨#[],by rw[upd_ne (hm b _ q λz=>z),q];simp⟩⟩
 by_cases hbe:b=e
 ·subst hbe;exact heo
 ·exact ⟨u,k b u hbe q⟩
end
noncomputable def trk(h:Heap)(H:Hp):List Addr:=(V1 h.objs.size).filter λa=>(H a).isSome
noncomputable def hidT(h:Heap)(H:Hp):Heap:=J6 h (trk h H)
theorem hidT_size(h:Heap)(H:Hp):(hidT h H).objs.size=h.objs.size:=PySem.W.hideAll_size _ _
theorem hidT_get{h:Heap}{H:Hp}{b:Addr}{o:Obj}(e:h.get? b=some o)(n:H b=none):(hidT h H).get? b=some o :=
 A5 _ e λhm=>by
  have q:(H b).isSome=true:=(O7.mp hm).2
  rw[n]at q;simp at q
theorem of_hidT{h:Heap}{H:Hp}{b:Addr}{o:Obj}(e:(hidT h H).get? b=some o):h.get? b=some o/\H b=none:=by
 have e':h.get? b=some o:=T6 (trk h H) e
 refine ⟨e',?_⟩
 cases q:H b with
 | none=>rfl
 | some x =>
  have hm:b∈trk h H:=O7.mpr ⟨i5.mpr (v0 e'),by simp[q]⟩
  have z:(hidT h H).get? b=none:=D6 (trk h H) hm
  rw[z]at e;cases e
noncomputable def allNews(g h:Heap)(L:Addr):List (Addr×Obj):=(V1 h.objs.size).filterMap λa=>if a=L\/(g.get? a).isSome=true then none else (h.get? a).map λo=>(a,o)
noncomputable def rest(g h:Heap)(L d:Addr):List (Addr×Obj):=(allNews g h L).filter λp=>decide (p.1≠d)
structure Mod(K:i0)(mg:Str->Option Value)(base:Heap):Prop where
 kin:K.In base
 glob:base.Ns mainGlobals mg
 blt:∃mb,base.Ns builtinsNs mb/\∀x:Str,x ≠ "__name__"->mb x=bootBuiltins x
 nolimit:base.NoLimit
structure Cx where
 prog:Program
 w:World
 K:i0
 mg:Str->Option Value
 base:Heap
 A:Around
 N:List Str
 s₀:Shared
 H₀:Hp
 env:Env
 outer:List Env
 stack:List Env
 ex:List Addr
 fn:Str->Bool
 calm:Bool
 pn:List (Addr×Obj)
 xe:Value->Shared->Prop
noncomputable def frs(l:List Env):List Addr:=l.filterMap (·.frame)
noncomputable abbrev Cx.fs(X:Cx):List Addr:=frs X.outer
noncomputable def Vis(sc:Scope)(x:Str):Prop:=sc.names.lookup x=some .local\/sc.names.lookup x=some .cell\/sc.names.lookup x=some .free
noncomputable def Loc(sc:Scope)(x:Str):Prop:=sc.names.lookup x=some .local\/sc.names.lookup x=some .cell
noncomputable def Look(env:Env)(h:Heap)(m:Str->Option Value)(x:Str)(u:Value):Prop :=
 (env.kindOf x=some .local/\m x=some u)\/((env.kindOf x=some .cell\/env.kindOf x=some .free)/\∃c,env.cells.lookup x=some c/\h.IsCell c (some u))
structure Cx.Ok(X:Cx):Prop where
 mod:Mod X.K X.mg X.base
 kind:X.env.scope.kind=.function
 glob:X.env.globals=mainGlobals
 blt:X.env.builtins=builtinsNs
 above:X.s₀.heap.objs.size<=X.env.locals
 inj:∀x y c,X.env.cells.lookup x=some c->X.env.cells.lookup y=some c->x=y
 has:∀x,(X.env.kindOf x=some .cell\/X.env.kindOf x=some .free)->∃c,X.env.cells.lookup x=some c
 cab:∀x c,X.fn x=true->X.env.cells.lookup x=some c->X.s₀.heap.objs.size<=c
 hd:X.calm=true->X.A.handled=none
 frames:X.A.frames=some X.stack
 stk:X.stack=X.outer\/(X.stack=X.env :: X.outer/\X.env.frame=some X.env.locals)
 exf:∀b∈X.ex,b≠X.env.locals/\∀x c,X.env.cells.lookup x=some c->c≠b
 bs:∀b o,X.base.get? b=some o->X.s₀.heap.get? b=some o/\X.H₀ b=none
 bsz:X.base.objs.size<=X.s₀.heap.objs.size
 noex:∀b o,X.base.get? b=some o->b∉X.ex
 exfs:∀b∈X.ex,b∉X.fs
 funs:X.s₀.heap.FunFrames X.base X.outer
 frf:∀b∈X.fs,X.H₀ b=none
structure Inv(X:Cx)(pins:List (Addr×Obj))(σ:List (Option V))(H:Hp)(s:Shared):Prop where
 ok:X.Ok
 os:s.os=X.s₀.os
 bare:AllBare s.gens
 base:Un X.fs X.ex X.H₀ H X.s₀.heap s.heap
 loc:∃m,s.heap.Ns X.env.locals m/\∀(i:Nat) (x:Str) (v:V),X.N[i]?=some x->σ[i]?=some (some v)->Vis X.env.scope x->∃u,RelV v u/\Look X.env s.heap m x u
 cell:∀x c,X.env.cells.lookup x=some c->∃v,s.heap.IsCell c v
 free:H X.env.locals=none
 freeC:∀x c,X.env.cells.lookup x=some c->H c=none
 pin:∀p∈X.pn++pins,s.heap.get? p.1=some p.2/\H p.1=none/\p.1≠X.env.locals/\p.1∉X.fs/\∀v,p.2.data≠.cell v
 hok:HOk X.prog X.w H s.heap
 len:σ.length=X.N.length
section
variable {X:Cx}{pins:List (Addr×Obj)}{σ:List (Option V)}{H H':Hp}{s:Shared}{h':Heap}
theorem Cx.Ok.nofr(ok:X.Ok){b:Addr}{o:Obj}(e:X.base.get? b=some o):b∉X.fs:=λhb=>by
 have:=(ok.funs.mem hb).1
 rw[e]at this;cases this
theorem Inv.bs(I:Inv X pins σ H s):∀b o,X.base.get? b=some o->s.heap.get? b=some o/\H b=none:=λb o e =>
 ⟨I.base.keep b o (I.ok.bs b o e).1 (I.ok.bs b o e).2 (I.ok.nofr e) (I.ok.noex b o e),I.base.free b o (I.ok.bs b o e).1 (I.ok.bs b o e).2 (I.ok.noex b o e)⟩
theorem Inv.bk(I:Inv X pins σ H s):∀b o,X.base.get? b=some o->s.heap.get? b=some o:=λb o e=>(I.bs b o e).1
theorem Inv.mod(I:Inv X pins σ H s):Mod X.K X.mg X.base:=I.ok.mod
theorem Inv.kIn(I:Inv X pins σ H s):X.K.In s.heap:=I.ok.mod.kin.keeps I.bk
theorem Inv.lt(I:Inv X pins σ H s):X.env.locals < s.heap.objs.size:=let ⟨_,hn,_⟩:=I.loc;hn.lt
theorem Inv.sz(I:Inv X pins σ H s):X.s₀.heap.objs.size<=s.heap.objs.size:=Q1 I.ok.above (N4 I.lt)
theorem Inv.nofs(I:Inv X pins σ H s){a:Addr}(h:s.heap.objs.size<=a):a∉X.fs:=λhb=>by
 obtain⟨_,o,ho,_⟩:=I.ok.funs.mem hb
 exact absurd (J0 (v0 ho) (Q1 I.sz h)) (V2 _)
theorem Inv.cne(I:Inv X pins σ H s):∀x c,X.env.cells.lookup x=some c->c≠X.env.locals:=λx c e z=>by
 obtain⟨v,o,ho,hd⟩:=I.cell x c e
 obtain⟨m,⟨o',es,ep,ho',hd',_⟩,_⟩:=I.loc
 rw[z,ho']at ho;cases ho;rw[hd']at hd;cases hd
theorem Inv.funs(I:Inv X pins σ H s):s.heap.FunFrames X.base X.outer:=by
 have all:∀(l:List Env),(∀b∈frs l,b∈X.fs)->X.s₀.heap.FunFrames X.base l->s.heap.FunFrames X.base l:=by
  intro l
  induction l with
  | nil=>intro _ _;trivial
  | cons env r ih =>
   intro hs hl
   obtain⟨hk,⟨L,o,hf,hn,ho,hd⟩,hr⟩:=hl
   have hL:L∈X.fs:=hs L (by unfold frs;rw[B5,hf];exact K0)
   obtain⟨sl,e⟩:=I.base.slot L o ho (I.ok.frf L hL) hL λz=>I.ok.exfs L z hL
   exact ⟨hk,⟨L,_,hf,hn,e,hd⟩,ih (λb hb=>hs b (by unfold frs;rw[B5,hf];exact u0 _ hb)) hr⟩
 exact all X.outer (λ_ hb=>hb) I.ok.funs
theorem Inv.stack(I:Inv X pins σ H s):s.heap.FunFrames X.base X.stack:=by
 rcases I.ok.stk with e|⟨e,hf⟩
 ·rw[e];exact I.funs
 ·rw[e]
  obtain⟨m,hn,_⟩:=I.loc
  refine .cons (by rw[I.ok.kind];decide) hf hn ?_ I.funs
  exact Heap.get?_none_of_le (Q1 I.ok.bsz I.ok.above)
theorem Inv.stkSub(I:Inv X pins σ H s):∀b∈frs X.stack,b∈X.env.locals :: X.fs:=λb hb=>by
 rcases I.ok.stk with e|⟨e,hf⟩
 ·rw[e]at hb;exact u0 _ hb
 ·rw[e]at hb
  unfold frs at hb
  rw[B5,hf]at hb
  exact hb
theorem Inv.stkFree(I:Inv X pins σ H s):∀b∈frs X.stack,H b=none:=λb hb=>by
 rcases Y0.mp (I.stkSub b hb) with e|hb
 ·rw[e];exact I.free
 ·obtain⟨_,o,ho,_⟩:=I.ok.funs.mem hb
  exact I.base.free b o ho (I.ok.frf b hb) λz=>I.ok.exfs b z hb
theorem Inv.step{g':Array GenState}{t':Nat}{d':Drawn}{ch:List Addr}(I:Inv X pins σ H s)
  (hch:∀b∈ch,(b∈X.ex\/X.s₀.heap.objs.size<=b)/\b≠X.env.locals/\(∀x c,X.env.cells.lookup x=some c->c≠b)/\∀p∈X.pn++pins,p.1≠b)
  (keep:∀b o,b≠X.env.locals->b∉X.fs->b∉ch->s.heap.get? b=some o->H b=none->h'.get? b=some o)
  (slot:∀b o,b≠X.env.locals->b∈X.fs->b∉ch->s.heap.get? b=some o->H b=none->∃sl,h'.get? b=some { o with slots:=sl }) (free:∀b o,b∉ch->s.heap.get? b=some o->H b=none->H' b=none)
  (there:∀b o,b∉ch->s.heap.get? b=some o->∃o',h'.get? b=some o')
  (tups:∀b xs,H b=some (.tup xs)->H' b=some (.tup xs)) (frzs:∀b o u,H b=some (.frz o u)->H' b=some (.frz o u)) (tbls:∀b ps,H b=some (.tbl ps)->∃more,H' b=some (.tbl (ps++more)))
  (ns:∀m,s.heap.Ns X.env.locals m->h'.Ns X.env.locals m) (hok:HOk X.prog X.w H' h') (hg:AllBare g') :
  Inv X pins σ H' { s with heap:=h',gens:=g',drawn:=d',toks:=t' }:=by
 have neL:∀b o,X.s₀.heap.get? b=some o->b≠X.env.locals:=λb o e=>V0 (J0 (v0 e) I.ok.above)
 have neC:∀b o,X.s₀.heap.get? b=some o->b∉X.ex->b∉ch:=λb o e hx hb=>by
  rcases (hch b hb).1 with z|z
  ·exact hx z
  ·exact absurd (J0 (v0 e) z) (V2 _)
 have cellK:∀x c,X.env.cells.lookup x=some c->∀v,s.heap.IsCell c v->h'.IsCell c v:=λx c e v ⟨o,ho,hd⟩=>by
  have nch:c∉ch:=λz=>(hch c z).2.2.1 x c e rfl
  by_cases hc:c∈X.fs
  ·obtain⟨sl,q⟩:=slot c o (I.cne x c e) hc nch ho (I.freeC x c e)
   exact ⟨_,q,hd⟩
  ·exact ⟨o,keep c o (I.cne x c e) hc nch ho (I.freeC x c e),hd⟩
 refine ⟨I.ok,I.os,hg,⟨λb o e n hb hx=>?_,λb o e n hb hx=>?_,λb o e n hx=>?_,λb o e hx=>?_,λb xs e=>tups b xs (I.base.tups b xs e),λb o xs e=>frzs b o xs (I.base.frzs b o xs e),λb ps e=>?_⟩,?_,λx c e=>?_,?_,λx c e=>?_,λp hp=>?_,hok,I.len⟩
 ·exact keep b o (neL b o e) hb (neC b o e hx) (I.base.keep b o e n hb hx) (I.base.free b o e n hx)
 ·obtain⟨sl,e1⟩:=I.base.slot b o e n hb hx
  obtain⟨sl',e2⟩:=slot b _ (neL b o e) hb (neC b o e hx) e1 (I.base.free b o e n hx)
  exact ⟨sl',e2⟩
 ·obtain⟨o',e1⟩:=I.base.there b o e hx
  exact free b o' (neC b o e hx) e1 (I.base.free b o e n hx)
 ·obtain⟨o',e1⟩:=I.base.there b o e hx
  exact there b o' (neC b o e hx) e1
 ·obtain⟨m1,e1⟩:=I.base.tbls b ps e
  obtain⟨m2,e2⟩:=tbls b _ e1
  exact ⟨m1++m2,by rw[e2,Array.append_assoc]⟩
 ·obtain⟨m,hn,hl⟩:=I.loc
  refine ⟨m,ns m hn,λi x v e1 e2 e3=>?_⟩
  obtain⟨u,r,l⟩:=hl i x v e1 e2 e3
  refine ⟨u,r,?_⟩
  rcases l with l|⟨k,c,e,z⟩
  ·exact .inl l
  ·exact .inr ⟨k,c,e,cellK x c e _ z⟩
 ·obtain⟨v,z⟩:=I.cell x c e
  exact ⟨v,cellK x c e v z⟩
 ·obtain⟨m,⟨o,_,_,ho,_⟩,_⟩:=I.loc
  exact free _ o (λz=>(hch _ z).2.1 rfl) ho I.free
 ·obtain⟨v,o,ho,hd⟩:=I.cell x c e
  exact free c o (λz=>(hch c z).2.2.1 x c e rfl) ho (I.freeC x c e)
 ·obtain⟨e,n,ne,nf,d⟩:=I.pin p hp
  have nch:p.1∉ch:=λz=>(hch p.1 z).2.2.2 p hp rfl
  exact ⟨keep p.1 p.2 ne nf nch e n,free p.1 p.2 nch e n,ne,nf,d⟩
theorem Inv.un{t':Nat}(I:Inv X pins σ H s)(u:Un X.fs [] H H' s.heap h')(hok:HOk X.prog X.w H' h'):Inv X pins σ H' { s with heap:=h',toks:=t' }:=by
 obtain⟨m,⟨o,es,ep,ho,r⟩,_⟩:=id I.loc
 obtain⟨sl,hL⟩:=u.any ho I.free (by simp)
 exact I.step (g':=s.gens) (d':=s.drawn) (ch:=[]) (λ_ z=>nomatch z) (λb o _ hb _ e n=>u.keep b o e n hb (by simp)) (λb o _ hb _ e n=>u.slot b o e n hb (by simp)) (λb o _ e n=>u.free b o e n (by simp)) (λb o _ e=>u.there b o e (by simp)) u.tups u.frzs u.tbls (λm' hm=>by
   obtain⟨o',es',ep',ho',r'⟩:=hm
   rw[ho]at ho';cases ho'
   exact ⟨_,es',ep',hL,r'⟩) hok I.bare
theorem Inv.call{g':Array GenState}{t':Nat}{d':Drawn}{ch:List Addr}(I:Inv X pins σ H s)(u:Un (frs X.stack) ch H H' s.heap h')(hok:HOk X.prog X.w H' h')(hg:AllBare g')
  (hch:∀b∈ch,(b∈X.ex\/X.s₀.heap.objs.size<=b)/\b≠X.env.locals/\(∀x c,X.env.cells.lookup x=some c->c≠b)/\∀p∈X.pn++pins,p.1≠b) :
  Inv X pins σ H' { s with heap:=h',gens:=g',drawn:=d',toks:=t' }:=by
 obtain⟨m,⟨o,es,ep,ho,r⟩,_⟩:=id I.loc
 obtain⟨sl,hL⟩:=u.any ho I.free λz=>(hch _ z).2.1 rfl
 exact I.step (ch:=ch) hch (λb o hL hb hc e n=>u.keep b o e n (λz=>(Y0.mp (I.stkSub b z)).elim hL hb) hc) (λb o _ _ hc e n=>u.any e n hc) (λb o hc e n=>u.free b o e n hc) (λb o hc e=>u.there b o e hc) u.tups u.frzs u.tbls (λm' hm=>by
   obtain⟨o',es',ep',ho',r'⟩:=hm
   rw[ho]at ho';cases ho'
   exact ⟨_,es',ep',hL,r'⟩) hok hg
theorem Inv.turned{t':Nat}{it:Addr}(I:Inv X pins σ H s)(k:∀b o,b≠it->s.heap.get? b=some o->h'.get? b=some o)(hn:H it=none)(hL:it≠X.env.locals)
  (h1:it∈X.ex\/X.s₀.heap.objs.size<=it) (h2:∀x c,X.env.cells.lookup x=some c->c≠it) (h3:∀p∈X.pn++pins,p.1≠it):Inv X pins σ H { s with heap:=h',toks:=t' }:=by
 have nit:∀b u,H b=some u->b≠it:=λb u e z=>by rw[z,hn]at e;cases e
 refine I.step (g':=s.gens) (d':=s.drawn) (ch:=[it]) (λb hb=>?_) (λb o _ _ hc e _=>k b o (λz=>hc (by simp[z])) e) (λb o _ _ hc e _=>⟨o.slots,k b o (λz=>hc (by simp[z])) e⟩) (λ_ _ _ _ n=>n)
  (λb o hc e=>⟨o,k b o (λz=>hc (by simp[z])) e⟩) (λ_ _ e=>e) (λ_ _ _ e=>e) (λb ps e=>⟨#[],by rw[e];simp⟩) (λm hm=>?_) (λb u e=>?_) I.bare
 ·have e:b=it:=by simpa using hb
  subst e
  exact ⟨h1,hL,h2,h3⟩
 ·obtain⟨o,es,ep,ho,r⟩:=hm
  exact ⟨o,es,ep,k _ o (G2 hL) ho,r⟩
 ·refine (I.hok b u e).stay (λc v hc q=>k c v ?_ q) (λ_ q=>q) λ_ _ q=>q
  rcases hc with z|z
  ·rw[z];exact nit b u e
  ·exact nit c _ z
theorem Inv.tok(I:Inv X pins σ H s)(t:Nat):Inv X pins σ H { s with toks:=t }:=I.un (h':=s.heap) (t':=t) Un.refl I.hok
theorem Inv.kept{t':Nat}(I:Inv X pins σ H s)(k:∀b u,s.heap.get? b=some u->h'.get? b=some u):Inv X pins σ H { s with heap:=h',toks:=t' }:=I.un (Un.kept k) (I.hok.kept k)
theorem Inv.laid{a:Addr}{o:HO}{t':Nat}(I:Inv X pins σ H s)(k:∀b u,s.heap.get? b=some u->h'.get? b=some u)(hp:s.heap.objs.size<=a)(new:ObjOk X.prog X.w (upd H a o) h' a o) :
  Inv X pins σ (upd H a o) { s with heap:=h',toks:=t' }:=I.un (Un.laid k hp (I.hok.fresh hp)) (I.hok.laid k hp new)
theorem Inv.write{x e:Addr}{o:HO}{t':Nat}(I:Inv X pins σ H s)(mu:Mut (H x))(he:e=x\/H e=some (.own x))(k:∀b u,b≠e->s.heap.get? b=some u->h'.get? b=some u)(heo:∃u,h'.get? e=some u)
  (new:ObjOk X.prog X.w (upd H x o) h' x o):Inv X pins σ (upd H x o) { s with heap:=h',toks:=t' }:=I.un (Un.write mu he k heo) (I.hok.write mu he k heo new)
theorem Inv.pins_of{pins':List (Addr×Obj)}(I:Inv X pins σ H s)(h:∀p∈pins',s.heap.get? p.1=some p.2/\H p.1=none/\p.1≠X.env.locals/\p.1∉X.fs/\∀v,p.2.data≠.cell v):Inv X pins' σ H s :=
 ⟨I.ok,I.os,I.bare,I.base,I.loc,I.cell,I.free,I.freeC,λp hp=>(u3.mp hp).elim (λz=>I.pin p (E6 _ z)) (h p),I.hok,I.len⟩
theorem nodup_ix{N:List Str}(hN:N.Nodup){i j:Nat}{x:Str}(a:N[i]?=some x)(b:N[j]?=some x):i=j:=by
 obtain⟨h1,e1⟩:=X0.mp a
 obtain⟨h2,e2⟩:=X0.mp b
 exact (List.getElem_inj hN).mp (e1.trans e2.symm)
theorem store_ok2{M:Model}{A:Around}{E:Value->Shared->Prop}{i:Nat}{x:Str}{v:V}{u:Value}{Q:Unit->Shared->Prop}(I:Inv X pins σ H s)(hN:X.N.Nodup)(hi:X.N[i]?=some x)(hx:Loc X.env.scope x)(r:RelV v u)
  (h:∀s',Inv X pins (σ.set i (some v)) H s'->(∃a,u4 a s.heap s'.heap/\(a=X.env.locals\/X.env.cells.lookup x=some a))->Q () s') (hf:X.fn x=true\/X.env.scope.names.lookup x=some .local:=by first|exact .inl rfl|exact .inr rfl|assumption):wpAny M A (storeName X.env x u) Q E s:=by
 obtain⟨m,hn,hl⟩:=id I.loc
 have hcls:(X.env.scope.kind==.class||(X.env.scope.kind==.module&&X.env.locals != X.env.globals))=false:=by rw[I.ok.kind];rfl
 have hiσ:i < σ.length:=by rw[I.len];exact (X0.mp hi).1
 have cne:=I.cne
 have tracked:∀{a:Addr}{h':Heap},(∃o,s.heap.get? a=some o/\H a=none)->u4 a s.heap h'->HOk X.prog X.w H h':=λ{a h'} ha hs b ob e=>by
  obtain⟨_,_,hfree⟩:=ha
  refine (I.hok b ob e).stay (λc w' hc q=>(hs.2 c ?_).trans q) (λ_ q=>q) λ_ _ q=>q
  rintro rfl
  rcases hc with rfl|hc
  ·rw[hfree]at e;cases e
  ·rw[hfree]at hc;cases hc
 rcases hx with hk|hk
 ·refine wpAny_storeName_local hk hn (λh' hn' hs=>?_) hcls
  obtain⟨oL,_,_,hoL,_⟩:=id hn
  refine h _ ⟨I.ok,I.os,I.bare,⟨λb o e n hb hx=>?_,λb o e n hb hx=>?_,I.base.free,λb o e hx=>?_,I.base.tups,I.base.frzs,I.base.tbls⟩,⟨_,hn',λj y v' e1 e2 e3=>?_⟩,λy c e=>?_,I.free,I.freeC,λp hp=>?_,tracked ⟨oL,hoL,I.free⟩ hs,by simpa using I.len⟩ ⟨_,hs,.inl rfl⟩
  ·exact (hs.2 b (V0 (J0 (v0 e) I.ok.above))).trans (I.base.keep b o e n hb hx)
  ·obtain⟨sl,e1⟩:=I.base.slot b o e n hb hx
   exact ⟨sl,(hs.2 b (V0 (J0 (v0 e) I.ok.above))).trans e1⟩
  ·obtain⟨o',e1⟩:=I.base.there b o e hx
   exact ⟨o',(hs.2 b (V0 (J0 (v0 e) I.ok.above))).trans e1⟩
  ·by_cases hj:j=i
   ·subst hj
    rw[hi]at e1;cases e1
    rw[Z5 hiσ]at e2
    cases e2
    exact ⟨u,r,.inl ⟨hk,by simp⟩⟩
   ·rw[S0 (G2 hj)]at e2
    obtain⟨u',r',q⟩:=hl j y v' e1 e2 e3
    refine ⟨u',r',?_⟩
    rcases q with⟨k,e⟩|⟨k,c,e,z⟩
    ·refine .inl ⟨k,?_⟩
     have:y≠x:=λe=>hj (nodup_ix hN e1 (e ▸ hi))
     simp[this,e]
    ·exact .inr ⟨k,c,e,z.sameBut hs (cne y c e)⟩
  ·obtain⟨w',z⟩:=I.cell y c e
   exact ⟨w',z.sameBut hs (cne y c e)⟩
  ·obtain⟨e,n,ne,nf,d⟩:=I.pin p hp
   exact ⟨(hs.2 p.1 ne).trans e,n,ne,nf,d⟩
 ·have hfn:X.fn x=true:=by
   rcases hf with z|z
   ·exact z
   ·rw[z]at hk;cases hk
  obtain⟨c,hc⟩:=I.ok.has x (.inl hk)
  obtain⟨w',z⟩:=I.cell x c hc
  refine wpAny_storeName_cell I.ok.kind hk hc z (λh' hc' hs=>?_)
  obtain⟨oc,hoc,hocd⟩:=id z
  refine h { s with heap:=h' } ⟨I.ok,I.os,I.bare,⟨λb o e n hb hx=>?_,λb o e n hb hx=>?_,I.base.free,λb o e hx=>?_,I.base.tups,I.base.frzs,I.base.tbls⟩,⟨m,hn.sameBut hs (G2 (cne x c hc)),λj y v' e1 e2 e3=>?_⟩,λy c' e=>?_,I.free,I.freeC,λp hp=>?_,tracked ⟨oc,hoc,I.freeC x c hc⟩ hs,by simpa using I.len⟩ ⟨c,hs,.inr hc⟩
  ·exact (hs.2 b (V0 (J0 (v0 e) (I.ok.cab x c hfn hc)))).trans (I.base.keep b o e n hb hx)
  ·obtain⟨sl,e1⟩:=I.base.slot b o e n hb hx
   exact ⟨sl,(hs.2 b (V0 (J0 (v0 e) (I.ok.cab x c hfn hc)))).trans e1⟩
  ·obtain⟨o',e1⟩:=I.base.there b o e hx
   exact ⟨o',(hs.2 b (V0 (J0 (v0 e) (I.ok.cab x c hfn hc)))).trans e1⟩
  ·by_cases hj:j=i
   ·subst hj
    rw[hi]at e1;cases e1
    rw[Z5 hiσ]at e2
    cases e2
    exact ⟨u,r,.inr ⟨.inl hk,c,hc,hc'⟩⟩
   ·rw[S0 (G2 hj)]at e2
    obtain⟨u',r',q⟩:=hl j y v' e1 e2 e3
    refine ⟨u',r',?_⟩
    rcases q with q|⟨k,c',e,z'⟩
    ·exact .inl q
    ·refine .inr ⟨k,c',e,z'.sameBut hs ?_⟩
     rintro rfl
     exact hj (nodup_ix hN e1 (I.ok.inj _ _ _ e hc ▸ hi))
  ·by_cases hcc:c'=c
   ·subst hcc;exact ⟨_,hc'⟩
   ·obtain⟨w2,z2⟩:=I.cell y c' e
    exact ⟨w2,z2.sameBut hs hcc⟩
  ·obtain⟨e,n,ne,nf,d⟩:=I.pin p hp
   refine ⟨(hs.2 p.1 ?_).trans e,n,ne,nf,d⟩
   intro q
   rw[q,hoc]at e
   have q':oc=p.2:=S1 e
   exact d w' (by rw[<- q'];exact hocd)
theorem store_ok{M:Model}{A:Around}{E:Value->Shared->Prop}{i:Nat}{x:Str}{v:V}{u:Value}{Q:Unit->Shared->Prop}(I:Inv X pins σ H s)(hN:X.N.Nodup)(hi:X.N[i]?=some x)(hx:Loc X.env.scope x)(r:RelV v u)
  (h:∀s',Inv X pins (σ.set i (some v)) H s'->Q () s') (hf:X.fn x=true\/X.env.scope.names.lookup x=some .local:=by first|exact .inl rfl|exact .inr rfl|assumption):wpAny M A (storeName X.env x u) Q E s :=
 store_ok2 I hN hi hx r (λs' I' _=>h s' I') hf
theorem Inv.call'{s':Shared}{ch:List Addr}(I:Inv X pins σ H s)(ho:s'.os=s.os)(u:Un (frs X.stack) ch H H' s.heap s'.heap)(hok:HOk X.prog X.w H' s'.heap)(hg:AllBare s'.gens)
  (hch:∀b∈ch,(b∈X.ex\/X.s₀.heap.objs.size<=b)/\b≠X.env.locals/\(∀x c,X.env.cells.lookup x=some c->c≠b)/\∀p∈X.pn++pins,p.1≠b):Inv X pins σ H' s':=by
 obtain⟨h',g',d',t',o'⟩:=s'
 have e:o'=s.os:=ho
 subst e
 exact I.call (g':=g') (t':=t') (d':=d') u hok hg hch
end
noncomputable abbrev XK:=Value->Option Addr->Hp->Prop
noncomputable abbrev St:=List (Option V)
noncomputable abbrev VK:=V->Hp->Prop
noncomputable abbrev TE:=St->Hp->VK->Prop
noncomputable abbrev TT:=St->Hp->(Bool->Hp->Prop)->Prop
noncomputable abbrev TA:=St->Hp->(List V->Hp->Prop)->Prop
structure Ends where
 nx:St->Hp->Prop
 rt:VK
 bk:St->Hp->Prop:=λ_ _=>False
 ct:St->Hp->Prop:=λ_ _=>False
noncomputable abbrev TS:=Ends->St->Hp->Prop
noncomputable def EP(X:Cx)(pins:List (Addr×Obj))(σ:St)(Q:VK)(u:Value)(s':Shared):Prop:=∃v H',Inv X pins σ H' s'/\RelV v u/\Q v H'
noncomputable def TP(X:Cx)(pins:List (Addr×Obj))(σ:St)(Q:Bool->Hp->Prop)(b:Bool)(s':Shared):Prop:=∃H',Inv X pins σ H' s'/\Q b H'
noncomputable def AP(X:Cx)(pins:List (Addr×Obj))(σ:St)(Q:List V->Hp->Prop)(us:List Value)(s':Shared):Prop:=∃vs H',Inv X pins σ H' s'/\Vals vs us/\Q vs H'
noncomputable def SP(X:Cx)(pins:List (Addr×Obj))(D:Ends)(f:Flow)(s':Shared):Prop :=
 match f with
 | .next=>∃σ' H',Inv X pins σ' H' s'/\D.nx σ' H'
 | .brk=>∃σ' H',Inv X pins σ' H' s'/\D.bk σ' H'
 | .cont=>∃σ' H',Inv X pins σ' H' s'/\D.ct σ' H'
 | .ret u=>∃v σ' H',Inv X pins σ' H' s'/\RelV v u/\D.rt v H'
noncomputable def PE(X:Cx)(e:Expr)(t:TE):Prop :=
 ∀(pins:List (Addr×Obj)) (s:Shared) (σ:St) (H:Hp) (Q:VK),Inv X pins σ H s->t σ H Q->wpAny (model X.prog X.w) X.A (eval e X.env) (EP X pins σ Q) X.xe s
noncomputable def PT(X:Cx)(e:Expr)(t:TT):Prop :=
 ∀(pins:List (Addr×Obj)) (s:Shared) (σ:St) (H:Hp) (Q:Bool->Hp->Prop),Inv X pins σ H s->t σ H Q->wpAny (model X.prog X.w) X.A (isTrue e X.env (eval e X.env)) (TP X pins σ Q) X.xe s
noncomputable def PW(X:Cx)(e:Expr)(t:TT):Prop :=
 ∀(whole:Sem Value) (pins:List (Addr×Obj)) (s:Shared) (σ:St) (H:Hp) (Q:Bool->Hp->Prop),Inv X pins σ H s->t σ H Q->wpAny (model X.prog X.w) X.A (isTrue e X.env whole) (TP X pins σ Q) X.xe s
theorem PW.pt{X:Cx}{e:Expr}{t:TT}(h:PW X e t):PT X e t:=h _
noncomputable def PA(X:Cx)(es:List Expr)(t:TA):Prop :=
 ∀(pos:Pos) (pins:List (Addr×Obj)) (s:Shared) (σ:St) (H:Hp) (Q:List V->Hp->Prop),Inv X pins σ H s->t σ H Q->wpAny (model X.prog X.w) X.A (spliced (backTo pos (starEach es X.env))) (AP X pins σ Q) X.xe s
noncomputable def PS(X:Cx)(st:Stmt)(t:TS):Prop :=
 ∀(pins:List (Addr×Obj)) (s:Shared) (σ:St) (H:Hp) (D:Ends),Inv X pins σ H s->t D σ H->wpAny (model X.prog X.w) X.A (exec st X.env) (SP X pins D) X.xe s
noncomputable def PSs(X:Cx)(st:List Stmt)(t:TS):Prop :=
 ∀(pins:List (Addr×Obj)) (s:Shared) (σ:St) (H:Hp) (D:Ends),Inv X pins σ H s->t D σ H->wpAny (model X.prog X.w) X.A (execs st X.env) (SP X pins D) X.xe s
theorem thn{α:Type}{t:Sem α}{Q Q':α->Shared->Prop}{M:Model}{A:Around}{E:Value->Shared->Prop}{s:Shared}(h:wpAny M A t Q E s)(hQ:∀a s,Q a s->Q' a s):wpAny M A t Q' E s:=wpAny_mono h hQ λ_ _ x=>x
section
variable {X:Cx}
noncomputable def tVar(i:Nat):TE:=λσ H Q=>∃v,σ[i]?=some (some v)/\Q v H
noncomputable def tC(v:V):TE:=λ_ H Q=>Q v H
theorem pe_var{i:Nat}{x:Str}{pos:Pos}(hN:X.N[i]?=some x)(hv:Vis X.env.scope x)(hd:(x==("__debug__":Str))=false:=by decide)(hcd:(x==("__classdict__":Str))=false:=by decide):PE X (.Name x pos) (tVar i):=by
 intro pins s σ H Q I h
 obtain⟨v,e,h⟩:=h
 obtain⟨m,hn,hl⟩:=I.loc
 obtain⟨u,r,l⟩:=hl i x v hN e hv
 have fin:EP X pins σ Q u s:=⟨v,H,I,r,h⟩
 rcases l with⟨hk,hm⟩|⟨hk,c,hc,hcell⟩
 ·exact wpAny_Name (wpAny_loadName_local I.ok.kind hk hn hm fin) hd
 ·rcases hk with hk|hk
  ·exact wpAny_Name (wpAny_loadName_cell I.ok.kind hk hc hcell fin) hd
  ·exact wpAny_Name (wpAny_loadName_free I.ok.kind hk hc hcell fin hcd) hd
theorem pe_int{i j pos}:PE X (.Constant (.int i) j pos) (tC (.int i)):=λ_ _ _ H _ I h=>wpAny_Constant_int ⟨.int i,H,I.tok _,⟨_,rfl⟩,h⟩
theorem pe_bl{b j pos}:PE X (.Constant (.bool b) j pos) (tC (.bl b)):=λ_ _ _ H _ I h=>Constant_bool ⟨.bl b,H,I,rfl,h⟩
theorem pe_non{j pos}:PE X (.Constant .none j pos) (tC .non):=λ_ _ _ H _ I h=>Constant_none ⟨.non,H,I,rfl,h⟩
theorem pe_str{x j pos}:PE X (.Constant (.str x) j pos) (tC (.str x)):=λ_ _ _ H _ I h=>Calls.Constant_str ⟨.str x,H,I.tok _,⟨_,rfl⟩,h⟩
noncomputable def Gl(X:Cx)(x:Str):Prop:=X.env.kindOf x=some .globalImplicit
theorem ld_glob{E:Value->Shared->Prop}{pins:List (Addr×Obj)}{s:Shared}{σ:St}{H:Hp}{x:Str}{u:Value}{pos:Pos}{Q:Value->Shared->Prop}(I:Inv X pins σ H s)(hg:Gl X x)(hm:X.mg x=some u)(h:Q u s)
  (hd:(x==("__debug__":Str))=false:=by decide):wpAny (model X.prog X.w) X.A (eval (.Name x pos) X.env) Q E s :=
 Calls.Name_function_global I.ok.kind hg (Calls.loadGlobal_global (by rw[I.ok.glob];exact I.mod.glob.keeps I.bk) hm h) hd
theorem ld_blt{E:Value->Shared->Prop}{pins:List (Addr×Obj)}{s:Shared}{σ:St}{H:Hp}{x:Str}{u:Value}{pos:Pos}{Q:Value->Shared->Prop}(I:Inv X pins σ H s)(hg:Gl X x)(hm:X.mg x=none)(hv:bootBuiltins x=some u)(h:Q u s)
  (hn:x ≠ "__name__":=by decide) (hd:(x==("__debug__":Str))=false:=by decide):wpAny (model X.prog X.w) X.A (eval (.Name x pos) X.env) Q E s:=by
 obtain⟨mb,h1,h2⟩:=I.mod.blt
 exact Calls.Name_function_global I.ok.kind hg (Calls.loadGlobal_builtin (by rw[I.ok.glob];exact I.mod.glob.keeps I.bk) hm (by rw[I.ok.blt];exact h1.keeps I.bk) ((h2 x hn).trans hv) h) hd
theorem pe_glob{x:Str}{v:V}{u:Value}{pos:Pos}(hg:Gl X x)(hm:X.mg x=some u)(r:RelV v u)(hd:(x==("__debug__":Str))=false:=by decide):PE X (.Name x pos) (tC v) :=
 λ_ _ _ H _ I h=>ld_glob I hg hm ⟨v,H,I,r,h⟩ hd
theorem pe_bltn{x:Str}{v:V}{u:Value}{pos:Pos}(hg:Gl X x)(hm:X.mg x=none)(hv:bootBuiltins x=some u)(r:RelV v u)(hn:x ≠ "__name__":=by decide)(hd:(x==("__debug__":Str))=false:=by decide):PE X (.Name x pos) (tC v) :=
 λ_ _ _ H _ I h=>ld_blt I hg hm hv ⟨v,H,I,r,h⟩ hn hd
variable {a b:Expr}{ta tb:TE}{pos:Pos}
noncomputable def tB(t:TE):TT:=λσ H Q=>t σ H λx H1=>∃c,x=.bl c/\Q c H1
theorem pt_val{e:Expr}{t:TE}(h:PE X e t)(he:∀whole,isTrue e X.env whole=(do let v<-whole;standAt e.pos;holding [v] (truthy v)):=by intro _;rfl):PT X e (tB t):=by
 intro pins s σ H Q I hw
 refine isTrue_plain (thn (h pins s σ H _ I hw) λv s1 ⟨x,H1,I1,r1,q1⟩=>?_) (he _)
 obtain⟨d,rfl,q⟩:=q1
 cases r1
 exact wpAny_truthy_bool ⟨H1,I1,q⟩
variable {tA tB':TT}{rest:List Expr}
noncomputable def tAnd(t u:TT):TT:=λσ H Q=>t σ H λc H1=>if c=true then u σ H1 Q else Q false H1
noncomputable def tOr(t u:TT):TT:=λσ H Q=>t σ H λc H1=>if c=true then Q true H1 else u σ H1 Q
noncomputable def tNot(t:TT):TT:=λσ H Q=>t σ H λc H1=>Q (!c) H1
theorem pw_and1(ha:PT X a tA):PW X (.BoolOp .And [a] pos) tA:=by
 intro wh pins s σ H Q I h
 refine isTrue_and (thn (ha pins s σ H Q I h) λc s1 e=>?_)
 cases c with
 | true=>exact isTrue_and_nil e
 | false=>exact e
theorem pw_or1(ha:PT X a tA):PW X (.BoolOp .Or [a] pos) tA:=by
 intro wh pins s σ H Q I h
 refine isTrue_or (thn (ha pins s σ H Q I h) λc s1 e=>?_)
 cases c with
 | false=>exact isTrue_or_nil e
 | true=>exact e
theorem pw_and(ha:PT X a tA)(hb:PW X (.BoolOp .And (b :: rest) pos) tB'):PW X (.BoolOp .And (a :: b :: rest) pos) (tAnd tA tB'):=by
 intro wh pins s σ H Q I h
 refine isTrue_and (thn (ha pins s σ H _ I h) λc s1 ⟨H1,I1,q1⟩=>?_)
 cases c with
 | true=>exact hb wh pins s1 σ H1 Q I1 q1
 | false=>exact ⟨H1,I1,q1⟩
theorem pw_or(ha:PT X a tA)(hb:PW X (.BoolOp .Or (b :: rest) pos) tB'):PW X (.BoolOp .Or (a :: b :: rest) pos) (tOr tA tB'):=by
 intro wh pins s σ H Q I h
 refine isTrue_or (thn (ha pins s σ H _ I h) λc s1 ⟨H1,I1,q1⟩=>?_)
 cases c with
 | true=>exact ⟨H1,I1,q1⟩
 | false=>exact hb wh pins s1 σ H1 Q I1 q1
theorem pt_not(ha:PT X a tA):PT X (.UnaryOp .Not a pos) (tNot tA):=by
 intro pins s σ H Q I h
 exact isTrue_not (ha pins s σ H (λc H1=>Q (!c) H1) I h)
noncomputable def tAndV(ta tb:TE):TE:=λσ H Q=>ta σ H λx H1=>∃c,x=.bl c/\if c=true then tb σ H1 Q else Q (.bl false) H1
noncomputable def tNotV(ta:TE):TE:=λσ H Q=>ta σ H λx H1=>∃c,x=.bl c/\Q (.bl (!c)) H1
theorem pe_one{op}{t:TE}(h:PE X a t):PE X (.BoolOp op [a] pos) t:=λpins s σ H Q I hw=>BoolOp_one (h pins s σ H Q I hw)
theorem pe_and(ha:PE X a ta)(hb:PE X (.BoolOp .And (b :: rest) pos) tb):PE X (.BoolOp .And (a :: b :: rest) pos) (tAndV ta tb):=by
 intro pins s σ H Q I h
 refine BoolOp_and (thn (ha pins s σ H _ I h) λv s1 ⟨x,H1,I1,r1,q1⟩=>?_)
 obtain⟨c,rfl,q1⟩:=q1
 cases r1
 refine wpAny_truthy_bool ?_
 cases c with
 | true=>exact hb pins s1 σ H1 Q I1 q1
 | false=>exact ⟨.bl false,H1,I1,rfl,q1⟩
theorem pe_not(ha:PE X a ta):PE X (.UnaryOp .Not a pos) (tNotV ta):=by
 intro pins s σ H Q I h
 refine UnaryOp_ (thn (ha pins s σ H _ I h) λv s1 ⟨x,H1,I1,r1,q1⟩=>?_)
 obtain⟨c,rfl,q1⟩:=q1
 cases r1
 exact not_of (wpAny_truthy_bool ⟨.bl (!c),H1,I1,rfl,q1⟩)
end
noncomputable def SqL(K:i0)(H:Hp)(a:Addr)(xs:List V):Prop :=
 Rd H a (.lst xs) \/
  ∃(o:Obj) (its:Array Value) (n:Nat),K.lookup a=some o/\o.cls=.type "list"/\o.dict=none/\o.data=.seq its n/\its.size<=sizeLine/\Vals xs its.toList
noncomputable def SqT(K:i0)(H:Hp)(a:Addr)(xs:List V):Prop :=
 Rd H a (.tup xs) \/
  ∃(o:Obj) (its:Array Value) (n:Nat),K.lookup a=some o/\o.cls=.type "tuple"/\o.data=.seq its n/\its.size<=sizeLine/\Vals xs its.toList
noncomputable def absV:Value->Option V
 | .none=>some .non
 | .bool b=>some (.bl b)
 | .int i _=>some (.int i)
 | .str x _=>some (.str x)
 | .bytes b _=>some (.byt b)
 | .float b _=>some (.flt b)
 | .ref a=>some (.ref a)
 | .type n=>some (.ty n)
 | _=>none
theorem RelV.abs{x:V}{u:Value}(r:RelV x u):absV u=some x:=by
 cases x with
 | non=>cases r;rfl
 | bl _=>cases r;rfl
 | int _=>obtain⟨t,rfl⟩:=r;rfl
 | str _=>obtain⟨t,rfl⟩:=r;rfl
 | byt _=>obtain⟨t,rfl⟩:=r;rfl
 | flt _=>obtain⟨t,rfl⟩:=r;rfl
 | ref _=>cases r;rfl
 | ty _=>cases r;rfl
theorem RelV.inj{x y:V}{u:Value}(r:RelV x u)(q:RelV y u):x=y:=S1 (r.abs.symm.trans q.abs)
theorem Vals.inj:∀{xs ys:List V}{us:List Value},Vals xs us->Vals ys us->xs=ys
 | _,_,_,.nil,.nil=>rfl
 | _,_,_,.cons r t,.cons r' t'=>by rw[r.inj r',Vals.inj t t']
section
variable {X:Cx}{pins:List (Addr×Obj)}{σ:St}{H:Hp}{s:Shared}{a:Addr}{xs ys:List V}
theorem SqL.of{K:i0}(h:H a=some (.lst xs)):SqL K H a xs:=.inl (.inl h)
theorem SqT.of{K:i0}(h:H a=some (.tup xs)):SqT K H a xs:=.inl (.inl h)
theorem Inv.list(I:Inv X pins σ H s)(h:SqL X.K H a xs):∃its:List Value,Vals xs its/\PlainL s.heap a its.toArray/\xs.length<=sizeLine:=by
 rcases h with h|⟨o,its,n,hk,hc,hd,hs,hz,r⟩
 ·obtain⟨z,its,n,r,e⟩:=h.ok I.hok
  exact ⟨its,r,⟨_,n,e,rfl,rfl,rfl⟩,z⟩
 ·refine ⟨its.toList,r,⟨o,n,I.kIn a o hk,hc,hd,by simpa using hs⟩,?_⟩
  have e:=r.length
  simp only[M0]at e
  omega
theorem Inv.tuple(I:Inv X pins σ H s)(h:SqT X.K H a xs):∃its:List Value,Vals xs its/\IsTup s.heap a its.toArray/\xs.length<=sizeLine:=by
 rcases h with h|⟨o,its,n,hk,hc,hs,hz,r⟩
 ·obtain⟨z,its,r,p⟩:=h.ok I.hok
  exact ⟨its,r,p.t,z⟩
 ·refine ⟨its.toList,r,⟨o,I.kIn a o hk,hc,n,by simpa using hs⟩,?_⟩
  have e:=r.length
  simp only[M0]at e
  omega
theorem Inv.list_inj(I:Inv X pins σ H s)(h:SqL X.K H a xs)(h':SqL X.K H a ys):xs=ys:=by
 obtain⟨its,r,⟨o,n,e,_,_,d⟩,_⟩:=I.list h
 obtain⟨its',r',⟨o',n',e',_,_,d'⟩,_⟩:=I.list h'
 rw[e]at e';cases e'
 rw[d]at d'
 injection d' with d1 _
 have:its=its':=by simpa using congrArg Array.toList d1
 subst this
 exact r.inj r'
theorem Inv.tuple_inj(I:Inv X pins σ H s)(h:SqT X.K H a xs)(h':SqT X.K H a ys):xs=ys:=by
 obtain⟨its,r,⟨o,e,_,n,d⟩,_⟩:=I.tuple h
 obtain⟨its',r',⟨o',e',_,n',d'⟩,_⟩:=I.tuple h'
 rw[e]at e';cases e'
 rw[d]at d'
 injection d' with d1 _
 have:its=its':=by simpa using congrArg Array.toList d1
 subst this
 exact r.inj r'
end
noncomputable abbrev Cx.wish(X:Cx)(E:Value->Shared->Prop):Cx:={ X with xe:=E }
noncomputable abbrev Cx.nox(X:Cx):Cx:=X.wish λ_ _=>False
theorem Cx.Ok.wish{X:Cx}(ok:X.Ok)(E:Value->Shared->Prop):(X.wish E).Ok :=
 ⟨ok.mod,ok.kind,ok.glob,ok.blt,ok.above,ok.inj,ok.has,ok.cab,ok.hd,ok.frames,ok.stk,ok.exf,ok.bs,ok.bsz,ok.noex,ok.exfs,ok.funs,ok.frf⟩
theorem Cx.Ok.unwish{X:Cx}{E:Value->Shared->Prop}(ok:(X.wish E).Ok):X.Ok :=
 ⟨ok.mod,ok.kind,ok.glob,ok.blt,ok.above,ok.inj,ok.has,ok.cab,ok.hd,ok.frames,ok.stk,ok.exf,ok.bs,ok.bsz,ok.noex,ok.exfs,ok.funs,ok.frf⟩
section
variable {X:Cx}{pins:List (Addr×Obj)}{σ:St}{H:Hp}{s:Shared}{E:Value->Shared->Prop}
theorem Inv.wish(I:Inv X pins σ H s)(E:Value->Shared->Prop):Inv (X.wish E) pins σ H s:=⟨I.ok.wish E,I.os,I.bare,I.base,I.loc,I.cell,I.free,I.freeC,I.pin,I.hok,I.len⟩
theorem Inv.unwish(I:Inv (X.wish E) pins σ H s):Inv X pins σ H s:=⟨I.ok.unwish,I.os,I.bare,I.base,I.loc,I.cell,I.free,I.freeC,I.pin,I.hok,I.len⟩
theorem SP.unwish{D:Ends}{f:Flow}{s':Shared}(h:SP (X.wish E) pins D f s'):SP X pins D f s':=by
 cases f with
 | next=>obtain⟨σ',H',I,q⟩:=h;exact ⟨σ',H',I.unwish,q⟩
 | brk=>obtain⟨σ',H',I,q⟩:=h;exact ⟨σ',H',I.unwish,q⟩
 | cont=>obtain⟨σ',H',I,q⟩:=h;exact ⟨σ',H',I.unwish,q⟩
 | ret u=>obtain⟨v,σ',H',I,r,q⟩:=h;exact ⟨v,σ',H',I.unwish,r,q⟩
theorem PT.nox{e:Expr}{t:TT}(h:PT X.nox e t):PT X e t:=λpins s σ H Q I hw =>
 wpAny_mono (h pins s σ H Q (I.wish _) hw) (λ_ _ ⟨H',I',q⟩=>⟨H',I'.unwish,q⟩) λ_ _ z=>False.elim z
theorem PSs.nox{st:List Stmt}{t:TS}(h:PSs X.nox st t):PSs X st t:=λpins s σ H D I hw =>
 wpAny_mono (h pins s σ H D (I.wish _) hw) (λ_ _ q=>q.unwish) λ_ _ z=>False.elim z
end
section
variable {X:Cx}{st:Stmt}{rest:List Stmt}{t u:TS}{e:Expr}{te:TE}{pos:Pos}
noncomputable def tNext:TS:=λD σ H=>D.nx σ H
noncomputable def tSeq(t u:TS):TS:=λD σ H=>t { D with nx:=u D } σ H
theorem pss_nil:PSs X [] tNext:=λ_ _ σ H _ I h=>wpAny_execs_nil ⟨σ,H,I,h⟩
theorem pss_cons(h1:PS X st t)(h2:PSs X rest u):PSs X (st :: rest) (tSeq t u):=by
 intro pins s σ H D I h
 refine wpAny_execs_cons (thn (h1 pins s σ H { D with nx:=u D } I h) λf s1 q=>?_)
 cases f with
 | next =>
  obtain⟨σ',H',I',q⟩:=q
  exact h2 pins s1 σ' H' D I' q
 | ret v=>exact q
 | brk=>exact q
 | cont=>exact q
theorem pss_one(h1:PS X st t):PSs X [st] t:=by
 intro pins s σ H D I h
 refine wpAny_execs_cons (thn (h1 pins s σ H D I h) λf s1 q=>?_)
 cases f with
 | next=>exact wpAny_execs_nil q
 | ret v=>exact q
 | brk=>exact q
 | cont=>exact q
theorem Inv.quiet{pins:List (Addr×Obj)}{σ:St}{H:Hp}{s:Shared}(I:Inv X pins σ H s):interactive X.env=false:=by simp[interactive,I.ok.kind]
noncomputable def tDrop(te:TE):TS:=λD σ H=>te σ H λ_ H1=>D.nx σ H1
theorem ps_expr(he:PE X e te)(hs:swapsWith e none pos.line X.env=pure false:=by rfl):PS X (.Expr e pos) (tDrop te):=by
 intro pins s σ H D I h
 exact wpAny_Expr_any (thn (he pins s σ H _ I h) λv s1 ⟨x,H1,I1,r1,q1⟩=>⟨σ,H1,I1,q1⟩) I.quiet hs
noncomputable def tRet(te:TE):TS:=λD σ H=>te σ H D.rt
theorem ps_ret(he:PE X e te):PS X (.Return (some e) pos) (tRet te):=by
 intro pins s σ H D I h
 exact wpAny_Return_some (thn (he pins s σ H _ I h) λv s1 ⟨x,H1,I1,r1,q1⟩=>⟨x,σ,H1,I1,r1,q1⟩)
noncomputable def tIfS(c:TT)(t u:TS):TS:=λD σ H=>c σ H λb H1=>if b=true then t D σ H1 else u D σ H1
theorem ps_if{c:Expr}{a b:List Stmt}{tc:TT}(hc:PT X c tc)(ha:PSs X a t)(hb:PSs X b u):PS X (.If c a b pos) (tIfS tc t u):=by
 intro pins s σ H D I h
 refine wpAny_If (thn (hc pins s σ H _ I h) λd s1 ⟨H1,I1,q1⟩=>?_)
 cases d with
 | true=>exact ha pins s1 σ H1 D I1 q1
 | false=>exact hb pins s1 σ H1 D I1 q1
end
noncomputable abbrev TG:=V->St->Hp->(St->Hp->Prop)->Prop
noncomputable abbrev TGs:=List V->St->Hp->(St->Hp->Prop)->Prop
noncomputable def PG(X:Cx)(target:Expr)(t:TG):Prop :=
 ∀(pins:List (Addr×Obj)) (s:Shared) (σ:St) (H:Hp) (v:V) (u:Value) (Q:St->Hp->Prop),Inv X pins σ H s->RelV v u->t v σ H Q ->
  wpAny (model X.prog X.w) X.A (assign target X.env u) (λ_ s'=>∃σ' H',Inv X pins σ' H' s'/\Q σ' H') X.xe s
noncomputable def PGs(X:Cx)(ts:List Expr)(t:TGs):Prop :=
 ∀(pins:List (Addr×Obj)) (s:Shared) (σ:St) (H:Hp) (vs:List V) (us:List Value) (Q:St->Hp->Prop),Inv X pins σ H s->Vals vs us->t vs σ H Q ->
  wpAny (model X.prog X.w) X.A (assignInOrder ((assignEach ts X.env).map (·.2)) us) (λ_ s'=>∃σ' H',Inv X pins σ' H' s'/\Q σ' H') X.xe s
section
variable {X:Cx}{pos:Pos}
noncomputable def gName(i:Nat):TG:=λv σ H Q=>Q (σ.set i (some v)) H
theorem pg_name{i:Nat}{x:Str}(hN:X.N.Nodup)(hi:X.N[i]?=some x)(hx:Loc X.env.scope x)(hf:X.fn x=true\/X.env.scope.names.lookup x=some .local:=by first|exact .inl rfl|exact .inr rfl|assumption):PG X (.Name x pos) (gName i):=by
 intro pins s σ H v u Q I r h
 exact wpAny_assign_Name (store_ok I hN hi hx r (λs' I'=>⟨_,H,I',h⟩) hf)
noncomputable def gNil:TGs:=λvs σ H Q=>vs=[]/\Q σ H
noncomputable def gCons(t:TG)(u:TGs):TGs:=λvs σ H Q=>∃v r,vs=v :: r/\t v σ H λσ' H'=>u r σ' H' Q
theorem pgs_nil:PGs X [] gNil:=by
 intro pins s σ H vs us Q I r h
 obtain⟨e,h⟩:=h
 subst e
 cases r
 exact assignInOrder_nil ⟨σ,H,I,h⟩
theorem pgs_cons{e:Expr}{es:List Expr}{t:TG}{u:TGs}(h1:PG X e t)(h2:PGs X es u)
  (hs:(assignEach (e :: es) X.env).map (·.2)=assign e X.env :: (assignEach es X.env).map (·.2):=by rfl):PGs X (e :: es) (gCons t u):=by
 intro pins s σ H vs us Q I r h
 obtain⟨v,vr,e1,h⟩:=h
 subst e1
 cases r with
 | cons r rr =>
  rw[hs]
  refine assignInOrder_cons (thn (h1 pins s σ H _ _ _ I r h) λ_ s1 ⟨σ1,H1,I1,q1⟩=>?_)
  exact h2 pins s1 σ1 H1 _ _ Q I1 rr q1
noncomputable def gTup(K:i0)(n:Nat)(t:TGs):TG:=λv σ H Q=>∃a xs,v=.ref a/\SqT K H a xs/\xs.length=n/\t xs σ H Q
theorem pg_tup{es:List Expr}{k:Nat}{t:TGs}{n:Nat}(hc:X.calm=true)(h:PGs X es t)
  (hn:(assignEach es X.env).length=n:=by rfl) (hst:(assignEach es X.env).findIdx? (·.1)=none:=by rfl):PG X (.Tuple es k pos) (gTup X.K n t):=by
 intro pins s σ H v u Q I r hw
 obtain⟨a,xs,e1,hq,hl,hw⟩:=hw
 subst e1
 cases r
 obtain⟨its,rv,ht,hz⟩:=I.tuple hq
 refine assign_Tuple_tuple (I.ok.hd hc) ht (by simp[hn,<- hl,rv.length]) hst λh' hx=>?_
 have I1:Inv X pins σ H { s with heap:=h' }:=I.kept (t':=s.toks) λb o e=>hx b o (V0 (v0 e)) e
 exact h pins _ σ H xs _ Q I1 (by simpa using rv) hw
noncomputable def tAsg(te:TE)(g:TG):TS:=λD σ H=>te σ H λx H1=>g x σ H1 D.nx
theorem ps_asg{tg e:Expr}{te:TE}{g:TG}(he:PE X e te)(hg:PG X tg g)(hs:swapsWithSole [tg] e pos.line X.env=pure false:=by rfl)(hw:swappedStores [tg] e X.env=pure none:=by rfl)
  (h1:(assignEach [tg] X.env).map (·.2)=[assign tg X.env]:=by rfl):PS X (.Assign [tg] e pos) (tAsg te g):=by
 intro pins s σ H D I h
 refine wpAny_Assign_stores (thn (he pins s σ H _ I h) λv s1 ⟨x,H1,I1,r1,q1⟩=>?_) hs hw
 rw[h1]
 exact thn (hg pins s1 σ H1 x v _ I1 r1 q1) λ_ s2 q=>q
theorem ps_set{i:Nat}{x:Str}{e:Expr}{te:TE}{pos':Pos}(hN:X.N.Nodup)(hi:X.N[i]?=some x)(hx:Loc X.env.scope x)(he:PE X e te)(hs:swapsWith e (some (.Name x pos')) pos.line X.env=pure false:=by rfl)(hf:X.fn x=true\/X.env.scope.names.lookup x=some .local:=by first|exact .inl rfl|exact .inr rfl|assumption) :
  PS X (.Assign [.Name x pos'] e pos) (tAsg te (gName i)):=by
 intro pins s σ H D I h
 refine wpAny_Assign_Name (thn (he pins s σ H _ I h) λv s1 ⟨y,H1,I1,r1,q1⟩=>?_) hs
 exact store_ok I1 hN hi hx r1 (λs2 I2=>⟨_,H1,I2,q1⟩) hf
end
section
variable {X:Cx}{pos:Pos}
end
structure It where
 go:Nat->Hp->Prop
 yld:Nat->Hp->V->Hp->Prop
 stop:Nat->Hp->Prop
noncomputable def FpOk(X:Cx)(pins:List (Addr×Obj))(H:Hp)(b:Addr):Prop :=
 H b=none/\b≠X.env.locals/\b∉X.fs/\(b∈X.ex\/X.s₀.heap.objs.size<=b)/\(∀x c,X.env.cells.lookup x=some c->c≠b)/\∀p∈X.pn++pins,p.1≠b
theorem Inv.fpOk{X:Cx}{pins:List (Addr×Obj)}{σ:St}{H H':Hp}{s:Shared}{b:Addr}(I:Inv X pins σ H s)(hb:s.heap.objs.size<=b)(hn:H' b=none):FpOk X pins H' b:=by
 refine ⟨hn,D3 (J0 I.lt hb),I.nofs hb,.inr (Q1 I.sz hb),λx c e z=>?_,λp hp z=>?_⟩
 ·obtain⟨v,q⟩:=I.cell x c e
  exact absurd (J0 q.lt (by rw[z];exact hb)) (V2 _)
 ·exact absurd (J0 (v0 (I.pin p hp).1) (by rw[z];exact hb)) (V2 _)
structure Turn(P:Program)(w:World)(K:i0)(tg:Expr)(J:It)(fp:List Addr)(it:Addr)(tn:Nat->Heap->Prop):Prop where
 mem:it∈fp
 obj:∀i h,tn i h->∀b∈fp,∃o,h.get? b=some o/\∀v,o.data≠.cell v
 keep:∀i h h',tn i h->(∀b∈fp,∀o,h.get? b=some o->h'.get? b=some o)->tn i h'
 item:∀(X:Cx),X.prog=P->X.w=w->X.K=K->X.calm=true->∀(i:Nat) (pins:List (Addr×Obj)) (s:Shared) (σ:St) (H:Hp) (E:Value->Shared->Prop),Inv X pins σ H s->(∀b∈fp,FpOk X pins H b)->tn i s.heap->J.go i H ->
  wpAny (model P w) X.A (pyNext (.ref it)) (λr s1=>∃u,r=some u /\
    wpAny (model P w) X.A (letOwnedTupleGo tg (.ref it) u) (λ_ s2=>∃x H',Inv X pins σ H' s2/\RelV x u/\J.yld i H x H'/\tn (i+1) s2.heap/\∀b∈fp,H' b=none) E s1) E s
 done:∀(X:Cx),X.prog=P->X.w=w->X.K=K->X.calm=true->∀(i:Nat) (pins:List (Addr×Obj)) (s:Shared) (σ:St) (H:Hp) (E:Value->Shared->Prop),Inv X pins σ H s->(∀b∈fp,FpOk X pins H b)->tn i s.heap->J.stop i H ->
  wpAny (model P w) X.A (pyNext (.ref it)) (λr s1=>r=none/\Inv X pins σ H s1) E s
 self:∀(A:Around) (i:Nat) (s:Shared) (Q:Value->Shared->Prop) (E:Value->Shared->Prop),tn i s.heap->Q (.ref it) s->wpAny (model P w) A (pyIter (.ref it)) Q E s
noncomputable abbrev TI:=St->Hp->(It->Hp->Prop)->Prop
noncomputable def PIE(X:Cx)(pins:List (Addr×Obj))(σ:St)(tg:Expr)(R:It->Hp->Prop)(itv:Value)(s2:Shared):Prop :=
 ∃(it:Addr) (fp:List Addr) (tn:Nat->Heap->Prop) (J:It) (H':Hp),itv=.ref it/\Inv X pins σ H' s2/\Turn X.prog X.w X.K tg J fp it tn/\tn 0 s2.heap/\(∀b∈fp,FpOk X pins H' b)/\R J H'
noncomputable def PI(X:Cx)(tg iter:Expr)(wi:TI):Prop :=
 ∀(pins:List (Addr×Obj)) (s:Shared) (σ:St) (H:Hp) (R:It->Hp->Prop),Inv X pins σ H s->wi σ H R ->
  wpAny (model X.prog X.w) X.A (eval iter X.env) (λv s1=>wpAny (model X.prog X.w) X.A (pyIter v) (PIE X pins σ tg R) X.xe s1) X.xe s
theorem go_of{M:Model}{A:Around}{E:Value->Shared->Prop}{s:Shared}{tg:Expr}{it:Addr}{u:Value}{o:Obj}{n:String}{vs:Array Value}{Q:Unit->Shared->Prop}(ho:s.heap.get? it=some o)(hc:o.cls=.type n)(hd:o.data=.fields vs)
  (hn:["enumerate","zip","dict_itemiterator","dict_reverseitemiterator","odict_iterator","itertools.zip_longest","itertools.pairwise"].contains n=false) (hQ:Q () s):wpAny M A (letOwnedTupleGo tg (.ref it) u) Q E s:=by
 unfold letOwnedTupleGo
 cases tg<;>first
  | exact wpAny_pure hQ
  | (cases u<;>first
      | exact wpAny_pure hQ
      | (refine wpAny_bind (wpAny_load ho ?_)
         rw[hc,hd]
         show wpAny M A (if (["enumerate","zip","dict_itemiterator","dict_reverseitemiterator","odict_iterator","itertools.zip_longest","itertools.pairwise"].contains n&&vs[0]?==some (rawInt _))=true then _ else _) Q E s
         rw[if_neg (by intro h;rw[hn,V7]at h;cases h)]
         exact wpAny_pure hQ))
noncomputable def Itl(K:i0)(a:Addr):It :=
 ⟨λi H=>∃xs x,SqL K H a xs/\xs[i]?=some x,λi H x H'=>H'=H/\∀xs,SqL K H a xs->xs[i]?=some x,λi H=>∃xs,SqL K H a xs/\xs.length<=i⟩
noncomputable def Itt(K:i0)(a:Addr):It :=
 ⟨λi H=>∃xs x,SqT K H a xs/\xs[i]?=some x,λi H x H'=>H'=H/\∀xs,SqT K H a xs->xs[i]?=some x,λi H=>∃xs,SqT K H a xs/\xs.length<=i⟩
noncomputable def Itr(lo:Int)(n:Nat):It:=⟨λi _=>i < n,λi H x H'=>H'=H/\x=.int (lo+i),λi _=>n<=i⟩
theorem turn_list{P:Program}{w:World}{K:i0}{tg:Expr}(a it:Addr):Turn P w K tg (Itl K a) [it] it (λi h=>h.IsListIter it a i) where
 mem:=by simp
 obj:=λi h st b hb=>by
  have e:b=it:=by simpa using hb
  subst e
  obtain⟨o,e,c,d⟩:=st
  exact ⟨o,e,λv z=>by rw[d]at z;cases z⟩
 keep:=λi h h' st k=>st.at λo e=>k it (by simp) o e
 item:=by
  intro X hP hw hK hc i pins s σ H E I hf st hg
  subst hP hw hK
  obtain⟨xs,x,hq,hx⟩:=hg
  obtain⟨its,rv,p,hz⟩:=I.list hq
  obtain⟨u,hu,ru⟩:=rv.get hx
  obtain⟨f0,f1,f2,f3,f4,f5⟩:=hf it (by simp)
  refine wpAny_pyNext_list_item st p.isList (x:=u) (by simpa using hu) λh' st' sb=>?_
  have I1:Inv X pins σ H { s with heap:=h' }:=I.turned (t':=s.toks) (λb o hb e=>(sb.2 b hb).trans e) f0 f1 f3 f4 f5
  obtain⟨o,e,c,d⟩:=id st'
  exact ⟨u,rfl,go_of (s:={ s with heap:=h' }) e c d (by decide) ⟨x,H,I1,ru,⟨rfl,λys hy=>by rw[I.list_inj hy hq];exact hx⟩,st',λb hb=>(hf b hb).1⟩⟩
 done:=by
  intro X hP hw hK hc i pins s σ H E I hf st hg
  subst hP hw hK
  obtain⟨xs,hq,hx⟩:=hg
  obtain⟨its,rv,p,hz⟩:=I.list hq
  obtain⟨f0,f1,f2,f3,f4,f5⟩:=hf it (by simp)
  have hl:=rv.length
  exact wpAny_pyNext_list_end (I.ok.hd hc) st p.isList (by simp;omega) λh' eb=>⟨rfl,I.turned (t':=s.toks) (λb o hb e=>eb b o hb e) f0 f1 f3 f4 f5⟩
 self:=λ_ _ _ _ _ st h=>wpAny_pyIter_listiter st h
theorem turn_tuple{P:Program}{w:World}{K:i0}{tg:Expr}(a it:Addr):Turn P w K tg (Itt K a) [it] it (λi h=>h.IsTupleIter it a i) where
 mem:=by simp
 obj:=λi h st b hb=>by
  have e:b=it:=by simpa using hb
  subst e
  obtain⟨o,e,c,d⟩:=st
  exact ⟨o,e,λv z=>by rw[d]at z;cases z⟩
 keep:=λi h h' st k=>st.at λo e=>k it (by simp) o e
 item:=by
  intro X hP hw hK hc i pins s σ H E I hf st hg
  subst hP hw hK
  obtain⟨xs,x,hq,hx⟩:=hg
  obtain⟨its,rv,p,hz⟩:=I.tuple hq
  obtain⟨u,hu,ru⟩:=rv.get hx
  obtain⟨f0,f1,f2,f3,f4,f5⟩:=hf it (by simp)
  refine wpAny_pyNext_tuple_item st (show s.heap.IsTuple a its.toArray from p) (x:=u) (by simpa using hu) λh' st' sb=>?_
  have I1:Inv X pins σ H { s with heap:=h' }:=I.turned (t':=s.toks) (λb o hb e=>(sb.2 b hb).trans e) f0 f1 f3 f4 f5
  obtain⟨o,e,c,d⟩:=id st'
  exact ⟨u,rfl,go_of (s:={ s with heap:=h' }) e c d (by decide) ⟨x,H,I1,ru,⟨rfl,λys hy=>by rw[I.tuple_inj hy hq];exact hx⟩,st',λb hb=>(hf b hb).1⟩⟩
 done:=by
  intro X hP hw hK hc i pins s σ H E I hf st hg
  subst hP hw hK
  obtain⟨xs,hq,hx⟩:=hg
  obtain⟨its,rv,p,hz⟩:=I.tuple hq
  obtain⟨f0,f1,f2,f3,f4,f5⟩:=hf it (by simp)
  have hl:=rv.length
  exact wpAny_pyNext_tuple_end (I.ok.hd hc) st (show s.heap.IsTuple a its.toArray from p) (by simp;omega) λh' eb=>⟨rfl,I.turned (t':=s.toks) (λb o hb e=>eb b o hb e) f0 f1 f3 f4 f5⟩
 self:=λ_ _ _ _ _ st h=>wpAny_pyIter_tupleiter st h
theorem turn_range{P:Program}{w:World}{K:i0}{tg:Expr}(it:Addr)(lo:Int)(n:Nat):Turn P w K tg (Itr lo n) [it] it (λi h=>IsRangeIter h it (lo+(i:Nat) * 1) ((n:Int) - (i:Nat)) 1) where
 mem:=by simp
 obj:=λi h st b hb=>by
  have e:b=it:=by simpa using hb
  subst e
  exact ⟨_,st,λv z=>by
    have z':Data.fields _=Data.cell v:=z
    cases z'⟩
 keep:=λi h h' st k=>k it (by simp) _ st
 item:=by
  intro X hP hw hK hc i pins s σ H E I hf st hg
  subst hP hw hK
  obtain⟨f0,f1,f2,f3,f4,f5⟩:=hf it (by simp)
  have W:=Walks.range (prog:=X.prog) (w:=X.w) (I.ok.hd hc) it lo 1 n
  refine W.item i s _ _ hg st λv h' tk hv st' kk=>?_
  obtain⟨t,rfl⟩:=hv
  have I1:Inv X pins σ H { s with heap:=h',toks:=tk }:=I.turned (λb o hb e=>kk b o (by simpa using hb) e) f0 f1 f3 f4 f5
  refine ⟨_,rfl,go_of (s:={ s with heap:=h',toks:=tk }) (n:="range_iterator") st' rfl rfl (by decide) ⟨.int (lo+i),H,I1,⟨t,?_⟩,⟨rfl,rfl⟩,st',λb hb=>(hf b hb).1⟩⟩
  rw[h7]
 done:=by
  intro X hP hw hK hc i pins s σ H E I hf st hg
  subst hP hw hK
  obtain⟨f0,f1,f2,f3,f4,f5⟩:=hf it (by simp)
  exact wpAny_pyNext_range_end (I.ok.hd hc) st (by have:n<=i:=hg;omega) λh' eb=>⟨rfl,I.turned (t':=s.toks) (λb o hb e=>eb b o hb e) f0 f1 f3 f4 f5⟩
 self:=λ_ _ _ _ _ st h=>wpAny_pyIter_rangeiter st h
section
variable {X:Cx}{tg:Expr}
theorem range_it{pins:List (Addr×Obj)}{σ:St}{H:Hp}{s:Shared}{R:It->Hp->Prop}{E:Value->Shared->Prop}{lo hi:Int}{t u v:Tok}{tk:Nat}(I:Inv X pins σ H s)(h1:-(2 ^ 62)<=lo)(h2:lo < 2 ^ 62)(h3:-(2 ^ 62)<=hi)(h4:hi < 2 ^ 62)
  (q:R (Itr lo (hi - lo).toNat) H):wpAny (model X.prog X.w) X.A (pyIter (.ref s.heap.objs.size)) (PIE X pins σ tg R) E { s with heap:=s.heap.push { cls:=.type "range",data:=.fields #[.int lo t,.int hi u,.int 1 v] },toks:=tk }:=by
 refine wpAny_pyIter_range (IsRange.new ..) (small_one h1 h2 h3 h4) ?_
 have I1:Inv X pins σ H { s with heap:=s.heap.push { cls:=.type "range",data:=.fields #[.int lo t,.int hi u,.int 1 v] },toks:=tk }:=I.kept λb o e=>g0 _ e
 refine ⟨(s.heap.push { cls:=.type "range",data:=.fields #[.int lo t,.int hi u,.int 1 v] }).objs.size,[(s.heap.push { cls:=.type "range",data:=.fields #[.int lo t,.int hi u,.int 1 v] }).objs.size],_,_,H,rfl,
   I1.kept (t':=tk) λb o e=>g0 _ e,turn_range _ lo (hi - lo).toNat,?_,λb hb=>?_,q⟩
 ·have e1:lo+((0:Nat):Int) * 1=lo:=by simp
  have e2:(((hi - lo).toNat:Nat):Int) - ((0:Nat):Int)=G7 lo hi 1:=by rw[rangeSize_one];split<;>omega
  show IsRangeIter _ _ (lo+((0:Nat):Int) * 1) ((((hi - lo).toNat:Nat):Int) - ((0:Nat):Int)) 1
  rw[e1,e2]
  exact G0 _ rfl
 ·have e:b=(s.heap.push { cls:=.type "range",data:=.fields #[.int lo t,.int hi u,.int 1 v] }).objs.size:=by simpa using hb
  subst e
  exact I1.fpOk (A0 _) (I1.hok.fresh (A0 _))
noncomputable def iRng1(ta:TA):TI:=λσ H R=>ta σ H λvs H1=>∃j:Int,vs=[.int j]/\-(2 ^ 62)<=j/\j < 2 ^ 62/\R (Itr 0 j.toNat) H1
noncomputable def iRng2(ta:TA):TI:=λσ H R=>ta σ H λvs H1=>∃i j:Int,vs=[.int i,.int j]/\(-(2 ^ 62)<=i/\i < 2 ^ 62/\-(2 ^ 62)<=j/\j < 2 ^ 62)/\R (Itr i (j - i).toNat) H1
theorem pi_range1{a:Expr}{ta:TA}{p pos:Pos}(hg:Gl X "range")(hm:X.mg "range"=none)(ha:PA X [a] ta)(hs:starEach [a] X.env=[(false,eval a X.env)]:=by rfl):PI X tg (.Call (.Name "range" p) [a] [] pos) (iRng1 ta):=by
 intro pins s σ H R I h
 refine Call_ (ld_blt I hg hm boot_range (m3 (thn (ha pos pins s σ H _ I h) λus s1 ⟨vs,H1,I1,r1,q1⟩=>?_) hs rfl))
 obtain⟨j,e,q1,q2,q⟩:=q1
 subst e
 cases r1 with
 | cons r rr =>
  cases rr
  obtain⟨t,rfl⟩:=r
  exact call_range_1 (range_it I1 (by omega) (by omega) q1 q2 (by simpa using q))
theorem pi_range2{a b:Expr}{ta:TA}{p pos:Pos}(hg:Gl X "range")(hm:X.mg "range"=none)(ha:PA X [a,b] ta)(hs:starEach [a,b] X.env=[(false,eval a X.env),(false,eval b X.env)]:=by rfl)(hs2:starEach [b] X.env=[(false,eval b X.env)]:=by rfl) :
  PI X tg (.Call (.Name "range" p) [a,b] [] pos) (iRng2 ta):=by
 intro pins s σ H R I h
 refine Call_ (ld_blt I hg hm boot_range (m3 (thn (ha pos pins s σ H _ I h) λus s1 ⟨vs,H1,I1,r1,q1⟩=>?_) (by rw[hs,hs2]) (by rw[hs2];rfl)))
 obtain⟨i,j,e,⟨q1,q2,q3,q4⟩,q⟩:=q1
 subst e
 cases r1 with
 | cons r rr =>
  cases rr with
  | cons r' rr =>
   cases rr
   obtain⟨t,rfl⟩:=r
   obtain⟨t',rfl⟩:=r'
   exact call_range_2 (range_it I1 q1 q2 q3 q4 q)
noncomputable def tFor(wi:TI)(g:TG)(tb:TS):TS:=λD σ H=>wi σ H λJ H1=>∃W:Nat->Nat->St->Hp->Prop,(∃m,W 0 m σ H1)/\∀i m σ H,W i m σ H ->
 (J.stop i H/\D.nx σ H)\/(J.go i H/\∃N:St->Hp->Prop,(∀σ' H',N σ' H'->∃m',m' < m/\W (i+1) m' σ' H')/\∀x H',J.yld i H x H'->g x σ H' λσ2 H2=>tb { D with nx:=N,ct:=N,bk:=D.nx } σ2 H2)
noncomputable def pinsAt(fp:List Addr)(h:Heap):List (Addr×Obj):=fp.filterMap λb=>(h.get? b).map λo=>(b,o)
theorem mem_pinsAt{fp:List Addr}{h:Heap}{b:Addr}{o:Obj}(hb:b∈fp)(e:h.get? b=some o):(b,o)∈pinsAt fp h:=P5.mpr ⟨b,hb,by rw[e];rfl⟩
theorem of_pinsAt{fp:List Addr}{h:Heap}{p:Addr×Obj}(hp:p∈pinsAt fp h):p.1∈fp/\h.get? p.1=some p.2:=by
 obtain⟨b,hb,e⟩:=P5.mp hp
 cases q:h.get? b with
 | none=>rw[q]at e;cases e
 | some o =>
  rw[q]at e
  have e':(b,o)=p:=S1 e
  subst e'
  exact ⟨hb,q⟩
theorem Inv.pinned{pins:List (Addr×Obj)}{σ:St}{H:Hp}{s:Shared}{fp:List Addr}(I:Inv X pins σ H s)(hf:∀b∈fp,FpOk X pins H b)(ho:∀b∈fp,∃o,s.heap.get? b=some o/\∀v,o.data≠.cell v):Inv X (pins++pinsAt fp s.heap) σ H s :=
 I.pins_of λp hp=>(u3.mp hp).elim (λz=>I.pin p (D1 _ z)) λz=>by
  obtain⟨hb,e⟩:=of_pinsAt z
  obtain⟨f0,f1,f2,_⟩:=hf p.1 hb
  obtain⟨o,e',d⟩:=ho p.1 hb
  rw[e]at e';cases e'
  exact ⟨e,f0,f1,f2,d⟩
theorem Inv.unpinned{pins pl:List (Addr×Obj)}{σ:St}{H:Hp}{s:Shared}(I:Inv X (pins++pl) σ H s):Inv X pins σ H s:=I.pins_of λp hp=>I.pin p (D1 _ (E6 _ hp))
theorem ps_for{iter:Expr}{body:List Stmt}{wi:TI}{g:TG}{tb:TS}{pos:Pos}(hp:PassesOwn (model X.prog X.w) X.A X.env X.xe)(hc:X.calm=true)(hi:PI X tg iter wi)(hg:PG X tg g)(hb:PSs X body tb)
  (hs:∀x,foldedSetIterable iter X.env x=pure x:=by intro _;rfl):PS X (.For tg iter body [] pos) (tFor wi g tb):=by
 intro pins s σ H D I h
 refine wpAny_For (thn (hi pins s σ H _ I h) λv s1 h1=>thn h1 λitv s2 h2=>?_) hs
 obtain⟨it,fp,tn,J,H2,e,I2,T,st2,f2,W,⟨m0,w0⟩,turn⟩:=h2
 subst e
 have stat:∀{H':Hp},(∀b∈fp,H' b=none)->∀b∈fp,FpOk X pins H' b:=λhn b hb=>⟨hn b hb,(f2 b hb).2⟩
 refine codeAny_forLoop_any (λn s'=>∃i σ' H',Inv X pins σ' H' s'/\tn i s'.heap/\(∀b∈fp,H' b=none)/\W i n σ' H') ?_ m0 ⟨0,σ,H2,I2,st2,λb hb=>(f2 b hb).1,w0⟩
 rintro n s3 ⟨i,σ3,H3,I3,st3,fr3,w3⟩
 rcases turn i n σ3 H3 w3 with⟨stop,qn⟩|⟨go,N,hN,step⟩
 ·refine wpAny_passesOwn hp (thn (T.done X rfl rfl rfl hc i pins s3 σ3 H3 X.xe I3 (stat fr3) st3 stop) λr s4 ⟨hr,I4⟩=>?_)
  subst hr
  exact wpAny_execs_nil ⟨σ3,H3,I4,qn⟩
 ·refine wpAny_passesOwn hp (thn (T.item X rfl rfl rfl hc i pins s3 σ3 H3 X.xe I3 (stat fr3) st3 go) λr s4 ⟨u,hr,h4⟩=>?_)
  subst hr
  refine wpAny_passesOwn hp (thn h4 λ_ s5 ⟨x,H5,I5,r5,y5,st5,fr5⟩=>?_)
  have I5':=I5.pinned (stat fr5) (T.obj _ _ st5)
  refine wpAny_passesOwn hp (thn (hg _ s5 σ3 H5 x u _ I5' r5 (step x H5 y5)) λ_ s6 ⟨σ6,H6,I6,q6⟩=>?_)
  refine wpAny_passesOwn hp (thn (hb _ s6 σ6 H6 _ I6 q6) λf s7 q7=>?_)
  have again:∀{σ7:St}{H7:Hp},Inv X (pins++pinsAt fp s5.heap) σ7 H7 s7->N σ7 H7->∃m,m < n/\∃i σ' H',Inv X pins σ' H' s7/\tn i s7.heap/\(∀b∈fp,H' b=none)/\W i m σ' H':=λ{σ7 H7} I7 n7=>by
   obtain⟨m',hm,w7⟩:=hN σ7 H7 n7
   refine ⟨m',hm,i+1,σ7,H7,I7.unpinned,T.keep _ _ _ st5 λb hb o e=>(I7.pin (b,o) (D1 _ (D1 _ (mem_pinsAt hb e)))).1,λb hb=>?_,w7⟩
   obtain⟨o,e,d⟩:=T.obj _ _ st5 b hb
   exact (I7.pin (b,o) (D1 _ (D1 _ (mem_pinsAt hb e)))).2.1
  cases f with
  | next=>obtain⟨σ7,H7,I7,n7⟩:=q7;exact again I7 n7
  | cont=>obtain⟨σ7,H7,I7,n7⟩:=q7;exact again I7 n7
  | brk=>obtain⟨σ7,H7,I7,q7⟩:=q7;exact ⟨σ7,H7,I7.unpinned,q7⟩
  | ret v=>obtain⟨x7,σ7,H7,I7,r7,q7⟩:=q7;exact ⟨x7,σ7,H7,I7.unpinned,r7,q7⟩
end
noncomputable abbrev R2:=V->V->Hp->VK->Prop
noncomputable def OpR(X:Cx)(f:Value->Value->Sem Value)(r:R2):Prop :=
 ∀(pins:List (Addr×Obj)) (s:Shared) (σ:St) (H:Hp) (x y:V) (v u:Value) (Q:VK),Inv X pins σ H s->RelV x v->RelV y u->r x y H Q ->
  wpAny (model X.prog X.w) X.A (f v u) (EP X pins σ Q) X.xe s
noncomputable def UnR(X:Cx)(f:Value->Sem Value)(r:V->Hp->VK->Prop):Prop :=
 ∀(pins:List (Addr×Obj)) (s:Shared) (σ:St) (H:Hp) (x:V) (v:Value) (Q:VK),Inv X pins σ H s->RelV x v->r x H Q ->
  wpAny (model X.prog X.w) X.A (f v) (EP X pins σ Q) X.xe s
noncomputable def CallR(X:Cx)(f:Value)(r:List V->Hp->VK->Prop):Prop :=
 ∀(pins:List (Addr×Obj)) (s:Shared) (σ:St) (H:Hp) (xs:List V) (us:List Value) (Q:VK),Inv X pins σ H s->Vals xs us->r xs H Q ->
  wpAny (model X.prog X.w) X.A (call f us) (EP X pins σ Q) X.xe s
noncomputable def tOp(r:R2)(ta tb:TE):TE:=λσ H Q=>ta σ H λx H1=>tb σ H1 λy H2=>r x y H2 Q
noncomputable def tUn(r:V->Hp->VK->Prop)(ta:TE):TE:=λσ H Q=>ta σ H λx H1=>r x H1 Q
noncomputable def rI(C:Int->Int->Prop)(g:Int->Int->V):R2:=λx y H Q=>∃i j,x=.int i/\y=.int j/\C i j/\Q (g i j) H
noncomputable def rI0(g:Int->Int->V):R2:=λx y H Q=>∃i j,x=.int i/\y=.int j/\Q (g i j) H
noncomputable def rU(g:Int->V):V->Hp->VK->Prop:=λx H Q=>∃i,x=.int i/\Q (g i) H
section
variable {X:Cx}{a b c:Expr}{ta tb tc:TE}{pos:Pos}
theorem binT(ha:PE X a ta)(hb:PE X b tb){pins:List (Addr×Obj)}{s:Shared}{σ:St}{H:Hp}{R:V->V->Hp->Prop}(I:Inv X pins σ H s)
  (h:ta σ H λx H1=>tb σ H1 λy H2=>R x y H2) {Q:Value->Shared->Prop}{f:Value->Value->Sem Value}
  (hf:∀v u s2 x y H2,Inv X pins σ H2 s2->RelV x v->RelV y u->R x y H2->wpAny (model X.prog X.w) X.A (f v u) Q X.xe s2) :
  wpAny (model X.prog X.w) X.A (eval a X.env) (λv s₁=>wpAny (model X.prog X.w) X.A (eval b X.env) (λu s₂=>wpAny (model X.prog X.w) X.A (f v u) Q X.xe s₂) X.xe s₁) X.xe s:=by
 refine thn (ha pins s σ H _ I h) λv s1 ⟨x,H1,I1,r1,q1⟩=>?_
 refine thn (hb pins s1 σ H1 _ I1 q1) λu s2 ⟨y,H2,I2,r2,q2⟩=>?_
 exact hf v u s2 x y H2 I2 r1 r2 q2
theorem pe_op{op:Operator}{r:R2}(ho:OpR X (binaryOp op) r)(ha:PE X a ta)(hb:PE X b tb):PE X (.BinOp a op b pos) (tOp r ta tb):=by
 intro pins s σ H Q I h
 exact wpAny_BinOp (binT ha hb I h λv u s2 x y H2 I2 rx ry q=>ho pins s2 σ H2 x y v u Q I2 rx ry q)
theorem pe_un{op:UnaryOp}{r:V->Hp->VK->Prop}(ho:UnR X (unaryOp op) r)(ha:PE X a ta):PE X (.UnaryOp op a pos) (tUn r ta):=by
 intro pins s σ H Q I h
 exact UnaryOp_ (thn (ha pins s σ H _ I h) λv s1 ⟨x,H1,I1,r1,q1⟩=>ho pins s1 σ H1 x v Q I1 r1 q1)
theorem opI{f:Value->Value->Sem Value}{C:Int->Int->Prop}{g:Int->Int->Int}
  (rule:∀(i j:Int) (t u:Tok) (s:Shared) (Q:Value->Shared->Prop) (E:Value->Shared->Prop),C i j->Q (.int (g i j) s.toks) { s with toks:=s.toks+1 }->wpAny (model X.prog X.w) X.A (f (.int i t) (.int j u)) Q E s) :
  OpR X f (rI C λi j=>.int (g i j)):=by
 intro pins s σ H x y v u Q I rx ry h
 obtain⟨i,j,rfl,rfl,hc,q⟩:=h
 obtain⟨t,rfl⟩:=rx
 obtain⟨t',rfl⟩:=ry
 exact rule i j t t' s _ _ hc ⟨.int (g i j),H,I.tok _,⟨_,rfl⟩,q⟩
theorem opI0{f:Value->Value->Sem Value}{g:Int->Int->Int}
  (rule:∀(i j:Int) (t u:Tok) (s:Shared) (Q:Value->Shared->Prop) (E:Value->Shared->Prop),Q (.int (g i j) s.toks) { s with toks:=s.toks+1 }->wpAny (model X.prog X.w) X.A (f (.int i t) (.int j u)) Q E s) :
  OpR X f (rI0 λi j=>.int (g i j)):=by
 intro pins s σ H x y v u Q I rx ry h
 obtain⟨i,j,rfl,rfl,q⟩:=h
 obtain⟨t,rfl⟩:=rx
 obtain⟨t',rfl⟩:=ry
 exact rule i j t t' s _ _ ⟨.int (g i j),H,I.tok _,⟨_,rfl⟩,q⟩
theorem opB0{f:Value->Value->Sem Value}{g:Int->Int->Bool}
  (rule:∀(i j:Int) (t u:Tok) (s:Shared) (Q:Value->Shared->Prop) (E:Value->Shared->Prop),Q (.bool (g i j)) s->wpAny (model X.prog X.w) X.A (f (.int i t) (.int j u)) Q E s) :
  OpR X f (rI0 λi j=>.bl (g i j)):=by
 intro pins s σ H x y v u Q I rx ry h
 obtain⟨i,j,rfl,rfl,q⟩:=h
 obtain⟨t,rfl⟩:=rx
 obtain⟨t',rfl⟩:=ry
 exact rule i j t t' s _ _ ⟨.bl (g i j),H,I,rfl,q⟩
noncomputable def CDiv(i j:Int):Prop:=0 < j/\j < 1073741824
noncomputable def CPow(i j:Int):Prop:=0<=j/\j<=1000000/\i.natAbs < 2 ^ 64
noncomputable def CMul(i j:Int):Prop:=(-(2 ^ 64) < i/\i < 2 ^ 64)\/(-(2 ^ 64) < j/\j < 2 ^ 64)
theorem CMul.ok{i j:Int}(h:CMul i j):IntMulOk i j:=by
 rcases h with⟨h1,h2⟩|⟨h1,h2⟩
 ·exact .of_left (intBits_le_64 h1 h2)
 ·exact .of_right (intBits_le_64 h1 h2)
theorem op_add:OpR X (binaryOp .Add) (rI0 λi j=>.int (i+j)):=opI0 λ_ _ _ _ _ _ _ q=>add_int q
theorem op_sub:OpR X (binaryOp .Sub) (rI0 λi j=>.int (i - j)):=opI0 λ_ _ _ _ _ _ _ q=>sub_int q
theorem op_mul:OpR X (binaryOp .Mult) (rI CMul λi j=>.int (i * j)):=opI λ_ _ _ _ _ _ _ hc q=>mul_int q hc.ok
theorem op_fdiv:OpR X (binaryOp .FloorDiv) (rI CDiv λi j=>.int (i / j)):=opI λi j _ _ _ _ _ hc q=>by
 have h1:(0:Int) < j:=hc.1
 have h2:j < 1073741824:=hc.2
 exact floordiv_int (by omega) (by rw[Int.fdiv_eq_ediv_of_nonneg i (by omega)];exact q) (.inl (PyProof.noPylong_small (by omega)))
theorem op_mod:OpR X (binaryOp .Mod) (rI (λ_ j=>0 < j) λi j=>.int (i % j)):=opI λi j _ _ _ _ _ hc q=>by
 have h1:(0:Int) < j:=hc
 exact mod_int' (by omega) (by rw[Int.fmod_eq_emod_of_nonneg i (by omega)];exact q)
theorem op_pow:OpR X (binaryOp .Pow) (rI CPow λi j=>.int (i ^ j.toNat)):=opI λ_ _ _ _ _ _ _ hc q=>pow_int_small hc.1 hc.2.1 hc.2.2 q
theorem unI{f:Value->Sem Value}{g:Int->Int}
  (rule:∀(i:Int) (t:Tok) (s:Shared) (Q:Value->Shared->Prop) (E:Value->Shared->Prop),Q (.int (g i) s.toks) { s with toks:=s.toks+1 }->wpAny (model X.prog X.w) X.A (f (.int i t)) Q E s) :
  UnR X f (rU λi=>.int (g i)):=by
 intro pins s σ H x v Q I rx h
 obtain⟨i,rfl,q⟩:=h
 obtain⟨t,rfl⟩:=rx
 exact rule i t s _ _ ⟨.int (g i),H,I.tok _,⟨_,rfl⟩,q⟩
theorem un_neg:UnR X (unaryOp .USub) (rU λi=>.int (-i)):=unI λ_ _ _ _ _ q=>neg_int q
end
noncomputable def scal:V->V->Bool
 | .non,.non=>true | .non,.int _=>true | .int _,.non=>true | .non,.bl _=>true | .bl _,.non=>true | .non,.str _=>true | .str _,.non=>true
 | .int _,.int _=>true | .bl _,.bl _=>true | .str _,.str _=>true | .byt _,.byt _=>true
 | .int _,.str _=>true | .str _,.int _=>true | .bl _,.str _=>true | .str _,.bl _=>true
 | _,_=>false
noncomputable def rEq:R2:=λx y H Q=>scal x y=true/\Q (.bl (decide (x=y))) H
noncomputable def rNe:R2:=λx y H Q=>scal x y=true/\Q (.bl (!decide (x=y))) H
theorem dec_int{i j:Int}:decide (V.int i=V.int j)=(i==j):=by
 rw[K5]
 simp
theorem dec_bl{i j:Bool}:decide (V.bl i=V.bl j)=(i==j):=by
 rw[K5]
 simp
theorem dec_str{i j:Str}:decide (V.str i=V.str j)=(i==j):=by
 rw[K5]
 simp
theorem dec_byt{i j:Array UInt8}:decide (V.byt i=V.byt j)=(i.toList==j.toList):=by
 rw[K5]
 cases i
 cases j
 simp
section
variable {X:Cx}{a b c:Expr}{ta tb tc:TE}{pos:Pos}
theorem fin_bl{pins:List (Addr×Obj)}{σ:St}{H:Hp}{s:Shared}{Q:VK}{k k':Bool}(I:Inv X pins σ H s)(q:Q (.bl k) H)(e:k=k'):EP X pins σ Q (.bool k') s:=by
 subst e
 exact ⟨.bl k,H,I,rfl,q⟩
theorem op_eq:OpR X (compareOp .Eq) rEq:=by
 intro pins s σ H x y v u Q I rx ry h
 obtain⟨hs,q⟩:=h
 cases x with
 | non =>
  cases rx
  cases y with
  | non=>cases ry;exact PySem.EqNone.eq_none_none (fin_bl I q (by simp))
  | bl j=>cases ry;exact PySem.EqNone.eq_none_bool (fin_bl I q (by simp))
  | int j=>obtain⟨t',rfl⟩:=ry;exact PySem.EqNone.eq_none_int (fin_bl I q (by simp))
  | str j=>obtain⟨t',rfl⟩:=ry;exact PySem.EqNone.eq_none_str (fin_bl I q (by simp))
  | _=>exact absurd (show false=true from hs) W0
 | bl i =>
  cases rx
  cases y with
  | non=>cases ry;exact PySem.EqNone.eq_bool_none (fin_bl I q (by simp))
  | bl j=>cases ry;exact eq_bool (fin_bl I q dec_bl)
  | str j=>obtain⟨t',rfl⟩:=ry;exact PySem.EqMixed.eq_bool_str (fin_bl I q (by simp))
  | _=>exact absurd (show false=true from hs) W0
 | int i =>
  obtain⟨t,rfl⟩:=rx
  cases y with
  | non=>cases ry;exact PySem.EqNone.eq_int_none (fin_bl I q (by simp))
  | int j=>obtain⟨t',rfl⟩:=ry;exact eq_int (fin_bl I q dec_int)
  | str j=>obtain⟨t',rfl⟩:=ry;exact PySem.EqMixed.eq_int_str (fin_bl I q (by simp))
  | _=>exact absurd (show false=true from hs) W0
 | str i =>
  obtain⟨t,rfl⟩:=rx
  cases y with
  | non=>cases ry;exact PySem.EqNone.eq_str_none (fin_bl I q (by simp))
  | bl j=>cases ry;exact PySem.EqMixed.eq_str_bool (fin_bl I q (by simp))
  | int j=>obtain⟨t',rfl⟩:=ry;exact PySem.EqMixed.eq_str_int (fin_bl I q (by simp))
  | str j=>obtain⟨t',rfl⟩:=ry;exact eq_str (fin_bl I q dec_str)
  | _=>exact absurd (show false=true from hs) W0
 | byt i =>
  obtain⟨t,rfl⟩:=rx
  cases y with
  | byt j=>obtain⟨t',rfl⟩:=ry;exact PySem.W.eq_bytes (fin_bl I q dec_byt)
  | _=>exact absurd (show false=true from hs) W0
 | _=>cases y<;>exact absurd (show false=true from hs) W0
theorem op_ne:OpR X (compareOp .NotEq) rNe:=by
 intro pins s σ H x y v u Q I rx ry h
 obtain⟨hs,q⟩:=h
 cases x with
 | non =>
  cases rx
  cases y with
  | non=>cases ry;exact PySem.EqNone.ne_none_none (fin_bl I q (by simp))
  | bl j=>cases ry;exact PySem.EqNone.ne_none_bool (fin_bl I q (by simp))
  | int j=>obtain⟨t',rfl⟩:=ry;exact PySem.EqNone.ne_none_int (fin_bl I q (by simp))
  | str j=>obtain⟨t',rfl⟩:=ry;exact PySem.EqNone.ne_none_str (fin_bl I q (by simp))
  | _=>exact absurd (show false=true from hs) W0
 | bl i =>
  cases rx
  cases y with
  | non=>cases ry;exact PySem.EqNone.ne_bool_none (fin_bl I q (by simp))
  | bl j=>cases ry;exact ne_bool (fin_bl I q (congrArg not dec_bl))
  | str j=>obtain⟨t',rfl⟩:=ry;exact PySem.EqMixed.ne_bool_str (fin_bl I q (by simp))
  | _=>exact absurd (show false=true from hs) W0
 | int i =>
  obtain⟨t,rfl⟩:=rx
  cases y with
  | non=>cases ry;exact PySem.EqNone.ne_int_none (fin_bl I q (by simp))
  | int j=>obtain⟨t',rfl⟩:=ry;exact ne_int (fin_bl I q (congrArg not dec_int))
  | str j=>obtain⟨t',rfl⟩:=ry;exact PySem.EqMixed.ne_int_str (fin_bl I q (by simp))
  | _=>exact absurd (show false=true from hs) W0
 | str i =>
  obtain⟨t,rfl⟩:=rx
  cases y with
  | non=>cases ry;exact PySem.EqNone.ne_str_none (fin_bl I q (by simp))
  | bl j=>cases ry;exact PySem.EqMixed.ne_str_bool (fin_bl I q (by simp))
  | int j=>obtain⟨t',rfl⟩:=ry;exact PySem.EqMixed.ne_str_int (fin_bl I q (by simp))
  | str j=>obtain⟨t',rfl⟩:=ry;exact ne_str (fin_bl I q (congrArg not dec_str))
  | _=>exact absurd (show false=true from hs) W0
 | byt i =>
  obtain⟨t,rfl⟩:=rx
  cases y with
  | byt j=>obtain⟨t',rfl⟩:=ry;exact PySem.W.ne_bytes (fin_bl I q (congrArg not dec_byt))
  | _=>exact absurd (show false=true from hs) W0
 | _=>cases y<;>exact absurd (show false=true from hs) W0
theorem op_lt:OpR X (compareOp .Lt) (rI0 λi j=>.bl (decide (i < j))):=opB0 λ_ _ _ _ _ _ _ q=>lt_int q
theorem op_le:OpR X (compareOp .LtE) (rI0 λi j=>.bl (decide (i<=j))):=opB0 λ_ _ _ _ _ _ _ q=>le_int q
theorem op_gt:OpR X (compareOp .Gt) (rI0 λi j=>.bl (decide (j < i))):=opB0 λ_ _ _ _ _ _ _ q=>gt_int q
theorem op_ge:OpR X (compareOp .GtE) (rI0 λi j=>.bl (decide (j<=i))):=opB0 λ_ _ _ _ _ _ _ q=>ge_int q
theorem op_notN:OpR X (compareOp .IsNot) (λx y H Q=>y=.non/\Q (.bl (!decide (x=.non))) H):=by
 intro pins s σ H x y v u Q I rx ry h
 obtain⟨rfl,q⟩:=h
 cases ry
 refine isnot_none_gen (fin_bl I q ?_)
 cases x<;>first
  | (cases rx;rfl)
  | (obtain⟨t,rfl⟩:=rx;rfl)
theorem OpR.or{f:Value->Value->Sem Value}{r r':R2}(h:OpR X f r)(h':OpR X f r'):OpR X f (λx y H Q=>r x y H Q\/r' x y H Q):=by
 intro pins s σ H x y v u Q I rx ry q
 rcases q with q|q
 ·exact h pins s σ H x y v u Q I rx ry q
 ·exact h' pins s σ H x y v u Q I rx ry q
theorem nomark(b:Expr){op:CmpOp}(h:op≠.In:=by decide)(h2:op≠.NotIn:=by decide):behindInMarks op b=false:=by
 have e1:(op==CmpOp.In)=false:=by cases op<;>first|rfl|exact absurd rfl h
 have e2:(op==CmpOp.NotIn)=false:=by cases op<;>first|rfl|exact absurd rfl h2
 cases b<;>simp[behindInMarks,e1,e2]
theorem pe_cmpR{op:CmpOp}{r:R2}(ho:OpR X (compareOp op) r)(ha:PE X a ta)(hb:PE X b tb)(hm:behindInMarks op b=false):PE X (.Compare a [op] [b] pos) (tOp r ta tb):=by
 intro pins s σ H Q I h
 exact wpAny_Compare1 (binT ha hb I h λv u s2 x y H2 I2 rx ry q=>ho pins s2 σ H2 x y v u Q I2 rx ry q) hm
noncomputable def tTest(t:TE):TT:=λσ H Q=>t σ H λx H'=>∃k,x=.bl k/\Q k H'
theorem pt_cmpR{op:CmpOp}{r:R2}(ho:OpR X (compareOp op) r)(ha:PE X a ta)(hb:PE X b tb)(hm:behindInMarks op b=false):PT X (.Compare a [op] [b] pos) (tTest (tOp r ta tb)):=by
 intro pins s σ H Q I h
 refine wpAny_isTrue_Compare1 (thn (ha pins s σ H _ I h) λv s1 ⟨x,H1,I1,r1,q1⟩=>thn (hb pins s1 σ H1 _ I1 q1) λu s2 ⟨y,H2,I2,r2,q2⟩ =>
   thn (ho pins s2 σ H2 x y v u _ I2 r1 r2 q2) λc s3 ⟨z,H3,I3,r3,k,e,q3⟩=>?_) hm
 subst e
 cases r3
 exact wpAny_truthy_bool ⟨H3,I3,q3⟩
noncomputable def tChain(r r':R2)(ta tb tc:TE):TE:=λσ H Q=>ta σ H λx H1=>tb σ H1 λy H2=>r x y H2 λz H3=>∃k,z=.bl k /\
 (if k=true then tc σ H3 λw' H4=>r' y w' H4 Q else Q (.bl false) H3)
theorem pe_chain{op op':CmpOp}{r r':R2}(ho:OpR X (compareOp op) r)(ho':OpR X (compareOp op') r')(ha:PE X a ta)(hb:PE X b tb)(hc:PE X c tc)
  (hm:lastMarks [op,op'] [b,c]=false:=by with_unfolding_all rfl):PE X (.Compare a [op,op'] [b,c] pos) (tChain r r' ta tb tc):=by
 intro pins s σ H Q I h
 refine Compare_chain (thn (ha pins s σ H _ I h) λv s1 ⟨x,H1,I1,r1,q1⟩=>chain_link (thn (hb pins s1 σ H1 _ I1 q1) λu s2 ⟨y,H2,I2,r2,q2⟩ =>
   thn (ho pins s2 σ H2 x y v u _ I2 r1 r2 q2) λd s3 ⟨z,H3,I3,r3,k,e,q3⟩=>?_)) hm
 subst e
 cases r3
 refine wpAny_truthy_bool ?_
 cases k with
 | false=>exact ite_ff ⟨.bl false,H3,I3,rfl,q3⟩
 | true=>exact ite_tt (chain_last (thn (hc pins s3 σ H3 _ I3 q3) λw' s4 ⟨z',H4,I4,r4,q4⟩=>ho' pins s4 σ H4 y z' u w' Q I4 r2 r4 q4))
theorem line63:(sizeLine:Nat) < 2 ^ 63:=by rw[sizeLine_eq];decide
theorem vals1{x:V}{us:List Value}(r:Vals [x] us):∃u,us=[u]/\RelV x u:=by
 cases r with
 | cons r1 r2=>cases r2;exact ⟨_,rfl,r1⟩
theorem vals2{x y:V}{us:List Value}(r:Vals [x,y] us):∃u w',us=[u,w']/\RelV x u/\RelV y w':=by
 cases r with
 | cons r1 r2 =>
  cases r2 with
  | cons r3 r4=>cases r4;exact ⟨_,_,rfl,r1,r3⟩
theorem call_abs:CallR X (.builtin "abs") (λxs H Q=>∃i,xs=[.int i]/\Q (.int (if i < 0 then -i else i)) H):=by
 intro pins s σ H xs us Q I r h
 obtain⟨i,rfl,q⟩:=h
 obtain⟨u,rfl,t,rfl⟩:=vals1 r
 exact call_abs_int λu tk=>⟨.int (if i < 0 then -i else i),H,I.tok _,⟨_,rfl⟩,q⟩
theorem call_min2(hc:X.calm=true):CallR X (.builtin "min") (λxs H Q=>∃i j,xs=[.int i,.int j]/\Q (.int (if j < i then j else i)) H):=by
 intro pins s σ H xs us Q I r h
 obtain⟨i,j,rfl,q⟩:=h
 obtain⟨u,w',rfl,⟨t,rfl⟩,⟨t',rfl⟩⟩:=vals2 r
 refine min_two_ints (I.ok.hd hc) λh' tk k=>⟨_,H,I.kept k,?_,q⟩
 by_cases hj:j < i
 ·rw[if_pos hj,if_pos hj];exact ⟨_,rfl⟩
 ·rw[if_neg hj,if_neg hj];exact ⟨_,rfl⟩
theorem call_int1:CallR X (.type "int") (λxs H Q=>(∃i,xs=[.int i]/\Q (.int i) H)\/∃k,xs=[.bl k]/\Q (.int (if k then 1 else 0)) H):=by
 intro pins s σ H xs us Q I r h
 rcases h with⟨i,rfl,q⟩|⟨k,rfl,q⟩
 ·obtain⟨u,rfl,t,rfl⟩:=vals1 r
  exact call_int_int ⟨.int i,H,I,⟨_,rfl⟩,q⟩
 ·obtain⟨u,rfl,r1⟩:=vals1 r
  cases r1
  exact call_int_bool ⟨.int (if k then 1 else 0),H,I.tok _,⟨_,rfl⟩,q⟩
end
structure ObjM(h:Heap)(x dx C:Addr)(mA:Str->Option Value):Prop where
 obj:h.get? x=some (M8 C dx)
 ns:h.Ns1 dx mA
 ne:dx≠x
section
variable {prog:Program}{w:World}{A:Around}{E:Value->Shared->Prop}{s:Shared}{K:i0}{x dx C f:Addr}{mA:Str->Option Value}{name:Str}{v:Value}
end
theorem RelO.some_of{v:V}{o:Option Value}(r:RelO (some v) o):∃u,o=some u/\RelV v u:=by
 cases o with
 | none=>exact (show False from r).elim
 | some u=>exact ⟨u,rfl,r⟩
section
variable {P:Program}{w:World}{H H':Hp}{h h':Heap}{a C dx:Addr}{fs fs':List (Str×V)}
end
structure Cls(K:i0)(C:Addr):Prop where
 pg:PySem.W.plainGet K C Str.empty=true
 hd:PySem.W.hasDictIn K C=true
 po:PySem.W.plainOver K C=true
 sa:U5 K (.ref C) "__setattr__"=some (some (.builtin "object.__setattr__"))
structure Con(K:i0)(C:Addr)(f:Str)(v:V)(u:Value):Prop where
 at_:U5 K (.ref C) f=some (some u)
 rel:RelV v u
 get:G8 K u "__get__"=some none
 cp:PySem.W.copiedNames.contains f=false
structure Meth(K:i0)(C:Addr)(m:Str)(f:Addr):Prop where
 at_:U5 K (.ref C) m=some (some (.ref f))
 fn:PySem.W.isFn K (.ref f)=true
 kp:O0 K (.ref f)=true
section
variable {X:Cx}{pins:List (Addr×Obj)}{σ:St}{H:Hp}{s:Shared}{a C dx:Addr}{fs:List (Str×V)}{f:Str}{v:V}{A:Around}{E:Value->Shared->Prop}
end
section
variable {X:Cx}{o e value:Expr}{f:Str}{pos pos' tpos:Pos}{ta tv:TE}
end
section
variable {X:Cx}{pins:List (Addr×Obj)}{σ:St}{H:Hp}{s:Shared}{A:Around}{E:Value->Shared->Prop}{Q:Value->Shared->Prop}{c:Value}{b:Bool}
inductive TyOf (K:i0) (H:Hp):V->Value->Prop where
 | non:TyOf K H .non (.type "NoneType")
 | bl (x:Bool):TyOf K H (.bl x) (.type "bool")
 | int (i:Int):TyOf K H (.int i) (.type "int")
 | str (x:Str):TyOf K H (.str x) (.type "str")
 | flt (x:UInt64):TyOf K H (.flt x) (.type "float")
 | lst {a:Addr}{xs:List V} (e:H a=some (.lst xs)):TyOf K H (.ref a) (.type "list")
 | frz {a:Addr}{o:Obj}{xs:List V} (e:H a=some (.frz o (.lst xs))):TyOf K H (.ref a) (.type "list")
 | tup {a:Addr}{xs:List V} (e:H a=some (.tup xs)):TyOf K H (.ref a) (.type "tuple")
 | dK {a:Addr}{kvs:List (Key×V)} (e:H a=some (.dK kvs)):TyOf K H (.ref a) (.type "dict")
 | dT {a:Addr}{kvs:List (List Key×V)} (e:H a=some (.dT kvs)):TyOf K H (.ref a) (.type "dict")
 | ins {a C dx:Addr}{fs:List (Str×V)} (e:H a=some (.ins C dx fs)) (cl:Cls K C) (ha:U5 K (.ref C) "__class__"=some (some (.builtin "object.__class__")))
   (hn:G8 K (.builtin "object.__class__") "__get__"=some (some (.builtin "getset_descriptor.__get__"))) (htk:PySem.W.takesIn K (.builtin "object.__class__")=some true)
   (hm:PySem.W.mroIn K C (.type "object")=some true):TyOf K H (.ref a) (.ref C)
end
structure Room(k:Nat)(A:Around):Prop where
 hd:A.handled=none
 dp:A.depth+3 * k+5 < recursionLimit
 un:A.units+16 * k+200 < cLine
 gd:A.guards=some []
theorem Room.mono{j k:Nat}{A:Around}(r:Room k A)(h:j<=k):Room j A:=⟨r.hd,by have:=r.dp;omega,by have:=r.un;omega,r.gd⟩
theorem Room.deeper{k:Nat}{A:Around}(r:Room (k+1) A)(env:Env):Room k (A.deeper env) :=
 ⟨r.hd,by have:=r.dp;show A.depth+1+3 * k+5 < _;omega,by have:=r.un;show A.units+3+16 * k+200 < _;omega,r.gd⟩
theorem Room.depth{k:Nat}{A:Around}(r:Room k A):A.depth < recursionLimit:=by have:=r.dp;omega
theorem Room.units{k:Nat}{A:Around}(r:Room k A):A.units+64 < cLine:=by have:=r.un;omega
noncomputable def tNil:TA:=λ_ H Q=>Q [] H
noncomputable def tCons(ta:TE)(tr:TA):TA:=λσ H Q=>ta σ H λx H1=>tr σ H1 λxs H2=>Q (x :: xs) H2
section
variable {X:Cx}{e:Expr}{es:List Expr}{te:TE}{t:TA}{pos:Pos}
theorem pa_nil:PA X [] tNil:=λ_ _ _ _ H Q I h=>Calls.spliced_nil ⟨[],H,I,.nil,h⟩
theorem pa_cons(ha:PE X e te)(hr:PA X es t)(hs:starEach (e :: es) X.env=(false,eval e X.env) :: starEach es X.env:=by rfl):PA X (e :: es) (tCons te t):=by
 intro pos pins s σ H Q I h
 rw[hs]
 show wpAny _ _ (spliced ((false,eval e X.env) :: backTo pos (starEach es X.env))) _ _ s
 refine Calls.spliced_cons (thn (ha pins s σ H _ I h) λu s1 ⟨x,H1,I1,r1,q1⟩=>?_)
 exact thn (hr pos pins s1 σ H1 _ I1 q1) λus s2 ⟨xs,H2,I2,r2,q2⟩=>⟨x :: xs,H2,I2,.cons r1 r2,q2⟩
noncomputable def tTup(t:TA):TE:=λσ H Q=>t σ H λxs H1=>xs.length<=sizeLine/\∀p,H1 p=none->Q (.ref p) (upd H1 p (.tup xs))
noncomputable def tLst(t:TA):TE:=λσ H Q=>t σ H λxs H1=>xs.length<=sizeLine/\∀p,H1 p=none->Q (.ref p) (upd H1 p (.lst xs))
theorem pe_tup{x1}(h:PA X es t):PE X (.Tuple es x1 pos) (tTup t):=by
 intro pins s σ H Q I hq
 refine wpAny_Tuple_spliced (thn (h pos pins s σ H _ I hq) λus s1 ⟨xs,H1,I1,r,z,q⟩=>⟨by rw[<- r.length];exact z,?_⟩)
 have hf:H1 s1.heap.objs.size=none:=I1.hok.fresh (A0 _)
 refine ⟨.ref s1.heap.objs.size,upd H1 s1.heap.objs.size (.tup xs),I1.laid (t':=s1.toks) (λb u e=>g0 _ e) (A0 _) ?_,rfl,q _ hf⟩
 exact ⟨z,us,r,⟨_,G0 _ rfl,rfl,_,rfl,rfl⟩⟩
theorem pe_lst(h:PA X es t):PE X (.List es pos) (tLst t):=by
 intro pins s σ H Q I hq
 refine wpAny_List_spliced (thn (h pos pins s σ H _ I hq) λus s1 ⟨xs,H1,I1,r,z,q⟩=>⟨by rw[<- r.length];exact z,?_⟩)
 have hf:H1 s1.heap.objs.size=none:=I1.hok.fresh (A0 _)
 refine ⟨.ref s1.heap.objs.size,upd H1 s1.heap.objs.size (.lst xs),I1.laid (t':=s1.toks) (λb u e=>g0 _ e) (A0 _) ?_,rfl,q _ hf⟩
 exact ⟨z,us,0,r,G0 _ rfl⟩
end
noncomputable abbrev Sp:=List V->Hp->VK->XK->Prop
noncomputable abbrev CXT:=List Env->Hp->Shared->XK->Value->Shared->Prop
structure Env0(P:Program)(w:World)(K:i0)(mg:Str->Option Value)(base:Heap)(A:Around)(outer:List Env)(s:Shared)(H:Hp):Prop where
 frames:A.frames=some outer
 mod:Mod K mg base
 bs:∀b o,base.get? b=some o->s.heap.get? b=some o/\H b=none
 bsz:base.objs.size<=s.heap.objs.size
 funs:s.heap.FunFrames base outer
 frf:∀b∈frs outer,H b=none
 hok:HOk P w H s.heap
 bare:AllBare s.gens
noncomputable def CE(outer:List Env)(P:Program)(w:World)(H:Hp)(s:Shared)(Q:VK)(u:Value)(s':Shared):Prop :=
 ∃v H',s'.os=s.os/\AllBare s'.gens/\Un (frs outer) [] H H' s.heap s'.heap/\HOk P w H' s'.heap/\RelV v u/\Q v H'
noncomputable def CR(CX:CXT)(outer:List Env)(P:Program)(w:World)(H:Hp)(s:Shared)(Q:VK)(E:XK)(r:Result)(s':Shared):Prop :=
 match r with
 | .ok (.ret u)=>CE outer P w H s Q u s'
 | .ok _=>False
 | .error e=>CX outer H s E e s'
structure FnOk(P:Program)(w:World)(K:i0)(mg:Str->Option Value)(base:Heap)(CX:CXT)(k:Nat)(f:Addr)(fd:FuncData)(ps:List Str)(sp:Sp):Prop where
 len:∀vs H Q E,sp vs H Q E->vs.length=ps.length
 run:∀(A:Around) (outer:List Env) (s:Shared) (H:Hp) (args:Args) (us:List Value) (vs:List V) (Q:VK) (E:XK),Room k A->Env0 P w K mg base A outer s H->BindsTo s fd args (ps.zip us)->Vals vs us->sp vs H Q E ->
  codeAny (model P w) A (.call (.ref f) args) (CR CX outer P w H s Q E) s
section
variable {X:Cx}{pins:List (Addr×Obj)}{σ:St}{H:Hp}{s s':Shared}
theorem Inv.env0(I:Inv X pins σ H s):Env0 X.prog X.w X.K X.mg X.base X.A X.stack s H :=
 ⟨I.ok.frames,I.ok.mod,I.bs,Q1 I.ok.bsz I.sz,I.stack,I.stkFree,I.hok,I.bare⟩
theorem Inv.after{Q:VK}{u:Value}(I:Inv X pins σ H s)(h:CE X.stack X.prog X.w H s Q u s'):EP X pins σ Q u s':=by
 obtain⟨v,H',os,bare,un,hok,r,q⟩:=h
 obtain⟨hh,g,d,t,os'⟩:=s'
 obtain rfl:os'=s.os:=os
 exact ⟨v,H',I.call (h':=hh) (g':=g) (d':=d) (t':=t) (ch:=[]) un hok bare (λb z=>absurd z (by simp)),r,q⟩
end
noncomputable def tCall(sp:Sp)(dvs:List V)(E:XK)(t:TA):TE:=λσ H Q=>t σ H λvs H1=>sp (vs++dvs) H1 Q E
noncomputable def Binds(K:i0)(fd:FuncData)(ps:List Str)(ds:List Value):Prop :=
 ∀(s:Shared) (us:List Value),K.In s.heap->(us++ds).length=ps.length->BindsTo s fd ⟨us,[]⟩ (ps.zip (us++ds))
theorem Binds.all{K:i0}{fd:FuncData}{ps:List Str}(h:∀us:List Value,us.length=ps.length->bindArgs fd ⟨us,[]⟩=pure (ps.zip us)):Binds K fd ps []:=λs us _ hl=>by
 rw[T2]at hl ⊢
 exact .of_eq (h us hl)
noncomputable def Passes(CX:CXT)(X:Cx)(E:XK):Prop:=∀(pins:List (Addr×Obj)) (σ:St) (H:Hp) (s:Shared) (e:Value) (s':Shared),Inv X pins σ H s->CX X.stack H s E e s'->X.xe e s'
section
variable {X:Cx}{CX:CXT}{k:Nat}{f C:Addr}{fd:FuncData}{ps:List Str}{sp:Sp}{dvs:List V}{ds:List Value}{E:XK}{x m:Str}{p pos apos:Pos}{e o:Expr}{es:List Expr}{ta:TE}{t:TA}
theorem run_fn{pins:List (Addr×Obj)}{σ:St}{H:Hp}{s:Shared}{Q:VK}{us:List Value}{vs:List V}(F:FnOk X.prog X.w X.K X.mg X.base CX k f fd ps sp)(hr:Room k X.A)(hb:Binds X.K fd ps ds)(hd:Vals dvs ds)(hx:Passes CX X E)
  (I:Inv X pins σ H s) (r:Vals vs us) (h:sp (vs++dvs) H Q E):wpAny (model X.prog X.w) X.A (call (.ref f) us) (EP X pins σ Q) X.xe s:=by
 have r2:Vals (vs++dvs) (us++ds):=r.append hd
 have hl:(us++ds).length=ps.length:=by rw[<- r2.length];exact F.len _ _ _ _ h
 refine wpAny_call (codeAny_mono (F.run X.A X.stack s H ⟨us,[]⟩ (us++ds) (vs++dvs) Q E hr I.env0 (hb s us I.kIn hl) r2 h) λr s' hq=>?_)
 cases r with
 | error e=>exact hx pins σ H s e s' I hq
 | ok fl =>
  cases fl with
  | ret u=>exact I.after hq
  | next=>exact False.elim hq
  | brk=>exact False.elim hq
  | cont=>exact False.elim hq
theorem pe_call(F:FnOk X.prog X.w X.K X.mg X.base CX k f fd ps sp)(hr:Room k X.A)(hg:Gl X x)(hm:X.mg x=some (.ref f))(hk:O0 X.K (.ref f)=true)(hb:Binds X.K fd ps ds)(hd:Vals dvs ds)(hx:Passes CX X E)
  (ha:PA X (e :: es) t) (hdb:(x==("__debug__":Str))=false:=by decide) (he:starEach (e :: es) X.env=(false,eval e X.env) :: starEach es X.env:=by rfl) (hpl:(backTo pos (starEach es X.env)).any (·.1)=false:=by rfl) :
  PE X (.Call (.Name x p) (e :: es) [] pos) (tCall sp dvs E t):=by
 intro pins s σ H Q I h
 refine wpAny_Call_Name_kw (ld_glob I hg hm ?_ hdb)
 refine p8 (h₀:=X.base) I.ok.mod.kin hk (thn (ha pos pins s σ H _ I h) λus s1 ⟨vs,H1,I1,r,q⟩=>⟨I1.kIn,?_⟩) he hpl
 exact run_fn F hr hb hd hx I1 r q
structure Mk(K:i0)(C f:Addr):Prop where
 makes:PySem.W.makesIn K C=true
 init:U5 K (.ref C) "__init__"=some (some (.ref f))
 fn:PySem.W.isFn K (.ref f)=true
 kp:O0 K (.ref C)=true
end
section
variable {X:Cx}{CX:CXT}{k:Nat}{f C:Addr}{fd:FuncData}{ps ks:List Str}{sp:Sp}{E:XK}{x m:Str}{p pos apos kpos:Pos}{e o:Expr}{es:List Expr}{kws:List Keyword}{te ta:TE}{t tk:TA}{nm:Option Str}
structure KBinds(K:i0)(fd:FuncData)(ps ks:List Str)(g:List Value->List Value->List Value)(gV:List V->List V->List V):Prop where
 to:∀(s:Shared) (us ws:List Value),K.In s.heap->(g us ws).length=ps.length->BindsTo s fd ⟨us,ks.zip ws⟩ (ps.zip (g us ws))
 rel:∀{vs:List V}{us:List Value}{zs:List V}{ws:List Value},Vals vs us->Vals zs ws->Vals (gV vs zs) (g us ws)
variable {g:List Value->List Value->List Value}{gV:List V->List V->List V}
end
structure FnScope(N P:List Str)(sc:Scope):Prop where
 kind:sc.kind=.function
 co:sc.isCoroutine=false
 gen:sc.isGenerator=false
 nd:N.Nodup
 pre:N.take P.length=P
 par:∀x∈P,sc.names.lookup x=some .local\/sc.names.lookup x=some .cell
 nofree:∀y∈sc.names,y.2≠.free
theorem bindL_out{kindOf:Str->Option NameKind}{x:Str}:∀{binds:List (Str×Value)}{m:Str->Option Value},(∀v,(x,v)∉binds)->bindL kindOf binds m x=m x
 | [],_,_=>rfl
 | (n,v) :: r,m,h=>by
  unfold bindL
  rw[bindL_out λw hw=>h w (u0 _ hw)]
  split
  ·have:x≠n:=by rintro rfl;exact h v K0
   simp[this]
  ·rfl
theorem bindC_out{kindOf:Str->Option NameKind}{x:Str}:∀{binds:List (Str×Value)}{m:Str->Option Value},(∀v,(x,v)∉binds)->bindC kindOf binds m x=m x
 | [],_,_=>rfl
 | (n,v) :: r,m,h=>by
  unfold bindC
  rw[bindC_out λw hw=>h w (u0 _ hw)]
  split
  ·rfl
  ·have:x≠n:=by rintro rfl;exact h v K0
   simp[this]
theorem bindL_get{kindOf:Str->Option NameKind}{x:Str}{v:Value}:∀{P:List Str}{vs:List Value}{i:Nat}{m:Str->Option Value},P.Nodup->P[i]?=some x->vs[i]?=some v->kindOf x=some .local ->
  bindL kindOf (P.zip vs) m x=some v
 | [],_,_,_,_,h,_,_=>by simp at h
 | _ :: _,[],_,_,_,_,h,_=>by simp at h
 | p :: P,w :: vs,0,m,nd,h1,h2,hk=>by
  simp at h1 h2;subst h1;subst h2
  show bindL kindOf ((p,w) :: P.zip vs) m p=_
  unfold bindL
  rw[bindL_out λv hv=>(L5.mp nd).1 (K6 hv).1,if_pos hk]
  simp
 | p :: P,w :: vs,i+1,m,nd,h1,h2,hk=>by
  show bindL kindOf ((p,w) :: P.zip vs) m x=_
  unfold bindL
  exact bindL_get (i:=i) (L5.mp nd).2 (by simpa using h1) (by simpa using h2) hk
theorem bindC_get{kindOf:Str->Option NameKind}{x:Str}{v:Value}:∀{P:List Str}{vs:List Value}{i:Nat}{m:Str->Option Value},P.Nodup->P[i]?=some x->vs[i]?=some v->kindOf x≠some .local ->
  bindC kindOf (P.zip vs) m x=some v
 | [],_,_,_,_,h,_,_=>by simp at h
 | _ :: _,[],_,_,_,_,h,_=>by simp at h
 | p :: P,w :: vs,0,m,nd,h1,h2,hk=>by
  simp at h1 h2;subst h1;subst h2
  show bindC kindOf ((p,w) :: P.zip vs) m p=_
  unfold bindC
  rw[bindC_out λv hv=>(L5.mp nd).1 (K6 hv).1,if_neg hk]
  simp
 | p :: P,w :: vs,i+1,m,nd,h1,h2,hk=>by
  show bindC kindOf ((p,w) :: P.zip vs) m x=_
  unfold bindC
  exact bindC_get (i:=i) (L5.mp nd).2 (by simpa using h1) (by simpa using h2) hk
noncomputable def start(N:List Str)(vs:List V):St:=vs.map some++Z0 (N.length - vs.length) none
noncomputable def cxOf(CX:CXT)(P:Program)(w:World)(K:i0)(mg:Str->Option Value)(base:Heap)(N:List Str)(qual:Str)(scope:Scope)(f:Addr)(cd:Value)(A:Around)(outer:List Env)(s:Shared)(H:Hp)(E:XK):Cx where
 prog:=P
 w:=w
 K:=K
 mg:=mg
 base:=base
 A:=A.deeper (envOfC qual scope s.heap.objs.size f cd)
 N:=N
 s₀:=s
 H₀:=H
 env:=envOfC qual scope s.heap.objs.size f cd
 outer:=outer
 stack:=envOfC qual scope s.heap.objs.size f cd :: outer
 ex:=[]
 calm:=true
 fn:=λ_=>true
 pn:=[]
 xe:=λe s'=>wpAny (model P w) (A.deeper (envOfC qual scope s.heap.objs.size f cd)) (leaving (envOfC qual scope s.heap.objs.size f cd) e) (λ_ s''=>CX outer H s E e s'') (λe' s''=>CX outer H s E e' s'') s'
theorem cell_has{sc:Scope}{n:Nat}{x:Str}(h:sc.names.lookup x=some .cell):∃c,(cellsFrom n sc.names []).lookup x=some c:=by
 have q:=M7 sc.names n [] (.inl h)
 exact Option.isSome_iff_exists.mp q
theorem inv_start{CX:CXT}{P:Program}{w:World}{K:i0}{mg:Str->Option Value}{base:Heap}{N ps:List Str}{qual:Str}{scope:Scope}{f:Addr}{cd:Value}{A:Around}{outer:List Env}{s s1:Shared}{H:Hp}{E:XK}{us:List Value}{vs:List V}
  (S:FnScope N ps scope) (hd:A.handled=none) (e0:Env0 P w K mg base A outer s H) (hl:vs.length=ps.length) (r:Vals vs us)
  (x:InCallC s s.heap.objs.size (bindL (envOfC qual scope s.heap.objs.size f cd).kindOf (ps.zip us) λ_=>none) (cellsFrom (s.heap.objs.size+1) scope.names []) (bindC (envOfC qual scope s.heap.objs.size f cd).kindOf (ps.zip us) λ_=>none) s1) :
  Inv (cxOf CX P w K mg base N qual scope f cd A outer s H E) [] (start N vs) H s1:=by
 have hpl:ps.length<=N.length:=by have:=congrArg Q3 S.pre;rw[U2]at this;omega
 obtain⟨h1,tk,rfl,hk⟩:=x.done
 have noA:∀b:Addr,b∉(cxOf CX P w K mg base N qual scope f cd A outer s H E).ex:=λb z=>absurd (show b∈([]:List Addr) from z) (by simp)
 refine ⟨⟨e0.mod,S.kind,rfl,rfl,A0 _,λy z c h1 h2=>?_,λy hy=>?_,λy c _ h=>?_,λ_=>hd,Around.frames_deeper e0.frames,.inr ⟨rfl,rfl⟩,λb z=>absurd z (noA b),e0.bs,e0.bsz,λb _ _=>noA b,λb z=>absurd z (noA b),e0.funs,e0.frf⟩,
   rfl,e0.bare,Un.kept hk,⟨_,x.toInCall.ns,λi y v h1 h2 h3=>?_⟩,λy c h=>⟨_,x.cell y c h⟩,e0.hok.fresh (A0 _),λy c h=>?_,λp hp=>absurd (show p∈([]:List (Addr×Obj)) from hp) (by simp),e0.hok.kept hk,?_⟩
 ·exact name_of_addr x.apart (PySem.mem_of_lookup h1) (PySem.mem_of_lookup h2)
 ·have hy:scope.names.lookup y=some .cell\/scope.names.lookup y=some .free:=hy
  rcases hy with hy|hy
  ·exact cell_has hy
  ·exact absurd rfl (S.nofree _ (PySem.mem_of_lookup hy))
 ·exact N4 (x.above y c (PySem.mem_of_lookup h))
 ·have hi:i < vs.length:=by
   unfold start at h2
   by_cases hi:i < vs.length
   ·exact hi
   ·rw[B1 (by simpa using hi)]at h2
    rw[J7]at h2
    split at h2<;>cases h2
  have ha:vs[i]?=some v:=by
   unfold start at h2
   rw[T1 (by simpa using hi),E1]at h2
   cases e:vs[i]? with
   | none=>rw[e]at h2;cases h2
   | some a=>rw[e]at h2;cases h2;rfl
  obtain⟨u,hu,rv⟩:=r.get ha
  have hp:ps[i]?=some y:=by
   rw[<- S.pre,y7 (by omega)];exact h1
  have ndP:ps.Nodup:=by rw[<- S.pre];exact S.nd.sublist (List.take_sublist _ _)
  refine ⟨u,rv,?_⟩
  rcases S.par y (E2 hp) with k|k
  ·exact .inl ⟨k,bindL_get ndP hp hu k⟩
  ·obtain⟨c,e⟩:=cell_has (n:=s.heap.objs.size+1) k
   refine .inr ⟨.inl k,c,e,?_⟩
   have q:=x.cell y c e
   rw[bindC_get ndP hp hu (by show scope.names.lookup y≠_;rw[k];decide)]at q
   exact q
 ·exact e0.hok.fresh (N4 (x.above y c (PySem.mem_of_lookup h)))
 ·unfold start
  show _=N.length
  rw[R0,n0,List.length_replicate]
  omega
theorem fn_of{CX:CXT}{P:Program}{w:World}{K:i0}{mg:Str->Option Value}{base:Heap}{k:Nat}{f:Addr}{name qual:Str}{params:Arguments}{body:List Stmt}{scope:Scope}{dV kV doc pm cdv ct oc:Value}{an od:Option Addr}
  {osl:Array (Option Value)}{N ps:List Str}{sp:Sp} (lk:K.lookup f=some ⟨oc,od,.func (U0 name qual params body scope dV kV doc pm an cdv ct),osl⟩) (hcd:Q0 K cdv qual=true) (S:FnScope N ps scope)
  (len:∀vs H Q E,sp vs H Q E->vs.length=ps.length)
  (hbody:∀(A:Around) (outer:List Env) (s:Shared) (H:Hp) (vs:List V) (Q:VK) (E:XK),Room k (A.deeper (envOfC qual scope s.heap.objs.size f cdv))->sp vs H Q E ->
    ∃t,PSs (cxOf CX P w K mg base N qual scope f cdv A outer s H E) body t/\t { nx:=λ_ H'=>Q .non H',rt:=Q } (start N vs) H) :
  FnOk P w K mg base CX (k+1) f (U0 name qual params body scope dV kV doc pm an cdv ct) ps sp:=by
 refine ⟨len,λA outer s H args us vs Q E hr e0 hb r hsp=>?_⟩
 have hl:=len _ _ _ _ hsp
 have KX:K.In s.heap:=e0.mod.kin.keeps λb o e=>(e0.bs b o e).1
 have lim:s.heap.NoLimit:=e0.mod.nolimit.keeps λb o e=>(e0.bs b o e).1
 have hkind:∀y∈ps.zip us,scope.names.lookup y.1=some .local\/(scope.names.lookup y.1=some .cell/\((cellsFrom (s.heap.objs.size+1) scope.names []).lookup y.1).isSome=true):=λ⟨n,v⟩ hy=>by
  rcases S.par n (K6 hy).1 with q|q
  ·exact .inl q
  ·exact .inr ⟨q,M7 _ _ _ (.inl q)⟩
 refine codeAny_call_function hr.depth (KX _ _ lk) rfl S.co S.gen rfl (PySem.W.codeRec_of KX hcd) (hb _ _ _ _ ?_)
 refine wpAny_newFunctionEnv_cells S.kind hkind λenv he s1 x=>?_
 subst he
 refine ⟨lim.keeps x.toInCall.keep,codeAny_func ?_⟩
 obtain⟨t,ht,hq⟩:=hbody A outer s H vs Q E (hr.deeper _) hsp
 have I:Inv (cxOf CX P w K mg base N qual scope f cdv A outer s H E) [] (start N vs) H s1:=inv_start S hr.hd e0 hl r x
 refine wpAny_mono (ht [] s1 (start N vs) H _ I hq) (λfl s' hs=>?_) λe s' hs=>hs
 have fin:∀{σ':St}{H':Hp}{v:V}{u:Value},Inv (cxOf CX P w K mg base N qual scope f cdv A outer s H E) [] σ' H' s'->RelV v u->Q v H'->CE outer P w H s Q u s' :=
  λ{σ' H' v u} J rv q=>⟨v,H',J.os,J.bare,J.base,J.hok,rv,q⟩
 cases fl with
 | ret u =>
  obtain⟨v,σ',H',J,rv,q⟩:=hs
  exact fin J rv q
 | next =>
  obtain⟨σ',H',J,q⟩:=hs
  exact fin (v:=V.non) (u:=O5) J rfl q
 | brk =>
  obtain⟨_,_,_,q⟩:=hs
  exact False.elim q
 | cont =>
  obtain⟨_,_,_,q⟩:=hs
  exact False.elim q
section
variable {X:Cx}{x:Str}{p pos:Pos}{e:Expr}{es:List Expr}{t:TA}{id T:String}{r:List V->Hp->VK->Prop}
noncomputable def tCB(r:List V->Hp->VK->Prop)(t:TA):TE:=λσ H Q=>t σ H λvs H1=>r vs H1 Q
theorem pe_callB(hc:CallR X (.builtin id) r)(hg:Gl X x)(hm:X.mg x=none)(hv:bootBuiltins x=some (.builtin id))(ha:PA X (e :: es) t)(hn:x ≠ "__name__":=by decide)(hdb:(x==("__debug__":Str))=false:=by decide)
  (he:starEach (e :: es) X.env=(false,eval e X.env) :: starEach es X.env:=by rfl) (hpl:(backTo pos (starEach es X.env)).any (·.1)=false:=by rfl):PE X (.Call (.Name x p) (e :: es) [] pos) (tCB r t):=by
 intro pins s σ H Q I h
 refine wpAny_Call_Name_kw (ld_blt I hg hm hv ?_ hn hdb)
 exact PyProof.Rows.callWith_builtin1 (thn (ha pos pins s σ H _ I h) λus s1 ⟨vs,H1,I1,r1,q1⟩=>hc pins s1 σ H1 vs us Q I1 r1 q1) he hpl
theorem pe_callTy(hc:CallR X (.type T) r)(hg:Gl X x)(hm:X.mg x=none)(hv:bootBuiltins x=some (.type T))(ha:PA X (e :: es) t)(hn:x ≠ "__name__":=by decide)(hdb:(x==("__debug__":Str))=false:=by decide)
  (he:starEach (e :: es) X.env=(false,eval e X.env) :: starEach es X.env:=by rfl) (hpl:(backTo pos (starEach es X.env)).any (·.1)=false:=by rfl):PE X (.Call (.Name x p) (e :: es) [] pos) (tCB r t):=by
 intro pins s σ H Q I h
 refine wpAny_Call_Name_kw (ld_blt I hg hm hv ?_ hn hdb)
 exact m3 (thn (ha pos pins s σ H _ I h) λus s1 ⟨vs,H1,I1,r1,q1⟩=>hc pins s1 σ H1 vs us Q I1 r1 q1) he hpl
end
end L2
namespace HT
open PySem PyProof.Rows
noncomputable def lexLt:List Int->List Int->Bool
 | [],[]=>false
 | [],_ :: _=>true
 | _ :: _,[]=>false
 | x :: xs,y :: ys=>if x=y then lexLt xs ys else decide (x < y)
theorem lexLt_cons(x y:Int)(xs ys:List Int):lexLt (x :: xs) (y :: ys)=if x=y then lexLt xs ys else decide (x < y):=rfl
theorem lexLt_nil_nil:lexLt [] []=false:=rfl
theorem lexLt_nil_cons(y:Int)(ys:List Int):lexLt [] (y :: ys)=true:=rfl
theorem lexLt_cons_nil(x:Int)(xs:List Int):lexLt (x :: xs) []=false:=rfl
theorem eqAt_int(A:Around)(s:Shared)(a:Int)(t:Tok)(c:Int)(u:Tok):∃e,SeqAt.EqAt A s (.int a t) (.int c u) e/\(e=true ↔ a=c) :=
 ⟨(a==c),SeqAt.EqAt.int_int a t c u,by simp⟩
theorem rcLt_int(A:Around)(s:Shared)(a:Int)(t:Tok)(c:Int)(u:Tok)(prog:Program)(w:World)(E:Value->Shared->Prop)(Q:Value->Shared->Prop)(h:Q (.bool (decide (a < c))) s) :
  wpAny (model prog w) A (richCompare .Lt (.int a t) (.int c u)) Q E s :=
 (PyProof.Rows.lt_int h:wpAny (model prog w) A (compareOp .Lt (.int a t) (.int c u)) Q E s)
section
open PySem.SeqAt
open PySem.AutoSeq1 (wpAny_loadPart')
open PySem.MeetsSeq PySem.MeetsSeq2 PySem.MeetsSeq3
theorem tuple_lt_ints(l b:Addr)(items items2:Array Value)(n n2:Nat)(dd dd2:Option Addr)(sl sl2:Array (Option Value))(ns ms:List Int)(hi:IntsAre items.toList ns)(hj:IntsAre items2.toList ms) :
  Meets (Builtin.«tuple.__lt__» ⟨[.ref l,.ref b],[]⟩)
   (λ_ R s=>s.heap.get? l=some { cls:=.type "tuple",dict:=dd,data:=.seq items n,slots:=sl }/\s.heap.get? b=some { cls:=.type "tuple",dict:=dd2,data:=.seq items2 n2,slots:=sl2 } /\
     R (.ok (.ret (.bool (lexLt ns ms)))) s) :=
 .of_wp λprog w A R s h=>by
  obtain⟨hp,g,d,tk,os⟩:=s;obtain⟨hl,hb,h⟩:=h
  have f2:=AutoSeq1.sub_tuple_tuple
  have z1:items.size=ns.length:=by rw[<- hi.length];simp
  have z2:items2.size=ms.length:=by rw[<- hj.length];simp
  wp_walk using wpAny_loadPart' hl,wpAny_loadPart' hb,wpAny_forIn_list _ (λrest b s'=>b.1=none/\s'=⟨hp,g,d,tk,os⟩/\∃(vs ws:List Value) (ns' ms':List Int),rest=vs.zip ws /\
    IntsAre vs ns'/\IntsAre ws ms'/\ns'.length+items2.size=ms'.length+items.size/\R (.ok (.ret (.bool (lexLt ns' ms')))) ⟨hp,g,d,tk,os⟩) _
  case turn =>
   rintro⟨y,x⟩ rest b s' ⟨hb',rfl,vs,ws,ns',ms',hz,hvi,hwi,hlen,hR⟩
   cases hvi with
   | nil=>rw[List.zip_nil_left]at hz;cases hz
   | cons a t hvi' =>
    cases hwi with
    | nil=>rw[List.zip_nil_right]at hz;cases hz
    | cons c u hwi' =>
     rw[U6]at hz
     injection hz with hyx hrest
     injection hyx with hy hx
     subst hy hx
     rw[lexLt_cons]at hR
     simp only[E3]at hlen
     obtain⟨e,he,hiff⟩:=eqAt_int A.in1 ⟨hp,g,d,tk,os⟩ a t c u
     refine wpAny_bind (he prog w _ _ ?_)
     cases e with
     | true =>
      rw[if_pos (hiff.mp rfl)]at hR
      wp_walk
      exact ⟨rfl,rfl,_,_,_,_,hrest,hvi',hwi',by omega,hR⟩
     | false =>
      rw[if_neg (λq=>absurd (hiff.mpr q) W0)]at hR
      have hri:=rcLt_int A.in1 ⟨hp,g,d,tk,os⟩ a t c u prog w
      wp_walk using hri
      exact ⟨_,rfl,by simpa using hR⟩
  case fin =>
   rintro⟨b1,b2⟩ s' ⟨hb',rfl,vs,ws,ns',ms',hz,hvi,hwi,hlen,hR⟩
   simp only at hb'
   subst hb'
   have hv:lexLt ns' ms'=decide (items.size < items2.size):=by
    cases hvi with
    | nil =>
     cases hwi with
     | nil =>
      simp only[M5]at hlen
      rw[lexLt_nil_nil]
      exact (decide_eq_false (by omega)).symm
     | cons c u hw =>
      simp only[M5,E3]at hlen
      rw[lexLt_nil_cons]
      exact (decide_eq_true (by omega)).symm
    | cons a t hv =>
     cases hwi with
     | nil =>
      simp only[M5,E3]at hlen
      rw[lexLt_cons_nil]
      exact (decide_eq_false (by omega)).symm
     | cons c u hw =>
      rw[U6]at hz
      cases hz
   rw[hv]at hR
   wp_walk
   exact ⟨_,rfl,by simpa [i6]using hR⟩
  case h =>
   exact ⟨rfl,rfl,items.toList,items2.toList,ns,ms,rfl,hi,hj,by omega,h⟩
end
section
variable {prog:Program}{w:World}{A:Around}{E:Value->Shared->Prop}{s:Shared}
theorem lt_tupInts{l b:Addr}{items items2:Array Value}{ns ms:List Int}{Q:Value->Shared->Prop}(hl:IsTup s.heap l items)(hb:IsTup s.heap b items2)(hi:IntsAre items.toList ns)(hj:IntsAre items2.toList ms)
  (hu:A.units < cLine) (h:Q (.bool (lexLt ns ms)) s):wpAny (model prog w) A (compareOp .Lt (.ref l) (.ref b)) Q E s:=by
 obtain⟨⟨cls,dd,data,sl⟩,ho,hc,n,hd⟩:=id hl
 obtain⟨⟨cls2,dd2,data2,sl2⟩,ho2,hc2,n2,hd2⟩:=id hb
 simp only at hc hd hc2 hd2
 subst hc hd hc2 hd2
 exact richCompare_meets_room (op:=.Lt) ⟨_,ho,rfl⟩ ⟨_,ho2,rfl⟩ PySem.F.slot_tuple_lt PySem.F.entry_tuple_lt (PySem.F.args_tuple_lt_2 _ _) (tuple_lt_ints l b items items2 n n2 dd dd2 sl sl2 ns ms hi hj)
  ⟨ho,ho2,show n8 (lexLt ns ms)≠Y7/\Q (.bool (lexLt ns ms)) s from ⟨(λx=>nomatch x),h⟩⟩ hu
theorem cat_tup{t b:Addr}{vs ws:List Value}{Q:Value->Shared->Prop}(ht:IsTup s.heap t vs.toArray)(hb:IsTup s.heap b ws.toArray)(hv:vs≠[])
  (h1:ws=[]->Q (.ref t) s) (h2:ws≠[]->Q (.ref s.heap.objs.size) { s with heap:=s.heap.push { cls:=.type "tuple",data:=.seq (vs++ws).toArray } })
  (hsz:vs.length+ws.length<=sizeLine):wpAny (model prog w) A (binaryOp .Add (.ref t) (.ref b)) Q E s:=by
 obtain⟨⟨cls,dd,data,sl⟩,ho,hc,n,hd⟩:=id ht
 obtain⟨⟨cls2,dd2,data2,sl2⟩,ho2,hc2,n2,hd2⟩:=id hb
 simp only at hc hd hc2 hd2
 subst hc hd hc2 hd2
 have e:vs.toArray++ws.toArray=(vs++ws).toArray:=by simp
 by_cases hw:ws=[]
 ·exact concat_meets ⟨_,ho,rfl⟩ ⟨_,ho2,rfl⟩ noFill_tuple_add seq_tuple_add PySem.F.slot_tuple_add PySem.F.entry_tuple_add (PySem.F.args_tuple_add_2 _ _)
   (tuple_addW1 t b vs.toArray ws.toArray n n2 dd dd2 sl sl2 (by simpa using hv) (by simp[hw])) ⟨ho,ho2,h1 hw⟩
 ·refine concat_meets ⟨_,ho,rfl⟩ ⟨_,ho2,rfl⟩ noFill_tuple_add seq_tuple_add PySem.F.slot_tuple_add PySem.F.entry_tuple_add (PySem.F.args_tuple_add_2 _ _)
   (tuple_addW2 t b vs.toArray ws.toArray n n2 dd dd2 sl sl2 (by simpa using hv) (by simpa using hw) (by rw[N0,N0];exact hsz)) ⟨ho,ho2,?_⟩
  rw[e]
  exact h2 hw
noncomputable def sIx(n d:Nat):Option Int->Nat
 | none=>d
 | some v=>if v < 0 then (v+(n:Int)).toNat else min v.toNat n
theorem sIx_le(n d:Nat)(hd:d<=n)(o:Option Int):sIx n d o<=n:=by
 cases o with
 | none=>exact hd
 | some v =>
  show (if v < 0 then (v+(n:Int)).toNat else min v.toNat n)<=n
  by_cases hv:v < 0
  ·rw[if_pos hv];omega
  ·rw[if_neg hv];exact Nat.min_le_right _ _
theorem clip_eq(v:Int)(n d:Nat):(if v < 0 then max (v+(n:Int)) 0 else min v (n:Int))=((sIx n d (some v):Nat):Int):=by
 show (if v < 0 then max (v+(n:Int)) 0 else min v (n:Int))=(((if v < 0 then (v+(n:Int)).toNat else min v.toNat n):Nat):Int)
 by_cases hv:v < 0
 ·simp only[if_pos hv];omega
 ·simp only[if_neg hv];omega
theorem adjust_gen(lo hi:Option Int)(n:Nat):v5 lo hi 1 (n:Int)=(((sIx n 0 lo:Nat):Int),((sIx n n hi:Nat):Int)):=by
 have h1:¬((1:Int) < 0):=by omega
 unfold v5
 simp only[h1,if_false]
 refine Prod.ext ?_ ?_
 ·cases lo with
  | none=>rfl
  | some v=>exact clip_eq v n 0
 ·cases hi with
  | none=>rfl
  | some v=>exact clip_eq v n n
theorem places_gen(i j:Nat):J4 (i:Int) (j:Int) 1=j - i:=by
 unfold J4
 have h1:(1:Int) > 0:=by omega
 simp only[h1,if_true,Int.ediv_one]
 split<;>omega
theorem slicePart_{v:Value}{o:Option Int}{Q:Option Int->Shared->Prop}(p:IsPart v o)(h:Q o s):wpAny (model prog w) A (Builtin.Slice.slicePartIndex v) Q E s:=by
 cases p with
 | none=>exact slicePart_none h
 | int i t=>exact slicePart_int h
theorem sliceApplied_gen{sl:Addr}{vl vu:Value}{lo hi:Option Int}{n:Nat}{Q:Int×Int×Nat->Shared->Prop}(hs:s.heap.IsSliceOf sl vl vu .none)(pl:IsPart vl lo)(pu:IsPart vu hi)
  (h:Q (((sIx n 0 lo:Nat):Int),1,sIx n n hi - sIx n 0 lo) s):wpAny (model prog w) A (W6 (.ref sl) (pure (n:Int))) Q E s:=by
 obtain⟨os,hos,hcs,hds⟩:=id hs
 unfold W6 Builtin.Slice.sliceFields
 refine wpAny_bind (wpAny_bind (wpAny_field hos hds (x:=vl) rfl (wpAny_bind (wpAny_field hos hds (x:=vu) rfl (wpAny_bind (wpAny_field hos hds (x:=.none) rfl (wpAny_pure ?_)))))))
 refine wpAny_bind (slicePart_none ?_)
 show wpAny _ _ (if ((1:Int)==0)=true then _ else _) _ _ s
 rw[if_neg (by decide)]
 refine wpAny_bind (slicePart_ pl (wpAny_bind (slicePart_ pu (wpAny_bind (wpAny_pure ?_)))))
 show wpAny _ _ (match v5 lo hi 1 (n:Int) with|(lo,hi)=>pure (lo,(1:Int),J4 lo hi 1)) _ _ s
 rw[adjust_gen lo hi n]
 show wpAny _ _ (pure (((sIx n 0 lo:Nat):Int),(1:Int),J4 ((sIx n 0 lo:Nat):Int) ((sIx n n hi:Nat):Int) 1)) _ _ s
 rw[places_gen]
 exact wpAny_pure h
theorem pick_gen(xs:Array Value)(i k:Nat):((V1 k).filterMap λ(m:Nat)=>xs[((i:Int)+(m:Int) * 1).toNat]?).toArray=((xs.toList.drop i).take k).toArray:=by
 have e:(λ(m:Nat)=>xs[((i:Int)+(m:Int) * 1).toNat]?)=λm=>xs[i+m]?:=by
  funext m
  have:((i:Int)+(m:Int) * 1).toNat=i+m:=by omega
  rw[this]
 rw[e]
 have:=pick_run xs i k
 rw[List.filterMap_map]at this
 have e2:((λx=>xs[x]?) ∘ λx=>i+x)=λm=>xs[i+m]?:=rfl
 rw[e2]at this
 rw[this]
theorem getItem_tuple_cut{t sl:Addr}{items:Array Value}{vl vu:Value}{lo hi:Option Int}{Q:Value->Shared->Prop}(ht:IsTup s.heap t items)(hs:s.heap.IsSliceOf sl vl vu .none)(pl:IsPart vl lo)(pu:IsPart vu hi)
  (hw:¬(sIx items.size 0 lo=0/\sIx items.size items.size hi=items.size))
  (h:Q (.ref s.heap.objs.size) { s with heap:=s.heap.push { cls:=.type "tuple",data:=.seq ((items.toList.drop (sIx items.size 0 lo)).take (sIx items.size items.size hi - sIx items.size 0 lo)).toArray } })
  (hsz:items.size<=sizeLine):wpAny (model prog w) A (getItem (.ref t) (.ref sl)) Q E s:=by
 have htake:sizeOk (.seq ((items.toList.drop (sIx items.size 0 lo)).take (sIx items.size items.size hi - sIx items.size 0 lo)).toArray):=by
  show ((items.toList.drop (sIx items.size 0 lo)).take (sIx items.size items.size hi - sIx items.size 0 lo)).toArray.size<=sizeLine
  rw[N0,U2,T3,M0]
  omega
 have hj:sIx items.size items.size hi<=items.size:=sIx_le _ _ (A0 _) hi
 obtain⟨os,hos,hcs,hds⟩:=id hs
 have hTs:s.TypeIs (.ref sl) "slice":=⟨os,hos,hcs⟩
 unfold getItem
 try with_reducible refine wpAny_holding ?_
 first|refine wpAny_bind (wpAny_pure ?_)|skip
 refine wpAny_bind (wpAny_sequenceKey ht.typeIs (by decide) ?_)
 refine wpAny_bind (wpAny_callSpecial?_slot (name:=Str.ofString "__getitem__") ht.typeIs Z3
   (wpAny_call_entry Z3 ht.typeIs entry_tuple_getitem ?_ (args_tuple_getitem _ _)))
 show wpAny _ _ (X6 (.ref t) >>= _) _ _ s
 refine wpAny_bind (tupleItemsOf_ ht ?_)
 refine wpAny_bind (wpAny_typeOf hTs ?_)
 rw[if_pos (by decide)]
 refine wpAny_bind (sliceApplied_gen hs pl pu ?_)
 have hno:¬((((sIx items.size 0 lo:Nat):Int)==0&&(1:Int)==1&&(sIx items.size items.size hi - sIx items.size 0 lo)==items.size)=true):=by
  intro q
  rw[O2,O2]at q
  have q1:((sIx items.size 0 lo:Nat):Int)=0:=eq_of_beq q.1.1
  have q2:sIx items.size items.size hi - sIx items.size 0 lo=items.size:=eq_of_beq q.2
  exact hw ⟨by omega,by omega⟩
 show wpAny _ _ (if (((sIx items.size 0 lo:Nat):Int)==0&&(1:Int)==1&&(sIx items.size items.size hi - sIx items.size 0 lo)==items.size)=true then _ else _) _ _ s
 rw[if_neg hno,pick_gen]
 first
  | exact wpAny_bind (m:=S4 _) (wpAny_newObj_type (wpAny_pure ⟨_,rfl,wpAny_pure h⟩) htake)
  | exact wpAny_bind (m:=S4 _) (wpAny_newObj_type (wpAny_bind (wpAny_pure (wpAny_pure ⟨_,rfl,wpAny_pure h⟩))) htake)
  | exact wpAny_bind (wpAny_bind (m:=S4 _) (wpAny_newObj_type (wpAny_pure (wpAny_pure ⟨_,rfl,wpAny_pure h⟩)) htake))
  | exact wpAny_bind (wpAny_bind (m:=S4 _) (wpAny_newObj_type (wpAny_pure ⟨_,rfl,wpAny_pure h⟩) htake))
end
end HT
namespace L2
open PySem PySem.Spec PyProof.Rows
noncomputable abbrev TO:=St->Hp->(Option Int->Hp->Prop)->Prop
noncomputable def PO(X:Cx)(e:Option Expr)(t:TO):Prop :=
 ∀(pins:List (Addr×Obj)) (s:Shared) (σ:St) (H:Hp) (Q:Option Int->Hp->Prop),Inv X pins σ H s->t σ H Q ->
  wpAny (model X.prog X.w) X.A (evalPart e X.env) (λu s'=>∃o H',Inv X pins σ H' s'/\IsPart u o/\Q o H') X.xe s
noncomputable def tNoPart:TO:=λ_ H Q=>Q none H
noncomputable def tPart(t:TE):TO:=λσ H Q=>t σ H λx H1=>∃i,x=.int i/\Q (some i) H1
theorem intsAre_of{ns:List Int}:∀{us:List Value},Vals (ns.map V.int) us->IntsAre us ns:=by
 induction ns with
 | nil=>intro us r;rw[O6]at r;cases r;exact .nil
 | cons n ns ih =>
  intro us r
  rw[X1]at r
  cases r with
  | cons r1 r2 =>
   obtain⟨t,e⟩:=r1
   subst e
   exact .cons n t (ih r2)
section
variable {X:Cx}{e:Expr}{te:TE}{lo hi:Option Expr}{tl th:TO}{pos p2:Pos}
theorem po_none:PO X none tNoPart:=by
 intro pins s σ H Q I h
 rw[evalPart_none]
 exact wpAny_pure ⟨none,H,I,.none,h⟩
theorem po_some(h:PE X e te):PO X (some e) (tPart te):=by
 intro pins s σ H Q I hw
 rw[evalPart_some]
 refine thn (h pins s σ H _ I hw) λu s1 ⟨x,H1,I1,r1,q1⟩=>?_
 obtain⟨i,rfl,q⟩:=q1
 obtain⟨t,rfl⟩:=r1
 exact ⟨some i,H1,I1,.int i t,q⟩
noncomputable def SlR(X:Cx)(r:V->Option Int->Option Int->Hp->VK->Prop):Prop :=
 ∀(pins:List (Addr×Obj)) (s:Shared) (σ:St) (H:Hp) (x:V) (v vl vu:Value) (lo hi:Option Int) (sl:Addr) (Q:VK),Inv X pins σ H s->RelV x v->s.heap.IsSliceOf sl vl vu .none->IsPart vl lo->IsPart vu hi->r x lo hi H Q ->
  ∃T id,typeLookup (.type T) "__getitem__"=pure (some (.builtin id))/\s.TypeIs v T/\wpAny (model X.prog X.w) X.A (getItem v (.ref sl)) (EP X pins σ Q) X.xe s
noncomputable def tSl(r:V->Option Int->Option Int->Hp->VK->Prop)(te:TE)(tl th:TO):TE:=λσ H Q=>te σ H λx H1=>tl σ H1 λl H2=>th σ H2 λu H3=>r x l u H3 Q
theorem pe_slice{r:V->Option Int->Option Int->Hp->VK->Prop}(hr:SlR X r)(he:PE X e te)(hl:PO X lo tl)(hu:PO X hi th):PE X (.Subscript e (.Slice lo hi none p2) pos) (tSl r te tl th):=by
 intro pins s σ H Q I h
 refine Subscript_ (thn (he pins s σ H _ I h) λv s1 ⟨x,H1,I1,r1,q1⟩=>?_)
 refine wpAny_Slice (thn (hl pins s1 σ H1 _ I1 q1) λvl s2 ⟨l,H2,I2,pl,q2⟩=>thn (hu pins s2 σ H2 _ I2 q2) λvu s3 ⟨u,H3,I3,pu,q3⟩=>?_)
 rw[evalPart_none]
 refine wpAny_pure ?_
 have I4:Inv X pins σ H3 { s3 with heap:=s3.heap.push { cls:=.type "slice",data:=.fields #[vl,vu,.none] } }:=I3.kept (t':=s3.toks) λb ob q=>g0 _ q
 obtain⟨T,id,hT,ht,hg⟩:=hr pins { s3 with heap:=s3.heap.push { cls:=.type "slice",data:=.fields #[vl,vu,.none] } } σ H3 x v vl vu l u s3.heap.objs.size Q I4 r1 (Heap.IsSliceOf.new ..) pl pu q3
 show wpAny (model X.prog X.w) X.A (subscriptTail e (.Slice lo hi none p2) v (.ref s3.heap.objs.size)) (EP X pins σ Q) X.xe { s3 with heap:=s3.heap.push { cls:=.type "slice",data:=.fields #[vl,vu,.none] } }
 exact tail_any (ops:=[.ref s3.heap.objs.size,v]) ht hT hg (by with_unfolding_all rfl)
noncomputable def cutV(xs:List V)(lo hi:Option Int):List V:=(xs.drop (HT.sIx xs.length 0 lo)).take (HT.sIx xs.length xs.length hi - HT.sIx xs.length 0 lo)
theorem cutV_length(xs:List V)(lo hi:Option Int):(cutV xs lo hi).length<=xs.length:=by
 unfold cutV
 rw[U2,T3]
 omega
noncomputable def rSlT(K:i0):V->Option Int->Option Int->Hp->VK->Prop:=λx lo hi H Q=>∃a xs,x=.ref a/\SqT K H a xs /\
 ¬(HT.sIx xs.length 0 lo=0/\HT.sIx xs.length xs.length hi=xs.length)/\∀p,H p=none->Q (.ref p) (upd H p (.tup (cutV xs lo hi)))
theorem sl_tup:SlR X (rSlT X.K):=by
 intro pins s σ H x v vl vu lo hi sl Q I rx hs pl pu h
 obtain⟨a,xs,rfl,hx,hw,q⟩:=h
 cases rx
 obtain⟨its,r,ht,hz⟩:=I.tuple hx
 have hlen:its.toArray.size=xs.length:=by rw[N0];exact r.length.symm
 refine ⟨"tuple",_,Z3.lookup,ht.typeIs,?_⟩
 refine HT.getItem_tuple_cut ht hs pl pu (by rw[hlen];exact hw) ?_ (by rw[hlen];exact hz)
 rw[hlen]
 refine ⟨.ref s.heap.objs.size,_,I.laid (t':=s.toks) (o:=.tup (cutV xs lo hi)) (λb ob q=>g0 _ q) (A0 _) ?_,rfl,q _ (I.hok.fresh (A0 _))⟩
 exact ⟨Q1 (cutV_length xs lo hi) hz,_,(r.drop (HT.sIx xs.length 0 lo)).take (HT.sIx xs.length xs.length hi - HT.sIx xs.length 0 lo),IsTupD.new _ _⟩
noncomputable def rCatT(K:i0):R2:=λx y H Q=>∃a b xs ys,x=.ref a/\y=.ref b/\SqT K H a xs/\SqT K H b ys/\xs≠[]/\xs.length+ys.length<=sizeLine /\
 (ys=[]->Q (.ref a) H)/\(ys≠[]->∀p,H p=none->Q (.ref p) (upd H p (.tup (xs++ys))))
theorem Vals.nil_iff{xs:List V}{us:List Value}(r:Vals xs us):us=[] ↔ xs=[]:=by
 cases r with
 | nil=>simp
 | cons _ _=>simp
theorem op_catT:OpR X (binaryOp .Add) (rCatT X.K):=by
 intro pins s σ H x y v u Q I rx ry h
 obtain⟨a,b,xs,ys,rfl,rfl,ha,hb,hx,hz,q1,q2⟩:=h
 cases rx
 cases ry
 obtain⟨its,r1,p1,_⟩:=I.tuple ha
 obtain⟨its2,r2,p2,_⟩:=I.tuple hb
 refine HT.cat_tup p1 p2 (λz=>hx (r1.nil_iff.mp z)) (λz=>⟨.ref a,H,I,rfl,q1 (r2.nil_iff.mp z)⟩) (λz=>?_) (by rw[<- r1.length,<- r2.length];exact hz)
 refine ⟨.ref s.heap.objs.size,_,I.laid (t':=s.toks) (o:=.tup (xs++ys)) (λb ob q=>g0 _ q) (A0 _) ?_,rfl,q2 (λw=>z (r2.nil_iff.mpr w)) _ (I.hok.fresh (A0 _))⟩
 exact ⟨by rw[R0];exact hz,_,r1.append r2,IsTupD.new _ _⟩
end
noncomputable def ixN(n:Nat)(i:Int):Option Nat:=if 0<=i then (if i < n then some i.toNat else none) else if -(n:Int)<=i then some (i+n).toNat else none
noncomputable def atI{α:Type}(xs:List α)(i:Int):Option α:=(ixN xs.length i).bind λj=>xs[j]?
theorem ixN_seq{n:Nat}{i:Int}{j:Nat}(h:ixN n i=some j):seqIndex? i n=some j/\j < n/\-(n:Int)<=i/\i < n:=by
 unfold ixN at h
 by_cases h0:0<=i
 ·rw[if_pos h0]at h
  by_cases h1:i < n
  ·rw[if_pos h1]at h
   have e:i.toNat=j:=S1 h
   exact ⟨by rw[seqIndex_of h0 h1,e],by omega,by omega,h1⟩
  ·rw[if_neg h1]at h;cases h
 ·rw[if_neg h0]at h
  by_cases h1:-(n:Int)<=i
  ·rw[if_pos h1]at h
   have e:(i+n).toNat=j:=S1 h
   exact ⟨by rw[seqIndex_neg (by omega) h1,e],by omega,h1,by omega⟩
  ·rw[if_neg h1]at h;cases h
theorem atI_get{α:Type}{xs:List α}{i:Int}{v:α}(h:atI xs i=some v):∃j,seqIndex? i xs.length=some j/\xs[j]?=some v/\j < xs.length/\-(xs.length:Int)<=i/\i < xs.length:=by
 unfold atI at h
 cases e:ixN xs.length i with
 | none=>rw[e]at h;cases h
 | some j =>
  rw[e]at h
  obtain⟨h1,h2,h3,h4⟩:=ixN_seq e
  exact ⟨j,h1,h,h2,h3,h4⟩
theorem atI_nat{α:Type}{xs:List α}{j:Nat}{v:α}(h:xs[j]?=some v):atI xs (j:Int)=some v:=by
 have hj:j < xs.length:=(X0.mp h).1
 have e:ixN xs.length (j:Int)=some j:=by
  unfold ixN
  rw[if_pos (by omega),if_pos (by omega)];simp
 unfold atI;rw[e];exact h
noncomputable def PlainIx(b:Expr):Prop:=∀o i,subscripted b false o i=operate [o,i] (getItem o i)
noncomputable def IxR(X:Cx)(r:R2):Prop :=
 ∀(value slice:Expr) (pins:List (Addr×Obj)) (s:Shared) (σ:St) (H:Hp) (x y:V) (v u:Value) (Q:VK),Inv X pins σ H s->RelV x v->RelV y u->r x y H Q ->
  subscripted slice false v u=operate [v,u] (getItem v u)->wpAny (model X.prog X.w) X.A (subscriptTail value slice v u) (EP X pins σ Q) X.xe s
noncomputable def MtR(X:Cx)(id:String)(r:V->List V->Hp->VK->Prop):Prop :=
 ∀(pins:List (Addr×Obj)) (s:Shared) (σ:St) (H:Hp) (x:V) (xs:List V) (v:Value) (us:List Value) (Q:VK),Inv X pins σ H s->RelV x v->Vals xs us->r x xs H Q ->
  wpAny (model X.prog X.w) X.A (call (.builtin id) (v :: us)) (EP X pins σ Q) X.xe s
section
variable {X:Cx}{a b:Expr}{ta tb:TE}{pos:Pos}
theorem IxR.or{r r':R2}(h:IxR X r)(h':IxR X r'):IxR X (λx y H Q=>r x y H Q\/r' x y H Q):=by
 intro value slice pins s σ H x y v u Q I rx ry q hs
 rcases q with q|q
 ·exact h value slice pins s σ H x y v u Q I rx ry q hs
 ·exact h' value slice pins s σ H x y v u Q I rx ry q hs
theorem pe_ix{r:R2}(hr:IxR X r)(ha:PE X a ta)(hb:PE X b tb)(hs:PlainIx b):PE X (.Subscript a b pos) (tOp r ta tb):=by
 intro pins s σ H Q I h
 exact Subscript_ (binT ha hb I h λv u s2 x y H2 I2 rx ry q=>hr a b pins s2 σ H2 x y v u Q I2 rx ry q (hs _ _))
noncomputable def rIxL(K:i0):R2:=λx y H Q=>∃p xs i v,x=.ref p/\y=.int i/\SqL K H p xs/\atI xs i=some v/\Q v H
noncomputable def rIxT(K:i0):R2:=λx y H Q=>∃p xs i v,x=.ref p/\y=.int i/\SqT K H p xs/\atI xs i=some v/\Q v H
theorem ix_list:IxR X (rIxL X.K):=by
 intro value slice pins s σ H x y v u Q I rx ry h hs
 obtain⟨p,xs,i,z,rfl,rfl,hq,he,q⟩:=h
 cases rx
 obtain⟨t,rfl⟩:=ry
 obtain⟨its,r,pl,hz⟩:=I.list hq
 obtain⟨j,h1,h2,h3,h4,h5⟩:=atI_get he
 obtain⟨w,ew,rw'⟩:=r.get h2
 have hl:=r.length
 have hn:=line63
 have fin:EP X pins σ Q w s:=⟨z,H,I,rw',q⟩
 by_cases h0:0<=i
 ·have hj:i.toNat=j:=by
   rw[seqIndex_of h0 h5]at h1
   exact S1 h1
  exact item_listR pl.isList h0 (by omega) (by rw[hj];simpa using ew) fin hs
 ·have hj:(i+(its.toArray.size:Int)).toNat=j:=by
   rw[seqIndex_neg (by omega) h4]at h1
   rw[N0,<- hl]
   exact S1 h1
  exact subscriptTail_builtinR (x:=w) pl.isList.typeIs slot_list_getitem.lookup
   (wpAny_getItem_list_neg (Q:=λr s'=>r=w/\EP X pins σ Q r s') pl.isList (by omega) (by rw[N0]<;>omega) (by omega) (by rw[hj];simpa using ew) ⟨rfl,fin⟩) hs
theorem ix_tup:IxR X (rIxT X.K):=by
 intro value slice pins s σ H x y v u Q I rx ry h hs
 obtain⟨p,xs,i,z,rfl,rfl,hq,he,q⟩:=h
 cases rx
 obtain⟨t,rfl⟩:=ry
 obtain⟨its,r,pl,hz⟩:=I.tuple hq
 obtain⟨j,h1,h2,h3,h4,h5⟩:=atI_get he
 obtain⟨w,ew,rw'⟩:=r.get h2
 have hl:=r.length
 have hn:=line63
 have fin:EP X pins σ Q w s:=⟨z,H,I,rw',q⟩
 exact subscriptTail_builtinR (x:=w) pl.typeIs slot_tuple_getitem.lookup
  (getItem_tuple (j:=j) (Q:=λr s'=>r=w/\EP X pins σ Q r s') pl (by omega) (by omega) (by rw[N0,<- hl];exact h1) (by simpa using ew) ⟨rfl,fin⟩) hs
theorem call_len_seq:CallR X (.builtin "len") (λxs H Q=>∃p ys,xs=[.ref p]/\(SqL X.K H p ys\/SqT X.K H p ys)/\Q (.int ys.length) H):=by
 intro pins s σ H xs us Q I r h
 obtain⟨p,ys,rfl,hq,q⟩:=h
 obtain⟨u,rfl,rx⟩:=vals1 r
 cases rx
 have hn:=line63
 rcases hq with hq|hq
 ·obtain⟨its,r',pl,hz⟩:=I.list hq
  have hlen:=r'.length
  exact Calls.call_len_list pl.isList (by simp only[N0]<;>omega) ⟨.int ys.length,H,I.tok _,⟨s.toks+1,by rw[N0,hlen]⟩,q⟩
 ·obtain⟨its,r',pl,hz⟩:=I.tuple hq
  have hlen:=r'.length
  exact len_tuple pl (by simp only[N0]<;>omega) ⟨.int ys.length,H,I.tok _,⟨s.toks+1,by rw[N0,hlen]⟩,q⟩
theorem call_list_of:CallR X (.type "list") (λxs H Q=>∃p ys,xs=[.ref p]/\(SqL X.K H p ys\/SqT X.K H p ys)/\∀l,H l=none->Q (.ref l) (upd H l (.lst ys))):=by
 intro pins s σ H xs us Q I r h
 obtain⟨p,ys,rfl,hq,q⟩:=h
 obtain⟨u,rfl,rx⟩:=vals1 r
 cases rx
 have fin:∀(its:List Value),Vals ys its->ys.length<=sizeLine->∀(h':Heap) (c':Nat),(∀b o',s.heap.get? b=some o'->h'.get? b=some o') ->
   h'.get? s.heap.objs.size=some { cls:=.type "list",dict:=none,data:=.seq its.toArray c',slots:=#[] }->EP X pins σ Q (.ref s.heap.objs.size) { s with heap:=h' }:=λits r' hz h' c' kp e =>
  ⟨.ref s.heap.objs.size,_,I.laid (t':=s.toks) kp (A0 _) (show ObjOk X.prog X.w _ h' _ (.lst ys) from ⟨hz,its,c',r',e⟩),rfl,q _ (I.hok.fresh (A0 _))⟩
 rcases hq with hq|hq
 ·obtain⟨its,r',pl,hz⟩:=I.list hq
  have hlen:=r'.length
  obtain⟨o,ho,hc,n,hd⟩:=pl.isList
  exact call_list_seq p (.inl rfl) ho hc hd (λh' c' kp e=>fin its r' hz h' c' kp e) (by simp only[N0]<;>omega)
 ·obtain⟨its,r',pl,hz⟩:=I.tuple hq
  have hlen:=r'.length
  obtain⟨o,ho,hc,n,hd⟩:=pl
  exact call_list_seq p (.inr rfl) ho hc hd (λh' c' kp e=>fin its r' hz h' c' kp e) (by simp only[N0]<;>omega)
theorem call_tuple_of:CallR X (.type "tuple") (λxs H Q=>∃p ys,xs=[.ref p]/\((SqL X.K H p ys/\∀l,H l=none->Q (.ref l) (upd H l (.tup ys)))\/(SqT X.K H p ys/\Q (.ref p) H))):=by
 intro pins s σ H xs us Q I r h
 obtain⟨p,ys,rfl,h⟩:=h
 obtain⟨u,rfl,rx⟩:=vals1 r
 cases rx
 rcases h with⟨hq,q⟩|⟨hq,q⟩
 ·obtain⟨its,r',pl,hz⟩:=I.list hq
  have hlen:=r'.length
  refine call_tuple_list pl.isList (λh' kp=>?_) (by simp only[N0]<;>omega)
  have I1:Inv X pins σ H { s with heap:=h' }:=I.kept (t':=s.toks) kp
  have I2:Inv X pins σ (upd H h'.objs.size (.tup ys)) { s with heap:=h'.push { cls:=.type "tuple",data:=.seq its.toArray } } :=
   I1.laid (t':=s.toks) (λb o e=>g0 _ e) (A0 _) (show ObjOk X.prog X.w _ _ _ (.tup ys) from ⟨hz,its,r',IsTupD.new _ _⟩)
  exact ⟨.ref h'.objs.size,_,I2,rfl,q _ (I1.hok.fresh (A0 _))⟩
 ·obtain⟨its,r',pl,hz⟩:=I.tuple hq
  exact call_tuple_same pl ⟨.ref p,H,I,rfl,q⟩
noncomputable def tyV(K:i0)(T:String)(x:V)(H:Hp):Prop:=match x with
 | .str _=>T = "str"
 | .int _=>T = "int"
 | .ref p=>(T = "list"/\∃xs,SqL K H p xs)\/(T = "tuple"/\∃o,K.lookup p=some o/\o.cls=.type "tuple"/\o.dict=none) \/
   (T = "dict"/\((∃kvs,H p=some (.dK kvs))\/∃kvs,H p=some (.dT kvs)))\/(T = "set"/\∃S n,H p=some (.set S n))
 | _=>False
theorem tyV_is{pins:List (Addr×Obj)}{σ:St}{H:Hp}{s:Shared}{T:String}{x:V}{v:Value}(I:Inv X pins σ H s)(r:RelV x v)(ty:tyV X.K T x H) :
  s.TypeIs v T/\∀a,v=.ref a->∃ob,s.heap.get? a=some ob/\ob.dict=none:=by
 cases x with
 | str z =>
  obtain⟨t,rfl⟩:=r
  cases (show T = "str" from ty)
  exact ⟨typeIs_str s z t,λ_ e=>nomatch e⟩
 | int i =>
  obtain⟨t,rfl⟩:=r
  cases (show T = "int" from ty)
  exact ⟨typeIs_int s i t,λ_ e=>nomatch e⟩
 | ref p =>
  cases r
  rcases ty with⟨rfl,xs,hq⟩|⟨rfl,o,hk,hc,hd⟩|⟨rfl,hk⟩|⟨rfl,S,n,hk⟩
  ·obtain⟨its,_,pl,_⟩:=I.list hq
   refine ⟨pl.isList.typeIs,λa e=>?_⟩
   cases e
   obtain⟨o,n,e,c,hd,_⟩:=pl
   exact ⟨o,e,hd⟩
  ·refine ⟨⟨o,I.kIn p o hk,hc⟩,λa e=>?_⟩
   cases e
   exact ⟨o,I.kIn _ o hk,hd⟩
  ·have z:∃o,s.heap.get? p=some o/\o.ExactDict:=by
    rcases hk with⟨kvs,hk⟩|⟨kvs,hk⟩
    ·obtain⟨_,_,_,_,o,_,_,e,ex,_⟩:=I.hok p _ hk
     exact ⟨o,e,ex⟩
    ·obtain⟨_,_,_,_,o,_,_,e,ex,_⟩:=I.hok p _ hk
     exact ⟨o,e,ex⟩
   obtain⟨o,e,ex⟩:=z
   refine ⟨⟨o,e,ex.1⟩,λa e2=>?_⟩
   cases e2
   exact ⟨o,e,ex.2.1⟩
  ·obtain⟨o,_,_,_,e,ex,_⟩:=I.hok p _ hk
   refine ⟨⟨o,e,ex.1⟩,λa e2=>?_⟩
   cases e2
   exact ⟨o,e,ex.2.1⟩
 | _=>exact False.elim ty
noncomputable def tBM0(K:i0)(T:String)(r:V->List V->Hp->VK->Prop)(to:TE):TE:=λσ H Q=>to σ H λx H1=>tyV K T x H1/\r x [] H1 Q
noncomputable def tBM(K:i0)(T:String)(r:V->List V->Hp->VK->Prop)(to:TE)(t:TA):TE:=λσ H Q=>to σ H λx H1=>tyV K T x H1/\t σ H1 λxs H2=>r x xs H2 Q
variable {o e:Expr}{es:List Expr}{to:TE}{t:TA}{name:Str}{apos cpos:Pos}{T id:String}{r:V->List V->Hp->VK->Prop}
theorem pe_bm0(pa:PlainAttrs T)(slot:Slot T name id)(hty:typeOf (.builtin id)=pure (.type "method_descriptor"))(hm:MtR X id r)(ho:PE X o to)
  (hbase:attributeBase o name X.env (eval o X.env)=eval o X.env:=by rfl) (hline:(apos.endLine==cpos.line)=true:=by rfl):PE X (.Call (.Attribute o name apos) [] [] cpos) (tBM0 X.K T r to):=by
 intro pins s σ H Q I h
 refine wpAny_Call_method0_late hbase hline (thn (ho pins s σ H _ I h) λv s1 ⟨x,H1,I1,r1,ty,q1⟩=>?_)
 obtain⟨h1,h2⟩:=tyV_is I1 r1 ty
 exact ⟨T,id,pa,slot,hty,h1,h2,Calls.callWith_builtin rfl (PySem.evalArgs_none (hm pins s1 σ H1 x [] v [] Q I1 r1 .nil q1))⟩
theorem pe_bm(pa:PlainAttrs T)(slot:Slot T name id)(hty:typeOf (.builtin id)=pure (.type "method_descriptor"))(hm:MtR X id r)(ho:PE X o to)(ha:PA X (e :: es) t)
  (hbase:attributeBase o name X.env (eval o X.env)=eval o X.env:=by rfl)
  (hfew:((backTo cpos (starEach (e :: es) X.env)).all (λx=>!x.1)&&(backToKw cpos (keywordEach [] X.env)).all (λx=>x.1.isSome)
    && decide ((e :: es).length+([]:List Keyword).length+(if ([]:List Keyword).isEmpty then 0 else 1) < 30))=true:=by rfl)
  (hline:(apos.endLine==cpos.line)=true:=by rfl) (hs:starEach (e :: es) X.env=(false,eval e X.env) :: starEach es X.env:=by rfl) (hplain:(backTo cpos (starEach es X.env)).any (·.1)=false:=by rfl) :
  PE X (.Call (.Attribute o name apos) (e :: es) [] cpos) (tBM X.K T r to t):=by
 intro pins s σ H Q I h
 refine wpAny_Call_method_late hbase hfew hline rfl (thn (ho pins s σ H _ I h) λv s1 ⟨x,H1,I1,r1,ty,q1⟩=>?_)
 obtain⟨h1,h2⟩:=tyV_is I1 r1 ty
 refine ⟨T,id,pa,slot,hty,h1,h2,?_⟩
 have hA:=ha cpos pins s1 σ H1 _ I1 q1
 rw[hs]at hA ⊢
 refine Calls.callWith_builtin (by show (false||(backTo cpos (starEach es X.env)).any (·.1))=false;rw[hplain]<;>rfl) (Calls.evalArgs_plain ?_)
 exact thn hA λus s2 ⟨vs,H2,I2,r2,q2⟩=>hm pins s2 σ H2 x vs v us Q I2 r1 r2 q2
end
noncomputable def MtM(X:Cx)(id:String)(r:V->List V->Hp->VK->Prop):Prop :=
 ∀(pins:List (Addr×Obj)) (s:Shared) (σ:St) (H:Hp) (x:V) (xs:List V) (v:Value) (us:List Value) (Q:VK),Inv X pins σ H s->RelV x v->Vals xs us->r x xs H Q ->
  wpAny (model X.prog X.w) X.A (call (.builtin id) (v :: us)) (EP X pins σ Q) X.xe s
theorem Vals.one:∀{x:V}{us:List Value},Vals [x] us->∃u,us=[u]/\RelV x u
 | _,_,.cons r .nil=>⟨_,rfl,r⟩
theorem Vals.zero:∀{us:List Value},Vals [] us->us=[]
 | _,.nil=>rfl
theorem Vals.dropLast{xs:List V}{us:List Value}(h:Vals xs us):Vals xs.dropLast us.dropLast:=by
 induction h with
 | nil=>exact .nil
 | cons r t ih =>
  cases t with
  | nil=>exact .nil
  | cons q t'=>exact .cons r ih
theorem Vals.reverse{xs:List V}{us:List Value}(h:Vals xs us):Vals xs.reverse us.reverse:=by
 induction h with
 | nil=>exact .nil
 | cons r t ih=>rw[Z4,Z4];exact Vals.append ih (.cons r .nil)
theorem Vals.rep{xs:List V}{us:List Value}(h:Vals xs us):∀k:Nat,Vals (Z0 k xs).flatten (Z0 k us).flatten
 | 0=>.nil
 | k+1=>by
  rw[X3,X3,O4,O4]
  exact Vals.append h (Vals.rep h k)
theorem erase_last{α:Type}(l:List α):l.eraseIdx (l.length - 1)=l.dropLast:=by
 induction l with
 | nil=>rfl
 | cons a r ih =>
  cases r with
  | nil=>rfl
  | cons b r =>
   have e:(a :: b :: r).length - 1=((b :: r).length - 1)+1:=by
    have h1:(a :: b :: r).length=r.length+2:=rfl
    have h2:(b :: r).length=r.length+1:=rfl
    omega
   rw[e,List.eraseIdx_cons_succ,ih]
   all_goals rfl
theorem foldl_rep(its:List Value):∀(k:Nat) (acc:List Value),
  N8 (λx1 x2=>x1++x2) acc.toArray (Z0 k its.toArray)=(acc++(Z0 k its).flatten).toArray
 | 0,acc=>by simp
 | k+1,acc=>by
  have e:acc.toArray++its.toArray=(acc++its).toArray:=by simp
  have e2:(acc++its)++(Z0 k its).flatten=acc++(Z0 (k+1) its).flatten:=by
   rw[X3,O4,Z1]
  rw[<- e2,<- foldl_rep its k (acc++its),<- e,X3,P7]
section
variable {X:Cx}{pins:List (Addr×Obj)}{σ:St}{H:Hp}{s:Shared}{l b:Addr}{xs ys zs:List V}
theorem Inv.lset{its its':List Value}{n:Nat}{f:Array Value->Array Value}{t':Nat}(I:Inv X pins σ H s)(hH:H l=some (.lst xs))
  (e:s.heap.get? l=some { cls:=.type "list",data:=.seq its.toArray n }) (hf:f its.toArray=its'.toArray) (hv:Vals ys its') (hz:ys.length<=sizeLine) :
  Inv X pins σ (upd H l (.lst ys)) { s with heap:=s.heap.update l (P3 f),toks:=t' }:=by
 have q:=PySem.IsL.update e f
 rw[hf]at q
 refine I.write (x:=l) (e:=l) (by rw[hH];exact trivial) (.inl rfl) (λb' u hb hu=>(J3 s.heap (P3 f) (G2 hb)).trans hu) ⟨_,q⟩ ?_
 exact ⟨hz,its',_,hv,q⟩
theorem Inv.lnew{its:List Value}{t':Nat}(I:Inv X pins σ H s)(hv:Vals ys its)(hz:ys.length<=sizeLine) :
  Inv X pins σ (upd H s.heap.objs.size (.lst ys)) { s with heap:=s.heap.push { cls:=.type "list",data:=.seq its.toArray },toks:=t' } :=
 I.laid (λ_ _ q=>g0 _ q) (A0 _) ⟨hz,its,0,hv,G0 _ rfl⟩
theorem Inv.fresh(I:Inv X pins σ H s):H s.heap.objs.size=none:=I.hok.fresh (A0 _)
theorem Inv.lstM(I:Inv X pins σ H s)(hH:H l=some (.lst xs)):xs.length<=sizeLine/\∃(its:List Value) (n:Nat),Vals xs its/\xs.length=its.length/\s.heap.get? l=some { cls:=.type "list",data:=.seq its.toArray n }:=by
 obtain⟨z,its,n,r,e⟩:=I.hok l _ hH
 exact ⟨z,its,n,r,r.length,e⟩
theorem notLongL{n:Nat}(h:n<=sizeLine):O3 n=false:=by
 unfold O3
 exact decide_eq_false (by omega)
end
section
variable {X:Cx}
noncomputable def rAppend:V->List V->Hp->VK->Prop:=λx vs H Q=>∃l xs y,x=.ref l/\vs=[y]/\H l=some (.lst xs)/\xs.length < sizeLine/\Q .non (upd H l (.lst (xs++[y])))
theorem mt_append:MtM X "list.append" rAppend:=by
 intro pins s σ H x vs v us Q I rx rv h
 obtain⟨l,xs,y,rfl,rfl,hH,hz,q⟩:=h
 cases rx
 obtain⟨u,rfl,ru⟩:=rv.one
 obtain⟨z,its,n,r,hl,e⟩:=I.lstM hH
 refine call_meets F.slot_list_append ⟨_,e,rfl⟩ F.entry_list_append (F.args_list_append_2 _ _) (PySem.list_append l its.toArray n u (by rw[N0];omega)) ⟨e,?_⟩
 refine ⟨.non,_,I.lset (its':=its++[u]) hH e (by simp) (r.append (.cons ru .nil)) ?_,rfl,q⟩
 rw[R0,U1]
 omega
noncomputable def rExtend:V->List V->Hp->VK->Prop:=λx vs H Q=>∃l b xs zs,x=.ref l/\vs=[.ref b]/\H l=some (.lst xs)/\H b=some (.lst zs)/\xs.length+zs.length<=sizeLine/\Q .non (upd H l (.lst (xs++zs)))
theorem mt_extend:MtM X "list.extend" rExtend:=by
 intro pins s σ H x vs v us Q I rx rv h
 obtain⟨l,b,xs,zs,rfl,rfl,hH,hB,hz,q⟩:=h
 cases rx
 obtain⟨u,rfl,ru⟩:=rv.one
 cases ru
 obtain⟨z,its,n,r,hl,e⟩:=I.lstM hH
 obtain⟨z2,its2,n2,r2,hl2,e2⟩:=I.lstM hB
 have hsz:its.toArray.size+its2.toArray.size<=sizeLine:=by rw[N0,N0];omega
 have hlong:¬(!its.toArray.isEmpty&&O3 (its.toArray.size+its2.toArray.size))=true:=by
  rw[notLongL hsz,S6]
  exact W0
 refine call_meets F.slot_list_extend ⟨_,e,rfl⟩ F.entry_list_extend (F.args_list_extend_2 _ _)
  (AutoSeq1.list_extend_list_list_0 l its.toArray n b its2.toArray n2 hlong (by rw[N0];omega) (by omega)) ⟨e,e2,?_⟩
 refine ⟨.non,_,I.lset (its':=its++its2) hH e (by simp) (r.append r2) ?_,rfl,q⟩
 rw[R0]
 omega
noncomputable def rPop:V->List V->Hp->VK->Prop:=λx vs H Q=>∃l xs y,x=.ref l/\vs=[]/\H l=some (.lst xs)/\xs[xs.length - 1]?=some y/\Q y (upd H l (.lst xs.dropLast))
theorem mt_pop:MtM X "list.pop" rPop:=by
 intro pins s σ H x vs v us Q I rx rv h
 obtain⟨l,xs,y,rfl,rfl,hH,hy,q⟩:=h
 cases rx
 have hus:=rv.zero
 subst hus
 obtain⟨z,its,n,r,hl,e⟩:=I.lstM hH
 obtain⟨u,hu,ru⟩:=r.get hy
 have hy':its.toArray[its.toArray.size - 1]?=some u:=by
  show its.toArray[its.length - 1]?=some u
  rw[<- Z2,<- hl]
  exact hu
 refine call_meets F.slot_list_pop ⟨_,e,rfl⟩ F.entry_list_pop (F.args_list_pop_1 _) (MeetsSeq.list_pop_last l its.toArray n u hy' (by rw[N0];omega)) ⟨e,?_⟩
 refine ⟨y,_,I.lset (its':=its.dropLast) hH e ?_ r.dropLast ?_,ru,q⟩
 ·show its.toArray.eraseIdxIfInBounds (its.toArray.size - 1)=its.dropLast.toArray
  rw[N0,List.eraseIdxIfInBounds_toArray,erase_last]
 ·rw[List.length_dropLast]
  omega
noncomputable def rReverse:V->List V->Hp->VK->Prop:=λx vs H Q=>∃l xs,x=.ref l/\vs=[]/\H l=some (.lst xs)/\Q .non (upd H l (.lst xs.reverse))
theorem mt_reverse:MtM X "list.reverse" rReverse:=by
 intro pins s σ H x vs v us Q I rx rv h
 obtain⟨l,xs,rfl,rfl,hH,q⟩:=h
 cases rx
 have hus:=rv.zero
 subst hus
 obtain⟨z,its,n,r,hl,e⟩:=I.lstM hH
 refine call_meets F.slot_list_reverse ⟨_,e,rfl⟩ F.entry_list_reverse (F.args_list_reverse_1 _) (AutoSeq1.list_reverse_list_0 l its.toArray n (by rw[N0];omega)) ⟨e,?_⟩
 refine ⟨.non,_,I.lset (its':=its.reverse) hH e (by simp) r.reverse ?_,rfl,q⟩
 rw[M6]
 omega
noncomputable def rCat:R2:=λx y H Q=>∃l b xs zs,x=.ref l/\y=.ref b/\H l=some (.lst xs)/\H b=some (.lst zs)/\xs.length+zs.length<=sizeLine/\∀p,H p=none->Q (.ref p) (upd H p (.lst (xs++zs)))
theorem op_cat:OpR X (binaryOp .Add) rCat:=by
 intro pins s σ H x y v u Q I rx ry h
 obtain⟨l,b,xs,zs,rfl,rfl,hH,hB,hz,q⟩:=h
 cases rx
 cases ry
 obtain⟨z,its,n,r,hl,e⟩:=I.lstM hH
 obtain⟨z2,its2,n2,r2,hl2,e2⟩:=I.lstM hB
 refine PySem.P.add_list e e2 ?_ (by rw[N0,N0];omega)
 have ea:its.toArray++its2.toArray=(its++its2).toArray:=by simp
 rw[ea]
 exact ⟨.ref _,_,I.lnew (t':=s.toks) (r.append r2) (by rw[R0];omega),rfl,q _ I.fresh⟩
noncomputable def rRep:R2:=λx y H Q=>∃l k xs,x=.ref l/\y=.int k/\H l=some (.lst xs)/\-(2 ^ 63)<=k/\k < 2 ^ 63/\xs.length * k.toNat<=sizeLine /\
 ∀p,H p=none->Q (.ref p) (upd H p (.lst (Z0 k.toNat xs).flatten))
theorem len_rep{α:Type}(xs:List α)(k:Nat):(Z0 k xs).flatten.length=k * xs.length:=by
 induction k with
 | zero=>simp
 | succ k ih=>rw[X3,O4,R0,ih,x8,Nat.add_comm]
theorem op_rep:OpR X (binaryOp .Mult) rRep:=by
 intro pins s σ H x y v u Q I rx ry h
 obtain⟨l,k,xs,rfl,rfl,hH,h1,h2,hz,q⟩:=h
 cases rx
 obtain⟨t,rfl⟩:=ry
 obtain⟨z,its,n,r,hl,e⟩:=I.lstM hH
 have hlen:its.toArray.size * k.toNat<=sizeLine:=by rw[N0,<- hl];exact hz
 have hcap:¬its.toArray.size * k.toNat > (2 ^ 63 - 1) / 8:=by
  have:(sizeLine:Nat)<=(2 ^ 63 - 1) / 8:=by decide
  omega
 have hfit:¬(!Builtin.List.listFitsIndex k)=true:=by
  rw[fitsIndex_both h1 h2]
  exact W0
 have hlong:¬O3 (its.toArray.size * k.toNat)=true:=by
  rw[notLongL hlen]
  exact W0
 have hnew:N8 (λx1 x2=>x1++x2) #[] (Z0 (if its.toArray.isEmpty=true then 0 else k.toNat) its.toArray)=(Z0 k.toNat its).flatten.toArray:=by
  have f0:∀m:Nat,N8 (λx1 x2=>x1++x2) #[] (Z0 m its.toArray)=(Z0 m its).flatten.toArray:=λm=>by
   have:=foldl_rep its m []
   rw[Q7]at this
   exact this
  rw[f0]
  cases its with
  | nil=>simp
  | cons a r'=>rw[if_neg (by simp)]
 refine wpAny_binaryOp_repeat_ref (T:="list") (U:="int") (by decide) ⟨_,e,rfl⟩ (λs'=>typeIs_int s' k t) noFill_list_mul F.fills_int_mul F.slot_int_rmul repeat_list F.slot_int_index.lookup
  (call_meets F.slot_int_rmul (typeIs_int s k t) F.entry_int_rmul (F.args_int_rmul_2 _ _) (int___rmul___int_list k t l its.toArray n)
    ⟨e,rfl,⟨_,e,rfl⟩,call_meets F.slot_list_mul ⟨_,e,rfl⟩ F.entry_list_mul (F.args_list_mul_2 _ _) (AutoListH.list___mul___list_int_3 l its.toArray n k t hfit hcap hlong) ⟨e,?_⟩⟩)
 rw[hnew]
 exact ⟨.ref _,_,I.lnew (t':=s.toks) (r.rep k.toNat) (by rw[len_rep,Nat.mul_comm];exact hz),rfl,q _ I.fresh⟩
end
section
variable {prog:Program}{w:World}{A:Around}{E:Value->Shared->Prop}{s:Shared}
set_option maxRecDepth 100000 in
end
section
variable {X:Cx}
end
section
variable {κ:Type}[DecidableEq κ]
noncomputable def valV(kvs:List (κ×V))(k:κ):Option V:=(kvs.find? λkv=>decide (kv.1=k)).map (·.2)
noncomputable def putK(kvs:List (κ×V))(k:κ)(v:V):List (κ×V) :=
 if (kvs.any λkv=>decide (kv.1=k))=true then kvs.map (λkv=>if kv.1=k then (kv.1,v) else kv) else kvs++[(k,v)]
theorem valV_pos{p:κ×V}{r:List (κ×V)}{k:κ}(e:p.1=k):valV (p :: r) k=some p.2:=by simp[valV,A3,e]
theorem valV_neg{p:κ×V}{r:List (κ×V)}{k:κ}(e:¬p.1=k):valV (p :: r) k=valV r k:=by simp[valV,A3,e]
theorem valV_any(k:κ):∀kvs:List (κ×V),(kvs.any λkv=>decide (kv.1=k))=(valV kvs k).isSome
 | []=>rfl
 | p :: r=>by
  rw[w6]
  by_cases e:p.1=k
  ·simp only[valV_pos e,decide_eq_true e,Bool.true_or,r8]
  ·rw[valV_neg e,decide_eq_false e,Bool.false_or];exact valV_any k r
theorem length_putK(kvs:List (κ×V))(k:κ)(v:V):(putK kvs k v).length<=kvs.length+1:=by
 unfold putK
 split
 ·rw[n0];omega
 ·rw[R0,E3,M5];omega
theorem putK_new{kvs:List (κ×V)}{k:κ}(v:V)(h:valV kvs k=none):putK kvs k v=kvs++[(k,v)]:=by
 unfold putK
 rw[valV_any,h]
 exact if_neg (by decide)
theorem RelO.isSome_eq{o:Option V}{u:Option Value}(r:RelO o u):o.isSome=u.isSome:=by
 cases o with
 | none=>cases u with
  | none=>rfl
  | some _=>exact (show False from r).elim
 | some _=>cases u with
  | none=>exact (show False from r).elim
  | some _=>rfl
theorem KV.val{kvs:List (κ×V)}{vs:List (κ×Value)}(r:KV kvs vs)(k:κ):RelO (valV kvs k) (valueAt vs k):=by
 unfold KV at r
 induction r with
 | nil=>exact True.intro
 | @cons p q ps qs h t ih =>
  obtain⟨h1,h2⟩:=h
  by_cases e:p.1=k
  ·have e':q.1=k:=h1.symm.trans e
   have b:valueAt (q :: qs) k=some q.2:=by simp[valueAt,A3,e']
   rw[valV_pos e,b];exact h2
  ·have e':¬q.1=k:=λz=>e (h1.trans z)
   have b:valueAt (q :: qs) k=valueAt qs k:=by simp[valueAt,A3,e']
   rw[valV_neg e,b];exact ih
theorem KV.any{kvs:List (κ×V)}{vs:List (κ×Value)}(r:KV kvs vs)(k:κ):(kvs.any λkv=>decide (kv.1=k))=vs.any λkv=>decide (kv.1=k):=by
 unfold KV at r
 induction r with
 | nil=>rfl
 | cons h t ih=>rw[w6,w6,ih,h.1]
theorem KV.repl{kvs:List (κ×V)}{vs:List (κ×Value)}(r:KV kvs vs)(k:κ){y:V}{u:Value}(ry:RelV y u) :
  KV (kvs.map λkv=>if kv.1=k then (kv.1,y) else kv) (vs.map λkv=>if kv.1=k then (kv.1,u) else kv):=by
 unfold KV at r ⊢
 induction r with
 | nil=>exact .nil
 | @cons p q ps qs h t ih =>
  rw[X1,X1]
  refine .cons ?_ ih
  obtain⟨h1,h2⟩:=h
  by_cases e:p.1=k
  ·rw[if_pos e,if_pos (h1.symm.trans e)];exact ⟨h1,ry⟩
  ·rw[if_neg e,if_neg (λz=>e (h1.trans z))];exact ⟨h1,h2⟩
theorem KV.put{kvs:List (κ×V)}{vs:List (κ×Value)}(r:KV kvs vs)(k:κ){y:V}{u:Value}(ry:RelV y u):KV (putK kvs k y) (stored vs k u):=by
 unfold putK stored
 rw[r.any k]
 by_cases e:(vs.any λkv=>decide (kv.1=k))=true
 ·rw[if_pos e,if_pos e];exact r.repl k ry
 ·rw[if_neg e,if_neg e];exact Paired.snoc r ⟨rfl,ry⟩
theorem KV.length{kvs:List (κ×V)}{vs:List (κ×Value)}(r:KV kvs vs):kvs.length=vs.length:=Paired.length r
end
theorem kV_is{P:Program}{w:World}{k:Key}{u:Value}(r:RelV (kV k) u):(mixKind P w).is k u=true:=by
 cases k with
 | inl i=>obtain⟨t,e⟩:=(show ∃t,u=Q6 i t from r);subst e;exact mixKind_int P w i t
 | inr x=>obtain⟨t,e⟩:=(show ∃t,u=Value.str x t from r);subst e;exact mixKind_str P w x t
theorem items_are{P:Program}{w:World}:∀{ks:List Key}{us:List Value},Vals (ks.map kV) us->ItemsAre (mixKind P w) ks us
 | [],_,r=>by rw[O6]at r;cases r;exact .nil
 | k :: ks,_,r=>by
  rw[X1]at r
  cases r with
  | cons h t=>exact .cons (kV_is h) (items_are t)
noncomputable abbrev KT(H:Hp):List (List Key×V)->List (List Key×Addr×Value)->Prop:=Paired λp q=>p.1=q.1/\H q.2.1=some (.tup (p.1.map kV))/\RelV p.2 q.2.2
theorem KT.val{H:Hp}{kvs:List (List Key×V)}{xs:List (List Key×Addr×Value)}(r:KT H kvs xs)(k:List Key):RelO (valV kvs k) ((atKey xs k).map (·.2)):=by
 induction r with
 | nil=>exact True.intro
 | @cons p q ps qs h t ih =>
  obtain⟨h1,_,h2⟩:=h
  by_cases e:p.1=k
  ·have e':q.1=k:=h1.symm.trans e
   have b:atKey (q :: qs) k=some q.2:=by simp[atKey,A3,e']
   rw[valV_pos e,b];exact h2
  ·have e':¬q.1=k:=λz=>e (h1.trans z)
   have b:atKey (q :: qs) k=atKey qs k:=by simp[atKey,A3,e']
   rw[valV_neg e,b];exact ih
theorem KT.repl{H:Hp}{kvs:List (List Key×V)}{xs:List (List Key×Addr×Value)}(r:KT H kvs xs)(k:List Key){y:V}{u:Value}(ry:RelV y u) :
  KT H (kvs.map λkv=>if kv.1=k then (kv.1,y) else kv) (xs.map (putAt k u)):=by
 induction r with
 | nil=>exact .nil
 | @cons p q ps qs h t ih =>
  rw[X1,X1]
  refine .cons ?_ ih
  obtain⟨h1,h2,h3⟩:=h
  unfold putAt
  by_cases e:p.1=k
  ·rw[if_pos e,if_pos (h1.symm.trans e)];exact ⟨h1,h2,ry⟩
  ·rw[if_neg e,if_neg (λz=>e (h1.trans z))];exact ⟨h1,h2,h3⟩
theorem KT.put{H:Hp}{kvs:List (List Key×V)}{xs:List (List Key×Addr×Value)}(r:KT H kvs xs)(k:List Key){b:Addr}{y:V}{u:Value}(hb:H b=some (.tup (k.map kV)))(ry:RelV y u) :
  KT H (putK kvs k y) (storedH xs k b u):=by
 have e:(kvs.any λkv=>decide (kv.1=k))=(atKey xs k).isSome:=by
  rw[valV_any,(r.val k).isSome_eq,Option.isSome_map]
 unfold putK storedH
 rw[e]
 by_cases q:(atKey xs k).isSome=true
 ·rw[if_pos q,if_pos q];exact r.repl k ry
 ·rw[if_neg q,if_neg q];exact Paired.snoc r ⟨rfl,hb,ry⟩
theorem KT.keeps{H H':Hp}{kvs:List (List Key×V)}{xs:List (List Key×Addr×Value)}(r:KT H kvs xs)(ht:∀b ys,H b=some (.tup ys)->H' b=some (.tup ys)):KT H' kvs xs :=
 Paired.mapP r λ_ _ z=>⟨z.1,ht _ _ z.2.1,z.2.2⟩
section
variable {P:Program}{w:World}{H:Hp}{h:Heap}{a:Addr}
theorem rd_of{u:HO}(ok:HOk P w H h)(e:Rd H a u):ObjOk P w H h a u:=e.ok ok
theorem dk_rd{kvs:List (Key×V)}(ok:HOk P w H h)(e:Rd H a (.dK kvs)):kvs.length<=sizeLine/\(a==sysModules)=false/\∃vs,KV kvs vs/\h.DictOf (mixKind P w) a vs :=
 show ObjOk P w H h a (.dK kvs) from rd_of ok e
theorem dk_of{kvs:List (Key×V)}(ok:HOk P w H h)(e:H a=some (.dK kvs)):kvs.length<=sizeLine/\(a==sysModules)=false/\∃vs,KV kvs vs/\h.DictOf (mixKind P w) a vs:=dk_rd ok (.inl e)
theorem key_of{ks:List Key}(ok:HOk P w H h)(e:H a=some (.tup (ks.map kV))):(tupleKind (mixKind P w)).is h ks a:=by
 obtain⟨_,its,r,o,h1,h2,n,h3,_⟩:=(show ObjOk P w H h a (.tup (ks.map kV)) from ok a _ e)
 exact ⟨o,its.toArray,n,h1,h2,h3,by simpa using items_are r⟩
theorem dt_rd{kvs:List (List Key×V)}(ok:HOk P w H h)(e:Rd H a (.dT kvs)):kvs.length<=sizeLine/\(a==sysModules)=false /\
  ∃xs,KT H kvs xs/\h.DictOfH (tupleKind (mixKind P w)) a xs:=by
 obtain⟨z,y,xs,r,o,es,ep,h1,h2,h3,h4,h5⟩:=(show ObjOk P w H h a (.dT kvs) from rd_of ok e)
 refine ⟨z,y,xs,r,o,es,ep,h1,h2,h3,h4,λx hx=>?_,h5⟩
 have all:∀{l:List (List Key×V)}{m:List (List Key×Addr×Value)},KT H l m->∀x∈m,(tupleKind (mixKind P w)).is h x.1 x.2.1:=by
  intro l m q
  induction q with
  | nil=>intro x hx;exact nomatch hx
  | @cons p q ps qs hq t ih =>
   intro x hx
   rcases Y0.mp hx with e|hx
   ·subst e
    exact key_of ok (by rw[<- hq.1];exact hq.2.1)
   ·exact ih x hx
 exact all r x hx
theorem dt_of{kvs:List (List Key×V)}(ok:HOk P w H h)(e:H a=some (.dT kvs)):kvs.length<=sizeLine/\(a==sysModules)=false /\
  ∃xs,KT H kvs xs/\h.DictOfH (tupleKind (mixKind P w)) a xs:=dt_rd ok (.inl e)
end
noncomputable def DGet(H:Hp)(a:Addr)(y:V)(r:Option V):Prop :=
 (∃kvs k,Rd H a (.dK kvs)/\y=kV k/\r=valV kvs k)\/∃kvs k b,Rd H a (.dT kvs)/\y=.ref b/\H b=some (.tup (k.map kV))/\r=valV kvs k
noncomputable def DPut(H:Hp)(a:Addr)(y v:V)(H':Hp):Prop :=
 (∃kvs k,H a=some (.dK kvs)/\y=kV k/\kvs.length < sizeLine/\H'=upd H a (.dK (putK kvs k v))) \/
 ∃kvs k b,H a=some (.dT kvs)/\y=.ref b/\H b=some (.tup (k.map kV))/\kvs.length < sizeLine/\H'=upd H a (.dT (putK kvs k v))
section
variable {X:Cx}{pins:List (Addr×Obj)}{σ:St}{H:Hp}{s:Shared}{a:Addr}{y v:V}{u r:Value}{o:Option V}{A:Around}{E:Value->Shared->Prop}
theorem Inv.big(I:Inv X pins σ H s):sysModules < s.heap.objs.size:=by
 have h:mainGlobals < s.heap.objs.size:=(I.mod.glob.keeps I.bk).lt
 exact Nat.lt_trans (by decide) h
theorem d_getItem{Q:Value->Shared->Prop}(hu:A.units+1 < cLine)(I:Inv X pins σ H s)(g:DGet H a y (some v))(ry:RelV y u)(h:∀w' s',Inv X pins σ H s'->RelV v w'->Q w' s') :
  wpAny (model X.prog X.w) A (getItem (.ref a) u) Q E s:=by
 rcases g with⟨kvs,k,e,ey,l⟩|⟨kvs,k,b,e,ey,eb,l⟩
 ·subst ey
  obtain⟨z,hd,vs,rel,dd⟩:=dk_rd I.hok e
  obtain⟨w',hw,rw'⟩:=RelO.some_of (v:=v) (o:=valueAt vs k) (by rw[l];exact rel.val k)
  exact wpAny_getItem_of (kV_is ry) dd.mapOf hw (h w' _ (I.tok _) rw')
 ·subst ey
  cases (show u=Y1 b from ry)
  obtain⟨z,hd,xs,rel,dd⟩:=dt_rd I.hok e
  obtain⟨w',hw,rw'⟩:=RelO.some_of (v:=v) (o:=(atKey xs k).map (·.2)) (by rw[l];exact rel.val k)
  obtain⟨p,hp,hp2⟩:=B4.mp hw
  refine wpAny_getItem_heap (tupleKind_room_in1 hu) (key_of I.hok eb) dd hp ?_
  rw[hp2]
  exact h w' _ (I.tok _) rw'
theorem d_write{h':Heap}{t':Nat}{ob:HO}(I:Inv X pins σ H s)(mu:Mut (H a))(hs:u4 a s.heap h')(he:∃q,h'.get? a=some q)(new:ObjOk X.prog X.w (upd H a ob) h' a ob) :
  Inv X pins σ (upd H a ob) { s with heap:=h',toks:=t' } :=
 I.write (x:=a) (e:=a) mu (.inl rfl) (λb q hb z=>(hs.2 b hb).trans z) he new
theorem dk_new{P:Program}{w:World}{H':Hp}{h':Heap}{kvs:List (Key×V)}{vs:List (Key×Value)}(z:kvs.length<=sizeLine)(hd:(a==sysModules)=false)(rel:KV kvs vs)(dd:h'.DictOf (mixKind P w) a vs) :
  ObjOk P w H' h' a (.dK kvs):=⟨z,hd,vs,rel,dd⟩
theorem d_setItem{H':Hp}{Q:Unit->Shared->Prop}(hu:A.units+1 < cLine)(I:Inv X pins σ H s)(g:DPut H a y v H')(ry:RelV y u)(rv:RelV v r)(h:∀s',Inv X pins σ H' s'->Q () s') :
  wpAny (model X.prog X.w) A (setItem (.ref a) u r) Q E s:=by
 rcases g with⟨kvs,k,e,ey,l,eH⟩|⟨kvs,k,b,e,ey,eb,l,eH⟩
 ·subst ey eH
  obtain⟨z,hd,vs,rel,dd⟩:=dk_of I.hok e
  have hz:vs.length<=sizeLine:=by rw[<- rel.length];exact z
  have hl:(putK kvs k v).length<=sizeLine:=by have:=length_putK kvs k v;omega
  refine wpAny_setItem_pairs (hsz:=hz) (kV_is ry) dd λh' dd' hs=>h _ ?_
  have he:∃q,h'.get? a=some q:=let ⟨q,_,_,hq,_⟩:=dd';⟨q,hq⟩
  exact d_write I (by rw[e];exact True.intro) hs he (dk_new hl hd (rel.put k rv) dd')
 ·subst ey eH
  cases (show u=Y1 b from ry)
  obtain⟨z,hd,xs,rel,dd⟩:=dt_of I.hok e
  have hz:xs.length<=sizeLine:=by rw[<- Paired.length rel];exact z
  have hl:(putK kvs k v).length<=sizeLine:=by have:=length_putK kvs k v;omega
  refine wpAny_setItem_heap (hsz:=hz) (tupleKind_room_in1 hu) (key_of I.hok eb) dd λh' dd' hs=>h _ ?_
  obtain⟨q,es,ep,hq,h2,h3,h4,_,h5⟩:=dd'
  refine d_write I (by rw[e];exact True.intro) hs ⟨q,hq⟩ ⟨hl,hd,_,(rel.put k eb rv).keeps λc ys ec=>?_,q,es,ep,hq,h2,h3,h4,h5⟩
  rw[upd_ne (ne_of ec e (λz=>nomatch z))]
  exact ec
end
section
variable {X:Cx}{pins:List (Addr×Obj)}{σ:St}{H:Hp}{s:Shared}{a:Addr}{kvs:List (Key×V)}{k:Key}{u:Value}{A:Around}{E:Value->Shared->Prop}
end
noncomputable def NoSl(i:Expr):Prop:=∀ov iv,subscripted i false ov iv=operate [ov,iv] (getItem ov iv)
theorem subD_of{prog:Program}{w:World}{A:Around}{E:Value->Shared->Prop}{s:Shared}{env:Env}{value slice:Expr}{pos:Pos}{T id:String}{Q:Value->Shared->Prop}
  (hl:typeLookup (.type T) "__getitem__"=pure (some (.builtin id))) (hs:NoSl slice)
  (h:wpAny (model prog w) A (eval value env) (λo s₁=>wpAny (model prog w) A (eval slice env) (λi s₂=>s₂.TypeIs o T/\wpAny (model prog w) A (getItem o i) Q E s₂) E s₁) E s) :
  wpAny (model prog w) A (eval (.Subscript value slice pos) env) Q E s:=by
 refine Subscript_ (wpAny_mono h (λo s₁ h₁=>wpAny_mono h₁ (λi s₂ h₂=>?_) λ_ _ x=>x) λ_ _ x=>x)
 obtain⟨hT,h₂⟩:=h₂
 unfold subscriptTail
 refine wpAny_bind ?_
 rw[getitemInPython_of_ne hT.not_modules]
 refine wpAny_bind (wpAny_specialOf hT hl ?_)
 have fin:wpAny (model prog w) A (subscripted slice false o i) (λr s₃=>wpAny (model prog w) A (letTemporaryGo value o r >>= λ_=>pure r) Q E s₃) E s₂:=by
  rw[hs o i]
  exact wpAny_operating (wpAny_mono h₂ (λr s₃ h₃=>wpAny_bind (wpAny_letTemporaryGo (wpAny_pure h₃))) λ_ _ x=>x)
 first
  | exact wpAny_pure (wpAny_bind fin)
  | exact wpAny_bind (wpAny_pure (wpAny_bind fin))
  | exact wpAny_bind fin
theorem dict_typeIs{X:Cx}{pins:List (Addr×Obj)}{σ:St}{H:Hp}{s:Shared}{a:Addr}{y:V}{o:Option V}(I:Inv X pins σ H s)(g:DGet H a y o):s.TypeIs (.ref a) "dict":=by
 rcases g with⟨kvs,k,e,_,_⟩|⟨kvs,k,b,e,_,_,_⟩
 ·obtain⟨_,_,vs,_,dd⟩:=dk_rd I.hok e
  exact dd.typeIs
 ·obtain⟨_,_,xs,_,dd⟩:=dt_rd I.hok e
  exact dd.typeIs
noncomputable def tDGet(td ty:TE):TE:=λσ H Q=>td σ H λx H1=>ty σ H1 λy H2=>∃a v,x=.ref a/\DGet H2 a y (some v)/\Q v H2
noncomputable def sDPut(td ty tv:TE):TS:=λD σ H=>tv σ H λv H1=>td σ H1 λx H2=>ty σ H2 λy H3=>∃a H4,x=.ref a/\DPut H3 a y v H4/\D.nx σ H4
section
variable {X:Cx}{o i e value:Expr}{pos pos' tpos:Pos}{td ty tv:TE}
theorem pe_dget(hu:X.A.units+1 < cLine)(ho:PE X o td)(hi:PE X i ty)(hs:NoSl i):PE X (.Subscript o i pos) (tDGet td ty):=by
 intro pins s σ H Q I h
 refine subD_of PySem.F.slot_dict_getitem.lookup hs (thn (ho pins s σ H _ I h) λu s1 ⟨x,H1,I1,rx,q1⟩=>thn (hi pins s1 σ H1 _ I1 q1) λiv s2 ⟨y,H2,I2,ry,a,v,ex,g,q2⟩=>?_)
 subst ex
 obtain rfl:u=Y1 a:=rx
 exact ⟨dict_typeIs I2 g,d_getItem hu I2 g ry λw' s3 I3 rw'=>⟨v,H2,I3,rw',q2⟩⟩
theorem ps_dput(hu:X.A.units+1 < cLine)(ho:PE X o td)(hi:PE X i ty)(hv:PE X value tv)(hs:swapsWith value (some (.Subscript o i pos')) pos.line X.env=pure false) :
  PS X (.Assign [.Subscript o i pos'] value pos) (sDPut td ty tv):=by
 intro pins s σ H D I h
 refine wpAny_Assign_Subscript (thn (hv pins s σ H _ I h) λr s1 ⟨v,H1,I1,rv,q1⟩=>thn (ho pins s1 σ H1 _ I1 q1) λu s2 ⟨x,H2,I2,rx,q2⟩=>thn (hi pins s2 σ H2 _ I2 q2) λiv s3 ⟨y,H3,I3,ry,a,H4,ex,g,q3⟩=>?_) hs
 subst ex
 obtain rfl:u=Y1 a:=rx
 exact d_setItem hu I3 g ry rv λs4 I4=>⟨σ,H4,I4,q3⟩
end
theorem dk_empty{P:Program}{w:World}{H:Hp}(h:Heap)(hb:sysModules < h.objs.size):ObjOk P w H (h.push { cls:=.type "dict",data:=.dict #[] }) h.objs.size (.dK []) :=
 ⟨S3 _,beq_eq_false_iff_ne.mpr (G2 (V0 hb)),[],.nil,Heap.DictOf.new h⟩
theorem dt_empty{P:Program}{w:World}{H:Hp}(h:Heap)(hb:sysModules < h.objs.size):ObjOk P w H (h.push { cls:=.type "dict",data:=.dict #[] }) h.objs.size (.dT []) :=
 ⟨S3 _,beq_eq_false_iff_ne.mpr (G2 (V0 hb)),[],.nil,_,#[],0,G0 _ rfl,⟨rfl,rfl,rfl⟩,rfl,rfl,List.nodup_nil⟩
noncomputable def tDNewT:TE:=λ_ H Q=>∀p,H p=none->Q (.ref p) (upd H p (.dT []))
section
variable {X:Cx}{pos:Pos}
theorem pe_dnewT:PE X (.Dict [] [] pos) tDNewT:=λpins s σ H Q I h =>
 wpAny_Dict_empty ⟨.ref s.heap.objs.size,_,I.laid (a:=s.heap.objs.size) (o:=.dT []) (t':=s.toks) (λ_ _ q=>g0 _ q) (A0 _) (dt_empty s.heap I.big),rfl,h _ (I.hok.fresh (A0 _))⟩
end
noncomputable def tPairs:List (TE×TE)->St->Hp->(List (V×V)->Hp->Prop)->Prop
 | [],_,H,Q=>Q [] H
 | (tk,tv) :: r,σ,H,Q=>tk σ H λx H1=>tv σ H1 λy H2=>tPairs r σ H2 λps H3=>Q ((x,y) :: ps) H3
noncomputable abbrev VV:List (V×V)->List (Value×Value)->Prop:=Paired λp q=>RelV p.1 q.1/\RelV p.2 q.2
noncomputable def PPs(X:Cx)(pos:Pos)(keys:List (Option Expr))(values:List Expr)(trs:List (TE×TE)):Prop :=
 ∀(pins:List (Addr×Obj)) (s:Shared) (σ:St) (H:Hp) (Q:List (V×V)->Hp->Prop),Inv X pins σ H s->tPairs trs σ H Q ->
  wpAny (model X.prog X.w) X.A (evalPairs (pairTrees keys values X.env pos)) (λvs s'=>∃ps H',Inv X pins σ H' s'/\VV ps vs/\Q ps H') X.xe s
theorem pps_nil{X:Cx}{pos:Pos}:PPs X pos [] [] []:=λpins s σ H Q I h=>pairTrees_nil_walk ⟨[],H,I,.nil,h⟩
theorem pps_cons{X:Cx}{pos:Pos}{k v:Expr}{ks:List (Option Expr)}{vs:List Expr}{tk tv:TE}{trs:List (TE×TE)}(hk:PE X k tk)(hv:PE X v tv)(hr:PPs X pos ks vs trs) :
  PPs X pos (some k :: ks) (v :: vs) ((tk,tv) :: trs):=λpins s σ H Q I h =>
 pairTrees_cons_walk (thn (hk pins s σ H _ I h) λu s1 ⟨x,H1,I1,rx,q1⟩=>thn (hv pins s1 σ H1 _ I1 q1) λw2 s2 ⟨y,H2,I2,ry,q2⟩ =>
   thn (hr pins s2 σ H2 _ I2 q2) λws s3 ⟨ps,H3,I3,rel,q3⟩=>⟨(x,y) :: ps,H3,I3,.cons ⟨rx,ry⟩ rel,q3⟩)
noncomputable def mergeK(kvs more:List (Key×V)):List (Key×V):=more.foldl (λacc kv=>putK acc kv.1 kv.2) kvs
theorem KV.merge:∀{more:List (Key×V)}{rs:List (Key×Value)}{kvs:List (Key×V)}{vs:List (Key×Value)},KV more rs->KV kvs vs->KV (mergeK kvs more) (merged vs rs):=by
 intro more rs kvs vs r
 unfold KV at r
 induction r generalizing kvs vs with
 | nil=>intro q;exact q
 | @cons p q ps qs h t ih =>
  intro r0
  have e:KV (putK kvs p.1 p.2) (stored vs q.1 q.2):=by
   have:=r0.put p.1 h.2
   rw[<- h.1];exact this
  exact ih e
theorem length_mergeK:∀(more kvs:List (Key×V)),(mergeK kvs more).length<=kvs.length+more.length
 | [],kvs=>by show kvs.length<=kvs.length+0;omega
 | p :: r,kvs=>by
  have h1:=length_mergeK r (putK kvs p.1 p.2)
  have h2:=length_putK kvs p.1 p.2
  show (mergeK (putK kvs p.1 p.2) r).length<=_
  rw[E3];omega
theorem carries_of{P:Program}{w:World}:∀{kvs:List (Key×V)}{ws:List (Value×Value)},VV (kvs.map λkv=>(kV kv.1,kv.2)) ws->∃rs,Carries (mixKind P w) ws rs/\KV kvs rs
 | [],_,r=>by rw[O6]at r;cases r;exact ⟨[],True.intro,.nil⟩
 | p :: kvs,_,r=>by
  rw[X1]at r
  cases r with
  | @cons a b as bs h t =>
   obtain⟨rs,c,q⟩:=carries_of (P:=P) (w:=w) t
   obtain⟨b1,b2⟩:=b
   exact ⟨(p.1,b2) :: rs,⟨kV_is h.1,rfl,c⟩,.cons ⟨rfl,h.2⟩ q⟩
noncomputable def tDisp(trs:List (TE×TE)):TE:=λσ H Q=>∀p,H p=none->tPairs trs σ (upd H p (.dK [])) λps H2=>H2 p=some (.dK [])/\∃kvs:List (Key×V),ps=kvs.map (λkv=>(kV kv.1,kv.2))/\kvs.length<=15/\Q (.ref p) (upd H2 p (.dK (mergeK [] kvs)))
theorem pe_disp{X:Cx}{pos:Pos}{keys:List (Option Expr)}{values:List Expr}{trs:List (TE×TE)}(h:PPs X pos keys values trs)(hall:keys.all (·.isSome)=true)(hl:keys.length=values.length)(h0:keys≠[])
  (h15:keys.length<=15):PE X (.Dict keys values pos) (tDisp trs):=by
 intro pins s σ H Q I q
 have hn:=I.hok.fresh (A0 s.heap.objs.size)
 have I1:=I.laid (a:=s.heap.objs.size) (o:=.dK []) (h':=s.heap.push { cls:=.type "dict",data:=.dict #[] }) (t':=s.toks) (λ_ _ q=>g0 _ q) (A0 _) (dk_empty s.heap I.big)
 refine wpAny_Dict_walk (knd:=mixKind X.prog X.w) hall hl h0 h15 (thn (h pins _ σ _ _ I1 (q _ hn)) λws s2 ⟨ps,H2,I2,rel,e,kvs,ep,lk,q2⟩=>?_)
 subst ep
 obtain⟨rs,c,rk⟩:=carries_of (P:=X.prog) (w:=X.w) rel
 obtain⟨z,hd,vs0,r0,dd⟩:=dk_of I2.hok e
 cases r0
 refine ⟨rs,c,dd,λh' dd' hs=>⟨.ref s.heap.objs.size,_,?_,rfl,q2⟩⟩
 have hz:(mergeK [] kvs).length<=sizeLine:=by
  have h1:=length_mergeK kvs []
  rw[M5]at h1
  rw[sizeLine_eq];omega
 have he:∃q,h'.get? s.heap.objs.size=some q:=let ⟨q,_,_,hq,_⟩:=dd';⟨q,hq⟩
 exact d_write I2 (by rw[e];exact True.intro) hs he (dk_new hz hd (rk.merge .nil) dd')
structure M1(X:Cx)(o:Expr)(m:Str)(apos:Pos)(e:Expr)(cpos:Pos):Prop where
 base:attributeBase o m X.env (eval o X.env)=eval o X.env
 few:((backTo cpos (starEach [e] X.env)).all (λx=>!x.1)&&(backToKw cpos (keywordEach [] X.env)).all (λx=>x.1.isSome)
   && decide (([e]:List Expr).length+([]:List Keyword).length+(if ([]:List Keyword).isEmpty then 0 else 1) < 30))=true
 line:(apos.endLine==cpos.line)=true
 trees:backTo cpos (starEach [e] X.env)=[(false,eval e X.env)]
structure M2(X:Cx)(o:Expr)(m:Str)(apos:Pos)(e f:Expr)(cpos:Pos):Prop where
 base:attributeBase o m X.env (eval o X.env)=eval o X.env
 few:((backTo cpos (starEach [e,f] X.env)).all (λx=>!x.1)&&(backToKw cpos (keywordEach [] X.env)).all (λx=>x.1.isSome)
   && decide (([e,f]:List Expr).length+([]:List Keyword).length+(if ([]:List Keyword).isEmpty then 0 else 1) < 30))=true
 line:(apos.endLine==cpos.line)=true
 trees:backTo cpos (starEach [e,f] X.env)=[(false,eval e X.env),(false,eval f X.env)]
noncomputable def IsD(H:Hp)(a:Addr):Prop:=(∃kvs,Rd H a (.dK kvs))\/∃kvs,Rd H a (.dT kvs)
theorem isD_at{X:Cx}{pins:List (Addr×Obj)}{σ:St}{H:Hp}{s:Shared}{a:Addr}(I:Inv X pins σ H s)(d:IsD H a) :
  s.TypeIs (.ref a) "dict"/\(∀b,Y1 a=.ref b->∃ob,s.heap.get? b=some ob/\ob.dict=none)/\(a==sysModules)=false:=by
 rcases d with⟨kvs,e⟩|⟨kvs,e⟩
 ·obtain⟨_,hd,vs,_,dd⟩:=dk_rd I.hok e
  refine ⟨dd.typeIs,λb q=>?_,hd⟩
  cases q
  obtain⟨ob,_,_,h1,h2,_⟩:=dd
  exact ⟨ob,h1,h2.2.1⟩
 ·obtain⟨_,hd,xs,_,dd⟩:=dt_rd I.hok e
  refine ⟨dd.typeIs,λb q=>?_,hd⟩
  cases q
  obtain⟨ob,_,_,h1,h2,_⟩:=dd
  exact ⟨ob,h1,h2.2.1⟩
section
variable {X:Cx}{pins:List (Addr×Obj)}{σ:St}{H:Hp}{s:Shared}{a:Addr}{y d:V}{u r:Value}{o:Option V}{A:Around}{E:Value->Shared->Prop}
end
section
variable {X:Cx}{o e f:Expr}{apos cpos:Pos}{td ty tx:TE}
end
section
variable {X:Cx}{pins:List (Addr×Obj)}{σ:St}{H:Hp}{s:Shared}{a:Addr}{kvs:List (Key×V)}{A:Around}{E:Value->Shared->Prop}
end
section
variable {X:Cx}{pins:List (Addr×Obj)}{σ:St}{H:Hp}{s:Shared}{a:Addr}{y:V}{u:Value}{A:Around}{E:Value->Shared->Prop}
end
end L2
namespace Att
open PySem PySem.W PySem.Calls PyProof.Rows
theorem ints_of_wellAll{P:Params}{h:Heap}:∀(ns:List Int) (vs:List Value),WellAll P h vs (ns.map WData.int)->IntsAre vs ns:=by
 intro ns
 induction ns with
 | nil =>
  intro vs w
  rw[O6]at w
  cases w
  exact .nil
 | cons n ns ih =>
  intro vs w
  rw[X1]at w
  cases w with
  | cons a b =>
   cases a
   exact .cons _ _ (ih _ b)
theorem script_of{l:OpenLaw}{n:Nat}(hn:l.most=some n){P:Params}{h:Heap}{args:List WData}{vals:List Value}
  (hpre:l.row.toRowW.claim.pre args=true) (hwl:WellAll P h vals args) :
  ∃a vs ns,vals=[Y1 a]/\args=[WData.list (ns.map WData.int)]/\h.get? a=some { cls:=.type "list",data:=.seq vs.toArray }/\IntsAre vs ns/\ns.length<=n:=by
 have hsh:WShape.hasAll [] args [.list .int]=true:=(pre_splitW hpre).1
 have hc:l.pre.holds [] { args:=args }=true:=(pre_splitW hpre).2
 obtain⟨d,r,rfl,h1,h2⟩:=hasAllW_cons hsh
 obtain rfl:=hasAllW_nil h2
 obtain⟨xs,rfl,h3⟩:=hasW_list h1
 obtain⟨ns,rfl⟩:=items_int h3
 have hlen:ns.length<=n:=by
  unfold OpenLaw.pre at hc
  have h4:(WTm.not (.lt (.lit (.int (n:Int))) (.len (.arg 0)))).holds [] { args:=[.list (ns.map .int)] }=true:=by
   have h4:=(holds_andW hc).1
   rw[hn]at h4
   exact h4
  have h5:=condW_of h4 (w_not (w_lt w_lit (w_len_list (w_arg rfl))))
  rw[n0]at h5
  refine A7 λq=>?_
  have q':(n:Int) < ((ns.length:Nat):Int):=by omega
  first
   | (rw[decide_eq_true q']at h5;exact absurd h5 (by decide))
   | (simp at h5;omega)
 cases hwl with
 | cons w1 w2 =>
  cases w2
  cases w1 with
  | list ho hall=>exact ⟨_,_,ns,rfl,rfl,ho,ints_of_wellAll ns _ hall,hlen⟩
theorem post_true(l:OpenLaw)(args:List WData):l.row.toRowW.claim.post args (.bool true) args=true :=
 postW_of (r:=l.row.toRowW) (X:=(true==true))
  (show WShape.has [] (.bool true) .bool=true by first|rfl|decide|simp[WShape.has,WShape.arms,WShape.armsAll])
  (show (WTm.eq .res (.lit (.bool true))).value [] { args:=args,res:=some (.bool true),after:=args }=some (.bool (true==true)) from w_eq_bool (w_res rfl) w_lit) rfl
theorem attach_call{l:OpenLaw}{n:Nat}{q:Program}{loose:List Str}{XP:(Str->Option Value)->Heap->Prop}{YP:World->Heap->Prop}{d:DefRec}
  (hn:l.most=some n) (hdf:d.params.defaults=[])
  (call:∀(w:World) (s₀ s₁:Shared) (mg mb:Str->Option Value) (fa:Addr) (o:Obj) (pm cd doc:Value) (a:Addr) (vs:List Value) (ns:List Int),
    Ground q loose [] XP w s₀ mg mb s₁.heap->YP w s₁.heap ->
    s₁.heap.get? fa=some o->o.data=.func (docDef d.name d.params d.body d.scope pm cd doc)->s₁.heap.CodeRec cd d.name->mg d.name=some (.ref fa) ->
    s₁.heap.get? a=some { cls:=.type "list",data:=.seq vs.toArray }->IntsAre vs ns->ns.length<=n->s₁.gens=#[] ->
    codeAny (model l.prog w) callerA (.call (.ref fa) ⟨[.ref a],[]⟩) (λr s'=>r=.ok (.ret (.bool true))/\OldK s₁.heap s'.heap/\s'.os=s₁.os/\AllBare s'.gens) s₁) :
  WalkO q loose XP YP l.row.toRowW d [] (λf vs=>PySem.call f vs):=by
 intro w s₀ s₁ mg mb G Y fa o pm cd doc dV kV ho hd hcd hD hmg hg args vals as hpre hlay hrd hwl hlo
 obtain rfl:dV=.none:=Dflts.none hD hdf
 obtain rfl:kV=.none:=Dflts.noKw hD
 obtain⟨a,vs,ns,rfl,rfl,hobj,hints,hlen⟩:=script_of hn hpre hwl
 refine enter_call (codeAny_mono (call w s₀ s₁ mg mb fa o pm cd doc a vs ns G Y ho (fd_plain hd) hcd hmg hobj hints hlen hg) λr s' hq=>?_)
 obtain⟨rfl,h2,h3,h4⟩:=hq
 exact ⟨.inl ⟨.bool true,.bool true,[],rfl,λ_=>rfl,.bool true,post_true l _,λ_=>⟨List.Pairwise.nil,λ_ hm=>(nomatch hm)⟩⟩,h2,h3,h4⟩
section
variable {prog:Program}{w:World}{A:Around}{E:Value->Shared->Prop}{s:Shared}{K:Frag}
end
end Att
namespace L2
open PySem PySem.Spec PyProof.Rows
theorem vals_ints:∀{vs:List Value}{ns:List Int},IntsAre vs ns->Vals (ns.map V.int) vs
 | _,_,.nil=>.nil
 | _,_,.cons n t h=>.cons ⟨t,rfl⟩ (vals_ints h)
noncomputable def Only(H:Hp):Prop:=∀b,H b=none\/∃o xs,H b=some (.frz o (.lst xs))
theorem law_call{P:Program}{w:World}{K:i0}{mg mb:Str->Option Value}{CX:CXT}{k:Nat}{fa a:Addr}{fd:FuncData}{x:Str}{sp:Sp}{s₁:Shared}{vs:List Value}{ns:List Int}
  (KX:K.In s₁.heap) (hns:s₁.heap.Ns mainGlobals mg) (hb:s₁.heap.Ns builtinsNs mb) (hbb:∀x:Str,x ≠ "__name__"->mb x=bootBuiltins x) (hlim:s₁.heap.NoLimit) (hg:s₁.gens=#[])
  (ha:s₁.heap.get? a=some { cls:=.type "list",data:=.seq vs.toArray }) (hi:IntsAre vs ns) (hl:ns.length<=sizeLine) (hr:Room k callerA)
  (F:∀base:Heap,K.In base->base.Ns mainGlobals mg->FnOk P w K mg base CX k fa fd [x] sp) (hbind:∀(s:Shared) (u:Value),BindsTo s fd ⟨[u],[]⟩ [(x,u)])
  (hsp:∀H:Hp,Only H->SqL K H a (ns.map V.int)->sp [.ref a] H (λv _=>v=.bl true) λ_ _ _=>False)
  (hCX:∀H e s',CX [] H s₁ (λ_ _ _=>False) e s'->False) :
  codeAny (model P w) callerA (.call (.ref fa) ⟨[.ref a],[]⟩) (λr s'=>r=.ok (.ret (.bool true))/\OldK s₁.heap s'.heap/\s'.os=s₁.os/\AllBare s'.gens) s₁:=by
 have rv:=vals_ints hi
 have lenV:=hi.length
 have core:∀H:Hp,Only H->SqL K H a (ns.map V.int)->HOk P w H s₁.heap->(∀b,H b≠none->b=a)->(H a≠none->K.lookup a=none) ->
   codeAny (model P w) callerA (.call (.ref fa) ⟨[.ref a],[]⟩) (λr s'=>r=.ok (.ret (.bool true))/\OldK s₁.heap s'.heap/\s'.os=s₁.os/\AllBare s'.gens) s₁:=by
  intro H hO hS hok hA hK
  have base_of:∀{b:Addr}{o:Obj},s₁.heap.get? b=some o->H b=none->(hidT s₁.heap H).get? b=some o:=λe n=>hidT_get e n
  have noA:∀{b:Addr}{o:Obj}{es:Array DictEntry}{ep:Nat},s₁.heap.get? b=some o->o.data=.dict es ep->H b=none:=λ{b o es ep} e d=>by
   cases q:H b with
   | none=>rfl
   | some u =>
    have e':b=a:=hA b (by rw[q];simp)
    subst e'
    rw[ha]at e;cases e
    have d':Data.seq vs.toArray _=Data.dict es ep:=d
    cases d'
  have nsK:∀{b:Addr}{m:Str->Option Value},s₁.heap.Ns b m->(hidT s₁.heap H).Ns b m:=λ{b m} ⟨o,es,ep,e,d,r⟩=>⟨o,es,ep,base_of e (noA e d),d,r⟩
  have hKb:K.In (hidT s₁.heap H):=λb o e=>base_of (KX b o e) (by
    cases q:H b with
    | none=>rfl
    | some u =>
      have e':b=a:=hA b (by rw[q];simp)
      subst e'
      rw[hK (by rw[q];simp)]at e;cases e)
  have hM:Mod K mg (hidT s₁.heap H):=⟨hKb,nsK hns,⟨mb,nsK hb,hbb⟩,let ⟨mc,h1,h2⟩:=hlim;⟨mc,nsK h1,h2⟩⟩
  have e0:Env0 P w K mg (hidT s₁.heap H) callerA [] s₁ H:=⟨rfl,hM,λb o e=>of_hidT e,Nat.le_of_eq (hidT_size _ _),trivial,λb hb=>absurd (show b∈([]:List Addr) from hb) (by simp),hok,.of_eq hg⟩
  refine codeAny_mono ((F _ hKb (nsK hns)).run callerA [] s₁ H ⟨[.ref a],[]⟩ [.ref a] [.ref a] _ _ hr e0 (hbind s₁ (.ref a)) (.cons rfl .nil) (hsp H hO hS)) λr s' h=>?_
  cases r with
  | error e=>exact (hCX H e s' h).elim
  | ok fl =>
   cases fl with
   | next=>exact False.elim h
   | brk=>exact False.elim h
   | cont=>exact False.elim h
   | ret u =>
    obtain⟨v,H',os,bare,un,hok',r',q⟩:=h
    have q':v=.bl true:=q
    subst q'
    obtain rfl:u=n8 true:=r'
    refine ⟨rfl,OldK.of_keep λb o e=>?_,os,bare⟩
    cases q:H b with
    | none=>exact un.keep b o e q (by intro z;exact absurd (show b∈([]:List Addr) from z) (by simp)) (by simp)
    | some u =>
     rcases hO b with z|⟨ob,xs,z⟩
     ·rw[q]at z;cases z
     ·have z2:=un.frzs b ob _ z
      obtain⟨e1,_⟩:=hok b _ z
      obtain⟨e2,_⟩:=hok' b _ z2
      rw[e]at e1;cases e1
      exact e2
 cases hk:K.lookup a with
 | some o =>
  have e:=KX a o hk
  rw[ha]at e
  cases e
  refine core (λ_=>none) (λ_=>.inl rfl) (.inr ⟨_,vs.toArray,_,hk,rfl,rfl,rfl,by rw[N0,lenV];exact hl,by simpa using rv⟩) (λb u z=>by have z':(none:Option HO)=some u:=z;cases z') (λb z=>absurd rfl z) λz=>absurd rfl z
 | none =>
  refine core (λb=>if b=a then some (.frz { cls:=.type "list",data:=.seq vs.toArray } (.lst (ns.map V.int))) else none) (λb=>?_) (.inl (.inr ⟨{ cls:=.type "list",data:=.seq vs.toArray },if_pos rfl⟩)) (λb u z=>?_) (λb z=>?_) λ_=>hk
  ·by_cases hb:b=a
   ·exact .inr ⟨_,_,if_pos hb⟩
   ·exact .inl (if_neg hb)
  ·by_cases hb:b=a
   ·have z':=(if_pos hb).symm.trans z
    cases z'
    subst hb
    exact ⟨ha,by rw[n0];exact hl,vs,_,rv,ha⟩
   ·have z':=(if_neg hb).symm.trans z
    cases z'
  ·by_cases hb:b=a
   ·exact hb
   ·exact absurd (if_neg hb) z
theorem walk_of{l:R7}{n k:Nat}{q:Program}{loose:List Str}{XP:(Str->Option Value)->Heap->Prop}{YP:World->Heap->Prop}{d:DefRec}{K:Params->i0}{CX:World->CXT}{sp:World->Sp}{x:Str}
  (hn:l.most=some n) (hn2:n<=sizeLine) (hdf:d.params.defaults=[]) (hr:Room k callerA)
  (hY:∀(w:World) (h:Heap),YP w h->(K w.params).In h)
  (F:∀(w:World) (mg:Str->Option Value) (fa:Addr) (h:Heap),(K w.params).In h->h.Ns mainGlobals mg->mg d.name=some (.ref fa) ->
    ∃fd:FuncData,(∀(s:Shared) (u:Value),BindsTo s fd ⟨[u],[]⟩ [(x,u)]) /\
      ∀base:Heap,(K w.params).In base->base.Ns mainGlobals mg->FnOk l.prog w (K w.params) mg base (CX w) k fa fd [x] (sp w))
  (hsp:∀(w:World) (H:Hp) (a:Addr) (ns:List Int),ns.length<=n->Only H->SqL (K w.params) H a (ns.map V.int)->sp w [.ref a] H (λv _=>v=.bl true) λ_ _ _=>False)
  (hCX:∀(w:World) (H:Hp) (s:Shared) (e:Value) (s':Shared),CX w [] H s (λ_ _ _=>False) e s'->False) :
  PySem.W.WalkO q loose XP YP l.row.toRowW d [] (λf vs=>PySem.call f vs):=by
 refine Att.attach_call hn hdf λw s₀ s₁ mg mb fa o pm cd doc a vs ns G Y ho hd hcd hmg hobj hints hlen hg=>?_
 have KX:=hY w _ Y
 obtain⟨fd,hb,hF⟩:=F w mg fa _ KX G.T.g hmg
 exact law_call KX G.T.g G.T.b G.T.builtins G.T.nolimit hg hobj hints (Q1 hlen hn2) hr hF hb (λH hO hS=>hsp w H a ns hlen hO hS) λH e s'=>hCX w H s₁ e s'
noncomputable def defArgs(s:Stmt):Arguments:=match s with
 | .FunctionDef _ a _ _ _ _ _ _ _ _=>a
 | _=>{ posonlyargs:=[],args:=[],vararg:=none,kwonlyargs:=[],kw_defaults:=[],kwarg:=none,defaults:=[] }
noncomputable def defBody(s:Stmt):List Stmt:=match s with
 | .FunctionDef _ _ b _ _ _ _ _ _ _=>b
 | _=>[]
noncomputable def defScope(s:Stmt):Scope:=match s with
 | .FunctionDef _ _ _ _ _ _ sc _ _ _=>sc
 | _=>{ kind:=.function,names:=[],isGenerator:=false,isCoroutine:=false }
noncomputable abbrev CX0:CXT:=λ_ _ _ _ _ _=>False
noncomputable abbrev E0:XK:=λ_ _ _=>False
theorem pass0{X:Cx}:Passes CX0 X E0:=λ_ _ _ _ _ _ _ h=>h.elim
structure Fun(K:i0)(x qual:Str)(st:Stmt)(f:Addr)(fd:FuncData):Prop where
 ex:∃(oc:Value) (od:Option Addr) (kV doc pm:Value) (an:Option Addr) (cdv ct:Value) (osl:Array (Option Value)),
  fd=U0 x qual (defArgs st) (defBody st) (defScope st) .none kV doc pm an cdv ct/\K.lookup f=some ⟨oc,od,.func fd,osl⟩/\Q0 K cdv qual=true
 kp:O0 K (.ref f)=true
section
variable {P:Program}{w:World}{K:i0}{mg:Str->Option Value}{base:Heap}
theorem Fun.ok{x qual:Str}{st:Stmt}{f:Addr}{fd:FuncData}{N ps:List Str}{k:Nat}{sp:Sp}(F:Fun K x qual st f fd)(S:FnScope N ps (defScope st))(len:∀vs H Q E,sp vs H Q E->vs.length=ps.length)
  (hbody:∀(cdv:Value) (A:Around) (outer:List Env) (s:Shared) (H:Hp) (vs:List V) (Q:VK) (E:XK),Room k (A.deeper (envOfC qual (defScope st) s.heap.objs.size f cdv))->sp vs H Q E ->
    ∃t,PSs (cxOf CX0 P w K mg base N qual (defScope st) f cdv A outer s H E).nox (defBody st) t/\t { nx:=λ_ H'=>Q .non H',rt:=Q } (start N vs) H):FnOk P w K mg base CX0 (k+1) f fd ps sp:=by
 obtain⟨oc,od,kV,doc,pm,an,cdv,ct,osl,rfl,lk,hcd⟩:=F.ex
 refine fn_of lk hcd S len λA outer s H vs Q E hr hsp=>?_
 obtain⟨t,h,q⟩:=hbody cdv A outer s H vs Q E hr hsp
 exact ⟨t,h.nox,q⟩
theorem Fun.binds{x qual:Str}{st:Stmt}{f:Addr}{fd:FuncData}{ps:List Str}(F:Fun K x qual st f fd)
  (h:∀(kV doc pm:Value) (an:Option Addr) (cdv ct:Value) (us:List Value),us.length=ps.length->bindArgs (U0 x qual (defArgs st) (defBody st) (defScope st) .none kV doc pm an cdv ct) ⟨us,[]⟩=pure (ps.zip us)):Binds K fd ps []:=by
 obtain⟨oc,od,kV,doc,pm,an,cdv,ct,osl,rfl,lk,hcd⟩:=F.ex
 exact .all (h kV doc pm an cdv ct)
theorem fun_mk{x qual:Str}{st:Stmt}{f:Addr}{oc:Value}{od an:Option Addr}{osl:Array (Option Value)}{kV doc pm cdv ct:Value}(l:K.lookup f=some ⟨oc,od,.func (U0 x qual (defArgs st) (defBody st) (defScope st) .none kV doc pm an cdv ct),osl⟩)
  (c:Q0 K cdv qual=true) (k:O0 K (.ref f)=true):Fun K x qual st f (U0 x qual (defArgs st) (defBody st) (defScope st) .none kV doc pm an cdv ct):=⟨⟨oc,od,kV,doc,pm,an,cdv,ct,osl,rfl,l,c⟩,k⟩
end
theorem hu_of{A:Around}{k:Nat}(hr:Room k A):A.units+1 < cLine:=Nat.lt_of_le_of_lt (h8 (by decide:1<=64) _) hr.units
section
variable {X:Cx}
theorem pv(i:Nat){x:Str}{pos:Pos}(hN:X.N[i]?=some x:=by rfl)(hv:Vis X.env.scope x:=by first|exact Or.inl rfl|exact Or.inr (Or.inl rfl)|exact Or.inr (Or.inr rfl))(hd:(x==("__debug__":Str))=false:=by decide)
  (hcd:(x==("__classdict__":Str))=false:=by decide):PE X (.Name x pos) (tVar i):=pe_var hN hv hd hcd
end
theorem ite2{c A B:Prop}[Decidable c](h1:c->A)(h2:¬c->B):if c then A else B:=by
 by_cases h:c
 ·rw[if_pos h]
  exact h1 h
 ·rw[if_neg h]
  exact h2 h
section
variable {κ:Type}[DecidableEq κ]
end
noncomputable def clOf(cells:List (Str×Addr)):List (Str×NameKind)->List (Str×Addr)->List (Str×Addr)
 | [],acc=>acc
 | (n,k) :: r,acc=>clOf cells r (if k==.free then (n,(cells.lookup n).getD 0) :: acc else acc)
theorem closure_of{env:Env}{sc:Scope}(h:∀y∈sc.names,y.2=.free->∃c,env.cells.lookup y.1=some c):closureFor sc env=pure (clOf env.cells sc.names []):=by
 have go:∀(l:List (Str×NameKind)) (acc:List (Str×Addr)),(∀y∈l,y.2=.free->∃c,env.cells.lookup y.1=some c) ->
   (forIn l acc λ(x:Str×NameKind) r=>(if (x.2==NameKind.free)=true then (do let a<-cellOf env x.1;pure (ForInStep.yield ((x.1,a) :: r))) else pure (ForInStep.yield r):Sem (ForInStep (List (Str×Addr)))))=pure (clOf env.cells l acc):=by
  intro l
  induction l with
  | nil=>intro acc _;rfl
  | cons y r ih =>
   intro acc hl
   obtain⟨n,k⟩:=y
   rw[N5]
   by_cases hk:(k==NameKind.free)=true
   ·obtain⟨c,hc⟩:=hl (n,k) K0 (by simpa using hk)
    have hc:env.cells.lookup n=some c:=hc
    simp only[hk,if_true,cellOf,hc,pure_bind,clOf,o4]
    exact ih _ λy hy=>hl y (u0 _ hy)
   ·simp only[hk,if_false,pure_bind,clOf]
    exact ih _ λy hy=>hl y (u0 _ hy)
 have e:=go sc.names [] h
 unfold closureFor
 show (forIn sc.names [] _ >>= λcs=>pure cs)=_
 rw[show (forIn sc.names ([]:List (Str×Addr)) λ(x:Str×NameKind) r=>(match x with|(name,kind)=>if (kind==NameKind.free)=true then (do let a<-cellOf env name;pure (ForInStep.yield ((name,a) :: r))) else pure (ForInStep.yield r):Sem (ForInStep (List (Str×Addr)))))=pure (clOf env.cells sc.names []) from e]
 rfl
theorem clOf_lookup{cells:List (Str×Addr)}{x:Str}{c:Addr}:∀{l:List (Str×NameKind)}{acc:List (Str×Addr)},(∀y∈l,y.2=.free->∃c,cells.lookup y.1=some c)->(clOf cells l acc).lookup x=some c ->
  acc.lookup x=some c\/cells.lookup x=some c
 | [],acc,_,h=>.inl h
 | (n,k) :: r,acc,hl,h=>by
  have ih:=clOf_lookup (l:=r) (λy hy=>hl y (u0 _ hy)) h
  rcases ih with ih|ih
  ·by_cases hk:(k==NameKind.free)=true
   ·rw[if_pos hk,G3]at ih
    obtain⟨c',hc⟩:=hl (n,k) K0 (by simpa using hk)
    have hc:cells.lookup n=some c':=hc
    cases e:x==n with
    | true =>
     rw[e]at ih
     have:x=n:=by simpa using e
     subst this
     simp only[hc,o4,Option.some.injEq]at ih
     subst ih
     exact .inr hc
    | false=>rw[e]at ih;exact .inl ih
   ·rw[if_neg hk]at ih;exact .inl ih
  ·exact .inr ih
theorem clOf_has{cells:List (Str×Addr)}{x:Str}:∀{l:List (Str×NameKind)}{acc:List (Str×Addr)},((∃c,acc.lookup x=some c)\/l.lookup x=some .free)->∃c,(clOf cells l acc).lookup x=some c
 | [],acc,h=>by
  rcases h with h|h
  ·exact h
  ·simp at h
 | (n,k) :: r,acc,h=>by
  refine clOf_has (l:=r) ?_
  rcases h with⟨c,h⟩|h
  ·left
   by_cases hk:(k==NameKind.free)=true
   ·rw[if_pos hk,G3]
    cases x==n with
    | true=>exact ⟨_,rfl⟩
    | false=>exact ⟨c,h⟩
   ·rw[if_neg hk];exact ⟨c,h⟩
  ·rw[G3]at h
   cases e:x==n with
   | true =>
    rw[e]at h
    have hk:k=.free:=S1 h
    left
    subst hk
    rw[if_pos (by decide),G3,e]
    exact ⟨_,rfl⟩
   | false=>rw[e]at h;exact .inr h
theorem lookup_relabel{env:Env}{x:Str}:∀{names:List (Str×NameKind)},
  (names.map λ(n,k)=>if (k==NameKind.free&&env.scope.kind==.function&&env.kindOf n==some .cell) then (n,NameKind.cell) else (n,k)).lookup x =
   (names.lookup x).map λk=>if (k==NameKind.free&&env.scope.kind==.function&&env.kindOf x==some .cell) then .cell else k
 | []=>rfl
 | (n,k) :: r=>by
  have ih:=@lookup_relabel env x r
  rw[X1]
  show i7 x ((if (k==NameKind.free&&env.scope.kind==.function&&env.kindOf n==some .cell)=true then (n,NameKind.cell) else (n,k)) :: _)=_
  cases hx:x==n with
  | true =>
   have e:x=n:=by simpa using hx
   subst e
   by_cases hc:(k==NameKind.free&&env.scope.kind==.function&&env.kindOf x==some .cell)=true
   ·rw[if_pos hc];simp only[G3,hx,K4];rw[if_pos hc]
   ·rw[if_neg hc];simp only[G3,hx,K4];rw[if_neg hc]
  | false =>
   by_cases hc:(k==NameKind.free&&env.scope.kind==.function&&env.kindOf n==some .cell)=true
   ·rw[if_pos hc];simp only[G3,hx];exact ih
   ·rw[if_neg hc];simp only[G3,hx];exact ih
theorem relabel_lookup(sc:Scope)(env:Env)(x:Str):(relabel sc env).names.lookup x=(sc.names.lookup x).map λk=>if (k==NameKind.free&&env.scope.kind==.function&&env.kindOf x==some .cell) then .cell else k:=lookup_relabel
theorem cf_app:∀(names:List (Str×NameKind)) (n:Nat) (acc:List (Str×Addr)),cellsFrom n names acc=cellsFrom n names []++acc
 | [],_,_=>rfl
 | (x,k) :: r,n,acc=>by
  unfold cellsFrom
  split
  ·rw[cf_app r (n+1) ((x,n) :: acc),cf_app r (n+1) [(x,n)],Z1];rfl
  ·exact cf_app r n acc
theorem cf_mem{x:Str}{c:Addr}:∀(names:List (Str×NameKind)) (n:Nat),(x,c)∈cellsFrom n names []->(x,NameKind.cell)∈names/\n<=c
 | [],_,h=>by cases h
 | (y,k) :: r,n,h=>by
  unfold cellsFrom at h
  split at h
  ·rename_i hk
   have hk:k=.cell:=by simpa using hk
   rw[cf_app,u3]at h
   rcases h with h|h
   ·have:=cf_mem r (n+1) h
    exact ⟨u0 _ this.1,by omega⟩
   ·have h:(x,c)=(y,n):=by simpa using h
    cases h
    subst hk
    exact ⟨K0,A0 _⟩
  ·have:=cf_mem r n h
   exact ⟨u0 _ this.1,this.2⟩
theorem lookup_app{α:Type}{x:Str}:∀{l m:List (Str×α)},(l++m).lookup x=(l.lookup x).or (m.lookup x)
 | [],_=>rfl
 | (y,v) :: l,m=>by
  rw[D4,G3,G3]
  cases x==y with
  | true=>rfl
  | false=>exact lookup_app
theorem wpAny_newEnvComp{M:Model}{A:Around}{E:Value->Shared->Prop}{s:Shared}{scope:Scope}{globals:Addr}{closure:List (Str×Addr)}{qual:Str}{env:Env}{Q:Env->Shared->Prop}
  (hQ:Q (newEnv scope s.heap.objs.size globals (cellsFrom (s.heap.objs.size+1) scope.names closure) qual none .none (some env) builtinsNs) { s with heap:=pushCells (s.heap.push { cls:=.type "dict",data:=.dict #[] }) scope.names }) :
  wpAny M A (newFunctionEnv scope globals closure [] qual none .none (some env)) Q E s:=by
 simp only[newFunctionEnv,r8,if_true]
 refine wpAny_bind (wpAny_alloc ?_)
 refine wpAny_bind (wpAny_layCells _ (λname kind cells=>by cases hkc:kind==NameKind.cell<;>simp[hkc]) _ _ _ _ ?_)
 rw[show ({ s with heap:=s.heap.push { cls:=.type "dict",data:=.dict #[] } }:Shared).heap.objs.size=s.heap.objs.size+1 from B2 ..]
 refine wpAny_bind ?_
 rw[V5]
 exact wpAny_pure (wpAny_pure hQ)
noncomputable def frN(N:List Str)(fr:List Nat):List Str:=fr.map λi=>N.getD i Str.empty
noncomputable def frS(σ:St)(fr:List Nat):St:=fr.map λi=>(σ[i]?).getD none
noncomputable def cxComp(X:Cx)(own:List Str)(fr:List Nat)(sc:Scope)(C:Addr)(s:Shared)(H:Hp)(ex:List Addr):Cx where
 prog:=X.prog
 w:=X.w
 K:=X.K
 mg:=X.mg
 base:=X.base
 A:=X.A
 N:=own++frN X.N fr
 s₀:=s
 H₀:=H
 env:=compEnvC sc (cellsFrom (C+1) sc.names (clOf X.env.cells sc.names [])) C X.env
 outer:=X.stack
 stack:=X.stack
 ex:=ex
 fn:=λx=>sc.names.lookup x==some .cell
 calm:=X.calm
 pn:=[]
 xe:=λ_ _=>False
noncomputable def st0(own:List Str)(σ:St)(fr:List Nat):St:=own.map (λ_=>none)++frS σ fr
structure CompSc(X:Cx)(own:List Str)(fr:List Nat)(sc:Scope):Prop where
 kind:sc.kind=.function
 cells:∀y∈sc.names,y.2=.cell->sc.names.lookup y.1=some .cell
 loc:∀y∈sc.names,y.2=.local->sc.names.lookup y.1=some .local
 free:∀y∈sc.names,y.2=.free->X.env.kindOf y.1=some .cell\/X.env.kindOf y.1=some .free
 fr:∀i∈fr,∃x,X.N[i]?=some x/\sc.names.lookup x=some .free
theorem comp_start{X:Cx}{own:List Str}{fr:List Nat}{sc:Scope}{pins:List (Addr×Obj)}{σ:St}{H:Hp}{s:Shared}{fp:List Addr}{C D:Addr}{h1:Heap}{tk:Nat}{oD:Obj}
  (S:CompSc X own fr sc) (I:Inv X pins σ H s) (hf:∀b∈fp,FpOk X pins H b) (hfo:∀b∈fp,∃o,s.heap.get? b=some o) (hC:s.heap.objs.size<=C) (hD:s.heap.objs.size<=D) (hDC:D≠C) (hn:h1.Ns C λx=>([]:List (Str×Value)).reverse.lookup x)
  (hk:∀b o,s.heap.get? b=some o->h1.get? b=some o) (hcl:∀x c,(x,c)∈cellsFrom (C+1) sc.names []->h1.IsCell c none) (hap:(cellsFrom (C+1) sc.names []).Pairwise λx y=>x.2≠y.2) (hoD:h1.get? D=some oD) (hdD:∀v,oD.data≠.cell v) :
  Inv (cxComp X own fr sc C s H fp) [(D,oD)] (st0 own σ fr) H { s with heap:=h1,toks:=tk }:=by
 have hfree:∀y∈sc.names,y.2=.free->∃c,X.env.cells.lookup y.1=some c:=λy hy e=>I.ok.has y.1 (S.free y hy e)
 have cl1:∀x c,(clOf X.env.cells sc.names []).lookup x=some c->X.env.cells.lookup x=some c:=λx c e=>by
  rcases clOf_lookup hfree e with z|z
  ·simp at z
  ·exact z
 have cl2:∀x c,(cellsFrom (C+1) sc.names (clOf X.env.cells sc.names [])).lookup x=some c->(x,c)∈cellsFrom (C+1) sc.names []\/X.env.cells.lookup x=some c:=λx c e=>by
  rw[cf_app,lookup_app]at e
  cases q:(cellsFrom (C+1) sc.names []).lookup x with
  | none=>rw[q]at e;exact .inr (cl1 x c e)
  | some c'=>rw[q]at e;cases e;exact .inl (PySem.mem_of_lookup q)
 have new:∀x c,(x,c)∈cellsFrom (C+1) sc.names []->C+1<=c:=λx c h=>(cf_mem _ _ h).2
 have oldc:∀x c,X.env.cells.lookup x=some c->c < s.heap.objs.size:=λx c e=>by
  obtain⟨v,q⟩:=I.cell x c e
  exact q.lt
 have kin:∀x k,(relabel sc X.env).names.lookup x=some k->k=.cell\/k=.free->sc.names.lookup x=some .free\/sc.names.lookup x=some .cell:=λx k e hk=>by
  rw[relabel_lookup]at e
  cases q:sc.names.lookup x with
  | none=>rw[q]at e;cases e
  | some j =>
   rw[q,K4,Option.some.injEq]at e
   by_cases hj:j=.free
   ·rw[hj];exact .inl rfl
   ·have hne:(j==NameKind.free)=false:=by simpa using hj
    rw[hne,V7,V7,if_neg (by simp)]at e
    subst e
    rcases hk with z|z
    ·rw[z];exact .inr rfl
    ·exact absurd z hj
 have kout:∀x,sc.names.lookup x=some .free->((relabel sc X.env).names.lookup x=some .cell\/(relabel sc X.env).names.lookup x=some .free):=λx e=>by
  rw[relabel_lookup,e,K4]
  by_cases h:(NameKind.free==NameKind.free&&X.env.scope.kind==.function&&X.env.kindOf x==some .cell)=true
  ·rw[if_pos h];exact .inl rfl
  ·rw[if_neg h];exact .inr rfl
 have okc:∀b∈fp,b < s.heap.objs.size:=λb hb=>by obtain⟨o,e⟩:=hfo b hb;exact v0 e
 have fresh:∀{a:Addr},s.heap.objs.size<=a->H a=none:=λh=>I.hok.fresh h
 have ok:(cxComp X own fr sc C s H fp).Ok:={
   mod:=I.ok.mod
   kind:=S.kind
   glob:=I.ok.glob
   blt:=I.ok.blt
   above:=hC
   inj:=λx y c h1 h2=>by
     have hC:s.heap.objs.size<=C:=hC
     rcases cl2 x c h1 with a|a<;>rcases cl2 y c h2 with b|b
     · exact name_of_addr hap a b
     · have:=new x c a;have:=oldc y c b;exact absurd (J0 (oldc y c b) (Q1 hC (P4 (new x c a)))) (V2 _)
     · exact absurd (J0 (oldc x c a) (Q1 hC (P4 (new y c b)))) (V2 _)
     · exact I.ok.inj x y c a b
   has:=λx hx=>by
     have hx:sc.names.lookup x=some .free\/sc.names.lookup x=some .cell:=by
       rcases hx with hx|hx
       · exact kin x _ hx (.inl rfl)
       · exact kin x _ hx (.inr rfl)
     show ∃c,(cellsFrom (C+1) sc.names (clOf X.env.cells sc.names [])).lookup x=some c
     rw[cf_app,lookup_app]
     rcases hx with hx|hx
     · obtain⟨c,e⟩:=clOf_has (cells:=X.env.cells) (x:=x) (l:=sc.names) (acc:=[]) (.inr hx)
       rw[e]
       cases (cellsFrom (C+1) sc.names []).lookup x with
       | none=>exact ⟨c,rfl⟩
       | some c'=>exact ⟨c',rfl⟩
     · obtain⟨c,e⟩:=cell_has (n:=C+1) hx
       rw[e]
       exact ⟨c,rfl⟩
   cab:=λx c h e=>by
     have h:sc.names.lookup x=some .cell:=by simpa [cxComp]using h
     have e:(cellsFrom (C+1) sc.names (clOf X.env.cells sc.names [])).lookup x=some c:=e
     obtain⟨c',q⟩:=cell_has (n:=C+1) h
     rw[cf_app,lookup_app,q]at e
     cases e
     exact Q1 hC (P4 (new x _ (PySem.mem_of_lookup q)))
   hd:=I.ok.hd
   frames:=I.ok.frames
   stk:=.inl rfl
   exf:=λb hb=>⟨V0 (J0 (okc b hb) hC),λx c e=>by
     rcases cl2 x c e with z|z
     · exact D3 (J0 (okc b hb) (Q1 hC (P4 (new x c z))))
     · exact (hf b hb).2.2.2.2.1 x c z⟩
   bs:=I.bs
   bsz:=Q1 I.ok.bsz I.sz
   noex:=λb o e hb=>by
     rcases (hf b hb).2.2.2.1 with z|z
     · exact I.ok.noex b o e z
     · exact absurd (J0 (v0 e) (Q1 I.ok.bsz z)) (V2 _)
   exfs:=λb hb hm=>by
     rcases Y0.mp (I.stkSub b hm) with z|z
     · exact (hf b hb).2.1 z
     · exact (hf b hb).2.2.1 z
   funs:=I.stack
   frf:=I.stkFree }
 refine ⟨ok,rfl,I.bare,Un.kept hk,⟨_,hn,λi x v e1 e2 e3=>?_⟩,λx c e=>?_,fresh hC,λx c e=>?_,λp hp=>?_,I.hok.kept hk,?_⟩
 ·have e1:(own++frN X.N fr)[i]?=some x:=e1
  have e2:(own.map (λ_=>(none:Option V))++frS σ fr)[i]?=some (some v):=e2
  by_cases hi:i < own.length
  ·rw[T1 (by simpa using hi),E1]at e2
   cases q:own[i]? with
   | none=>rw[q]at e2;cases e2
   | some z=>rw[q]at e2;cases e2
  ·rw[B1 (by omega)]at e1
   rw[B1 (by simpa using hi),n0]at e2
   unfold frN at e1
   unfold frS at e2
   rw[E1]at e1 e2
   cases q:fr[i - own.length]? with
   | none=>rw[q]at e1;cases e1
   | some j =>
    rw[q,K4,Option.some.injEq]at e1 e2
    obtain⟨y,hy,hyf⟩:=S.fr j (E2 q)
    rw[G1,hy,o4]at e1
    subst e1
    have e2':σ[j]?=some (some v):=by
     cases r:σ[j]? with
     | none=>rw[r]at e2;cases e2
     | some z=>rw[r,o4]at e2;rw[e2]
    have hkf:X.env.kindOf y=some .cell\/X.env.kindOf y=some .free:=S.free (y,.free) (PySem.mem_of_lookup hyf) rfl
    obtain⟨m,hm,hl⟩:=I.loc
    have vis:Vis X.env.scope y:=by
     rcases hkf with z|z
     ·exact .inr (.inl z)
     ·exact .inr (.inr z)
    obtain⟨u,r,l⟩:=hl j y v hy e2' vis
    refine ⟨u,r,?_⟩
    rcases l with⟨k,_⟩|⟨k,c,hc,z⟩
    ·rcases hkf with k'|k'<;>rw[k]at k'<;>cases k'
    ·refine .inr ⟨kout y hyf,?_⟩
     obtain⟨c',hc'⟩:∃c',(clOf X.env.cells sc.names []).lookup y=some c':=clOf_has (.inr hyf)
     have:c'=c:=S1 ((cl1 y c' hc').symm.trans hc)
     subst this
     obtain⟨o,ho,hd⟩:=z
     refine ⟨c',?_,o,hk _ _ ho,hd⟩
     show (cellsFrom (C+1) sc.names (clOf X.env.cells sc.names [])).lookup y=some c'
     rw[cf_app,lookup_app,hc']
     cases q:(cellsFrom (C+1) sc.names []).lookup y with
     | none=>rfl
     | some c2 =>
      have:=S.cells _ (cf_mem _ _ (PySem.mem_of_lookup q)).1 rfl
      rw[hyf]at this
      cases this
 ·rcases cl2 x c e with z|z
  ·exact ⟨_,hcl x c z⟩
  ·obtain⟨v,o,ho,hd⟩:=I.cell x c z
   exact ⟨v,o,hk _ _ ho,hd⟩
 ·rcases cl2 x c e with z|z
  ·exact fresh (Q1 hC (P4 (new x c z)))
  ·exact I.freeC x c z
 ·have e:p=(D,oD):=by
   have:p∈([]:List (Addr×Obj))++[(D,oD)]:=hp
   simpa using this
  subst e
  refine ⟨hoD,fresh hD,hDC,λhm=>?_,hdD⟩
  have hm:D∈frs X.stack:=hm
  obtain⟨_,o,ho,_⟩:=I.stack.mem hm
  exact absurd (J0 (v0 ho) hD) (V2 _)
 ·show (own.map (λ_=>(none:Option V))++frS σ fr).length=(own++frN X.N fr).length
  simp[frS,frN]
theorem comp_end{X:Cx}{own:List Str}{fr:List Nat}{sc:Scope}{pins:List (Addr×Obj)}{σ σ':St}{H H':Hp}{s s':Shared}{fp:List Addr}{C D:Addr}{oD:Obj}{ys:List V}{us:List Value}{n:Nat}
  (I:Inv X pins σ H s) (hf:∀b∈fp,FpOk X pins H b) (hC:s.heap.objs.size<=C) (hD:s.heap.objs.size<=D) (hDC:D≠C)
  (J:Inv (cxComp X own fr sc C s H fp) [(D,oD)] σ' H' s') (ho:oD={ cls:=.type "list",data:=.seq us.toArray n }) (r:Vals ys us) (hz:ys.length<=sizeLine) :
  Inv X pins σ (upd H' D (.lst ys)) s'/\(∃m,s'.heap.Ns C m)/\FpOk X pins (upd H' D (.lst ys)) C:=by
 have pD:=J.pin (D,oD) (by simp[cxComp])
 have hHD:H' D=none:=pD.2.1
 have u:Un (frs X.stack) fp H H' s.heap s'.heap:=J.base
 have lt:∀b o,s.heap.get? b=some o->b≠D:=λb o e=>V0 (J0 (v0 e) hD)
 have u2:Un (frs X.stack) fp H (upd H' D (.lst ys)) s.heap s'.heap :=
  ⟨u.keep,u.slot,λb o e n hx=>by rw[upd_ne (lt b o e)];exact u.free b o e n hx,u.there,λb xs e=>by rw[upd_ne (ne_of_none (u.tups b xs e) hHD)];exact u.tups b xs e,
    λb o x e=>by rw[upd_ne (ne_of_none (u.frzs b o x e) hHD)];exact u.frzs b o x e,λb ps e=>by
      obtain⟨more,q⟩:=u.tbls b ps e
      exact ⟨more,by rw[upd_ne (ne_of_none q hHD)];exact q⟩⟩
 have hok:HOk X.prog X.w (upd H' D (.lst ys)) s'.heap:=λb o e=>by
  by_cases hb:b=D
  ·subst hb
   rw[upd_same]at e
   cases e
   exact ⟨hz,us,n,r,by rw[<- ho];exact pD.1⟩
  ·rw[upd_ne hb]at e
   exact (J.hok b o e).stay (λ_ _ _ q=>q) (λc q=>by rw[upd_ne (ne_of_none q hHD)];exact q) λc xs q=>by rw[upd_ne (ne_of_none q hHD)];exact q
 refine ⟨I.call' (ch:=fp) J.os u2 hok J.bare λb hb=>?_,?_,?_⟩
 ·obtain⟨f0,f1,f2,f3,f4,f5⟩:=hf b hb
  exact ⟨f3,f1,f4,f5⟩
 ·obtain⟨m,hm,_⟩:=J.loc
  exact ⟨m,hm⟩
 ·have hfree:H' C=none:=J.free
  refine ⟨by rw[upd_ne (G2 hDC)];exact hfree,?_⟩
  exact (I.fpOk hC (I.hok.fresh hC)).2
theorem codeAny_compLoop_any{prog:Program}{w:World}{A:Around}{R:Result->Shared->Prop}{s:Shared}{elt target iter:Expr}{ifs:List Expr}{scope:Scope}{pos:Pos}{it acc:Value}{env:Env}(I:Nat->Shared->Prop)
  (turn:∀n s,I n s->wpAny (model prog w) A (pyNext it) (λr s₁=>match r with
    | none=>R (.ok .next) s₁
    | some v=>wpAny (model prog w) A (letOwnedTupleGo target it v) (λ_ s₁'=>wpAny (model prog w) A (assign target env v) (λ_ s₂ =>
        wpAny (model prog w) A (forIn ifs true λc r=>if r=true then do let ok<-isTrue c env (eval c env);pure (ForInStep.yield ok) else pure (ForInStep.yield r)) (λok s₃ =>
          if ok=true then wpAny (model prog w) A (eval elt env) (λx s₄ =>
            wpAny (model prog w) A (call (.builtin "list.append") [acc,x]) (λ_ s₅=>∃m,m < n/\I m s₅) (λ_ _=>False) s₄) (λ_ _=>False) s₃
          else ∃m,m < n/\I m s₃) (λ_ _=>False) s₂) (λ_ _=>False) s₁') (λ_ _=>False) s₁) (λ_ _=>False) s)
  (n:Nat) (h:I n s) :
  codeAny (model prog w) A (.compLoop (.ListComp elt [⟨target,iter,ifs,0⟩] scope pos) 0 it acc env) R s:=by
 refine codeAny_loop rfl I (λn s hI=>?_) n h
 show wpAny _ A ((compTurn (.ListComp elt [⟨target,iter,ifs,0⟩] scope pos) 0 it acc env).onRaise (λx=>do noteFrame x env;theTreesLotGoes x)) _ _ s
 refine wpAny_noted ?_
 rw[compTurn_list]
 refine wpAny_bind (wpAny_standAt (wpAny_bind (wpAny_mono (turn n s hI) (λr s₁ h₁=>?_) λ_ _ h'=>h'.elim)))
 cases r with
 | none=>exact wpAny_pure h₁
 | some v =>
  refine wpAny_bind (wpAny_mono h₁ (λ_ s₁' h₁'=>?_) λ_ _ h'=>h'.elim)
  refine wpAny_bind (wpAny_mono h₁' (λ_ s₂ h₂=>wpAny_bind (wpAny_mono h₂ (λok s₃ h₃=>?_) λ_ _ h'=>h'.elim)) λ_ _ h'=>h'.elim)
  cases ok with
  | false=>exact wpAny_pure ⟨rfl,h₃⟩
  | true =>
   exact wpAny_bind (wpAny_bind (wpAny_mono h₃ (λx s₄ h₄=>wpAny_bind (wpAny_mono h₄ (λ_ s₅ h₅=>wpAny_pure (wpAny_pure ⟨rfl,h₅⟩)) λ_ _ h'=>h'.elim)) λ_ _ h'=>h'.elim))
noncomputable def PIf(X:Cx)(ifs:List Expr)(t:TT):Prop :=
 ∀(pins:List (Addr×Obj)) (s:Shared) (σ:St) (H:Hp) (Q:Bool->Hp->Prop),Inv X pins σ H s->t σ H Q ->
  wpAny (model X.prog X.w) X.A (forIn ifs true λc r=>if r=true then do let ok<-isTrue c X.env (eval c X.env);pure (ForInStep.yield ok) else pure (ForInStep.yield r)) (TP X pins σ Q) X.xe s
noncomputable def tYes:TT:=λ_ H Q=>Q true H
theorem if_nil{X:Cx}:PIf X [] tYes:=λ_ _ _ H _ I h=>wpAny_tests_nil ⟨H,I,h⟩
theorem if_one{X:Cx}{c:Expr}{t:TT}(h:PT X c t):PIf X [c] t:=λpins s σ H Q I hw=>wpAny_tests_one (h pins s σ H Q I hw)
noncomputable def tComp(wi:TI)(own:List Str)(fr:List Nat)(g:TG)(tc:TT)(te:TE):TE:=λσ H Q=>wi σ H λJ H1=>∃W:Nat->Nat->List V->St->Hp->Prop,(∃m,W 0 m [] (st0 own σ fr) H1)/\∀i m ys τ H,W i m ys τ H ->
 (J.stop i H/\∀D,H D=none->Q (.ref D) (upd H D (.lst ys))) \/
 (J.go i H/\ys.length < sizeLine/\∃N:List V->St->Hp->Prop,(∀ys' τ' H',N ys' τ' H'->∃m',m' < m/\W (i+1) m' ys' τ' H')/\∀x H',J.yld i H x H'->g x τ H' λτ2 H2 =>
   tc τ2 H2 λb H3=>if b=true then te τ2 H3 λy H4=>N (ys++[y]) τ2 H4 else N ys τ2 H3)
theorem comp_grow{X:Cx}{D:Addr}{us:List Value}{k:Nat}{pl:List (Addr×Obj)}{σ:St}{H:Hp}{s:Shared}{u:Value}{Q:Value->Shared->Prop}{E:Value->Shared->Prop}
  (I:Inv X ([(D,{ cls:=.type "list",data:=.seq us.toArray k })]++pl) σ H s) (h1:X.s₀.heap.objs.size<=D) (h2:∀x c,X.env.cells.lookup x=some c->c≠D) (h3:∀p∈X.pn++pl,p.1≠D) (hz:us.length < sizeLine)
  (h:∀k' s',Inv X ([(D,{ cls:=.type "list",data:=.seq (us++[u]).toArray k' })]++pl) σ H s'->Q .none s'):wpAny (model X.prog X.w) X.A (call (.builtin "list.append") [.ref D,u]) Q E s:=by
 obtain⟨e,hn,hL,hF,_⟩:=I.pin (D,{ cls:=.type "list",data:=.seq us.toArray k }) (D1 _ (E6 _ (W1.mpr rfl)))
 dsimp only at e hn hL hF
 have I0:Inv X pl σ H s:=I.pins_of λp hp=>I.pin p (D1 _ (D1 _ hp))
 refine call_meets F.slot_list_append ⟨_,e,rfl⟩ F.entry_list_append (F.args_list_append_2 _ _) (PySem.list_append D us.toArray k u (by rw[N0];omega)) ⟨e,?_⟩
 have q:=PySem.IsL.update e λxs=>xs.push u
 rw[show us.toArray.push u=(us++[u]).toArray by simp]at q
 have I1:Inv X pl σ H { s with heap:=s.heap.update D (P3 λxs=>xs.push u),toks:=s.toks } :=
  I0.turned (it:=D) (λb o hb ho=>(J3 s.heap (P3 λxs=>xs.push u) (G2 hb)).trans ho) hn hL (.inr h1) h2 h3
 obtain⟨k',q⟩:∃k',(s.heap.update D (P3 λxs=>xs.push u)).get? D=some { cls:=.type "list",data:=.seq (us++[u]).toArray k' }:=⟨_,q⟩
 refine h k' _ (I1.pins_of (pins':=[(D,{ cls:=.type "list",data:=.seq (us++[u]).toArray k' })]++pl) λp hp=>?_)
 rcases u3.mp hp with z|z
 ·have z:p=_:=W1.mp z
  subst z
  exact ⟨q,hn,hL,hF,λv z=>by cases z⟩
 ·exact I1.pin p (D1 _ z)
theorem comp_block{X:Cx}{tg iter elt:Expr}{ifs:List Expr}{sc:Scope}{pos:Pos}{own:List Str}{fr:List Nat}{g:TG}{tc:TT}{te:TE}{pins:List (Addr×Obj)}{σ:St}{H2:Hp}{s2:Shared}{it:Addr}{fp:List Addr}{tn:Nat->Heap->Prop}{J:It}{Q:VK}{E:Value->Shared->Prop}
  {RR:Value->Addr->Result->Shared->Prop}
  (hc:X.calm=true) (S:CompSc X own fr sc) (I2:Inv X pins σ H2 s2) (T:Turn X.prog X.w X.K tg J fp it tn) (st2:tn 0 s2.heap) (f2:∀b∈fp,FpOk X pins H2 b)
  (hg:∀C ex,PG (cxComp X own fr sc C s2 H2 ex) tg g) (hif:∀C ex,PIf (cxComp X own fr sc C s2 H2 ex) ifs tc) (he:∀C ex,PE (cxComp X own fr sc C s2 H2 ex) elt te)
  (W:Nat->Nat->List V->St->Hp->Prop) (m0:Nat) (w0:W 0 m0 [] (st0 own σ fr) H2)
  (turn:∀i m ys τ H,W i m ys τ H->(J.stop i H/\∀D,H D=none->Q (.ref D) (upd H D (.lst ys))) \/
    (J.go i H/\ys.length < sizeLine/\∃N:List V->St->Hp->Prop,(∀ys' τ' H',N ys' τ' H'->∃m',m' < m/\W (i+1) m' ys' τ' H')/\∀x H',J.yld i H x H'->g x τ H' λτ2 H2 =>
      tc τ2 H2 λb H3=>if b=true then te τ2 H3 λy H4=>N (ys++[y]) τ2 H4 else N ys τ2 H3))
  (hRR:∀D C H s',Inv X pins σ H s'->Q (.ref D) H->(∃m,s'.heap.Ns C m)->FpOk X pins H C->RR (.ref D) C (.ok .next) s') :
  wpAny (model X.prog X.w) X.A (newList []) (λacc s₃=>wpAny (model X.prog X.w) X.A (newFunctionEnv sc X.env.globals (clOf X.env.cells sc.names []) [] X.env.qual none .none (some X.env)) (λcenv s₄ =>
    codeAny (model X.prog X.w) X.A (.compStart (.ListComp elt [⟨tg,iter,ifs,0⟩] sc pos) 0 (.ref it) acc { cenv with scope:=relabel sc X.env }) (RR acc cenv.locals) s₄) E s₃) E s2:=by
 refine wpAny_newObj_type (wpAny_newEnvComp ?_)
 dsimp only
 generalize hH2:s2.heap.push { cls:=.type "list",dict:=none,data:=.seq ([]:List Value).toArray }=G
 generalize hh1:pushCells (G.push { cls:=.type "dict",data:=.dict #[] }) sc.names=h₁
 have kp:∀b o,(G.push { cls:=.type "dict",data:=.dict #[] }).get? b=some o->h₁.get? b=some o:=λb o e=>hh1 ▸ pushCells_keeps _ _ b o e
 have hns₁:h₁.Ns G.objs.size λx=>([]:List (Str×Value)).reverse.lookup x:=(Heap.Ns.new G (.type "dict")).keeps kp
 have cok:CellsOk h₁ (G.objs.size+1) (cellsFrom (G.objs.size+1) sc.names []):=by
  have:=cellsFrom_ok sc.names (G.push { cls:=.type "dict",data:=.dict #[] }) (G.objs.size+1) [] ⟨λ_ _ hm=>(nomatch hm),List.Pairwise.nil⟩ (by rw[B2];exact A0 _)
  rw[B2,hh1]at this
  exact this
 have hC:G.objs.size=s2.heap.objs.size+1:=by rw[<- hH2,B2]
 have hCle:s2.heap.objs.size<=G.objs.size:=by rw[hC];exact J8 _
 have hDC:s2.heap.objs.size≠G.objs.size:=by rw[hC];exact V0 (Nat.lt_succ_self _)
 have old:∀b o,s2.heap.get? b=some o->h₁.get? b=some o:=λb o e=>kp b o (g0 _ (hH2 ▸ g0 _ e))
 have hacc:h₁.get? s2.heap.objs.size=some { cls:=.type "list",data:=.seq ([]:List Value).toArray }:=kp _ _ (g0 _ (hH2 ▸ G0 _ rfl))
 have st0':tn 0 h₁:=T.keep _ _ _ st2 λb hb o e=>old b o e
 have fo:∀b∈fp,∃o,s2.heap.get? b=some o:=λb hb=>let ⟨o,e,_⟩:=T.obj _ _ st2 b hb;⟨o,e⟩
 have flt:∀b∈fp,b < s2.heap.objs.size:=λb hb=>by obtain⟨o,e⟩:=fo b hb;exact v0 e
 have clb:∀x c,(clOf X.env.cells sc.names []).lookup x=some c->X.env.cells.lookup x=some c:=λx c e=>by
  rcases clOf_lookup (λy hy e=>I2.ok.has y.1 (S.free y hy e)) e with z|z
  ·simp at z
  ·exact z
 have clb2:∀(C':Addr) x c,(cellsFrom (C'+1) sc.names (clOf X.env.cells sc.names [])).lookup x=some c->C'+1<=c\/X.env.cells.lookup x=some c:=λC' x c e=>by
  rw[cf_app,lookup_app]at e
  cases q:(cellsFrom (C'+1) sc.names []).lookup x with
  | none=>rw[q]at e;exact .inr (clb x c e)
  | some c'=>rw[q]at e;cases e;exact .inl (cf_mem _ _ (PySem.mem_of_lookup q)).2
 have stt:∀C':Addr,s2.heap.objs.size<=C'->∀{H':Hp}{pl:List (Addr×Obj)},(∀b∈fp,H' b=none)->(∀p∈pl,s2.heap.objs.size<=p.1)->∀b∈fp,FpOk (cxComp X own fr sc C' s2 H2 fp) pl H' b:=λC' hC' H' pl hn hp b hb=>by
  have I0:=f2 b hb
  refine ⟨hn b hb,V0 (J0 (flt b hb) hC'),λhm=>?_,.inl hb,λx c e=>by
      rcases clb2 C' x c e with z|z
      · exact D3 (J0 (flt b hb) (Q1 hC' (P4 z)))
      · exact I0.2.2.2.2.1 x c z,λp hp'=>?_⟩
  ·rcases Y0.mp (I2.stkSub b hm) with z|z
   ·exact I0.2.1 z
   ·exact I0.2.2.1 z
  ·have hp':p∈pl:=by
    have:p∈([]:List (Addr×Obj))++pl:=hp'
    simpa using this
   exact D3 (J0 (flt b hb) (hp p hp'))
 have loop:∀s₃:Shared,s₃={ s2 with heap:=h₁,toks:=s2.toks } ->
   codeAny (model X.prog X.w) X.A (.compLoop (.ListComp elt [⟨tg,iter,ifs,0⟩] sc pos) 0 (.ref it) (.ref s2.heap.objs.size) (compEnvC sc (cellsFrom (G.objs.size+1) sc.names (clOf X.env.cells sc.names [])) G.objs.size X.env))
    (RR (.ref s2.heap.objs.size) G.objs.size) s₃:=by
  rintro s₃ rfl
  have I3:=comp_start (own:=own) (fr:=fr) (tk:=s2.toks) S I2 f2 fo hCle (A0 _) hDC hns₁ old (λx c h=>(cok.empty x c h).1) cok.apart hacc (λv z=>by cases z)
  refine codeAny_compLoop_any (λn s'=>∃i H' ys us k τ,Inv (cxComp X own fr sc G.objs.size s2 H2 fp) [(s2.heap.objs.size,{ cls:=.type "list",data:=.seq us.toArray k })] τ H' s'/\tn i s'.heap/\(∀b∈fp,H' b=none)/\Vals ys us/\ys.length<=sizeLine/\W i n ys τ H') ?_ m0
   ⟨0,H2,[],[],0,_,I3,st0',λb hb=>(f2 b hb).1,.nil,S3 _,w0⟩
  rintro n s4 ⟨i,H4,ys,us,k,τ,I4,st4,fr4,rv4,hz4,w4⟩
  have hp4:∀p∈[(s2.heap.objs.size,({ cls:=.type "list",data:=.seq us.toArray k }:Obj))],s2.heap.objs.size<=p.1:=λp hp=>by
   rw[W1.mp hp]
   exact A0 _
  rcases turn i n ys τ H4 w4 with⟨stop,qn⟩|⟨go,hlt,N,hN,step⟩
  ·refine thn (T.done (cxComp X own fr sc G.objs.size s2 H2 fp) rfl rfl rfl hc i _ s4 _ H4 (λ_ _=>False) I4 (stt _ hCle fr4 hp4) st4 stop) λr s5 ⟨hr,I5⟩=>?_
   subst hr
   obtain⟨a1,a2,a3⟩:=comp_end I2 f2 hCle (A0 _) hDC I5 rfl rv4 hz4
   exact hRR _ _ _ s5 a1 (qn _ (I5.pin _ (D1 _ (W1.mpr rfl))).2.1) a2 a3
  ·refine thn (T.item (cxComp X own fr sc G.objs.size s2 H2 fp) rfl rfl rfl hc i _ s4 _ H4 (λ_ _=>False) I4 (stt _ hCle fr4 hp4) st4 go) λr s5 ⟨u,hr,h5⟩=>?_
   subst hr
   refine thn h5 λ_ s6 ⟨x,H6,I6,r6,y6,st6,fr6⟩=>?_
   have I6':=I6.pinned (stt _ hCle fr6 hp4) (T.obj _ _ st6)
   refine thn (hg G.objs.size fp _ s6 _ H6 x u _ I6' r6 (step x H6 y6)) λ_ s7 ⟨σ7,H7,I7,q7⟩=>?_
   refine thn (hif G.objs.size fp _ s7 σ7 H7 _ I7 q7) λb s8 ⟨H8,I8,q8⟩=>?_
   have again:∀{s9:Shared}{H9:Hp}{ys':List V}{us':List Value}{k':Nat},Inv (cxComp X own fr sc G.objs.size s2 H2 fp) ([(s2.heap.objs.size,{ cls:=.type "list",data:=.seq us'.toArray k' })]++pinsAt fp s6.heap) σ7 H9 s9->Vals ys' us'->ys'.length<=sizeLine->N ys' σ7 H9 ->
     ∃m,m < n/\∃i H' ys us k τ,Inv (cxComp X own fr sc G.objs.size s2 H2 fp) [(s2.heap.objs.size,{ cls:=.type "list",data:=.seq us.toArray k })] τ H' s9/\tn i s9.heap/\(∀b∈fp,H' b=none)/\Vals ys us/\ys.length<=sizeLine/\W i m ys τ H':=λ{s9 H9 ys' us' k'} I9 rv9 hz9 n9=>by
    obtain⟨m',hm,w9⟩:=hN ys' σ7 H9 n9
    refine ⟨m',hm,i+1,H9,ys',us',k',σ7,I9.unpinned,T.keep _ _ _ st6 λb hb o e=>(I9.pin (b,o) (D1 _ (D1 _ (mem_pinsAt hb e)))).1,λb hb=>?_,rv9,hz9,w9⟩
    obtain⟨o,e,d⟩:=T.obj _ _ st6 b hb
    exact (I9.pin (b,o) (D1 _ (D1 _ (mem_pinsAt hb e)))).2.1
   cases b with
   | false =>
    rw[if_neg W0]at q8 ⊢
    exact again I8 rv4 hz4 q8
   | true =>
    rw[if_pos rfl]at q8 ⊢
    refine thn (he G.objs.size fp _ s8 σ7 H8 _ I8 q8) λy s9 ⟨yv,H9,I9,r9,n9⟩=>?_
    refine comp_grow (X:=cxComp X own fr sc G.objs.size s2 H2 fp) I9 (A0 _) (λx c e z=>?_) (λp hp z=>?_) (by rw[<- rv4.length];exact hlt) λk' s10 I10=>?_
    ·rcases clb2 _ x c e with y|y
     ·rw[z]at y
      exact absurd (J0 (Nat.lt_succ_of_le hCle) y) (V2 _)
     ·obtain⟨v,q⟩:=I2.cell x c y
      exact absurd (J0 q.lt (by rw[z];exact A0 _)) (V2 _)
    ·have hp:p∈([]:List (Addr×Obj))++pinsAt fp s6.heap:=hp
     rw[Q7]at hp
     have:=flt _ (of_pinsAt hp).1
     rw[z]at this
     exact absurd this (V2 _)
    ·exact again I10 (rv4.append (.cons r9 .nil)) (by rw[R0,U1];omega) n9
 exact codeAny_compStart_list (loop _ rfl) (T.self _ 0 _ _ _ st0' (loop _ rfl))
theorem pe_comp{X:Cx}{tg iter elt:Expr}{ifs:List Expr}{sc:Scope}{pos:Pos}{own:List Str}{fr:List Nat}{wi:TI}{g:TG}{tc:TT}{te:TE}(hc:X.calm=true)(S:CompSc X own fr sc)(hi:PI X tg iter wi)
  (hg:∀C s H ex,PG (cxComp X own fr sc C s H ex) tg g) (hif:∀C s H ex,PIf (cxComp X own fr sc C s H ex) ifs tc) (he:∀C s H ex,PE (cxComp X own fr sc C s H ex) elt te)
  (hs:∀x,foldedSetIterable iter X.env x=pure x:=by intro _;rfl):PE X (.ListComp elt [⟨tg,iter,ifs,0⟩] sc pos) (tComp wi own fr g tc te):=by
 intro pins s σ H Q I h
 rw[eval_ListComp]
 refine wpAny_comprehension_free (use:=none) rfl hs (closure_of λy hy e=>I.ok.has y.1 (S.free y hy e)) S.kind S.loc (thn (hi pins s σ H _ I h) λv s1 h1=>thn h1 λitv s2 h2=>?_)
 obtain⟨it,fp,tn,J,H2,e,I2,T,st2,f2,W,⟨m0,w0⟩,turn⟩:=h2
 subst e
 refine comp_block (Q:=Q) (RR:=λacc C=>compPost (model X.prog X.w) X.A X.xe none (EP X pins σ Q) acc C) hc S I2 T st2 f2 (λC ex=>hg C s2 H2 ex) (λC ex=>hif C s2 H2 ex) (λC ex=>he C s2 H2 ex) W m0 w0 turn ?_
 intro D C H' s' I' q ⟨m,hm⟩ fC
 refine ⟨m,hm,λh' sb=>⟨.ref D,H',?_,rfl,q⟩⟩
 obtain⟨f0,f1,f2,f3,f4,f5⟩:=fC
 exact I'.turned (t':=s'.toks) (λb o hb e=>(sb.2 b hb).trans e) f0 f1 f3 f4 f5
theorem ps_setComp{X:Cx}{tg iter elt:Expr}{ifs:List Expr}{sc:Scope}{pos spos py:Pos}{i:Nat}{y:Str}{own:List Str}{fr:List Nat}{wi:TI}{g:TG}{tc:TT}{te:TE}(hN:X.N.Nodup)(hy:X.N[i]?=some y)(hl:X.env.scope.names.lookup y=some .local)(hc:X.calm=true)(S:CompSc X own fr sc)(hi:PI X tg iter wi)
  (hg:∀C s H ex,PG (cxComp X own fr sc C s H ex) tg g) (hif:∀C s H ex,PIf (cxComp X own fr sc C s H ex) ifs tc) (he:∀C s H ex,PE (cxComp X own fr sc C s H ex) elt te)
  (hsw:swapsWith (.ListComp elt [⟨tg,iter,ifs,0⟩] sc pos) (some (.Name y py)) spos.line X.env=pure true:=by rfl)
  (hs:∀x,foldedSetIterable iter X.env x=pure x:=by intro _;rfl):PS X (.Assign [.Name y py] (.ListComp elt [⟨tg,iter,ifs,0⟩] sc pos) spos) (tAsg (tComp wi own fr g tc te) (gName i)):=by
 intro pins s σ H D I h
 rw[exec_Assign_Name_used _ _ _ _ hsw]
 refine wpAny_bind (wpAny_standAt ?_)
 show wpAny _ _ (evalThenUse (.ListComp elt [⟨tg,iter,ifs,0⟩] sc pos) X.env _ >>= _) _ _ s
 refine wpAny_bind ?_
 unfold evalThenUse
 refine wpAny_bind ?_
 refine wpAny_comprehension_free rfl hs (closure_of λy hy e=>I.ok.has y.1 (S.free y hy e)) S.kind S.loc (thn (hi pins s σ H _ I h) λv s1 h1=>thn h1 λitv s2 h2=>?_)
 obtain⟨it,fp,tn,J,H2,e,I2,T,st2,f2,W,⟨m0,w0⟩,turn⟩:=h2
 subst e
 refine comp_block (Q:=λv H1=>D.nx (σ.set i (some v)) H1) hc S I2 T st2 f2 (λC ex=>hg C s2 H2 ex) (λC ex=>hif C s2 H2 ex) (λC ex=>he C s2 H2 ex) W m0 w0 turn ?_
 intro D' C H' s' I' q ⟨m,hm⟩ fC
 obtain⟨f0,f1,f2,f3,f4,f5⟩:=fC
 show wpAny (model X.prog X.w) X.A (assign (.Name y py) X.env (.ref D')) (λ_ s''=>∃m,s''.heap.Ns C m/\∀h',u4 C s''.heap h'->_) X.xe s'
 refine wpAny_assign_Name (store_ok2 I' hN hy (.inl hl) (v:=.ref D') rfl (λs'' I'' hsb=>?_) (.inr hl))
 obtain⟨a,hsb,ha⟩:=hsb
 have hCa:C≠a:=by
  rcases ha with z|z
  ·rw[z];exact f1
  ·exact λe=>f4 y a z e.symm
 obtain⟨m',hm'⟩:∃m',s''.heap.Ns C m':=⟨m,hm.sameBut hsb hCa⟩
 refine ⟨m',hm',λh' sb=>wpAny_pure (wpAny_pure ⟨_,H',?_,q⟩)⟩
 exact I''.turned (t':=s''.toks) (λb o hb e=>(sb.2 b hb).trans e) f0 f1 f3 f4 f5
inductive Kd where|l|t
noncomputable def ItAt(k:Kd)(h:Heap)(it a:Addr)(i:Nat):Prop:=match k with | .l=>h.IsListIter it a i | .t=>h.IsTupleIter it a i
noncomputable def SqAt(k:Kd)(h:Heap)(a:Addr)(xs:Array Value):Prop:=match k with | .l=>h.IsList a xs | .t=>h.IsTuple a xs
noncomputable def itObj(k:Kd)(a:Addr):Obj:=match k with | .l=>{ cls:=.type "list_iterator",data:=.fields #[.ref a,.int 0 0] } | .t=>{ cls:=.type "tuple_iterator",data:=.fields #[.ref a,.int 0 0] }
theorem ItAt.at{k:Kd}{h h':Heap}{it a:Addr}{i:Nat}(x:ItAt k h it a i)(f:∀o,h.get? it=some o->h'.get? it=some o):ItAt k h' it a i:=by
 cases k with
 | l=>exact Heap.IsListIter.at x f
 | t=>exact Heap.IsTupleIter.at x f
theorem SqAt.at{k:Kd}{h h':Heap}{a:Addr}{xs:Array Value}(x:SqAt k h a xs)(f:∀o,h.get? a=some o->h'.get? a=some o):SqAt k h' a xs:=by
 cases k with
 | l=>exact Heap.IsList.at x f
 | t=>obtain⟨o,e,r⟩:=x;exact ⟨o,f o e,r⟩
theorem ItAt.obj{k:Kd}{h:Heap}{it a:Addr}{i:Nat}(x:ItAt k h it a i):∃o,h.get? it=some o/\∀v,o.data≠.cell v:=by
 cases k with
 | l=>obtain⟨o,e,c,d⟩:=x;exact ⟨o,e,λv z=>by rw[d]at z;cases z⟩
 | t=>obtain⟨o,e,c,d⟩:=x;exact ⟨o,e,λv z=>by rw[d]at z;cases z⟩
theorem ItAt.new(k:Kd){h:Heap}{it a:Addr}(e:h.get? it=some (itObj k a)):ItAt k h it a 0:=by
 cases k with
 | l=>exact ⟨_,e,rfl,rfl⟩
 | t=>exact ⟨_,e,rfl,rfl⟩
section
variable {prog:Program}{w:World}{A:Around}{E:Value->Shared->Prop}{s:Shared}
theorem iter_at{k:Kd}{a:Addr}{xs:Array Value}{Q:Value->Shared->Prop}(hl:SqAt k s.heap a xs)(h:Q (.ref s.heap.objs.size) { s with heap:=s.heap.push (itObj k a) }):wpAny (model prog w) A (pyIter (.ref a)) Q E s:=by
 cases k with
 | l=>exact wpAny_pyIter_list hl h
 | t=>exact wpAny_pyIter_tuple hl h
theorem nextOf_tuple_item{it t:Addr}{i:Nat}{items}{x:Value}{Q:Value->Shared->Prop}(hit:s.heap.IsTupleIter it t i)(ht:s.heap.IsTuple t items)(hx:items[i]?=some x)
  (hQ:∀h',h'.IsTupleIter it t (i+1)->u4 it s.heap h'->Q x { s with heap:=h' }):wpAny (model prog w) A (A1 (.ref it)) Q E s:=by
 obtain⟨o,ho,hc,hd⟩:=id hit
 obtain⟨ol,hol,_,nl,hdl⟩:=ht
 unfold A1
 refine wpAny_bind (wpAny_callSpecial?_slot (name:=Str.ofString "__next__") hit.typeIs F.slot_tuple_iterator_next
   (wpAny_call_entry F.slot_tuple_iterator_next hit.typeIs F.entry_tuple_iterator_next ?_ (F.args_tuple_iterator_next_1 _)))
 show wpAny _ _ (field (.ref it) 0 >>= _) _ _ s
 refine wpAny_bind (wpAny_field ho hd (x:=.ref t) rfl ?_)
 show wpAny _ _ (if (Y1 t==O5)=true then _ else _) _ _ s
 rw[if_neg (show ¬((Y1 t==O5)=true) from W0)]
 show wpAny _ _ (field (.ref it) 1 >>= _) _ _ s
 refine wpAny_bind (wpAny_field ho hd (x:=.int i 0) rfl ?_)
 show wpAny _ _ (seqItems? (.ref t) >>= _) _ _ s
 refine wpAny_bind (wpAny_seqItems hol hdl ?_)
 simp only[Q4,hx]
 refine wpAny_bind (wpAny_setField ho hd (by simp) (wpAny_pure ⟨x,rfl,wpAny_pure (hQ _ ?_ (N6 ..))⟩))
 exact ⟨_,X4 _ ho (Obj.isFreed_of_fields (Obj.data_mapFields hd _)),(Obj.cls_mapFields ..).trans hc,by
   rw[Obj.data_mapFields hd];simp[rawInt]⟩
theorem nextOf_tuple_end{it l:Addr}{i:Nat}{items}{Q:Value->Shared->Prop}(hh:A.handled=none)
  (hit:s.heap.IsTupleIter it l i) (hl:s.heap.IsTuple l items) (hx:items[i]?=none)
  (hE:∀h' e,Heap.ExtBut it s.heap h'->(∃o,h'.get? e=some o/\o.cls=.type "StopIteration")->E (.ref e) { s with heap:=h' }) :
  wpAny (model prog w) A (A1 (.ref it)) Q E s:=by
 obtain⟨o,ho,hc,hd⟩:=id hit
 obtain⟨ol,hol,_,nl,hdl⟩:=hl
 unfold A1
 refine wpAny_bind (wpAny_callSpecial?_slot (name:=Str.ofString "__next__") hit.typeIs F.slot_tuple_iterator_next
   (wpAny_call_entry F.slot_tuple_iterator_next hit.typeIs F.entry_tuple_iterator_next ?_ (F.args_tuple_iterator_next_1 _)))
 show wpAny _ _ (field (.ref it) 0 >>= _) _ _ s
 refine wpAny_bind (wpAny_field ho hd (x:=.ref l) rfl ?_)
 show wpAny _ _ (if (Y1 l==O5)=true then _ else _) _ _ s
 rw[if_neg (show ¬((Y1 l==O5)=true) from W0)]
 show wpAny _ _ (field (.ref it) 1 >>= _) _ _ s
 refine wpAny_bind (wpAny_field ho hd (x:=.int i 0) rfl ?_)
 show wpAny _ _ (seqItems? (.ref l) >>= _) _ _ s
 refine wpAny_bind (wpAny_seqItems hol hdl ?_)
 simp only[Q4,hx]
 refine wpAny_bind (wpAny_rule (wpAny_bind (wpAny_setField ho hd (by simp) ?_)))
 show wpAny _ _ (newExc (.type "StopIteration") [] >>= _) _ _ _
 refine wpAny_bind ?_
 simp only[newExc,newTuple]
 refine wpAny_bind (wpAny_newObj_type ?_ (by size_fits))
 refine wpAny_bind (m:=firstArgMember _ _) (wpAny_of_eq (a:=O5) (by first|rfl|(simp only[firstArgMember];rfl)) ?_)
 refine wpAny_newObj_type ?_ (by size_fits)
 simp only[raiseNew]
 refine wpAny_bind (wpAny_handled ?_)
 first|rw[show A.in1.handled=none from hh]|rw[hh]
 refine wpAny_bind (wpAny_pure (wpAny_throw ?_))
 exact hE _ _ (((N6 ..).extBut.push _).push _) ⟨_,G0 _ rfl,rfl⟩
theorem nextOf_item{k:Kd}{it a:Addr}{i:Nat}{xs:Array Value}{x:Value}{Q:Value->Shared->Prop}(hit:ItAt k s.heap it a i)(hl:SqAt k s.heap a xs)(hx:xs[i]?=some x)
  (hQ:∀h',ItAt k h' it a (i+1)->u4 it s.heap h'->Q x { s with heap:=h' }):wpAny (model prog w) A (A1 (.ref it)) Q E s:=by
 cases k with
 | l=>exact wpAny_nextOf_list_item hit hl hx hQ
 | t=>exact nextOf_tuple_item hit hl hx hQ
theorem nextOf_end{k:Kd}{it a:Addr}{i:Nat}{xs:Array Value}{Q:Value->Shared->Prop}(hh:A.handled=none)(hit:ItAt k s.heap it a i)(hl:SqAt k s.heap a xs)(hx:xs[i]?=none)
  (hE:∀h' e,Heap.ExtBut it s.heap h'->(∃o,h'.get? e=some o/\o.cls=.type "StopIteration")->E (.ref e) { s with heap:=h' }):wpAny (model prog w) A (A1 (.ref it)) Q E s:=by
 cases k with
 | l=>exact wpAny_nextOf_list_end hh hit hl hx hE
 | t=>exact nextOf_tuple_end hh hit hl hx hE
end
noncomputable abbrev IsTup2(h:Heap)(T:Addr)(a1 a2:Value):Prop:=h.get? T=some { cls:=.type "tuple",data:=.seq #[a1,a2] }
structure ZAp2(z TI TO i1 i2 l1 l2:Addr):Prop where
 TIz:TI≠z
 TOz:TO≠z
 i1z:i1≠z
 i2z:i2≠z
 TOTI:TO≠TI
 i1TI:i1≠TI
 i2TI:i2≠TI
 i1TO:i1≠TO
 i2TO:i2≠TO
 i2i1:i2≠i1
 l1z:l1≠z
 l1TO:l1≠TO
 l1i1:l1≠i1
 l1i2:l1≠i2
 l2z:l2≠z
 l2TO:l2≠TO
 l2i1:l2≠i1
 l2i2:l2≠i2
theorem zap2(n l1 l2:Nat)(h1:l1 < n)(h2:l2 < n):ZAp2 (n+4) (n+2) (n+3) n (n+1) l1 l2:=by constructor<;>(show ¬(@Eq Nat _ _))<;>omega
section
variable {prog:Program}{w:World}{A:Around}{E:Value->Shared->Prop}{s:Shared}
theorem upSeq2{T:Addr}{a1 a2 x:Value}{k:Nat}{Q:Unit->Shared->Prop}(hT:IsTup2 s.heap T a1 a2)
  (h:∀h',h'.get? T=some { cls:=.type "tuple",data:=.seq ((#[a1,a2]:Array Value).setIfInBounds k x) }->u4 T s.heap h'->Q () { s with heap:=h' }) :
  wpAny (model prog w) A (updateSeq T (·.setIfInBounds k x)) Q E s:=by
 refine wpAny_updateSeq hT rfl (h _ ?_ (N6 ..))
 rw[X4 _ hT rfl]
 simp[P3]
theorem zipn_item2{z TI TO i1 i2 l1 l2:Addr}{k:Nat}{k1:Kd}{k2:Kd}{xs1 xs2:Array Value}{a1 a2:Value}{x1 x2:Value}{Q:Value->Shared->Prop}(D:ZAp2 z TI TO i1 i2 l1 l2)
  (hz:IsZip s.heap z TI TO .none) (hTI:IsTup2 s.heap TI (.ref i1) (.ref i2)) (hTO:IsTup2 s.heap TO a1 a2)
  (h1:ItAt k1 s.heap i1 l1 k) (h2:ItAt k2 s.heap i2 l2 k) (hl1:SqAt k1 s.heap l1 xs1) (hl2:SqAt k2 s.heap l2 xs2) (hx1:xs1[k]?=some x1) (hx2:xs2[k]?=some x2)
  (hQ:∀h',IsZip h' z TI TO (rawInt s.heap.objs.size)->IsTup2 h' TO x1 x2->ItAt k1 h' i1 l1 (k+1)->ItAt k2 h' i2 l2 (k+1)->IsTup2 h' s.heap.objs.size x1 x2->h'.objs.size=s.heap.objs.size+1 ->
    (∀c o,c≠z->c≠TO->c≠i1->c≠i2->s.heap.get? c=some o->h'.get? c=some o)->Q (.ref s.heap.objs.size) { s with heap:=h' }) :
  wpAny (model prog w) A (Builtin.«zip.__next__» ⟨[.ref z],[]⟩) (λfin s'=>∃v,fin=.done (.ret v)/\Q v s') E s:=by
 show wpAny _ _ (field (.ref z) 2 >>= _) _ _ _
 refine wpAny_bind (wpAny_field hz rfl (x:=.bool false) rfl ?_)
 show wpAny _ _ (field (.ref z) 3 >>= _) _ _ _
 refine wpAny_bind (wpAny_field hz rfl (x:=.ref TI) rfl ?_)
 refine wpAny_bind (wpAny_seqItems hTI rfl ?_)
 show wpAny _ _ (K1 (.ref z) >>= _) _ _ _
 refine wpAny_bind ?_
 unfold K1
 refine wpAny_bind (wpAny_field hz rfl (x:=.none) rfl (wpAny_pure ?_))
 simp only[if_true]
 refine wpAny_bind (wpAny_rule ?_)
 refine wpAny_bind (wpAny_field hz rfl (x:=.ref TO) rfl ?_)
 refine wpAny_bind (wpAny_setField_rec hz (by simp) λh₁ hz₁ hs₁=>?_)
 replace hz₁:IsZip h₁ z TI TO .ellipsis:=hz₁
 refine wpAny_bind ?_
 simp only[List.zipIdx_cons,List.zipIdx_nil,N5,V5]
 have up₁:∀c o,c≠z->s.heap.get? c=some o->h₁.get? c=some o:=λc o c1 e=>hs₁.extBut _ _ c1 e
 refine wpAny_bind (wpAny_bind (wpAny_onRaise ?_))
 show wpAny _ _ (A1 (.ref i1) >>= _) _ _ _
 refine wpAny_bind (nextOf_item (h1.at λo e=>hs₁.extBut _ o D.i1z e) (hl1.at λo e=>hs₁.extBut _ o D.l1z e) hx1 λha1 hi1 hsa1=>wpAny_pure ?_)
 have hTOa1:IsTup2 ha1 TO a1 a2:=hsa1.extBut _ _ D.i1TO.symm (hs₁.extBut _ _ D.TOz hTO)
 refine wpAny_bind (wpAny_seqItems hTOa1 rfl ?_)
 refine wpAny_bind (upSeq2 hTOa1 λhb1 hTOb1 hsb1=>?_)
 replace hTOb1:IsTup2 hb1 TO x1 a2:=hTOb1
 refine wpAny_bind (wpAny_letGo (wpAny_pure ?_))
 refine wpAny_bind (wpAny_bind (wpAny_onRaise ?_))
 show wpAny _ _ (A1 (.ref i2) >>= _) _ _ _
 refine wpAny_bind (nextOf_item (((h2.at λo e=>hs₁.extBut _ o D.i2z e).at λo e=>hsa1.extBut _ o D.i2i1 e).at λo e=>hsb1.extBut _ o D.i2TO e) (((hl2.at λo e=>hs₁.extBut _ o D.l2z e).at λo e=>hsa1.extBut _ o D.l2i1 e).at λo e=>hsb1.extBut _ o D.l2TO e) hx2 λha2 hi2 hsa2=>wpAny_pure ?_)
 have hTOa2:IsTup2 ha2 TO x1 a2:=hsa2.extBut _ _ D.i2TO.symm hTOb1
 refine wpAny_bind (wpAny_seqItems hTOa2 rfl ?_)
 refine wpAny_bind (upSeq2 hTOa2 λhb2 hTOb2 hsb2=>?_)
 replace hTOb2:IsTup2 hb2 TO x1 x2:=hTOb2
 refine wpAny_bind (wpAny_letGo (wpAny_pure (wpAny_pure ?_)))
 refine wpAny_bind (wpAny_seqItems hTOb2 rfl ?_)
 refine wpAny_bind (wpAny_newTuple ?_)
 have hsz:hb2.objs.size=s.heap.objs.size:=by rw[hsb2.1,hsa2.1,hsb1.1,hsa1.1,hs₁.1]
 have hzG:IsZip hb2 z TI TO .ellipsis:=(hsb2.extBut _ _ D.TOz.symm (hsa2.extBut _ _ D.i2z.symm (hsb1.extBut _ _ D.TOz.symm (hsa1.extBut _ _ D.i1z.symm hz₁))))
 have hkG:∀c o,c≠z->c≠TO->c≠i1->c≠i2->s.heap.get? c=some o->hb2.get? c=some o:=λc o c1 c2 d1 d2 e=>(hsb2.extBut _ _ c2 (hsa2.extBut _ _ d2 (hsb1.extBut _ _ c2 (hsa1.extBut _ _ d1 (hs₁.extBut _ _ c1 e)))))
 have hiG1:ItAt k1 hb2 i1 l1 (k+1):=(((hi1.at λo e=>hsb1.extBut _ o D.i1TO e).at λo e=>hsa2.extBut _ o D.i2i1.symm e).at λo e=>hsb2.extBut _ o D.i1TO e)
 have hiG2:ItAt k2 hb2 i2 l2 (k+1):=(hi2.at λo e=>hsb2.extBut _ o D.i2TO e)
 have hzlt:z < hb2.objs.size:=v0 hzG
 show wpAny _ _ (E5 (.ref z) (.ref hb2.objs.size) >>= _) _ _ _
 refine wpAny_bind ?_
 unfold E5
 have hz₆:IsZip (hb2.push { cls:=.type "tuple",data:=.seq #[x1,x2] }) z TI TO .ellipsis:=g0 _ hzG
 refine wpAny_bind (wpAny_setField_rec hz₆ (by simp) λh₇ hz₇ hs₇=>?_)
 replace hz₇:IsZip h₇ z TI TO (rawInt hb2.objs.size):=hz₇
 refine wpAny_setField_rec hz₇ (by simp) λh₈ hz₈ hs₈=>?_
 replace hz₈:IsZip h₈ z TI TO (rawInt hb2.objs.size):=hz₈
 have up:∀c o,c≠z->hb2.get? c=some o->h₈.get? c=some o:=λc o c1 e=>hs₈.extBut _ _ c1 (hs₇.extBut _ _ c1 (g0 _ e))
 have hT₈:IsTup2 h₈ hb2.objs.size x1 x2:=hs₈.extBut _ _ (D3 hzlt) (hs₇.extBut _ _ (D3 hzlt) (G0 _ rfl))
 have hz8:h₈.objs.size=hb2.objs.size+1:=by rw[hs₈.1,hs₇.1,B2]
 rw[hsz]at hz₈ hT₈ hz8
 refine wpAny_pure ⟨_,rfl,?_⟩
 show Q (.ref hb2.objs.size) _
 rw[hsz]
 exact hQ h₈ hz₈ (up _ _ D.TOz hTOb2) (hiG1.at λo e=>up _ o D.i1z e) (hiG2.at λo e=>up _ o D.i2z e) hT₈ hz8 λc o c1 c2 d1 d2 e=>up c o c1 (hkG c o c1 c2 d1 d2 e)
theorem zipn_end2{z TI TO i1 i2 l1 l2:Addr}{k:Nat}{k1:Kd}{k2:Kd}{xs1 xs2:Array Value}{a1 a2:Value}{Q:Fin->Shared->Prop}(hh:A.handled=none)(D:ZAp2 z TI TO i1 i2 l1 l2)
  (hz:IsZip s.heap z TI TO .none) (hTI:IsTup2 s.heap TI (.ref i1) (.ref i2)) (hTO:IsTup2 s.heap TO a1 a2)
  (h1:ItAt k1 s.heap i1 l1 k) (h2:ItAt k2 s.heap i2 l2 k) (hl1:SqAt k1 s.heap l1 xs1) (hl2:SqAt k2 s.heap l2 xs2) (hend:xs1[k]?=none\/xs2[k]?=none)
  (hE:∀h' e,(∀c o,c≠z->c≠TO->c≠i1->c≠i2->s.heap.get? c=some o->h'.get? c=some o)->(∃o,h'.get? e=some o/\o.cls=.type "StopIteration")->E (.ref e) { s with heap:=h' }) :
  wpAny (model prog w) A (Builtin.«zip.__next__» ⟨[.ref z],[]⟩) Q E s:=by
 show wpAny _ _ (field (.ref z) 2 >>= _) _ _ _
 refine wpAny_bind (wpAny_field hz rfl (x:=.bool false) rfl ?_)
 show wpAny _ _ (field (.ref z) 3 >>= _) _ _ _
 refine wpAny_bind (wpAny_field hz rfl (x:=.ref TI) rfl ?_)
 refine wpAny_bind (wpAny_seqItems hTI rfl ?_)
 show wpAny _ _ (K1 (.ref z) >>= _) _ _ _
 refine wpAny_bind ?_
 unfold K1
 refine wpAny_bind (wpAny_field hz rfl (x:=.none) rfl (wpAny_pure ?_))
 simp only[if_true]
 refine wpAny_bind (wpAny_rule ?_)
 refine wpAny_bind (wpAny_field hz rfl (x:=.ref TO) rfl ?_)
 refine wpAny_bind (wpAny_setField_rec hz (by simp) λh₁ hz₁ hs₁=>?_)
 replace hz₁:IsZip h₁ z TI TO .ellipsis:=hz₁
 refine wpAny_bind ?_
 simp only[List.zipIdx_cons,List.zipIdx_nil,N5,V5]
 refine wpAny_bind (wpAny_bind (wpAny_onRaise ?_))
 show wpAny _ _ (A1 (.ref i1) >>= _) _ _ _
 cases hx1:xs1[k]? with
 | none =>
  refine wpAny_bind (nextOf_end hh (h1.at λo e=>hs₁.extBut _ o D.i1z e) (hl1.at λo e=>hs₁.extBut _ o D.l1z e) hx1 λhq e hsq he=>?_)
  obtain⟨oe,hoe,hce⟩:=he
  have hzq:IsZip hq z TI TO .ellipsis:=hsq _ _ D.i1z.symm hz₁
  have hez:e≠z:=λx=>by subst x;rw[hzq]at hoe;cases hoe;simp at hce
  refine wpAny_setField_rec hzq (by simp) λh₉ _ hs₉=>hE h₉ e (λc o c1 c2 d1 d2 x=>hs₉.extBut _ _ c1 (hsq _ _ d1 (hs₁.extBut _ _ c1 x))) ⟨oe,hs₉.extBut _ _ hez hoe,hce⟩
 | some x1 =>
  refine wpAny_bind (nextOf_item (h1.at λo e=>hs₁.extBut _ o D.i1z e) (hl1.at λo e=>hs₁.extBut _ o D.l1z e) hx1 λha1 hi1 hsa1=>wpAny_pure ?_)
  have hTOa1:IsTup2 ha1 TO a1 a2:=hsa1.extBut _ _ D.i1TO.symm (hs₁.extBut _ _ D.TOz hTO)
  refine wpAny_bind (wpAny_seqItems hTOa1 rfl ?_)
  refine wpAny_bind (upSeq2 hTOa1 λhb1 hTOb1 hsb1=>?_)
  replace hTOb1:IsTup2 hb1 TO x1 a2:=hTOb1
  refine wpAny_bind (wpAny_letGo (wpAny_pure ?_))
  refine wpAny_bind (wpAny_bind (wpAny_onRaise ?_))
  show wpAny _ _ (A1 (.ref i2) >>= _) _ _ _
  have hx2:xs2[k]?=none:=by
   rcases hend with h|h
   ·rw[hx1]at h;cases h
   ·exact h
  refine wpAny_bind (nextOf_end hh (((h2.at λo e=>hs₁.extBut _ o D.i2z e).at λo e=>hsa1.extBut _ o D.i2i1 e).at λo e=>hsb1.extBut _ o D.i2TO e) (((hl2.at λo e=>hs₁.extBut _ o D.l2z e).at λo e=>hsa1.extBut _ o D.l2i1 e).at λo e=>hsb1.extBut _ o D.l2TO e) hx2 λhq e hsq he=>?_)
  obtain⟨oe,hoe,hce⟩:=he
  have hzq:IsZip hq z TI TO .ellipsis:=hsq _ _ D.i2z.symm (hsb1.extBut _ _ D.TOz.symm (hsa1.extBut _ _ D.i1z.symm hz₁))
  have hez:e≠z:=λx=>by subst x;rw[hzq]at hoe;cases hoe;simp at hce
  refine wpAny_setField_rec hzq (by simp) λh₉ _ hs₉=>hE h₉ e (λc o c1 c2 d1 d2 x=>hs₉.extBut _ _ c1 (hsq _ _ d2 (hsb1.extBut _ _ c2 (hsa1.extBut _ _ d1 (hs₁.extBut _ _ c1 x))))) ⟨oe,hs₉.extBut _ _ hez hoe,hce⟩
theorem next_zip_item2{z TI TO i1 i2 l1 l2:Addr}{k:Nat}{k1:Kd}{k2:Kd}{xs1 xs2:Array Value}{a1 a2:Value}{x1 x2:Value}{Q:Option Value->Shared->Prop}(D:ZAp2 z TI TO i1 i2 l1 l2)
  (hz:IsZip s.heap z TI TO .none) (hTI:IsTup2 s.heap TI (.ref i1) (.ref i2)) (hTO:IsTup2 s.heap TO a1 a2)
  (h1:ItAt k1 s.heap i1 l1 k) (h2:ItAt k2 s.heap i2 l2 k) (hl1:SqAt k1 s.heap l1 xs1) (hl2:SqAt k2 s.heap l2 xs2) (hx1:xs1[k]?=some x1) (hx2:xs2[k]?=some x2)
  (hQ:∀h',IsZip h' z TI TO (rawInt s.heap.objs.size)->IsTup2 h' TO x1 x2->ItAt k1 h' i1 l1 (k+1)->ItAt k2 h' i2 l2 (k+1)->IsTup2 h' s.heap.objs.size x1 x2->h'.objs.size=s.heap.objs.size+1 ->
    (∀c o,c≠z->c≠TO->c≠i1->c≠i2->s.heap.get? c=some o->h'.get? c=some o)->Q (some (.ref s.heap.objs.size)) { s with heap:=h' }) :
  wpAny (model prog w) A (pyNext (.ref z)) Q E s:=by
 have hT:s.TypeIs (.ref z) "zip":=⟨_,hz,rfl⟩
 unfold pyNext
 exact wpAny_bind (wpAny_attempt (wpAny_callSpecial?_slot (name:=Str.ofString "__next__") hT F.slot_zip_next
   (wpAny_call_entry F.slot_zip_next hT F.entry_zip_next
     (zipn_item2 D hz hTI hTO h1 h2 hl1 hl2 hx1 hx2 λh' a1 a2 b1 b2 a5 a6 a7=>wpAny_pure (hQ h' a1 a2 b1 b2 a5 a6 a7)) (F.args_zip_next_1 _))))
theorem next_zip_end2{z TI TO i1 i2 l1 l2:Addr}{k:Nat}{k1:Kd}{k2:Kd}{xs1 xs2:Array Value}{a1 a2:Value}{Q:Option Value->Shared->Prop}(hh:A.handled=none)(D:ZAp2 z TI TO i1 i2 l1 l2)
  (hz:IsZip s.heap z TI TO .none) (hTI:IsTup2 s.heap TI (.ref i1) (.ref i2)) (hTO:IsTup2 s.heap TO a1 a2)
  (h1:ItAt k1 s.heap i1 l1 k) (h2:ItAt k2 s.heap i2 l2 k) (hl1:SqAt k1 s.heap l1 xs1) (hl2:SqAt k2 s.heap l2 xs2) (hend:xs1[k]?=none\/xs2[k]?=none)
  (hQ:∀h',(∀c o,c≠z->c≠TO->c≠i1->c≠i2->s.heap.get? c=some o->h'.get? c=some o)->Q none { s with heap:=h' }):wpAny (model prog w) A (pyNext (.ref z)) Q E s:=by
 have hT:s.TypeIs (.ref z) "zip":=⟨_,hz,rfl⟩
 unfold pyNext
 refine wpAny_bind (wpAny_attempt (wpAny_callSpecial?_slot (name:=Str.ofString "__next__") hT F.slot_zip_next
   (wpAny_call_entry F.slot_zip_next hT F.entry_zip_next (zipn_end2 hh D hz hTI hTO h1 h2 hl1 hl2 hend λh' e hk he=>?_) (F.args_zip_next_1 _))))
 obtain⟨o,ho,hc⟩:=he
 refine wpAny_bind (wpAny_isInstance (T:="StopIteration") (b:=true) ⟨o,ho,hc⟩ isSubtype_stop ?_)
 exact wpAny_pure (hQ _ hk)
end
noncomputable abbrev zh2I(h:Heap)(k1:Kd)(k2:Kd)(l1 l2:Addr):Heap:=((h.push (itObj k1 l1)).push (itObj k2 l2))
noncomputable abbrev zh2T(h:Heap)(k1:Kd)(k2:Kd)(l1 l2:Addr):Heap:=(zh2I h k1 k2 l1 l2).push { cls:=.type "tuple",data:=.seq #[.ref h.objs.size,.ref (h.push (itObj k1 l1)).objs.size] }
noncomputable abbrev zh2O(h:Heap)(k1:Kd)(k2:Kd)(l1 l2:Addr):Heap:=(zh2T h k1 k2 l1 l2).push { cls:=.type "tuple",data:=.seq #[.none,.none] }
noncomputable abbrev zh2Z(h:Heap)(k1:Kd)(k2:Kd)(l1 l2:Addr):Heap:=(zh2O h k1 k2 l1 l2).push { cls:=.type "zip",data:=.fields #[.none,.bool false,.bool false,.ref (zh2I h k1 k2 l1 l2).objs.size,.ref (zh2T h k1 k2 l1 l2).objs.size] }
theorem zip_new2(k1:Kd)(k2:Kd)(l1 l2:Addr)(xs1 xs2:Array Value) :
  Meets (Builtin.«zip.__new__» ⟨[.type "zip",.ref l1,.ref l2],[]⟩) (λ_ R s=>SqAt k1 s.heap l1 xs1/\SqAt k2 s.heap l2 xs2 /\
    R (.ok (.ret (.ref (zh2O s.heap k1 k2 l1 l2).objs.size))) { s with heap:=zh2Z s.heap k1 k2 l1 l2 }) :=
 .of_wp λprog w A R s h=>by
  obtain⟨hp,g,d,tk,os⟩:=s;obtain⟨hl1,hl2,h⟩:=h
  have hsub:=sub_zip
  have hL1:SqAt k1 (Shared.heap ⟨hp,g,d,tk,os⟩) l1 xs1:=hl1
  have hL2:SqAt k2 (Shared.heap ⟨(hp.push (itObj k1 l1)),g,d,tk,os⟩) l2 xs2:=(SqAt.at hl2 λo e=>g0 _ e)
  wp_walk using iter_at hL1,iter_at hL2
  exact ⟨_,rfl,h⟩
structure ZAp3(z TI TO i1 i2 i3 l1 l2 l3:Addr):Prop where
 TIz:TI≠z
 TOz:TO≠z
 i1z:i1≠z
 i2z:i2≠z
 i3z:i3≠z
 TOTI:TO≠TI
 i1TI:i1≠TI
 i2TI:i2≠TI
 i3TI:i3≠TI
 i1TO:i1≠TO
 i2TO:i2≠TO
 i3TO:i3≠TO
 i2i1:i2≠i1
 i3i1:i3≠i1
 i3i2:i3≠i2
 l1z:l1≠z
 l1TO:l1≠TO
 l1i1:l1≠i1
 l1i2:l1≠i2
 l1i3:l1≠i3
 l2z:l2≠z
 l2TO:l2≠TO
 l2i1:l2≠i1
 l2i2:l2≠i2
 l2i3:l2≠i3
 l3z:l3≠z
 l3TO:l3≠TO
 l3i1:l3≠i1
 l3i2:l3≠i2
 l3i3:l3≠i3
section
variable {prog:Program}{w:World}{A:Around}{E:Value->Shared->Prop}{s:Shared}
end
inductive Ki where|non|bl|int|str|lst|tup|dct
 deriving DecidableEq
noncomputable def Ki.nm:Ki->String
 | .non=>"NoneType" | .bl=>"bool" | .int=>"int" | .str=>"str" | .lst=>"list" | .tup=>"tuple" | .dct=>"dict"
noncomputable def KiOf(K:i0)(H:Hp):V->Ki->Prop
 | .non,k=>k=.non
 | .bl _,k=>k=.bl
 | .int _,k=>k=.int
 | .str _,k=>k=.str
 | .ref a,k=>(k=.lst/\∃xs,SqL K H a xs)\/(k=.tup/\∃xs,SqT K H a xs)\/(k=.dct/\((∃kvs,H a=some (.dK kvs))\/∃kvs,H a=some (.dT kvs)))
 | _,_=>False
noncomputable def Ki.sub:Ki->Ki->Bool
 | .bl,.int=>true
 | a,b=>decide (a=b)
theorem KiOf.typeIs{X:Cx}{pins:List (Addr×Obj)}{σ:St}{H:Hp}{s:Shared}{x:V}{u:Value}{k:Ki}(I:Inv X pins σ H s)(h:KiOf X.K H x k)(r:RelV x u):s.TypeIs u k.nm:=by
 cases x with
 | non=>cases h;cases r;rfl
 | bl b=>cases h;cases r;rfl
 | int i=>cases h;obtain⟨t,rfl⟩:=r;rfl
 | str i=>cases h;obtain⟨t,rfl⟩:=r;rfl
 | ref a =>
  cases r
  rcases h with⟨rfl,xs,hq⟩|⟨rfl,xs,hq⟩|⟨rfl,⟨kvs,hq⟩|⟨kvs,hq⟩⟩
  ·obtain⟨its,_,⟨o,n,e,c,_⟩,_⟩:=I.list hq
   exact ⟨o,e,c⟩
  ·obtain⟨its,_,⟨o,e,c,_⟩,_⟩:=I.tuple hq
   exact ⟨o,e,c⟩
  ·obtain⟨_,_,_,_,o,es,ep,e,c,_⟩:=I.hok a _ hq
   exact ⟨o,e,c.1⟩
  ·obtain⟨_,_,_,_,o,es,ep,e,c,_⟩:=I.hok a _ hq
   exact ⟨o,e,c.1⟩
 | byt _=>cases h
 | flt _=>cases h
 | ty _=>cases h
theorem ki_meta(T:Ki):typeOf (.type T.nm)=pure (.type "type"):=by
 cases T
 ·exact F.isi_meta_NoneType
 ·exact F.isi_meta_bool
 ·exact F.isi_meta_int
 ·exact F.isi_meta_str
 ·exact F.isi_meta_list
 ·exact F.isi_meta_tuple
 ·exact F.isi_meta_dict
theorem ki_sub(k T:Ki):isSubtype (.type k.nm) (.type T.nm)=pure (k.sub T):=by
 cases k<;>cases T<;>(show isSubtype (.type _) (.type _)=pure _;rw[isSubtype_type];kernel_rfl)
theorem ki_ne(k T:Ki)(h:k.sub T=false):(o8 k.nm==o8 T.nm)=false:=by
 cases k<;>cases T<;>first|(exfalso;revert h;decide)|decide +kernel
noncomputable def rIsi(K:i0):List V->Hp->VK->Prop:=λxs H Q=>∃(x:V) (k:Ki) (T:Ki),xs=[x,.ty T.nm]/\KiOf K H x k/\Q (.bl (k.sub T)) H
theorem call_isi{X:Cx}:CallR X (.builtin "isinstance") (rIsi X.K):=by
 intro pins s σ H xs us Q I r h
 obtain⟨x,k,T,rfl,hk,q⟩:=h
 obtain⟨u,w',rfl,ru,rw'⟩:=vals2 r
 obtain rfl:w'=.type T.nm:=rw'
 have ht:=hk.typeIs I ru
 cases hs:k.sub T with
 | true =>
  rw[hs]at q
  exact call_isinstance (isinstance_true (Tx:=k.nm) (ki_meta T) (by rw[ki_sub,hs])) ⟨ht,.bl true,H,I,rfl,q⟩
 | false =>
  rw[hs]at q
  have hsub:isSubtype (.type k.nm) (.type T.nm)=pure false:=by rw[ki_sub,hs]
  have hne:=ki_ne k T hs
  have fin:EP X pins σ Q (.bool false) { s with toks:=s.toks+1 }:=⟨.bl false,H,I.tok _,rfl,q⟩
  cases x with
  | non=>cases hk;cases ru;exact call_isinstance (isinstance_false_none hne (ki_meta T) hsub) fin
  | bl b=>cases hk;cases ru;exact call_isinstance (isinstance_false_bool hne (ki_meta T) hsub) fin
  | int i=>cases hk;obtain⟨t,rfl⟩:=ru;exact call_isinstance (isinstance_false_int hne (ki_meta T) hsub) fin
  | str i=>cases hk;obtain⟨t,rfl⟩:=ru;exact call_isinstance (isinstance_false_str hne (ki_meta T) hsub) fin
  | ref a =>
   cases ru
   rcases hk with⟨rfl,_⟩|⟨rfl,_⟩|⟨rfl,_⟩
   ·exact call_isinstance (isinstance_false_list hne (ki_meta T) hsub) ⟨ht,fin⟩
   ·exact call_isinstance (isinstance_false_tuple hne (ki_meta T) hsub) ⟨ht,fin⟩
   ·exact call_isinstance (isinstance_false_dict hne (ki_meta T) hsub) ⟨ht,fin⟩
  | byt _=>cases hk
  | flt _=>cases hk
  | ty _=>cases hk
noncomputable def rAll(K:i0):List V->Hp->VK->Prop:=λxs H Q=>∃(a:Addr) (bs:List Bool),xs=[.ref a]/\SqL K H a (bs.map V.bl)/\Q (.bl (bs.all id)) H
theorem vals_boolAt{bs:List Bool}{us:List Value}(r:Vals (bs.map V.bl) us)(i:Nat)(v:Value)(h:us[i]?=some v):∃b,bs[i]?=some b/\v=.bool b:=by
 cases e:bs[i]? with
 | none =>
  have h1:(bs.map V.bl)[i]?=none:=by rw[E1,e];rfl
  rw[r.none_of h1]at h
  cases h
 | some b =>
  obtain⟨u,hu,ru⟩:=r.get (i:=i) (x:=.bl b) (by rw[E1,e];rfl)
  rw[hu]at h
  cases h
  exact ⟨b,rfl,ru⟩
theorem all_range_bs(bs:List Bool):((V1 bs.length).all λi=>(bs[i]?).getD true)=bs.all id:=by
 rw[K5,q5,q5]
 constructor
 ·intro h b hb
  obtain⟨i,hi,e⟩:=j5.mp hb
  have:=h i (i5.mpr hi)
  rw[L0 hi,o4,e]at this
  exact this
 ·intro h i hi
  have hi:=i5.mp hi
  rw[L0 hi,o4]
  exact h _ (U3 hi)
theorem call_all{X:Cx}(hc:X.calm=true):CallR X (.builtin "all") (rAll X.K):=by
 intro pins s σ H xs us Q I r h
 obtain⟨a,bs,rfl,hq,q⟩:=h
 obtain⟨u,rfl,ru⟩:=vals1 r
 cases ru
 obtain⟨its,rv,p,hz⟩:=I.list hq
 have hl:=p.isList
 have hlt:a < s.heap.objs.size:=by obtain⟨_,e,_⟩:=hl;exact v0 e
 refine call_all_walk (wpAny_pyIter_list hl ?_)
 refine ⟨s.heap.objs.size,[s.heap.objs.size,a],[s.heap.objs.size],its.toArray.size,_,_,λi=>(bs[i]?).getD true,rfl,Walks.list (A:=X.A.in1) (I.ok.hd hc) _ a (V0 hlt) its.toArray,
   ⟨⟨_,G0 _ rfl,rfl,rfl⟩,hl.push _⟩,λi v s' Q' E' hP hQ=>?_,λh' tk hk=>?_⟩
 ·obtain⟨b,e,rfl⟩:=vals_boolAt rv i v (by simpa using hP)
  simp only[e,o4]at hQ
  exact wpAny_truthy_bool hQ
 ·have e:((V1 its.toArray.size).all λi=>(bs[i]?).getD true)=bs.all id:=by
   have hl2:=rv.length
   rw[n0]at hl2
   rw[N0,<- hl2];exact all_range_bs bs
  rw[e]
  refine ⟨.bl (bs.all id),H,I.kept (h':=h') (t':=tk) λb o eo=>hk b o (λhm=>?_) (g0 _ eo),rfl,q⟩
  rw[W1.mp hm]at eo
  exact V2 _ (v0 eo)
noncomputable def Sq(k:Kd)(K:i0)(H:Hp)(a:Addr)(xs:List V):Prop:=match k with | .l=>SqL K H a xs | .t=>SqT K H a xs
theorem Inv.sq{X:Cx}{pins:List (Addr×Obj)}{σ:St}{H:Hp}{s:Shared}{k:Kd}{a:Addr}{xs:List V}(I:Inv X pins σ H s)(h:Sq k X.K H a xs):∃its:List Value,Vals xs its/\SqAt k s.heap a its.toArray/\xs.length<=sizeLine:=by
 cases k with
 | l=>obtain⟨its,r,p,z⟩:=I.list h;exact ⟨its,r,p.isList,z⟩
 | t=>obtain⟨its,r,p,z⟩:=I.tuple h;exact ⟨its,r,p,z⟩
theorem Inv.sq_inj{X:Cx}{pins:List (Addr×Obj)}{σ:St}{H:Hp}{s:Shared}{k:Kd}{a:Addr}{xs ys:List V}(I:Inv X pins σ H s)(h:Sq k X.K H a xs)(h':Sq k X.K H a ys):xs=ys:=by
 cases k with
 | l=>exact I.list_inj h h'
 | t=>exact I.tuple_inj h h'
noncomputable def Itz2(K:i0)(k1:Kd)(k2:Kd)(l1 l2:Addr):It :=
 ⟨λi H=>∃ys1 x1 ys2 x2,Sq k1 K H l1 ys1/\Sq k2 K H l2 ys2/\ys1[i]?=some x1/\ys2[i]?=some x2,
  λi H x H'=>∃T x1 x2,H T=none/\x=.ref T/\H'=upd H T (.tup [x1,x2])/\(∀ys,Sq k1 K H l1 ys->ys[i]?=some x1)/\(∀ys,Sq k2 K H l2 ys->ys[i]?=some x2),
  λi H=>∃ys1 ys2,Sq k1 K H l1 ys1/\Sq k2 K H l2 ys2/\(ys1.length<=i\/ys2.length<=i)⟩
theorem turn_zip2{P:Program}{w:World}{K:i0}{es:List Expr}{kk:Nat}{pos:Pos}(k1:Kd)(k2:Kd)(z TI TO i1 i2 l1 l2:Addr)(D:ZAp2 z TI TO i1 i2 l1 l2):Turn P w K (.Tuple es kk pos) (Itz2 K k1 k2 l1 l2) [z,TI,TO,i1,i2] z
  (λi h=>IsZip h z TI TO .none/\IsTup2 h TI (.ref i1) (.ref i2)/\(∃a1 a2,IsTup2 h TO a1 a2)/\ItAt k1 h i1 l1 i/\ItAt k2 h i2 l2 i) where
 mem:=by simp
 obj:=λi h st b hb=>by
  obtain⟨hz,hTI,⟨a1,a2,hTO⟩,t1,t2⟩:=st
  have hb:b=z\/b=TI\/b=TO\/b=i1\/b=i2:=by simpa using hb
  rcases hb with rfl|rfl|rfl|rfl|rfl
  ·exact ⟨_,hz,λv e=>by cases e⟩
  ·exact ⟨_,hTI,λv e=>by cases e⟩
  ·exact ⟨_,hTO,λv e=>by cases e⟩
  ·exact t1.obj
  ·exact t2.obj
 keep:=λi h h' st k=>by
  obtain⟨hz,hTI,⟨a1,a2,hTO⟩,t1,t2⟩:=st
  exact ⟨k _ (by simp) _ hz,k _ (by simp) _ hTI,⟨a1,a2,k _ (by simp) _ hTO⟩,t1.at λo e=>k _ (by simp) _ e,t2.at λo e=>k _ (by simp) _ e⟩
 item:=by
  intro X hP hw hK hc i pins s σ H E I hf st hg
  subst hP hw hK
  obtain⟨hz,hTI,⟨a1,a2,hTO⟩,t1,t2⟩:=st
  obtain⟨ys1,x1,ys2,x2,q1,q2,e1,e2⟩:=hg
  obtain⟨its1,rv1,p1,z1⟩:=I.sq q1
  obtain⟨u1,hu1,ru1⟩:=rv1.get e1
  obtain⟨its2,rv2,p2,z2⟩:=I.sq q2
  obtain⟨u2,hu2,ru2⟩:=rv2.get e2
  refine next_zip_item2 D hz hTI hTO t1 t2 p1 p2 (show its1.toArray[i]?=some u1 by simpa using hu1) (show its2.toArray[i]?=some u2 by simpa using hu2) λh' b1 b2 c1 c2 b5 b6 b7=>?_
  have hTn:s.heap.objs.size≠z:=D3 (v0 hz)
  refine ⟨_,rfl,wpAny_letOwnedTupleGo_zip (s:={ s with heap:=h' }) b1 λh2 hz2 hs2=>?_⟩
  have kp:∀b o,b∉[z,TI,TO,i1,i2]->s.heap.get? b=some o->h2.get? b=some o:=λb o hb e=>by
   have hb:b≠z/\b≠TI/\b≠TO/\b≠i1/\b≠i2:=by simpa using hb
   obtain⟨g1,g2,g3,f1,f2⟩:=hb
   exact hs2.extBut _ _ g1 (b7 b o g1 g3 f1 f2 e)
  have hTI2:IsTup2 h2 TI (.ref i1) (.ref i2):=hs2.extBut _ _ D.TIz (b7 TI _ D.TIz (G2 D.TOTI) (G2 D.i1TI) (G2 D.i2TI) hTI)
  have hT2:IsTup2 h2 s.heap.objs.size u1 u2:=hs2.extBut _ _ hTn b5
  have hfr:H s.heap.objs.size=none:=I.hok.fresh (A0 _)
  have I2:Inv X pins σ (upd H s.heap.objs.size (.tup [x1,x2])) { s with heap:=h2 }:=by
   have nfp:∀b u,H b=some u->b∉[z,TI,TO,i1,i2]:=λb u e hb=>by have:=(hf b hb).1;rw[e]at this;cases this
   refine I.step (g':=s.gens) (d':=s.drawn) (ch:=[z,TI,TO,i1,i2]) (λb hb=>?_) (λb o _ _ hc' e _=>kp b o hc' e) (λb o _ _ hc' e _=>⟨o.slots,kp b o hc' e⟩) (λb o _ e n=>?_)
    (λb o hc' e=>⟨o,kp b o hc' e⟩) (λb xs e=>?_) (λb o xs e=>?_) (λb ps e=>⟨#[],?_⟩) (λm hm=>?_) (λb o e=>?_) I.bare
   ·obtain⟨f0,f1,f2,f3,f4,f5⟩:=hf b hb
    exact ⟨f3,f1,f4,f5⟩
   ·rw[upd_ne (V0 (v0 e))];exact n
   ·rw[upd_ne (ne_of_none e hfr)];exact e
   ·rw[upd_ne (ne_of_none e hfr)];exact e
   ·rw[upd_ne (ne_of_none e hfr),e];simp
   ·obtain⟨o,es',ep,ho,r⟩:=hm
    exact ⟨o,es',ep,kp _ o (λhb=>(hf _ hb).2.1 rfl) ho,r⟩
   ·by_cases hb:b=s.heap.objs.size
    ·subst hb
     rw[upd_same]at e
     cases e
     exact ⟨by show 2<=sizeLine;decide,[u1,u2],.cons ru1 (.cons ru2 .nil),_,hT2,rfl,_,rfl,rfl⟩
    ·rw[upd_ne hb]at e
     refine (I.hok b o e).stay (λc v hc' q=>kp c v ?_ q) (λc q=>by rw[upd_ne (ne_of_none q hfr)];exact q) λc xs q=>by rw[upd_ne (ne_of_none q hfr)];exact q
     rcases hc' with rfl|hc'
     ·exact nfp _ _ e
     ·exact nfp _ _ hc'
  refine ⟨.ref s.heap.objs.size,_,I2,rfl,⟨_,x1,x2,hfr,rfl,rfl,(λys hy=>by rw[I.sq_inj hy q1];exact e1),(λys hy=>by rw[I.sq_inj hy q2];exact e2)⟩,⟨hz2,hTI2,⟨u1,u2,hs2.extBut _ _ D.TOz b2⟩,c1.at λo e=>hs2.extBut _ _ D.i1z e,c2.at λo e=>hs2.extBut _ _ D.i2z e⟩,λb hb=>?_⟩
  rw[upd_ne ?_]
  ·exact (hf b hb).1
  ·intro e
   subst e
   have hb:s.heap.objs.size=z\/s.heap.objs.size=TI\/s.heap.objs.size=TO\/s.heap.objs.size=i1\/s.heap.objs.size=i2:=by simpa using hb
   rcases hb with e|e|e|e|e
   ·exact hTn e
   ·exact D3 (v0 hTI) e
   ·exact D3 (v0 hTO) e
   ·obtain⟨o,eo,_⟩:=t1.obj
    exact D3 (v0 eo) e
   ·obtain⟨o,eo,_⟩:=t2.obj
    exact D3 (v0 eo) e
 done:=by
  intro X hP hw hK hc i pins s σ H E I hf st hg
  subst hP hw hK
  obtain⟨hz,hTI,⟨a1,a2,hTO⟩,t1,t2⟩:=st
  obtain⟨ys1,ys2,q1,q2,hend⟩:=hg
  obtain⟨its1,rv1,p1,z1⟩:=I.sq q1
  have len1:=rv1.length
  obtain⟨its2,rv2,p2,z2⟩:=I.sq q2
  have len2:=rv2.length
  refine next_zip_end2 (I.ok.hd hc) D hz hTI hTO t1 t2 p1 p2 ?_ λh' kp=>⟨rfl,?_⟩
  ·rcases hend with h|h
   ·exact .inl (by simp;omega)
   ·exact .inr (by simp;omega)
  ·have nfp:∀b u,H b=some u->b∉[z,TI,TO,i1,i2]:=λb u e hb=>by have:=(hf b hb).1;rw[e]at this;cases this
   have kp':∀b o,b∉[z,TI,TO,i1,i2]->s.heap.get? b=some o->h'.get? b=some o:=λb o hb e=>by
    have hb:b≠z/\b≠TI/\b≠TO/\b≠i1/\b≠i2:=by simpa using hb
    obtain⟨g1,g2,g3,f1,f2⟩:=hb
    exact kp b o g1 g3 f1 f2 e
   refine I.step (g':=s.gens) (d':=s.drawn) (ch:=[z,TI,TO,i1,i2]) (λb hb=>?_) (λb o _ _ hc' e _=>kp' b o hc' e) (λb o _ _ hc' e _=>⟨o.slots,kp' b o hc' e⟩) (λb o _ e n=>n)
    (λb o hc' e=>⟨o,kp' b o hc' e⟩) (λb xs e=>e) (λb o xs e=>e) (λb ps e=>⟨#[],by rw[e];simp⟩) (λm hm=>?_) (λb o e=>?_) I.bare
   ·obtain⟨f0,f1,f2,f3,f4,f5⟩:=hf b hb
    exact ⟨f3,f1,f4,f5⟩
   ·obtain⟨o,es',ep,ho,r⟩:=hm
    exact ⟨o,es',ep,kp' _ o (λhb=>(hf _ hb).2.1 rfl) ho,r⟩
   ·refine (I.hok b o e).stay (λc v hc' q=>kp' c v ?_ q) (λ_ q=>q) λ_ _ q=>q
    rcases hc' with rfl|hc'
    ·exact nfp _ _ e
    ·exact nfp _ _ hc'
 self:=λ_ _ _ _ _ st h=>wpAny_pyIter_zip st.1 h
noncomputable def iZip2(K:i0)(ta:TA):TI:=λσ H R=>ta σ H λvs H1=>∃(k1:Kd) (l1:Addr) (ys1:List V) (k2:Kd) (l2:Addr) (ys2:List V),vs=[.ref l1,.ref l2]/\Sq k1 K H1 l1 ys1/\Sq k2 K H1 l2 ys2/\R (Itz2 K k1 k2 l1 l2) H1
theorem pi_zip2{X:Cx}{es:List Expr}{kk:Nat}{tpos:Pos}{a b:Expr}{ta:TA}{p pos:Pos}(hg:Gl X "zip")(hm:X.mg "zip"=none)(ha:PA X [a,b] ta)(hs:starEach [a,b] X.env=(false,eval a X.env) :: starEach [b] X.env:=by rfl)(hpl:(backTo pos (starEach [b] X.env)).any (·.1)=false:=by rfl) :
  PI X (.Tuple es kk tpos) (.Call (.Name "zip" p) [a,b] [] pos) (iZip2 X.K ta):=by
 intro pins s σ H R I h
 refine Call_ (ld_blt I hg hm boot_zip (m3 (thn (ha pos pins s σ H _ I h) λus s1 ⟨vs,H1,I1,r1,q1⟩=>?_) hs hpl))
 obtain⟨k1,l1,ys1,k2,l2,ys2,e,q1,q2,q⟩:=q1
 subst e
 obtain rfl:us=[.ref l1,.ref l2]:=by
  cases r1 with|cons r rr=>cases r;cases rr with|cons r rr=>cases r;cases rr;rfl
 obtain⟨its1,rv1,p1,z1⟩:=I1.sq q1
 obtain⟨its2,rv2,p2,z2⟩:=I1.sq q2
 have lt:∀{k:Kd}{l:Addr}{xs:Array Value},SqAt k s1.heap l xs->l < s1.heap.objs.size:=λ{k l xs} p=>by
  cases k with
  | l=>obtain⟨o,e,_⟩:=p;exact v0 e
  | t=>obtain⟨o,e,_⟩:=p;exact v0 e
 refine callType_new F.called_zip (by decide) (F.typeCall_zip_2 _ _) (F.newCall_zip_2 _ _) (λobj=>F.args_object_init_3 obj _ _) F.entry_zip_new (zip_new2 k1 k2 l1 l2 its1.toArray its2.toArray) ⟨p1,p2,?_⟩
 have zI:(zh2I s1.heap k1 k2 l1 l2).objs.size=s1.heap.objs.size+2:=by simp[B2]
 have zT:(zh2T s1.heap k1 k2 l1 l2).objs.size=s1.heap.objs.size+3:=by simp[B2]
 have zO:(zh2O s1.heap k1 k2 l1 l2).objs.size=s1.heap.objs.size+4:=by simp[B2]
 have gZ:(zh2Z s1.heap k1 k2 l1 l2).get? (zh2O s1.heap k1 k2 l1 l2).objs.size=some _:=G0 _ rfl
 have gO:(zh2Z s1.heap k1 k2 l1 l2).get? (zh2T s1.heap k1 k2 l1 l2).objs.size=some _:=g0 _ (G0 _ rfl)
 have gT:(zh2Z s1.heap k1 k2 l1 l2).get? (zh2I s1.heap k1 k2 l1 l2).objs.size=some _:=g0 _ (g0 _ (G0 _ rfl))
 have g1:(zh2Z s1.heap k1 k2 l1 l2).get? s1.heap.objs.size=some (itObj k1 l1):=g0 _ (g0 _ (g0 _ (g0 _ (G0 _ (by cases k1<;>rfl)))))
 have g2:(zh2Z s1.heap k1 k2 l1 l2).get? (s1.heap.push (itObj k1 l1)).objs.size=some (itObj k2 l2):=g0 _ (g0 _ (g0 _ (G0 _ (by cases k2<;>rfl))))
 have zz2:(s1.heap.push (itObj k1 l1)).objs.size=s1.heap.objs.size+1:=by simp[B2]
 rw[zO,zT,zI]at gZ
 rw[zI,zz2]at gT
 rw[zT]at gO
 rw[zz2]at g2
 show _/\_
 rw[zO]
 have kp:∀b o,s1.heap.get? b=some o->(zh2Z s1.heap k1 k2 l1 l2).get? b=some o:=λb o e=>g0 _ (g0 _ (g0 _ (g0 _ (g0 _ (e)))))
 refine ⟨⟨_,gZ,rfl⟩,wpAny_pyIter_zip (s:={ s1 with heap:=zh2Z s1.heap k1 k2 l1 l2 }) gZ ?_⟩
 refine ⟨_,[s1.heap.objs.size+4,s1.heap.objs.size+2,s1.heap.objs.size+3,s1.heap.objs.size,s1.heap.objs.size+1],_,_,H1,rfl,I1.kept (t':=s1.toks) kp,turn_zip2 k1 k2 _ _ _ _ _ l1 l2 (zap2 _ l1 l2 (lt p1) (lt p2)),⟨gZ,gT,⟨_,_,gO⟩,ItAt.new k1 g1,ItAt.new k2 g2⟩,λb hb=>?_,q⟩
 have hb:s1.heap.objs.size<=b:=by
  have hb:b=s1.heap.objs.size+4\/b=s1.heap.objs.size+2\/b=s1.heap.objs.size+3\/b=s1.heap.objs.size\/b=s1.heap.objs.size+1:=by simpa using hb
  rcases hb with rfl|rfl|rfl|rfl|rfl
  all_goals first|exact E4 _ _|exact A0 _
 exact I1.fpOk hb (I1.hok.fresh hb)
mutual
inductive Is (K:i0) (H:Hp):V->PyData->Prop
 | non:Is K H .non .none
 | bl (b):Is K H (.bl b) (.bool b)
 | int (i):Is K H (.int i) (.int i)
 | str (x):Is K H (.str x) (.str x)
 | lst {a xs ds}:SqL K H a xs->IsAll K H xs ds->Is K H (.ref a) (.list ds)
 | tup {a xs ds}:SqT K H a xs->IsAll K H xs ds->Is K H (.ref a) (.tuple ds)
inductive IsAll (K:i0) (H:Hp):List V->List PyData->Prop
 | nil:IsAll K H [] []
 | cons {x xs d ds}:Is K H x d->IsAll K H xs ds->IsAll K H (x :: xs) (d :: ds)
end
section
variable {X:Cx}{pins:List (Addr×Obj)}{σ:St}{H:Hp}{s:Shared}
mutual
theorem Is.reads(I:Inv X pins σ H s):∀{x:V}{d:PyData}{u:Value},Is X.K H x d->RelV x u->∃as,Reads s.heap u d as
 | _,_,_,.non,r=>by cases r;exact ⟨_,.none⟩
 | _,_,_,.bl b,r=>by cases r;exact ⟨_,.bool b⟩
 | _,_,_,.int i,r=>by obtain⟨t,rfl⟩:=r;exact ⟨_,.int i t⟩
 | _,_,_,.str x,r=>by obtain⟨t,rfl⟩:=r;exact ⟨_,.str x t⟩
 | _,_,_,.lst hq ha,r=>by
  cases r
  obtain⟨its,rv,⟨o,n,e,c,d,q⟩,z⟩:=I.list hq
  obtain⟨as,hr⟩:=IsAll.reads I ha rv
  exact ⟨_,.list e c q (by simpa using hr)⟩
 | _,_,_,.tup hq ha,r=>by
  cases r
  obtain⟨its,rv,⟨o,e,c,n,q⟩,z⟩:=I.tuple hq
  obtain⟨as,hr⟩:=IsAll.reads I ha rv
  exact ⟨_,.tuple e c q (by simpa using hr)⟩
theorem IsAll.reads(I:Inv X pins σ H s):∀{xs:List V}{ds:List PyData}{us:List Value},IsAll X.K H xs ds->Vals xs us->∃as,ReadsAll s.heap us ds as
 | _,_,_,.nil,.nil=>⟨_,.nil⟩
 | _,_,_,.cons h t,.cons r rr=>by
  obtain⟨as,a⟩:=Is.reads I h r
  obtain⟨bs,b⟩:=IsAll.reads I t rr
  exact ⟨_,.cons a b⟩
end
end
open PySem.SeqAt in
noncomputable def rEqD(K:i0)(neg:Bool):R2:=λx y H Q=>∃d e:PyData,Is K H x d/\Is K H y e/\shaped d=true/\shaped e=true/\noMix d e=true/\Q (.bl (if neg then !same d e else same d e)) H
theorem op_eqD{X:Cx}(hu:X.A.units+64 < cLine):OpR X (compareOp .Eq) (rEqD X.K false):=by
 intro pins s σ H x y v u Q I r1 r2 h
 obtain⟨d,e,i1,i2,s1,s2,nm,q⟩:=h
 obtain⟨as,a⟩:=i1.reads I r1
 obtain⟨bs,b⟩:=i2.reads I r2
 exact eq_dataH_same a b s1 s2 hu nm ⟨.bl _,H,I,rfl,q⟩
theorem op_neD{X:Cx}(hu:X.A.units+64 < cLine):OpR X (compareOp .NotEq) (rEqD X.K true):=by
 intro pins s σ H x y v u Q I r1 r2 h
 obtain⟨d,e,i1,i2,s1,s2,nm,q⟩:=h
 obtain⟨as,a⟩:=i1.reads I r1
 obtain⟨bs,b⟩:=i2.reads I r2
 exact ne_dataH_same a b s1 s2 hu nm ⟨.bl _,H,I,rfl,q⟩
structure Cal(P:Program)(w:World)(K:i0)(mg:Str->Option Value)(base:Heap)(k:Nat)(x:Str)(ps:List Str)(sp:Sp):Prop where
 ex:∃(f:Addr) (fd:FuncData),FnOk P w K mg base CX0 k f fd ps sp/\mg x=some (.ref f)/\O0 K (.ref f)=true/\Binds K fd ps []
theorem pe_fn{X:Cx}{k:Nat}{x:Str}{ps:List Str}{sp:Sp}{p pos:Pos}{e:Expr}{es:List Expr}{t:TA}(C:Cal X.prog X.w X.K X.mg X.base k x ps sp)(hr:Room k X.A)(ha:PA X (e :: es) t)(hg:Gl X x:=by rfl)
  (hdb:(x==("__debug__":Str))=false:=by decide) (he:starEach (e :: es) X.env=(false,eval e X.env) :: starEach es X.env:=by rfl) (hpl:(backTo pos (starEach es X.env)).any (·.1)=false:=by rfl) :
  PE X (.Call (.Name x p) (e :: es) [] pos) (tCall sp [] E0 t):=by
 obtain⟨f,fd,F,hm,hk,hb⟩:=C.ex
 exact pe_call F hr hg hm hk hb .nil pass0 ha hdb he hpl
noncomputable def compOk(ds:Scope)(N:List Str)(fr:List Nat)(sc:Scope):Bool :=
 decide (sc.kind=.function)&&(sc.names.all λy=>!decide (y.2=.cell)||decide (sc.names.lookup y.1=some .cell))&&(sc.names.all λy=>!decide (y.2=.local)||decide (sc.names.lookup y.1=some .local)) &&
 (sc.names.all λy=>!decide (y.2=.free)||(decide (ds.names.lookup y.1=some .cell)||decide (ds.names.lookup y.1=some .free))) &&
 (fr.all λi=>match N[i]? with|some x=>decide (sc.names.lookup x=some .free)|none=>false)
theorem compSc_of{X:Cx}{own:List Str}{fr:List Nat}{sc:Scope}(h:compOk X.env.scope X.N fr sc=true):CompSc X own fr sc:=by
 unfold compOk at h
 simp only[O2,decide_eq_true_eq,q5,Bool.or_eq_true,Bool.not_eq_true',decide_eq_false_iff_not]at h
 obtain⟨⟨⟨⟨h1,h2⟩,h3⟩,h4⟩,h5⟩:=h
 refine ⟨h1,λy hy e=>?_,λy hy e=>?_,λy hy e=>?_,λi hi=>?_⟩
 ·rcases h2 y hy with z|z
  ·exact absurd e z
  ·exact z
 ·rcases h3 y hy with z|z
  ·exact absurd e z
  ·exact z
 ·rcases h4 y hy with z|z
  ·exact absurd e z
  ·exact z
 ·have:=h5 i hi
  cases q:X.N[i]? with
  | none=>rw[q]at this;cases this
  | some x=>rw[q]at this;exact ⟨x,rfl,of_decide_eq_true this⟩
noncomputable def CompW(J:It)(own:List Str)(fr:List Nat)(g:TG)(tc:TT)(te:TE)(σ:St)(H:Hp)(Q:VK):Prop :=
 ∃W:Nat->Nat->List V->St->Hp->Prop,(∃m,W 0 m [] (st0 own σ fr) H)/\∀i m ys τ H,W i m ys τ H ->
   (J.stop i H/\∀D,H D=none->Q (.ref D) (upd H D (.lst ys))) \/
   (J.go i H/\ys.length < sizeLine/\∃N:List V->St->Hp->Prop,(∀ys' τ' H',N ys' τ' H'->∃m',m' < m/\W (i+1) m' ys' τ' H')/\∀x H',J.yld i H x H'->g x τ H' λτ2 H2 =>
     tc τ2 H2 λb H3=>if b=true then te τ2 H3 λy H4=>N (ys++[y]) τ2 H4 else N ys τ2 H3)
noncomputable def tCompW(wi:TI)(own:List Str)(fr:List Nat)(g:TG)(tc:TT)(te:TE):TE:=λσ H Q=>wi σ H λJ H1=>CompW J own fr g tc te σ H1 Q
theorem pe_compW{X:Cx}{tg iter elt:Expr}{ifs:List Expr}{sc:Scope}{pos:Pos}{own:List Str}{fr:List Nat}{wi:TI}{g:TG}{tc:TT}{te:TE}(hc:X.calm=true)(S:CompSc X own fr sc)(hi:PI X tg iter wi)
  (hg:∀C s H ex,PG (cxComp X own fr sc C s H ex) tg g) (hif:∀C s H ex,PIf (cxComp X own fr sc C s H ex) ifs tc) (he:∀C s H ex,PE (cxComp X own fr sc C s H ex) elt te)
  (hs:∀x,foldedSetIterable iter X.env x=pure x:=by intro _;rfl):PE X (.ListComp elt [⟨tg,iter,ifs,0⟩] sc pos) (tCompW wi own fr g tc te):=pe_comp hc S hi hg hif he hs
theorem ps_setCompW{X:Cx}{tg iter elt:Expr}{ifs:List Expr}{sc:Scope}{pos spos py:Pos}{i:Nat}{y:Str}{own:List Str}{fr:List Nat}{wi:TI}{g:TG}{tc:TT}{te:TE}(hN:X.N.Nodup)(hy:X.N[i]?=some y)(hl:X.env.scope.names.lookup y=some .local)(hc:X.calm=true)(S:CompSc X own fr sc)(hi:PI X tg iter wi)
  (hg:∀C s H ex,PG (cxComp X own fr sc C s H ex) tg g) (hif:∀C s H ex,PIf (cxComp X own fr sc C s H ex) ifs tc) (he:∀C s H ex,PE (cxComp X own fr sc C s H ex) elt te)
  (hsw:swapsWith (.ListComp elt [⟨tg,iter,ifs,0⟩] sc pos) (some (.Name y py)) spos.line X.env=pure true:=by rfl)
  (hs:∀x,foldedSetIterable iter X.env x=pure x:=by intro _;rfl):PS X (.Assign [.Name y py] (.ListComp elt [⟨tg,iter,ifs,0⟩] sc pos) spos) (tAsg (tCompW wi own fr g tc te) (gName i)):=ps_setComp hN hy hl hc S hi hg hif he hsw hs
section
variable {X:Cx}{K:i0}
theorem ix_listK(h:X.K=K):IxR X (rIxL K):=by subst h;exact ix_list
theorem ix_tupK(h:X.K=K):IxR X (rIxT K):=by subst h;exact ix_tup
noncomputable def rLen(K:i0):List V->Hp->VK->Prop:=λxs H Q=>∃(p:Addr) (ys:List V),xs=[.ref p]/\(SqL K H p ys\/SqT K H p ys)/\Q (.int ys.length) H
theorem call_lenK(h:X.K=K):CallR X (.builtin "len") (rLen K):=by subst h;exact call_len_seq
noncomputable def rListOf(K:i0):List V->Hp->VK->Prop:=λxs H Q=>∃(p:Addr) (ys:List V),xs=[.ref p]/\(SqL K H p ys\/SqT K H p ys)/\∀l,H l=none->Q (.ref l) (upd H l (.lst ys))
theorem call_listK(h:X.K=K):CallR X (.type "list") (rListOf K):=by subst h;exact call_list_of
noncomputable def rTupleOf(K:i0):List V->Hp->VK->Prop:=λxs H Q=>∃(p:Addr) (ys:List V),xs=[.ref p]/\((SqL K H p ys/\∀l,H l=none->Q (.ref l) (upd H l (.tup ys)))\/(SqT K H p ys/\Q (.ref p) H))
theorem call_tupleK(h:X.K=K):CallR X (.type "tuple") (rTupleOf K):=by subst h;exact call_tuple_of
theorem call_isiK(h:X.K=K):CallR X (.builtin "isinstance") (rIsi K):=by subst h;exact call_isi
theorem call_allK(h:X.K=K)(hc:X.calm=true):CallR X (.builtin "all") (rAll K):=by subst h;exact call_all hc
theorem op_eqDK(h:X.K=K)(hu:X.A.units+64 < cLine):OpR X (compareOp .Eq) (rEqD K false):=by subst h;exact op_eqD hu
theorem op_neDK(h:X.K=K)(hu:X.A.units+64 < cLine):OpR X (compareOp .NotEq) (rEqD K true):=by subst h;exact op_neD hu
theorem pi_zip2K{es:List Expr}{kk:Nat}{tpos:Pos}{a b:Expr}{ta:TA}{p pos:Pos}(h:X.K=K)(hg:Gl X "zip")(hm:X.mg "zip"=none)(ha:PA X [a,b] ta)(hs:starEach [a,b] X.env=(false,eval a X.env) :: starEach [b] X.env:=by rfl)(hpl:(backTo pos (starEach [b] X.env)).any (·.1)=false:=by rfl) :
  PI X (.Tuple es kk tpos) (.Call (.Name "zip" p) [a,b] [] pos) (iZip2 K ta):=by subst h;exact pi_zip2 hg hm ha hs hpl
theorem pg_tupK{es:List Expr}{k:Nat}{t:TGs}{n:Nat}{pos:Pos}(h:X.K=K)(hc:X.calm=true)(hh:PGs X es t)(hn:(assignEach es X.env).length=n:=by rfl)(hst:(assignEach es X.env).findIdx? (·.1)=none:=by rfl):PG X (.Tuple es k pos) (gTup K n t):=by subst h;exact pg_tup hc hh hn hst
end
theorem cat_tup0{prog:Program}{w:World}{A:Around}{E:Value->Shared->Prop}{s:Shared}{t b:Addr}{ws:List Value}{Q:Value->Shared->Prop}(ht:IsTup s.heap t ([]:List Value).toArray)(hb:IsTup s.heap b ws.toArray)(h:Q (.ref b) s):wpAny (model prog w) A (binaryOp .Add (.ref t) (.ref b)) Q E s:=by
 obtain⟨⟨cls,dd,data,sl⟩,ho,hc,n,hd⟩:=id ht
 obtain⟨⟨cls2,dd2,data2,sl2⟩,ho2,hc2,n2,hd2⟩:=id hb
 simp only at hc hd hc2 hd2
 subst hc hd hc2 hd2
 exact concat_meets ⟨_,ho,rfl⟩ ⟨_,ho2,rfl⟩ noFill_tuple_add seq_tuple_add PySem.F.slot_tuple_add PySem.F.entry_tuple_add (PySem.F.args_tuple_add_2 _ _) (tuple_addW0 t b _ ws.toArray n n2 dd dd2 sl sl2 rfl) ⟨ho,ho2,h⟩
open PySem PySem.Spec
noncomputable abbrev excO(a C:Addr):HO:=.ext λh=>∃o vs,h.get? a=some o/\o.cls=.ref C/\o.data=.fields vs
end L2
namespace L3
open PySem PySem.Spec L2
noncomputable abbrev D:=PyData
noncomputable abbrev Fg:=i0
noncomputable def Sub(F H:Hp):Prop:=∀a o,F a=some o->H a=some o
theorem Sub.refl(H:Hp):Sub H H:=λ_ _ h=>h
theorem Sub.trans{A B C:Hp}(h:Sub A B)(k:Sub B C):Sub A C:=λa o e=>k a o (h a o e)
theorem Sub.new{F:Hp}{a:Addr}{o:HO}(h:F a=none):Sub F (upd F a o):=λb u e=>by rw[upd_ne (ne_of_none e h)];exact e
theorem Sub.rd{F H:Hp}{a:Addr}{u:HO}(s:Sub F H):Rd F a u->Rd H a u
 | .inl h=>.inl (s _ _ h)
 | .inr ⟨o,h⟩=>.inr ⟨o,s _ _ h⟩
theorem Sub.sql{K:Fg}{F H:Hp}{a:Addr}{xs:List V}(s:Sub F H):SqL K F a xs->SqL K H a xs
 | .inl h=>.inl (s.rd h)
 | .inr h=>.inr h
noncomputable def keyD:Key->D
 | .inl i=>.int i
 | .inr x=>.str x
noncomputable abbrev scrD(ns:List Int):D:=.dict [(.none,.list (ns.map j0))]
noncomputable abbrev excD(C:Addr):D:=.dict [(.bool true,.int (C:Nat))]
mutual
inductive Da (K:Fg) (F:Hp):V->D->Prop
 | non:Da K F .non .none
 | bl (b):Da K F (.bl b) (.bool b)
 | int (i):Da K F (.int i) (.int i)
 | str (x):Da K F (.str x) (.str x)
 | lst {a xs ds}:F a=some (.lst xs)->DaAll K F xs ds->Da K F (.ref a) (.list ds)
 | tup {a xs ds}:F a=some (.tup xs)->DaAll K F xs ds->Da K F (.ref a) (.tuple ds)
 | dk {a kvs es}:Rd F a (.dK kvs)->DaKV K F kvs es->Da K F (.ref a) (.dict es)
 | dt {a kvs es}:Rd F a (.dT kvs)->DaKT K F kvs es->Da K F (.ref a) (.dict es)
 | scr {a ns}:SqL K F a (ns.map V.int)->Da K F (.ref a) (scrD ns)
 | exc {a C}:F a=some (excO a C)->Da K F (.ref a) (excD C)
inductive DaAll (K:Fg) (F:Hp):List V->List D->Prop
 | nil:DaAll K F [] []
 | cons {x xs d ds}:Da K F x d->DaAll K F xs ds->DaAll K F (x :: xs) (d :: ds)
inductive DaKV (K:Fg) (F:Hp):List (Key×V)->List (D×D)->Prop
 | nil:DaKV K F [] []
 | cons {k v d kvs es}:Da K F v d->DaKV K F kvs es->DaKV K F ((k,v) :: kvs) ((keyD k,d) :: es)
inductive DaKT (K:Fg) (F:Hp):List (List Key×V)->List (D×D)->Prop
 | nil:DaKT K F [] []
 | cons {ks v d kvs es}:Da K F v d->DaKT K F kvs es->DaKT K F ((ks,v) :: kvs) ((.tuple (ks.map keyD),d) :: es)
end
section
variable {K:Fg}{F F':Hp}
mutual
theorem Da.mono(s:Sub F F'):∀{v:V}{d:D},Da K F v d->Da K F' v d
 | _,_,.non=>.non
 | _,_,.bl b=>.bl b
 | _,_,.int i=>.int i
 | _,_,.str x=>.str x
 | _,_,.lst h t=>.lst (s _ _ h) (DaAll.mono s t)
 | _,_,.tup h t=>.tup (s _ _ h) (DaAll.mono s t)
 | _,_,.dk h t=>.dk (s.rd h) (DaKV.mono s t)
 | _,_,.dt h t=>.dt (s.rd h) (DaKT.mono s t)
 | _,_,.scr h=>.scr (s.sql h)
 | _,_,.exc h=>.exc (s _ _ h)
theorem DaAll.mono(s:Sub F F'):∀{xs:List V}{ds:List D},DaAll K F xs ds->DaAll K F' xs ds
 | _,_,.nil=>.nil
 | _,_,.cons h t=>.cons (Da.mono s h) (DaAll.mono s t)
theorem DaKV.mono(s:Sub F F'):∀{xs:List (Key×V)}{ds:List (D×D)},DaKV K F xs ds->DaKV K F' xs ds
 | _,_,.nil=>.nil
 | _,_,.cons h t=>.cons (Da.mono s h) (DaKV.mono s t)
theorem DaKT.mono(s:Sub F F'):∀{xs:List (List Key×V)}{ds:List (D×D)},DaKT K F xs ds->DaKT K F' xs ds
 | _,_,.nil=>.nil
 | _,_,.cons h t=>.cons (Da.mono s h) (DaKT.mono s t)
end
theorem DaAll.length:∀{xs:List V}{ds:List D},DaAll K F xs ds->xs.length=ds.length
 | _,_,.nil=>rfl
 | _,_,.cons _ t=>by simp[DaAll.length t]
theorem DaAll.get:∀{xs:List V}{ds:List D}{i:Nat}{d:D},DaAll K F xs ds->ds[i]?=some d->∃v,xs[i]?=some v/\Da K F v d
 | _,_,_,_,.nil,e=>by simp at e
 | _,_,0,_,.cons h _,e=>by simp at e;subst e;exact ⟨_,rfl,h⟩
 | _,_,i+1,_,.cons _ t,e=>by
  obtain⟨v,a,b⟩:=DaAll.get (i:=i) t (by simpa using e)
  exact ⟨v,by simpa using a,b⟩
theorem DaAll.append:∀{xs ys:List V}{ds es:List D},DaAll K F xs ds->DaAll K F ys es->DaAll K F (xs++ys) (ds++es)
 | _,_,_,_,.nil,s=>s
 | _,_,_,_,.cons h t,s=>.cons h (DaAll.append t s)
theorem DaAll.take:∀{xs:List V}{ds:List D} (n:Nat),DaAll K F xs ds->DaAll K F (xs.take n) (ds.take n)
 | _,_,0,_=>.nil
 | _,_,_+1,.nil=>.nil
 | _,_,n+1,.cons h t=>.cons h (DaAll.take n t)
theorem DaAll.drop:∀{xs:List V}{ds:List D} (n:Nat),DaAll K F xs ds->DaAll K F (xs.drop n) (ds.drop n)
 | _,_,0,r=>r
 | _,_,_+1,.nil=>.nil
 | _,_,n+1,.cons _ t=>DaAll.drop n t
theorem DaAll.reverse{xs:List V}{ds:List D}(h:DaAll K F xs ds):DaAll K F xs.reverse ds.reverse:=by
 induction xs generalizing ds with
 | nil=>cases h;exact .nil
 | cons x xs ih =>
  cases h with
  | cons h t=>rw[Z4,Z4];exact (ih t).append (.cons h .nil)
theorem DaAll.dropLast:∀{xs:List V}{ds:List D},DaAll K F xs ds->DaAll K F xs.dropLast ds.dropLast
 | _,_,.nil=>.nil
 | _,_,.cons _ .nil=>.nil
 | _,_,.cons h (.cons h' t)=>.cons h (DaAll.dropLast (.cons h' t))
theorem DaAll.rep{xs:List V}{ds:List D}(h:DaAll K F xs ds):∀k:Nat,DaAll K F (Z0 k xs).flatten (Z0 k ds).flatten
 | 0=>.nil
 | k+1=>by rw[X3,X3,O4,O4];exact h.append (DaAll.rep h k)
theorem DaAll.ints:∀ns:List Int,DaAll K F (ns.map V.int) (ns.map j0)
 | []=>.nil
 | n :: ns=>.cons (.int n) (DaAll.ints ns)
end
inductive Sl where
 | fz (d:D)|ow (d:D)|io (d:D)
noncomputable def Sl.d:Sl->D
 | .fz d=>d
 | .ow d=>d
 | .io d=>d
noncomputable def isOw:Sl->Bool
 | .fz _=>false
 | .ow _=>true
 | .io _=>true
noncomputable abbrev Ev:=List (Option Sl)
noncomputable def Own1(K:Fg)(F:Hp):HO->D->Prop
 | .lst xs,.list ds=>DaAll K F xs ds
 | .dK kvs,.dict es=>DaKV K F kvs es
 | .dT kvs,.dict es=>DaKT K F kvs es
 | _,_=>False
section
variable {K:Fg}{F F':Hp}{o:HO}{d:D}{a:Addr}
theorem Own1.mono(s:Sub F F')(h:Own1 K F o d):Own1 K F' o d:=by
 cases o<;>cases d<;>first|exact DaAll.mono s h|exact DaKV.mono s h|exact DaKT.mono s h|exact h.elim
theorem Own1.da(h:Own1 K F o d)(e:F a=some o):Da K F (.ref a) d:=by
 cases o<;>cases d<;>first|exact .lst e h|exact .dk (.inl e) h|exact .dt (.inl e) h|exact h.elim
end
structure Gh where
 H0:Hp
 F0:Hp
 io:Nat->Option Addr
structure Rel(K:Fg)(G:Gh)(F:Hp)(σ:St)(H:Hp)(ρ:Ev):Prop where
 len:σ.length=ρ.length
 sub:Sub F H
 sub0:Sub G.F0 F
 fn:∀a o,F a=some o->G.F0 a=some o\/G.H0 a=none
 keep:∀a o,G.H0 a=some o->(∀i,G.io i≠some a)->H a=some o
 fz:∀(i:Nat) (d:D),ρ[i]?=some (some (Sl.fz d))->∃v,σ[i]?=some (some v)/\Da K F v d
 ow:∀(i:Nat) (s:Sl),ρ[i]?=some (some s)->isOw s=true->∃a o,σ[i]?=some (some (V.ref a))/\F a=none/\H a=some o/\Own1 K F o s.d
 new:∀(i:Nat) (d:D) (a:Addr),ρ[i]?=some (some (Sl.ow d))->σ[i]?=some (some (V.ref a))->G.H0 a=none
 io:∀(i:Nat) (a:Addr),G.io i=some a->∃d,ρ[i]?=some (some (Sl.io d))/\σ[i]?=some (some (V.ref a))
 ioi:∀(i:Nat) (d:D),ρ[i]?=some (some (Sl.io d))->∃a,G.io i=some a
 ap:∀(i j:Nat) (s t:Sl) (a:Addr),ρ[i]?=some (some s)->isOw s=true->ρ[j]?=some (some t)->isOw t=true->σ[i]?=some (some (V.ref a))->σ[j]?=some (some (V.ref a))->i=j
noncomputable def Res(K:Fg)(G:Gh)(F H:Hp)(σ:St)(ρ:Ev)(v:V):Sl->Prop
 | .fz d=>Da K F v d
 | .ow d=>∃a o,v=.ref a/\F a=none/\H a=some o/\Own1 K F o d/\G.H0 a=none/\∀(i:Nat) (s:Sl),ρ[i]?=some (some s)->isOw s=true->σ[i]?≠some (some (V.ref a))
 | .io _=>False
section
variable {K:Fg}{G:Gh}{F F' H:Hp}{σ:St}{ρ:Ev}{a:Addr}{o:HO}{d:D}{v:V}{s:Sl}
theorem Rel.bound(R:Rel K G F σ H ρ){i:Nat}(h:ρ[i]?=some (some s)):∃v,σ[i]?=some (some v):=by
 cases s with
 | fz d=>obtain⟨v,e,_⟩:=R.fz i d h;exact ⟨v,e⟩
 | ow d=>obtain⟨a,o,e,_⟩:=R.ow i _ h rfl;exact ⟨_,e⟩
 | io d=>obtain⟨a,o,e,_⟩:=R.ow i _ h rfl;exact ⟨_,e⟩
theorem Rel.h0(R:Rel K G F σ H ρ)(h:H a=none):G.H0 a=none:=by
 cases e:G.H0 a with
 | none=>rfl
 | some o =>
  by_cases q:∃i,G.io i=some a
  ·obtain⟨i,q⟩:=q
   obtain⟨d,h1,h2⟩:=R.io i a q
   obtain⟨a',o',h3,_,h4,_⟩:=R.ow i _ h1 rfl
   rw[h2]at h3
   cases h3
   rw[h]at h4;cases h4
  ·have:=R.keep a o e λi z=>q ⟨i,z⟩
   rw[h]at this;cases this
theorem Rel.f0(R:Rel K G F σ H ρ)(h:H a=none):F a=none:=by
 cases e:F a with
 | none=>rfl
 | some o=>rw[R.sub a o e]at h;cases h
theorem Rel.laid(R:Rel K G F σ H ρ)(h:H a=none):Rel K G F σ (upd H a o) ρ where
 len:=R.len
 sub:=λb u e=>by rw[upd_ne (ne_of_none (R.sub b u e) h)];exact R.sub b u e
 sub0:=R.sub0
 fn:=R.fn
 keep:=λb u e n=>by rw[upd_ne (ne_of_none (R.keep b u e n) h)];exact R.keep b u e n
 fz:=R.fz
 ow:=λi s e w=>by
  obtain⟨a',o',h1,h2,h3,h4⟩:=R.ow i s e w
  exact ⟨a',o',h1,h2,by rw[upd_ne (ne_of_none h3 h)];exact h3,h4⟩
 new:=R.new
 io:=R.io
 ioi:=R.ioi
 ap:=R.ap
theorem Rel.grow(R:Rel K G F σ H ρ)(h0:G.H0 a=none)(h:H a=some o)(hn:∀(i:Nat) (s:Sl),ρ[i]?=some (some s)->isOw s=true->σ[i]?≠some (some (V.ref a))):Sub F (upd F a o)/\Rel K G (upd F a o) σ H ρ:=by
 have sb:Sub F (upd F a o):=λb u e=>by
  by_cases z:b=a
  ·subst z;rw[upd_same,<- h];exact R.sub _ _ e
  ·rw[upd_ne z];exact e
 refine ⟨sb,R.len,λb u e=>?_,R.sub0.trans sb,λb u e=>?_,R.keep,λi d e=>?_,λi s e w=>?_,R.new,R.io,R.ioi,R.ap⟩
 ·by_cases z:b=a
  ·subst z;rw[upd_same]at e;rw[h];exact e
  ·rw[upd_ne z]at e;exact R.sub _ _ e
 ·by_cases z:b=a
  ·subst z;exact .inr h0
  ·rw[upd_ne z]at e;exact R.fn _ _ e
 ·obtain⟨v,h1,h2⟩:=R.fz i d e
  exact ⟨v,h1,h2.mono sb⟩
 ·obtain⟨a',o',h1,h2,h3,h4⟩:=R.ow i s e w
  have z:a'≠a:=λz=>hn i s e w (by rw[h1,z])
  exact ⟨a',o',h1,by rw[upd_ne z];exact h2,h3,h4.mono sb⟩
theorem Res.frz(R:Rel K G F σ H ρ)(r:Res K G F H σ ρ v s):∃F',Sub F F'/\Rel K G F' σ H ρ/\Da K F' v s.d:=by
 cases s with
 | fz d=>exact ⟨F,Sub.refl _,R,r⟩
 | ow d =>
  obtain⟨a,o,rfl,h1,h2,h3,h4,h5⟩:=r
  obtain⟨sb,R'⟩:=R.grow h4 h2 h5
  exact ⟨_,sb,R',(h3.mono sb).da upd_same⟩
 | io d=>exact r.elim
theorem Rel.newOw(R:Rel K G F σ H ρ)(h:H a=none)(w:Own1 K F o d):Rel K G F σ (upd H a o) ρ/\Res K G F (upd H a o) σ ρ (.ref a) (.ow d):=by
 refine ⟨R.laid h,a,o,rfl,R.f0 h,upd_same,w,R.h0 h,λi s e w z=>?_⟩
 obtain⟨a',o',h1,h2,h3,h4⟩:=R.ow i s e w
 rw[z]at h1
 cases h1
 rw[h]at h3;cases h3
theorem Rel.newTup(R:Rel K G F σ H ρ){xs:List V}{ds:List D}(h:H a=none)(w:DaAll K F xs ds) :
  Sub F (upd F a (.tup xs))/\Rel K G (upd F a (.tup xs)) σ (upd H a (.tup xs)) ρ/\Da K (upd F a (.tup xs)) (.ref a) (.tuple ds):=by
 have R1:Rel K G F σ (upd H a (.tup xs)) ρ:=R.laid h
 obtain⟨sb,R2⟩:=R1.grow (a:=a) (o:=.tup xs) (R.h0 h) upd_same λi s e w z=>by
  obtain⟨a',o',h1,h2,h3,h4⟩:=R.ow i s e w
  rw[z]at h1
  cases h1
  rw[h]at h3;cases h3
 exact ⟨sb,R2,.tup upd_same (w.mono sb)⟩
noncomputable def Sl.put:Sl->D->Sl
 | .fz _,d=>.fz d
 | .ow _,d=>.ow d
 | .io _,d=>.io d
theorem get_set{α:Type}{l:List α}{i j:Nat}{x y:α}(h:(l.set i x)[j]?=some y):(j=i/\y=x)\/(j≠i/\l[j]?=some y):=by
 by_cases z:i=j
 ·subst z
  rw[d5]at h
  simp at h
  exact .inl ⟨rfl,h.2.symm⟩
 ·rw[S0 z]at h
  exact .inr ⟨λq=>z q.symm,h⟩
theorem set_get{α:Type}{l:List α}{i:Nat}{x:α}(h:i < l.length):(l.set i x)[i]?=some x:=by simp[h]
theorem lt_of_get{α:Type}{l:List α}{i:Nat}{x:α}(h:l[i]?=some x):i < l.length:=(X0.mp h).1
theorem Rel.change(R:Rel K G F σ H ρ){i:Nat}{o':HO}{d':D}(h:ρ[i]?=some (some s))(w:isOw s=true)(ha:σ[i]?=some (some (V.ref a)))(q:Own1 K F o' d') :
  Rel K G F σ (upd H a o') (ρ.set i (some (s.put d'))):=by
 obtain⟨a0,o0,h1,h2,h3,h4⟩:=R.ow i s h w
 rw[ha]at h1;cases h1
 have sw:isOw (s.put d')=true:=by cases s<;>first|rfl|cases w
 have hl:=lt_of_get h
 refine ⟨by rw[L4];exact R.len,λb u e=>?_,R.sub0,R.fn,λb u e n=>?_,λj d e=>?_,λj t e wt=>?_,λj d b e eb=>?_,λj b e=>?_,λj d e=>?_,λj k t u b e1 w1 e2 w2 e3 e4=>?_⟩
 ·have z:b≠a:=λz=>by subst z;rw[h2]at e;cases e
  rw[upd_ne z];exact R.sub _ _ e
 ·by_cases z:b=a
  ·subst z
   cases s with
   | fz d=>cases w
   | ow d=>rw[R.new i d b h ha]at e;cases e
   | io d =>
    obtain⟨a',e'⟩:=R.ioi i d h
    obtain⟨d',_,e2⟩:=R.io i a' e'
    rw[ha]at e2;cases e2
    exact absurd e' (n i)
  ·rw[upd_ne z];exact R.keep _ _ e n
 ·rcases get_set e with⟨rfl,z⟩|⟨n,z⟩
  ·cases s<;>simp[Sl.put,isOw]at z w
  ·exact R.fz j d z
 ·rcases get_set e with⟨rfl,z⟩|⟨n,z⟩
  ·cases z
   exact ⟨a,o',ha,h2,upd_same,by cases s<;>first|exact q|cases w⟩
  ·obtain⟨b,u,g1,g2,g3,g4⟩:=R.ow j t z wt
   have nb:b≠a:=λx=>n (R.ap j i t s a z wt h w (by rw[g1,x]) ha)
   exact ⟨b,u,g1,g2,by rw[upd_ne nb];exact g3,g4⟩
 ·rcases get_set e with⟨rfl,z⟩|⟨n,z⟩
  ·cases s with
   | fz d=>cases w
   | ow d0=>exact R.new j d0 b h eb
   | io d=>cases z
  ·exact R.new j d b z eb
 ·obtain⟨d,e1,e2⟩:=R.io j b e
  by_cases z:j=i
  ·subst z
   rw[h]at e1
   cases e1
   exact ⟨d',by rw[set_get hl];rfl,e2⟩
  ·exact ⟨d,by rw[S0 (G2 z)];exact e1,e2⟩
 ·rcases get_set e with⟨rfl,z⟩|⟨n,z⟩
  ·cases s with
   | fz d=>cases w
   | ow d0=>cases z
   | io d0=>exact R.ioi j d0 h
  ·exact R.ioi j d z
 ·have f:∀(j:Nat) (t:Sl),(ρ.set i (some (s.put d')))[j]?=some (some t)->isOw t=true->∃t',ρ[j]?=some (some t')/\isOw t'=true:=λj t e wt=>by
   rcases get_set e with⟨rfl,z⟩|⟨n,z⟩
   ·exact ⟨s,h,w⟩
   ·exact ⟨t,z,wt⟩
  obtain⟨t',e1',w1'⟩:=f j t e1 w1
  obtain⟨u',e2',w2'⟩:=f k u e2 w2
  exact R.ap j k t' u' b e1' w1' e2' w2' e3 e4
theorem Rel.forget(R:Rel K G F σ H ρ){i:Nat}(h:ρ[i]?=some (some (Sl.ow d))):Rel K G F σ H (ρ.set i none):=by
 refine ⟨by rw[L4];exact R.len,R.sub,R.sub0,R.fn,R.keep,λj d e=>?_,λj t e wt=>?_,λj d b e eb=>?_,λj b e=>?_,λj d e=>?_,λj k t u b e1 w1 e2 w2 e3 e4=>?_⟩
 ·rcases get_set e with⟨rfl,z⟩|⟨n,z⟩
  ·cases z
  ·exact R.fz j d z
 ·rcases get_set e with⟨rfl,z⟩|⟨n,z⟩
  ·cases z
  ·exact R.ow j t z wt
 ·rcases get_set e with⟨rfl,z⟩|⟨n,z⟩
  ·cases z
  ·exact R.new j d b z eb
 ·obtain⟨d',e1,e2⟩:=R.io j b e
  have n:i≠j:=λz=>by subst z;rw[h]at e1;cases e1
  exact ⟨d',by rw[S0 n];exact e1,e2⟩
 ·rcases get_set e with⟨rfl,z⟩|⟨n,z⟩
  ·cases z
  ·exact R.ioi j d z
 ·rcases get_set e1 with⟨rfl,z⟩|⟨n,z⟩
  ·cases z
  ·rcases get_set e2 with⟨rfl,z'⟩|⟨n',z'⟩
   ·cases z'
   ·exact R.ap j k t u b z w1 z' w2 e3 e4
theorem Rel.freeze(R:Rel K G F σ H ρ){i:Nat}(h:ρ[i]?=some (some (Sl.ow d))):∃F' v,Sub F F'/\Rel K G F' σ H (ρ.set i (some (Sl.fz d)))/\σ[i]?=some (some v)/\Da K F' v d:=by
 obtain⟨a,o,h1,h2,h3,h4⟩:=R.ow i _ h rfl
 have hl:=lt_of_get h
 have R1:=R.forget h
 have hn:∀(j:Nat) (s:Sl),(ρ.set i none)[j]?=some (some s)->isOw s=true->σ[j]?≠some (some (V.ref a)):=λj s e w z=>by
  rcases get_set e with⟨rfl,q⟩|⟨n,q⟩
  ·cases q
  ·exact n (R.ap j i s _ a q w h rfl z h1)
 obtain⟨sb,R2⟩:=R1.grow (R.new i d a h h1) h3 hn
 have dd:Da K (upd F a o) (.ref a) d:=(h4.mono sb).da upd_same
 refine ⟨_,_,sb,?_,h1,dd⟩
 refine ⟨by rw[L4];exact R.len,R2.sub,R2.sub0,R2.fn,R2.keep,λj d' e=>?_,λj t e wt=>?_,λj d b e eb=>?_,λj b e=>?_,λj d e=>?_,λj k t u b e1 w1 e2 w2 e3 e4=>?_⟩
 ·rcases get_set e with⟨rfl,z⟩|⟨n,z⟩
  ·cases z;exact ⟨_,h1,dd⟩
  ·exact R2.fz j d' (by rw[S0 (G2 n)];exact z)
 ·rcases get_set e with⟨rfl,z⟩|⟨n,z⟩
  ·cases z;cases wt
  ·exact R2.ow j t (by rw[S0 (G2 n)];exact z) wt
 ·rcases get_set e with⟨rfl,z⟩|⟨n,z⟩
  ·cases z
  ·exact R.new j d b z eb
 ·obtain⟨d',e1,e2⟩:=R.io j b e
  have n:i≠j:=λz=>by subst z;rw[h]at e1;cases e1
  exact ⟨d',by rw[S0 n];exact e1,e2⟩
 ·rcases get_set e with⟨rfl,z⟩|⟨n,z⟩
  ·cases z
  ·exact R.ioi j d z
 ·rcases get_set e1 with⟨rfl,z⟩|⟨n,z⟩
  ·cases z;cases w1
  ·rcases get_set e2 with⟨rfl,z'⟩|⟨n',z'⟩
   ·cases z';cases w2
   ·exact R.ap j k t u b z w1 z' w2 e3 e4
theorem Rel.forgetRes(R:Rel K G F σ H ρ){i:Nat}(h:ρ[i]?=some (some (Sl.ow d))):∃v,σ[i]?=some (some v)/\Res K G F H σ (ρ.set i none) v (.ow d):=by
 obtain⟨a,o,h1,h2,h3,h4⟩:=R.ow i _ h rfl
 refine ⟨_,h1,a,o,rfl,h2,h3,h4,R.new i d a h h1,λj s e w z=>?_⟩
 rcases get_set e with⟨rfl,q⟩|⟨n,q⟩
 ·cases q
 ·exact n (R.ap j i s _ a q w h rfl z h1)
noncomputable def noIo(ρ:Ev)(i:Nat):Prop:=match ρ[i]? with
 | some (some (Sl.io _))=>False
 | some _=>True
 | none=>False
theorem Rel.asg(R:Rel K G F σ H ρ){i:Nat}(hi:noIo ρ i)(r:Res K G F H σ ρ v s):Rel K G F (σ.set i (some v)) H (ρ.set i (some s)):=by
 have hl:i < ρ.length:=by
  cases e:ρ[i]? with
  | none=>unfold noIo at hi;rw[e]at hi;exact hi.elim
  | some x=>exact lt_of_get e
 have hl':i < σ.length:=by rw[R.len];exact hl
 have ni:∀d,ρ[i]?≠some (some (Sl.io d)):=λd e=>by unfold noIo at hi;rw[e]at hi;exact hi
 refine ⟨by rw[L4,L4];exact R.len,R.sub,R.sub0,R.fn,R.keep,λj d e=>?_,λj t e wt=>?_,λj d b e eb=>?_,λj b e=>?_,λj d e=>?_,λj k t u b e1 w1 e2 w2 e3 e4=>?_⟩
 ·rcases get_set e with⟨rfl,z⟩|⟨n,z⟩
  ·cases z;exact ⟨v,set_get hl',r⟩
  ·rw[S0 (G2 n)];exact R.fz j d z
 ·rcases get_set e with⟨rfl,z⟩|⟨n,z⟩
  ·cases z
   cases s with
   | fz d=>cases wt
   | ow d =>
    obtain⟨a,o,rfl,h1,h2,h3,_⟩:=r
    exact ⟨a,o,set_get hl',h1,h2,h3⟩
   | io d=>exact r.elim
  ·rw[S0 (G2 n)];exact R.ow j t z wt
 ·rcases get_set e with⟨rfl,z⟩|⟨n,z⟩
  ·cases z
   obtain⟨a,o,rfl,h1,h2,h3,h4,_⟩:=r
   rw[set_get hl']at eb;cases eb
   exact h4
  ·rw[S0 (G2 n)]at eb;exact R.new j d b z eb
 ·obtain⟨d,e1,e2⟩:=R.io j b e
  have n:i≠j:=λz=>by subst z;exact ni d e1
  exact ⟨d,by rw[S0 n];exact e1,by rw[S0 n];exact e2⟩
 ·rcases get_set e with⟨rfl,z⟩|⟨n,z⟩
  ·cases z;exact r.elim
  ·exact R.ioi j d z
 ·have own:∀(j:Nat) (t:Sl),j≠i->ρ[j]?=some (some t)->isOw t=true->(σ.set i (some v))[j]?=some (some (V.ref b))->s.d=s.d->isOw s=true->v=.ref b->False:=λj t n e w eb _ ws ev=>by
   subst ev
   cases s with
   | fz d=>cases ws
   | io d=>exact r
   | ow d =>
    obtain⟨a,o,z,h1,h2,h3,h4,h5⟩:=r
    cases z
    rw[S0 (G2 n)]at eb
    exact h5 j t e w eb
  rcases get_set e1 with⟨rfl,z⟩|⟨n,z⟩
  ·rcases get_set e2 with⟨rfl,z'⟩|⟨n',z'⟩
   ·rfl
   ·rw[set_get hl']at e3;cases e3
    cases z
    exact (own k u n' z' w2 e4 rfl w1 rfl).elim
  ·rcases get_set e2 with⟨rfl,z'⟩|⟨n',z'⟩
   ·rw[set_get hl']at e4;cases e4
    cases z'
    exact (own j t n z w1 e3 rfl w2 rfl).elim
   ·rw[S0 (G2 n)]at e3
    rw[S0 (G2 n')]at e4
    exact R.ap j k t u b z w1 z' w2 e3 e4
end
noncomputable abbrev TD:=Ev->(Sl->Ev->Prop)->Prop
noncomputable abbrev TTD:=Ev->(Bool->Ev->Prop)->Prop
noncomputable abbrev Opd:=Sum Nat D
noncomputable abbrev AD:=Sum Nat TD
noncomputable def lift(K:Fg)(td:TD):TE:=λσ H Q=>∃(G:Gh) (F:Hp) (ρ:Ev) (Qd:Sl->Ev->Prop),Rel K G F σ H ρ/\td ρ Qd /\
 ∀v H' F' r ρ',Sub F F'->Rel K G F' σ H' ρ'->Res K G F' H' σ ρ' v r->Qd r ρ'->Q v H'
noncomputable def liftT(K:Fg)(tc:TTD):TT:=λσ H Q=>∃(G:Gh) (F:Hp) (ρ:Ev) (Qd:Bool->Ev->Prop),Rel K G F σ H ρ/\tc ρ Qd /\
 ∀b H' F' ρ',Sub F F'->Rel K G F' σ H' ρ'->Qd b ρ'->Q b H'
noncomputable def argT(K:Fg):AD->TE
 | .inl i=>tVar i
 | .inr td=>lift K td
noncomputable def tArgs:List TE->TA
 | []=>tNil
 | t :: ts=>tCons t (tArgs ts)
theorem argT_mono{K:Fg}{a:AD}{σ:St}{H:Hp}{Q Q':VK}(m:∀v H,Q v H->Q' v H)(h:argT K a σ H Q):argT K a σ H Q':=by
 cases a with
 | inl i=>obtain⟨v,e,q⟩:=h;exact ⟨v,e,m _ _ q⟩
 | inr td =>
  obtain⟨G,F,ρ,Qd,R,w,k⟩:=h
  exact ⟨G,F,ρ,Qd,R,w,λv H' F' r ρ' s R' r' q=>m _ _ (k v H' F' r ρ' s R' r' q)⟩
theorem arg1{K:Fg}{a:AD}{σ:St}{H:Hp}{P:VK}(h:tArgs ([a].map (argT K)) σ H λvs H2=>∃x,vs=[x]/\P x H2):argT K a σ H P :=
 argT_mono (λv H q=>by obtain⟨x,e,q⟩:=q;cases e;exact q) h
theorem arg2{K:Fg}{a b:AD}{σ:St}{H:Hp}{P:V->V->Hp->Prop}(h:tArgs ([a,b].map (argT K)) σ H λvs H2=>∃x y,vs=[x,y]/\P x y H2):argT K a σ H λx H1=>argT K b σ H1 λy H2=>P x y H2 :=
 argT_mono (λv H q=>argT_mono (λu H q=>by obtain⟨x,y,e,q⟩:=q;cases e;exact q) q) h
noncomputable def dVar(i:Nat):TD:=λρ Q=>match ρ[i]? with
 | some (some (.fz d))=>Q (.fz d) ρ
 | some (some (.ow d))=>Q (.fz d) (ρ.set i (some (.fz d)))
 | _=>False
noncomputable def dC(d:D):TD:=λρ Q=>Q (.fz d) ρ
section
variable {K:Fg}{σ:St}{H:Hp}{Q:VK}
theorem l_var{i:Nat}(h:lift K (dVar i) σ H Q):tVar i σ H Q:=by
 obtain⟨G,F,ρ,Qd,R,w,k⟩:=h
 unfold dVar at w
 split at w
 ·rename_i d e
  obtain⟨v,e1,h1⟩:=R.fz i d e
  exact ⟨v,e1,k v H F (.fz d) ρ (Sub.refl _) R h1 w⟩
 ·rename_i d e
  obtain⟨F',v,sb,R',e1,h1⟩:=R.freeze e
  exact ⟨v,e1,k v H F' (.fz d) _ sb R' h1 w⟩
 ·exact w.elim
theorem l_c{v:V}{d:D}(hv:∀F,Da K F v d)(h:lift K (dC d) σ H Q):tC v σ H Q:=by
 obtain⟨G,F,ρ,Qd,R,w,k⟩:=h
 exact k v H F (.fz d) ρ (Sub.refl _) R (hv F) w
end
noncomputable def OpdAt(K:Fg)(F:Hp)(σ:St)(v:V):Opd->Prop
 | .inl i=>σ[i]?=some (some v)
 | .inr d=>Da K F v d
inductive OpdsAt (K:Fg) (F:Hp) (σ:St):List V->List Opd->Prop
 | nil:OpdsAt K F σ [] []
 | cons {v x vs xs}:OpdAt K F σ v x->OpdsAt K F σ vs xs->OpdsAt K F σ (v :: vs) (x :: xs)
theorem OpdAt.mono{K:Fg}{F F':Hp}{σ:St}{v:V}{x:Opd}(s:Sub F F')(h:OpdAt K F σ v x):OpdAt K F' σ v x:=by
 cases x with
 | inl i=>exact h
 | inr d=>exact Da.mono s h
noncomputable def dArgs:List AD->Ev->(List Opd->Ev->Prop)->Prop
 | [],ρ,Q=>Q [] ρ
 | .inl i :: as,ρ,Q=>match ρ[i]? with
  | some (some _)=>dArgs as ρ λxs ρ'=>Q (.inl i :: xs) ρ'
  | _=>False
 | .inr td :: as,ρ,Q=>td ρ λr ρ1=>dArgs as ρ1 λxs ρ2=>Q (.inr r.d :: xs) ρ2
theorem args_okL{K:Fg}{G:Gh}{σ:St}:∀{as:List AD}{F H:Hp}{ρ:Ev}{Qd:List Opd->Ev->Prop}{Qv:List V->Hp->Prop},Rel K G F σ H ρ->dArgs as ρ Qd ->
  (∀vs H' F' xs ρ',Sub F F'->Rel K G F' σ H' ρ'->OpdsAt K F' σ vs xs->vs.length=as.length->Qd xs ρ'->Qv vs H')->tArgs (as.map (argT K)) σ H Qv
 | [],F,H,ρ,Qd,Qv,R,w,k=>k [] H F [] ρ (Sub.refl _) R .nil rfl w
 | .inl i :: as,F,H,ρ,Qd,Qv,R,w,k=>by
  unfold dArgs at w
  split at w
  ·rename_i s e
   obtain⟨v,ev⟩:=R.bound e
   refine ⟨v,ev,args_okL (as:=as) R w λvs H' F' xs ρ' sb R' o hl q=>?_⟩
   exact k (v :: vs) H' F' (.inl i :: xs) ρ' sb R' (.cons ev o) (by simp[hl]) q
  ·exact w.elim
 | .inr td :: as,F,H,ρ,Qd,Qv,R,w,k=>by
  refine ⟨G,F,ρ,_,R,w,λv H1 F1 r ρ1 s1 R1 r1 w1=>?_⟩
  obtain⟨F2,s2,R2,d2⟩:=r1.frz R1
  refine args_okL (as:=as) R2 w1 λvs H' F' xs ρ' sb R' o hl q=>?_
  exact k (v :: vs) H' F' (.inr r.d :: xs) ρ' (s1.trans (s2.trans sb)) R' (.cons (d2.mono sb) o) (by simp[hl]) q
theorem args_ok{K:Fg}{G:Gh}{σ:St}{as:List AD}{F H:Hp}{ρ:Ev}{Qd:List Opd->Ev->Prop}{Qv:List V->Hp->Prop}(R:Rel K G F σ H ρ)(w:dArgs as ρ Qd)
  (k:∀vs H' F' xs ρ',Sub F F'->Rel K G F' σ H' ρ'->OpdsAt K F' σ vs xs->Qd xs ρ'->Qv vs H'):tArgs (as.map (argT K)) σ H Qv:=args_okL R w λvs H' F' xs ρ' s R' o _ q=>k vs H' F' xs ρ' s R' o q
noncomputable def At(K:Fg)(F H:Hp)(v:V)(d:D):Prop:=Da K F v d\/∃a o,v=.ref a/\F a=none/\H a=some o/\Own1 K F o d
inductive AtAll (K:Fg) (F H:Hp):List V->List D->Prop
 | nil:AtAll K F H [] []
 | cons {v d vs ds}:At K F H v d->AtAll K F H vs ds->AtAll K F H (v :: vs) (d :: ds)
noncomputable def look(ρ:Ev):Opd->Option D
 | .inl i=>match ρ[i]? with
  | some (some s)=>some s.d
  | _=>none
 | .inr d=>some d
noncomputable def looksQ(ρ:Ev):List Opd->(List D->Prop)->Prop
 | [],k=>k []
 | .inr d :: xs,k=>looksQ ρ xs λds=>k (d :: ds)
 | .inl i :: xs,k=>match ρ[i]? with
  | some (some s)=>looksQ ρ xs λds=>k (s.d :: ds)
  | _=>False
section
variable {K:Fg}{G:Gh}{F H:Hp}{σ:St}{ρ:Ev}
theorem Rel.at(R:Rel K G F σ H ρ){i:Nat}{s:Sl}{v:V}(e:ρ[i]?=some (some s))(ev:σ[i]?=some (some v)):At K F H v s.d:=by
 cases s with
 | fz d =>
  obtain⟨v',e1,h1⟩:=R.fz i d e
  rw[ev]at e1;cases e1
  exact .inl h1
 | ow d =>
  obtain⟨a,o,h1,h2,h3,h4⟩:=R.ow i _ e rfl
  rw[ev]at h1;cases h1
  exact .inr ⟨a,o,rfl,h2,h3,h4⟩
 | io d =>
  obtain⟨a,o,h1,h2,h3,h4⟩:=R.ow i _ e rfl
  rw[ev]at h1;cases h1
  exact .inr ⟨a,o,rfl,h2,h3,h4⟩
theorem looks_ok(R:Rel K G F σ H ρ){xs:List Opd}{vs:List V}{k:List D->Prop}(o:OpdsAt K F σ vs xs)(h:looksQ ρ xs k):∃ds,AtAll K F H vs ds/\k ds:=by
 induction o generalizing k with
 | nil=>exact ⟨[],.nil,h⟩
 | @cons v x vs xs o t ih =>
  cases x with
  | inr d =>
   obtain⟨ds,a,q⟩:=ih (k:=λds=>k (d :: ds)) h
   exact ⟨d :: ds,.cons (.inl o) a,q⟩
  | inl i =>
   unfold looksQ at h
   split at h
   ·rename_i s e
    obtain⟨ds,a,q⟩:=ih (k:=λds=>k (s.d :: ds)) h
    exact ⟨s.d :: ds,.cons (R.at e o) a,q⟩
   ·exact h.elim
end
noncomputable def dOp(as:List AD)(f:List D->(Sl->Prop)->Prop):TD:=λρ Q=>dArgs as ρ λxs ρ1=>looksQ ρ1 xs λds=>f ds λr=>Q r ρ1
noncomputable def OpOk(K:Fg)(r:List V->Hp->VK->Prop)(f:List D->(Sl->Prop)->Prop):Prop :=
 ∀(G:Gh) (F:Hp) (σ:St) (H:Hp) (ρ:Ev) (vs:List V) (ds:List D) (Q:VK) (Qd:Sl->Prop),Rel K G F σ H ρ->AtAll K F H vs ds->f ds Qd ->
  (∀v H' F' s,Sub F F'->Rel K G F' σ H' ρ->Res K G F' H' σ ρ v s->Qd s->Q v H')->r vs H Q
theorem l_op{K:Fg}{as:List AD}{r:List V->Hp->VK->Prop}{f:List D->(Sl->Prop)->Prop}(ok:OpOk K r f){σ:St}{H:Hp}{Q:VK}(h:lift K (dOp as f) σ H Q):tArgs (as.map (argT K)) σ H λvs H1=>r vs H1 Q:=by
 obtain⟨G,F,ρ,Qd,R,w,k⟩:=h
 refine args_ok R w λvs H' F' xs ρ' sb R' o q=>?_
 obtain⟨ds,ha,q⟩:=looks_ok R' o q
 exact ok G F' σ H' ρ' vs ds Q _ R' ha q λv H2 F2 s s2 R2 r2 q2=>k v H2 F2 s ρ' (sb.trans s2) R2 r2 q2
noncomputable def o1(f:D->(Sl->Prop)->Prop):List D->(Sl->Prop)->Prop
 | [x],Q=>f x Q
 | _,_=>False
noncomputable def o2(f:D->D->(Sl->Prop)->Prop):List D->(Sl->Prop)->Prop
 | [x,y],Q=>f x y Q
 | _,_=>False
noncomputable def o3(f:D->D->D->(Sl->Prop)->Prop):List D->(Sl->Prop)->Prop
 | [x,y,z],Q=>f x y z Q
 | _,_=>False
noncomputable def dTst(td:TD):TTD:=λρ Q=>td ρ λr ρ'=>match r with
 | .fz (.bool b)=>Q b ρ'
 | _=>False
noncomputable def dNot(c:TTD):TTD:=λρ Q=>c ρ λb ρ'=>Q (!b) ρ'
noncomputable def dAnd(c e:TTD):TTD:=λρ Q=>c ρ λb ρ'=>if b=true then e ρ' Q else Q false ρ'
noncomputable def dOr(c e:TTD):TTD:=λρ Q=>c ρ λb ρ'=>if b=true then Q true ρ' else e ρ' Q
noncomputable def dYes:TTD:=λρ Q=>Q true ρ
section
variable {K:Fg}{σ:St}{H:Hp}
theorem l_tst{td:TD}{t:TE}(ht:∀{σ H Q},lift K td σ H Q->t σ H Q){Q:Bool->Hp->Prop}(h:liftT K (dTst td) σ H Q):tTest t σ H Q:=by
 obtain⟨G,F,ρ,Qd,R,w,k⟩:=h
 refine ht ⟨G,F,ρ,_,R,w,λv H' F' r ρ' sb R' r' q=>?_⟩
 split at q
 ·rename_i b
  cases r'
  exact ⟨b,rfl,k b H' F' ρ' sb R' q⟩
 ·exact q.elim
theorem l_not{c:TTD}{Q:Bool->Hp->Prop}(h:liftT K (dNot c) σ H Q):tNot (liftT K c) σ H Q:=by
 obtain⟨G,F,ρ,Qd,R,w,k⟩:=h
 exact ⟨G,F,ρ,_,R,w,λb H' F' ρ' sb R' q=>k (!b) H' F' ρ' sb R' q⟩
theorem l_and{c e:TTD}{Q:Bool->Hp->Prop}(h:liftT K (dAnd c e) σ H Q):tAnd (liftT K c) (liftT K e) σ H Q:=by
 obtain⟨G,F,ρ,Qd,R,w,k⟩:=h
 refine ⟨G,F,ρ,_,R,w,λb H' F' ρ' sb R' q=>?_⟩
 cases b with
 | true=>exact ⟨G,F',ρ',Qd,R',q,λb H2 F2 ρ2 s2 R2 q2=>k b H2 F2 ρ2 (sb.trans s2) R2 q2⟩
 | false=>exact k false H' F' ρ' sb R' q
theorem l_or{c e:TTD}{Q:Bool->Hp->Prop}(h:liftT K (dOr c e) σ H Q):tOr (liftT K c) (liftT K e) σ H Q:=by
 obtain⟨G,F,ρ,Qd,R,w,k⟩:=h
 refine ⟨G,F,ρ,_,R,w,λb H' F' ρ' sb R' q=>?_⟩
 cases b with
 | true=>exact k true H' F' ρ' sb R' q
 | false=>exact ⟨G,F',ρ',Qd,R',q,λb H2 F2 ρ2 s2 R2 q2=>k b H2 F2 ρ2 (sb.trans s2) R2 q2⟩
theorem l_yes{Q:Bool->Hp->Prop}(h:liftT K dYes σ H Q):tYes σ H Q:=by
 obtain⟨G,F,ρ,Qd,R,w,k⟩:=h
 exact k true H F ρ (Sub.refl _) R w
end
noncomputable def dAndV(a b:TD):TD:=λρ Q=>a ρ λr ρ'=>match r with
 | .fz (.bool c)=>if c=true then b ρ' Q else Q (.fz (.bool false)) ρ'
 | _=>False
noncomputable def dNotV(a:TD):TD:=λρ Q=>a ρ λr ρ'=>match r with
 | .fz (.bool c)=>Q (.fz (.bool (!c))) ρ'
 | _=>False
section
variable {K:Fg}{σ:St}{H:Hp}{Q:VK}{a b:TD}{c:TTD}
theorem l_andV(h:lift K (dAndV a b) σ H Q):tAndV (lift K a) (lift K b) σ H Q:=by
 obtain⟨G,F,ρ,Qd,R,w,k⟩:=h
 refine ⟨G,F,ρ,_,R,w,λv H' F' r ρ' sb R' r' q=>?_⟩
 split at q
 ·rename_i c
  cases r'
  refine ⟨c,rfl,?_⟩
  cases c with
  | true=>exact ⟨G,F',ρ',Qd,R',q,λv H2 F2 r ρ2 s2 R2 r2 q2=>k v H2 F2 r ρ2 (sb.trans s2) R2 r2 q2⟩
  | false=>exact k _ H' F' (.fz (.bool false)) ρ' sb R' (Da.bl false) q
 ·exact q.elim
theorem l_notV(h:lift K (dNotV a) σ H Q):tNotV (lift K a) σ H Q:=by
 obtain⟨G,F,ρ,Qd,R,w,k⟩:=h
 refine ⟨G,F,ρ,_,R,w,λv H' F' r ρ' sb R' r' q=>?_⟩
 split at q
 ·rename_i c
  cases r'
  exact ⟨c,rfl,k _ H' F' (.fz (.bool (!c))) ρ' sb R' (Da.bl (!c)) q⟩
 ·exact q.elim
end
theorem noIo_of{ρ:Ev}{i:Nat}{P:Prop}(h:match ρ[i]? with|some (some (.io _))=>False|some _=>P|none=>False):noIo ρ i/\P:=by
 unfold noIo
 cases e:ρ[i]? with
 | none=>rw[e]at h;exact h.elim
 | some x =>
  rw[e]at h
  cases x with
  | none=>exact ⟨trivial,h⟩
  | some s=>cases s with
   | fz d=>exact ⟨trivial,h⟩
   | ow d=>exact ⟨trivial,h⟩
   | io d=>exact h.elim
structure DE where
 nx:Ev->Prop
 rt:Sl->Ev->Prop
 bk:Ev->Prop
 ct:Ev->Prop
noncomputable abbrev TDS:=DE->Ev->Prop
noncomputable def liftS(K:Fg)(ts:TDS):TS:=λD σ H=>∃(G:Gh) (F:Hp) (ρ:Ev) (E:DE),Rel K G F σ H ρ/\ts E ρ /\
 (∀σ' H' F' ρ',Sub F F'->Rel K G F' σ' H' ρ'->E.nx ρ'->D.nx σ' H') /\
 (∀v σ' H' F' r ρ',Sub F F'->Rel K G F' σ' H' ρ'->Res K G F' H' σ' ρ' v r->E.rt r ρ'->D.rt v H') /\
 (∀σ' H' F' ρ',Sub F F'->Rel K G F' σ' H' ρ'->E.bk ρ'->D.bk σ' H') /\
 (∀σ' H' F' ρ',Sub F F'->Rel K G F' σ' H' ρ'->E.ct ρ'->D.ct σ' H')
noncomputable def dNext:TDS:=λE ρ=>E.nx ρ
noncomputable def dSeq(t u:TDS):TDS:=λE ρ=>t { nx:=λρ'=>u E ρ',rt:=E.rt,bk:=E.bk,ct:=E.ct } ρ
noncomputable def dRet(a:TD):TDS:=λE ρ=>a ρ E.rt
noncomputable def dDrop(a:TD):TDS:=λE ρ=>a ρ λ_ ρ'=>E.nx ρ'
noncomputable def dIfS(c:TTD)(t u:TDS):TDS:=λE ρ=>c ρ λb ρ'=>if b=true then t E ρ' else u E ρ'
noncomputable def dSet(i:Nat)(a:TD):TDS:=λE ρ=>a ρ λr ρ'=>match ρ'[i]? with
 | some (some (.io _))=>False
 | some _=>E.nx (ρ'.set i (some r))
 | none=>False
section
variable {K:Fg}{σ:St}{H:Hp}{E:Ends}{t u:TDS}{a:TD}{c:TTD}
theorem l_next(h:liftS K dNext E σ H):tNext E σ H:=by
 obtain⟨G,F,ρ,D,R,w,n,r,b,c⟩:=h
 exact n σ H F ρ (Sub.refl _) R w
theorem later{G:Gh}{F F1 H1:Hp}{ρ1:Ev}{σ1:St}{D:DE}{ts:TDS}(s:Sub F F1)(R:Rel K G F1 σ1 H1 ρ1)(w:ts D ρ1)
  (n:∀σ' H' F' ρ',Sub F F'->Rel K G F' σ' H' ρ'->D.nx ρ'->E.nx σ' H')
  (r:∀v σ' H' F' r ρ',Sub F F'->Rel K G F' σ' H' ρ'->Res K G F' H' σ' ρ' v r->D.rt r ρ'->E.rt v H')
  (b:∀σ' H' F' ρ',Sub F F'->Rel K G F' σ' H' ρ'->D.bk ρ'->E.bk σ' H')
  (c:∀σ' H' F' ρ',Sub F F'->Rel K G F' σ' H' ρ'->D.ct ρ'->E.ct σ' H'):liftS K ts E σ1 H1 :=
 ⟨G,F1,ρ1,D,R,w,λ_ _ _ _ s' R' q=>n _ _ _ _ (s.trans s') R' q,λ_ _ _ _ _ _ s' R' r' q=>r _ _ _ _ _ _ (s.trans s') R' r' q,
   λ_ _ _ _ s' R' q=>b _ _ _ _ (s.trans s') R' q,λ_ _ _ _ s' R' q=>c _ _ _ _ (s.trans s') R' q⟩
theorem l_seq(h:liftS K (dSeq t u) E σ H):tSeq (liftS K t) (liftS K u) E σ H:=by
 obtain⟨G,F,ρ,D,R,w,n,r,b,c⟩:=h
 exact ⟨G,F,ρ,_,R,w,λσ' H' F' ρ' s R' q=>later s R' q n r b c,r,b,c⟩
theorem l_ret(h:liftS K (dRet a) E σ H):tRet (lift K a) E σ H:=by
 obtain⟨G,F,ρ,D,R,w,n,r,b,c⟩:=h
 exact ⟨G,F,ρ,_,R,w,λv H' F' x ρ' s R' r' q=>r v σ H' F' x ρ' s R' r' q⟩
theorem l_drop(h:liftS K (dDrop a) E σ H):tDrop (lift K a) E σ H:=by
 obtain⟨G,F,ρ,D,R,w,n,r,b,c⟩:=h
 exact ⟨G,F,ρ,_,R,w,λv H' F' x ρ' s R' r' q=>n σ H' F' ρ' s R' q⟩
theorem l_ifS(h:liftS K (dIfS c t u) E σ H):tIfS (liftT K c) (liftS K t) (liftS K u) E σ H:=by
 obtain⟨G,F,ρ,D,R,w,n,r,b,c⟩:=h
 refine ⟨G,F,ρ,_,R,w,λx H' F' ρ' s R' q=>?_⟩
 cases x with
 | true=>exact later s R' q n r b c
 | false=>exact later s R' q n r b c
theorem l_set{i:Nat}(h:liftS K (dSet i a) E σ H):tAsg (lift K a) (gName i) E σ H:=by
 obtain⟨G,F,ρ,D,R,w,n,r,b,c⟩:=h
 refine ⟨G,F,ρ,_,R,w,λv H' F' x ρ' s R' r' q=>?_⟩
 have hn:=noIo_of q
 exact n _ H' F' _ s (R'.asg hn.1 r') hn.2
end
noncomputable def dRetV(i:Nat):TDS:=λE ρ=>match ρ[i]? with
 | some (some (.fz d))=>E.rt (.fz d) ρ
 | some (some (.ow d))=>E.rt (.ow d) (ρ.set i none)
 | _=>False
noncomputable def dMove(i j:Nat):TDS:=λE ρ=>match ρ[j]? with
 | some (some (.fz d))=>(match ρ[i]? with
   | some (some (.io _))=>False
   | some _=>E.nx (ρ.set i (some (.fz d)))
   | none=>False)
 | some (some (.ow d))=>(match (ρ.set j none)[i]? with
   | some (some (.io _))=>False
   | some _=>E.nx ((ρ.set j none).set i (some (.ow d)))
   | none=>False)
 | _=>False
section
variable {K:Fg}{σ:St}{H:Hp}{E:Ends}
theorem l_retV{i:Nat}(h:liftS K (dRetV i) E σ H):tRet (tVar i) E σ H:=by
 obtain⟨G,F,ρ,D,R,w,n,r,b,c⟩:=h
 unfold dRetV at w
 split at w
 ·rename_i d e
  obtain⟨v,e1,h1⟩:=R.fz i d e
  exact ⟨v,e1,r v σ H F (.fz d) ρ (Sub.refl _) R h1 w⟩
 ·rename_i d e
  obtain⟨v,e1,h1⟩:=R.forgetRes e
  exact ⟨v,e1,r v σ H F (.ow d) _ (Sub.refl _) (R.forget e) h1 w⟩
 ·exact w.elim
theorem l_move{i j:Nat}(h:liftS K (dMove i j) E σ H):tAsg (tVar j) (gName i) E σ H:=by
 obtain⟨G,F,ρ,D,R,w,n,r,b,c⟩:=h
 unfold dMove at w
 split at w
 ·rename_i d e
  obtain⟨v,e1,h1⟩:=R.fz j d e
  obtain⟨hn,w⟩:=noIo_of w
  exact ⟨v,e1,n _ H F _ (Sub.refl _) (R.asg (s:=.fz d) hn h1) w⟩
 ·rename_i d e
  obtain⟨v,e1,h1⟩:=R.forgetRes e
  obtain⟨hn,w⟩:=noIo_of w
  exact ⟨v,e1,n _ H F _ (Sub.refl _) ((R.forget e).asg (s:=.ow d) hn h1) w⟩
 ·exact w.elim
end
noncomputable abbrev TDG:=D->Ev->(Ev->Prop)->Prop
noncomputable def liftG(K:Fg)(g:TDG):TG:=λv σ H Q=>∃(G:Gh) (F:Hp) (ρ:Ev) (d:D) (Qd:Ev->Prop),Rel K G F σ H ρ/\Da K F v d/\g d ρ Qd/\∀σ' ρ',Rel K G F σ' H ρ'->Qd ρ'->Q σ' H
noncomputable def dGN(i:Nat):TDG:=λd ρ Q=>match ρ[i]? with
 | some (some (.io _))=>False
 | some _=>Q (ρ.set i (some (.fz d)))
 | none=>False
noncomputable def dGs:List TDG->List D->Ev->(Ev->Prop)->Prop
 | [],[],ρ,Q=>Q ρ
 | g :: gs,d :: ds,ρ,Q=>g d ρ λρ'=>dGs gs ds ρ' Q
 | _,_,_,_=>False
noncomputable def dGT(gs:List TDG):TDG:=λd ρ Q=>match d with
 | .tuple ds=>ds.length=gs.length/\dGs gs ds ρ Q
 | _=>False
noncomputable def gAll:List TG->TGs
 | []=>gNil
 | g :: gs=>gCons g (gAll gs)
section
variable {K:Fg}{σ:St}{H:Hp}{v:V}{Q:St->Hp->Prop}
theorem l_gn{i:Nat}(h:liftG K (dGN i) v σ H Q):gName i v σ H Q:=by
 obtain⟨G,F,ρ,d,Qd,R,hd,w,k⟩:=h
 obtain⟨hn,w⟩:=noIo_of w
 exact k _ _ (R.asg (s:=.fz d) hn hd) w
theorem l_gs{G:Gh}{F:Hp}:∀{gs:List TDG}{ds:List D}{vs:List V}{σ:St}{ρ:Ev}{Qd:Ev->Prop},Rel K G F σ H ρ->DaAll K F vs ds->dGs gs ds ρ Qd->(∀σ' ρ',Rel K G F σ' H ρ'->Qd ρ'->Q σ' H)->gAll (gs.map (liftG K)) vs σ H Q
 | [],[],_,σ,ρ,Qd,R,.nil,w,k=>⟨rfl,k σ ρ R w⟩
 | g :: gs,d :: ds,_,σ,ρ,Qd,R,.cons h t,w,k=>⟨_,_,rfl,G,F,ρ,d,_,R,h,w,λσ' ρ' R' w'=>l_gs (gs:=gs) R' t w' k⟩
 | [],_ :: _,_,σ,ρ,Qd,R,_,w,k=>by exact w.elim
 | _ :: _,[],_,σ,ρ,Qd,R,_,w,k=>by exact w.elim
theorem l_gt{gs:List TDG}{n:Nat}(hn:gs.length=n)(h:liftG K (dGT gs) v σ H Q):gTup K n (gAll (gs.map (liftG K))) v σ H Q:=by
 obtain⟨G,F,ρ,d,Qd,R,hd,w,k⟩:=h
 unfold dGT at w
 split at w
 ·cases hd with
  | tup e t=>exact ⟨_,_,rfl,SqT.of (R.sub _ _ e),by rw[t.length,w.1,hn],l_gs R t w.2 k⟩
 ·exact w.elim
end
noncomputable def Walks(K:Fg)(J:It)(F:Hp)(ds:List D):Prop:=∀(i:Nat) (H F1:Hp),Sub F F1->Sub F1 H ->
 (∀d,ds[i]?=some d->J.go i H/\∀x H',J.yld i H x H'->∃F2,Sub F1 F2/\(∀b o,F2 b=some o->F1 b=some o\/H b=none)/\Sub F2 H'/\Sub H H'/\Da K F2 x d)/\(ds.length=i->J.stop i H)
noncomputable abbrev TDI:=Ev->(List D->Ev->Prop)->Prop
noncomputable def liftI(K:Fg)(ti:TDI):TI:=λσ H R=>∃(G:Gh) (F:Hp) (ρ:Ev) (Qd:List D->Ev->Prop),Rel K G F σ H ρ/\ti ρ Qd /\
 ∀J H' F' ds ρ',Sub F F'->Rel K G F' σ H' ρ'->Walks K J F' ds->Qd ds ρ'->R J H'
theorem Rel.turn{K:Fg}{G:Gh}{F F2 H H':Hp}{σ:St}{ρ:Ev}(R:Rel K G F σ H ρ)(s:Sub F F2)(n:∀b o,F2 b=some o->F b=some o\/H b=none)(s2:Sub F2 H')(s3:Sub H H'):Rel K G F2 σ H' ρ where
 len:=R.len
 sub:=s2
 sub0:=R.sub0.trans s
 fn:=λb o e=>by
  rcases n b o e with q|q
  ·exact R.fn b o q
  ·exact .inr (R.h0 q)
 keep:=λa o e m=>s3 _ _ (R.keep a o e m)
 fz:=λi d e=>by
  obtain⟨v,h1,h2⟩:=R.fz i d e
  exact ⟨v,h1,h2.mono s⟩
 ow:=λi t e w=>by
  obtain⟨a,o,h1,h2,h3,h4⟩:=R.ow i t e w
  refine ⟨a,o,h1,?_,s3 _ _ h3,h4.mono s⟩
  cases q:F2 a with
  | none=>rfl
  | some u =>
   rcases n a u q with z|z
   ·rw[h2]at z;cases z
   ·rw[h3]at z;cases z
 new:=R.new
 io:=R.io
 ioi:=R.ioi
 ap:=R.ap
theorem drop_get{α:Type}{l:List α}{i:Nat}{x:α}(h:l[i]?=some x):l.drop i=x :: l.drop (i+1):=by
 obtain⟨hl,rfl⟩:=X0.mp h
 exact K3 hl
noncomputable def capt:Option Sl->Option Sl
 | some (.ow d)=>some (.io d)
 | x=>x
noncomputable def innerE(own:List Str)(fr:List Nat)(ρ:Ev):Ev:=own.map (λ_=>none)++fr.map λi=>capt ((ρ[i]?).getD none)
noncomputable def wb1:Option Sl->Option (Option Sl)->Option Sl
 | some (.ow d),some (some (.io d'))=>some (.ow d')
 | some (.io d),some (some (.io d'))=>some (.io d')
 | x,_=>x
noncomputable def wbGo(fr:List Nat)(τ:Ev):Nat->Ev->Ev
 | _,[]=>[]
 | j,x :: ρ=>wb1 x ((fr.zip τ).lookup j) :: wbGo fr τ (j+1) ρ
theorem wbGo_get(fr:List Nat)(τ:Ev):∀(ρ:Ev) (j i:Nat),(wbGo fr τ j ρ)[i]?=(ρ[i]?).map λx=>wb1 x ((fr.zip τ).lookup (j+i))
 | [],j,i=>by simp[wbGo]
 | x :: ρ,j,0=>by simp[wbGo]
 | x :: ρ,j,i+1=>by
  have:=wbGo_get fr τ ρ (j+1) i
  simp only[wbGo,v4]
  rw[this,show j+1+i=j+(i+1) by omega]
theorem wbGo_len(fr:List Nat)(τ:Ev):∀(ρ:Ev) (j:Nat),(wbGo fr τ j ρ).length=ρ.length
 | [],_=>rfl
 | x :: ρ,j=>by simp[wbGo,wbGo_len fr τ ρ (j+1)]
theorem zip_lookup:∀{fr:List Nat}{τ:Ev}{k i:Nat}{x:Option Sl},fr.Nodup->fr[k]?=some i->τ[k]?=some x->(fr.zip τ).lookup i=some x
 | [],_,_,_,_,_,e,_=>by simp at e
 | j :: fr,[],_,_,_,_,_,e=>by simp at e
 | j :: fr,y :: τ,0,i,x,_,e,e'=>by simp at e e';subst e e';simp[i7]
 | j :: fr,y :: τ,k+1,i,x,nd,e,e'=>by
  have nd':=L5.mp nd
  simp at e e'
  have hm:i∈fr:=E2 e
  have ne:(i==j)=false:=by simp;intro z;subst z;exact nd'.1 hm
  simp[i7,ne]
  exact zip_lookup nd'.2 e e'
theorem zip_lookup_mem:∀{fr:List Nat}{τ:Ev}{i:Nat}{x:Option Sl},(fr.zip τ).lookup i=some x->∃k:Nat,fr[k]?=some i/\τ[k]?=some x
 | [],_,_,_,e=>by simp at e
 | j :: fr,[],_,_,e=>by simp at e
 | j :: fr,y :: τ,i,x,e=>by
  by_cases z:i=j
  ·subst z;simp[i7]at e;subst e;exact ⟨0,by simp,by simp⟩
  ·have ne:(i==j)=false:=by simp[z]
   simp[i7,ne]at e
   obtain⟨k,h1,h2⟩:=zip_lookup_mem e
   exact ⟨k+1,by simpa using h1,by simpa using h2⟩
noncomputable def ioOf(σ:St)(ρ:Ev)(i:Nat):Option Addr:=match ρ[i]?,σ[i]? with
 | some (some s),some (some (.ref a))=>if isOw s=true then some a else none
 | _,_=>none
theorem ioOf_some{σ:St}{ρ:Ev}{i:Nat}{a:Addr}(h:ioOf σ ρ i=some a):∃s,ρ[i]?=some (some s)/\isOw s=true/\σ[i]?=some (some (V.ref a)):=by
 unfold ioOf at h
 split at h
 ·rename_i s b e1 e2
  split at h
  ·rename_i w;cases h;exact ⟨s,e1,w,e2⟩
  ·cases h
 ·cases h
theorem ioOf_of{σ:St}{ρ:Ev}{i:Nat}{a:Addr}{s:Sl}(h1:ρ[i]?=some (some s))(h2:isOw s=true)(h3:σ[i]?=some (some (V.ref a))):ioOf σ ρ i=some a:=by
 unfold ioOf;rw[h1,h3];simp[h2]
noncomputable def ghC(own:List Str)(fr:List Nat)(F H:Hp)(σ:St)(ρ:Ev):Gh:=⟨H,F,λj=>if own.length<=j then (match fr[j - own.length]? with|some i=>ioOf σ ρ i|none=>none) else none⟩
theorem ghC_io{own:List Str}{fr:List Nat}{F H:Hp}{σ:St}{ρ:Ev}{j:Nat}{a:Addr}(h:(ghC own fr F H σ ρ).io j=some a):∃k i s,j=own.length+k/\fr[k]?=some i/\ρ[i]?=some (some s)/\isOw s=true/\σ[i]?=some (some (V.ref a)):=by
 unfold ghC at h
 simp only at h
 split at h
 ·rename_i hl
  split at h
  ·rename_i i e
   obtain⟨s,h1,h2,h3⟩:=ioOf_some h
   exact ⟨j - own.length,i,s,by omega,e,h1,h2,h3⟩
  ·cases h
 ·cases h
theorem ghC_of{own:List Str}{fr:List Nat}{F H:Hp}{σ:St}{ρ:Ev}{k i:Nat}{a:Addr}{s:Sl}(h0:fr[k]?=some i)(h1:ρ[i]?=some (some s))(h2:isOw s=true)(h3:σ[i]?=some (some (V.ref a))):(ghC own fr F H σ ρ).io (own.length+k)=some a:=by
 unfold ghC
 simp only
 rw[if_pos (E4 _ _),T4,h0]
 exact ioOf_of h1 h2 h3
theorem inner_get{α:Type}{own:List Str}{fr:List Nat}{f:Nat->Option α}{j:Nat}{x:α}(h:(own.map (λ_=>(none:Option α))++fr.map f)[j]?=some (some x)):∃k i,j=own.length+k/\fr[k]?=some i/\f i=some x:=by
 by_cases hl:j < own.length
 ·rw[T1 (by simpa using hl)]at h
  simp at h
 ·rw[B1 (by simpa using A7 hl)]at h
  simp at h
  obtain⟨i,h1,h2⟩:=h
  exact ⟨j - own.length,i,by omega,h1,h2⟩
theorem inner_of{α:Type}{own:List Str}{fr:List Nat}{f:Nat->Option α}{k i:Nat}(h:fr[k]?=some i):(own.map (λ_=>(none:Option α))++fr.map f)[own.length+k]?=some (f i):=by
 rw[B1 (by simp)]
 simp[h]
theorem capt_get{x:Option Sl}{s:Sl}(h:capt x=some s):∃s0,x=some s0/\((∃d,s0=.fz d/\s=.fz d)\/(isOw s0=true/\s=.io s0.d)):=by
 cases x with
 | none=>cases h
 | some s0 =>
  cases s0 with
  | fz d=>cases h;exact ⟨_,rfl,.inl ⟨d,rfl,rfl⟩⟩
  | ow d=>cases h;exact ⟨_,rfl,.inr ⟨rfl,rfl⟩⟩
  | io d=>cases h;exact ⟨_,rfl,.inr ⟨rfl,rfl⟩⟩
theorem getD_some{α:Type}{o:Option (Option α)}{x:α}(h:o.getD none=some x):o=some (some x):=by
 cases o with
 | none=>cases h
 | some y=>simp at h;rw[h]
section
variable {K:Fg}{G:Gh}{F F' H H':Hp}{σ τ:St}{ρ μ:Ev}{own:List Str}{fr:List Nat}
theorem innerE_get{j:Nat}{s:Sl}(h:(innerE own fr ρ)[j]?=some (some s)):∃k i s0,j=own.length+k/\fr[k]?=some i/\ρ[i]?=some (some s0)/\((∃d,s0=.fz d/\s=.fz d)\/(isOw s0=true/\s=.io s0.d)):=by
 obtain⟨k,i,h1,h2,h3⟩:=inner_get h
 obtain⟨s0,h4,h5⟩:=capt_get h3
 exact ⟨k,i,s0,h1,h2,getD_some h4,h5⟩
theorem st0_of{k i:Nat}(h:fr[k]?=some i):(st0 own σ fr)[own.length+k]?=some ((σ[i]?).getD none):=inner_of (f:=λi=>(σ[i]?).getD none) h
theorem innerE_of{k i:Nat}(h:fr[k]?=some i):(innerE own fr ρ)[own.length+k]?=some (capt ((ρ[i]?).getD none)):=inner_of (f:=λi=>capt ((ρ[i]?).getD none)) h
theorem nodup_at{fr:List Nat}(nd:fr.Nodup){k l i:Nat}(a:fr[k]?=some i)(b:fr[l]?=some i):k=l:=by
 obtain⟨h1,e1⟩:=X0.mp a
 obtain⟨h2,e2⟩:=X0.mp b
 exact (List.getElem_inj nd).mp (e1.trans e2.symm)
theorem Rel.inner(R:Rel K G F σ H ρ)(nd:fr.Nodup):Rel K (ghC own fr F H σ ρ) F (st0 own σ fr) H (innerE own fr ρ) where
 len:=by simp[st0,frS,innerE]
 sub:=R.sub
 sub0:=Sub.refl _
 fn:=λ_ _ e=>.inl e
 keep:=λ_ _ e _=>e
 fz:=λj d e=>by
  obtain⟨k,i,s0,rfl,h2,h3,h4⟩:=innerE_get e
  rcases h4 with⟨d0,rfl,z⟩|⟨_,z⟩
  ·cases z
   obtain⟨v,e1,e2⟩:=R.fz i d h3
   exact ⟨v,by rw[st0_of h2,e1];rfl,e2⟩
  ·cases z
 ow:=λj s e w=>by
  obtain⟨k,i,s0,rfl,h2,h3,h4⟩:=innerE_get e
  rcases h4 with⟨d0,rfl,z⟩|⟨w0,z⟩
  ·cases z;cases w
  ·cases z
   obtain⟨a,o,e1,e2,e3,e4⟩:=R.ow i s0 h3 w0
   exact ⟨a,o,by rw[st0_of h2,e1];rfl,e2,e3,e4⟩
 new:=λj d a e _=>by
  obtain⟨k,i,s0,rfl,h2,h3,h4⟩:=innerE_get e
  rcases h4 with⟨d0,rfl,z⟩|⟨w0,z⟩<;>cases z
 io:=λj a e=>by
  obtain⟨k,i,s,rfl,h1,h2,h3,h4⟩:=ghC_io e
  refine ⟨s.d,?_,by rw[st0_of h1,h4];rfl⟩
  rw[innerE_of h1,h2]
  cases s<;>first|rfl|cases h3
 ioi:=λj d e=>by
  obtain⟨k,i,s0,rfl,h2,h3,h4⟩:=innerE_get e
  rcases h4 with⟨d0,rfl,z⟩|⟨w0,z⟩
  ·cases z
  ·obtain⟨a,o,e1,_⟩:=R.ow i s0 h3 w0
   exact ⟨a,ghC_of h2 h3 w0 e1⟩
 ap:=λj l s t a e1 w1 e2 w2 e3 e4=>by
  obtain⟨k,i,s0,rfl,h2,h3,h4⟩:=innerE_get e1
  obtain⟨k',i',s0',rfl,h2',h3',h4'⟩:=innerE_get e2
  have p1:isOw s0=true:=by
   rcases h4 with⟨d0,rfl,z⟩|⟨w0,z⟩
   ·subst z;cases w1
   ·exact w0
  have p2:isOw s0'=true:=by
   rcases h4' with⟨d0,rfl,z⟩|⟨w0,z⟩
   ·subst z;cases w2
   ·exact w0
  rw[st0_of h2]at e3
  rw[st0_of h2']at e4
  have q:=R.ap i i' s0 s0' a h3 p1 h3' p2 (getD_some (S1 e3)) (getD_some (S1 e4))
  subst q
  rw[nodup_at nd h2 h2']
theorem wb_cases(R:Rel K G F σ H ρ)(R':Rel K (ghC own fr F H σ ρ) F' τ H' μ)(nd:fr.Nodup){i:Nat}{s:Sl}(h:(wbGo fr (μ.drop own.length) 0 ρ)[i]?=some (some s)) :
  ∃s0,ρ[i]?=some (some s0)/\((s=s0/\(isOw s0=true->i∉fr))\/(isOw s0=true/\∃k d',fr[k]?=some i/\μ[own.length+k]?=some (some (Sl.io d'))/\s=s0.put d')):=by
 rw[wbGo_get]at h
 cases e:ρ[i]? with
 | none=>rw[e]at h;cases h
 | some x =>
  rw[e]at h
  simp only[K4,y8]at h
  have h:=S1 h
  cases x with
  | none=>simp[wb1]at h
  | some s0 =>
   refine ⟨s0,rfl,?_⟩
   by_cases w0:isOw s0=true
   ·by_cases hm:i∈fr
    ·obtain⟨k,hk⟩:=j6.mp hm
     obtain⟨a,o,e1,_⟩:=R.ow i s0 e w0
     obtain⟨d',g1,g2⟩:=R'.io _ _ (ghC_of (own:=own) (F:=F) (H:=H) hk e w0 e1)
     have z:=zip_lookup (τ:=μ.drop own.length) nd hk (by rw[t8];exact g1)
     rw[z]at h
     refine .inr ⟨w0,k,d',hk,g1,?_⟩
     cases s0 with
     | fz d=>cases w0
     | ow d=>simp[wb1]at h;exact h.symm
     | io d=>simp[wb1]at h;exact h.symm
    ·refine .inl ⟨?_,λ_=>hm⟩
     have z:(fr.zip (μ.drop own.length)).lookup i=none:=by
      cases q:(fr.zip (μ.drop own.length)).lookup i with
      | none=>rfl
      | some y =>
       obtain⟨k,h1,_⟩:=zip_lookup_mem q
       exact (hm (E2 h1)).elim
     rw[z]at h
     cases s0 with
     | fz d=>cases w0
     | ow d=>simp[wb1]at h;exact h.symm
     | io d=>simp[wb1]at h;exact h.symm
   ·refine .inl ⟨?_,λz=>(w0 z).elim⟩
    cases s0 with
    | fz d=>simp[wb1]at h;exact h.symm
    | ow d=>exact (w0 rfl).elim
    | io d=>exact (w0 rfl).elim
theorem wb1_io{d:D}(x:Option (Option Sl)):∃d',wb1 (some (.io d)) x=some (.io d'):=by
 rcases x with _|_|(d'|d'|d')
 ·exact ⟨d,rfl⟩
 ·exact ⟨d,rfl⟩
 ·exact ⟨d,rfl⟩
 ·exact ⟨d,rfl⟩
 ·exact ⟨d',rfl⟩
theorem Rel.outer(R:Rel K G F σ H ρ)(R':Rel K (ghC own fr F H σ ρ) F' τ H' μ)(nd:fr.Nodup):Rel K G F' σ H' (wbGo fr (μ.drop own.length) 0 ρ):=by
 have sb:Sub F F':=R'.sub0
 have owns:∀{i:Nat}{s:Sl},(wbGo fr (μ.drop own.length) 0 ρ)[i]?=some (some s)->isOw s=true->∃s0,ρ[i]?=some (some s0)/\isOw s0=true:=λ{i s} e w=>by
  obtain⟨s0,h1,h2⟩:=wb_cases R R' nd e
  rcases h2 with⟨rfl,_⟩|⟨w0,_⟩
  ·exact ⟨s,h1,w⟩
  ·exact ⟨s0,h1,w0⟩
 refine ⟨by rw[wbGo_len];exact R.len,R'.sub,R.sub0.trans sb,λa o e=>?_,λa o e n=>?_,λi d e=>?_,λi s e w=>?_,λi d a e ea=>?_,λi a e=>?_,λi d e=>?_,λi j s t a e1 w1 e2 w2 e3 e4=>?_⟩
 ·rcases R'.fn a o e with q|q
  ·exact R.fn a o q
  ·exact .inr (R.h0 q)
 ·refine R'.keep a o (R.keep a o e n) λj z=>?_
  obtain⟨k,i,s,rfl,h1,h2,h3,h4⟩:=ghC_io z
  cases s with
  | fz d=>cases h3
  | ow d=>rw[R.new i d a h2 h4]at e;cases e
  | io d =>
   obtain⟨a',g⟩:=R.ioi i d h2
   obtain⟨_,_,g2⟩:=R.io i a' g
   rw[h4]at g2;cases g2
   exact n i g
 ·obtain⟨s0,h1,h2⟩:=wb_cases R R' nd e
  rcases h2 with⟨rfl,_⟩|⟨w0,k,d',_,_,z⟩
  ·obtain⟨v,g1,g2⟩:=R.fz i d h1
   exact ⟨v,g1,g2.mono sb⟩
  ·cases s0<;>simp[Sl.put,isOw]at z w0
 ·obtain⟨s0,h1,h2⟩:=wb_cases R R' nd e
  rcases h2 with⟨rfl,hm⟩|⟨w0,k,d',hk,hd,rfl⟩
  ·obtain⟨a,o,g1,g2,g3,g4⟩:=R.ow i s h1 w
   have nio:∀j,(ghC own fr F H σ ρ).io j≠some a:=λj z=>by
    obtain⟨k,i',s',rfl,q1,q2,q3,q4⟩:=ghC_io z
    have:=R.ap i i' s s' a h1 w q2 q3 g1 q4
    subst this
    exact hm w (E2 q1)
   refine ⟨a,o,g1,?_,R'.keep a o g3 nio,g4.mono sb⟩
   cases q:F' a with
   | none=>rfl
   | some u =>
    rcases R'.fn a u q with z|z
    ·have z:F a=some u:=z
     rw[g2]at z;cases z
    ·have z:H a=none:=z
     rw[g3]at z;cases z
  ·obtain⟨a,o,g1,g2,g3,g4⟩:=R.ow i s0 h1 w0
   obtain⟨d2,q1,q2⟩:=R'.io _ _ (ghC_of (own:=own) (F:=F) (H:=H) hk h1 w0 g1)
   obtain⟨a',o',p1,p2,p3,p4⟩:=R'.ow _ _ hd rfl
   rw[q2]at p1;cases p1
   exact ⟨a,o',g1,p2,p3,by cases s0<;>first|exact p4|cases w0⟩
 ·obtain⟨s0,h1,h2⟩:=wb_cases R R' nd e
  rcases h2 with⟨rfl,_⟩|⟨w0,k,d',_,_,z⟩
  ·exact R.new i d a h1 ea
  ·cases s0 with
   | fz d=>cases w0
   | ow d0=>exact R.new i d0 a h1 ea
   | io d0=>cases z
 ·obtain⟨d,h1,h2⟩:=R.io i a e
  obtain⟨d',hd⟩:=wb1_io (d:=d) ((fr.zip (μ.drop own.length)).lookup i)
  exact ⟨d',by rw[wbGo_get,h1];simp only[K4,y8];rw[hd],h2⟩
 ·obtain⟨s0,h1,h2⟩:=wb_cases R R' nd e
  rcases h2 with⟨rfl,_⟩|⟨w0,k,d',_,_,z⟩
  ·exact R.ioi i d h1
  ·cases s0 with
   | fz d=>cases w0
   | ow d0=>cases z
   | io d0=>exact R.ioi i d0 h1
 ·obtain⟨s0,g1,g2⟩:=owns e1 w1
  obtain⟨t0,g3,g4⟩:=owns e2 w2
  exact R.ap i j s0 t0 a g1 g2 g3 g4 e3 e4
end
noncomputable abbrev Con:=List Sl->(Sl->Ev->Prop)->Prop
noncomputable def conSp(K:Fg)(con:Con):Sp:=λvs H Q _=>∃(G:Gh) (F:Hp) (args:List Sl) (Qd:Sl->Ev->Prop),Rel K G F (vs.map some) H (args.map some)/\con args Qd /\
 ∀v H' F' r ρ',Sub F F'->Rel K G F' (vs.map some) H' ρ'->Res K G F' H' (vs.map some) ρ' v r->Qd r ρ'->Q v H'
mutual
noncomputable def noMut:D->Bool
 | .none=>true
 | .bool _=>true
 | .int _=>true
 | .str _=>true
 | .tuple xs=>noMutAll xs
 | .list _=>false
 | .dict _=>false
noncomputable def noMutAll:List D->Bool
 | []=>true
 | x :: xs=>noMut x&&noMutAll xs
end
theorem noMutAll_ints:∀ns:List Int,noMutAll (ns.map j0)=true
 | []=>rfl
 | n :: ns=>by simp[noMutAll,noMut,noMutAll_ints ns]
section
variable {K:Fg}{F F':Hp}
mutual
theorem Da.noMut(h:∀b xs,F b=some (.tup xs)->F' b=some (.tup xs)):∀{v:V}{d:D},Da K F v d->noMut d=true->Da K F' v d
 | _,_,.non,_=>.non
 | _,_,.bl b,_=>.bl b
 | _,_,.int i,_=>.int i
 | _,_,.str x,_=>.str x
 | _,_,.lst _ _,z=>by simp[L3.noMut]at z
 | _,_,.tup e t,z=>.tup (h _ _ e) (DaAll.noMut h t (by simpa [L3.noMut]using z))
 | _,_,.dk _ _,z=>by simp[L3.noMut]at z
 | _,_,.dt _ _,z=>by simp[L3.noMut]at z
 | _,_,.scr _,z=>by simp[L3.noMut,scrD]at z
theorem DaAll.noMut(h:∀b xs,F b=some (.tup xs)->F' b=some (.tup xs)):∀{xs:List V}{ds:List D},DaAll K F xs ds->noMutAll ds=true->DaAll K F' xs ds
 | _,_,.nil,_=>.nil
 | _,_,.cons a t,z=>by
  simp[noMutAll]at z
  exact .cons (Da.noMut h a z.1) (DaAll.noMut h t z.2)
end
end
noncomputable def lentAny(ρ:Ev):List Opd->Bool
 | []=>false
 | .inr _ :: xs=>lentAny ρ xs
 | .inl i :: xs=>(match ρ[i]? with|some (some s)=>isOw s|_=>false)||lentAny ρ xs
noncomputable def dCall(con:Con)(as:List AD):TD:=λρ Q=>dArgs as ρ λxs ρ1=>looksQ ρ1 xs λds=>con (ds.map Sl.fz) λr _=>match lentAny ρ1 xs with
 | false=>Q r ρ1
 | true=>noMut r.d=true/\Q r ρ1
noncomputable def callI(con:Con)(i:Nat)(xs:List Opd)(ρ1:Ev)(Q:Sl->Ev->Prop):Prop:=match ρ1[i]? with
 | some (some s)=>match isOw s,lentAny ρ1 xs with
  | true,false=>looksQ ρ1 xs λds=>con (.io s.d :: ds.map Sl.fz) λr outs=>match outs with
   | some (.io d') :: _=>Q r (ρ1.set i (some (s.put d')))
   | _=>False
  | _,_=>False
 | _=>False
noncomputable def dCallI(con:Con)(i:Nat)(as:List AD):TD:=λρ Q=>dArgs (.inl i :: as) ρ λxs ρ1=>callI con i xs.tail ρ1 Q
noncomputable def LentA(σ:St)(ρ:Ev)(xs:List Opd)(a:Addr):Prop:=∃(i:Nat) (s:Sl),Sum.inl i∈xs/\ρ[i]?=some (some s)/\isOw s=true/\σ[i]?=some (some (V.ref a))
theorem lentAny_of{σ:St}{ρ:Ev}:∀{xs:List Opd}{a:Addr},LentA σ ρ xs a->lentAny ρ xs=true
 | [],a,⟨i,s,h,_⟩=>by cases h
 | .inr d :: xs,a,⟨i,s,h,h1,h2,h3⟩=>by
  rcases Y0.mp h with h|h
  ·cases h
  ·exact lentAny_of (xs:=xs) ⟨i,s,h,h1,h2,h3⟩
 | .inl j :: xs,a,⟨i,s,h,h1,h2,h3⟩=>by
  unfold lentAny
  rcases Y0.mp h with h|h
  ·cases h;rw[h1];simp[h2]
  ·rw[lentAny_of (xs:=xs) ⟨i,s,h,h1,h2,h3⟩];simp
open Classical in
noncomputable def lend(σ:St)(ρ:Ev)(xs:List Opd)(F H:Hp):Hp:=λb=>if LentA σ ρ xs b then H b else F b
open Classical in
noncomputable def unlend(σ:St)(ρ:Ev)(xs:List Opd)(F:Hp):Hp:=λb=>if LentA σ ρ xs b then none else F b
section
variable {K:Fg}{G:Gh}{F F' H H':Hp}{σ:St}{ρ:Ev}{xs:List Opd}
theorem lend_not{b:Addr}(h:¬LentA σ ρ xs b):lend σ ρ xs F H b=F b:=by unfold lend;rw[if_neg h]
theorem lend_is{b:Addr}(h:LentA σ ρ xs b):lend σ ρ xs F H b=H b:=by unfold lend;rw[if_pos h]
theorem unlend_not{b:Addr}(h:¬LentA σ ρ xs b):unlend σ ρ xs F b=F b:=by unfold unlend;rw[if_neg h]
theorem unlend_is{b:Addr}(h:LentA σ ρ xs b):unlend σ ρ xs F b=none:=by unfold unlend;rw[if_pos h]
theorem LentA.own(R:Rel K G F σ H ρ){b:Addr}(h:LentA σ ρ xs b):∃(i:Nat) (s:Sl) (o:HO),ρ[i]?=some (some s)/\isOw s=true/\σ[i]?=some (some (V.ref b))/\F b=none/\H b=some o/\Own1 K F o s.d:=by
 obtain⟨i,s,_,h1,h2,h3⟩:=h
 obtain⟨a,o,g1,g2,g3,g4⟩:=R.ow i s h1 h2
 rw[h3]at g1;cases g1
 exact ⟨i,s,o,h1,h2,h3,g2,g3,g4⟩
theorem lend_sub(R:Rel K G F σ H ρ):Sub F (lend σ ρ xs F H):=λb o e=>by
 have n:¬LentA σ ρ xs b:=λz=>by
  obtain⟨_,_,_,_,_,_,h,_⟩:=z.own R
  rw[h]at e;cases e
 rw[lend_not n];exact e
theorem lend_le(R:Rel K G F σ H ρ):Sub (lend σ ρ xs F H) H:=λb o e=>by
 by_cases z:LentA σ ρ xs b
 ·rw[lend_is z]at e;exact e
 ·rw[lend_not z]at e;exact R.sub _ _ e
theorem lend_looks(R:Rel K G F σ H ρ){ys:List Opd}{vs:List V}{k:List D->Prop}(m:∀y∈ys,y∈xs)(o:OpdsAt K F σ vs ys)(h:looksQ ρ ys k):∃ds,DaAll K (lend σ ρ xs F H) vs ds/\k ds:=by
 induction o generalizing k with
 | nil=>exact ⟨[],.nil,h⟩
 | @cons v x vs ys o t ih =>
  cases x with
  | inr d =>
   obtain⟨ds,a,q⟩:=ih (k:=λds=>k (d :: ds)) (λy hy=>m y (u0 _ hy)) h
   exact ⟨d :: ds,.cons (Da.mono (lend_sub R) o) a,q⟩
  | inl i =>
   unfold looksQ at h
   split at h
   ·rename_i s e
    obtain⟨ds,a,q⟩:=ih (k:=λds=>k (s.d :: ds)) (λy hy=>m y (u0 _ hy)) h
    refine ⟨s.d :: ds,.cons ?_ a,q⟩
    have o:σ[i]?=some (some v):=o
    have own:isOw s=true->Da K (lend σ ρ xs F H) v s.d:=λw=>by
     obtain⟨b,u,h1,h2,h3,h4⟩:=R.ow i s e w
     rw[o]at h1;cases h1
     have l:LentA σ ρ xs b:=⟨i,s,m _ K0,e,w,o⟩
     exact (h4.mono (lend_sub R)).da (by rw[lend_is l];exact h3)
    cases s with
    | fz d =>
     obtain⟨v,e1,e2⟩:=R.fz i d e
     rw[o]at e1;cases e1
     exact e2.mono (lend_sub R)
    | ow d=>exact own rfl
    | io d=>exact own rfl
   ·exact h.elim
theorem own_noMut{o:HO}{d:D}(h:Own1 K F o d):noMut d=false:=by
 cases o<;>cases d<;>first|rfl|exact h.elim
theorem get_fz{ds:List D}{i:Nat}{s:Sl}(h:((ds.map Sl.fz).map some)[i]?=some (some s)):∃d,ds[i]?=some d/\s=.fz d:=by
 rw[P0,E1]at h
 cases e:ds[i]? with
 | none=>rw[e]at h;cases h
 | some d=>rw[e]at h;cases h;exact ⟨d,rfl,rfl⟩
theorem get_vs{vs:List V}{i:Nat}{v:V}(h:vs[i]?=some v):(vs.map some)[i]?=some (some v):=by rw[E1,h];rfl
theorem rel_call{vs:List V}{ds:List D}(s:Sub F H)(da:DaAll K F vs ds):Rel K ⟨H,F,λ_=>none⟩ F (vs.map some) H ((ds.map Sl.fz).map some) where
 len:=by simp[da.length]
 sub:=s
 sub0:=Sub.refl _
 fn:=λ_ _ e=>.inl e
 keep:=λ_ _ e _=>e
 fz:=λi d e=>by
  obtain⟨d',e1,e2⟩:=get_fz e
  cases e2
  obtain⟨v,h1,h2⟩:=da.get e1
  exact ⟨v,get_vs h1,h2⟩
 ow:=λi s e w=>by obtain⟨d',e1,rfl⟩:=get_fz e;cases w
 new:=λi d a e _=>by obtain⟨d',e1,e2⟩:=get_fz e;cases e2
 io:=λi a e=>by cases e
 ioi:=λi d e=>by obtain⟨d',e1,e2⟩:=get_fz e;cases e2
 ap:=λi j s t a e w _ _ _ _=>by obtain⟨d',e1,rfl⟩:=get_fz e;cases w
theorem Rel.called(R:Rel K G F σ H ρ){σ1:St}{ρ1:Ev}(R':Rel K ⟨H,lend σ ρ xs F H,λ_=>none⟩ F' σ1 H' ρ1):Sub F (unlend σ ρ xs F')/\Rel K G (unlend σ ρ xs F') σ H' ρ:=by
 have nl:∀{b:Addr}{o:HO},F b=some o->¬LentA σ ρ xs b:=λ{b o} e z=>by
  obtain⟨_,_,_,_,_,_,h,_⟩:=z.own R
  rw[h]at e;cases e
 have sb:Sub F (unlend σ ρ xs F'):=λb o e=>by
  rw[unlend_not (nl e)]
  exact R'.sub0 _ _ (lend_sub R _ _ e)
 have ul:∀{b:Addr}{o:HO},unlend σ ρ xs F' b=some o->¬LentA σ ρ xs b/\F' b=some o:=λ{b o} e=>by
  by_cases z:LentA σ ρ xs b
  ·rw[unlend_is z]at e;cases e
  ·rw[unlend_not z]at e;exact ⟨z,e⟩
 have kp:∀{b:Addr}{o:HO},H b=some o->H' b=some o:=λ{b o} e=>R'.keep b o e λi z=>by cases z
 refine ⟨sb,R.len,λb o e=>R'.sub _ _ (ul e).2,R.sub0.trans sb,λb o e=>?_,λa o e n=>kp (R.keep a o e n),λi d e=>?_,λi s e w=>?_,R.new,R.io,R.ioi,R.ap⟩
 ·obtain⟨n,e⟩:=ul e
  rcases R'.fn b o e with q|q
  ·have q:lend σ ρ xs F H b=some o:=q
   rw[lend_not n]at q
   exact R.fn b o q
  ·exact .inr (R.h0 q)
 ·obtain⟨v,h1,h2⟩:=R.fz i d e
  exact ⟨v,h1,h2.mono sb⟩
 ·obtain⟨a,o,h1,h2,h3,h4⟩:=R.ow i s e w
  refine ⟨a,o,h1,?_,kp h3,h4.mono sb⟩
  cases q:unlend σ ρ xs F' a with
  | none=>rfl
  | some u =>
   obtain⟨n,q⟩:=ul q
   rcases R'.fn a u q with z|z
   ·have z:lend σ ρ xs F H a=some u:=z
    rw[lend_not n,h2]at z;cases z
   ·have z:H a=none:=z
    rw[h3]at z;cases z
theorem Res.called(R:Rel K G F σ H ρ){σ1:St}{ρ1:Ev}{v:V}{r:Sl}(R':Rel K ⟨H,lend σ ρ xs F H,λ_=>none⟩ F' σ1 H' ρ1)(q:Res K ⟨H,lend σ ρ xs F H,λ_=>none⟩ F' H' σ1 ρ1 v r)
  (hl:lentAny ρ xs=true->noMut r.d=true):Res K G (unlend σ ρ xs F') H' σ ρ v r:=by
 have tp:∀b ys,F' b=some (.tup ys)->unlend σ ρ xs F' b=some (.tup ys):=λb ys e=>by
  have n:¬LentA σ ρ xs b:=λz=>by
   obtain⟨_,_,o,_,_,_,_,h,w⟩:=z.own R
   have e2:=R'.sub0 b o (by show lend σ ρ xs F H b=some o;rw[lend_is z];exact h)
   rw[e]at e2;cases e2
   exact w
  rw[unlend_not n];exact e
 by_cases l:lentAny ρ xs=true
 ·cases r with
  | fz d=>exact Da.noMut tp q (hl l)
  | ow d =>
   obtain⟨a,o,_,_,_,w,_⟩:=q
   have:=hl l
   rw[show (Sl.ow d).d=d from rfl,own_noMut w]at this;cases this
  | io d=>exact q.elim
 ·have e:unlend σ ρ xs F'=F':=funext λb=>unlend_not λz=>l (lentAny_of z)
  rw[e]
  cases r with
  | fz d=>exact q
  | io d=>exact q.elim
  | ow d =>
   obtain⟨a,o,h1,h2,h3,h4,h5,_⟩:=q
   refine ⟨a,o,h1,h2,h3,h4,R.h0 h5,λi s es w z=>?_⟩
   obtain⟨a',o',g1,_,g3,_⟩:=R.ow i s es w
   rw[z]at g1;cases g1
   have h5:H a=none:=h5
   rw[h5]at g3;cases g3
theorem l_call{con:Con}{as:List AD}{E:XK}{Q:VK}(h:lift K (dCall con as) σ H Q):tCall (conSp K con) [] E (tArgs (as.map (argT K))) σ H Q:=by
 obtain⟨G,F,ρ,Qd,R,w,k⟩:=h
 refine args_ok R w λvs H1 F1 xs ρ1 s1 R1 o w1=>?_
 obtain⟨ds,da,w1⟩:=lend_looks (xs:=xs) R1 (λy hy=>hy) o w1
 rw[T2]
 refine ⟨_,_,ds.map Sl.fz,_,rel_call (lend_le R1) da,w1,λv H' F' r ρ' s' R' r' q=>?_⟩
 obtain⟨sb,R2⟩:=R1.called R'
 have hq:(lentAny ρ1 xs=true->noMut r.d=true)/\Qd r ρ1:=by
  split at q
  ·rename_i e;exact ⟨λz=>(by rw[e]at z;cases z),q⟩
  ·exact ⟨λ_=>q.1,q.2⟩
 exact k v H' _ r ρ1 (s1.trans sb) R2 (Res.called R1 R' r' hq.1) hq.2
end
section
variable {K:Fg}{G:Gh}{F F' H H':Hp}{σ:St}{ρ:Ev}{xs:List Opd}
noncomputable def ioA(a:Addr):Nat->Option Addr:=λj=>if j=0 then some a else none
theorem ioA_some{a b:Addr}{j:Nat}(h:ioA a j=some b):j=0/\b=a:=by
 unfold ioA at h
 split at h
 ·rename_i z;cases h;exact ⟨z,rfl⟩
 ·cases h
theorem rel_callI{vs:List V}{ds:List D}{a:Addr}{o:HO}{d:D}(s:Sub F H)(h1:F a=none)(h2:H a=some o)(h3:Own1 K F o d)(da:DaAll K F vs ds) :
  Rel K ⟨H,F,ioA a⟩ F ((V.ref a :: vs).map some) H ((Sl.io d :: ds.map Sl.fz).map some) where
 len:=by simp[da.length]
 sub:=s
 sub0:=Sub.refl _
 fn:=λ_ _ e=>.inl e
 keep:=λ_ _ e _=>e
 fz:=λi d' e=>by
  cases i with
  | zero=>simp at e
  | succ i =>
   have e:((ds.map Sl.fz).map some)[i]?=some (some (Sl.fz d')):=by simpa using e
   obtain⟨d2,e1,e2⟩:=get_fz e
   cases e2
   obtain⟨v,g1,g2⟩:=da.get e1
   exact ⟨v,by simpa using g1,g2⟩
 ow:=λi s e w=>by
  cases i with
  | zero=>simp at e;subst e;exact ⟨a,o,by simp,h1,h2,h3⟩
  | succ i =>
   have e:((ds.map Sl.fz).map some)[i]?=some (some s):=by simpa using e
   obtain⟨d2,e1,rfl⟩:=get_fz e
   cases w
 new:=λi d' b e _=>by
  cases i with
  | zero=>simp at e
  | succ i =>
   have e:((ds.map Sl.fz).map some)[i]?=some (some (Sl.ow d')):=by simpa using e
   obtain⟨d2,e1,e2⟩:=get_fz e
   cases e2
 io:=λi b e=>by
  obtain⟨rfl,rfl⟩:=ioA_some e
  exact ⟨d,by simp,by simp⟩
 ioi:=λi d' e=>by
  cases i with
  | zero=>exact ⟨a,rfl⟩
  | succ i =>
   have e:((ds.map Sl.fz).map some)[i]?=some (some (Sl.io d')):=by simpa using e
   obtain⟨d2,e1,e2⟩:=get_fz e
   cases e2
 ap:=λi j s t b e1 w1 e2 w2 _ _=>by
  have f:∀{i:Nat}{s:Sl},((Sl.io d :: ds.map Sl.fz).map some)[i]?=some (some s)->isOw s=true->i=0:=λ{i s} e w=>by
   cases i with
   | zero=>rfl
   | succ i =>
    have e:((ds.map Sl.fz).map some)[i]?=some (some s):=by simpa using e
    obtain⟨d2,e1,rfl⟩:=get_fz e
    cases w
  rw[f e1 w1,f e2 w2]
theorem Rel.calledI(R:Rel K G F σ H ρ){i:Nat}{s:Sl}{a:Addr}{d':D}{σ1:St}{ρ1:Ev}(e:ρ[i]?=some (some s))(w:isOw s=true)(ea:σ[i]?=some (some (V.ref a)))
  (R':Rel K ⟨H,F,ioA a⟩ F' (some (V.ref a) :: σ1) H' (some (Sl.io d') :: ρ1)):Rel K G F' σ H' (ρ.set i (some (s.put d'))):=by
 obtain⟨a0,o0,g1,g2,g3,g4⟩:=R.ow i s e w
 rw[ea]at g1;cases g1
 have sb:Sub F F':=R'.sub0
 have hl:=lt_of_get e
 have kp:∀{b:Addr}{o:HO},b≠a->H b=some o->H' b=some o:=λ{b o} n q=>R'.keep b o q λj z=>n (ioA_some z).2
 have ow':∀{j:Nat}{t:Sl},j≠i->ρ[j]?=some (some t)->isOw t=true->∃b o,σ[j]?=some (some (V.ref b))/\F' b=none/\H' b=some o/\Own1 K F' o t.d:=λ{j t} n q wt=>by
  obtain⟨b,o,q1,q2,q3,q4⟩:=R.ow j t q wt
  have nb:b≠a:=λz=>n (R.ap j i t s a q wt e w (by rw[q1,z]) ea)
  refine ⟨b,o,q1,?_,kp nb q3,q4.mono sb⟩
  cases z:F' b with
  | none=>rfl
  | some u =>
   rcases R'.fn b u z with y|y
   ·have y:F b=some u:=y
    rw[q2]at y;cases y
   ·have y:H b=none:=y
    rw[q3]at y;cases y
 refine ⟨by rw[L4];exact R.len,R'.sub,R.sub0.trans sb,λb o q=>?_,λb o q n=>?_,λj d q=>?_,λj t q wt=>?_,λj d b q eb=>?_,λj b q=>?_,λj d q=>?_,λj k t u b e1 w1 e2 w2 e3 e4=>?_⟩
 ·rcases R'.fn b o q with y|y
  ·exact R.fn b o y
  ·exact .inr (R.h0 y)
 ·refine kp (λz=>?_) (R.keep b o q n)
  subst z
  cases s with
  | fz d=>cases w
  | ow d=>rw[R.new i d b e ea]at q;cases q
  | io d =>
   obtain⟨a',y⟩:=R.ioi i d e
   obtain⟨_,_,y2⟩:=R.io i a' y
   rw[ea]at y2;cases y2
   exact n i y
 ·rcases get_set q with⟨rfl,z⟩|⟨n,z⟩
  ·cases s<;>simp[Sl.put,isOw]at z w
  ·obtain⟨v,y1,y2⟩:=R.fz j d z
   exact ⟨v,y1,y2.mono sb⟩
 ·rcases get_set q with⟨rfl,z⟩|⟨n,z⟩
  ·cases z
   obtain⟨b,o,y1,y2,y3,y4⟩:=R'.ow 0 (.io d') (by simp) rfl
   simp at y1;subst y1
   exact ⟨a,o,ea,y2,y3,by cases s<;>first|exact y4|cases w⟩
  ·exact ow' n z wt
 ·rcases get_set q with⟨rfl,z⟩|⟨n,z⟩
  ·cases s with
   | fz d=>cases w
   | ow d0=>exact R.new j d0 b e eb
   | io d0=>cases z
  ·exact R.new j d b z eb
 ·obtain⟨d,y1,y2⟩:=R.io j b q
  by_cases z:j=i
  ·subst z
   rw[e]at y1;cases y1
   exact ⟨d',by rw[set_get hl];rfl,y2⟩
  ·exact ⟨d,by rw[S0 (G2 z)];exact y1,y2⟩
 ·rcases get_set q with⟨rfl,z⟩|⟨n,z⟩
  ·cases s with
   | fz d=>cases w
   | ow d0=>cases z
   | io d0=>exact R.ioi j d0 e
  ·exact R.ioi j d z
 ·have f:∀(j:Nat) (t:Sl),(ρ.set i (some (s.put d')))[j]?=some (some t)->isOw t=true->∃t',ρ[j]?=some (some t')/\isOw t'=true:=λj t q wt=>by
   rcases get_set q with⟨rfl,z⟩|⟨n,z⟩
   ·exact ⟨s,e,w⟩
   ·exact ⟨t,z,wt⟩
  obtain⟨t',e1',w1'⟩:=f j t e1 w1
  obtain⟨u',e2',w2'⟩:=f k u e2 w2
  exact R.ap j k t' u' b e1' w1' e2' w2' e3 e4
theorem noLent_looks(R:Rel K G F σ H ρ){ys:List Opd}{vs:List V}{k:List D->Prop}(m:lentAny ρ ys=false)(o:OpdsAt K F σ vs ys)(h:looksQ ρ ys k):∃ds,DaAll K F vs ds/\k ds:=by
 induction o generalizing k with
 | nil=>exact ⟨[],.nil,h⟩
 | @cons v x vs ys o t ih =>
  cases x with
  | inr d =>
   obtain⟨ds,a,q⟩:=ih (k:=λds=>k (d :: ds)) m h
   exact ⟨d :: ds,.cons o a,q⟩
  | inl i =>
   unfold looksQ at h
   unfold lentAny at m
   simp only[Bool.or_eq_false_iff]at m
   split at h
   ·rename_i s e
    obtain⟨ds,a,q⟩:=ih (k:=λds=>k (s.d :: ds)) m.2 h
    refine ⟨s.d :: ds,.cons ?_ a,q⟩
    have m1:=m.1
    rw[e]at m1
    cases s with
    | fz d =>
     obtain⟨v',e1,e2⟩:=R.fz i d e
     have o:σ[i]?=some (some v):=o
     rw[o]at e1;cases e1
     exact e2
    | ow d=>cases m1
    | io d=>cases m1
   ·exact h.elim
theorem l_callI{con:Con}{i:Nat}{as:List AD}{E:XK}{Q:VK}(h:lift K (dCallI con i as) σ H Q):tCall (conSp K con) [] E (tArgs ((.inl i :: as).map (argT K))) σ H Q:=by
 obtain⟨G,F,ρ,Qd,R,w,k⟩:=h
 unfold dCallI dArgs at w
 split at w
 ·rename_i s0 e0
  obtain⟨v,ev⟩:=R.bound e0
  refine ⟨v,ev,args_ok R w λvs H1 F1 xs ρ1 s1 R1 o w1=>?_⟩
  show conSp K con (v :: vs++[]) H1 Q E
  rw[T2]
  have w1:callI con i xs ρ1 Qd:=w1
  unfold callI at w1
  split at w1
  ·rename_i s e
   split at w1
   ·rename_i p1 p2
    obtain⟨a,o',g1,g2,g3,g4⟩:=R1.ow i s e p1
    rw[ev]at g1;cases g1
    obtain⟨ds,da,w1⟩:=noLent_looks R1 p2 o w1
    refine ⟨_,F1,.io s.d :: ds.map Sl.fz,_,rel_callI R1.sub g2 g3 g4 da,w1,λv H' F' r ρ' s' R' r' q=>?_⟩
    split at q
    ·rename_i d' ρ2
     have R2:=R1.calledI e p1 ev R'
     refine k v H' F' r _ (s1.trans s') R2 ?_ q
     cases r with
     | fz d=>exact r'
     | io d=>exact r'.elim
     | ow d =>
      obtain⟨b,u,h1,h2,h3,h4,h5,_⟩:=r'
      have h5:H1 b=none:=h5
      refine ⟨b,u,h1,h2,h3,h4,R1.h0 h5,λj t es w z=>?_⟩
      have own:∃t',ρ1[j]?=some (some t')/\isOw t'=true:=by
       rcases get_set es with⟨rfl,y⟩|⟨n,y⟩
       ·exact ⟨s,e,p1⟩
       ·exact ⟨t,y,w⟩
      obtain⟨t',y1,y2⟩:=own
      obtain⟨a',o',q1,_,q3,_⟩:=R1.ow j t' y1 y2
      rw[z]at q1;cases q1
      rw[h5]at q3;cases q3
    ·exact q.elim
   ·exact w1.elim
  ·exact w1.elim
 ·exact w.elim
noncomputable def startE(n:Nat)(args:List Sl):Ev:=args.map some++Z0 (n - args.length) none
noncomputable def outs:List Sl->Ev->Ev
 | [],_=>[]
 | .io _ :: as,ρ=>(ρ.headD none) :: outs as ρ.tail
 | .fz d :: as,ρ=>some (.fz d) :: outs as ρ.tail
 | .ow d :: as,ρ=>some (.ow d) :: outs as ρ.tail
theorem app_none{α:Type}{l:List (Option α)}{n i:Nat}{x:α}(h:(l++Z0 n none)[i]?=some (some x)):l[i]?=some (some x):=by
 by_cases z:i < l.length
 ·rw[T1 z]at h;exact h
 ·rw[B1 (A7 z),J7]at h
  split at h<;>cases h
theorem app_left{α:Type}{l m:List α}{i:Nat}{x:α}(h:l[i]?=some x):(l++m)[i]?=some x:=by rw[T1 (lt_of_get h)];exact h
theorem Rel.start{vs:List V}{args:List Sl}{N:List Str}(R:Rel K G F (vs.map some) H (args.map some)):Rel K G F (L2.start N vs) H (startE N.length args) where
 len:=by have:=R.len;simp[L2.start,startE]at this ⊢;omega
 sub:=R.sub
 sub0:=R.sub0
 fn:=R.fn
 keep:=R.keep
 fz:=λi d e=>by
  obtain⟨v,h1,h2⟩:=R.fz i d (app_none e)
  exact ⟨v,app_left h1,h2⟩
 ow:=λi s e w=>by
  obtain⟨a,o,h1,h2⟩:=R.ow i s (app_none e) w
  exact ⟨a,o,app_left h1,h2⟩
 new:=λi d a e ea=>R.new i d a (app_none e) (app_none ea)
 io:=λi a e=>by
  obtain⟨d,h1,h2⟩:=R.io i a e
  exact ⟨d,app_left h1,app_left h2⟩
 ioi:=λi d e=>R.ioi i d (app_none e)
 ap:=λi j s t a e1 w1 e2 w2 e3 e4=>R.ap i j s t a (app_none e1) w1 (app_none e2) w2 (app_none e3) (app_none e4)
theorem outs_get:∀{args:List Sl}{ρ:Ev}{i:Nat}{s:Sl},(outs args ρ)[i]?=some (some s)->(∃d,args[i]?=some (.io d)/\ρ[i]?=some (some s))\/(args[i]?=some s/\∀d,s≠.io d)
 | [],ρ,i,s,h=>by simp[outs]at h
 | .io d :: as,ρ,0,s,h=>by
  simp[outs]at h
  cases ρ with
  | nil=>simp at h
  | cons x ρ=>simp at h;exact .inl ⟨d,by simp,by simp[h]⟩
 | .fz d :: as,ρ,0,s,h=>by simp[outs]at h;subst h;exact .inr ⟨by simp,λd z=>by cases z⟩
 | .ow d :: as,ρ,0,s,h=>by simp[outs]at h;subst h;exact .inr ⟨by simp,λd z=>by cases z⟩
 | .io d :: as,ρ,i+1,s,h=>by
  simp only[outs,v4]at h
  rcases outs_get h with⟨d,h1,h2⟩|⟨h1,h2⟩
  ·exact .inl ⟨d,by simpa using h1,by cases ρ with|nil=>simp at h2|cons x ρ=>simpa using h2⟩
  ·exact .inr ⟨by simpa using h1,h2⟩
 | .fz d :: as,ρ,i+1,s,h=>by
  simp only[outs,v4]at h
  rcases outs_get h with⟨d,h1,h2⟩|⟨h1,h2⟩
  ·exact .inl ⟨d,by simpa using h1,by cases ρ with|nil=>simp at h2|cons x ρ=>simpa using h2⟩
  ·exact .inr ⟨by simpa using h1,h2⟩
 | .ow d :: as,ρ,i+1,s,h=>by
  simp only[outs,v4]at h
  rcases outs_get h with⟨d,h1,h2⟩|⟨h1,h2⟩
  ·exact .inl ⟨d,by simpa using h1,by cases ρ with|nil=>simp at h2|cons x ρ=>simpa using h2⟩
  ·exact .inr ⟨by simpa using h1,h2⟩
theorem outs_of:∀{args:List Sl}{ρ:Ev}{i:Nat}{d:D}{x:Option Sl},args[i]?=some (.io d)->ρ[i]?=some x->(outs args ρ)[i]?=some x
 | [],_,_,_,_,h,_=>by simp at h
 | _ :: _,[],_,_,_,_,h=>by simp at h
 | s :: as,y :: ρ,0,d,x,h,h'=>by simp at h h';subst h h';simp[outs]
 | s :: as,y :: ρ,i+1,d,x,h,h'=>by
  have:=outs_of (args:=as) (ρ:=ρ) (i:=i) (by simpa using h) (by simpa using h')
  cases s<;>simpa [outs]using this
theorem outs_len:∀(args:List Sl) (ρ:Ev),(outs args ρ).length=args.length
 | [],_=>rfl
 | s :: as,ρ=>by cases s<;>simp[outs,outs_len as]
theorem get_args{args:List Sl}{i:Nat}{s:Sl}(h:(args.map some)[i]?=some (some s)):args[i]?=some s:=by
 rw[E1]at h
 cases e:args[i]? with
 | none=>rw[e]at h;cases h
 | some x=>rw[e]at h;cases h;rfl
theorem args_get{args:List Sl}{i:Nat}{s:Sl}(h:args[i]?=some s):(args.map some)[i]?=some (some s):=by rw[E1,h];rfl
theorem Rel.ret{vs:List V}{args:List Sl}{σ':St}{ρ':Ev}(hn:∀s∈args,∀d,s≠.ow d)(R:Rel K G F (vs.map some) H (args.map some))(sb:Sub F F')(R':Rel K G F' σ' H' ρ'):Rel K G F' (vs.map some) H' (outs args ρ'):=by
 have own:∀{i:Nat}{s:Sl},(outs args ρ')[i]?=some (some s)->isOw s=true->∃d a,args[i]?=some (.io d)/\ρ'[i]?=some (some s)/\G.io i=some a/\(vs.map some)[i]?=some (some (V.ref a))/\σ'[i]?=some (some (V.ref a)):=λ{i s} e w=>by
  rcases outs_get e with⟨d,h1,h2⟩|⟨h1,h2⟩
  ·obtain⟨a,h3⟩:=R.ioi i d (args_get h1)
   obtain⟨_,_,h4⟩:=R.io i a h3
   obtain⟨_,_,h5⟩:=R'.io i a h3
   exact ⟨d,a,h1,h2,h3,h4,h5⟩
  ·cases s with
   | fz d=>cases w
   | ow d=>exact (hn _ (E2 h1) d rfl).elim
   | io d=>exact (h2 d rfl).elim
 refine ⟨by rw[outs_len];simpa using R.len,R'.sub,R'.sub0,R'.fn,R'.keep,λi d e=>?_,λi s e w=>?_,λi d a e ea=>?_,λi a e=>?_,λi d e=>?_,λi j s t a e1 w1 e2 w2 e3 e4=>?_⟩
 ·rcases outs_get e with⟨d',h1,h2⟩|⟨h1,h2⟩
  ·obtain⟨a,h3⟩:=R.ioi i d' (args_get h1)
   obtain⟨d2,h4,_⟩:=R'.io i a h3
   rw[h2]at h4;cases h4
  ·obtain⟨v,h3,h4⟩:=R.fz i d (args_get h1)
   exact ⟨v,h3,h4.mono sb⟩
 ·obtain⟨d,a,h1,h2,h3,h4,h5⟩:=own e w
  obtain⟨b,o,g1,g2⟩:=R'.ow i s h2 w
  rw[h5]at g1;cases g1
  exact ⟨a,o,h4,g2⟩
 ·obtain⟨d',b,h1,h2,h3,h4,h5⟩:=own e rfl
  rw[h4]at ea;cases ea
  exact R'.new i d _ h2 h5
 ·obtain⟨d,h1,h2⟩:=R.io i a e
  obtain⟨d',h3,h4⟩:=R'.io i a e
  exact ⟨d',outs_of (get_args h1) h3,h2⟩
 ·obtain⟨d',a,h1,h2,h3,h4,h5⟩:=own e rfl
  exact ⟨a,h3⟩
 ·obtain⟨_,a1,_,h2,_,h4,h5⟩:=own e1 w1
  obtain⟨_,a2,_,g2,_,g4,g5⟩:=own e2 w2
  rw[h4]at e3;cases e3
  rw[g4]at e4;cases e4
  exact R'.ap i j s t a h2 w1 g2 w2 h5 g5
theorem Res.ret{vs:List V}{args:List Sl}{σ':St}{ρ':Ev}{v:V}{r:Sl}(hn:∀s∈args,∀d,s≠.ow d)(R:Rel K G F (vs.map some) H (args.map some))(R':Rel K G F' σ' H' ρ')(q:Res K G F' H' σ' ρ' v r):Res K G F' H' (vs.map some) (outs args ρ') v r:=by
 cases r with
 | fz d=>exact q
 | io d=>exact q.elim
 | ow d =>
  obtain⟨a,o,h1,h2,h3,h4,h5,h6⟩:=q
  refine ⟨a,o,h1,h2,h3,h4,h5,λi s e w z=>?_⟩
  rcases outs_get e with⟨d',g1,g2⟩|⟨g1,g2⟩
  ·obtain⟨b,g3⟩:=R.ioi i d' (args_get g1)
   obtain⟨_,_,g4⟩:=R.io i b g3
   obtain⟨_,_,g5⟩:=R'.io i b g3
   rw[g4]at z;cases z
   exact h6 i s g2 w g5
  ·cases s with
   | fz d=>cases w
   | ow d=>exact (hn _ (E2 g1) d rfl).elim
   | io d=>exact (g2 d rfl).elim
noncomputable def endsOf(args:List Sl)(Qd:Sl->Ev->Prop):DE:={ nx:=λρ=>Qd (.fz .none) (outs args ρ),rt:=λr ρ=>Qd r (outs args ρ),bk:=λ_=>False,ct:=λ_=>False }
theorem l_def{N:List Str}{con:Con}{ts:TDS}{vs:List V}{Q:VK}{E:XK}(hc:∀args Qd,con args Qd->(∀s∈args,∀d,s≠.ow d)/\ts (endsOf args Qd) (startE N.length args))(h:conSp K con vs H Q E):liftS K ts { nx:=λ_ H'=>Q .non H',rt:=Q } (L2.start N vs) H:=by
 obtain⟨G,F,args,Qd,R,w,k⟩:=h
 obtain⟨hn,w⟩:=hc args Qd w
 refine ⟨G,F,_,_,R.start,w,λσ' H' F' ρ' s R' q=>?_,λv σ' H' F' r ρ' s R' r' q=>?_,λ_ _ _ _ _ _ q=>q.elim,λ_ _ _ _ _ _ q=>q.elim⟩
 ·exact k .non H' F' (.fz .none) _ s (R.ret hn s R') Da.non q
 ·exact k v H' F' r _ s (R.ret hn s R') (r'.ret hn R R') q
end
section
variable {K:Fg}{F H:Hp}{v:V}
theorem At.int{i:Int}(h:At K F H v (.int i)):v=.int i:=by
 rcases h with h|⟨a,o,rfl,_,_,h⟩
 ·cases h;rfl
 ·cases o<;>exact h.elim
theorem At.bool{b:Bool}(h:At K F H v (.bool b)):v=.bl b:=by
 rcases h with h|⟨a,o,rfl,_,_,h⟩
 ·cases h;rfl
 ·cases o<;>exact h.elim
theorem At.str{x:Str}(h:At K F H v (.str x)):v=.str x:=by
 rcases h with h|⟨a,o,rfl,_,_,h⟩
 ·cases h;rfl
 ·cases o<;>exact h.elim
theorem At.none(h:At K F H v .none):v=.non:=by
 rcases h with h|⟨a,o,rfl,_,_,h⟩
 ·cases h;rfl
 ·cases o<;>exact h.elim
theorem At.list{ds:List D}(s:Sub F H)(h:At K F H v (.list ds)):∃a xs,v=.ref a/\H a=some (.lst xs)/\DaAll K F xs ds:=by
 rcases h with h|⟨a,o,rfl,_,e,h⟩
 ·cases h with
  | lst e t=>exact ⟨_,_,rfl,s _ _ e,t⟩
 ·cases o<;>first|exact h.elim|exact ⟨_,_,rfl,e,h⟩
theorem At.tuple{ds:List D}(s:Sub F H)(h:At K F H v (.tuple ds)):∃a xs,v=.ref a/\F a=some (.tup xs)/\H a=some (.tup xs)/\DaAll K F xs ds:=by
 rcases h with h|⟨a,o,rfl,_,e,h⟩
 ·cases h with
  | tup e t=>exact ⟨_,_,rfl,e,s _ _ e,t⟩
 ·cases o<;>exact h.elim
theorem keyD_ne(k:Key):keyD k≠.none:=by cases k<;>(intro z;cases z)
theorem Da.scr_inv{ns:List Int}:∀{d:D},Da K F v d->d=scrD ns->∃a,v=.ref a/\SqL K F a (ns.map V.int)
 | _,.non,e=>by cases e
 | _,.bl _,e=>by cases e
 | _,.int _,e=>by cases e
 | _,.str _,e=>by cases e
 | _,.lst _ _,e=>by cases e
 | _,.tup _ _,e=>by cases e
 | _,.dk _ t,e=>by
  cases t with
  | nil=>injection e with e;cases e
  | cons _ _ =>
   injection e with e
   injection e with e _
   injection e with e _
   exact (keyD_ne _ e).elim
 | _,.dt _ t,e=>by
  cases t with
  | nil=>injection e with e;cases e
  | cons _ _ =>
   injection e with e
   injection e with e _
   injection e with e _
   cases e
 | _,.scr (ns:=ns') q,e=>by
  injection e with e
  injection e with e _
  injection e with _ e
  injection e with e2
  have:∀(l m:List Int),l.map j0=m.map j0->l=m:=by
   intro l
   induction l with
   | nil=>intro m e;cases m with|nil=>rfl|cons=>simp at e
   | cons a l ih=>intro m e;cases m with|nil=>simp at e|cons b m=>simp at e;rw[e.1,ih m e.2]
  rw[<- this _ _ e2]
  exact ⟨_,rfl,q⟩
theorem At.scr{ns:List Int}(s:Sub F H)(h:At K F H v (scrD ns)):∃a,v=.ref a/\SqL K H a (ns.map V.int):=by
 rcases h with h|⟨a,o,rfl,_,e,h⟩
 ·obtain⟨a,h1,h2⟩:=h.scr_inv rfl
  exact ⟨a,h1,s.sql h2⟩
 ·exfalso
  cases o<;>first|exact h.elim|skip
  ·rename_i kvs
   have h:DaKV K F kvs [(.none,.list (ns.map j0))]:=h
   generalize q:[(PyData.none,M4 (ns.map j0))]=es at h
   cases h with
   | nil=>cases q
   | cons _ _ =>
    injection q with q _
    injection q with q _
    exact keyD_ne _ q.symm
  ·rename_i kvs
   have h:DaKT K F kvs [(.none,.list (ns.map j0))]:=h
   cases h
theorem AtAll.one{vs:List V}{d:D}(h:AtAll K F H vs [d]):∃v,vs=[v]/\At K F H v d:=by
 cases h with|cons a t=>cases t;exact ⟨_,rfl,a⟩
theorem AtAll.two{vs:List V}{d e:D}(h:AtAll K F H vs [d,e]):∃v u,vs=[v,u]/\At K F H v d/\At K F H u e:=by
 cases h with|cons a t=>cases t with|cons b t=>cases t;exact ⟨_,_,rfl,a,b⟩
end
noncomputable def r2L(r:R2):List V->Hp->VK->Prop:=λvs H Q=>∃x y,vs=[x,y]/\r x y H Q
noncomputable def r1L(r:V->Hp->VK->Prop):List V->Hp->VK->Prop:=λvs H Q=>∃x,vs=[x]/\r x H Q
theorem ok2{K:Fg}{r:R2}{f:D->D->(Sl->Prop)->Prop}(h:∀(G:Gh) (F:Hp) (σ:St) (H:Hp) (ρ:Ev) (x y:V) (d e:D) (Q:VK) (Qd:Sl->Prop),Rel K G F σ H ρ->At K F H x d->At K F H y e->f d e Qd ->
    (∀v H' F' s,Sub F F'->Rel K G F' σ H' ρ->Res K G F' H' σ ρ v s->Qd s->Q v H')->r x y H Q):OpOk K (r2L r) (o2 f):=by
 intro G F σ H ρ vs ds Q Qd R a w k
 match ds,a,w with
 | [d,e],a,w =>
  obtain⟨v,u,rfl,h1,h2⟩:=a.two
  exact ⟨v,u,rfl,h G F σ H ρ v u d e Q Qd R h1 h2 w k⟩
theorem ok1{K:Fg}{r:List V->Hp->VK->Prop}{f:D->(Sl->Prop)->Prop}(h:∀(G:Gh) (F:Hp) (σ:St) (H:Hp) (ρ:Ev) (x:V) (d:D) (Q:VK) (Qd:Sl->Prop),Rel K G F σ H ρ->At K F H x d->f d Qd ->
    (∀v H' F' s,Sub F F'->Rel K G F' σ H' ρ->Res K G F' H' σ ρ v s->Qd s->Q v H')->r [x] H Q):OpOk K r (o1 f):=by
 intro G F σ H ρ vs ds Q Qd R a w k
 match ds,a,w with
 | [d],a,w =>
  obtain⟨v,rfl,h1⟩:=a.one
  exact h G F σ H ρ v d Q Qd R h1 w k
noncomputable def fI(C:Int->Int->Prop)(g:Int->Int->D):D->D->(Sl->Prop)->Prop
 | .int i,.int j,Q=>C i j/\Q (.fz (g i j))
 | _,_,_=>False
noncomputable def fI0(g:Int->Int->D):D->D->(Sl->Prop)->Prop
 | .int i,.int j,Q=>Q (.fz (g i j))
 | _,_,_=>False
theorem ok_I{K:Fg}{C:Int->Int->Prop}{g:Int->Int->V}{g':Int->Int->D}(hg:∀F i j,Da K F (g i j) (g' i j)):OpOk K (r2L (rI C g)) (o2 (fI C g')):=ok2 λG F σ H ρ x y d e Q Qd R h1 h2 w k=>by
 cases d<;>first|exact w.elim|skip
 cases e<;>first|exact w.elim|skip
 case int.int i j =>
  cases h1.int
  cases h2.int
  exact ⟨i,j,rfl,rfl,w.1,k _ H F (.fz _) (Sub.refl _) R (hg F i j) w.2⟩
theorem ok_I0{K:Fg}{g:Int->Int->V}{g':Int->Int->D}(hg:∀F i j,Da K F (g i j) (g' i j)):OpOk K (r2L (rI0 g)) (o2 (fI0 g')):=ok2 λG F σ H ρ x y d e Q Qd R h1 h2 w k=>by
 cases d<;>first|exact w.elim|skip
 cases e<;>first|exact w.elim|skip
 case int.int i j =>
  cases h1.int
  cases h2.int
  exact ⟨i,j,rfl,rfl,k _ H F (.fz _) (Sub.refl _) R (hg F i j) w⟩
noncomputable def rAny(r r':R2):R2:=λx y H Q=>r x y H Q\/r' x y H Q
noncomputable def rCatB:R2:=λx y H Q=>∃(a b:Addr) (xs ys:List V),x=.ref a/\y=.ref b/\H a=some (.tup xs)/\H b=some (.tup ys)/\xs.length+ys.length<=sizeLine /\
 (xs=[]->Q (.ref b) H)/\(xs≠[]->ys=[]->Q (.ref a) H)/\(xs≠[]->ys≠[]->∀p,H p=none->Q (.ref p) (upd H p (.tup (xs++ys))))
noncomputable def fAdd:D->D->(Sl->Prop)->Prop
 | .int i,.int j,Q=>Q (.fz (.int (i+j)))
 | .tuple xs,.tuple ys,Q=>xs.length+ys.length<=sizeLine/\Q (.fz (.tuple (xs++ys)))
 | .list xs,.list ys,Q=>xs.length+ys.length<=sizeLine/\Q (.ow (.list (xs++ys)))
 | _,_,_=>False
theorem DaAll.nil_of{K:Fg}{F:Hp}{ds:List D}(h:DaAll K F [] ds):ds=[]:=by cases h;rfl
theorem ok_add{K:Fg}:OpOk K (r2L (rAny (rI0 λi j=>.int (i+j)) (rAny rCatB rCat))) (o2 fAdd):=ok2 λG F σ H ρ x y d e Q Qd R h1 h2 w k=>by
 cases d<;>first|exact w.elim|(cases e<;>first|exact w.elim|skip)
 case int.int i j =>
  cases h1.int
  cases h2.int
  exact .inl ⟨i,j,rfl,rfl,k _ H F (.fz _) (Sub.refl _) R (Da.int _) w⟩
 case tuple.tuple xs ys =>
  obtain⟨a,us,rfl,f1,e1,d1⟩:=h1.tuple R.sub
  obtain⟨b,ws,rfl,f2,e2,d2⟩:=h2.tuple R.sub
  refine .inr (.inl ⟨a,b,us,ws,rfl,rfl,e1,e2,by rw[d1.length,d2.length];exact w.1,λz=>?_,λ_ z=>?_,λ_ _ p hp=>?_⟩)
  ·subst z
   have:=d1.nil_of
   subst this
   exact k _ H F (.fz _) (Sub.refl _) R (Da.tup f2 d2) w.2
  ·subst z
   have:=d2.nil_of
   subst this
   refine k _ H F (.fz _) (Sub.refl _) R (Da.tup f1 d1) ?_
   have:=w.2
   rw[T2]at this
   exact this
  ·obtain⟨sb,R',dd⟩:=R.newTup hp (d1.append d2)
   exact k _ _ _ (.fz _) sb R' dd w.2
 case list.list xs ys =>
  obtain⟨a,us,rfl,e1,d1⟩:=h1.list R.sub
  obtain⟨b,ws,rfl,e2,d2⟩:=h2.list R.sub
  refine .inr (.inr ⟨a,b,us,ws,rfl,rfl,e1,e2,by rw[d1.length,d2.length];exact w.1,λp hp=>?_⟩)
  obtain⟨R',r'⟩:=R.newOw (o:=.lst (us++ws)) (d:=.list (xs++ys)) hp (d1.append d2)
  exact k _ _ F _ (Sub.refl _) R' r' w.2
noncomputable def fMul:D->D->(Sl->Prop)->Prop
 | .int i,.int j,Q=>CMul i j/\Q (.fz (.int (i * j)))
 | .list xs,.int k,Q=>-(2 ^ 63)<=k/\k < 2 ^ 63/\xs.length * k.toNat<=sizeLine/\Q (.ow (.list (Z0 k.toNat xs).flatten))
 | _,_,_=>False
theorem ok_mul{K:Fg}:OpOk K (r2L (rAny (rI CMul λi j=>.int (i * j)) rRep)) (o2 fMul):=ok2 λG F σ H ρ x y d e Q Qd R h1 h2 w k=>by
 cases d<;>first|exact w.elim|(cases e<;>first|exact w.elim|skip)
 case int.int i j =>
  cases h1.int
  cases h2.int
  exact .inl ⟨i,j,rfl,rfl,w.1,k _ H F (.fz _) (Sub.refl _) R (Da.int _) w.2⟩
 case list.int xs j =>
  cases h2.int
  obtain⟨a,us,rfl,e1,d1⟩:=h1.list R.sub
  refine .inr ⟨a,j,us,rfl,rfl,e1,w.1,w.2.1,by rw[d1.length];exact w.2.2.1,λp hp=>?_⟩
  obtain⟨R',r'⟩:=R.newOw (o:=.lst (Z0 j.toNat us).flatten) (d:=.list (Z0 j.toNat xs).flatten) hp (d1.rep _)
  exact k _ _ F _ (Sub.refl _) R' r' w.2.2.2
noncomputable def fLen:D->(Sl->Prop)->Prop
 | .list ds,Q=>Q (.fz (.int ds.length))
 | .tuple ds,Q=>Q (.fz (.int ds.length))
 | .dict [(.none,.list ds)],Q=>∃ns:List Int,ds=ns.map j0/\Q (.fz (.int ns.length))
 | _,_=>False
theorem ok_len{K:Fg}:OpOk K (rLen K) (o1 fLen):=ok1 λG F σ H ρ x d Q Qd R h1 w k=>by
 cases d<;>first|exact w.elim|skip
 case list ds =>
  obtain⟨a,us,rfl,e1,d1⟩:=h1.list R.sub
  exact ⟨a,us,rfl,.inl (SqL.of e1),k _ H F (.fz _) (Sub.refl _) R (Da.int _) (by rw[d1.length];exact w)⟩
 case tuple ds =>
  obtain⟨a,us,rfl,_,e1,d1⟩:=h1.tuple R.sub
  exact ⟨a,us,rfl,.inr (SqT.of e1),k _ H F (.fz _) (Sub.refl _) R (Da.int _) (by rw[d1.length];exact w)⟩
 case dict es =>
  rcases es with _|⟨⟨c1,c2⟩,_|⟨c3,c4⟩⟩
  ·exact w.elim
  ·cases c1<;>first|exact w.elim|skip
   cases c2<;>first|exact w.elim|skip
   obtain⟨ns,rfl,w⟩:=w
   obtain⟨a,rfl,q⟩:=h1.scr R.sub
   exact ⟨a,_,rfl,.inl q,k _ H F (.fz _) (Sub.refl _) R (Da.int _) (by rw[n0];exact w)⟩
  ·cases c1<;>first|exact w.elim|(cases c2<;>exact w.elim)
noncomputable def fIx:D->D->(Sl->Prop)->Prop
 | .list ds,.int i,Q=>∃d,atI ds i=some d/\Q (.fz d)
 | .tuple ds,.int i,Q=>∃d,atI ds i=some d/\Q (.fz d)
 | .dict [(.none,.list ds)],.int i,Q=>∃(ns:List Int) (n:Int),ds=ns.map j0/\atI ns i=some n/\Q (.fz (.int n))
 | _,_,_=>False
theorem DaAll.at{K:Fg}{F:Hp}{xs:List V}{ds:List D}{i:Int}{d:D}(h:DaAll K F xs ds)(e:atI ds i=some d):∃v,atI xs i=some v/\Da K F v d:=by
 unfold atI at e ⊢
 rw[h.length]
 cases q:ixN ds.length i with
 | none=>rw[q]at e;cases e
 | some j=>rw[q]at e;exact h.get e
theorem atI_map{α β:Type}(f:α->β){l:List α}{i:Int}{x:α}(h:atI l i=some x):atI (l.map f) i=some (f x):=by
 unfold atI at h ⊢
 rw[n0]
 cases q:ixN l.length i with
 | none=>rw[q]at h;cases h
 | some j=>rw[q]at h;simp at h ⊢;exact ⟨x,h,rfl⟩
theorem ok_ix{K:Fg}:OpOk K (r2L (rAny (rIxL K) (rIxT K))) (o2 fIx):=ok2 λG F σ H ρ x y d e Q Qd R h1 h2 w k=>by
 cases d<;>first|exact w.elim|skip
 case list ds =>
  cases e<;>first|exact w.elim|skip
  rename_i i
  obtain⟨d,w1,w2⟩:=w
  cases h2.int
  obtain⟨a,us,rfl,e1,d1⟩:=h1.list R.sub
  obtain⟨v,g1,g2⟩:=d1.at w1
  exact .inl ⟨a,us,i,v,rfl,rfl,SqL.of e1,g1,k _ H F (.fz _) (Sub.refl _) R g2 w2⟩
 case tuple ds =>
  cases e<;>first|exact w.elim|skip
  rename_i i
  obtain⟨d,w1,w2⟩:=w
  cases h2.int
  obtain⟨a,us,rfl,_,e1,d1⟩:=h1.tuple R.sub
  obtain⟨v,g1,g2⟩:=d1.at w1
  exact .inr ⟨a,us,i,v,rfl,rfl,SqT.of e1,g1,k _ H F (.fz _) (Sub.refl _) R g2 w2⟩
 case dict es =>
  rcases es with _|⟨⟨c1,c2⟩,_|⟨c3,c4⟩⟩
  ·exact w.elim
  ·cases c1<;>first|exact w.elim|skip
   cases c2<;>first|exact w.elim|skip
   cases e<;>first|exact w.elim|skip
   rename_i i
   obtain⟨ns,n,e,w1,w2⟩:=w
   subst e
   cases h2.int
   obtain⟨a,rfl,q⟩:=h1.scr R.sub
   exact .inl ⟨a,_,i,_,rfl,rfl,q,atI_map V.int w1,k _ H F (.fz _) (Sub.refl _) R (Da.int _) w2⟩
  ·cases c1<;>first|exact w.elim|(cases c2<;>exact w.elim)
noncomputable def fList:D->(Sl->Prop)->Prop
 | .list ds,Q=>Q (.ow (.list ds))
 | .tuple ds,Q=>Q (.ow (.list ds))
 | _,_=>False
theorem ok_list{K:Fg}:OpOk K (rListOf K) (o1 fList):=ok1 λG F σ H ρ x d Q Qd R h1 w k=>by
 match d,h1,w with
 | .list ds,h1,w =>
  obtain⟨a,us,rfl,e1,d1⟩:=h1.list R.sub
  refine ⟨a,us,rfl,.inl (SqL.of e1),λp hp=>?_⟩
  obtain⟨R',r'⟩:=R.newOw (o:=.lst us) (d:=.list ds) hp d1
  exact k _ _ F _ (Sub.refl _) R' r' w
 | .tuple ds,h1,w =>
  obtain⟨a,us,rfl,_,e1,d1⟩:=h1.tuple R.sub
  refine ⟨a,us,rfl,.inr (SqT.of e1),λp hp=>?_⟩
  obtain⟨R',r'⟩:=R.newOw (o:=.lst us) (d:=.list ds) hp d1
  exact k _ _ F _ (Sub.refl _) R' r' w
noncomputable def fTuple:D->(Sl->Prop)->Prop
 | .list ds,Q=>Q (.fz (.tuple ds))
 | .tuple ds,Q=>Q (.fz (.tuple ds))
 | _,_=>False
theorem ok_tuple{K:Fg}:OpOk K (rTupleOf K) (o1 fTuple):=ok1 λG F σ H ρ x d Q Qd R h1 w k=>by
 match d,h1,w with
 | .list ds,h1,w =>
  obtain⟨a,us,rfl,e1,d1⟩:=h1.list R.sub
  refine ⟨a,us,rfl,.inl ⟨SqL.of e1,λp hp=>?_⟩⟩
  obtain⟨sb,R',dd⟩:=R.newTup hp d1
  exact k _ _ _ (.fz _) sb R' dd w
 | .tuple ds,h1,w =>
  obtain⟨a,us,rfl,f1,e1,d1⟩:=h1.tuple R.sub
  exact ⟨a,us,rfl,.inr ⟨SqT.of e1,k _ H F (.fz _) (Sub.refl _) R (Da.tup f1 d1) w⟩⟩
noncomputable def fAll:D->(Sl->Prop)->Prop
 | .list ds,Q=>∃bs:List Bool,ds=bs.map K8/\Q (.fz (.bool (bs.all id)))
 | _,_=>False
theorem DaAll.bools{K:Fg}{F:Hp}:∀{xs:List V}{bs:List Bool},DaAll K F xs (bs.map K8)->xs=bs.map V.bl
 | [],[],_=>rfl
 | x :: xs,b :: bs,.cons h t=>by cases h;simp[DaAll.bools t]
theorem ok_all{K:Fg}:OpOk K (rAll K) (o1 fAll):=ok1 λG F σ H ρ x d Q Qd R h1 w k=>by
 match d,h1,w with
 | .list ds,h1,⟨bs,e,w⟩ =>
  subst e
  obtain⟨a,us,rfl,e1,d1⟩:=h1.list R.sub
  have:=d1.bools
  subst this
  exact ⟨a,bs,rfl,SqL.of e1,k _ H F (.fz _) (Sub.refl _) R (Da.bl _) w⟩
noncomputable def kiD:D->Ki
 | .none=>.non
 | .bool _=>.bl
 | .int _=>.int
 | .str _=>.str
 | .list _=>.lst
 | .tuple _=>.tup
 | .dict ((.none,_) :: _)=>.lst
 | .dict _=>.dct
noncomputable def fIsi(T:Ki):D->(Sl->Prop)->Prop
 | .dict _,_=>False
 | d,Q=>Q (.fz (.bool ((kiD d).sub T)))
theorem ok_isi{K:Fg}{T:Ki}:OpOk K (λvs H Q=>∃x,vs=[x]/\rIsi K [x,.ty T.nm] H Q) (o1 (fIsi T)):=ok1 λG F σ H ρ x d Q Qd R h1 w k=>by
 have go:∀(ki:Ki),KiOf K H x ki->Qd (.fz (.bool (ki.sub T)))->∃x',[x]=[x']/\rIsi K [x',.ty T.nm] H Q:=λki h w=>⟨x,rfl,x,ki,T,rfl,h,k _ H F (.fz _) (Sub.refl _) R (Da.bl _) w⟩
 match d,h1,w with
 | .none,h1,w=>cases h1.none;exact go .non rfl w
 | .bool b,h1,w=>cases h1.bool;exact go .bl rfl w
 | .int i,h1,w=>cases h1.int;exact go .int rfl w
 | .str z,h1,w=>cases h1.str;exact go .str rfl w
 | .list ds,h1,w =>
  obtain⟨a,us,rfl,e1,d1⟩:=h1.list R.sub
  exact go .lst (.inl ⟨rfl,us,SqL.of e1⟩) w
 | .tuple ds,h1,w =>
  obtain⟨a,us,rfl,_,e1,d1⟩:=h1.tuple R.sub
  exact go .tup (.inr (.inl ⟨rfl,us,SqT.of e1⟩)) w
noncomputable def fAbs:D->(Sl->Prop)->Prop
 | .int i,Q=>Q (.fz (.int (if i < 0 then -i else i)))
 | _,_=>False
theorem ok_abs{K:Fg}:OpOk K (λxs H Q=>∃i,xs=[V.int i]/\Q (V.int (if i < 0 then -i else i)) H) (o1 fAbs):=ok1 λG F σ H ρ x d Q Qd R h1 w k=>by
 match d,h1,w with
 | .int i,h1,w=>cases h1.int;exact ⟨i,rfl,k _ H F (.fz _) (Sub.refl _) R (Da.int _) w⟩
theorem ok_2I{K:Fg}{g:Int->Int->Int}:OpOk K (λxs H Q=>∃i j,xs=[V.int i,V.int j]/\Q (V.int (g i j)) H) (o2 (fI0 λi j=>.int (g i j))):=by
 intro G F σ H ρ vs ds Q Qd R a w k
 match ds,a,w with
 | [d,e],a,w =>
  obtain⟨v,u,rfl,h1,h2⟩:=a.two
  have w:fI0 (λi j=>.int (g i j)) d e Qd:=w
  unfold fI0 at w
  split at w
  rotate_left
  ·exact w.elim
  rename_i i j w
  cases h1.int
  cases h2.int
  exact ⟨i,j,rfl,k _ H F (.fz _) (Sub.refl _) R (Da.int _) w⟩
noncomputable def fInt:D->(Sl->Prop)->Prop
 | .int i,Q=>Q (.fz (.int i))
 | .bool b,Q=>Q (.fz (.int (if b then 1 else 0)))
 | _,_=>False
theorem ok_int{K:Fg}:OpOk K (λxs H Q=>(∃i,xs=[V.int i]/\Q (V.int i) H)\/∃k,xs=[V.bl k]/\Q (V.int (if k then 1 else 0)) H) (o1 fInt):=ok1 λG F σ H ρ x d Q Qd R h1 w k=>by
 match d,h1,w with
 | .int i,h1,w=>cases h1.int;exact .inl ⟨i,rfl,k _ H F (.fz _) (Sub.refl _) R (Da.int _) w⟩
 | .bool b,h1,w=>cases h1.bool;exact .inr ⟨b,rfl,k _ H F (.fz _) (Sub.refl _) R (Da.int _) w⟩
noncomputable def fNeg:D->(Sl->Prop)->Prop
 | .int i,Q=>Q (.fz (.int (-i)))
 | _,_=>False
theorem ok_neg{K:Fg}:OpOk K (r1L (rU λi=>.int (-i))) (o1 fNeg):=ok1 λG F σ H ρ x d Q Qd R h1 w k=>by
 match d,h1,w with
 | .int i,h1,w=>cases h1.int;exact ⟨_,rfl,i,rfl,k _ H F (.fz _) (Sub.refl _) R (Da.int _) w⟩
noncomputable def dOpF(as:List AD)(f:List D->(Sl->Prop)->Prop):TD:=λρ Q=>dArgs as ρ λxs ρ1=>match lentAny ρ1 xs with
 | false=>looksQ ρ1 xs λds=>f ds λr=>Q r ρ1
 | true=>False
noncomputable def fTupD(ds:List D)(Q:Sl->Prop):Prop:=Q (.fz (.tuple ds))
noncomputable def fLstD(ds:List D)(Q:Sl->Prop):Prop:=Q (.ow (.list ds))
theorem le_size{n:Nat}(h:n<=1000):n<=sizeLine:=Q1 h (by decide)
theorem l_tup{K:Fg}{as:List AD}(hl:as.length<=1000){σ:St}{H:Hp}{Q:VK}(h:lift K (dOpF as fTupD) σ H Q):tTup (tArgs (as.map (argT K))) σ H Q:=by
 obtain⟨G,F,ρ,Qd,R,w,k⟩:=h
 refine args_okL R w λvs H' F' xs ρ' sb R' o hn q=>?_
 split at q
 ·rename_i e
  obtain⟨ds,da,q⟩:=noLent_looks R' e o q
  refine ⟨le_size (by omega),λp hp=>?_⟩
  obtain⟨s2,R2,dd⟩:=R'.newTup hp da
  exact k _ _ _ (.fz _) _ (sb.trans s2) R2 dd q
 ·exact q.elim
theorem l_lst{K:Fg}{as:List AD}(hl:as.length<=1000){σ:St}{H:Hp}{Q:VK}(h:lift K (dOpF as fLstD) σ H Q):tLst (tArgs (as.map (argT K))) σ H Q:=by
 obtain⟨G,F,ρ,Qd,R,w,k⟩:=h
 refine args_okL R w λvs H' F' xs ρ' sb R' o hn q=>?_
 split at q
 ·rename_i e
  obtain⟨ds,da,q⟩:=noLent_looks R' e o q
  refine ⟨le_size (by omega),λp hp=>?_⟩
  obtain⟨R2,r2⟩:=R'.newOw (o:=.lst vs) (d:=.list ds) hp da
  exact k _ _ _ _ _ sb R2 r2 q
 ·exact q.elim
noncomputable def dChain(p q:Int->Int->Bool)(a b c:AD):TD:=λρ Q=>dArgs [a,b] ρ λxs ρ1=>looksQ ρ1 xs λds=>match ds with
 | [.int i,.int j]=>if p i j=true then dArgs [c] ρ1 λys ρ2=>looksQ ρ2 ys λes=>match es with
   | [.int k]=>Q (.fz (.bool (q j k))) ρ2
   | _=>False
  else Q (.fz (.bool false)) ρ1
 | _=>False
theorem l_chain{K:Fg}{p q:Int->Int->Bool}{a b c:AD}{σ:St}{H:Hp}{Q:VK}(h:lift K (dChain p q a b c) σ H Q) :
  tChain (rI0 λi j=>.bl (p i j)) (rI0 λi j=>.bl (q i j)) (argT K a) (argT K b) (argT K c) σ H Q:=by
 obtain⟨G,F,ρ,Qd,R,w,k⟩:=h
 have main:tArgs ([a,b].map (argT K)) σ H λvs H2=>∃x y,vs=[x,y]/\(rI0 λi j=>V.bl (p i j)) x y H2 λz H3=>∃k,z=.bl k /\
   (if k=true then argT K c σ H3 λw' H4=>(rI0 λi j=>V.bl (q i j)) y w' H4 Q else Q (.bl false) H3):=by
  refine args_ok R w λvs H' F' xs ρ' sb R' o w1=>?_
  obtain⟨ds,ha,w1⟩:=looks_ok R' o w1
  split at w1
  ·rename_i i j
   obtain⟨v,u,rfl,h1,h2⟩:=ha.two
   cases h1.int
   cases h2.int
   refine ⟨_,_,rfl,i,j,rfl,rfl,p i j,rfl,?_⟩
   by_cases e:p i j=true
   ·rw[if_pos e]at w1 ⊢
    have:=args_ok (as:=[c]) (Qv:=λvs H4=>∃w',vs=[w']/\(rI0 λi j=>V.bl (q i j)) (V.int j) w' H4 Q) R' w1 λvs H2 F2 ys ρ2 s2 R2 o2 w2=>by
     obtain⟨es,hb,w2⟩:=looks_ok R2 o2 w2
     split at w2
     ·rename_i k'
      obtain⟨v,rfl,h3⟩:=hb.one
      cases h3.int
      exact ⟨_,rfl,j,k',rfl,rfl,k _ H2 F2 (.fz _) ρ2 (sb.trans s2) R2 (Da.bl _) w2⟩
     ·exact w2.elim
    exact arg1 this
   ·rw[if_neg e]at w1 ⊢
    exact k _ H' F' (.fz _) ρ' sb R' (Da.bl _) w1
  ·exact w1.elim
 exact arg2 main
noncomputable def dMeth(i:Nat)(as:List AD)(f:List D->List D->(D->D->Prop)->Prop):TD:=λρ Q=>match ρ[i]? with
 | some (some s0)=>match s0.d,isOw s0 with
  | .list _,true=>dArgs as ρ λxs ρ1=>match ρ1[i]?,lentAny ρ1 xs with
   | some (some s),false=>match s.d,isOw s with
    | .list es,true=>looksQ ρ1 xs λds=>f es ds λd' r=>Q (.fz r) (ρ1.set i (some (s.put d')))
    | _,_=>False
   | _,_=>False
  | _,_=>False
 | _=>False
noncomputable def MOk(K:Fg)(r:V->List V->Hp->VK->Prop)(f:List D->List D->(D->D->Prop)->Prop):Prop :=
 ∀(F H:Hp) (a:Addr) (xs:List V) (es:List D) (vs:List V) (ds:List D) (Q:VK) (k:D->D->Prop),Sub F H->H a=some (.lst xs)->DaAll K F xs es->DaAll K F vs ds->f es ds k ->
  (∀v o' d' res,Own1 K F o' d'->Da K F v res->k d' res->Q v (upd H a o'))->r (.ref a) vs H Q
theorem l_meth{K:Fg}{i:Nat}{as:List AD}{r:V->List V->Hp->VK->Prop}{f:List D->List D->(D->D->Prop)->Prop}(ok:MOk K r f){σ:St}{H:Hp}{Q:VK}(h:lift K (dMeth i as f) σ H Q) :
  ∃a xs,σ[i]?=some (some (V.ref a))/\SqL K H a xs/\tArgs (as.map (argT K)) σ H λvs H2=>r (.ref a) vs H2 Q:=by
 obtain⟨G,F,ρ,Qd,R,w,k⟩:=h
 unfold dMeth at w
 split at w
 ·rename_i s0 e0
  split at w
  ·rename_i es0 p1 p2
   obtain⟨a,o,g1,g2,g3,g4⟩:=R.ow i s0 e0 p2
   have gl:∃xs,H a=some (.lst xs):=by
    rw[p1]at g4
    cases o<;>first|exact g4.elim|exact ⟨_,g3⟩
   obtain⟨xs0,gl⟩:=gl
   refine ⟨a,xs0,g1,SqL.of gl,args_ok R w λvs H1 F1 xs ρ1 s1 R1 o1 w1=>?_⟩
   split at w1
   ·rename_i s e en
    split at w1
    ·rename_i es q1 q2
     obtain⟨ds,da,w1⟩:=noLent_looks R1 en o1 w1
     obtain⟨a',o',h1,h2,h3,h4⟩:=R1.ow i s e q2
     rw[g1]at h1;cases h1
     rw[q1]at h4
     have hl:∃us,o'=.lst us/\DaAll K F1 us es:=by cases o'<;>first|exact h4.elim|exact ⟨_,rfl,h4⟩
     obtain⟨us,rfl,h4⟩:=hl
     refine ok F1 H1 a us es vs ds Q _ R1.sub h3 h4 da w1 λv o2 d2 res ho hv hk=>?_
     have R2:=R1.change (o':=o2) (d':=d2) e q2 g1 ho
     exact k v _ F1 (.fz res) _ s1 R2 hv hk
    ·exact w1.elim
   ·exact w1.elim
  ·exact w.elim
 ·exact w.elim
noncomputable def fAppend:List D->List D->(D->D->Prop)->Prop
 | es,[x],k=>es.length < sizeLine/\k (.list (es++[x])) .none
 | _,_,_=>False
theorem ok_append{K:Fg}:MOk K rAppend fAppend:=by
 intro F H a xs es vs ds Q k s e d1 d2 w q
 match ds,d2,w with
 | [x],.cons h .nil,w=>exact ⟨a,xs,_,rfl,rfl,e,by rw[d1.length];exact w.1,q _ (.lst (xs++[_])) (.list (es++[x])) _ (d1.append (.cons h .nil)) .non w.2⟩
noncomputable def fExtend:List D->List D->(D->D->Prop)->Prop
 | es,[.list ys],k=>es.length+ys.length<=sizeLine/\k (.list (es++ys)) .none
 | _,_,_=>False
theorem ok_extend{K:Fg}:MOk K rExtend fExtend:=by
 intro F H a xs es vs ds Q k s e d1 d2 w q
 match ds,d2,w with
 | [.list ys],.cons h .nil,w =>
  cases h with
  | lst e2 t=>exact ⟨a,_,xs,_,rfl,rfl,e,s _ _ e2,by rw[d1.length,t.length];exact w.1,q _ (.lst (xs++_)) (.list (es++ys)) _ (d1.append t) .non w.2⟩
noncomputable def fPop:List D->List D->(D->D->Prop)->Prop
 | es,[],k=>∃d,es[es.length - 1]?=some d/\k (.list es.dropLast) d
 | _,_,_=>False
theorem ok_pop{K:Fg}:MOk K rPop fPop:=by
 intro F H a xs es vs ds Q k s e d1 d2 w q
 match ds,d2,w with
 | [],.nil,⟨d,w1,w2⟩ =>
  obtain⟨v,h1,h2⟩:=d1.get w1
  exact ⟨a,xs,v,rfl,rfl,e,by rw[d1.length];exact h1,q v (.lst xs.dropLast) (.list es.dropLast) d d1.dropLast h2 w2⟩
noncomputable def fReverse:List D->List D->(D->D->Prop)->Prop
 | es,[],k=>k (.list es.reverse) .none
 | _,_,_=>False
theorem ok_reverse{K:Fg}:MOk K rReverse fReverse:=by
 intro F H a xs es vs ds Q k s e d1 d2 w q
 match ds,d2,w with
 | [],.nil,w=>exact ⟨a,xs,rfl,rfl,e,q .non (.lst xs.reverse) (.list es.reverse) .none d1.reverse .non w⟩
noncomputable def fInsert:List D->List D->(D->D->Prop)->Prop
 | es,[.int i,x],k=>es.length < sizeLine/\0<=i/\i<=es.length/\k (.list (es.take i.toNat++x :: es.drop i.toNat)) .none
 | _,_,_=>False
noncomputable def iSeq(K:Fg)(tl:TE):TI:=λσ H R=>tl σ H λx H1=>∃a,x=.ref a/\(((∃xs,SqL K H1 a xs)/\R (Itl K a) H1)\/((∃xs,SqT K H1 a xs)/\R (Itt K a) H1))
noncomputable def dISeq(a:TD):TDI:=λρ Q=>a ρ λr ρ1=>match r.d with
 | .list ds=>Q ds ρ1
 | .tuple ds=>Q ds ρ1
 | _=>False
theorem walks_list{K:Fg}{F:Hp}{a:Addr}{xs:List V}{ds:List D}(e:F a=some (.lst xs))(h:DaAll K F xs ds):Walks K (Itl K a) F ds:=λi H F1 s1 s2=>by
 have q:=SqL.of (K:=K) (s2 _ _ (s1 _ _ e))
 refine ⟨λd ed=>?_,λhl=>⟨xs,q,by rw[h.length];omega⟩⟩
 obtain⟨v,h1,h2⟩:=h.get ed
 refine ⟨⟨xs,v,q,h1⟩,λx H' ⟨e1,e2⟩=>?_⟩
 subst e1
 have:=e2 xs q
 rw[h1]at this;cases this
 exact ⟨F1,Sub.refl _,λ_ _ z=>.inl z,s2,Sub.refl _,h2.mono s1⟩
theorem walks_tup{K:Fg}{F:Hp}{a:Addr}{xs:List V}{ds:List D}(e:F a=some (.tup xs))(h:DaAll K F xs ds):Walks K (Itt K a) F ds:=λi H F1 s1 s2=>by
 have q:=SqT.of (K:=K) (s2 _ _ (s1 _ _ e))
 refine ⟨λd ed=>?_,λhl=>⟨xs,q,by rw[h.length];omega⟩⟩
 obtain⟨v,h1,h2⟩:=h.get ed
 refine ⟨⟨xs,v,q,h1⟩,λx H' ⟨e1,e2⟩=>?_⟩
 subst e1
 have:=e2 xs q
 rw[h1]at this;cases this
 exact ⟨F1,Sub.refl _,λ_ _ z=>.inl z,s2,Sub.refl _,h2.mono s1⟩
theorem l_iseq{K:Fg}{a:TD}{σ:St}{H:Hp}{R:It->Hp->Prop}(h:liftI K (dISeq a) σ H R):iSeq K (lift K a) σ H R:=by
 obtain⟨G,F,ρ,Qd,Rl,w,k⟩:=h
 refine ⟨G,F,ρ,_,Rl,w,λv H1 F1 r ρ1 s1 R1 r1 w1=>?_⟩
 obtain⟨F2,s2,R2,d2⟩:=r1.frz R1
 split at w1
 ·rename_i ds e
  rw[e]at d2
  cases d2 with
  | lst q t=>exact ⟨_,rfl,.inl ⟨⟨_,SqL.of (R2.sub _ _ q)⟩,k _ H1 F2 ds ρ1 (s1.trans s2) R2 (walks_list q t) w1⟩⟩
 ·rename_i ds e
  rw[e]at d2
  cases d2 with
  | tup q t=>exact ⟨_,rfl,.inr ⟨⟨_,SqT.of (R2.sub _ _ q)⟩,k _ H1 F2 ds ρ1 (s1.trans s2) R2 (walks_tup q t) w1⟩⟩
 ·exact w1.elim
noncomputable def rangeD(lo:Int)(n:Nat):List D:=(V1 n).map λ(i:Nat)=>j0 (lo+i)
theorem walks_range{K:Fg}{F:Hp}{lo:Int}{n:Nat}:Walks K (Itr lo n) F (rangeD lo n):=λi H F1 s1 s2=>by
 have hl:(rangeD lo n).length=n:=by simp[rangeD]
 refine ⟨λd ed=>?_,λh=>by rw[hl]at h;exact Nat.le_of_eq h⟩
 have hi:i < n:=by have:=lt_of_get ed;rw[hl]at this;exact this
 have e:(rangeD lo n)[i]?=some (.int (lo+i)):=by simp[rangeD,hi]
 rw[e]at ed;cases ed
 refine ⟨hi,λx H' ⟨e1,e2⟩=>?_⟩
 subst e1 e2
 exact ⟨F1,Sub.refl _,λ_ _ z=>.inl z,s2,Sub.refl _,.int _⟩
noncomputable def dIRng1(a:AD):TDI:=λρ Q=>dArgs [a] ρ λxs ρ1=>looksQ ρ1 xs λds=>match ds with
 | [.int j]=>-(2 ^ 62)<=j/\j < 2 ^ 62/\Q (rangeD 0 j.toNat) ρ1
 | _=>False
noncomputable def dIRng2(a b:AD):TDI:=λρ Q=>dArgs [a,b] ρ λxs ρ1=>looksQ ρ1 xs λds=>match ds with
 | [.int i,.int j]=>(-(2 ^ 62)<=i/\i < 2 ^ 62/\-(2 ^ 62)<=j/\j < 2 ^ 62)/\Q (rangeD i (j - i).toNat) ρ1
 | _=>False
theorem l_rng1{K:Fg}{a:AD}{σ:St}{H:Hp}{R:It->Hp->Prop}(h:liftI K (dIRng1 a) σ H R):iRng1 (tArgs ([a].map (argT K))) σ H R:=by
 obtain⟨G,F,ρ,Qd,Rl,w,k⟩:=h
 refine args_ok Rl w λvs H' F' xs ρ' sb R' o w1=>?_
 obtain⟨ds,ha,w1⟩:=looks_ok R' o w1
 split at w1
 ·rename_i j
  obtain⟨v,rfl,h1⟩:=ha.one
  cases h1.int
  exact ⟨j,rfl,w1.1,w1.2.1,k _ H' F' _ ρ' sb R' walks_range w1.2.2⟩
 ·exact w1.elim
theorem l_rng2{K:Fg}{a b:AD}{σ:St}{H:Hp}{R:It->Hp->Prop}(h:liftI K (dIRng2 a b) σ H R):iRng2 (tArgs ([a,b].map (argT K))) σ H R:=by
 obtain⟨G,F,ρ,Qd,Rl,w,k⟩:=h
 refine args_ok Rl w λvs H' F' xs ρ' sb R' o w1=>?_
 obtain⟨ds,ha,w1⟩:=looks_ok R' o w1
 split at w1
 ·rename_i i j
  obtain⟨v,u,rfl,h1,h2⟩:=ha.two
  cases h1.int
  cases h2.int
  exact ⟨i,j,rfl,w1.1,k _ H' F' _ ρ' sb R' walks_range w1.2⟩
 ·exact w1.elim
noncomputable def SeqF(K:Fg)(F:Hp)(v:V)(ds:List D):Prop:=∃k a xs,v=.ref a/\(F a=some (match k with|Kd.l=>HO.lst xs|Kd.t=>HO.tup xs))/\DaAll K F xs ds
theorem sq_of{K:Fg}{H:Hp}{a:Addr}{xs:List V}{k:Kd}(e:H a=some (match k with|Kd.l=>HO.lst xs|Kd.t=>HO.tup xs)):Sq k K H a xs:=by
 cases k with
 | l=>exact SqL.of e
 | t=>exact SqT.of e
noncomputable def seqD:D->Option (List D)
 | .list ds=>some ds
 | .tuple ds=>some ds
 | _=>none
theorem seqF_of{K:Fg}{F:Hp}{v:V}{d:D}{ds:List D}(h:Da K F v d)(e:seqD d=some ds):∃k a xs,v=.ref a/\(F a=some (match k with|Kd.l=>HO.lst xs|Kd.t=>HO.tup xs))/\DaAll K F xs ds:=by
 cases h with
 | lst q t=>cases e;exact ⟨.l,_,_,rfl,q,t⟩
 | tup q t=>cases e;exact ⟨.t,_,_,rfl,q,t⟩
 | non=>cases e
 | bl=>cases e
 | int=>cases e
 | str=>cases e
 | dk _ _=>cases e
 | dt _ _=>cases e
 | scr _=>cases e
 | exc _=>cases e
noncomputable def zipD(ds es:List D):List D:=(ds.zip es).map λp=>N1 [p.1,p.2]
noncomputable def dIZip2(a b:AD):TDI:=λρ Q=>dArgs [a,b] ρ λxs ρ1=>match lentAny ρ1 xs with
 | false=>looksQ ρ1 xs λds=>match ds with
  | [x,y]=>match seqD x,seqD y with
   | some us,some ws=>Q (zipD us ws) ρ1
   | _,_=>False
  | _=>False
 | true=>False
theorem walks_zip2{K:Fg}{F:Hp}{a b:Addr}{k1 k2:Kd}{xs ys:List V}{ds es:List D}(e1:F a=some (match k1 with|Kd.l=>HO.lst xs|Kd.t=>HO.tup xs))(h1:DaAll K F xs ds)
  (e2:F b=some (match k2 with|Kd.l=>HO.lst ys|Kd.t=>HO.tup ys)) (h2:DaAll K F ys es):Walks K (Itz2 K k1 k2 a b) F (zipD ds es):=λi H F1 s1 s2=>by
 have q1:Sq k1 K H a xs:=sq_of (s2 _ _ (s1 _ _ e1))
 have q2:Sq k2 K H b ys:=sq_of (s2 _ _ (s1 _ _ e2))
 refine ⟨λd ed=>?_,λhl=>⟨xs,ys,q1,q2,?_⟩⟩
 ·simp only[zipD,E1,B4]at ed
  obtain⟨⟨x,y⟩,ez,rfl⟩:=ed
  rw[Z6]at ez
  obtain⟨v,g1,g2⟩:=h1.get ez.1
  obtain⟨u,g3,g4⟩:=h2.get ez.2
  refine ⟨⟨xs,v,ys,u,q1,q2,g1,g3⟩,λz H' ⟨T,x1,x2,hT,ex,eH,f1,f2⟩=>?_⟩
  subst ex eH
  have f1:=f1 xs q1
  have f2:=f2 ys q2
  rw[g1]at f1;cases f1
  rw[g3]at f2;cases f2
  have fT:F1 T=none:=by
   cases z:F1 T with
   | none=>rfl
   | some o=>rw[s2 _ _ z]at hT;cases hT
  refine ⟨upd F1 T (.tup [v,u]),Sub.new fT,λc o ec=>?_,λc o ec=>?_,Sub.new hT,.tup upd_same (.cons (g2.mono (s1.trans (Sub.new fT))) (.cons (g4.mono (s1.trans (Sub.new fT))) .nil))⟩
  ·by_cases z:c=T
   ·subst z;exact .inr hT
   ·rw[upd_ne z]at ec;exact .inl ec
  ·by_cases z:c=T
   ·subst z;rw[upd_same]at ec ⊢;exact ec
   ·rw[upd_ne z]at ec ⊢;exact s2 _ _ ec
 ·simp only[zipD,n0,K2]at hl
  rw[h1.length,h2.length]
  omega
theorem l_zip2{K:Fg}{a b:AD}{σ:St}{H:Hp}{R:It->Hp->Prop}(h:liftI K (dIZip2 a b) σ H R):iZip2 K (tArgs ([a,b].map (argT K))) σ H R:=by
 obtain⟨G,F,ρ,Qd,Rl,w,k⟩:=h
 refine args_ok Rl w λvs H' F' xs ρ' sb R' o w1=>?_
 split at w1
 ·rename_i e
  obtain⟨ds,da,w1⟩:=noLent_looks R' e o w1
  split at w1
  ·rename_i x y
   split at w1
   ·rename_i us ws p1 p2
    cases da with
    | cons d1 t =>
     cases t with
     | cons d2 t =>
      cases t
      obtain⟨k1,a1,us',rfl,e1,g1⟩:=seqF_of d1 p1
      obtain⟨k2,a2,ws',rfl,e2,g2⟩:=seqF_of d2 p2
      exact ⟨k1,a1,us',k2,a2,ws',rfl,sq_of (R'.sub _ _ e1),sq_of (R'.sub _ _ e2),k _ H' F' _ ρ' sb R' (walks_zip2 e1 g1 e2 g2) w1⟩
   ·exact w1.elim
  ·exact w1.elim
 ·exact w1.elim
noncomputable def kOf:D->Option Key
 | .int i=>some (.inl i)
 | .str x=>some (.inr x)
 | _=>none
theorem kOf_key(k:Key):kOf (keyD k)=some k:=by cases k<;>rfl
theorem kOf_inv{d:D}{k:Key}(h:kOf d=some k):d=keyD k:=by
 cases d<;>first|(cases h;rfl)|cases h
noncomputable def ksOf:List D->Option (List Key)
 | []=>some []
 | d :: ds=>match kOf d,ksOf ds with
  | some k,some ks=>some (k :: ks)
  | _,_=>none
theorem ksOf_map:∀ks:List Key,ksOf (ks.map keyD)=some ks
 | []=>rfl
 | k :: ks=>by simp[ksOf,kOf_key,ksOf_map ks]
theorem ksOf_inv:∀{ds:List D}{ks:List Key},ksOf ds=some ks->ds=ks.map keyD
 | [],ks,h=>by cases h;rfl
 | d :: ds,ks,h=>by
  unfold ksOf at h
  split at h
  ·rename_i k ks' e1 e2
   cases h
   rw[kOf_inv e1,ksOf_inv e2];rfl
  ·cases h
noncomputable def getK(es:List (D×D))(k:Key):Option D:=(es.find? λe=>decide (kOf e.1=some k)).map (·.2)
noncomputable def keyT:D->Option (List Key)
 | .tuple ds=>ksOf ds
 | _=>none
noncomputable def getT(es:List (D×D))(k:List Key):Option D:=(es.find? λe=>decide (keyT e.1=some k)).map (·.2)
noncomputable def putKE(es:List (D×D))(k:Key)(d:D):List (D×D):=if (es.any λe=>decide (kOf e.1=some k))=true then es.map (λe=>if kOf e.1=some k then (e.1,d) else e) else es++[(keyD k,d)]
section
variable {K:Fg}{F H:Hp}
theorem DaKV.val(k:Key):∀{kvs:List (Key×V)}{es:List (D×D)},DaKV K F kvs es->match getK es k,valV kvs k with|some d,some v=>Da K F v d|none,none=>True|_,_=>False
 | _,_,.nil=>trivial
 | _,_,.cons (k:=k') (v:=v) (d:=d) (kvs:=kvs) (es:=es) h t=>by
  have ih:=DaKV.val k t
  unfold getK valV at ih ⊢
  simp only[A3,kOf_key,Option.some.injEq]
  by_cases e:k'=k
  ·subst e;simp;exact h
  ·have e':decide (k'=k)=false:=decide_eq_false e
   simp only[e']
   exact ih
theorem DaKT.val(k:List Key):∀{kvs:List (List Key×V)}{es:List (D×D)},DaKT K F kvs es->match getT es k,valV kvs k with|some d,some v=>Da K F v d|none,none=>True|_,_=>False
 | _,_,.nil=>trivial
 | _,_,.cons (ks:=k') (v:=v) (d:=d) (kvs:=kvs) (es:=es) h t=>by
  have ih:=DaKT.val k t
  unfold getT valV at ih ⊢
  simp only[A3,keyT,ksOf_map,Option.some.injEq]
  by_cases e:k'=k
  ·subst e;simp;exact h
  ·have e':decide (k'=k)=false:=decide_eq_false e
   simp only[e']
   exact ih
theorem DaKV.repl{k:Key}{v:V}{d:D}(hv:Da K F v d):∀{kvs:List (Key×V)}{es:List (D×D)},DaKV K F kvs es->DaKV K F (kvs.map λkv=>if kv.1=k then (kv.1,v) else kv) (es.map λe=>if kOf e.1=some k then (e.1,d) else e)
 | _,_,.nil=>.nil
 | _,_,.cons (k:=k') h t=>by
  simp only[X1,kOf_key,Option.some.injEq]
  by_cases e:k'=k
  ·rw[if_pos e,if_pos e];exact .cons hv (DaKV.repl hv t)
  ·rw[if_neg e,if_neg e];exact .cons h (DaKV.repl hv t)
theorem DaKV.snoc{k:Key}{v:V}{d:D}(hv:Da K F v d):∀{kvs:List (Key×V)}{es:List (D×D)},DaKV K F kvs es->DaKV K F (kvs++[(k,v)]) (es++[(keyD k,d)])
 | _,_,.nil=>.cons hv .nil
 | _,_,.cons h t=>.cons h (DaKV.snoc hv t)
theorem DaKV.any(k:Key):∀{kvs:List (Key×V)}{es:List (D×D)},DaKV K F kvs es->(kvs.any λkv=>decide (kv.1=k))=es.any λe=>decide (kOf e.1=some k)
 | _,_,.nil=>rfl
 | _,_,.cons (k:=k') h t=>by simp only[w6,kOf_key,Option.some.injEq];rw[DaKV.any k t]
theorem DaKV.put{k:Key}{v:V}{d:D}{kvs:List (Key×V)}{es:List (D×D)}(h:DaKV K F kvs es)(hv:Da K F v d):DaKV K F (putK kvs k v) (putKE es k d):=by
 unfold putK putKE
 rw[h.any k]
 split
 ·exact h.repl hv
 ·exact h.snoc hv
theorem DaKV.length:∀{kvs:List (Key×V)}{es:List (D×D)},DaKV K F kvs es->kvs.length=es.length
 | _,_,.nil=>rfl
 | _,_,.cons _ t=>by simp[DaKV.length t]
theorem At.dict{v:V}{es:List (D×D)}(s:Sub F H)(h:At K F H v (.dict es)):∃a,v=.ref a/\((∃kvs,Rd H a (.dK kvs)/\DaKV K F kvs es)\/(∃kvs,Rd H a (.dT kvs)/\DaKT K F kvs es)\/∃k0 d0,es=[(k0,d0)]/\kOf k0=Option.none/\keyT k0=Option.none):=by
 rcases h with h|⟨a,o,rfl,_,e,h⟩
 ·cases h with
  | dk q t=>exact ⟨_,rfl,.inl ⟨_,s.rd q,t⟩⟩
  | dt q t=>exact ⟨_,rfl,.inr (.inl ⟨_,s.rd q,t⟩)⟩
  | scr q=>exact ⟨_,rfl,.inr (.inr ⟨_,_,rfl,rfl,rfl⟩)⟩
  | exc q=>exact ⟨_,rfl,.inr (.inr ⟨_,_,rfl,rfl,rfl⟩)⟩
 ·cases o<;>first|exact h.elim|exact ⟨_,rfl,.inl ⟨_,.inl e,h⟩⟩|exact ⟨_,rfl,.inr (.inl ⟨_,.inl e,h⟩)⟩
theorem DaAll.keys:∀{xs:List V}{ks:List Key},DaAll K F xs (ks.map keyD)->xs=ks.map kV
 | [],[],_=>rfl
 | x :: xs,k :: ks,.cons h t=>by
  have e:x=kV k:=by cases k<;>(cases h;rfl)
  rw[e,DaAll.keys t];rfl
theorem At.key{v:V}{d:D}{k:Key}(h:At K F H v d)(e:kOf d=some k):v=kV k:=by
 have:=kOf_inv e
 subst this
 cases k with
 | inl i=>exact h.int
 | inr x=>exact h.str
theorem At.keyTup{v:V}{d:D}{k:List Key}(s:Sub F H)(h:At K F H v d)(e:keyT d=some k):∃b,v=.ref b/\H b=some (.tup (k.map kV)):=by
 cases d<;>first|cases e|skip
 rename_i ds
 have:=ksOf_inv e
 subst this
 obtain⟨a,xs,rfl,_,e1,d1⟩:=h.tuple s
 have:=d1.keys
 subst this
 exact ⟨a,rfl,e1⟩
theorem scr_noK{es:List (D×D)}{k0:D}(e:∃d0,es=[(k0,d0)]/\kOf k0=none/\keyT k0=none)(k:Key):getK es k=none:=by obtain⟨d0,rfl,e,_⟩:=e;simp[getK,e]
theorem scr_noT{es:List (D×D)}{k0:D}(e:∃d0,es=[(k0,d0)]/\kOf k0=none/\keyT k0=none)(k:List Key):getT es k=none:=by obtain⟨d0,rfl,_,e⟩:=e;simp[getT,e]
theorem getK_cons(e:D×D)(es:List (D×D))(k:Key)(h:kOf e.1=none):getK (e :: es) k=getK es k:=by simp[getK,A3,h]
theorem getT_cons(e:D×D)(es:List (D×D))(k:List Key)(h:keyT e.1=none):getT (e :: es) k=getT es k:=by simp[getT,A3,h]
theorem getK_T(k:Key):∀{kvs:List (List Key×V)}{es:List (D×D)},DaKT K F kvs es->getK es k=none
 | _,_,.nil=>rfl
 | _,_,.cons h t=>by rw[getK_cons _ _ _ rfl];exact getK_T k t
theorem getT_K(k:List Key):∀{kvs:List (Key×V)}{es:List (D×D)},DaKV K F kvs es->getT es k=none
 | _,_,.nil=>rfl
 | _,_,.cons (k:=k') h t=>by rw[getT_cons _ _ _ (by cases k'<;>rfl)];exact getT_K k t
end
noncomputable def getE(es:List (D×D))(k:D):Option D:=match kOf k with
 | some k=>getK es k
 | none=>match keyT k with
  | some ks=>getT es ks
  | none=>none
noncomputable def fDGet:D->D->(Sl->Prop)->Prop
 | .dict es,k,Q=>∃d,getE es k=some d/\Q (.fz d)
 | _,_,_=>False
theorem dget_some{K:Fg}{F H:Hp}{x y:V}{es:List (D×D)}{k d:D}(s:Sub F H)(h1:At K F H x (.dict es))(h2:At K F H y k)(e:getE es k=some d):∃a v,x=.ref a/\DGet H a y (some v)/\Da K F v d:=by
 obtain⟨a,rfl,h⟩:=h1.dict s
 unfold getE at e
 split at e
 ·rename_i k' ek
  have hy:=h2.key ek
  subst hy
  rcases h with⟨kvs,q,t⟩|⟨kvs,q,t⟩|⟨ns,q⟩
  ·have:=t.val k'
   rw[e]at this
   cases ev:valV kvs k' with
   | none=>rw[ev]at this;exact this.elim
   | some v=>rw[ev]at this;exact ⟨a,v,rfl,.inl ⟨kvs,k',q,rfl,ev.symm⟩,this⟩
  ·rw[getK_T _ t]at e;cases e
  ·rw[scr_noK q]at e;cases e
 ·split at e
  ·rename_i ks ek
   obtain⟨b,rfl,hb⟩:=h2.keyTup s ek
   rcases h with⟨kvs,q,t⟩|⟨kvs,q,t⟩|⟨ns,q⟩
   ·rw[getT_K _ t]at e;cases e
   ·have:=t.val ks
    rw[e]at this
    cases ev:valV kvs ks with
    | none=>rw[ev]at this;exact this.elim
    | some v=>rw[ev]at this;exact ⟨a,v,rfl,.inr ⟨kvs,ks,b,q,rfl,hb,ev.symm⟩,this⟩
   ·rw[scr_noT q]at e;cases e
  ·cases e
noncomputable def rDGet:R2:=λx y H Q=>∃a v,x=.ref a/\DGet H a y (some v)/\Q v H
theorem ok_dget{K:Fg}:OpOk K (r2L rDGet) (o2 fDGet):=ok2 λG F σ H ρ x y d e Q Qd R h1 h2 w k=>by
 match d,h1,w with
 | .dict es,h1,⟨d',w1,w2⟩ =>
  obtain⟨a,v,rfl,g,dv⟩:=dget_some R.sub h1 h2 w1
  exact ⟨a,v,rfl,g,k _ H F (.fz _) (Sub.refl _) R dv w2⟩
noncomputable def dSetKey(j:Nat)(ak:AD)(te:TD):TDS:=λE ρ=>te ρ λr ρ1=>match ρ1[j]? with
 | some (some _)=>dArgs [ak] ρ1 λxs ρ2=>looksQ ρ2 xs λds=>match ds,ρ2[j]? with
  | [kd],some (some s)=>match s.d,isOw s,kOf kd with
   | .dict es,true,some k=>es.length < sizeLine/\(getK es k).isSome=true/\E.nx (ρ2.set j (some (s.put (.dict (putKE es k r.d)))))
   | _,_,_=>False
  | _,_=>False
 | _=>False
theorem l_setKey{K:Fg}{j:Nat}{ak:AD}{te:TD}{σ:St}{H:Hp}{E:Ends}(h:liftS K (dSetKey j ak te) E σ H):sDPut (tVar j) (argT K ak) (lift K te) E σ H:=by
 obtain⟨G,F,ρ,D,R,w,n,r,b,c⟩:=h
 refine ⟨G,F,ρ,_,R,w,λv H1 F1 x ρ1 s1 R1 r1 w1=>?_⟩
 obtain⟨F2,s2,R2,d2⟩:=r1.frz R1
 split at w1
 ·rename_i s0 e0
  obtain⟨u,eu⟩:=R2.bound e0
  refine ⟨u,eu,arg1 (P:=λy H3=>∃a H4,u=.ref a/\DPut H3 a y v H4/\E.nx σ H4) (args_ok R2 w1 λvs H3 F3 xs ρ3 s3 R3 o3 w3=>?_)⟩
  obtain⟨ds,ha,w3⟩:=looks_ok R3 o3 w3
  split at w3
  ·rename_i kd s e
   obtain⟨kv,rfl,hk⟩:=ha.one
   split at w3
   ·rename_i es k p1 p2 p3
    obtain⟨a,o,g1,g2,g3,g4⟩:=R3.ow j s e p2
    rw[eu]at g1;cases g1
    rw[p1]at g4
    have:=hk.key p3
    subst this
    refine ⟨_,rfl,a,?_⟩
    cases o with
    | dK kvs =>
     have g4:DaKV K F3 kvs es:=g4
     refine ⟨_,rfl,.inl ⟨kvs,k,g3,rfl,by rw[g4.length];exact w3.1,rfl⟩,?_⟩
     have R4:=R3.change (o':=.dK (putK kvs k v)) (d':=.dict (putKE es k x.d)) e p2 eu (g4.put (d2.mono s3))
     exact n σ _ F3 _ (s1.trans (s2.trans s3)) R4 w3.2.2
    | dT kvs =>
     have g4:DaKT K F3 kvs es:=g4
     rw[getK_T _ g4]at w3
     exact absurd w3.2.1 (by simp)
    | _=>exact g4.elim
   ·exact w3.elim
  ·exact w3.elim
 ·exact w1.elim
open PySem PySem.Spec PyProof.Rows L2
noncomputable def notStar:Expr->Bool
 | .Starred _ _=>false
 | _=>true
theorem starEach_of{e:Expr}{es:List Expr}{env:Env}(h:notStar e=true):starEach (e :: es) env=(false,eval e env) :: starEach es env:=by
 cases e<;>first|rfl|cases h
theorem plain_of{env:Env}{pos:Pos}:∀{es:List Expr},es.all notStar=true->(backTo pos (starEach es env)).any (·.1)=false:=by
 intro es
 induction es with
 | nil=>intro _;rfl
 | cons e es ih =>
  intro h
  simp only[List.all_cons,O2]at h
  rw[starEach_of h.1]
  have:=ih h.2
  simp[backTo]at this ⊢
  exact this
noncomputable def notSet:Expr->Bool
 | .Set _ _ _=>false
 | _=>true
theorem folded_of{e:Expr}{env:Env}(h:notSet e=true)(x:Value):foldedSetIterable e env x=pure x:=by
 cases e<;>first|rfl|cases h
noncomputable def notComp:Expr->Bool
 | .ListComp _ _ _ _=>false
 | .SetComp _ _ _ _=>false
 | .DictComp _ _ _ _ _=>false
 | _=>true
theorem swaps_of{e:Expr}{t:Option Expr}{n:Nat}{env:Env}(h:notComp e=true):swapsWith e t n env=pure false:=by
 cases e<;>first|rfl|cases h
section
variable {X:Cx}{K:Fg}
theorem peM{e:Expr}{t t':TE}(h:PE X e t)(m:∀{σ H Q},t' σ H Q->t σ H Q):PE X e t':=λpins s σ H Q I w=>h pins s σ H Q I (m w)
theorem ptM{e:Expr}{t t':TT}(h:PT X e t)(m:∀{σ H Q},t' σ H Q->t σ H Q):PT X e t':=λpins s σ H Q I w=>h pins s σ H Q I (m w)
theorem pwM{e:Expr}{t t':TT}(h:PW X e t)(m:∀{σ H Q},t' σ H Q->t σ H Q):PW X e t':=λwh pins s σ H Q I w=>h wh pins s σ H Q I (m w)
theorem psM{e:Stmt}{t t':TS}(h:PS X e t)(m:∀{D σ H},t' D σ H->t D σ H):PS X e t':=λpins s σ H D I w=>h pins s σ H D I (m w)
theorem pssM{e:List Stmt}{t t':TS}(h:PSs X e t)(m:∀{D σ H},t' D σ H->t D σ H):PSs X e t':=λpins s σ H D I w=>h pins s σ H D I (m w)
theorem pgM{e:Expr}{t t':TG}(h:PG X e t)(m:∀{v σ H Q},t' v σ H Q->t v σ H Q):PG X e t':=by
 unfold PG at h ⊢
 intros
 exact h _ _ _ _ _ _ _ (by assumption) (by assumption) (m (by assumption))
theorem piM{g e:Expr}{t t':TI}(h:PI X g e t)(m:∀{σ H R},t' σ H R->t σ H R):PI X g e t':=λpins s σ H R I w=>h pins s σ H R I (m w)
theorem pifM{es:List Expr}{t t':TT}(h:PIf X es t)(m:∀{σ H Q},t' σ H Q->t σ H Q):PIf X es t':=λpins s σ H Q I w=>h pins s σ H Q I (m w)
theorem da_cons{e:Expr}{es:List Expr}{a:AD}{as:List AD}(ha:PE X e (argT K a))(hr:PA X es (tArgs (as.map (argT K))))(hs:starEach (e :: es) X.env=(false,eval e X.env) :: starEach es X.env:=by exact starEach_of rfl):PA X (e :: es) (tArgs ((a :: as).map (argT K))):=pa_cons ha hr hs
variable {e:Expr}{a b c:AD}{as:List AD}{td te:TD}{tc td':TTD}
theorem cv_var{i:Nat}(h:PE X e (tVar i)):PE X e (lift K (dVar i)):=peM h l_var
theorem cv_c{v:V}{d:D}(hv:∀F,Da K F v d)(h:PE X e (tC v)):PE X e (lift K (dC d)):=peM h (l_c hv)
theorem cv2{r:R2}{f:D->D->(Sl->Prop)->Prop}(ok:OpOk K (r2L r) (o2 f))(h:PE X e (tOp r (argT K a) (argT K b))):PE X e (lift K (dOp [a,b] (o2 f))):=peM h λq=>arg2 (l_op ok q)
theorem cvu{r:V->Hp->VK->Prop}{f:D->(Sl->Prop)->Prop}(ok:OpOk K (r1L r) (o1 f))(h:PE X e (tUn r (argT K a))):PE X e (lift K (dOp [a] (o1 f))):=peM h λq=>arg1 (l_op ok q)
theorem cvB{r:List V->Hp->VK->Prop}{f:List D->(Sl->Prop)->Prop}(ok:OpOk K r f)(h:PE X e (tCB r (tArgs (as.map (argT K))))):PE X e (lift K (dOp as f)):=peM h λq=>l_op ok q
theorem cv_isi(T:Ki)(h:PE X e (tCB (rIsi K) (tCons (argT K a) (tCons (tC (.ty T.nm)) tNil)))):PE X e (lift K (dOp [a] (o1 (fIsi T)))):=peM h λq=>arg1 (P:=λx H1=>rIsi K [x,.ty T.nm] H1 _) (l_op ok_isi q)
theorem cv_tup(hl:as.length<=1000)(h:PE X e (tTup (tArgs (as.map (argT K))))):PE X e (lift K (dOpF as fTupD)):=peM h (l_tup hl)
theorem cv_lst(hl:as.length<=1000)(h:PE X e (tLst (tArgs (as.map (argT K))))):PE X e (lift K (dOpF as fLstD)):=peM h (l_lst hl)
theorem cv_chain{p q:Int->Int->Bool}(h:PE X e (tChain (rI0 λi j=>.bl (p i j)) (rI0 λi j=>.bl (q i j)) (argT K a) (argT K b) (argT K c))):PE X e (lift K (dChain p q a b c)):=peM h l_chain
theorem cv_and(h:PE X e (tAndV (lift K td) (lift K te))):PE X e (lift K (dAndV td te)):=peM h l_andV
theorem cv_not(h:PE X e (tNotV (lift K td))):PE X e (lift K (dNotV td)):=peM h l_notV
theorem cv_fn{con:Con}{E:XK}(h:PE X e (tCall (conSp K con) [] E (tArgs (as.map (argT K))))):PE X e (lift K (dCall con as)):=peM h l_call
theorem cv_fnI{con:Con}{E:XK}{i:Nat}(h:PE X e (tCall (conSp K con) [] E (tArgs ((Sum.inl i :: as).map (argT K))))):PE X e (lift K (dCallI con i as)):=peM h l_callI
theorem cv_m{i:Nat}{r:V->List V->Hp->VK->Prop}{f:List D->List D->(D->D->Prop)->Prop}(ok:MOk K r f)(h:PE X e (tBM K "list" r (tVar i) (tArgs (as.map (argT K))))):PE X e (lift K (dMeth i as f)):=peM h λq=>by
 obtain⟨a,xs,e1,sq,w⟩:=l_meth ok q
 exact ⟨_,e1,.inl ⟨rfl,xs,sq⟩,w⟩
theorem cv_m0{i:Nat}{r:V->List V->Hp->VK->Prop}{f:List D->List D->(D->D->Prop)->Prop}(ok:MOk K r f)(h:PE X e (tBM0 K "list" r (tVar i))):PE X e (lift K (dMeth i [] f)):=peM h λq=>by
 obtain⟨a,xs,e1,sq,w⟩:=l_meth ok q
 exact ⟨_,e1,.inl ⟨rfl,xs,sq⟩,w⟩
theorem ct2{r:R2}{f:D->D->(Sl->Prop)->Prop}(ok:OpOk K (r2L r) (o2 f))(h:PT X e (tTest (tOp r (argT K a) (argT K b)))):PT X e (liftT K (dTst (dOp [a,b] (o2 f)))):=ptM h λq=>l_tst (λz=>arg2 (l_op ok z)) q
theorem ct_val(h:PT X e (tB (lift K td))):PT X e (liftT K (dTst td)):=ptM h λq=>l_tst (λz=>z) q
theorem ct_not(h:PT X e (tNot (liftT K tc))):PT X e (liftT K (dNot tc)):=ptM h l_not
theorem cw_and(h:PW X e (tAnd (liftT K tc) (liftT K td'))):PW X e (liftT K (dAnd tc td')):=pwM h l_and
theorem cw_or(h:PW X e (tOr (liftT K tc) (liftT K td'))):PW X e (liftT K (dOr tc td')):=pwM h l_or
variable {st:Stmt}{sts:List Stmt}{t u:TDS}
theorem cs_next(h:PSs X sts tNext):PSs X sts (liftS K dNext):=pssM h l_next
theorem cs_seq(h:PSs X sts (tSeq (liftS K t) (liftS K u))):PSs X sts (liftS K (dSeq t u)):=pssM h l_seq
theorem cs_ret(h:PS X st (tRet (lift K td))):PS X st (liftS K (dRet td)):=psM h l_ret
theorem cs_retV{i:Nat}(h:PS X st (tRet (tVar i))):PS X st (liftS K (dRetV i)):=psM h l_retV
theorem cs_move{i j:Nat}(h:PS X st (tAsg (tVar j) (gName i))):PS X st (liftS K (dMove i j)):=psM h l_move
theorem cs_drop(h:PS X st (tDrop (lift K td))):PS X st (liftS K (dDrop td)):=psM h l_drop
theorem cs_if(h:PS X st (tIfS (liftT K tc) (liftS K t) (liftS K u))):PS X st (liftS K (dIfS tc t u)):=psM h l_ifS
theorem cs_set{i:Nat}(h:PS X st (tAsg (lift K td) (gName i))):PS X st (liftS K (dSet i td)):=psM h l_set
theorem cs_key{j:Nat}(h:PS X st (sDPut (tVar j) (argT K a) (lift K td))):PS X st (liftS K (dSetKey j a td)):=psM h l_setKey
noncomputable def dAsgG(g:TDG)(a:TD):TDS:=λE ρ=>a ρ λr ρ'=>g r.d ρ' E.nx
theorem l_asgG{g:TDG}{E:Ends}{σ:L2.St}{H:Hp}(h:liftS K (dAsgG g td) E σ H):tAsg (lift K td) (liftG K g) E σ H:=by
 obtain⟨G,F,ρ,D,R,w,n,r,b,c⟩:=h
 refine ⟨G,F,ρ,_,R,w,λv H' F' x ρ' s R' r' q=>?_⟩
 obtain⟨F2,s2,R2,d2⟩:=r'.frz R'
 exact ⟨G,F2,ρ',x.d,_,R2,d2,q,λσ3 ρ3 R3 w3=>n σ3 H' F2 ρ3 (s.trans s2) R3 w3⟩
theorem cs_asgG{g:TDG}(h:PS X st (tAsg (lift K td) (liftG K g))):PS X st (liftS K (dAsgG g td)):=psM h l_asgG
theorem cg_name{i:Nat}(h:PG X e (gName i)):PG X e (liftG K (dGN i)):=pgM h l_gn
theorem cg_tup{n:Nat}{gs:List TDG}(h:PG X e (gTup K n (gAll (gs.map (liftG K)))))(hn:gs.length=n:=by rfl):PG X e (liftG K (dGT gs)):=pgM h (l_gt hn)
theorem cgs_cons{es:List Expr}{g:TDG}{gs:List TDG}(h1:PG X e (liftG K g))(h2:PGs X es (gAll (gs.map (liftG K))))(hs:(assignEach (e :: es) X.env).map (·.2)=assign e X.env :: (assignEach es X.env).map (·.2):=by rfl):PGs X (e :: es) (gAll ((g :: gs).map (liftG K))):=pgs_cons h1 h2 hs
theorem cif_nil:PIf X [] (liftT K dYes):=pifM if_nil l_yes
variable {tg:Expr}
theorem pi_seqD{l:Expr}{tl:TE}(hK:X.K=K)(hl:PE X l tl):PI X tg l (iSeq K tl):=by
 subst hK
 intro pins s σ H R I h
 refine thn (hl pins s σ H _ I h) λv s1 ⟨x,H1,I1,r1,q1⟩=>?_
 obtain⟨a,e,q1⟩:=q1
 subst e
 cases r1
 rcases q1 with⟨⟨xs,hq⟩,q⟩|⟨⟨xs,hq⟩,q⟩
 ·obtain⟨its,rv,p,hz⟩:=I1.list hq
  refine wpAny_pyIter_list p.isList ?_
  refine ⟨s1.heap.objs.size,[s1.heap.objs.size],_,_,H1,rfl,I1.kept (t':=s1.toks) λb o e=>g0 _ e,turn_list a _,⟨_,G0 _ rfl,rfl,rfl⟩,λb hb=>?_,q⟩
  have e:b=s1.heap.objs.size:=by simpa using hb
  subst e
  exact I1.fpOk (A0 _) (I1.hok.fresh (A0 _))
 ·obtain⟨its,rv,p,hz⟩:=I1.tuple hq
  refine wpAny_pyIter_tuple (show s1.heap.IsTuple a its.toArray from p) ?_
  refine ⟨s1.heap.objs.size,[s1.heap.objs.size],_,_,H1,rfl,I1.kept (t':=s1.toks) λb o e=>g0 _ e,turn_tuple a _,⟨_,G0 _ rfl,rfl,rfl⟩,λb hb=>?_,q⟩
  have e:b=s1.heap.objs.size:=by simpa using hb
  subst e
  exact I1.fpOk (A0 _) (I1.hok.fresh (A0 _))
theorem ci_seq{l:Expr}(hK:X.K=K)(hl:PE X l (lift K td)):PI X tg l (liftI K (dISeq td)):=piM (pi_seqD hK hl) l_iseq
theorem ci_rng1{l:Expr}(h:PI X tg l (iRng1 (tArgs ([a].map (argT K))))):PI X tg l (liftI K (dIRng1 a)):=piM h l_rng1
theorem ci_rng2{l:Expr}(h:PI X tg l (iRng2 (tArgs ([a,b].map (argT K))))):PI X tg l (liftI K (dIRng2 a b)):=piM h l_rng2
theorem ci_zip2{l:Expr}(h:PI X tg l (iZip2 K (tArgs ([a,b].map (argT K))))):PI X tg l (liftI K (dIZip2 a b)):=piM h l_zip2
noncomputable def CMod(_ j:Int):Prop:=0 < j
theorem op_catB:OpR X (binaryOp .Add) rCatB:=by
 intro pins s σ H x y v u Q I rx ry h
 obtain⟨a,b,xs,ys,rfl,rfl,ha,hb,hz,q1,q2,q3⟩:=h
 have ha':SqT X.K H a xs:=SqT.of ha
 have hb':SqT X.K H b ys:=SqT.of hb
 by_cases hx:xs=[]
 ·subst hx
  cases rx
  cases ry
  obtain⟨its,r1,p1,_⟩:=I.tuple ha'
  obtain⟨its2,r2,p2,_⟩:=I.tuple hb'
  cases r1
  exact cat_tup0 p1 p2 ⟨.ref b,H,I,rfl,q1 rfl⟩
 ·exact op_catT pins s σ H (.ref a) (.ref b) v u Q I rx ry ⟨a,b,xs,ys,rfl,rfl,ha',hb',hx,hz,λe=>q2 hx e,λe p hp=>q3 hx e p hp⟩
theorem op_addD:OpR X (binaryOp .Add) (rAny (rI0 λi j=>.int (i+j)) (rAny rCatB rCat)):=op_add.or (op_catB.or op_cat)
theorem op_mulD:OpR X (binaryOp .Mult) (rAny (rI CMul λi j=>.int (i * j)) rRep):=op_mul.or op_rep
theorem ok_sub:OpOk K (r2L (rI0 λi j=>.int (i - j))) (o2 (fI0 λi j=>.int (i - j))):=ok_I0 λ_ _ _=>.int _
theorem ok_fdiv:OpOk K (r2L (rI CDiv λi j=>.int (i / j))) (o2 (fI CDiv λi j=>.int (i / j))):=ok_I λ_ _ _=>.int _
theorem ok_mod:OpOk K (r2L (rI (λ_ j=>0 < j) λi j=>.int (i % j))) (o2 (fI CMod λi j=>.int (i % j))):=ok_I (C:=CMod) λ_ _ _=>.int _
theorem ok_pow:OpOk K (r2L (rI CPow λi j=>.int (i ^ j.toNat))) (o2 (fI CPow λi j=>.int (i ^ j.toNat))):=ok_I λ_ _ _=>.int _
theorem ok_lt:OpOk K (r2L (rI0 λi j=>.bl (decide (i < j)))) (o2 (fI0 λi j=>.bool (decide (i < j)))):=ok_I0 λ_ _ _=>.bl _
theorem ok_le:OpOk K (r2L (rI0 λi j=>.bl (decide (i<=j)))) (o2 (fI0 λi j=>.bool (decide (i<=j)))):=ok_I0 λ_ _ _=>.bl _
theorem ok_gt:OpOk K (r2L (rI0 λi j=>.bl (decide (j < i)))) (o2 (fI0 λi j=>.bool (decide (j < i)))):=ok_I0 λ_ _ _=>.bl _
theorem ok_ge:OpOk K (r2L (rI0 λi j=>.bl (decide (j<=i)))) (o2 (fI0 λi j=>.bool (decide (j<=i)))):=ok_I0 λ_ _ _=>.bl _
theorem ix_seqD(hK:X.K=K):IxR X (rAny (rIxL K) (rIxT K)):=(ix_listK hK).or (ix_tupK hK)
end
mutual
noncomputable def plainD:D->Bool
 | .none=>true
 | .bool _=>true
 | .int _=>true
 | .str _=>true
 | .list xs=>plainAll xs
 | .tuple xs=>plainAll xs
 | .dict _=>false
noncomputable def plainAll:List D->Bool
 | []=>true
 | x :: xs=>plainD x&&plainAll xs
end
section
variable {K:Fg}{F H:Hp}
mutual
theorem Da.is(s:Sub F H):∀{v:V}{d:D},Da K F v d->plainD d=true->Is K H v d
 | _,_,.non,_=>.non
 | _,_,.bl b,_=>.bl b
 | _,_,.int i,_=>.int i
 | _,_,.str x,_=>.str x
 | _,_,.lst e t,z=>.lst (SqL.of (s _ _ e)) (DaAll.is s t (by simpa [plainD]using z))
 | _,_,.tup e t,z=>.tup (SqT.of (s _ _ e)) (DaAll.is s t (by simpa [plainD]using z))
 | _,_,.dk _ _,z=>by simp[plainD]at z
 | _,_,.dt _ _,z=>by simp[plainD]at z
 | _,_,.scr _,z=>by simp[plainD,scrD]at z
 | _,_,.exc _,z=>by simp[plainD,excD]at z
theorem DaAll.is(s:Sub F H):∀{xs:List V}{ds:List D},DaAll K F xs ds->plainAll ds=true->IsAll K H xs ds
 | _,_,.nil,_=>.nil
 | _,_,.cons a t,z=>by
  simp[plainAll]at z
  exact .cons (Da.is s a z.1) (DaAll.is s t z.2)
end
theorem At.is{v:V}{d:D}(s:Sub F H)(h:At K F H v d)(p:plainD d=true):Is K H v d:=by
 rcases h with h|⟨a,o,rfl,_,e,h⟩
 ·exact h.is s p
 ·cases o<;>cases d<;>first|exact h.elim|(simp[plainD]at p)|skip
  ·rename_i xs ds
   exact .lst (SqL.of e) (DaAll.is s h (by simpa [plainD]using p))
end
noncomputable def fEqG(x y:D)(Q:Sl->Prop):Prop:=plainD x=true/\plainD y=true/\SeqAt.shaped x=true/\SeqAt.shaped y=true/\SeqAt.noMix x y=true/\Q (.fz (.bool (same x y)))
noncomputable def fNeG(x y:D)(Q:Sl->Prop):Prop:=plainD x=true/\plainD y=true/\SeqAt.shaped x=true/\SeqAt.shaped y=true/\SeqAt.noMix x y=true/\Q (.fz (.bool (!same x y)))
noncomputable def fEq:D->D->(Sl->Prop)->Prop
 | .int i,.int j,Q=>Q (.fz (.bool (decide (i=j))))
 | .list xs,y,Q=>fEqG (.list xs) y Q
 | .tuple xs,y,Q=>fEqG (.tuple xs) y Q
 | .str x,.str y,Q=>Q (.fz (.bool (decide (x=y))))
 | x,y,Q=>fEqG x y Q
noncomputable def fNe:D->D->(Sl->Prop)->Prop
 | .int i,.int j,Q=>Q (.fz (.bool (!decide (i=j))))
 | .list xs,y,Q=>fNeG (.list xs) y Q
 | .tuple xs,y,Q=>fNeG (.tuple xs) y Q
 | .str x,.str y,Q=>Q (.fz (.bool (!decide (x=y))))
 | x,y,Q=>fNeG x y Q
theorem ok_eq{K:Fg}:OpOk K (r2L (rAny rEq (rEqD K false))) (o2 fEq):=ok2 λG F σ H ρ x y d e Q Qd R h1 h2 w k=>by
 have gen:fEqG d e Qd->rAny rEq (rEqD K false) x y H Q:=λ⟨p1,p2,p3,p4,p5,w⟩=>.inr ⟨d,e,h1.is R.sub p1,h2.is R.sub p2,p3,p4,p5,k _ H F (.fz _) (Sub.refl _) R (Da.bl _) w⟩
 unfold fEq at w
 split at w
 ·rename_i i j
  cases h1.int
  cases h2.int
  refine .inl ⟨rfl,k _ H F (.fz _) (Sub.refl _) R (Da.bl _) ?_⟩
  have e:decide (V.int i=V.int j)=decide (i=j):=by rw[dec_int,Y4]
  rw[e];exact w
 ·exact gen w
 ·exact gen w
 ·rename_i i j
  cases h1.str
  cases h2.str
  refine .inl ⟨rfl,k _ H F (.fz _) (Sub.refl _) R (Da.bl _) ?_⟩
  have e:decide (V.str i=V.str j)=decide (i=j):=by rw[dec_str,Y4]
  rw[e];exact w
 ·exact gen w
theorem ok_ne{K:Fg}:OpOk K (r2L (rAny rNe (rEqD K true))) (o2 fNe):=ok2 λG F σ H ρ x y d e Q Qd R h1 h2 w k=>by
 have gen:fNeG d e Qd->rAny rNe (rEqD K true) x y H Q:=λ⟨p1,p2,p3,p4,p5,w⟩=>.inr ⟨d,e,h1.is R.sub p1,h2.is R.sub p2,p3,p4,p5,k _ H F (.fz _) (Sub.refl _) R (Da.bl _) w⟩
 unfold fNe at w
 split at w
 ·rename_i i j
  cases h1.int
  cases h2.int
  refine .inl ⟨rfl,k _ H F (.fz _) (Sub.refl _) R (Da.bl _) ?_⟩
  have e:decide (V.int i=V.int j)=decide (i=j):=by rw[dec_int,Y4]
  rw[e];exact w
 ·exact gen w
 ·exact gen w
 ·rename_i i j
  cases h1.str
  cases h2.str
  refine .inl ⟨rfl,k _ H F (.fz _) (Sub.refl _) R (Da.bl _) ?_⟩
  have e:decide (V.str i=V.str j)=decide (i=j):=by rw[dec_str,Y4]
  rw[e];exact w
 ·exact gen w
theorem op_eqE{X:Cx}{K:Fg}(hK:X.K=K)(hu:X.A.units+64 < cLine):OpR X (compareOp .Eq) (rAny rEq (rEqD K false)):=op_eq.or (op_eqDK hK hu)
theorem op_neE{X:Cx}{K:Fg}(hK:X.K=K)(hu:X.A.units+64 < cLine):OpR X (compareOp .NotEq) (rAny rNe (rEqD K true)):=op_ne.or (op_neDK hK hu)
section
variable {P:Program}{w:World}{K:Fg}{mg:Str->Option Value}{base:Heap}
theorem dfn{x qual:Str}{st:Stmt}{f:Addr}{fd:FuncData}{N ps:List Str}{k:Nat}{con:Con}{ts:TDS}(F:Fun K x qual st f fd)(S:FnScope N ps (defScope st))
  (hb:∀(cdv:Value) (A:Around) (outer:List Env) (s:Shared) (H:Hp) (E:XK),Room k (A.deeper (envOfC qual (defScope st) s.heap.objs.size f cdv))->PSs (cxOf CX0 P w K mg base N qual (defScope st) f cdv A outer s H E).nox (defBody st) (liftS K ts))
  (hl:∀args Qd,con args Qd->args.length=ps.length) (hc:∀args Qd,con args Qd->(∀s∈args,∀d,s≠.ow d)/\ts (endsOf args Qd) (startE N.length args)):FnOk P w K mg base CX0 (k+1) f fd ps (conSp K con):=by
 refine F.ok S (λvs H Q E h=>?_) (λcdv A outer s H vs Q E hr h=>⟨_,hb cdv A outer s H E hr,l_def hc h⟩)
 obtain⟨G,F',args,Qd,R,w',_⟩:=h
 have h1:=hl args Qd w'
 have h2:=R.len
 rw[n0,n0]at h2
 rw[h2,h1]
end
noncomputable def noOw:List Sl->Bool
 | []=>true
 | .ow _ :: _=>false
 | _ :: as=>noOw as
theorem noOw_of:∀{as:List Sl},noOw as=true->∀s∈as,∀d,s≠.ow d
 | .fz _ :: as,h,s,hs,d,z=>by
  rcases Y0.mp hs with e|e
  ·subst e;cases z
  ·exact noOw_of (as:=as) h s e d z
 | .io _ :: as,h,s,hs,d,z=>by
  rcases Y0.mp hs with e|e
  ·subst e;cases z
  ·exact noOw_of (as:=as) h s e d z
theorem DaAll.intsV{K:Fg}{F:Hp}:∀{xs:List V}{ns:List Int},DaAll K F xs (ns.map j0)->xs=ns.map V.int
 | [],[],_=>rfl
 | x :: xs,b :: bs,.cons h t=>by cases h;simp[DaAll.intsV t]
noncomputable def RngB(i j:Int):Prop:=-(2 ^ 62)<=i/\i < 2 ^ 62/\-(2 ^ 62)<=j/\j < 2 ^ 62
noncomputable def rRng:List V->Hp->VK->Prop:=λxs H Q=>∃i j:Int,(xs=[.int i,.int j]\/(xs=[.int j]/\i=0))/\∀p,H p=none->Q (.ref p) (upd H p (.rng i j))
theorem call_rng{X:Cx}:CallR X (.type "range") rRng:=by
 intro pins s σ H xs us Q I r h
 obtain⟨i,j,hx,q⟩:=h
 have lay:∀(t u v:Tok) (tk:Nat),EP X pins σ Q (.ref s.heap.objs.size) { s with heap:=s.heap.push { cls:=.type "range",data:=.fields #[.int i t,.int j u,.int 1 v] },toks:=tk }:=λt u v tk =>
  ⟨.ref s.heap.objs.size,_,I.laid (t':=tk) (o:=.rng i j) (λb o e=>g0 _ e) (A0 _) ⟨t,u,v,G0 _ rfl⟩,rfl,q _ (I.hok.fresh (A0 _))⟩
 rcases hx with rfl|⟨rfl,rfl⟩
 ·obtain⟨u,w,rfl,ru,rw'⟩:=vals2 r
  obtain⟨t,rfl⟩:=ru
  obtain⟨t',rfl⟩:=rw'
  exact call_range_2 (lay _ _ _ _)
 ·obtain⟨u,rfl,ru⟩:=vals1 r
  obtain⟨t,rfl⟩:=ru
  exact call_range_1 (lay _ _ _ _)
noncomputable def rLstRng:List V->Hp->VK->Prop:=λxs H Q=>∃(p:Addr) (i j:Int),xs=[.ref p]/\H p=some (.rng i j)/\RngB i j/\(j - i).toNat<=2 ^ 24/\∀l,H l=none->Q (.ref l) (upd H l (.lst ((V1 (j - i).toNat).map λ(n:Nat)=>V.int (i+n))))
theorem call_lstRng{X:Cx}(hc:X.calm=true):CallR X (.type "list") rLstRng:=by
 intro pins s σ H xs us Q I r h
 obtain⟨p,i,j,rfl,hp,⟨b1,b2,b3,b4⟩,hz,q⟩:=h
 obtain⟨u,rfl,ru⟩:=vals1 r
 cases ru
 obtain⟨t,u,v,e⟩:=I.hok p _ hp
 have hn:G7 i j 1=((j - i).toNat:Int):=by rw[rangeSize_one];split<;>omega
 refine call_list_range (I.ok.hd hc) e (small_one b1 b2 b3 b4) hn hz λh' tk acc' c' hk hS hacc=>?_
 refine ⟨.ref s.heap.objs.size,_,I.laid (t':=tk) (o:=.lst ((V1 (j - i).toNat).map λ(n:Nat)=>V.int (i+n))) hk (A0 _) ?_,rfl,q _ (I.hok.fresh (A0 _))⟩
 refine ⟨by rw[n0,List.length_range];exact hz,acc'.toList,c',?_,by simpa using hS⟩
 have gen:∀(n:Nat) (ys:List Value),ys.length=n->(∀(k:Nat) (y:Value),ys[k]?=some y->∃t,y=.int (i+k * 1) t)->Vals ((V1 n).map λ(n:Nat)=>V.int (i+n)) ys:=by
  intro n
  induction n with
  | zero=>intro ys hl _;cases ys with|nil=>exact .nil|cons=>simp at hl
  | succ n ih =>
   intro ys hl hy
   rcases List.eq_nil_or_concat ys with rfl|⟨zs,z,rfl⟩
   ·simp at hl
   ·rw[List.concat_eq_append]at hl hy ⊢
    have hl':zs.length=n:=by simpa using hl
    rw[List.range_succ,B3]
    refine Vals.append (ih zs hl' λk y e=>hy k y (by rw[T1 (lt_of_get e)];exact e)) ?_
    obtain⟨t,rfl⟩:=hy n z (by rw[<- hl'];simp)
    exact .cons ⟨t,by simp⟩ .nil
 refine gen _ _ (by rw[M0];exact hacc.1) λk y e=>?_
 exact hacc.2 k y (by simpa using e)
noncomputable def fLR:D->D->(Sl->Prop)->Prop
 | .int i,.int j,Q=>RngB i j/\(j - i).toNat<=2 ^ 24/\Q (.ow (.list (rangeD i (j - i).toNat)))
 | _,_,_=>False
theorem ok_LR{K:Fg}:OpOk K (λvs H Q=>rRng vs H λv H1=>rLstRng [v] H1 Q) (o2 fLR):=by
 intro G F σ H ρ vs ds Q Qd R a w k
 match ds,a,w with
 | [d,e],a,w =>
  obtain⟨v,u,rfl,h1,h2⟩:=a.two
  have w:fLR d e Qd:=w
  unfold fLR at w
  split at w
  rotate_left
  ·exact w.elim
  rename_i i j w
  cases h1.int
  cases h2.int
  refine ⟨i,j,.inl rfl,λp hp=>⟨p,i,j,rfl,upd_same,w.1,w.2.1,λl hl=>?_⟩⟩
  have R1:Rel K G F σ (upd H p (.rng i j)) ρ:=R.laid hp
  have da:DaAll K F ((V1 (j - i).toNat).map λ(n:Nat)=>V.int (i+n)) (rangeD i (j - i).toNat):=by
   have:=DaAll.ints (K:=K) (F:=F) ((V1 (j - i).toNat).map λ(n:Nat)=>i+(n:Int))
   simpa [rangeD,P0,Function.comp_def]using this
  obtain⟨R',r'⟩:=R1.newOw (o:=.lst _) (d:=.list (rangeD i (j - i).toNat)) hl da
  exact k _ _ F _ (Sub.refl _) R' r' w.2.2
section
variable {X:Cx}{K:Fg}{e:Expr}{a b:AD}
theorem cv_LR(h:PE X e (tCB rLstRng (tCons (tCB rRng (tArgs ([a,b].map (argT K)))) tNil))):PE X e (lift K (dOp [a,b] (o2 fLR))):=peM h λq=>l_op ok_LR q
end
noncomputable def dDispQ(ρ:Ev):List (Key×Sum Nat D)->(List (D×D)->Prop)->Prop
 | [],k=>k []
 | (c,.inr d) :: r,k=>dDispQ ρ r λes=>k ((keyD c,d) :: es)
 | (c,.inl i) :: r,k=>match ρ[i]? with
  | some (some (.fz d))=>dDispQ ρ r λes=>k ((keyD c,d) :: es)
  | _=>False
noncomputable def dDisp(its:List (Key×Sum Nat D)):TD:=λρ Q=>dDispQ ρ its λes=>Q (.ow (.dict es)) ρ
noncomputable def itT:Sum Nat D->TE
 | .inl i=>tVar i
 | .inr (.int n)=>tC (.int n)
 | .inr _=>λ_ _ _=>False
theorem disp_ok{K:Fg}{G:Gh}{F H H1:Hp}{σ:L2.St}{ρ:Ev}(R:Rel K G F σ H ρ):∀{its:List (Key×Sum Nat D)}{kk:List (D×D)->Prop}{Qp:List (V×V)->Hp->Prop},(∀p∈its,∀d,p.2=.inr d->∃n,d=.int n)->dDispQ ρ its kk ->
  (∀kvs es,DaKV K F kvs es->kvs.map (·.1)=its.map (·.1)->kk es->Qp (kvs.map λkv=>(kV kv.1,kv.2)) H1)->tPairs (its.map λp=>(tC (kV p.1),itT p.2)) σ H1 Qp
 | [],kk,Qp,_,w,k=>k [] [] .nil rfl w
 | (c,.inr d) :: r,kk,Qp,hc,w,k=>by
  obtain⟨n,rfl⟩:=hc (c,.inr d) K0 d rfl
  refine disp_ok R (its:=r) (λp hp=>hc p (u0 _ hp)) w λkvs es da e q=>?_
  exact k ((c,.int n) :: kvs) _ (.cons (.int n) da) (by simp[e]) q
 | (c,.inl i) :: r,kk,Qp,hc,w,k=>by
  unfold dDispQ at w
  split at w
  ·rename_i d ed
   obtain⟨v,ev,dv⟩:=R.fz i d ed
   refine ⟨v,ev,disp_ok R (its:=r) (λp hp=>hc p (u0 _ hp)) w λkvs es da e q=>?_⟩
   exact k ((c,v) :: kvs) _ (.cons dv da) (by simp[e]) q
  ·exact w.elim
theorem mergeK_nodup:∀(kvs acc:List (Key×V)),((acc++kvs).map (·.1)).Nodup->mergeK acc kvs=acc++kvs
 | [],acc,_=>by simp[mergeK]
 | (c,v) :: r,acc,h=>by
  have hn:valV acc c=none:=by
   unfold valV
   rw[u8.mpr ?_];rfl
   intro x hx
   simp only[decide_eq_true_eq]
   intro z
   simp only[B3,X1,List.nodup_append]at h
   exact h.2.2 x.1 (Y3 hx) c K0 z
  have e:putK acc c v=acc++[(c,v)]:=putK_new v hn
  show mergeK (putK acc c v) r=_
  rw[e,mergeK_nodup r (acc++[(c,v)]) (by simpa using h)]
  simp
theorem cv_disp{X:Cx}{K:Fg}{e:Expr}(its:List (Key×Sum Nat D))(hn:(its.map (·.1)).Nodup)(hl:its.length<=15)(hc:∀p∈its,∀d,p.2=.inr d->∃n,d=.int n)(h:PE X e (tDisp (its.map λp=>(tC (kV p.1),itT p.2)))):PE X e (lift K (dDisp its)):=peM h λ{σ H Q} q=>by
 obtain⟨G,F,ρ,Qd,R,w,k⟩:=q
 intro p hp
 refine disp_ok R hc w λkvs es da ek q=>⟨upd_same,kvs,rfl,?_,?_⟩
 ·have:=congrArg Q3 ek;simp at this;omega
 ·rw[mergeK_nodup kvs [] (by simpa [ek]using hn),upd_upd]
  obtain⟨R',r'⟩:=R.newOw (o:=.dK ([]++kvs)) (d:=.dict es) hp (by rw[Q7];exact da)
  exact k _ _ F _ ρ (Sub.refl _) R' r' q
noncomputable def clean1(ρ:Ev)(i:Nat):Ev:=match ρ[i]? with
 | some (some (.io _))=>ρ
 | some _=>ρ.set i none
 | none=>ρ
noncomputable def clean(ks:List Nat)(ρ:Ev):Ev:=match ks with
 | []=>ρ
 | i :: r=>clean r (clean1 ρ i)
section
variable {K:Fg}{G:Gh}{F H:Hp}{σ:L2.St}{ρ:Ev}
theorem Rel.drop(R:Rel K G F σ H ρ){i:Nat}(hn:∀d,ρ[i]?≠some (some (Sl.io d))):Rel K G F σ H (ρ.set i none):=by
 refine ⟨by rw[L4];exact R.len,R.sub,R.sub0,R.fn,R.keep,λj d e=>?_,λj t e wt=>?_,λj d b e eb=>?_,λj b e=>?_,λj d e=>?_,λj k t u b e1 w1 e2 w2 e3 e4=>?_⟩
 ·rcases get_set e with⟨rfl,z⟩|⟨n,z⟩
  ·cases z
  ·exact R.fz j d z
 ·rcases get_set e with⟨rfl,z⟩|⟨n,z⟩
  ·cases z
  ·exact R.ow j t z wt
 ·rcases get_set e with⟨rfl,z⟩|⟨n,z⟩
  ·cases z
  ·exact R.new j d b z eb
 ·obtain⟨d',e1,e2⟩:=R.io j b e
  have n:i≠j:=λz=>by subst z;exact hn _ e1
  exact ⟨d',by rw[S0 n];exact e1,e2⟩
 ·rcases get_set e with⟨rfl,z⟩|⟨n,z⟩
  ·cases z
  ·exact R.ioi j d z
 ·rcases get_set e1 with⟨rfl,z⟩|⟨n,z⟩
  ·cases z
  ·rcases get_set e2 with⟨rfl,z'⟩|⟨n',z'⟩
   ·cases z'
   ·exact R.ap j k t u b z w1 z' w2 e3 e4
theorem Rel.clean1(R:Rel K G F σ H ρ)(i:Nat):Rel K G F σ H (clean1 ρ i):=by
 unfold L3.clean1
 split
 ·exact R
 ·rename_i e1 e2
  exact R.drop λd z=>by rw[e2]at z;cases z;exact e1 _ rfl
 ·exact R
theorem Rel.clean(ks:List Nat):∀{ρ:Ev},Rel K G F σ H ρ->Rel K G F σ H (clean ks ρ):=by
 induction ks with
 | nil=>intro ρ R;exact R
 | cons i r ih=>intro ρ R;exact ih (R.clean1 i)
end
noncomputable def dLoopC(ks:List Nat)(g:TDG)(tb:TDS)(E:DE):List D->Ev->Prop
 | [],ρ=>E.nx ρ
 | d :: ds,ρ=>g d ρ λρ'=>tb { nx:=λρ2=>dLoopC ks g tb E ds (clean ks ρ2),rt:=E.rt,bk:=λρ2=>E.nx (clean ks ρ2),ct:=λρ2=>dLoopC ks g tb E ds (clean ks ρ2) } ρ'
noncomputable def dForC(ks:List Nat)(ti:TDI)(g:TDG)(tb:TDS):TDS:=λE ρ=>ti ρ λds ρ'=>dLoopC ks g tb E ds (clean ks ρ')
theorem l_forC{K:Fg}{ks:List Nat}{ti:TDI}{g:TDG}{tb:TDS}{E:Ends}{σ:L2.St}{H:Hp}(h:liftS K (dForC ks ti g tb) E σ H):tFor (liftI K ti) (liftG K g) (liftS K tb) E σ H:=by
 obtain⟨G,F,ρ,D,R,w,n,r,b,c⟩:=h
 refine ⟨G,F,ρ,_,R,w,λJ H1 F1 ds ρ1 s1 R1 wk w1=>?_⟩
 refine ⟨λi m σ H=>m=ds.length - i/\i<=ds.length/\∃F' ρ',Sub F1 F'/\Rel K G F' σ H ρ'/\dLoopC ks g tb D (ds.drop i) ρ',⟨ds.length,rfl,S3 _,F1,_,Sub.refl _,R1.clean ks,w1⟩,?_⟩
 rintro i m σ H ⟨rfl,hi,F',ρ',s',R',w'⟩
 obtain⟨hgo,hst⟩:=wk i H F' s' R'.sub
 cases e:ds[i]? with
 | none =>
  have hl:ds.length<=i:=i4.mp e
  refine .inl ⟨hst (by omega),?_⟩
  rw[X2 hl]at w'
  exact n σ H F' ρ' (s1.trans s') R' w'
 | some d =>
  obtain⟨go,yl⟩:=hgo d e
  have hl:=lt_of_get e
  rw[drop_get e]at w'
  refine .inr ⟨go,λσ2 H2=>∃F2 ρ2,Sub F1 F2/\Rel K G F2 σ2 H2 ρ2/\dLoopC ks g tb D (ds.drop (i+1)) ρ2,λσ2 H2 ⟨F2,ρ2,z1,z2,z3⟩=>⟨ds.length - (i+1),by omega,rfl,hl,F2,ρ2,z1,z2,z3⟩,λx H2 y=>?_⟩
  obtain⟨F2,t1,t2,t3,t4,t5⟩:=yl x H2 y
  have R2:=R'.turn t1 t2 t3 t4
  refine ⟨G,F2,ρ',d,_,R2,t5,w',λσ3 ρ3 R3 w3=>?_⟩
  refine ⟨G,F2,ρ3,_,R3,w3,λσ4 H4 F4 ρ4 s4 R4 q=>?_,λv σ4 H4 F4 x4 ρ4 s4 R4 r4 q=>?_,λσ4 H4 F4 ρ4 s4 R4 q=>?_,λσ4 H4 F4 ρ4 s4 R4 q=>?_⟩
  ·exact ⟨F4,_,s'.trans (t1.trans s4),R4.clean ks,q⟩
  ·exact r v σ4 H4 F4 x4 ρ4 (s1.trans (s'.trans (t1.trans s4))) R4 r4 q
  ·exact n σ4 H4 F4 _ (s1.trans (s'.trans (t1.trans s4))) (R4.clean ks) q
  ·exact ⟨F4,_,s'.trans (t1.trans s4),R4.clean ks,q⟩
theorem cs_forC{X:Cx}{K:Fg}{st:Stmt}{t:TDS}(ks:List Nat){ti:TDI}{g:TDG}(h:PS X st (tFor (liftI K ti) (liftG K g) (liftS K t))):PS X st (liftS K (dForC ks ti g t)):=psM h l_forC
theorem loopC{ks:List Nat}{g:TDG}{tb:TDS}{E:DE}(J:List D->Ev->Prop)
  (hs:∀d ds ρ,J (d :: ds) ρ->∀N:Ev->Prop,(∀ρ2,J ds ρ2->N ρ2)->g d ρ λρ'=>tb { nx:=λρ2=>N (clean ks ρ2),rt:=E.rt,bk:=λρ2=>E.nx (clean ks ρ2),ct:=λρ2=>N (clean ks ρ2) } ρ')
  (hd:∀ρ,J [] ρ->E.nx ρ):∀{ds:List D}{ρ:Ev},J ds ρ->dLoopC ks g tb E ds ρ
 | [],ρ,h=>hd ρ h
 | d :: ds,ρ,h=>hs d ds ρ h _ λρ2 h2=>loopC J hs hd h2
noncomputable def dCompLC(n:Nat)(g:TDG)(tc:TTD)(te:TD):List D->List D->Ev->(List D->Ev->Prop)->Prop
 | [],acc,τ,Q=>Q acc τ
 | d :: ds,acc,τ,Q=>g d τ λτ1=>tc τ1 λb τ2=>if b=true then te τ2 λr τ3=>dCompLC n g tc te ds (acc++[r.d]) (clean (V1 n) τ3) Q else dCompLC n g tc te ds acc (clean (V1 n) τ2) Q
noncomputable def dCompC(ti:TDI)(own:List Str)(fr:List Nat)(g:TDG)(tc:TTD)(te:TD):TD:=λρ Q=>ti ρ λds ρ1=>ds.length<=sizeLine/\dCompLC own.length g tc te ds [] (innerE own fr ρ1) λys τ=>Q (.ow (.list ys)) (wbGo fr (τ.drop own.length) 0 ρ1)
theorem l_compC{K:Fg}{ti:TDI}{own:List Str}{fr:List Nat}{g:TDG}{tc:TTD}{te:TD}(nd:fr.Nodup){σ:L2.St}{H:Hp}{Q:VK}(h:lift K (dCompC ti own fr g tc te) σ H Q):tCompW (liftI K ti) own fr (liftG K g) (liftT K tc) (lift K te) σ H Q:=by
 obtain⟨G,F,ρ,Qd,R,w,k⟩:=h
 refine ⟨G,F,ρ,_,R,w,λJ H1 F1 ds ρ1 s1 R1 wk ⟨hz,w1⟩=>?_⟩
 have Ri:=R1.inner (own:=own) nd
 refine ⟨λi m ys τ H=>m=ds.length - i/\i<=ds.length/\∃F' ρ' acc,Rel K (ghC own fr F1 H1 σ ρ1) F' τ H ρ'/\DaAll K F' ys acc/\acc.length<=i/\dCompLC own.length g tc te (ds.drop i) acc ρ' (λys τ=>Qd (.ow (.list ys)) (wbGo fr (τ.drop own.length) 0 ρ1)),
   ⟨ds.length,rfl,S3 _,F1,_,[],Ri,.nil,S3 _,w1⟩,?_⟩
 rintro i m ys τ H' ⟨rfl,hi,F',ρ',acc,R',da,hl,w'⟩
 obtain⟨hgo,hst⟩:=wk i H' F' R'.sub0 R'.sub
 cases e:ds[i]? with
 | none =>
  have hl':ds.length<=i:=i4.mp e
  refine .inl ⟨hst (by omega),λDd hD=>?_⟩
  rw[X2 hl']at w'
  have Ro:=R1.outer R' nd
  obtain⟨Rn,rn⟩:=Ro.newOw (o:=.lst ys) (d:=.list acc) hD da
  exact k _ _ F' _ _ (s1.trans R'.sub0) Rn rn w'
 | some d =>
  obtain⟨go,yl⟩:=hgo d e
  have hlt:=lt_of_get e
  rw[drop_get e]at w'
  refine .inr ⟨go,by rw[da.length];omega,λys2 τ2 H2=>∃F2 ρ2 acc2,Rel K (ghC own fr F1 H1 σ ρ1) F2 τ2 H2 ρ2/\DaAll K F2 ys2 acc2/\acc2.length<=i+1/\dCompLC own.length g tc te (ds.drop (i+1)) acc2 ρ2 (λys τ=>Qd (.ow (.list ys)) (wbGo fr (τ.drop own.length) 0 ρ1)),
    λys2 τ2 H2 ⟨F2,ρ2,acc2,z1,z2,z3,z4⟩=>⟨ds.length - (i+1),by omega,rfl,hlt,F2,ρ2,acc2,z1,z2,z3,z4⟩,λx H2 y=>?_⟩
  obtain⟨F2,t1,t2,t3,t4,t5⟩:=yl x H2 y
  have R2:=R'.turn t1 t2 t3 t4
  refine ⟨_,F2,ρ',d,_,R2,t5,w',λτ3 ρ3 R3 w3=>?_⟩
  refine ⟨_,F2,ρ3,_,R3,w3,λb H4 F4 ρ4 s4 R4 w4=>?_⟩
  cases b with
  | false=>exact ⟨F4,_,acc,R4.clean _,da.mono (t1.trans s4),by omega,w4⟩
  | true =>
   refine ⟨_,F4,ρ4,_,R4,w4,λv H5 F5 r ρ5 s5 R5 r5 w5=>?_⟩
   obtain⟨F6,s6,R6,d6⟩:=r5.frz R5
   exact ⟨F6,_,acc++[r.d],R6.clean _,(da.mono (t1.trans (s4.trans (s5.trans s6)))).append (.cons d6 .nil),by simp;omega,w5⟩
section
variable {X:Cx}{K:Fg}{e:Expr}{st:Stmt}{ti:TDI}{own:List Str}{fr:List Nat}{g:TDG}{tc:TTD}{te:TD}
theorem cv_compC(nd:fr.Nodup)(h:PE X e (tCompW (liftI K ti) own fr (liftG K g) (liftT K tc) (lift K te))):PE X e (lift K (dCompC ti own fr g tc te)):=peM h (l_compC nd)
theorem cs_setCC{i:Nat}(nd:fr.Nodup)(h:PS X st (tAsg (tCompW (liftI K ti) own fr (liftG K g) (liftT K tc) (lift K te)) (gName i))):PS X st (liftS K (dSet i (dCompC ti own fr g tc te))):=psM h λq=>l_compC nd (l_set q)
end
theorem compC{n:Nat}{g:TDG}{tc:TTD}{te:TD}{Q:List D->Ev->Prop}(J:List D->List D->Ev->Prop)
  (hs:∀d ds acc τ,J (d :: ds) acc τ->∀N:List D->Ev->Prop,(∀acc2 τ2,J ds acc2 τ2->N acc2 τ2)->g d τ λτ1=>tc τ1 λb τ2=>if b=true then te τ2 λr τ3=>N (acc++[r.d]) (clean (V1 n) τ3) else N acc (clean (V1 n) τ2))
  (hd:∀acc τ,J [] acc τ->Q acc τ):∀{ds acc:List D}{τ:Ev},J ds acc τ->dCompLC n g tc te ds acc τ Q
 | [],acc,τ,h=>hd acc τ h
 | d :: ds,acc,τ,h=>hs d ds acc τ h _ λacc2 τ2 h2=>compC J hs hd h2
theorem compN{n:Nat}{g:TDG}{te:TD}{Q:List D->Ev->Prop}(J:List D->List D->Ev->Prop)
  (hs:∀d ds acc τ,J (d :: ds) acc τ->∀N:List D->Ev->Prop,(∀acc2 τ2,J ds acc2 τ2->N acc2 τ2)->g d τ λτ1=>te τ1 λr τ3=>N (acc++[r.d]) (clean (V1 n) τ3))
  (hd:∀acc τ,J [] acc τ->Q acc τ) {ds acc:List D}{τ:Ev} (h:J ds acc τ):dCompLC n g dYes te ds acc τ Q :=
 compC J (λd ds acc τ h N hN=>by
   have q:=hs d ds acc τ h N hN
   have e:(λτ1=>te τ1 λr τ3=>N (acc++[r.d]) (clean (V1 n) τ3))=λτ1=>dYes τ1 λb τ2=>if b=true then te τ2 (λr τ3=>N (acc++[r.d]) (clean (V1 n) τ3)) else N acc (clean (V1 n) τ2):=by
     funext τ1
     show _=(if true=true then te τ1 (λr τ3=>N (acc++[r.d]) (clean (V1 n) τ3)) else N acc (clean (V1 n) τ1))
     rw[if_pos rfl]
   rw[<- e]
   exact q) hd h
theorem mapC{n:Nat}{g:TDG}{te:TD}{Q:List D->Ev->Prop}(f:D->D){τ:Ev}{ds:List D}
  (hs:∀d∈ds,∀N:D->Ev->Prop,N (f d) τ->g d τ λτ1=>te τ1 λr τ3=>N r.d (clean (V1 n) τ3))
  (hd:Q (ds.map f) τ):dCompLC n g dYes te ds [] τ Q:=by
 refine compN (λrest acc τ'=>τ'=τ/\∃pre,ds=pre++rest/\acc=pre.map f) ?_ ?_ ⟨rfl,[],rfl,rfl⟩
 ·rintro d ds' acc τ' ⟨rfl,pre,e,rfl⟩ N hN
  exact hs d (by rw[e];simp) (λx τ3=>N (pre.map f++[x]) τ3) (hN _ _ ⟨rfl,pre++[d],by rw[e];simp,by simp⟩)
 ·rintro acc τ' ⟨rfl,pre,e,rfl⟩
  rw[T2]at e
  subst e
  exact hd
theorem filC{n:Nat}{g:TDG}{tc:TTD}{te:TD}{Q:List D->Ev->Prop}(p:D->Bool)(f:D->D){τ:Ev}{ds:List D}
  (hs:∀d∈ds,∀(N:D->Ev->Prop) (M:Ev->Prop),(p d=true->N (f d) τ)->(p d=false->M τ)->g d τ λτ1=>tc τ1 λb τ2=>if b=true then te τ2 λr τ3=>N r.d (clean (V1 n) τ3) else M (clean (V1 n) τ2))
  (hd:Q ((ds.filter p).map f) τ):dCompLC n g tc te ds [] τ Q:=by
 refine compC (λrest acc τ'=>τ'=τ/\∃pre,ds=pre++rest/\acc=(pre.filter p).map f) ?_ ?_ ⟨rfl,[],rfl,rfl⟩
 ·rintro d ds' acc τ' ⟨rfl,pre,e,rfl⟩ N hN
  exact hs d (by rw[e];simp) (λx τ3=>N ((pre.filter p).map f++[x]) τ3) (λτ3=>N ((pre.filter p).map f) τ3) (λhp=>hN _ _ ⟨rfl,pre++[d],by rw[e];simp,by simp[hp]⟩)
   (λhp=>hN _ _ ⟨rfl,pre++[d],by rw[e];simp,by simp[hp]⟩)
 ·rintro acc τ' ⟨rfl,pre,e,rfl⟩
  rw[T2]at e
  subst e
  exact hd
structure WE(X:Cx)(e:Expr)(t:TE):Prop where
 h:PE X e t
structure WA(X:Cx)(es:List Expr)(t:TA):Prop where
 h:PA X es t
structure WT(X:Cx)(e:Expr)(t:TT):Prop where
 h:PT X e t
structure WW(X:Cx)(e:Expr)(t:TT):Prop where
 h:PW X e t
structure WS(X:Cx)(s:Stmt)(t:TS):Prop where
 h:PS X s t
structure WSs(X:Cx)(s:List Stmt)(t:TS):Prop where
 h:PSs X s t
structure WG(X:Cx)(e:Expr)(t:TG):Prop where
 h:PG X e t
structure WGs(X:Cx)(es:List Expr)(t:TGs):Prop where
 h:PGs X es t
structure WI(X:Cx)(g e:Expr)(t:TI):Prop where
 h:PI X g e t
structure WIf(X:Cx)(es:List Expr)(t:TT):Prop where
 h:PIf X es t
section
variable {X:Cx}{K:Fg}{e e1 e2 e3:Expr}{es:List Expr}{a b c:AD}{as:List AD}{td te tf:TD}{tc tc':TTD}{st:Stmt}{sts:List Stmt}{t u:TDS}{p pos pos' p2 apos cpos tpos:Pos}{x:Str}{tg:Expr}
theorem wn(i:Nat)(hN:X.N[i]?=some x:=by rfl)(hv:Vis X.env.scope x:=by first|exact Or.inl rfl|exact Or.inr (Or.inl rfl)|exact Or.inr (Or.inr rfl))(hd:(x==("__debug__":Str))=false:=by decide)
  (hcd:(x==("__classdict__":Str))=false:=by decide):WE X (.Name x pos) (argT K (.inl i)):=⟨pe_var hN hv hd hcd⟩
theorem wv(i:Nat)(hN:X.N[i]?=some x:=by rfl)(hv:Vis X.env.scope x:=by first|exact Or.inl rfl|exact Or.inr (Or.inl rfl)|exact Or.inr (Or.inr rfl))(hd:(x==("__debug__":Str))=false:=by decide)
  (hcd:(x==("__classdict__":Str))=false:=by decide):WE X (.Name x pos) (lift K (dVar i)):=⟨cv_var (pe_var hN hv hd hcd)⟩
theorem wx(h:WE X e (lift K td)):WE X e (argT K (.inr td)):=⟨h.h⟩
theorem wa_nil:WA X [] (tArgs (([]:List AD).map (argT K))):=⟨pa_nil⟩
theorem wa_cons(ha:WE X e (argT K a))(hr:WA X es (tArgs (as.map (argT K))))(hs:notStar e=true:=by rfl):WA X (e :: es) (tArgs ((a :: as).map (argT K))):=⟨da_cons ha.h hr.h (starEach_of hs)⟩
theorem w_int{i:Int}{k:Nat}:WE X (.Constant (.int i) k pos) (lift K (dC (.int i))):=⟨cv_c (λ_=>.int _) pe_int⟩
theorem w_bl{b:Bool}{k:Nat}:WE X (.Constant (.bool b) k pos) (lift K (dC (.bool b))):=⟨cv_c (λ_=>.bl _) pe_bl⟩
theorem w_non{k:Nat}:WE X (.Constant .none k pos) (lift K (dC .none)):=⟨cv_c (λ_=>.non) pe_non⟩
theorem w_str{z:Str}{k:Nat}:WE X (.Constant (.str z) k pos) (lift K (dC (.str z))):=⟨cv_c (λ_=>.str _) pe_str⟩
theorem w_bin{op:Operator}{r:R2}{f:D->D->(Sl->Prop)->Prop}(ok:OpOk K (r2L r) (o2 f))(ho:OpR X (binaryOp op) r)(ha:WE X e1 (argT K a))(hb:WE X e2 (argT K b)):WE X (.BinOp e1 op e2 pos) (lift K (dOp [a,b] (o2 f))):=⟨cv2 ok (pe_op ho ha.h hb.h)⟩
theorem w_neg(ha:WE X e1 (argT K a)):WE X (.UnaryOp .USub e1 pos) (lift K (dOp [a] (o1 fNeg))):=⟨cvu ok_neg (pe_un un_neg ha.h)⟩
theorem w_cmp{op:CmpOp}{r:R2}{f:D->D->(Sl->Prop)->Prop}(ok:OpOk K (r2L r) (o2 f))(ho:OpR X (compareOp op) r)(ha:WE X e1 (argT K a))(hb:WE X e2 (argT K b))(hm:op≠.In:=by decide)(hm2:op≠.NotIn:=by decide):WE X (.Compare e1 [op] [e2] pos) (lift K (dOp [a,b] (o2 f))):=⟨cv2 ok (pe_cmpR ho ha.h hb.h (nomark _ hm hm2))⟩
theorem w_chain{op op':CmpOp}{p q:Int->Int->Bool}(ho:OpR X (compareOp op) (rI0 λi j=>.bl (p i j)))(ho':OpR X (compareOp op') (rI0 λi j=>.bl (q i j)))(ha:WE X e1 (argT K a))(hb:WE X e2 (argT K b))(hc:WE X e3 (argT K c))
  (hm:lastMarks [op,op'] [e2,e3]=false:=by with_unfolding_all rfl):WE X (.Compare e1 [op,op'] [e2,e3] pos) (lift K (dChain p q a b c)):=⟨cv_chain (pe_chain ho ho' ha.h hb.h hc.h hm)⟩
theorem w_one{op:BoolOp}{tr:TE}(h:WE X e tr):WE X (.BoolOp op [e] pos) tr:=⟨pe_one h.h⟩
theorem w_and{rest:List Expr}(ha:WE X e1 (lift K td))(hb:WE X (.BoolOp .And (e2 :: rest) pos) (lift K te)):WE X (.BoolOp .And (e1 :: e2 :: rest) pos) (lift K (dAndV td te)):=⟨cv_and (pe_and ha.h hb.h)⟩
theorem w_not(ha:WE X e1 (lift K td)):WE X (.UnaryOp .Not e1 pos) (lift K (dNotV td)):=⟨cv_not (pe_not ha.h)⟩
theorem w_fn{k:Nat}{ps:List Str}{con:Con}(C:Cal X.prog X.w X.K X.mg X.base k x ps (conSp K con))(hr:Room k X.A)(ha:WA X (e :: es) (tArgs (as.map (argT K))))(hg:Gl X x:=by rfl)(hdb:(x==("__debug__":Str))=false:=by decide)
  (he:notStar e=true:=by rfl) (hpl:es.all notStar=true:=by rfl):WE X (.Call (.Name x p) (e :: es) [] pos) (lift K (dCall con as)):=⟨cv_fn (pe_fn C hr ha.h hg hdb (starEach_of he) (plain_of hpl))⟩
theorem w_fnI{k i:Nat}{ps:List Str}{con:Con}(C:Cal X.prog X.w X.K X.mg X.base k x ps (conSp K con))(hr:Room k X.A)(ha:WA X (e :: es) (tArgs ((Sum.inl i :: as).map (argT K))))(hg:Gl X x:=by rfl)(hdb:(x==("__debug__":Str))=false:=by decide)
  (he:notStar e=true:=by rfl) (hpl:es.all notStar=true:=by rfl):WE X (.Call (.Name x p) (e :: es) [] pos) (lift K (dCallI con i as)):=⟨cv_fnI (pe_fn C hr ha.h hg hdb (starEach_of he) (plain_of hpl))⟩
theorem w_callB{id:String}{r:List V->Hp->VK->Prop}{f:List D->(Sl->Prop)->Prop}(ok:OpOk K r f)(hc:CallR X (.builtin id) r)(hm:X.mg x=none)(hv:bootBuiltins x=some (.builtin id))(ha:WA X (e :: es) (tArgs (as.map (argT K))))(hg:Gl X x:=by rfl)(hn:x ≠ "__name__":=by decide)(hdb:(x==("__debug__":Str))=false:=by decide)
  (he:notStar e=true:=by rfl) (hpl:es.all notStar=true:=by rfl):WE X (.Call (.Name x p) (e :: es) [] pos) (lift K (dOp as f)):=⟨cvB ok (pe_callB hc hg hm hv ha.h hn hdb (starEach_of he) (plain_of hpl))⟩
theorem w_callT{T:String}{r:List V->Hp->VK->Prop}{f:List D->(Sl->Prop)->Prop}(ok:OpOk K r f)(hc:CallR X (.type T) r)(hm:X.mg x=none)(hv:bootBuiltins x=some (.type T))(ha:WA X (e :: es) (tArgs (as.map (argT K))))(hg:Gl X x:=by rfl)(hn:x ≠ "__name__":=by decide)(hdb:(x==("__debug__":Str))=false:=by decide)
  (he:notStar e=true:=by rfl) (hpl:es.all notStar=true:=by rfl):WE X (.Call (.Name x p) (e :: es) [] pos) (lift K (dOp as f)):=⟨cvB ok (pe_callTy hc hg hm hv ha.h hn hdb (starEach_of he) (plain_of hpl))⟩
theorem w_isi(T:Ki)(hK:X.K=K)(hm:X.mg "isinstance"=none){y:Str}(hm2:X.mg y=none)(hv2:bootBuiltins y=some (.type T.nm))(ha:WE X e1 (argT K a))(hg:Gl X "isinstance":=by rfl)(hg2:Gl X y:=by rfl)(hy:y ≠ "__name__":=by decide)(hy2:(y==("__debug__":Str))=false:=by decide)(he:notStar e1=true:=by rfl) :
  WE X (.Call (.Name "isinstance" p) [e1,.Name y p2] [] pos) (lift K (dOp [a] (o1 (fIsi T)))):=⟨cv_isi T (pe_callB (call_isiK hK) hg hm boot_isinstance (pa_cons ha.h (pa_cons (pe_bltn hg2 hm2 hv2 (v:=.ty T.nm) rfl hy hy2) pa_nil (starEach_of rfl)) (starEach_of he)) (by decide) (by decide) (starEach_of he) (plain_of rfl))⟩
theorem w_LR(hc:X.calm=true)(hm:X.mg "list"=none)(hm2:X.mg "range"=none)(ha:WA X [e1,e2] (tArgs ([a,b].map (argT K))))(hg:Gl X "list":=by rfl)(hg2:Gl X "range":=by rfl)(he:notStar e1=true:=by rfl)(he2:notStar e2=true:=by rfl) :
  WE X (.Call (.Name "list" p) [.Call (.Name "range" p2) [e1,e2] [] pos'] [] pos) (lift K (dOp [a,b] (o2 fLR))) :=
 ⟨cv_LR (pe_callTy (call_lstRng hc) hg hm boot_list (pa_cons (pe_callTy call_rng hg2 hm2 boot_range ha.h (by decide) (by decide) (starEach_of he) (plain_of (by simp[he2]))) pa_nil (starEach_of rfl)) (by decide) (by decide) (starEach_of rfl) (plain_of rfl))⟩
theorem w_ix(hK:X.K=K)(ha:WE X e1 (argT K a))(hb:WE X e2 (argT K b))(hs:PlainIx e2:=by exact λ_ _=>rfl):WE X (.Subscript e1 e2 pos) (lift K (dOp [a,b] (o2 fIx))):=⟨cv2 ok_ix (pe_ix (ix_seqD hK) ha.h hb.h hs)⟩
theorem w_dget(hu:X.A.units+1 < cLine)(ha:WE X e1 (argT K a))(hb:WE X e2 (argT K b))(hs:NoSl e2:=by exact λ_ _=>rfl):WE X (.Subscript e1 e2 pos) (lift K (dOp [a,b] (o2 fDGet))):=⟨cv2 ok_dget (pe_dget hu ha.h hb.h hs)⟩
theorem w_tup{k:Nat}(h:WA X es (tArgs (as.map (argT K))))(hl:as.length<=1000:=by decide):WE X (.Tuple es k pos) (lift K (dOpF as fTupD)):=⟨cv_tup hl (pe_tup h.h)⟩
theorem w_lst(h:WA X es (tArgs (as.map (argT K))))(hl:as.length<=1000:=by decide):WE X (.List es pos) (lift K (dOpF as fLstD)):=⟨cv_lst hl (pe_lst h.h)⟩
theorem w_disp(its:List (Key×Sum Nat D))(hn:(its.map (·.1)).Nodup)(hl:its.length<=15)(hc:∀p∈its,∀d,p.2=.inr d->∃n,d=.int n)(h:PE X e (tDisp (its.map λp=>(tC (kV p.1),itT p.2)))):WE X e (lift K (dDisp its)):=⟨cv_disp its hn hl hc h⟩
theorem w_comp{elt iter:Expr}{ifs:List Expr}{sc:Scope}{own:List Str}{fr:List Nat}{ti:TDI}{g:TDG}(hc:X.calm=true)(S:compOk X.env.scope X.N fr sc=true)(hi:WI X tg iter (liftI K ti))(hg:∀C s H ex,WG (cxComp X own fr sc C s H ex) tg (liftG K g))
  (hif:∀C s H ex,WIf (cxComp X own fr sc C s H ex) ifs (liftT K tc)) (he:∀C s H ex,WE (cxComp X own fr sc C s H ex) elt (lift K te)) (nd:fr.Nodup:=by decide) (hs:notSet iter=true:=by rfl):WE X (.ListComp elt [⟨tg,iter,ifs,0⟩] sc pos) (lift K (dCompC ti own fr g tc te)) :=
 ⟨cv_compC nd (pe_compW hc (compSc_of S) hi.h (λC s H ex=>(hg C s H ex).h) (λC s H ex=>(hif C s H ex).h) (λC s H ex=>(he C s H ex).h) (folded_of hs))⟩
theorem w_m{name:Str}{id:String}{i:Nat}{r:V->List V->Hp->VK->Prop}{f:List D->List D->(D->D->Prop)->Prop}(ok:MOk K r f)(hK:X.K=K)(slot:Slot "list" name id)(hty:typeOf (.builtin id)=pure (.type "method_descriptor"))(hm:MtR X id r)(ho:WE X (.Name x p) (argT K (.inl i)))(ha:WA X (e :: es) (tArgs (as.map (argT K))))
  (hbase:attributeBase (.Name x p) name X.env (eval (.Name x p) X.env)=eval (.Name x p) X.env:=by rfl)
  (hfew:((backTo cpos (starEach (e :: es) X.env)).all (λx=>!x.1)&&(backToKw cpos (keywordEach [] X.env)).all (λx=>x.1.isSome)&&decide ((e :: es).length+([]:List Keyword).length+(if ([]:List Keyword).isEmpty then 0 else 1) < 30))=true:=by rfl)
  (hline:(apos.endLine==cpos.line)=true:=by rfl) (he:notStar e=true:=by rfl) (hpl:es.all notStar=true:=by rfl):WE X (.Call (.Attribute (.Name x p) name apos) (e :: es) [] cpos) (lift K (dMeth i as f)):=by
 subst hK
 exact ⟨cv_m ok (pe_bm PySem.F.plainAttrs_list slot hty hm ho.h ha.h hbase hfew hline (starEach_of he) (plain_of hpl))⟩
theorem w_m0{name:Str}{id:String}{i:Nat}{r:V->List V->Hp->VK->Prop}{f:List D->List D->(D->D->Prop)->Prop}(ok:MOk K r f)(hK:X.K=K)(slot:Slot "list" name id)(hty:typeOf (.builtin id)=pure (.type "method_descriptor"))(hm:MtR X id r)(ho:WE X (.Name x p) (argT K (.inl i)))
  (hbase:attributeBase (.Name x p) name X.env (eval (.Name x p) X.env)=eval (.Name x p) X.env:=by rfl) (hline:(apos.endLine==cpos.line)=true:=by rfl):WE X (.Call (.Attribute (.Name x p) name apos) [] [] cpos) (lift K (dMeth i [] f)):=by
 subst hK
 exact ⟨cv_m0 ok (pe_bm0 PySem.F.plainAttrs_list slot hty hm ho.h hbase hline)⟩
theorem t_cmp{op:CmpOp}{r:R2}{f:D->D->(Sl->Prop)->Prop}(ok:OpOk K (r2L r) (o2 f))(ho:OpR X (compareOp op) r)(ha:WE X e1 (argT K a))(hb:WE X e2 (argT K b))(hm:op≠.In:=by decide)(hm2:op≠.NotIn:=by decide):WT X (.Compare e1 [op] [e2] pos) (liftT K (dTst (dOp [a,b] (o2 f)))):=⟨ct2 ok (pt_cmpR ho ha.h hb.h (nomark _ hm hm2))⟩
theorem t_not(h:WT X e (liftT K tc)):WT X (.UnaryOp .Not e pos) (liftT K (dNot tc)):=⟨ct_not (pt_not h.h)⟩
theorem t_and1(h:WT X e (liftT K tc)):WW X (.BoolOp .And [e] pos) (liftT K tc):=⟨pw_and1 h.h⟩
theorem t_or1(h:WT X e (liftT K tc)):WW X (.BoolOp .Or [e] pos) (liftT K tc):=⟨pw_or1 h.h⟩
theorem t_and{rest:List Expr}(ha:WT X e1 (liftT K tc))(hb:WW X (.BoolOp .And (e2 :: rest) pos) (liftT K tc')):WW X (.BoolOp .And (e1 :: e2 :: rest) pos) (liftT K (dAnd tc tc')):=⟨cw_and (pw_and ha.h hb.h)⟩
theorem t_or{rest:List Expr}(ha:WT X e1 (liftT K tc))(hb:WW X (.BoolOp .Or (e2 :: rest) pos) (liftT K tc')):WW X (.BoolOp .Or (e1 :: e2 :: rest) pos) (liftT K (dOr tc tc')):=⟨cw_or (pw_or ha.h hb.h)⟩
theorem t_w{tt:TT}(h:WW X e tt):WT X e tt:=⟨h.h.pt⟩
theorem t_val(h:WE X e (lift K td))(he:∀whole,isTrue e X.env whole=(do let v<-whole;standAt e.pos;holding [v] (truthy v)):=by intro _;rfl):WT X e (liftT K (dTst td)):=⟨ct_val (pt_val h.h he)⟩
theorem g_name{i:Nat}(hN:X.N.Nodup)(hi:X.N[i]?=some x)(hx:Loc X.env.scope x)(hf:X.fn x=true\/X.env.scope.names.lookup x=some .local:=by first|exact .inl rfl|exact .inr rfl|assumption):WG X (.Name x pos) (liftG K (dGN i)):=⟨cg_name (pg_name hN hi hx hf)⟩
theorem gs_nil:WGs X [] (gAll (([]:List TDG).map (liftG K))):=⟨pgs_nil⟩
theorem gs_cons{g:TDG}{gs:List TDG}(h1:WG X e (liftG K g))(h2:WGs X es (gAll (gs.map (liftG K))))(hs:(assignEach (e :: es) X.env).map (·.2)=assign e X.env :: (assignEach es X.env).map (·.2):=by rfl):WGs X (e :: es) (gAll ((g :: gs).map (liftG K))):=⟨cgs_cons h1.h h2.h hs⟩
theorem g_tup{gs:List TDG}{k:Nat}(hK:X.K=K)(hc:X.calm=true)(hh:WGs X es (gAll (gs.map (liftG K))))(hn:(assignEach es X.env).length=gs.length:=by rfl)(hst:(assignEach es X.env).findIdx? (·.1)=none:=by rfl):WG X (.Tuple es k pos) (liftG K (dGT gs)):=⟨cg_tup (pg_tupK hK hc hh.h hn hst) rfl⟩
theorem if0:WIf X [] (liftT K dYes):=⟨cif_nil⟩
theorem if1(h:WT X e (liftT K tc)):WIf X [e] (liftT K tc):=⟨if_one h.h⟩
theorem i_seq(hK:X.K=K)(hl:WE X e (lift K td)):WI X tg e (liftI K (dISeq td)):=⟨ci_seq hK hl.h⟩
theorem i_rng1(hm:X.mg "range"=none)(ha:WA X [e1] (tArgs ([a].map (argT K))))(hg:Gl X "range":=by rfl)(he:notStar e1=true:=by rfl):WI X tg (.Call (.Name "range" p) [e1] [] pos) (liftI K (dIRng1 a)):=⟨ci_rng1 (pi_range1 hg hm ha.h (by rw[starEach_of he];rfl))⟩
theorem i_rng2(hm:X.mg "range"=none)(ha:WA X [e1,e2] (tArgs ([a,b].map (argT K))))(hg:Gl X "range":=by rfl)(he:notStar e1=true:=by rfl)(he2:notStar e2=true:=by rfl):WI X tg (.Call (.Name "range" p) [e1,e2] [] pos) (liftI K (dIRng2 a b)):=⟨ci_rng2 (pi_range2 hg hm ha.h (by rw[starEach_of he,starEach_of he2];rfl) (by rw[starEach_of he2];rfl))⟩
theorem i_zip2{ts:List Expr}{kk:Nat}(hK:X.K=K)(hm:X.mg "zip"=none)(ha:WA X [e1,e2] (tArgs ([a,b].map (argT K))))(hg:Gl X "zip":=by rfl)(he:notStar e1=true:=by rfl)(hpl:[e2].all notStar=true:=by rfl):WI X (.Tuple ts kk tpos) (.Call (.Name "zip" p) [e1,e2] [] pos) (liftI K (dIZip2 a b)):=⟨ci_zip2 (pi_zip2K hK hg hm ha.h (starEach_of he) (plain_of hpl))⟩
theorem s_nil:WSs X [] (liftS K dNext):=⟨cs_next pss_nil⟩
theorem s_one{tr:TS}(h:WS X st tr):WSs X [st] tr:=⟨pss_one h.h⟩
theorem s_cons(h:WS X st (liftS K t))(h2:WSs X sts (liftS K u)):WSs X (st :: sts) (liftS K (dSeq t u)):=⟨cs_seq (pss_cons h.h h2.h)⟩
theorem s_ret(h:WE X e (lift K td)):WS X (.Return (some e) pos) (liftS K (dRet td)):=⟨cs_ret (ps_ret h.h)⟩
theorem s_retV{i:Nat}(h:WE X e (argT K (.inl i))):WS X (.Return (some e) pos) (liftS K (dRetV i)):=⟨cs_retV (ps_ret h.h)⟩
theorem s_expr(h:WE X e (lift K td))(hs:notComp e=true:=by rfl):WS X (.Expr e pos) (liftS K (dDrop td)):=⟨cs_drop (ps_expr h.h (swaps_of hs))⟩
theorem s_if{sa sb:List Stmt}(hc:WT X e (liftT K tc))(ha:WSs X sa (liftS K t))(hb:WSs X sb (liftS K u)):WS X (.If e sa sb pos) (liftS K (dIfS tc t u)):=⟨cs_if (ps_if hc.h ha.h hb.h)⟩
theorem s_for{iter:Expr}{body:List Stmt}(ks:List Nat){ti:TDI}{g:TDG}(hp:PassesOwn (model X.prog X.w) X.A X.env X.xe)(hc:X.calm=true)(hi:WI X tg iter (liftI K ti))(hg:WG X tg (liftG K g))(hb:WSs X body (liftS K t))(hs:notSet iter=true:=by rfl):WS X (.For tg iter body [] pos) (liftS K (dForC ks ti g t)):=⟨cs_forC ks (ps_for hp hc hi.h hg.h hb.h (folded_of hs))⟩
theorem s_set{i:Nat}(hN:X.N.Nodup)(hi:X.N[i]?=some x)(hx:Loc X.env.scope x)(he:WE X e (lift K td))(hs:notComp e=true:=by rfl)(hf:X.fn x=true\/X.env.scope.names.lookup x=some .local:=by first|exact .inl rfl|exact .inr rfl|assumption):WS X (.Assign [.Name x pos'] e pos) (liftS K (dSet i td)):=⟨cs_set (ps_set hN hi hx he.h (swaps_of hs) hf)⟩
theorem s_move{i j:Nat}(hN:X.N.Nodup)(hi:X.N[i]?=some x)(hx:Loc X.env.scope x)(he:WE X e (argT K (.inl j)))(hs:notComp e=true:=by rfl)(hf:X.fn x=true\/X.env.scope.names.lookup x=some .local:=by first|exact .inl rfl|exact .inr rfl|assumption):WS X (.Assign [.Name x pos'] e pos) (liftS K (dMove i j)):=⟨cs_move (ps_set hN hi hx he.h (swaps_of hs) hf)⟩
theorem s_setC{elt iter:Expr}{ifs:List Expr}{sc:Scope}{own:List Str}{fr:List Nat}{ti:TDI}{g:TDG}{i:Nat}(hN:X.N.Nodup)(hy:X.N[i]?=some x)(hl:X.env.scope.names.lookup x=some .local)(hc:X.calm=true)(S:compOk X.env.scope X.N fr sc=true)(hi:WI X tg iter (liftI K ti))(hg:∀C s H ex,WG (cxComp X own fr sc C s H ex) tg (liftG K g))
  (hif:∀C s H ex,WIf (cxComp X own fr sc C s H ex) ifs (liftT K tc)) (he:∀C s H ex,WE (cxComp X own fr sc C s H ex) elt (lift K te)) (nd:fr.Nodup:=by decide) (hs:notSet iter=true:=by rfl) (hsw:swapsWith (.ListComp elt [⟨tg,iter,ifs,0⟩] sc p) (some (.Name x pos')) pos.line X.env=pure true:=by rfl) :
  WS X (.Assign [.Name x pos'] (.ListComp elt [⟨tg,iter,ifs,0⟩] sc p) pos) (liftS K (dSet i (dCompC ti own fr g tc te))) :=
 ⟨cs_setCC nd (ps_setCompW hN hy hl hc (compSc_of S) hi.h (λC s H ex=>(hg C s H ex).h) (λC s H ex=>(hif C s H ex).h) (λC s H ex=>(he C s H ex).h) hsw (folded_of hs))⟩
theorem s_key{j:Nat}(hu:X.A.units+1 < cLine)(ho:WE X e1 (argT K (.inl j)))(hi:WE X e2 (argT K a))(hv:WE X e (lift K td))(hs:notComp e=true:=by rfl):WS X (.Assign [.Subscript e1 e2 pos'] e pos) (liftS K (dSetKey j a td)):=⟨cs_key (ps_dput hu ho.h hi.h hv.h (swaps_of hs))⟩
theorem s_asgG{g:TDG}(he:WE X e (lift K td))(hg:WG X tg (liftG K g))(hs:swapsWithSole [tg] e pos.line X.env=pure false:=by rfl)(hw:swappedStores [tg] e X.env=pure none:=by rfl)(h1:(assignEach [tg] X.env).map (·.2)=[assign tg X.env]:=by rfl):WS X (.Assign [tg] e pos) (liftS K (dAsgG g td)):=⟨cs_asgG (ps_asg he.h hg.h hs hw h1)⟩
end
section
variable {P:Program}{w:World}{K:Fg}{mg:Str->Option Value}{base:Heap}
theorem wfn{x qual:Str}{st:Stmt}{f:Addr}{fd:FuncData}{N ps:List Str}{k:Nat}{con:Con}{ts:TDS}(F:Fun K x qual st f fd)(S:FnScope N ps (defScope st))
  (hb:∀(cdv:Value) (A:Around) (outer:List Env) (s:Shared) (H:Hp) (E:XK),Room k (A.deeper (envOfC qual (defScope st) s.heap.objs.size f cdv))->WSs (cxOf CX0 P w K mg base N qual (defScope st) f cdv A outer s H E).nox (defBody st) (liftS K ts))
  (hl:∀args Qd,con args Qd->args.length=ps.length) (hc:∀args Qd,con args Qd->(∀s∈args,∀d,s≠.ow d)/\ts (endsOf args Qd) (startE N.length args)):FnOk P w K mg base CX0 (k+1) f fd ps (conSp K con) :=
 dfn F S (λcdv A outer s H E hr=>(hb cdv A outer s H E hr).h) hl hc
end
end L3
namespace L2
open PySem PySem.Spec PyProof.Rows
theorem plain_upd_loop:plainId "dict.update.loop"=true:=by decide +kernel
theorem entry_upd_loop:entryFor table "dict.update.loop"=some Builtin.«dict.update.loop»:=entryFor_of_tree (by kernel_rfl)
section
variable {prog:Program}{w:World}{A:Around}{E:Value->Shared->Prop}{s:Shared}
end
section
variable {prog:Program}{w:World}{A:Around}{R:Result->Shared->Prop}{I:Addr}{fp wr:List Addr}{n:Nat}{P:Nat->Value->Prop}{St:Nat->Heap->Prop}
end
noncomputable def putAll{κ:Type}[DecidableEq κ](kvs:List (κ×V)):List (κ×V):=kvs.foldl (λm kv=>putK m kv.1 kv.2) []
theorem putAll_snoc{κ:Type}[DecidableEq κ](kvs:List (κ×V))(kv:κ×V):putAll (kvs++[kv])=putK (putAll kvs) kv.1 kv.2:=by simp[putAll]
theorem putAll_take{κ:Type}[DecidableEq κ]{kvs:List (κ×V)}{kv:κ×V}{i:Nat}(h:kvs[i]?=some kv):putAll (kvs.take (i+1))=putK (putAll (kvs.take i)) kv.1 kv.2:=by
 rw[<- putAll_snoc,List.take_add_one,h];rfl
theorem putAll_len{κ:Type}[DecidableEq κ](kvs:List (κ×V)):(putAll kvs).length<=kvs.length:=by
 have gen:∀(l m:List (κ×V)),(l.foldl (λm kv=>putK m kv.1 kv.2) m).length<=m.length+l.length:=by
  intro l
  induction l with
  | nil=>intro m;simp
  | cons x l ih =>
   intro m
   have h1:=ih (putK m x.1 x.2)
   have h2:=length_putK m x.1 x.2
   simp only[P7,E3]
   omega
 simpa [putAll]using gen kvs []
theorem Vals.getV:∀{xs:List V}{us:List Value}{i:Nat}{u:Value},Vals xs us->us[i]?=some u->∃x,xs[i]?=some x/\RelV x u
 | _,_,0,_,.cons r _,e=>⟨_,rfl,by cases e;exact r⟩
 | _,_,i+1,_,.cons _ t,e=>Vals.getV (i:=i) t e
section
variable {X:Cx}
end
section
theorem putAll_nodup{κ:Type}[DecidableEq κ](kvs:List (κ×V))(h:(kvs.map (·.1)).Nodup):putAll kvs=kvs:=by
 have gen:∀(l m:List (κ×V)),((m++l).map (·.1)).Nodup->l.foldl (λm kv=>putK m kv.1 kv.2) m=m++l:=by
  intro l
  induction l with
  | nil=>intro m _;simp
  | cons x l ih =>
   intro m hn
   have e:putK m x.1 x.2=m++[x]:=by
    unfold putK
    rw[if_neg]
    intro q
    obtain⟨y,hy,hyx⟩:=List.any_eq_true.mp q
    have hyx:y.1=x.1:=by simpa using hyx
    rw[B3,List.nodup_append]at hn
    exact hn.2.2 y.1 (T0.mpr ⟨y,hy,rfl⟩) x.1 (by simp) hyx
   simp only[P7]
   rw[e,ih (m++[x]) (by simpa using hn)]
   simp
 simpa [putAll]using gen kvs [] (by simpa using h)
end
end L2
namespace L3
open PySem PySem.Spec L2
noncomputable abbrev enT(p:List Key×D):D×D:=(.tuple (p.1.map keyD),p.2)
section
variable {K:Fg}{F H:Hp}
end
section
variable {X:Cx}{K:Fg}{e1 e2:Expr}{a b:AD}{pos:Pos}
end
end L3
namespace L2
open PySem PySem.Spec PyProof.Rows
noncomputable abbrev IsZipH(h:Heap)(z TI TO T:Addr)(fl:Bool):Prop :=
 h.get? z=some { cls:=.type "zip",dict:=none,data:=.fields #[rawInt T,.bool fl,.bool false,.ref TI,.ref TO],slots:=#[] }
section
variable {prog:Program}{w:World}{A:Around}{E:Value->Shared->Prop}{s:Shared}
theorem alive{a:Addr}{o:Obj}{Q:Option Obj->Shared->Prop}(ho:s.heap.get? a=some o)(h:Q (some o) s):wpAny (model prog w) A (loadIfAlive a) Q E s:=λΓ p _=>by
 show Sem.wp _ Γ (.loadIfAlive a λx=>.pure x) _ _ p s
 rw[Sem.wp_loadIfAlive,ho]
 exact h
theorem notFree{z TI TO T:Addr}{fl:Bool}{ot:Obj}{Q:Bool->Shared->Prop}(hz:IsZipH s.heap z TI TO T fl)(hT:s.heap.get? T=some ot)
  (h:∀h₁,IsZipH h₁ z TI TO T true->u4 z s.heap h₁->Q false { s with heap:=h₁ }):wpAny (model prog w) A (K1 (.ref z)) Q E s:=by
 unfold K1
 refine wpAny_bind (wpAny_field hz rfl (x:=rawInt T) rfl ?_)
 show wpAny _ _ (loadIfAlive T >>= _) _ _ _
 refine wpAny_bind (alive hT ?_)
 rw[if_neg (show ¬((some ot).isNone=true) from W0)]
 refine wpAny_bind (wpAny_field hz rfl (x:=.bool fl) rfl ?_)
 cases fl with
 | true =>
  rw[if_neg (by decide)]
  exact wpAny_pure (h s.heap hz ⟨rfl,λ_ _=>rfl⟩)
 | false =>
  rw[if_pos (by decide)]
  exact wpAny_bind (wpAny_setField_rec hz (by simp) λh₁ hz₁ hs₁=>wpAny_pure (h h₁ hz₁ hs₁))
theorem zipn_kept2{z TI TO T i1 i2 l1 l2:Addr}{fl:Bool}{k:Nat}{k1:Kd}{k2:Kd}{xs1 xs2:Array Value}{ot:Obj}{x1 x2:Value}{Q:Value->Shared->Prop}(D:ZAp2 z TI TO i1 i2 l1 l2)
  (hz:IsZipH s.heap z TI TO T fl) (hTI:IsTup2 s.heap TI (.ref i1) (.ref i2)) (hT:s.heap.get? T=some ot)
  (h1:ItAt k1 s.heap i1 l1 k) (h2:ItAt k2 s.heap i2 l2 k) (hl1:SqAt k1 s.heap l1 xs1) (hl2:SqAt k2 s.heap l2 xs2) (hx1:xs1[k]?=some x1) (hx2:xs2[k]?=some x2)
  (hQ:∀h',IsZipH h' z TI TO T true->ItAt k1 h' i1 l1 (k+1)->ItAt k2 h' i2 l2 (k+1)->IsTup2 h' s.heap.objs.size x1 x2->h'.objs.size=s.heap.objs.size+1 ->
    (∀c o,c≠z->c≠i1->c≠i2->s.heap.get? c=some o->h'.get? c=some o)->Q (.ref s.heap.objs.size) { s with heap:=h' }) :
  wpAny (model prog w) A (Builtin.«zip.__next__» ⟨[.ref z],[]⟩) (λfin s'=>∃v,fin=.done (.ret v)/\Q v s') E s:=by
 show wpAny _ _ (field (.ref z) 2 >>= _) _ _ _
 refine wpAny_bind (wpAny_field hz rfl (x:=.bool false) rfl ?_)
 show wpAny _ _ (field (.ref z) 3 >>= _) _ _ _
 refine wpAny_bind (wpAny_field hz rfl (x:=.ref TI) rfl ?_)
 refine wpAny_bind (wpAny_seqItems hTI rfl ?_)
 show wpAny _ _ (K1 (.ref z) >>= _) _ _ _
 refine wpAny_bind (notFree hz hT λh₁ hz₁ hs₁=>?_)
 simp only[Q2,if_false]
 rw[v8]
 simp only[N5,V5]
 refine wpAny_bind (wpAny_bind (wpAny_bind (wpAny_holding ?_)))
 show wpAny _ _ (A1 (.ref i1) >>= _) _ _ _
 refine wpAny_bind (nextOf_item (h1.at λo e=>hs₁.extBut _ o D.i1z e) (hl1.at λo e=>hs₁.extBut _ o D.l1z e) hx1 λha1 hi1 hsa1=>wpAny_pure (wpAny_pure ?_))
 refine wpAny_bind (wpAny_bind (wpAny_holding ?_))
 show wpAny _ _ (A1 (.ref i2) >>= _) _ _ _
 refine wpAny_bind (nextOf_item ((h2.at λo e=>hs₁.extBut _ o D.i2z e).at λo e=>hsa1.extBut _ o D.i2i1 e) ((hl2.at λo e=>hs₁.extBut _ o D.l2z e).at λo e=>hsa1.extBut _ o D.l2i1 e) hx2 λha2 hi2 hsa2=>wpAny_pure (wpAny_pure (wpAny_pure ?_)))
 refine wpAny_bind (wpAny_newTuple (hsz:=by show 2<=sizeLine;decide) ?_)
 have hsz:ha2.objs.size=s.heap.objs.size:=by rw[hsa2.1,hsa1.1,hs₁.1]
 have hzG:IsZipH ha2 z TI TO T true:=hsa2.extBut _ _ D.i2z.symm (hsa1.extBut _ _ D.i1z.symm hz₁)
 refine wpAny_pure ⟨_,rfl,?_⟩
 show Q (.ref ha2.objs.size) _
 rw[hsz]
 refine hQ _ (g0 _ hzG) ((hi1.at λo e=>hsa2.extBut _ o D.i2i1.symm e).at λo e=>g0 _ e) (hi2.at λo e=>g0 _ e) ?_ ?_ λc o c1 d1 d2 e=>g0 _ (hsa2.extBut _ _ d2 (hsa1.extBut _ _ d1 (hs₁.extBut _ _ c1 e)))
 ·rw[<- hsz];exact G0 _ rfl
 ·rw[B2,hsz]
theorem zipn_keptEnd2{z TI TO T i1 i2 l1 l2:Addr}{fl:Bool}{k:Nat}{k1:Kd}{k2:Kd}{xs1 xs2:Array Value}{ot:Obj}{Q:Fin->Shared->Prop}(hh:A.handled=none)(D:ZAp2 z TI TO i1 i2 l1 l2)
  (hz:IsZipH s.heap z TI TO T fl) (hTI:IsTup2 s.heap TI (.ref i1) (.ref i2)) (hT:s.heap.get? T=some ot)
  (h1:ItAt k1 s.heap i1 l1 k) (h2:ItAt k2 s.heap i2 l2 k) (hl1:SqAt k1 s.heap l1 xs1) (hl2:SqAt k2 s.heap l2 xs2) (hend:xs1[k]?=none\/xs2[k]?=none)
  (hE:∀h' e,(∀c o,c≠z->c≠i1->c≠i2->s.heap.get? c=some o->h'.get? c=some o)->(∃o,h'.get? e=some o/\o.cls=.type "StopIteration")->E (.ref e) { s with heap:=h' }) :
  wpAny (model prog w) A (Builtin.«zip.__next__» ⟨[.ref z],[]⟩) Q E s:=by
 show wpAny _ _ (field (.ref z) 2 >>= _) _ _ _
 refine wpAny_bind (wpAny_field hz rfl (x:=.bool false) rfl ?_)
 show wpAny _ _ (field (.ref z) 3 >>= _) _ _ _
 refine wpAny_bind (wpAny_field hz rfl (x:=.ref TI) rfl ?_)
 refine wpAny_bind (wpAny_seqItems hTI rfl ?_)
 show wpAny _ _ (K1 (.ref z) >>= _) _ _ _
 refine wpAny_bind (notFree hz hT λh₁ hz₁ hs₁=>?_)
 simp only[Q2,if_false]
 rw[v8]
 simp only[N5,V5]
 refine wpAny_bind (wpAny_bind (wpAny_bind (wpAny_holding ?_)))
 show wpAny _ _ (A1 (.ref i1) >>= _) _ _ _
 cases hx1:xs1[k]? with
 | none =>
  exact wpAny_bind (nextOf_end hh (h1.at λo e=>hs₁.extBut _ o D.i1z e) (hl1.at λo e=>hs₁.extBut _ o D.l1z e) hx1 λhq e hsq he=>hE hq e (λc o c1 d1 d2 x=>hsq _ _ d1 (hs₁.extBut _ _ c1 x)) he)
 | some x1 =>
  have hx2:xs2[k]?=none:=by
   rcases hend with h|h
   ·rw[hx1]at h;cases h
   ·exact h
  refine wpAny_bind (nextOf_item (h1.at λo e=>hs₁.extBut _ o D.i1z e) (hl1.at λo e=>hs₁.extBut _ o D.l1z e) hx1 λha1 hi1 hsa1=>wpAny_pure (wpAny_pure ?_))
  refine wpAny_bind (wpAny_bind (wpAny_holding ?_))
  show wpAny _ _ (A1 (.ref i2) >>= _) _ _ _
  exact wpAny_bind (nextOf_end hh ((h2.at λo e=>hs₁.extBut _ o D.i2z e).at λo e=>hsa1.extBut _ o D.i2i1 e) ((hl2.at λo e=>hs₁.extBut _ o D.l2z e).at λo e=>hsa1.extBut _ o D.l2i1 e) hx2 λhq e hsq he=>hE hq e (λc o c1 d1 d2 x=>hsq _ _ d2 (hsa1.extBut _ _ d1 (hs₁.extBut _ _ c1 x))) he)
end
section
variable {prog:Program}{w:World}{A:Around}{E:Value->Shared->Prop}{s:Shared}
noncomputable def ZSt(h:Heap)(z TI TO S i1 i2 l1 l2:Addr)(k1 k2:Kd)(i:Nat):Prop :=
 IsTup2 h TI (.ref i1) (.ref i2)/\ItAt k1 h i1 l1 i/\ItAt k2 h i2 l2 i /\
  ((IsZip h z TI TO .none/\∃a1 a2,IsTup2 h TO a1 a2)\/∃T fl ot,IsZipH h z TI TO T fl/\h.get? T=some ot/\T≠z/\T≠i1/\T≠i2/\T≠S)
theorem next_kept2{z TI TO S i1 i2 l1 l2:Addr}{k:Nat}{k1 k2:Kd}{xs1 xs2:Array Value}{x1 x2:Value}{Q:Option Value->Shared->Prop}(D:ZAp2 z TI TO i1 i2 l1 l2)(hS:S < s.heap.objs.size)
  (st:ZSt s.heap z TI TO S i1 i2 l1 l2 k1 k2 k) (hl1:SqAt k1 s.heap l1 xs1) (hl2:SqAt k2 s.heap l2 xs2) (hx1:xs1[k]?=some x1) (hx2:xs2[k]?=some x2)
  (hQ:∀h',ZSt h' z TI TO S i1 i2 l1 l2 k1 k2 (k+1)->IsTup2 h' s.heap.objs.size x1 x2->h'.objs.size=s.heap.objs.size+1 ->
    (∀c o,c≠z->c≠TO->c≠i1->c≠i2->s.heap.get? c=some o->h'.get? c=some o)->Q (some (.ref s.heap.objs.size)) { s with heap:=h' }) :
  wpAny (model prog w) A (pyNext (.ref z)) Q E s:=by
 obtain⟨hTI,h1,h2,hz⟩:=st
 have gz:∀{b:Addr}{o:Obj},s.heap.get? b=some o->s.heap.objs.size≠b:=λe=>D3 (v0 e)
 obtain⟨o1,g1,_⟩:=h1.obj
 obtain⟨o2,g2,_⟩:=h2.obj
 rcases hz with⟨hz,a1,a2,hTO⟩|⟨T,fl,ot,hz,hT,t1,t2,t3,t4⟩
 ·refine next_zip_item2 D hz hTI hTO h1 h2 hl1 hl2 hx1 hx2 λh' b1 b2 c1 c2 b5 b6 b7=>hQ h' ⟨b7 TI _ D.TIz (G2 D.TOTI) (G2 D.i1TI) (G2 D.i2TI) hTI,c1,c2,.inr ⟨s.heap.objs.size,false,_,b1,b5,gz hz,gz g1,gz g2,D3 hS⟩⟩ b5 b6 b7
 ·have hTy:s.TypeIs (.ref z) "zip":=⟨_,hz,rfl⟩
  unfold pyNext
  exact wpAny_bind (wpAny_attempt (wpAny_callSpecial?_slot (name:=Str.ofString "__next__") hTy F.slot_zip_next
    (wpAny_call_entry F.slot_zip_next hTy F.entry_zip_next (wpAny_mono (zipn_kept2 (Q:=λv s'=>Q (some v) s') D hz hTI hT h1 h2 hl1 hl2 hx1 hx2 λh' b1 c1 c2 b5 b6 b7=>hQ h' ⟨b7 TI _ D.TIz (G2 D.i1TI) (G2 D.i2TI) hTI,c1,c2,.inr ⟨T,true,ot,b1,b7 T _ t1 t2 t3 hT,t1,t2,t3,t4⟩⟩ b5 b6 λc o d1 _ d3 d4 e=>b7 c o d1 d3 d4 e) (λfin s' z=>by obtain⟨v,rfl,z⟩:=z;exact ⟨_,rfl,wpAny_pure z⟩) λ_ _ z=>z) (F.args_zip_next_1 _))))
theorem next_keptEnd2{z TI TO S i1 i2 l1 l2:Addr}{k:Nat}{k1 k2:Kd}{xs1 xs2:Array Value}{Q:Option Value->Shared->Prop}(hh:A.handled=none)(D:ZAp2 z TI TO i1 i2 l1 l2)
  (st:ZSt s.heap z TI TO S i1 i2 l1 l2 k1 k2 k) (hl1:SqAt k1 s.heap l1 xs1) (hl2:SqAt k2 s.heap l2 xs2) (hend:xs1[k]?=none\/xs2[k]?=none)
  (hQ:∀h',(∀c o,c≠z->c≠TO->c≠i1->c≠i2->s.heap.get? c=some o->h'.get? c=some o)->Q none { s with heap:=h' }):wpAny (model prog w) A (pyNext (.ref z)) Q E s:=by
 obtain⟨hTI,h1,h2,hz⟩:=st
 rcases hz with⟨hz,a1,a2,hTO⟩|⟨T,fl,ot,hz,hT,t1,t2,t3,t4⟩
 ·exact next_zip_end2 hh D hz hTI hTO h1 h2 hl1 hl2 hend hQ
 ·have hTy:s.TypeIs (.ref z) "zip":=⟨_,hz,rfl⟩
  unfold pyNext
  refine wpAny_bind (wpAny_attempt (wpAny_callSpecial?_slot (name:=Str.ofString "__next__") hTy F.slot_zip_next
    (wpAny_call_entry F.slot_zip_next hTy F.entry_zip_next (zipn_keptEnd2 hh D hz hTI hT h1 h2 hl1 hl2 hend λh' e hk he=>?_) (F.args_zip_next_1 _))))
  obtain⟨o,ho,hc⟩:=he
  refine wpAny_bind (wpAny_isInstance (T:="StopIteration") (b:=true) ⟨o,ho,hc⟩ isSubtype_stop ?_)
  exact wpAny_pure (hQ _ λc o d1 _ d3 d4 e=>hk c o d1 d3 d4 e)
theorem ZSt.keep{h h':Heap}{z TI TO S i1 i2 l1 l2:Addr}{k1 k2:Kd}{i:Nat}(x:ZSt h z TI TO S i1 i2 l1 l2 k1 k2 i)(hk:∀b o,b≠S->h.get? b=some o->h'.get? b=some o)(n1:z≠S)(n2:TI≠S)(n3:TO≠S)(n4:i1≠S)(n5:i2≠S) :
  ZSt h' z TI TO S i1 i2 l1 l2 k1 k2 i:=by
 obtain⟨hTI,h1,h2,hz⟩:=x
 refine ⟨hk _ _ n2 hTI,h1.at λo e=>hk _ _ n4 e,h2.at λo e=>hk _ _ n5 e,?_⟩
 rcases hz with⟨hz,a1,a2,hTO⟩|⟨T,fl,ot,hz,hT,t1,t2,t3,t4⟩
 ·exact .inl ⟨hk _ _ n1 hz,a1,a2,hk _ _ n3 hTO⟩
 ·exact .inr ⟨T,fl,ot,hk _ _ n1 hz,hk _ _ t4 hT,t1,t2,t3,t4⟩
end
structure ZG(xs1 xs2:Array Value)(lo:Addr)(h:Heap)(as:List Addr):Prop where
 rise:as.Pairwise (· < ·)
 above:∀a∈as,lo < a
 pairs:∀(j:Nat) (a:Addr),as[j]?=some a->∃x y,xs1[j]?=some x/\xs2[j]?=some y/\IsTup2 h a x y
section
variable {prog:Program}{w:World}{A:Around}{s:Shared}{R:Result->Shared->Prop}
end
end L2
namespace L3
open PySem PySem.Spec L2
theorem hu2_of{A:Around}{k:Nat}(hr:Room k A):A.units+2 < cLine:=Nat.lt_of_le_of_lt (h8 (by decide:2<=64) _) hr.units
noncomputable def sqD:D->Option (List D)
 | .list ds=>some ds
 | .tuple ds=>some ds
 | _=>none
section
variable {K:Fg}{F H:Hp}
theorem At.seq{v:V}{d:D}{ds:List D}(s:Sub F H)(h:At K F H v d)(e:sqD d=some ds):∃k a xs,v=.ref a/\Sq k K H a xs/\DaAll K F xs ds:=by
 cases d<;>first|cases e|skip
 ·obtain⟨a,xs,rfl,e1,d1⟩:=h.list s
  exact ⟨.l,a,xs,rfl,SqL.of e1,d1⟩
 ·obtain⟨a,xs,rfl,_,e1,d1⟩:=h.tuple s
  exact ⟨.t,a,xs,rfl,SqT.of e1,d1⟩
end
section
variable {X:Cx}{K:Fg}{e e1 e2:Expr}{a b:AD}{p pos pos' p2:Pos}
end
noncomputable def notOw(ρ:Ev)(fr:List Nat):Bool:=fr.all λj=>match ρ[j]? with|some (some t)=>!isOw t|_=>true
theorem notOw_get{ρ:Ev}{fr:List Nat}(h:notOw ρ fr=true){k i:Nat}{s:Sl}(e:fr[k]?=some i)(e2:ρ[i]?=some (some s)):isOw s=false:=by
 have:=q5.mp h i (E2 e)
 simpa [e2]using this
noncomputable def dCompN(i:Nat)(own:List Str)(fr:List Nat)(g:TDG)(tc:TTD)(te:TD):TD:=λρ Q=>match ρ[i]? with
 | some (some s)=>match s.d with
  | .list ds=>notOw ρ fr=true/\ds.length<=sizeLine/\dCompLC own.length g tc te ds [] (innerE own fr ρ) λys _=>noMutAll ys=true/\Q (.ow (.list ys)) ρ
  | _=>False
 | _=>False
section
variable {K:Fg}{G:Gh}{F F' H H':Hp}{σ τ:St}{ρ μ:Ev}{own:List Str}{fr:List Nat}{xs:List Opd}
theorem Rel.innerL(R:Rel K G F σ H ρ)(hn:notOw ρ fr=true):Rel K ⟨H,lend σ ρ xs F H,λ_=>none⟩ (lend σ ρ xs F H) (st0 own σ fr) H (innerE own fr ρ):=by
 have no:∀{j:Nat}{s:Sl},(innerE own fr ρ)[j]?=some (some s)->∃k i d,j=own.length+k/\fr[k]?=some i/\ρ[i]?=some (some (Sl.fz d))/\s=.fz d:=λ{j s} e=>by
  obtain⟨k,i,s0,rfl,h2,h3,h4⟩:=innerE_get e
  rcases h4 with⟨d0,rfl,z⟩|⟨w0,_⟩
  ·exact ⟨k,i,d0,rfl,h2,h3,z⟩
  ·rw[notOw_get hn h2 h3]at w0;cases w0
 exact {
   len:=by simp[st0,frS,innerE]
   sub:=lend_le R
   sub0:=Sub.refl _
   fn:=λ_ _ e=>.inl e
   keep:=λ_ _ e _=>e
   fz:=λj d e=>by
     obtain⟨k,i,d0,rfl,h2,h3,z⟩:=no e
     cases z
     obtain⟨v,e1,e2⟩:=R.fz i d h3
     exact ⟨v,by rw[st0_of h2,e1];rfl,e2.mono (lend_sub R)⟩
   ow:=λj s e w=>by obtain⟨k,i,d0,rfl,h2,h3,z⟩:=no e;subst z;cases w
   new:=λj d a e _=>by obtain⟨k,i,d0,rfl,h2,h3,z⟩:=no e;cases z
   io:=λj a e=>by cases e
   ioi:=λj d e=>by obtain⟨k,i,d0,rfl,h2,h3,z⟩:=no e;cases z
   ap:=λj l s t a e1 w1 _ _ _ _=>by obtain⟨k,i,d0,rfl,h2,h3,z⟩:=no e1;subst z;cases w1 }
theorem unlend_tup(R:Rel K G F σ H ρ){σ1:St}{ρ1:Ev}(R':Rel K ⟨H,lend σ ρ xs F H,λ_=>none⟩ F' σ1 H' ρ1):∀b ys,F' b=some (.tup ys)->unlend σ ρ xs F' b=some (.tup ys):=λb ys e=>by
 have n:¬LentA σ ρ xs b:=λz=>by
  obtain⟨_,_,o,_,_,_,_,h,w⟩:=z.own R
  have e2:=R'.sub0 b o (by show lend σ ρ xs F H b=some o;rw[lend_is z];exact h)
  rw[e]at e2;cases e2
  exact w
 rw[unlend_not n];exact e
end
theorem l_compN{K:Fg}{i:Nat}{own:List Str}{fr:List Nat}{g:TDG}{tc:TTD}{te:TD}{σ:L2.St}{H:Hp}{Q:VK}(h:lift K (dCompN i own fr g tc te) σ H Q):tCompW (iSeq K (argT K (.inl i))) own fr (liftG K g) (liftT K tc) (lift K te) σ H Q:=by
 obtain⟨G,F,ρ,Qd,R,w,k⟩:=h
 unfold dCompN at w
 split at w
 case h_2=>exact w.elim
 rename_i s es
 split at w
 case h_2=>exact w.elim
 rename_i ds ed
 obtain⟨hno,hz,w1⟩:=w
 have hv:∃a xs,σ[i]?=some (some (V.ref a))/\lend σ ρ [.inl i] F H a=some (.lst xs)/\DaAll K (lend σ ρ [.inl i] F H) xs ds:=by
  have own:isOw s=true->∃a xs,σ[i]?=some (some (V.ref a))/\lend σ ρ [.inl i] F H a=some (.lst xs)/\DaAll K (lend σ ρ [.inl i] F H) xs ds:=λws=>by
   obtain⟨b,u,h1,h2,h3,h4⟩:=R.ow i s es ws
   have l:LentA σ ρ [.inl i] b:=⟨i,s,W1.mpr rfl,es,ws,h1⟩
   rw[ed]at h4
   cases u with
   | lst xs=>exact ⟨b,xs,h1,by rw[lend_is l];exact h3,DaAll.mono (lend_sub R) h4⟩
   | _=>exact h4.elim
  cases s with
  | fz d =>
   obtain⟨v,e1,e2⟩:=R.fz i d es
   have ed:d=.list ds:=ed
   rw[ed]at e2
   cases e2 with
   | lst q t=>exact ⟨_,_,e1,lend_sub R _ _ q,t.mono (lend_sub R)⟩
  | ow d=>exact own rfl
  | io d=>exact own rfl
 obtain⟨a,xs,ha,hl,da0⟩:=hv
 have wk:=walks_list (K:=K) hl da0
 have Ri:=R.innerL (xs:=[.inl i]) (own:=own) hno
 refine ⟨_,ha,a,rfl,.inl ⟨⟨xs,SqL.of (lend_le R _ _ hl)⟩,?_⟩⟩
 refine ⟨λi' m ys τ H2=>m=ds.length - i'/\i'<=ds.length/\∃F' ρ' acc,Rel K ⟨H,lend σ ρ [.inl i] F H,λ_=>none⟩ F' τ H2 ρ'/\DaAll K F' ys acc/\acc.length<=i'/\dCompLC own.length g tc te (ds.drop i') acc ρ' (λys _=>noMutAll ys=true/\Qd (.ow (.list ys)) ρ),
   ⟨ds.length,rfl,S3 _,_,_,[],Ri,.nil,S3 _,w1⟩,?_⟩
 rintro j m ys τ H' ⟨rfl,hi,F',ρ',acc,R',da,hl,w'⟩
 obtain⟨hgo,hst⟩:=wk j H' F' R'.sub0 R'.sub
 cases e:ds[j]? with
 | none =>
  have hl':ds.length<=j:=i4.mp e
  refine .inl ⟨hst (by omega),λDd hD=>?_⟩
  rw[X2 hl']at w'
  obtain⟨hm,w'⟩:=w'
  obtain⟨sb,Ro⟩:=R.called R'
  obtain⟨Rn,rn⟩:=Ro.newOw (o:=.lst ys) (d:=.list acc) hD (DaAll.noMut (unlend_tup R R') da hm)
  exact k _ _ _ _ _ sb Rn rn w'
 | some d =>
  obtain⟨go,yl⟩:=hgo d e
  have hlt:=lt_of_get e
  rw[drop_get e]at w'
  refine .inr ⟨go,by rw[da.length];omega,λys2 τ2 H2=>∃F2 ρ2 acc2,Rel K ⟨H,lend σ ρ [.inl i] F H,λ_=>none⟩ F2 τ2 H2 ρ2/\DaAll K F2 ys2 acc2/\acc2.length<=j+1/\dCompLC own.length g tc te (ds.drop (j+1)) acc2 ρ2 (λys _=>noMutAll ys=true/\Qd (.ow (.list ys)) ρ),
    λys2 τ2 H2 ⟨F2,ρ2,acc2,z1,z2,z3,z4⟩=>⟨ds.length - (j+1),by omega,rfl,hlt,F2,ρ2,acc2,z1,z2,z3,z4⟩,λx H2 y=>?_⟩
  obtain⟨F2,t1,t2,t3,t4,t5⟩:=yl x H2 y
  have R2:=R'.turn t1 t2 t3 t4
  refine ⟨_,F2,ρ',d,_,R2,t5,w',λτ3 ρ3 R3 w3=>?_⟩
  refine ⟨_,F2,ρ3,_,R3,w3,λb H4 F4 ρ4 s4 R4 w4=>?_⟩
  cases b with
  | false=>exact ⟨F4,_,acc,R4.clean _,da.mono (t1.trans s4),by omega,w4⟩
  | true =>
   refine ⟨_,F4,ρ4,_,R4,w4,λv H5 F5 r ρ5 s5 R5 r5 w5=>?_⟩
   obtain⟨F6,s6,R6,d6⟩:=r5.frz R5
   exact ⟨F6,_,acc++[r.d],R6.clean _,(da.mono (t1.trans (s4.trans (s5.trans s6)))).append (.cons d6 .nil),by simp;omega,w5⟩
section
variable {X:Cx}{K:Fg}{tg e:Expr}{pos:Pos}{tc:TTD}{te:TD}
theorem w_compN{elt iter:Expr}{ifs:List Expr}{sc:Scope}{own:List Str}{fr:List Nat}{i:Nat}{g:TDG}(hK:X.K=K)(hc:X.calm=true)(S:compOk X.env.scope X.N fr sc=true)(hi:WE X iter (argT K (.inl i)))(hg:∀C s H ex,WG (cxComp X own fr sc C s H ex) tg (liftG K g))
  (hif:∀C s H ex,WIf (cxComp X own fr sc C s H ex) ifs (liftT K tc)) (he:∀C s H ex,WE (cxComp X own fr sc C s H ex) elt (lift K te)) (hs:notSet iter=true:=by rfl):WE X (.ListComp elt [⟨tg,iter,ifs,0⟩] sc pos) (lift K (dCompN i own fr g tc te)) :=
 ⟨peM (pe_compW hc (compSc_of S) (pi_seqD hK hi.h) (λC s H ex=>(hg C s H ex).h) (λC s H ex=>(hif C s H ex).h) (λC s H ex=>(he C s H ex).h) (folded_of hs)) l_compN⟩
end
mutual
theorem noMix_self:∀d:D,plainD d=true->SeqAt.noMix d d=true
 | .none,_=>by simp[SeqAt.noMix]
 | .bool _,_=>by simp[SeqAt.noMix]
 | .int _,_=>by simp[SeqAt.noMix]
 | .str _,_=>by simp[SeqAt.noMix]
 | .list xs,h=>by simp[SeqAt.noMix];exact noMixAll_self xs (by simpa [plainD]using h)
 | .tuple xs,h=>by simp[SeqAt.noMix];exact noMixAll_self xs (by simpa [plainD]using h)
 | .dict _,h=>by simp[plainD]at h
theorem noMixAll_self:∀xs:List D,plainAll xs=true->SeqAt.noMixAll xs xs=true
 | [],_=>by simp[SeqAt.noMixAll]
 | x :: xs,h=>by
  simp[plainAll]at h
  simp[SeqAt.noMixAll]
  exact ⟨noMix_self x h.1,noMixAll_self xs h.2⟩
end
structure Nice(n:Nat)(d:D):Prop where
 p:plainD d=true
 c:d.canLay0=true
 d:d.depth<=n
theorem Nice.bool(n:Nat)(i:Bool):Nice n (.bool i):=⟨rfl,by simp[PyData.canLay0],by simp[PyData.depth]⟩
theorem Nice.sh{n:Nat}{d:D}(h:Nice n d)(k:n<=64):SeqAt.shaped d=true:=by
 have:=h.d
 unfold SeqAt.shaped
 rw[h.c]
 simp
 omega
end L3
namespace L2
open PySem PySem.Spec PyProof.Rows
noncomputable def rIsi2(K:i0):List V->Hp->VK->Prop:=λxs H Q=>∃(x:V) (k:Ki) (T:Ki),xs=[x,.ty T.nm]/\(KiOf K H x k\/∃a,x=.ref a/\k=.dct/\IsD H a)/\Q (.bl (k.sub T)) H
theorem call_isi2{X:Cx}:CallR X (.builtin "isinstance") (rIsi2 X.K):=by
 intro pins s σ H xs us Q I r h
 obtain⟨x,k,T,rfl,hk,q⟩:=h
 rcases hk with hk|⟨a,rfl,rfl,hd⟩
 ·exact call_isi pins s σ H _ us Q I r ⟨x,k,T,rfl,hk,q⟩
 ·obtain⟨u,w',rfl,ru,rw'⟩:=vals2 r
  obtain rfl:w'=.type T.nm:=rw'
  cases ru
  have ht:s.TypeIs (.ref a) Ki.dct.nm:=(isD_at I hd).1
  cases hs:Ki.dct.sub T with
  | true =>
   rw[hs]at q
   exact call_isinstance (isinstance_true (Tx:=Ki.dct.nm) (ki_meta T) (by rw[ki_sub,hs])) ⟨ht,.bl true,H,I,rfl,q⟩
  | false =>
   rw[hs]at q
   have hsub:isSubtype (.type Ki.dct.nm) (.type T.nm)=pure false:=by rw[ki_sub,hs]
   have hne:=ki_ne Ki.dct T hs
   have fin:EP X pins σ Q (.bool false) { s with toks:=s.toks+1 }:=⟨.bl false,H,I.tok _,rfl,q⟩
   exact call_isinstance (isinstance_false_dict hne (ki_meta T) hsub) ⟨ht,fin⟩
inductive PrsT (H:Hp):List (V×V)->List (List Key×V)->Prop
 | nil:PrsT H [] []
 | cons {b ks v ps kvs}:H b=some (.tup (ks.map kV))->PrsT H ps kvs->PrsT H ((.ref b,v) :: ps) ((ks,v) :: kvs)
section
variable {X:Cx}{pins:List (Addr×Obj)}{σ:St}{a:Addr}{E:Value->Shared->Prop}
end
end L2
namespace L3
open PySem PySem.Spec PyProof.Rows L2
noncomputable def notScr:List (D×D)->Bool
 | (.none,_) :: _=>false
 | (.bool _,_) :: _=>false
 | _=>true
noncomputable def dNever:TDS:=λ_ _=>False
noncomputable def fIsiA(T:Ki):D->(Sl->Prop)->Prop
 | .dict es,Q=>notScr es=true/\Q (.fz (.bool (Ki.dct.sub T)))
 | d,Q=>Q (.fz (.bool ((kiD d).sub T)))
theorem At.isD{K:Fg}{F H:Hp}{v:V}{es:List (D×D)}(s:Sub F H)(h:At K F H v (.dict es))(hn:notScr es=true):∃a,v=.ref a/\IsD H a:=by
 rcases h with h|⟨a,o,rfl,_,e,h⟩
 ·cases h with
  | dk r t=>exact ⟨_,rfl,.inl ⟨_,s.rd r⟩⟩
  | dt r t=>exact ⟨_,rfl,.inr ⟨_,s.rd r⟩⟩
  | scr q=>simp[notScr]at hn
  | exc q=>simp[notScr]at hn
 ·cases o<;>first|exact h.elim|exact ⟨_,rfl,.inl ⟨_,.inl e⟩⟩|exact ⟨_,rfl,.inr ⟨_,.inl e⟩⟩
theorem ok_isiA{K:Fg}{T:Ki}:OpOk K (λvs H Q=>∃x,vs=[x]/\rIsi2 K [x,.ty T.nm] H Q) (o1 (fIsiA T)):=ok1 λG F σ H ρ x d Q Qd R h1 w k=>by
 have go:∀(ki:Ki),KiOf K H x ki->Qd (.fz (.bool (ki.sub T)))->∃x',[x]=[x']/\rIsi2 K [x',.ty T.nm] H Q:=λki h w=>⟨x,rfl,x,ki,T,rfl,.inl h,k _ H F (.fz _) (Sub.refl _) R (Da.bl _) w⟩
 match d,h1,w with
 | .none,h1,w=>cases h1.none;exact go .non rfl w
 | .bool b,h1,w=>cases h1.bool;exact go .bl rfl w
 | .int i,h1,w=>cases h1.int;exact go .int rfl w
 | .str z,h1,w=>cases h1.str;exact go .str rfl w
 | .list ds,h1,w =>
  obtain⟨a,us,rfl,e1,d1⟩:=h1.list R.sub
  exact go .lst (.inl ⟨rfl,us,SqL.of e1⟩) w
 | .tuple ds,h1,w =>
  obtain⟨a,us,rfl,_,e1,d1⟩:=h1.tuple R.sub
  exact go .tup (.inr (.inl ⟨rfl,us,SqT.of e1⟩)) w
 | .dict es,h1,w =>
  obtain⟨a,rfl,hd⟩:=h1.isD R.sub w.1
  exact ⟨_,rfl,_,.dct,T,rfl,.inr ⟨a,rfl,rfl,hd⟩,k _ H F (.fz _) (Sub.refl _) R (Da.bl _) w.2⟩
noncomputable def rSlHi(K:Fg):R2:=λx y H Q=>∃j,y=.int j/\rSlT K x none (some j) H Q
noncomputable def rSlLo(K:Fg):R2:=λx y H Q=>∃j,y=.int j/\rSlT K x (some j) none H Q
noncomputable def fSlHi:D->D->(Sl->Prop)->Prop
 | .tuple ds,.int j,Q=>(if j < 0 then 1<=ds.length else j < ds.length)/\Q (.fz (.tuple (ds.take (if j < 0 then (j+ds.length).toNat else j.toNat))))
 | _,_,_=>False
noncomputable def fSlLo:D->D->(Sl->Prop)->Prop
 | .tuple ds,.int j,Q=>0 < j/\1<=ds.length/\Q (.fz (.tuple (ds.drop j.toNat)))
 | _,_,_=>False
theorem ok_slHi{K:Fg}:OpOk K (r2L (rSlHi K)) (o2 fSlHi):=ok2 λG F σ H ρ x y d e Q Qd R h1 h2 w k=>by
 match d,e,h1,h2,w with
 | .tuple ds,.int j,h1,h2,w =>
  cases h2.int
  obtain⟨a,us,rfl,f1,e1,d1⟩:=h1.tuple R.sub
  have hl:=d1.length
  have hs:HT.sIx us.length us.length (some j)=if j < 0 then (j+ds.length).toNat else j.toNat:=by
   show (if j < 0 then (j+(us.length:Int)).toNat else min j.toNat us.length)=_
   have:=w.1
   split at this<;>split<;>omega
  refine ⟨j,rfl,a,us,rfl,SqT.of e1,λz=>?_,λp hp=>?_⟩
  ·have z2:=z.2
   rw[hs]at z2
   have:=w.1
   split at this<;>split at z2<;>omega
  ·have e3:cutV us none (some j)=us.take (if j < 0 then (j+ds.length).toNat else j.toNat):=by
    unfold cutV
    rw[hs]
    rfl
   rw[e3]
   obtain⟨sb,R',dd⟩:=R.newTup hp (d1.take (if j < 0 then (j+ds.length).toNat else j.toNat))
   exact k _ _ _ (.fz _) sb R' dd w.2
theorem ok_slLo{K:Fg}:OpOk K (r2L (rSlLo K)) (o2 fSlLo):=ok2 λG F σ H ρ x y d e Q Qd R h1 h2 w k=>by
 match d,e,h1,h2,w with
 | .tuple ds,.int j,h1,h2,w =>
  cases h2.int
  obtain⟨a,us,rfl,f1,e1,d1⟩:=h1.tuple R.sub
  have hl:=d1.length
  obtain⟨w1,w2,w3⟩:=w
  have hs:HT.sIx us.length 0 (some j)=min j.toNat us.length:=by
   show (if j < 0 then (j+(us.length:Int)).toNat else min j.toNat us.length)=_
   rw[if_neg (by omega)]
  refine ⟨j,rfl,a,us,rfl,SqT.of e1,λz=>?_,λp hp=>?_⟩
  ·have z1:=z.1
   rw[hs]at z1
   omega
  ·have e3:cutV us (some j) none=us.drop j.toNat:=by
    unfold cutV
    rw[hs]
    show (us.drop (min j.toNat us.length)).take (us.length - min j.toNat us.length)=_
    rw[W3 (by rw[T3];omega)]
    by_cases h:j.toNat<=us.length
    ·rw[L6 h]
    ·rw[X2 (by omega),X2 (by omega)]
   rw[e3]
   obtain⟨sb,R',dd⟩:=R.newTup hp (d1.drop j.toNat)
   exact k _ _ _ (.fz _) sb R' dd w3
noncomputable def dDNew:TD:=λρ Q=>Q (.ow (.dict [])) ρ
theorem l_dnew{K:Fg}{σ:L2.St}{H:Hp}{Q:VK}(h:lift K dDNew σ H Q):tDNewT σ H Q:=by
 obtain⟨G,F,ρ,Qd,R,w,k⟩:=h
 intro p hp
 obtain⟨R',r'⟩:=R.newOw (o:=.dT []) (d:=.dict []) hp DaKT.nil
 exact k _ _ F _ ρ (Sub.refl _) R' r' w
section
variable {X:Cx}{K:Fg}{e e1 e2:Expr}{a b:AD}{ta tb:TD}{st:Stmt}{p pos p2 pos' px py pt:Pos}{x y:Str}
theorem s_never:WS X st (liftS K dNever):=⟨λpins s σ H D I h=>by obtain⟨G,F,ρ,E,R,w,_⟩:=h;exact w.elim⟩
theorem w_isiA(T:Ki)(hK:X.K=K)(hm:X.mg "isinstance"=none){y:Str}(hm2:X.mg y=none)(hv2:bootBuiltins y=some (.type T.nm))(ha:WE X e1 (argT K a))(hg:Gl X "isinstance":=by rfl)(hg2:Gl X y:=by rfl)(hy:y ≠ "__name__":=by decide)(hy2:(y==("__debug__":Str))=false:=by decide)(he:notStar e1=true:=by rfl) :
  WE X (.Call (.Name "isinstance" p) [e1,.Name y p2] [] pos) (lift K (dOp [a] (o1 (fIsiA T)))):=by
 subst hK
 exact ⟨peM (pe_callB call_isi2 hg hm boot_isinstance (pa_cons ha.h (pa_cons (pe_bltn hg2 hm2 hv2 (v:=.ty T.nm) rfl hy hy2) pa_nil (starEach_of rfl)) (starEach_of he)) (by decide) (by decide) (starEach_of he) (plain_of rfl)) λq=>arg1 (P:=λx H1=>rIsi2 X.K [x,.ty T.nm] H1 _) (l_op ok_isiA q)⟩
theorem w_slHi(hK:X.K=K)(ha:WE X e1 (argT K a))(hb:WE X e2 (argT K b)):WE X (.Subscript e1 (.Slice none (some e2) none p2) pos) (lift K (dOp [a,b] (o2 fSlHi))):=by
 subst hK
 exact ⟨peM (pe_slice sl_tup ha.h po_none (po_some hb.h)) λq=>arg2 (P:=λx y H=>rSlHi X.K x y H _) (l_op ok_slHi q)⟩
theorem w_slLo(hK:X.K=K)(ha:WE X e1 (argT K a))(hb:WE X e2 (argT K b)):WE X (.Subscript e1 (.Slice (some e2) none none p2) pos) (lift K (dOp [a,b] (o2 fSlLo))):=by
 subst hK
 exact ⟨peM (pe_slice sl_tup ha.h (po_some hb.h) po_none) λq=>arg2 (P:=λx y H=>rSlLo X.K x y H _) (l_op ok_slLo q)⟩
theorem w_dnew:WE X (.Dict [] [] pos) (lift K dDNew):=⟨peM pe_dnewT λq=>l_dnew q⟩
end
end L3
namespace L2
open PySem PySem.Spec PyProof.Rows
noncomputable def tyLT:Obj:={ cls:=.type "tuple",data:=.seq #[.type "list",.type "tuple"] }
noncomputable def tTyT:TE:=λ_ H Q=>∀p,H p=none->Q (.ref p) (upd H p (.frz tyLT (.tup [.ty "list",.ty "tuple"])))
theorem pe_tyT{X:Cx}{p2 p3 pos:Pos}{k:Nat}(hm1:X.mg "list"=none)(hm2:X.mg "tuple"=none)(hg1:Gl X "list")(hg2:Gl X "tuple"):PE X (.Tuple [.Name "list" p2,.Name "tuple" p3] k pos) tTyT:=by
 intro pins s σ H Q I hq
 have h:PA X [.Name "list" p2,.Name "tuple" p3] (tCons (tC (.ty "list")) (tCons (tC (.ty "tuple")) tNil)) :=
  pa_cons (pe_bltn hg1 hm1 boot_list (v:=.ty "list") rfl) (pa_cons (pe_bltn hg2 hm2 boot_tuple (v:=.ty "tuple") rfl) pa_nil (L3.starEach_of rfl)) (L3.starEach_of rfl)
 refine wpAny_Tuple_spliced (thn (h pos pins s σ H (λxs H1=>xs=[.ty "list",.ty "tuple"]/\H1=H) I ⟨rfl,rfl⟩) λus s1 ⟨xs,H1,I1,r,ex,eH⟩=>?_)
 subst ex eH
 have r0:=r
 obtain⟨u1,u2,rfl,r1,r2⟩:=vals2 r
 obtain rfl:u1=.type "list":=r1
 obtain rfl:u2=.type "tuple":=r2
 have z:([V.ty "list",V.ty "tuple"]:List V).length<=sizeLine:=by show 2<=sizeLine;decide
 refine ⟨by show 2<=sizeLine;decide,?_⟩
 have hf:=I1.hok.fresh (A0 s1.heap.objs.size)
 exact ⟨.ref s1.heap.objs.size,upd H1 s1.heap.objs.size (.frz tyLT (.tup [.ty "list",.ty "tuple"])),I1.laid (t':=s1.toks) (λb u e=>g0 _ e) (A0 _) ⟨G0 _ rfl,z,_,r0,⟨_,G0 _ rfl,rfl,_,rfl,rfl⟩⟩,rfl,hq _ hf⟩
end L2
namespace L3
open PySem PySem.Spec PyProof.Rows L2
section
variable {X:Cx}{K:Fg}{e1:Expr}{a:AD}{p pos p2 p3 p4:Pos}
end
end L3
namespace L2
open PySem PySem.Spec PyProof.Rows
noncomputable def unV:V->Int
 | .int i=>i
 | _=>0
theorem unV_ints(l:List Int):(l.map V.int).map unV=l:=by rw[P0];exact L8 l
theorem ints_inj{l m:List Int}(e:l.map V.int=m.map V.int):l=m:=by rw[<- unV_ints l,<- unV_ints m,e]
noncomputable def evT(H:Hp)(p:List Int)(y:Value):Bool:=@decide (∃c,y=.ref c/\H c=some (.tup (p.map V.int))) (Classical.propDecidable _)
theorem vals_intsAt{ns:List Int}{us:List Value}(r:Vals (ns.map V.int) us){k:Nat}(h:k < us.length):∃t,us[k]=.int (ns.getD k 0) t:=by
 have hl:=r.length
 rw[n0]at hl
 have hk:k < ns.length:=by omega
 obtain⟨u,hu,ru⟩:=r.get (i:=k) (x:=.int ns[k]) (by rw[E1,L0 hk];rfl)
 obtain⟨t,e⟩:=ru
 rw[L0 h]at hu
 have hu:=S1 hu
 refine ⟨t,?_⟩
 rw[hu,e,G1,L0 hk]
 rfl
end L2
namespace L3
open PySem PySem.Spec PyProof.Rows L2
theorem upd_self{H:Hp}{a:Addr}{o:HO}(e:H a=some o):upd H a o=H:=by
 funext c;unfold upd;split
 ·rename_i z;rw[z,e]
 ·rfl
theorem DaAll.ints_of{K:Fg}{F:Hp}{ys:List V}{p:List Int}(h:DaAll K F ys (p.map j0)):ys=p.map V.int:=by
 have e:p.map j0=(p.map λn=>(.inl n:Key)).map keyD:=by rw[P0];rfl
 rw[e]at h
 have:=h.keys
 rw[this,P0];rfl
end L3
namespace L2
open PySem PySem.Spec PyProof.Rows
section
variable {prog:Program}{w:World}{A:Around}{E:Value->Shared->Prop}{s:Shared}
theorem min_tupD{l:Addr}{xs:Array (Int×Tok)}{Q:Value->Shared->Prop}(hh:A.handled=none)(ht:s.heap.IsTuple l (intItems xs))(hne:0 < xs.size)
  (h:∀v h' tk,(intItems xs)[argBest (λi j=>decide (numAt xs i < numAt xs j)) (xs.size - 1)]?=some v->(∀b o,s.heap.get? b=some o->h'.get? b=some o)->Q v { s with heap:=h',toks:=tk }) :
  wpAny (model prog w) A (call (.builtin "min") [.ref l]) Q E s:=by
 obtain⟨o,ho,hc,n,hd⟩:=id ht
 have hn:l≠s.heap.objs.size:=V0 (v0 ho)
 refine call_min_walk (wpAny_pyIter_tuple ht ?_)
 refine ⟨s.heap.objs.size,_,_,_,_,_,_,rfl,Walks.tuple (A:=A.in1) hh _ l hn (intItems xs),⟨⟨_,G0 _ rfl,rfl,rfl⟩,ht.push _⟩,λb hb=>?_,by simpa [intItems]using hne,CmpOf.ints_lt (numAt xs) (λ_ _=>intItems_at),λv h' tk hP hk=>?_⟩
 ·rcases Y0.mp hb with rfl|hb
  ·exact v0 (G0 _ rfl)
  ·obtain rfl:=W1.mp hb
   exact v0 (g0 _ ho)
 ·exact h v h' tk (by simpa [intItems]using hP) λb o e=>hk b o (λhb=>absurd (v0 e) ((W1.mp hb) ▸ V2 _)) (g0 _ e)
theorem max_tupD{l:Addr}{xs:Array (Int×Tok)}{Q:Value->Shared->Prop}(hh:A.handled=none)(ht:s.heap.IsTuple l (intItems xs))(hne:0 < xs.size)
  (h:∀v h' tk,(intItems xs)[argBest (λi j=>decide (numAt xs i > numAt xs j)) (xs.size - 1)]?=some v->(∀b o,s.heap.get? b=some o->h'.get? b=some o)->Q v { s with heap:=h',toks:=tk }) :
  wpAny (model prog w) A (call (.builtin "max") [.ref l]) Q E s:=by
 obtain⟨o,ho,hc,n,hd⟩:=id ht
 have hn:l≠s.heap.objs.size:=V0 (v0 ho)
 refine call_max_walk (wpAny_pyIter_tuple ht ?_)
 refine ⟨s.heap.objs.size,_,_,_,_,_,_,rfl,Walks.tuple (A:=A.in1) hh _ l hn (intItems xs),⟨⟨_,G0 _ rfl,rfl,rfl⟩,ht.push _⟩,λb hb=>?_,by simpa [intItems]using hne,CmpOf.ints_gt (numAt xs) (λ_ _=>intItems_at),λv h' tk hP hk=>?_⟩
 ·rcases Y0.mp hb with rfl|hb
  ·exact v0 (G0 _ rfl)
  ·obtain rfl:=W1.mp hb
   exact v0 (g0 _ ho)
 ·exact h v h' tk (by simpa [intItems]using hP) λb o e=>hk b o (λhb=>absurd (v0 e) ((W1.mp hb) ▸ V2 _)) (g0 _ e)
end
noncomputable def rMnI(K:i0):List V->Hp->VK->Prop:=λxs H Q=>∃(a:Addr) (ns:List Int),xs=[.ref a]/\(SqL K H a (ns.map V.int)\/SqT K H a (ns.map V.int))/\0 < ns.length/\∀M,M∈ns->(∀y∈ns,M<=y)->Q (.int M) H
noncomputable def rMxI(K:i0):List V->Hp->VK->Prop:=λxs H Q=>∃(a:Addr) (ns:List Int),xs=[.ref a]/\(SqL K H a (ns.map V.int)\/SqT K H a (ns.map V.int))/\0 < ns.length/\∀M,M∈ns->(∀y∈ns,y<=M)->Q (.int M) H
theorem call_mnI{X:Cx}{K:i0}(hK:X.K=K)(hc:X.calm=true):CallR X (.builtin "min") (rMnI K):=by
 subst hK
 intro pins s σ H xs us Q I r h
 obtain⟨a,ns,rfl,hq,hp,q⟩:=h
 obtain⟨u,rfl,ru⟩:=vals1 r
 cases ru
 have hh:=I.ok.hd hc
 have fin:∀{its:List Value}{zs:Array (Int×Tok)},Vals (ns.map V.int) its->its.toArray=intItems zs->0 < zs.size/\∀(v:Value) (h':Heap) (tk:Nat),(intItems zs)[argBest (λi j=>decide (numAt zs i < numAt zs j)) (zs.size - 1)]?=some v->(∀b o,s.heap.get? b=some o->h'.get? b=some o)->EP X pins σ Q v { s with heap:=h',toks:=tk }:=by
  intro its zs rv e
  have hi:IntsAre its ns:=intsAre_of rv
  have hns:ns=zs.toList.map (·.1):=by rw[<- nums_intItems,<- e];exact (show numsOf its.toArray.toList=ns from hi.numsOf).symm
  have hsz:0 < zs.size:=by have h3:=hp;rw[hns,n0,M0]at h3;exact h3
  refine ⟨hsz,λv h' tk hv hk=>?_⟩
  obtain⟨t,rfl⟩:=intItems_at hv
  obtain⟨h1,h2⟩:=argBest_lt (numAt zs) (zs.size - 1)
  refine ⟨.int _,H,I.kept hk,⟨t,rfl⟩,q _ ?_ λy hy=>?_⟩
  ·rw[hns,numAt_eq];exact getD_mem (by rw[n0,M0];omega)
  ·rw[hns]at hy
   obtain⟨j,hj,rfl⟩:=mem_getD hy
   rw[n0,M0]at hj
   rw[<- numAt_eq];exact h2 j (by omega)
 rcases hq with hq|hq
 ·obtain⟨its,rv,p,hz⟩:=I.list hq
  obtain⟨zs,hx⟩:=(intsAre_of rv).allInts.items
  obtain⟨hs,f⟩:=fin rv hx
  exact min_intList hh (hx ▸ p.isList) hs f
 ·obtain⟨its,rv,p,hz⟩:=I.tuple hq
  obtain⟨zs,hx⟩:=(intsAre_of rv).allInts.items
  obtain⟨hs,f⟩:=fin rv hx
  exact min_tupD hh (show s.heap.IsTuple a (intItems zs) from hx ▸ p) hs f
theorem call_mxI{X:Cx}{K:i0}(hK:X.K=K)(hc:X.calm=true):CallR X (.builtin "max") (rMxI K):=by
 subst hK
 intro pins s σ H xs us Q I r h
 obtain⟨a,ns,rfl,hq,hp,q⟩:=h
 obtain⟨u,rfl,ru⟩:=vals1 r
 cases ru
 have hh:=I.ok.hd hc
 have fin:∀{its:List Value}{zs:Array (Int×Tok)},Vals (ns.map V.int) its->its.toArray=intItems zs->0 < zs.size/\∀(v:Value) (h':Heap) (tk:Nat),(intItems zs)[argBest (λi j=>decide (numAt zs i > numAt zs j)) (zs.size - 1)]?=some v->(∀b o,s.heap.get? b=some o->h'.get? b=some o)->EP X pins σ Q v { s with heap:=h',toks:=tk }:=by
  intro its zs rv e
  have hi:IntsAre its ns:=intsAre_of rv
  have hns:ns=zs.toList.map (·.1):=by rw[<- nums_intItems,<- e];exact (show numsOf its.toArray.toList=ns from hi.numsOf).symm
  have hsz:0 < zs.size:=by have h3:=hp;rw[hns,n0,M0]at h3;exact h3
  refine ⟨hsz,λv h' tk hv hk=>?_⟩
  obtain⟨t,rfl⟩:=intItems_at hv
  obtain⟨h1,h2⟩:=argBest_gt (numAt zs) (zs.size - 1)
  refine ⟨.int _,H,I.kept hk,⟨t,rfl⟩,q _ ?_ λy hy=>?_⟩
  ·rw[hns,numAt_eq];exact getD_mem (by rw[n0,M0];omega)
  ·rw[hns]at hy
   obtain⟨j,hj,rfl⟩:=mem_getD hy
   rw[n0,M0]at hj
   rw[<- numAt_eq];exact h2 j (by omega)
 rcases hq with hq|hq
 ·obtain⟨its,rv,p,hz⟩:=I.list hq
  obtain⟨zs,hx⟩:=(intsAre_of rv).allInts.items
  obtain⟨hs,f⟩:=fin rv hx
  exact max_intList hh (hx ▸ p.isList) hs f
 ·obtain⟨its,rv,p,hz⟩:=I.tuple hq
  obtain⟨zs,hx⟩:=(intsAre_of rv).allInts.items
  obtain⟨hs,f⟩:=fin rv hx
  exact max_tupD hh (show s.heap.IsTuple a (intItems zs) from hx ▸ p) hs f
end L2
namespace L3
open PySem PySem.Spec PyProof.Rows L2
section
variable {K:Fg}{σ:L2.St}{H:Hp}{v:V}{Q:L2.St->Hp->Prop}
end
noncomputable def fMnI:D->(Sl->Prop)->Prop
 | .list ds,Q=>∃ns:List Int,ds=ns.map j0/\0 < ns.length/\∀M,M∈ns->(∀y∈ns,M<=y)->Q (.fz (.int M))
 | .tuple ds,Q=>∃ns:List Int,ds=ns.map j0/\0 < ns.length/\∀M,M∈ns->(∀y∈ns,M<=y)->Q (.fz (.int M))
 | _,_=>False
noncomputable def fMxI:D->(Sl->Prop)->Prop
 | .list ds,Q=>∃ns:List Int,ds=ns.map j0/\0 < ns.length/\∀M,M∈ns->(∀y∈ns,y<=M)->Q (.fz (.int M))
 | .tuple ds,Q=>∃ns:List Int,ds=ns.map j0/\0 < ns.length/\∀M,M∈ns->(∀y∈ns,y<=M)->Q (.fz (.int M))
 | _,_=>False
theorem ok_mnI{K:Fg}:OpOk K (rMnI K) (o1 fMnI):=ok1 λG F σ H ρ x d Q Qd R h1 w k=>by
 match d,h1,w with
 | .list ds,h1,⟨ns,e,hp,w⟩ =>
  subst e
  obtain⟨a,us,rfl,e1,d1⟩:=h1.list R.sub
  have:=d1.intsV
  subst this
  exact ⟨a,ns,rfl,.inl (SqL.of e1),hp,λM m1 m2=>k _ H F (.fz _) (Sub.refl _) R (Da.int _) (w M m1 m2)⟩
 | .tuple ds,h1,⟨ns,e,hp,w⟩ =>
  subst e
  obtain⟨a,us,rfl,_,e1,d1⟩:=h1.tuple R.sub
  have:=d1.intsV
  subst this
  exact ⟨a,ns,rfl,.inr (SqT.of e1),hp,λM m1 m2=>k _ H F (.fz _) (Sub.refl _) R (Da.int _) (w M m1 m2)⟩
theorem ok_mxI{K:Fg}:OpOk K (rMxI K) (o1 fMxI):=ok1 λG F σ H ρ x d Q Qd R h1 w k=>by
 match d,h1,w with
 | .list ds,h1,⟨ns,e,hp,w⟩ =>
  subst e
  obtain⟨a,us,rfl,e1,d1⟩:=h1.list R.sub
  have:=d1.intsV
  subst this
  exact ⟨a,ns,rfl,.inl (SqL.of e1),hp,λM m1 m2=>k _ H F (.fz _) (Sub.refl _) R (Da.int _) (w M m1 m2)⟩
 | .tuple ds,h1,⟨ns,e,hp,w⟩ =>
  subst e
  obtain⟨a,us,rfl,_,e1,d1⟩:=h1.tuple R.sub
  have:=d1.intsV
  subst this
  exact ⟨a,ns,rfl,.inr (SqT.of e1),hp,λM m1 m2=>k _ H F (.fz _) (Sub.refl _) R (Da.int _) (w M m1 m2)⟩
open PySem PySem.Spec L2
section
variable {K:Fg}{G:Gh}{F F' H H':Hp}{σ:L2.St}{ρ:Ev}
noncomputable def okRes:Sl->Bool
 | .fz d=>noMut d
 | .ow (.list ds)=>noMutAll ds
 | _=>false
noncomputable def dCallL(con:Con)(as:List AD):TD:=λρ Q=>dArgs as ρ λxs ρ1=>looksQ ρ1 xs λds=>con (ds.map Sl.fz) λr _=>okRes r=true/\Q r ρ1
theorem Res.calledL{xs:List Opd}(R:Rel K G F σ H ρ){σ1:L2.St}{ρ1:Ev}{v:V}{r:Sl}(R':Rel K ⟨H,lend σ ρ xs F H,λ_=>none⟩ F' σ1 H' ρ1)(q:Res K ⟨H,lend σ ρ xs F H,λ_=>none⟩ F' H' σ1 ρ1 v r)
  (hl:okRes r=true):Res K G (unlend σ ρ xs F') H' σ ρ v r:=by
 have tp:∀b ys,F' b=some (.tup ys)->unlend σ ρ xs F' b=some (.tup ys):=λb ys e=>by
  have n:¬LentA σ ρ xs b:=λz=>by
   obtain⟨_,_,o,_,_,_,_,h,w⟩:=z.own R
   have e2:=R'.sub0 b o (by show lend σ ρ xs F H b=some o;rw[lend_is z];exact h)
   rw[e]at e2;cases e2
   exact w
  rw[unlend_not n];exact e
 cases r with
 | fz d=>exact Da.noMut tp q hl
 | io d=>exact q.elim
 | ow d =>
  obtain⟨a,o,h1,h2,h3,h4,h5,_⟩:=q
  have h5:H a=none:=h5
  have nl:¬LentA σ ρ xs a:=λz=>by
   obtain⟨_,_,o,_,_,_,_,h,w⟩:=z.own R
   rw[h5]at h;cases h
  refine ⟨a,o,h1,by rw[unlend_not nl];exact h2,h3,?_,R.h0 h5,λi s es w z=>?_⟩
  ·cases d with
   | list ds =>
    cases o with
    | lst ys=>exact DaAll.noMut tp h4 hl
    | _=>exact h4.elim
   | _=>cases hl
  ·obtain⟨a',o',g1,_,g3,_⟩:=R.ow i s es w
   rw[z]at g1;cases g1
   rw[h5]at g3;cases g3
theorem l_callL{con:Con}{as:List AD}{E:XK}{Q:VK}(h:lift K (dCallL con as) σ H Q):tCall (conSp K con) [] E (tArgs (as.map (argT K))) σ H Q:=by
 obtain⟨G,F,ρ,Qd,R,w,k⟩:=h
 refine args_ok R w λvs H1 F1 xs ρ1 s1 R1 o w1=>?_
 obtain⟨ds,da,w1⟩:=lend_looks (xs:=xs) R1 (λy hy=>hy) o w1
 rw[T2]
 refine ⟨_,_,ds.map Sl.fz,_,rel_call (lend_le R1) da,w1,λv H' F' r ρ' s' R' r' q=>?_⟩
 obtain⟨sb,R2⟩:=R1.called R'
 exact k v H' _ r ρ1 (s1.trans sb) R2 (Res.calledL R1 R' r' q.1) q.2
end
section
variable {X:Cx}{K:Fg}{e:Expr}{es:List Expr}{as:List AD}{x:Str}{p pos:Pos}
theorem w_fnL{k:Nat}{ps:List Str}{con:Con}(C:Cal X.prog X.w X.K X.mg X.base k x ps (conSp K con))(hr:Room k X.A)(ha:WA X (e :: es) (tArgs (as.map (argT K))))(hg:Gl X x:=by rfl)(hdb:(x==("__debug__":Str))=false:=by decide)
  (he:notStar e=true:=by rfl) (hpl:es.all notStar=true:=by rfl):WE X (.Call (.Name x p) (e :: es) [] pos) (lift K (dCallL con as)):=⟨peM (pe_fn C hr ha.h hg hdb (starEach_of he) (plain_of hpl)) l_callL⟩
end
end L3
namespace SG
open PySem PyProof.Rows
noncomputable def gal:Bool->Keyed->Array Keyed->Nat->Nat->Nat->StateT SortSt Sem (Option Nat):=sortPriv% PySem.Builtin.gallop
noncomputable def mLo:Array Keyed->Array Keyed->StateT SortSt Sem (Array Keyed):=sortPriv% PySem.Builtin.mergeLo
noncomputable def mHi:Array Keyed->Array Keyed->StateT SortSt Sem (Array Keyed):=sortPriv% PySem.Builtin.mergeHi
noncomputable abbrev setG(z:SortSt)(g:Nat):SortSt:=SortSt.mk' (kindOf z) (arrOf z) (pendingOf z) g (failedOf z)
theorem gal_eq(lf:Bool)(ky:Keyed)(xs:Array Keyed)(bs n ht:Nat):gal lf ky xs bs n ht=(do
    let ov (i:Nat):StateT SortSt Sem (Option Bool):=do
      let z<-elem' xs (bs+i)
      if lf then lt' z ky else return (<- lt' ky z).map (!·)
    let mut la:=0
    let mut o:=1
    let mut l:=0
    let mut h:=0
    let some rt<-ov ht|return none
    if rt then
      let mx:=n - ht
      for _ in [0:n] do
        if o ≥ mx then break
        let some mo<-ov (ht+o)|return none
        if !mo then break
        la:=o
        o:=2 * o+1
      l:=ht+la+1
      h:=ht+min o mx
    else
      let mx:=ht+1
      for _ in [0:n] do
        if o ≥ mx then break
        let some fo<-ov (ht - o)|return none
        if fo then break
        la:=o
        o:=2 * o+1
      l:=ht+1 - min o mx
      h:=ht - la
    for _ in [0:n] do
      if l ≥ h then break
      let m:=l+(h - l) / 2
      let some mo<-ov m|return none
      if mo then l:=m+1 else h:=m
    return some h):=rfl
section
variable {prog:Program}{w:World}{A:Around}{E:Value->Shared->Prop}{s:Shared}{κ:SortKind}{rk:Keyed->Nat}{S:Keyed->Prop}
noncomputable def Asks(prog:Program)(w:World)(A:Around)(s:Shared)(κ:SortKind)(rk:Keyed->Nat)(S:Keyed->Prop):Prop :=
 ∀x y:Keyed,S x->S y->∀Q:Bool->Shared->Prop,Q (decide (rk x < rk y)) s->wpAny (model prog w) A (keyLt' κ x.1 y.1) Q (λ_ _=>False) s
theorem w_lt(q:Asks prog w A s κ rk S){x y:Keyed}{st:SortSt}{Q:Option Bool->SortSt->Prop}(hk:kindOf st=κ)(hx:S x)(hy:S y)(h:Q (some (decide (rk x < rk y))) st) :
  wpS (model prog w) A E s (lt' x y) Q st:=by
 rw[lt'_eq]
 refine wpS_bind (wpS_get ?_)
 rw[hk]
 refine wpS_bind (wpS_lift (wpAny_attempt (wpAny_mono (q x y hx hy (λb s'=>b=decide (rk x < rk y)/\s'=s) ⟨rfl,rfl⟩) (λb s' e=>?_) λ_ _ e=>e.elim)))
 obtain⟨rfl,rfl⟩:=e
 exact ⟨rfl,wpS_pure h⟩
theorem w_elem{xs:Array Keyed}{i:Nat}{st:SortSt}{Q:Keyed->SortSt->Prop}(hi:i < xs.size)(h:Q xs[i] st):wpS (model prog w) A E s (elem' xs i) Q st:=by
 rw[elem'_eq,getElem?_pos xs i hi]
 exact wpS_pure h
noncomputable def Ov(prog:Program)(w:World)(A:Around)(E:Value->Shared->Prop)(s:Shared)(n:Nat)(b:Nat->Bool)(st:SortSt)(ov:Nat->StateT SortSt Sem (Option Bool)):Prop :=
 ∀i,i < n->∀Q:Option Bool->SortSt->Prop,Q (some (b i)) st->wpS (model prog w) A E s (ov i) Q st
noncomputable def binL(ov:Nat->StateT SortSt Sem (Option Bool))(n l₀ h₀:Nat):StateT SortSt Sem (Option Nat):=do
 let mut l:=l₀
 let mut h:=h₀
 for _ in [0:n] do
  if l ≥ h then break
  let m:=l+(h - l) / 2
  let some mo<-ov m|return none
  if mo then l:=m+1 else h:=m
 return some h
theorem w_bin{ov:Nat->StateT SortSt Sem (Option Bool)}{n l h':Nat}{b:Nat->Bool}{st:SortSt}{Q:Option Nat->SortSt->Prop}(hO:Ov prog w A E s n b st ov)
  (hm:∀i j,i<=j->j < n->b j=true->b i=true) (h1:l<=h') (h2:h'<=n) (h3:∀i,i < l->b i=true) (h4:∀i,h'<=i->i < n->b i=false)
  (h:∀k,k<=n->(∀i,i < k->b i=true)->(∀i,k<=i->i < n->b i=false)->Q (some k) st):wpS (model prog w) A E s (binL ov n l h') Q st:=by
 unfold binL
 refine wpS_bind (wpS_mono (wpS_forRange (I:=λx c st'=>st'=st/\∃l h',c=(none,l,h')/\l<=h'/\h'<=n/\h' - l<=n - x/\(∀i,i < l->b i=true)/\∀i,h'<=i->i < n->b i=false)
   (Q:=λc st'=>st'=st/\∃k,c=(none,k,k)/\k<=n/\(∀i,i < k->b i=true)/\∀i,k<=i->i < n->b i=false) ?step ?fin ⟨rfl,l,h',rfl,h1,h2,by omega,h3,h4⟩) ?post)
 case fin =>
  rintro c st' ⟨rfl,l,h',rfl,a1,a2,a3,a4,a5⟩
  have:l=h':=by omega
  subst this
  exact ⟨rfl,l,rfl,a2,a4,a5⟩
 case post =>
  rintro c st' ⟨rfl,k,rfl,a1,a2,a3⟩
  exact wpS_pure (h k a1 a2 a3)
 case step =>
  rintro x c st' _ hx ⟨rfl,l,h',rfl,a1,a2,a3,a4,a5⟩
  dsimp only
  by_cases hge:l ≥ h'
  ·rw[if_pos hge]
   have:l=h':=by omega
   subst this
   exact wpS_pure ⟨rfl,l,rfl,a2,a4,a5⟩
  ·rw[if_neg hge]
   refine wpS_bind (hO _ (by omega) _ ?_)
   cases hb:b (l+(h' - l) / 2) with
   | true =>
    refine wpS_pure ⟨rfl,_,_,rfl,by omega,a2,by omega,λi hi=>hm _ _ (by omega) (by omega) hb,a5⟩
   | false =>
    refine wpS_pure ⟨rfl,_,_,rfl,by omega,by omega,by omega,a4,λi i1 i2=>?_⟩
    cases hbi:b i with
    | false=>rfl
    | true=>rw[hm _ _ i1 i2 hbi]at hb;cases hb
theorem w_gal{lf:Bool}{ky:Keyed}{xs:Array Keyed}{bs n ht:Nat}{st:SortSt}{Q:Option Nat->SortSt->Prop}{b:Nat->Bool}
  (hO:Ov prog w A E s n b st (λi=>do
    let z<-elem' xs (bs+i)
    if lf then lt' z ky else return (<- lt' ky z).map (!·)))
  (hm:∀i j,i<=j->j < n->b j=true->b i=true) (hh:ht < n)
  (h:∀k,k<=n->(∀i,i < k->b i=true)->(∀i,k<=i->i < n->b i=false)->Q (some k) st):wpS (model prog w) A E s (gal lf ky xs bs n ht) Q st:=by
 rw[gal_eq]
 generalize hov:(λi=>(do
     let z<-elem' xs (bs+i)
     if lf then lt' z ky else return (<- lt' ky z).map (!·):StateT SortSt Sem (Option Bool)))=ov at hO
 dsimp only
 clear hov
 refine wpS_bind (hO ht hh _ ?_)
 cases hb:b ht with
 | true =>
  dsimp only
  rw[if_pos rfl]
  refine wpS_bind (wpS_mono (wpS_forRange (I:=λx c st'=>st'=st/\∃la o:Nat,c=(none,la,o)/\la < o/\x+1<=o/\ht+la < n/\b (ht+la)=true)
    (Q:=λc st'=>st'=st/\∃la o:Nat,c=(none,la,o)/\la < o/\ht+la < n/\b (ht+la)=true/\(n - ht<=o\/b (ht+o)=false)) ?step ?fin ⟨rfl,0,1,rfl,by omega,by omega,by omega,hb⟩) ?post)
  case fin =>
   rintro c st' ⟨rfl,la,o,rfl,a1,a2,a3,a4⟩
   exact ⟨rfl,la,o,rfl,a1,a3,a4,.inl (by omega)⟩
  case step =>
   rintro x c st' _ hx ⟨rfl,la,o,rfl,a1,a2,a3,a4⟩
   dsimp only
   by_cases hge:o ≥ n - ht
   ·rw[if_pos hge]
    exact wpS_pure ⟨rfl,la,o,rfl,a1,a3,a4,.inl hge⟩
   ·rw[if_neg hge]
    refine wpS_bind (hO _ (by omega) _ ?_)
    cases hbo:b (ht+o) with
    | true=>exact wpS_pure ⟨rfl,o,2 * o+1,rfl,by omega,by omega,by omega,hbo⟩
    | false=>exact wpS_pure ⟨rfl,la,o,rfl,a1,a3,a4,.inr hbo⟩
  case post =>
   rintro c st' ⟨rfl,la,o,rfl,a1,a3,a4,a5⟩
   refine w_bin hO hm (l:=ht+la+1) (h':=ht+min o (n - ht)) (by omega) (by omega) (λi hi=>hm _ _ (by omega) a3 a4) (λi i1 i2=>?_) h
   rcases a5 with a5|a5
   ·omega
   ·cases hbi:b i with
    | false=>rfl
    | true=>rw[hm (ht+o) i (by omega) i2 hbi]at a5;cases a5
 | false =>
  dsimp only
  rw[if_neg (by decide)]
  refine wpS_bind (wpS_mono (wpS_forRange (I:=λx c st'=>st'=st/\∃la o:Nat,c=(none,la,o)/\la < o/\x+1<=o/\la<=ht/\b (ht - la)=false)
    (Q:=λc st'=>st'=st/\∃la o:Nat,c=(none,la,o)/\la < o/\la<=ht/\b (ht - la)=false/\(ht+1<=o\/b (ht - o)=true)) ?step2 ?fin2 ⟨rfl,0,1,rfl,by omega,by omega,by omega,hb⟩) ?post2)
  case fin2 =>
   rintro c st' ⟨rfl,la,o,rfl,a1,a2,a3,a4⟩
   exact ⟨rfl,la,o,rfl,a1,a3,a4,.inl (by omega)⟩
  case step2 =>
   rintro x c st' _ hx ⟨rfl,la,o,rfl,a1,a2,a3,a4⟩
   dsimp only
   by_cases hge:o ≥ ht+1
   ·rw[if_pos hge]
    exact wpS_pure ⟨rfl,la,o,rfl,a1,a3,a4,.inl hge⟩
   ·rw[if_neg hge]
    refine wpS_bind (hO _ (by omega) _ ?_)
    cases hbo:b (ht - o) with
    | false=>exact wpS_pure ⟨rfl,o,2 * o+1,rfl,by omega,by omega,by omega,hbo⟩
    | true=>exact wpS_pure ⟨rfl,la,o,rfl,a1,a3,a4,.inr hbo⟩
  case post2 =>
   rintro c st' ⟨rfl,la,o,rfl,a1,a3,a4,a5⟩
   have up:∀i,ht - la<=i->i < n->b i=false:=λi i1 i2=>by
    cases hbi:b i with
    | false=>rfl
    | true=>rw[hm (ht - la) i i1 i2 hbi]at a4;cases a4
   refine w_bin hO hm (l:=ht+1 - min o (ht+1)) (h':=ht - la) (by omega) (by omega) (λi hi=>?_) up h
   rcases a5 with a5|a5
   ·omega
   ·exact hm _ (ht - o) (by omega) (by omega) a5
theorem w_gallop(q:Asks prog w A s κ rk S){lf:Bool}{ky:Keyed}{xs:Array Keyed}{bs n ht:Nat}{st:SortSt}{Q:Option Nat->SortSt->Prop}(hk:kindOf st=κ)(hy:S ky)(hS:∀i (h:i < xs.size),S xs[i])
  (hn:bs+n<=xs.size) (hs:∀i j (h:j < xs.size) (h2:i<=j),bs<=i->j < bs+n->rk (xs[i]'(by omega))<=rk xs[j]) (hh:ht < n)
  (h:∀k,k<=n->(∀i (h:i < xs.size),bs<=i->i < bs+k->if lf=true then rk xs[i] < rk ky else rk xs[i]<=rk ky)->(∀i (h:i < xs.size),bs+k<=i->i < bs+n->if lf=true then rk ky<=rk xs[i] else rk ky < rk xs[i])->Q (some k) st) :
  wpS (model prog w) A E s (gal lf ky xs bs n ht) Q st:=by
 refine w_gal (b:=λi=>if hi:bs+i < xs.size then (if lf=true then decide (rk xs[bs+i] < rk ky) else !decide (rk ky < rk xs[bs+i])) else false) ?_ ?_ hh ?_
 ·intro i hi Q hQ
  have hi':bs+i < xs.size:=by omega
  simp only[dif_pos hi']at hQ
  refine wpS_bind (w_elem hi' ?_)
  cases lf with
  | true=>exact w_lt q hk (hS _ _) hy hQ
  | false=>exact wpS_bind (w_lt q hk hy (hS _ _) (wpS_pure hQ))
 ·intro i j hij hj hb
  have hj':bs+j < xs.size:=by omega
  have hi':bs+i < xs.size:=by omega
  have hle:=hs (bs+i) (bs+j) hj' (by omega) (by omega) (by omega)
  simp only[dif_pos hj']at hb
  simp only[dif_pos hi']
  cases lf with
  | true=>simp at hb ⊢;omega
  | false=>simp at hb ⊢;omega
 ·intro k hk h1 h2
  refine h k hk (λi hi i1 i2=>?_) (λi hi i1 i2=>?_)
  ·have:=h1 (i - bs) (by omega)
   have e:bs+(i - bs)=i:=by omega
   simp only[e,dif_pos hi]at this
   cases lf with
   | true=>simpa using this
   | false=>simpa using this
  ·have:=h2 (i - bs) (by omega) (by omega)
   have e:bs+(i - bs)=i:=by omega
   simp only[e,dif_pos hi]at this
   cases lf with
   | true=>simpa using this
   | false=>simpa using this
end
section
variable {α:Type}{le:α->α->Prop}{a b out:List α}{i j:Nat}
structure Mg(le:α->α->Prop)(a b out:List α)(i j:Nat):Prop where
 perm:out.Perm (a.take i++b.take j)
 srt:out.Pairwise le
 la:∀x∈out,∀y∈a.drop i,le x y
 lb:∀x∈out,∀y∈b.drop j,le x y
theorem Mg.comm(h:Mg le a b out i j):Mg le b a out j i:=⟨h.perm.trans m6,h.srt,h.lb,h.la⟩
theorem Mg.takeA(h:Mg le a b out i j)(ha:a.Pairwise le)(k:Nat)(hk:∀x∈(a.drop i).take k,∀y∈b.drop j,le x y):Mg le a b (out++(a.drop i).take k) (i+k) j where
 perm:=by
  rw[List.take_add]
  refine (h.perm.append_right _).trans ?_
  rw[Z1,Z1]
  exact List.Perm.append_left _ m6
 srt:=m5.mpr ⟨h.srt,(ha.sublist (W5 _ _)).sublist (List.take_sublist _ _),λx hx y hy=>h.la x hx y (Z7 hy)⟩
 la:=λx hx y hy=>by
  rw[<- W7]at hy
  rcases u3.mp hx with hx|hx
  ·exact h.la x hx y (List.mem_of_mem_drop hy)
  ·have p:=ha.sublist (W5 i _)
   rw[<- j4 k (a.drop i)]at p
   exact (m5.mp p).2.2 x hx y hy
 lb:=λx hx y hy=>by
  rcases u3.mp hx with hx|hx
  ·exact h.lb x hx y hy
  ·exact hk x hx y hy
theorem Mg.oneA(h:Mg le a b out i j)(ha:a.Pairwise le)(hi:i < a.length)(hk:∀y∈b.drop j,le a[i] y):Mg le a b (out++[a[i]]) (i+1) j:=by
 have e:(a.drop i).take 1=[a[i]]:=by rw[K3 hi];rfl
 have:=h.takeA ha 1 (by rw[e];simpa using hk)
 rwa [e]at this
theorem Mg.fin(h:Mg le a b out i j)(ha:a.Pairwise le)(hb:b.Pairwise le)(hx:∀x∈a.drop i,∀y∈b.drop j,le x y):(out++a.drop i++b.drop j).Perm (a++b)/\(out++a.drop i++b.drop j).Pairwise le:=by
 constructor
 ·have e:(a.take i++b.take j++a.drop i++b.drop j).Perm (a.take i++a.drop i++(b.take j++b.drop j)):=by
   simp only[Z1]
   refine List.Perm.append_left _ ?_
   rw[<- Z1,<- Z1]
   exact m6.append_right _
  rw[j4,j4]at e
  exact ((h.perm.append_right _).append_right _).trans e
 ·rw[Z1]
  refine m5.mpr ⟨h.srt,m5.mpr ⟨ha.sublist (W5 _ _),hb.sublist (W5 _ _),hx⟩,λx hx y hy=>?_⟩
  rcases u3.mp hy with hy|hy
  ·exact h.la x hx y hy
  ·exact h.lb x hx y hy
theorem Mg.finC(h:Mg le a b out i j)(ha:a.Pairwise le)(hb:b.Pairwise le)(hx:∀x∈b.drop j,∀y∈a.drop i,le x y):(out++b.drop j++a.drop i).Perm (a++b)/\(out++b.drop j++a.drop i).Pairwise le:=by
 obtain⟨h1,h2⟩:=h.comm.fin hb ha hx
 exact ⟨h1.trans m6,h2⟩
end
noncomputable abbrev LoT:=Option (Array Keyed)×Array Keyed×Nat×Nat×Nat×Nat×Nat
noncomputable abbrev LoS:=Option (Array Keyed)×Array Keyed×Nat×Nat×Nat×Nat
noncomputable abbrev LoO:=Option (Array Keyed)×Array Keyed×Nat×Nat×Nat
section
variable (x y:Array Keyed)
noncomputable def dn(o:Array Keyed)(i j:Nat):Array Keyed:=o++x.extract i x.size++y.extract j y.size
noncomputable def ls(o:Array Keyed)(i j:Nat):Array Keyed:=o++y.extract j y.size++x.extract i x.size
noncomputable def lo2(o:Array Keyed)(i j g ac bc:Nat):StateT SortSt Sem (ForInStep LoT):=do
 let z<-elem' x i
 if (i+1+1==x.size)=true then pure (.done (some (ls x y (o.push z) (i+1) j),o.push z,i+1,j,g,ac,bc))
 else if (decide (ac < 7)&&decide (bc < 7))=true then pure (.done (none,o.push z,i+1,j,g,ac,bc))
 else pure (.yield (none,o.push z,i+1,j,g,ac,bc))
noncomputable def lo1(o:Array Keyed)(i j g ac bc:Nat):StateT SortSt Sem (ForInStep LoT):=do
 let z<-elem' y j
 if (j+1==y.size)=true then pure (.done (some (dn x y (o.push z) i (j+1)),o.push z,i,j+1,g,ac,bc))
 else do
  let u<-elem' x i
  let some k<-gal true u y (j+1) (y.size - (j+1)) 0|pure (.done (some (dn x y (o.push z) i (j+1)),o.push z,i,j+1,g,ac,bc))
  if k > 0 then
   if (j+1+k==y.size)=true then pure (.done (some (dn x y (o.push z++y.extract (j+1) (j+1+k)) i (j+1+k)),o.push z++y.extract (j+1) (j+1+k),i,j+1+k,g,ac,k))
   else lo2 x y (o.push z++y.extract (j+1) (j+1+k)) i (j+1+k) g ac k
  else lo2 x y (o.push z) i (j+1) g ac k
noncomputable def lo0(o:Array Keyed)(i j g ac bc:Nat):StateT SortSt Sem (ForInStep LoT):=do
 modify λv=>setG v g
 let z<-elem' y j
 let some k<-gal false z x i (x.size - i) 0|pure (.done (some (dn x y o i j),o,i,j,g,ac,bc))
 if k > 0 then
   if (i+k+1==x.size)=true then pure (.done (some (ls x y (o++x.extract i (i+k)) (i+k) j),o++x.extract i (i+k),i+k,j,g,k,bc))
   else if (i+k==x.size)=true then pure (.done (some (dn x y (o++x.extract i (i+k)) (i+k) j),o++x.extract i (i+k),i+k,j,g,k,bc))
   else lo1 x y (o++x.extract i (i+k)) (i+k) j g k bc
 else lo1 x y o i j g k bc
noncomputable def loG(t:LoT):StateT SortSt Sem (ForInStep LoT) :=
 if t.2.2.2.2.1 > 1 then lo0 x y t.2.1 t.2.2.1 t.2.2.2.1 (t.2.2.2.2.1 - 1) t.2.2.2.2.2.1 t.2.2.2.2.2.2
 else lo0 x y t.2.1 t.2.2.1 t.2.2.2.1 t.2.2.2.2.1 t.2.2.2.2.2.1 t.2.2.2.2.2.2
noncomputable def loS(g:Nat)(t:LoS):StateT SortSt Sem (ForInStep LoS):=do
 let z<-elem' y t.2.2.2.1
 let u<-elem' x t.2.2.1
 let some yw<-lt' z u|pure (.done (some (dn x y t.2.1 t.2.2.1 t.2.2.2.1),t.2.1,t.2.2.1,t.2.2.2.1,t.2.2.2.2.1,t.2.2.2.2.2))
 if yw=true then do
   let z<-elem' y t.2.2.2.1
   if (t.2.2.2.1+1==y.size)=true then pure (.done (some (dn x y (t.2.1.push z) t.2.2.1 (t.2.2.2.1+1)),t.2.1.push z,t.2.2.1,t.2.2.2.1+1,0,t.2.2.2.2.2+1))
   else if t.2.2.2.2.2+1 ≥ g then pure (.done (none,t.2.1.push z,t.2.2.1,t.2.2.2.1+1,0,t.2.2.2.2.2+1))
   else pure (.yield (none,t.2.1.push z,t.2.2.1,t.2.2.2.1+1,0,t.2.2.2.2.2+1))
 else do
   let z<-elem' x t.2.2.1
   if (t.2.2.1+1+1==x.size)=true then pure (.done (some (ls x y (t.2.1.push z) (t.2.2.1+1) t.2.2.2.1),t.2.1.push z,t.2.2.1+1,t.2.2.2.1,t.2.2.2.2.1+1,0))
   else if t.2.2.2.2.1+1 ≥ g then pure (.done (none,t.2.1.push z,t.2.2.1+1,t.2.2.2.1,t.2.2.2.2.1+1,0))
   else pure (.yield (none,t.2.1.push z,t.2.2.1+1,t.2.2.2.1,t.2.2.2.2.1+1,0))
noncomputable def loB(t:LoO):StateT SortSt Sem (ForInStep LoO):=do
 let v<-forIn [:x.size+y.size] ((none,t.2.1,t.2.2.1,t.2.2.2.1,0,0):LoS) λ_ v=>loS x y t.2.2.2.2 v
 match v.1 with
 | some r=>pure (.done (some r,v.2.1,v.2.2.1,v.2.2.2.1,t.2.2.2.2))
 | none=>do
  liftM (rule "list.sort.gallop")
  let u<-forIn [:x.size+y.size] ((none,v.2.1,v.2.2.1,v.2.2.2.1,t.2.2.2.2+1,v.2.2.2.2.1,v.2.2.2.2.2):LoT) λ_ u=>loG x y u
  match u.1 with
  | some r=>pure (.done (some r,u.2.1,u.2.2.1,u.2.2.2.1,u.2.2.2.2.1))
  | none=>do
   modify λz=>setG z (u.2.2.2.2.1+1)
   pure (.yield (none,u.2.1,u.2.2.1,u.2.2.2.1,u.2.2.2.2.1+1))
end
theorem mLo_eq0(x y:Array Keyed):mLo x y=(do
    rule "list.sort.merge-lo"
    let tt:=x.size+y.size
    let dn (o:Array Keyed) (i j:Nat):=o++x.extract i x.size++y.extract j y.size
    let ls (o:Array Keyed) (i j:Nat):=o++y.extract j y.size++x.extract i x.size
    let mut o:Array Keyed:=#[<- elem' y 0]
    let mut i:=0
    let mut j:=1
    if j==y.size then return dn o i j
    if i+1==x.size then return ls o i j
    let mut g:=gallopOf (<- get)
    for _ in [0:tt] do
      let mut ac:=0
      let mut bc:=0
      for _ in [0:tt] do
        let some yw<-lt' (<- elem' y j) (<- elem' x i)|return dn o i j
        if yw then
          o:=o.push (<- elem' y j);j:=j+1;bc:=bc+1;ac:=0
          if j==y.size then return dn o i j
          if bc ≥ g then break
        else
          o:=o.push (<- elem' x i);i:=i+1;ac:=ac+1;bc:=0
          if i+1==x.size then return ls o i j
          if ac ≥ g then break
      rule "list.sort.gallop"
      g:=g+1
      for _ in [0:tt] do
        if g > 1 then g:=g - 1
        modify (setG · g)
        let some k<-gal false (<- elem' y j) x i (x.size - i) 0|return dn o i j
        ac:=k
        if k > 0 then
          o:=o++x.extract i (i+k);i:=i+k
          if i+1==x.size then return ls o i j
          if i==x.size then return dn o i j
        o:=o.push (<- elem' y j);j:=j+1
        if j==y.size then return dn o i j
        let some k<-gal true (<- elem' x i) y j (y.size - j) 0|return dn o i j
        bc:=k
        if k > 0 then
          o:=o++y.extract j (j+k);j:=j+k
          if j==y.size then return dn o i j
        o:=o.push (<- elem' x i);i:=i+1
        if i+1==x.size then return ls o i j
        if ac < 7&&bc < 7 then break
      g:=g+1
      modify (setG · g)
    unsupported "internal:list.sort.merge-bound"):=rfl
theorem mLo_eq(x y:Array Keyed):mLo x y=(do
    liftM (rule "list.sort.merge-lo")
    let z<-elem' y 0
    if (1==y.size)=true then pure (dn x y #[z] 0 1)
    else if (0+1==x.size)=true then pure (ls x y #[z] 0 1)
    else do
      let s<-get
      let v<-forIn [:x.size+y.size] ((none,#[z],0,1,gallopOf s):LoO) λ_ v=>loB x y v
      match v.1 with
      | some r=>pure r
      | none=>unsupported "internal:list.sort.merge-bound"):=by
 rw[mLo_eq0]
 dsimp only
 refine congrArg (bind _) (funext λ_=>?_)
 refine congrArg (bind _) (funext λz=>?_)
 refine congr (congrArg _ rfl) ?_
 refine congr (congrArg _ rfl) ?_
 refine congrArg (bind _) (funext λs=>?_)
 refine congr (congrArg bind ?A) (funext λv=>by obtain⟨r,v⟩:=v;cases r<;>rfl)
 refine congrArg _ (funext λ_=>funext λv=>?_)
 unfold loB
 refine congr (congrArg bind rfl) (funext λv=>?_)
 obtain⟨r,v⟩:=v
 cases r with
 | some r=>rfl
 | none =>
  refine congrArg (bind _) (funext λ_=>?_)
  refine congr (congrArg bind ?A2) (funext λv=>by obtain⟨r,v⟩:=v;cases r<;>rfl)
  rfl
section
variable {α:Type}{x y o:Array α}{i j k:Nat}
theorem ext_all:(x.extract i x.size).toList=x.toList.drop i:=by
 rw[V3,W2,W3 (by simp)]
theorem ext_k:(x.extract i (i+k)).toList=(x.toList.drop i).take k:=by
 rw[V3,W2,T4]
theorem mem_dropA{v:α}(h:v∈x.toList.drop i):∃(n:Nat) (hn:n < x.size),i<=n/\v=x[n]:=by
 obtain⟨n,hn,e⟩:=Y2 h
 rw[T3,M0]at hn
 refine ⟨i+n,by omega,by omega,?_⟩
 rw[<- e,m7,P2]
theorem mem_dropTA{v:α}(h:v∈(x.toList.drop i).take k):∃(n:Nat) (hn:n < x.size),i<=n/\n < i+k/\v=x[n]:=by
 obtain⟨n,hn,e⟩:=Y2 h
 rw[U2,T3,M0]at hn
 refine ⟨i+n,by omega,by omega,by omega,?_⟩
 rw[<- e,o7,m7,P2]
end
theorem dn_list(x y o:Array Keyed)(i j:Nat):(dn x y o i j).toList=o.toList++x.toList.drop i++y.toList.drop j:=by
 unfold dn
 rw[D2,D2,ext_all,ext_all]
theorem ls_list(x y o:Array Keyed)(i j:Nat):(ls x y o i j).toList=o.toList++y.toList.drop j++x.toList.drop i:=by
 unfold ls
 rw[D2,D2,ext_all,ext_all]
section
variable {prog:Program}{w:World}{A:Around}{E:Value->Shared->Prop}{s:Shared}{κ:SortKind}{rk:Keyed->Nat}{S:Keyed->Prop}{x y:Array Keyed}
noncomputable abbrev leK(rk:Keyed->Nat):Keyed->Keyed->Prop:=λa b=>rk a<=rk b
structure Hy(rk:Keyed->Nat)(S:Keyed->Prop)(x y:Array Keyed):Prop where
 hx:x.toList.Pairwise (leK rk)
 hy:y.toList.Pairwise (leK rk)
 Sx:∀i (h:i < x.size),S x[i]
 Sy:∀i (h:i < y.size),S y[i]
 x0:0 < x.size
 y0:0 < y.size
 hl:∀i (h:i < y.size),rk y[i]<=rk x[x.size - 1]
 hf:∀i (h:i < x.size),rk y[0]<=rk x[i]
theorem srt_at{x:Array Keyed}(h:x.toList.Pairwise (leK rk)){i j:Nat}(hj:j < x.size)(hij:i<=j):rk (x[i]'(by omega))<=rk x[j]:=by
 rcases A8 i j with h1|h1
 ·have:=J2.mp h i j (by simpa using (by omega:i < x.size)) (by simpa using hj) h1
  simpa using this
 ·have:i=j:=by omega
  subst this
  exact A0 _
noncomputable def Po(rk:Keyed->Nat)(x y r:Array Keyed):Prop:=r.toList.Perm (x.toList++y.toList)/\r.toList.Pairwise (leK rk)
theorem Po_dn(H:Hy rk S x y){o:Array Keyed}{i j:Nat}(m:Mg (leK rk) x.toList y.toList o.toList i j)(h:y.size<=j\/x.size<=i):Po rk x y (dn x y o i j):=by
 unfold Po
 rw[dn_list]
 refine m.fin H.hx H.hy λv hv u hu=>?_
 obtain⟨n,hn,n1,_⟩:=mem_dropA hv
 obtain⟨k,hk,k1,_⟩:=mem_dropA hu
 omega
theorem Po_ls(H:Hy rk S x y){o:Array Keyed}{i j:Nat}(m:Mg (leK rk) x.toList y.toList o.toList i j)(h:i+1=x.size):Po rk x y (ls x y o i j):=by
 unfold Po
 rw[ls_list]
 refine m.finC H.hx H.hy λv hv u hu=>?_
 obtain⟨n,hn,n1,rfl⟩:=mem_dropA hv
 obtain⟨k,hk,k1,rfl⟩:=mem_dropA hu
 have:k=x.size - 1:=by omega
 subst this
 exact H.hl n hn
theorem push_list{α:Type}(o:Array α)(z:α):(o.push z).toList=o.toList++[z]:=p7
structure J(rk:Keyed->Nat)(x y:Array Keyed)(N:Nat)(o:Array Keyed)(i j:Nat):Prop where
 m:Mg (leK rk) x.toList y.toList o.toList i j
 hi:i+1 < x.size
 hj:j < y.size
 hN:N<=i+j
theorem J.pushX(H:Hy rk S x y){N:Nat}{o:Array Keyed}{i j:Nat}(m:Mg (leK rk) x.toList y.toList o.toList i j)(hi:i < x.size)(h:∀n (hn:n < y.size),j<=n->rk x[i]<=rk y[n]):Mg (leK rk) x.toList y.toList (o.push x[i]).toList (i+1) j:=by
 rw[push_list]
 have:=m.oneA H.hx (by simpa using hi) λv hv=>by
  obtain⟨n,hn,n1,rfl⟩:=mem_dropA hv
  simpa using h n hn n1
 simpa using this
theorem J.pushY(H:Hy rk S x y){N:Nat}{o:Array Keyed}{i j:Nat}(m:Mg (leK rk) x.toList y.toList o.toList i j)(hj:j < y.size)(h:∀n (hn:n < x.size),i<=n->rk y[j]<=rk x[n]):Mg (leK rk) x.toList y.toList (o.push y[j]).toList i (j+1):=by
 rw[push_list]
 have:=m.comm.oneA H.hy (by simpa using hj) λv hv=>by
  obtain⟨n,hn,n1,rfl⟩:=mem_dropA hv
  simpa using h n hn n1
 have:=this.comm
 simpa using this
noncomputable def RT(rk:Keyed->Nat)(x y:Array Keyed)(N:Nat)(c:LoT):Prop:=(∃t,c.1=some t/\Po rk x y t)\/(c.1=none/\J rk x y N c.2.1 c.2.2.1 c.2.2.2.1)
noncomputable def Gs(z z':SortSt):Prop:=∃g,z'=setG z g
theorem Gs.refl(z:SortSt):Gs z z:=⟨gallopOf z,rfl⟩
theorem Gs.set{z z':SortSt}(h:Gs z z')(g:Nat):Gs z (setG z' g):=by obtain⟨_,rfl⟩:=h;exact ⟨g,rfl⟩
theorem Gs.kind{z z':SortSt}(h:Gs z z'):kindOf z'=kindOf z:=by obtain⟨_,rfl⟩:=h;rfl
noncomputable def StT(rk:Keyed->Nat)(x y:Array Keyed)(N:Nat)(st:SortSt)(r:ForInStep LoT)(st':SortSt):Prop :=
 Gs st st'/\match r with
  | .done c=>RT rk x y N c
  | .yield c=>c.1=none/\J rk x y N c.2.1 c.2.2.1 c.2.2.2.1
theorem w_lo2(H:Hy rk S x y){N:Nat}{o:Array Keyed}{i j g ac bc:Nat}{st st':SortSt}(hg:Gs st st')(m:Mg (leK rk) x.toList y.toList o.toList i j)(hi:i+1 < x.size)(hj:j < y.size)(hN:N<=i+j+1)
  (h:∀n (hn:n < y.size),j<=n->rk (x[i]'(by omega))<=rk y[n]):wpS (model prog w) A E s (lo2 x y o i j g ac bc) (StT rk x y N st) st':=by
 unfold lo2
 have m':=J.pushX H (N:=N) m (by omega) h
 refine wpS_bind (w_elem (by omega) ?_)
 by_cases h1:i+1+1=x.size
 ·rw[if_pos (by simpa using h1)]
  exact wpS_pure ⟨hg,.inl ⟨_,rfl,Po_ls H m' h1⟩⟩
 ·rw[if_neg (by simpa using h1)]
  have jj:J rk x y N (o.push (x[i]'(by omega))) (i+1) j:=⟨m',by omega,hj,by omega⟩
  by_cases h2:(decide (ac < 7)&&decide (bc < 7))=true
  ·rw[if_pos h2]
   exact wpS_pure ⟨hg,.inr ⟨rfl,jj⟩⟩
  ·rw[if_neg h2]
   exact wpS_pure ⟨hg,rfl,jj⟩
theorem w_lo1(q:Asks prog w A s κ rk S)(H:Hy rk S x y){N:Nat}{o:Array Keyed}{i j g ac bc:Nat}{st st':SortSt}(hk:kindOf st=κ)(hg:Gs st st')(m:Mg (leK rk) x.toList y.toList o.toList i j)(hi:i+1 < x.size)(hj:j < y.size)(hN:N<=i+j+1)
  (h:∀n (hn:n < x.size),i<=n->rk (y[j]'(by omega))<=rk x[n]):wpS (model prog w) A E s (lo1 x y o i j g ac bc) (StT rk x y N st) st':=by
 unfold lo1
 have m':=J.pushY H (N:=N) m hj h
 refine wpS_bind (w_elem hj ?_)
 by_cases h1:j+1=y.size
 ·rw[if_pos (by simpa using h1)]
  exact wpS_pure ⟨hg,.inl ⟨_,rfl,Po_dn H m' (.inl (by omega))⟩⟩
 ·rw[if_neg (by simpa using h1)]
  refine wpS_bind (w_elem (by omega) ?_)
  refine wpS_bind (w_gallop q (hg.kind.trans hk) (H.Sx _ _) H.Sy (by omega) (λa b hb hab _ _=>srt_at H.hy hb hab) (by omega) λk kn k1 k2=>?_)
  dsimp only
  by_cases hk0:k > 0
  ·rw[if_pos hk0]
   have m2:Mg (leK rk) x.toList y.toList (o.push (y[j]'hj)++y.extract (j+1) (j+1+k)).toList i (j+1+k):=by
    rw[D2,ext_k]
    refine (m'.comm.takeA H.hy k λv hv u hu=>?_).comm
    obtain⟨n,hn,n1,n2,rfl⟩:=mem_dropTA hv
    obtain⟨p,hp,p1,rfl⟩:=mem_dropA hu
    have:=k1 n hn n1 n2
    rw[if_pos rfl]at this
    have:=srt_at H.hx hp p1
    show rk _<=rk _
    omega
   by_cases h2:j+1+k=y.size
   ·rw[if_pos (by simpa using h2)]
    exact wpS_pure ⟨hg,.inl ⟨_,rfl,Po_dn H m2 (.inl (by omega))⟩⟩
   ·rw[if_neg (by simpa using h2)]
    refine w_lo2 H hg m2 hi (by omega) (by omega) λn hn n1=>?_
    have:=k2 n hn (by omega) (by omega)
    rw[if_pos rfl]at this
    exact this
  ·rw[if_neg hk0]
   refine w_lo2 H hg m' hi (by omega) (by omega) λn hn n1=>?_
   have:=k2 n hn (by omega) (by omega)
   rw[if_pos rfl]at this
   exact this
theorem w_lo0(q:Asks prog w A s κ rk S)(H:Hy rk S x y){N:Nat}{o:Array Keyed}{i j g ac bc:Nat}{st st':SortSt}(hk:kindOf st=κ)(hg:Gs st st')(m:Mg (leK rk) x.toList y.toList o.toList i j)(hi:i+1 < x.size)(hj:j < y.size)(hN:N<=i+j+1) :
  wpS (model prog w) A E s (lo0 x y o i j g ac bc) (StT rk x y N st) st':=by
 unfold lo0
 refine wpS_bind (wpS_modify ?_)
 have hg':=hg.set g
 refine wpS_bind (w_elem hj ?_)
 refine wpS_bind (w_gallop q (hg'.kind.trans hk) (H.Sy _ _) H.Sx (by omega) (λa b hb hab _ _=>srt_at H.hx hb hab) (by omega) λk kn k1 k2=>?_)
 dsimp only
 by_cases hk0:k > 0
 ·rw[if_pos hk0]
  have m2:Mg (leK rk) x.toList y.toList (o++x.extract i (i+k)).toList (i+k) j:=by
   rw[D2,ext_k]
   refine m.takeA H.hx k λv hv u hu=>?_
   obtain⟨n,hn,n1,n2,rfl⟩:=mem_dropTA hv
   obtain⟨p,hp,p1,rfl⟩:=mem_dropA hu
   have:=k1 n hn n1 n2
   rw[if_neg (by decide)]at this
   have:=srt_at H.hy hp p1
   show rk _<=rk _
   omega
  by_cases h2:i+k+1=x.size
  ·rw[if_pos (by simpa using h2)]
   exact wpS_pure ⟨hg',.inl ⟨_,rfl,Po_ls H m2 h2⟩⟩
  ·rw[if_neg (by simpa using h2)]
   by_cases h3:i+k=x.size
   ·rw[if_pos (by simpa using h3)]
    exact wpS_pure ⟨hg',.inl ⟨_,rfl,Po_dn H m2 (.inr (by omega))⟩⟩
   ·rw[if_neg (by simpa using h3)]
    refine w_lo1 q H hk hg' m2 (by omega) hj (by omega) λn hn n1=>?_
    have:=k2 n hn (by omega) (by omega)
    rw[if_neg (by decide)]at this
    omega
 ·rw[if_neg hk0]
  refine w_lo1 q H hk hg' m hi hj (by omega) λn hn n1=>?_
  have:=k2 n hn (by omega) (by omega)
  rw[if_neg (by decide)]at this
  omega
theorem w_loG(q:Asks prog w A s κ rk S)(H:Hy rk S x y){N:Nat}{c:LoT}{st st':SortSt}(hk:kindOf st=κ)(hg:Gs st st')(hJ:J rk x y N c.2.1 c.2.2.1 c.2.2.2.1) :
  wpS (model prog w) A E s (loG x y c) (StT rk x y (N+1) st) st':=by
 unfold loG
 have:=hJ.hN
 split
 ·exact w_lo0 q H hk hg hJ.m hJ.hi hJ.hj (by omega)
 ·exact w_lo0 q H hk hg hJ.m hJ.hi hJ.hj (by omega)
theorem w_loS(q:Asks prog w A s κ rk S)(H:Hy rk S x y){N g:Nat}{c:LoS}{st:SortSt}(hk:kindOf st=κ)(hJ:J rk x y N c.2.1 c.2.2.1 c.2.2.2.1) :
  wpS (model prog w) A E s (loS x y g c) (λr st'=>st'=st/\match r with
    | .done c=>(∃t,c.1=some t/\Po rk x y t)\/(c.1=none/\J rk x y (N+1) c.2.1 c.2.2.1 c.2.2.2.1)
    | .yield c=>c.1=none/\J rk x y (N+1) c.2.1 c.2.2.1 c.2.2.2.1) st:=by
 unfold loS
 obtain⟨m,hi,hj,hN⟩:=hJ
 refine wpS_bind (w_elem hj ?_)
 refine wpS_bind (w_elem (by omega) ?_)
 refine wpS_bind (w_lt q hk (H.Sy _ _) (H.Sx _ _) ?_)
 dsimp only
 by_cases hlt:rk (y[c.2.2.2.1]'hj) < rk (x[c.2.2.1]'(by omega))
 ·rw[if_pos (by simpa using hlt)]
  have m':=J.pushY H (N:=N) m hj λn hn n1=>by have:=srt_at H.hx hn n1;omega
  refine wpS_bind (w_elem hj ?_)
  by_cases h1:c.2.2.2.1+1=y.size
  ·rw[if_pos (by simpa using h1)]
   exact wpS_pure ⟨rfl,.inl ⟨_,rfl,Po_dn H m' (.inl (by omega))⟩⟩
  ·rw[if_neg (by simpa using h1)]
   have jj:J rk x y (N+1) (c.2.1.push (y[c.2.2.2.1]'hj)) c.2.2.1 (c.2.2.2.1+1):=⟨m',hi,by omega,by omega⟩
   split
   ·exact wpS_pure ⟨rfl,.inr ⟨rfl,jj⟩⟩
   ·exact wpS_pure ⟨rfl,rfl,jj⟩
 ·rw[if_neg (by simpa using hlt)]
  have m':=J.pushX H (N:=N) m (by omega) λn hn n1=>by have:=srt_at H.hy hn n1;omega
  refine wpS_bind (w_elem (by omega) ?_)
  by_cases h1:c.2.2.1+1+1=x.size
  ·rw[if_pos (by simpa using h1)]
   exact wpS_pure ⟨rfl,.inl ⟨_,rfl,Po_ls H m' h1⟩⟩
  ·rw[if_neg (by simpa using h1)]
   have jj:J rk x y (N+1) (c.2.1.push (x[c.2.2.1]'(by omega))) (c.2.2.1+1) c.2.2.2.1:=⟨m',by omega,hj,by omega⟩
   split
   ·exact wpS_pure ⟨rfl,.inr ⟨rfl,jj⟩⟩
   ·exact wpS_pure ⟨rfl,rfl,jj⟩
theorem w_loB(q:Asks prog w A s κ rk S)(H:Hy rk S x y){N:Nat}{c:LoO}{st st':SortSt}(hk:kindOf st=κ)(hg:Gs st st')(hJ:J rk x y N c.2.1 c.2.2.1 c.2.2.2.1) :
  wpS (model prog w) A E s (loB x y c) (λr st'=>Gs st st'/\match r with
    | .done c=>∃t,c.1=some t/\Po rk x y t
    | .yield c=>c.1=none/\J rk x y (N+1) c.2.1 c.2.2.1 c.2.2.2.1) st':=by
 unfold loB
 refine wpS_bind (wpS_mono (wpS_forRange (I:=λn c st''=>st''=st'/\c.1=none/\J rk x y (N+n) c.2.1 c.2.2.1 c.2.2.2.1)
   (Q:=λc st''=>st''=st'/\((∃t,c.1=some t/\Po rk x y t)\/(c.1=none/\J rk x y N c.2.1 c.2.2.1 c.2.2.2.1))) ?step ?fin ⟨rfl,rfl,hJ⟩) ?post)
 case fin =>
  rintro c st'' ⟨rfl,_,h⟩
  have h1:=h.hi
  have h2:=h.hj
  have h3:=h.hN
  omega
 case step =>
  rintro n c st'' _ _ ⟨rfl,_,h⟩
  refine wpS_mono (w_loS q H (hg.kind.trans hk) h) ?_
  rintro r st3 ⟨rfl,h⟩
  cases r with
  | done c =>
   refine ⟨rfl,h.imp id λh=>⟨h.1,h.2.m,h.2.hi,h.2.hj,?_⟩⟩
   have:=h.2.hN
   omega
  | yield c=>exact ⟨rfl,h.1,h.2⟩
 case post =>
  rintro c st'' ⟨rfl,h⟩
  obtain⟨r,c⟩:=c
  rcases h with⟨t,e,h⟩|⟨e,h⟩
  ·cases e
   exact wpS_pure ⟨hg,_,rfl,h⟩
  ·cases e
   dsimp only
   refine wpS_bind (wpS_lift (wpAny_rule ⟨rfl,?_⟩))
   refine wpS_bind (wpS_mono (wpS_forRange (I:=λn c st''=>Gs st st''/\c.1=none/\J rk x y (N+n) c.2.1 c.2.2.1 c.2.2.2.1)
     (Q:=λc st''=>Gs st st''/\RT rk x y (N+1) c) ?step2 ?fin2 ⟨hg,rfl,h⟩) ?post2)
   case fin2 =>
    rintro c st'' ⟨_,_,h⟩
    have h1:=h.hi
    have h2:=h.hj
    have h3:=h.hN
    omega
   case step2 =>
    rintro n c st'' _ _ ⟨hg2,_,h⟩
    refine wpS_mono (w_loG q H hk hg2 h) ?_
    rintro r st3 ⟨hg3,h⟩
    cases r with
    | done c =>
     refine ⟨hg3,Or.imp id (λh=>⟨h.1,h.2.m,h.2.hi,h.2.hj,?_⟩) h⟩
     have:=h.2.hN
     omega
    | yield c=>exact ⟨hg3,h.1,h.2⟩
   case post2 =>
    rintro c st'' ⟨hg2,h⟩
    obtain⟨r,c⟩:=c
    rcases h with⟨t,e,h⟩|⟨e,h⟩
    ·cases e
     exact wpS_pure ⟨hg2,_,rfl,h⟩
    ·cases e
     exact wpS_bind (wpS_modify (wpS_pure ⟨hg2.set _,rfl,h⟩))
theorem w_mLo(q:Asks prog w A s κ rk S)(H:Hy rk S x y){st:SortSt}{Q:Array Keyed->SortSt->Prop}(hk:kindOf st=κ)(h:∀r st',Gs st st'->Po rk x y r->Q r st'):wpS (model prog w) A E s (mLo x y) Q st:=by
 rw[mLo_eq]
 refine wpS_bind (wpS_lift (wpAny_rule ⟨rfl,?_⟩))
 refine wpS_bind (w_elem H.y0 ?_)
 have m0:Mg (leK rk) x.toList y.toList (#[]:Array Keyed).toList 0 0:=⟨by simp,by simp,by simp,by simp⟩
 have m1:=J.pushY H (N:=0) m0 H.y0 λn hn _=>H.hf n hn
 have e1:(#[]:Array Keyed).push (y[0]'H.y0)=#[y[0]'H.y0]:=rfl
 rw[e1]at m1
 have hy0:=H.y0
 have hx0:=H.x0
 by_cases h1:1=y.size
 ·rw[if_pos (by simpa using h1)]
  exact wpS_pure (h _ _ (Gs.refl _) (Po_dn H m1 (.inl (by omega))))
 ·rw[if_neg (by simpa using h1)]
  by_cases h2:0+1=x.size
  ·rw[if_pos (by simpa using h2)]
   exact wpS_pure (h _ _ (Gs.refl _) (Po_ls H m1 h2))
  ·rw[if_neg (by simpa using h2)]
   refine wpS_bind (wpS_get ?_)
   refine wpS_bind (wpS_mono (wpS_forRange (I:=λn c st''=>Gs st st''/\c.1=none/\J rk x y n c.2.1 c.2.2.1 c.2.2.2.1)
     (Q:=λc st''=>Gs st st''/\∃t,c.1=some t/\Po rk x y t) ?step ?fin ⟨Gs.refl _,rfl,m1,by show 0+1 < x.size;omega,by show 1 < y.size;omega,by omega⟩) ?post)
   case fin =>
    rintro c st'' ⟨_,_,h⟩
    have h1:=h.hi
    have h2:=h.hj
    have h3:=h.hN
    omega
   case step =>
    rintro n c st'' _ _ ⟨hg2,_,h⟩
    refine wpS_mono (w_loB q H hk hg2 h) ?_
    rintro r st3 ⟨hg3,h⟩
    cases r with
    | done c=>exact ⟨hg3,h⟩
    | yield c=>exact ⟨hg3,h⟩
   case post =>
    rintro c st'' ⟨hg2,t,e,hP⟩
    obtain⟨r,c⟩:=c
    cases e
    exact wpS_pure (h _ _ hg2 hP)
end
noncomputable abbrev HiT:=Option (Array Keyed)×Nat×Nat×Array Keyed×Nat×Nat×Nat
noncomputable abbrev HiS:=Option (Array Keyed)×Nat×Nat×Array Keyed×Nat×Nat
noncomputable abbrev HiO:=Option (Array Keyed)×Nat×Nat×Array Keyed×Nat
section
variable (x y:Array Keyed)
noncomputable def dnH(o:Array Keyed)(i j:Nat):Array Keyed:=x.extract 0 i++y.extract 0 j++o.reverse
noncomputable def lsH(o:Array Keyed)(i j:Nat):Array Keyed:=y.extract 0 j++x.extract 0 i++o.reverse
noncomputable def hi2(i j:Nat)(o:Array Keyed)(g ac bc:Nat):StateT SortSt Sem (ForInStep HiT):=do
 let z<-elem' x (i - 1)
 if (i - 1==0)=true then pure (.done (some (dnH x y (o.push z) (i - 1) j),i - 1,j,o.push z,g,ac,bc))
 else if (decide (ac < 7)&&decide (bc < 7))=true then pure (.done (none,i - 1,j,o.push z,g,ac,bc))
 else pure (.yield (none,i - 1,j,o.push z,g,ac,bc))
noncomputable def hi1(i j:Nat)(o:Array Keyed)(g ac bc:Nat):StateT SortSt Sem (ForInStep HiT):=do
 let z<-elem' y (j - 1)
 if (j - 1==1)=true then pure (.done (some (lsH x y (o.push z) i (j - 1)),i,j - 1,o.push z,g,ac,bc))
 else do
  let u<-elem' x (i - 1)
  let some p<-gal true u y 0 (j - 1) (j - 1 - 1)|pure (.done (some (dnH x y (o.push z) i (j - 1)),i,j - 1,o.push z,g,ac,bc))
  if j - 1 - p > 0 then
   if (p==1)=true then pure (.done (some (lsH x y (o.push z++(y.extract p (j - 1)).reverse) i p),i,p,o.push z++(y.extract p (j - 1)).reverse,g,ac,j - 1 - p))
   else if (p==0)=true then pure (.done (some (dnH x y (o.push z++(y.extract p (j - 1)).reverse) i p),i,p,o.push z++(y.extract p (j - 1)).reverse,g,ac,j - 1 - p))
   else hi2 x y i p (o.push z++(y.extract p (j - 1)).reverse) g ac (j - 1 - p)
  else hi2 x y i (j - 1) (o.push z) g ac (j - 1 - p)
noncomputable def hi0(i j:Nat)(o:Array Keyed)(g ac bc:Nat):StateT SortSt Sem (ForInStep HiT):=do
 modify λv=>setG v g
 let z<-elem' y (j - 1)
 let some p<-gal false z x 0 i (i - 1)|pure (.done (some (dnH x y o i j),i,j,o,g,ac,bc))
 if i - p > 0 then
   if (p==0)=true then pure (.done (some (dnH x y (o++(x.extract p i).reverse) p j),p,j,o++(x.extract p i).reverse,g,i - p,bc))
   else hi1 x y p j (o++(x.extract p i).reverse) g (i - p) bc
 else hi1 x y i j o g (i - p) bc
noncomputable def hiG(t:HiT):StateT SortSt Sem (ForInStep HiT) :=
 if t.2.2.2.2.1 > 1 then hi0 x y t.2.1 t.2.2.1 t.2.2.2.1 (t.2.2.2.2.1 - 1) t.2.2.2.2.2.1 t.2.2.2.2.2.2
 else hi0 x y t.2.1 t.2.2.1 t.2.2.2.1 t.2.2.2.2.1 t.2.2.2.2.2.1 t.2.2.2.2.2.2
noncomputable def hiS(g:Nat)(t:HiS):StateT SortSt Sem (ForInStep HiS):=do
 let z<-elem' y (t.2.2.1 - 1)
 let u<-elem' x (t.2.1 - 1)
 let some xw<-lt' z u|pure (.done (some (dnH x y t.2.2.2.1 t.2.1 t.2.2.1),t.2.1,t.2.2.1,t.2.2.2.1,t.2.2.2.2.1,t.2.2.2.2.2))
 if xw=true then do
   let z<-elem' x (t.2.1 - 1)
   if (t.2.1 - 1==0)=true then pure (.done (some (dnH x y (t.2.2.2.1.push z) (t.2.1 - 1) t.2.2.1),t.2.1 - 1,t.2.2.1,t.2.2.2.1.push z,t.2.2.2.2.1+1,0))
   else if t.2.2.2.2.1+1 ≥ g then pure (.done (none,t.2.1 - 1,t.2.2.1,t.2.2.2.1.push z,t.2.2.2.2.1+1,0))
   else pure (.yield (none,t.2.1 - 1,t.2.2.1,t.2.2.2.1.push z,t.2.2.2.2.1+1,0))
 else do
   let z<-elem' y (t.2.2.1 - 1)
   if (t.2.2.1 - 1==1)=true then pure (.done (some (lsH x y (t.2.2.2.1.push z) t.2.1 (t.2.2.1 - 1)),t.2.1,t.2.2.1 - 1,t.2.2.2.1.push z,0,t.2.2.2.2.2+1))
   else if t.2.2.2.2.2+1 ≥ g then pure (.done (none,t.2.1,t.2.2.1 - 1,t.2.2.2.1.push z,0,t.2.2.2.2.2+1))
   else pure (.yield (none,t.2.1,t.2.2.1 - 1,t.2.2.2.1.push z,0,t.2.2.2.2.2+1))
noncomputable def hiB(t:HiO):StateT SortSt Sem (ForInStep HiO):=do
 let v<-forIn [:x.size+y.size] ((none,t.2.1,t.2.2.1,t.2.2.2.1,0,0):HiS) λ_ v=>hiS x y t.2.2.2.2 v
 match v.1 with
 | some r=>pure (.done (some r,v.2.1,v.2.2.1,v.2.2.2.1,t.2.2.2.2))
 | none=>do
  liftM (rule "list.sort.gallop")
  let u<-forIn [:x.size+y.size] ((none,v.2.1,v.2.2.1,v.2.2.2.1,t.2.2.2.2+1,v.2.2.2.2.1,v.2.2.2.2.2):HiT) λ_ u=>hiG x y u
  match u.1 with
  | some r=>pure (.done (some r,u.2.1,u.2.2.1,u.2.2.2.1,u.2.2.2.2.1))
  | none=>do
   modify λz=>setG z (u.2.2.2.2.1+1)
   pure (.yield (none,u.2.1,u.2.2.1,u.2.2.2.1,u.2.2.2.2.1+1))
end
theorem mHi_eq0(x y:Array Keyed):mHi x y=(do
    rule "list.sort.merge-hi"
    let tt:=x.size+y.size
    let dn (o:Array Keyed) (i j:Nat):=x.extract 0 i++y.extract 0 j++o.reverse
    let fs (o:Array Keyed) (i j:Nat):=y.extract 0 j++x.extract 0 i++o.reverse
    let mut i:=x.size - 1
    let mut j:=y.size
    let mut o:Array Keyed:=#[<- elem' x i]
    if i==0 then return dn o i j
    if j==1 then return fs o i j
    let mut g:=gallopOf (<- get)
    for _ in [0:tt] do
      let mut ac:=0
      let mut bc:=0
      for _ in [0:tt] do
        let some xw<-lt' (<- elem' y (j - 1)) (<- elem' x (i - 1))|return dn o i j
        if xw then
          i:=i - 1;o:=o.push (<- elem' x i);ac:=ac+1;bc:=0
          if i==0 then return dn o i j
          if ac ≥ g then break
        else
          j:=j - 1;o:=o.push (<- elem' y j);bc:=bc+1;ac:=0
          if j==1 then return fs o i j
          if bc ≥ g then break
      rule "list.sort.gallop"
      g:=g+1
      for _ in [0:tt] do
        if g > 1 then g:=g - 1
        modify (setG · g)
        let some p<-gal false (<- elem' y (j - 1)) x 0 i (i - 1)|return dn o i j
        let k:=i - p
        ac:=k
        if k > 0 then
          o:=o++(x.extract p i).reverse;i:=p
          if i==0 then return dn o i j
        j:=j - 1;o:=o.push (<- elem' y j)
        if j==1 then return fs o i j
        let some p<-gal true (<- elem' x (i - 1)) y 0 j (j - 1)|return dn o i j
        let k:=j - p
        bc:=k
        if k > 0 then
          o:=o++(y.extract p j).reverse;j:=p
          if j==1 then return fs o i j
          if j==0 then return dn o i j
        i:=i - 1;o:=o.push (<- elem' x i)
        if i==0 then return dn o i j
        if ac < 7&&bc < 7 then break
      g:=g+1
      modify (setG · g)
    unsupported "internal:list.sort.merge-bound"):=rfl
theorem mHi_eq(x y:Array Keyed):mHi x y=(do
    liftM (rule "list.sort.merge-hi")
    let z<-elem' x (x.size - 1)
    if (x.size - 1==0)=true then pure (dnH x y #[z] (x.size - 1) y.size)
    else if (y.size==1)=true then pure (lsH x y #[z] (x.size - 1) y.size)
    else do
      let s<-get
      let v<-forIn [:x.size+y.size] ((none,x.size - 1,y.size,#[z],gallopOf s):HiO) λ_ v=>hiB x y v
      match v.1 with
      | some r=>pure r
      | none=>unsupported "internal:list.sort.merge-bound"):=by
 rw[mHi_eq0]
 dsimp only
 refine congrArg (bind _) (funext λ_=>?_)
 refine congrArg (bind _) (funext λz=>?_)
 refine congr (congrArg _ rfl) ?_
 refine congr (congrArg _ rfl) ?_
 refine congrArg (bind _) (funext λs=>?_)
 refine congr (congrArg bind ?A) (funext λv=>by obtain⟨r,v⟩:=v;cases r<;>rfl)
 refine congrArg _ (funext λ_=>funext λv=>?_)
 unfold hiB
 refine congr (congrArg bind rfl) (funext λv=>?_)
 obtain⟨r,v⟩:=v
 cases r with
 | some r=>rfl
 | none =>
  refine congrArg (bind _) (funext λ_=>?_)
  refine congr (congrArg bind ?A2) (funext λv=>by obtain⟨r,v⟩:=v;cases r<;>rfl)
  rfl
section
variable {α:Type}{x:Array α}{i j k:Nat}
theorem rev_drop(hi:i<=x.size):x.toList.reverse.drop (x.size - i)=(x.toList.take i).reverse:=by
 rw[List.drop_reverse,M0,Nat.sub_sub_self hi]
theorem mem_revD{v:α}(hi:i<=x.size)(h:v∈x.toList.reverse.drop (x.size - i)):∃(n:Nat) (hn:n < x.size),n < i/\v=x[n]:=by
 rw[rev_drop hi,B7]at h
 obtain⟨n,hn,e⟩:=Y2 h
 rw[U2,M0]at hn
 refine ⟨n,by omega,by omega,?_⟩
 rw[<- e,o7,P2]
theorem rev_ext(hk:k<=i)(hi:i<=x.size):(x.extract k i).reverse.toList=(x.toList.reverse.drop (x.size - i)).take (i - k):=by
 rw[o5,V3,W2,rev_drop hi,List.take_reverse,U2,M0,L6 hi,Nat.sub_sub_self hk,List.drop_take]
theorem ext_0:(x.extract 0 i).toList=x.toList.take i:=by
 rw[V3,W2,List.drop_zero,Nat.sub_zero]
end
section
variable {prog:Program}{w:World}{A:Around}{E:Value->Shared->Prop}{s:Shared}{κ:SortKind}{rk:Keyed->Nat}{S:Keyed->Prop}{x y:Array Keyed}
noncomputable abbrev geK(rk:Keyed->Nat):Keyed->Keyed->Prop:=λa b=>rk b<=rk a
structure MH(rk:Keyed->Nat)(x y:Array Keyed)(o:Array Keyed)(i j:Nat):Prop where
 m:Mg (geK rk) x.toList.reverse y.toList.reverse o.toList (x.size - i) (y.size - j)
 hi:i<=x.size
 hj:j<=y.size
theorem MH.comm{o:Array Keyed}{i j:Nat}(h:MH rk x y o i j):MH rk y x o j i:=⟨h.m.comm,h.hj,h.hi⟩
theorem MH.chunk(hx:x.toList.Pairwise (leK rk)){o:Array Keyed}{i j p:Nat}(h:MH rk x y o i j)(hp:p<=i)(hk:∀n (hn:n < x.size) k (hk:k < y.size),p<=n->n < i->k < j->rk y[k]<=rk x[n]) :
  MH rk x y (o++(x.extract p i).reverse) p j:=by
 have hi:=h.hi
 refine ⟨?_,by omega,h.hj⟩
 rw[D2,rev_ext hp hi]
 have e:x.size - p=x.size - i+(i - p):=by omega
 rw[e]
 refine h.m.takeA (m4.mpr hx) (i - p) λv hv u hu=>?_
 obtain⟨k,hk1,hk2,rfl⟩:=mem_revD h.hj hu
 rw[<- rev_ext hp hi,o5,B7,V3,W2]at hv
 obtain⟨n,hn,n1,n2,rfl⟩:=mem_dropTA hv
 exact hk n hn k hk1 n1 (by omega) hk2
theorem MH.push(hx:x.toList.Pairwise (leK rk)){o:Array Keyed}{i j:Nat}(h:MH rk x y o i j)(h0:0 < i)(hk:∀k (hk:k < y.size),k < j->rk y[k]<=rk (x[i - 1]'(by have:=h.hi;omega))) :
  MH rk x y (o.push (x[i - 1]'(by have:=h.hi;omega))) (i - 1) j:=by
 have hi:=h.hi
 have e:o.push (x[i - 1]'(by omega))=o++(x.extract (i - 1) i).reverse:=by
  apply Array.toList_inj.mp
  rw[p7,D2,rev_ext (by omega) hi,show i - (i - 1)=1 by omega,K3 (by simp;omega)]
  simp only[List.take_succ_cons,List.take_zero,List.getElem_reverse,P2,M0]
  congr 3
  omega
 rw[e]
 refine h.chunk hx (by omega) λn hn k hk1 n1 n2 k2=>?_
 have:n=i - 1:=by omega
 subst this
 exact hk k hk1 k2
theorem rev_fin{a b o r:List Keyed}(h:(o++a++b).Perm (x.toList.reverse++y.toList.reverse)/\(o++a++b).Pairwise (geK rk))(e:r=(o++a++b).reverse):r.Perm (x.toList++y.toList)/\r.Pairwise (leK rk):=by
 subst e
 exact ⟨((t7 _).trans h.1).trans ((t7 _).append (t7 _)),m4.mpr h.2⟩
theorem Po_dnH(H:Hy rk S x y){o:Array Keyed}{i j:Nat}(m:MH rk x y o i j)(h:i=0\/j=0):Po rk x y (dnH x y o i j):=by
 refine rev_fin (m.m.finC (m4.mpr H.hx) (m4.mpr H.hy) λv hv u hu=>?_) ?_
 ·obtain⟨n,hn,n1,_⟩:=mem_revD m.hj hv
  obtain⟨k,hk,k1,_⟩:=mem_revD m.hi hu
  omega
 ·unfold dnH
  rw[D2,D2,ext_0,ext_0,rev_drop m.hi,rev_drop m.hj,o5]
  simp
theorem Po_lsH(H:Hy rk S x y){o:Array Keyed}{i j:Nat}(m:MH rk x y o i j)(h:j=1):Po rk x y (lsH x y o i j):=by
 refine rev_fin (m.m.fin (m4.mpr H.hx) (m4.mpr H.hy) λv hv u hu=>?_) ?_
 ·obtain⟨n,hn,n1,rfl⟩:=mem_revD m.hi hv
  obtain⟨k,hk,k1,rfl⟩:=mem_revD m.hj hu
  have:k=0:=by omega
  subst this
  exact H.hf n hn
 ·unfold lsH
  rw[D2,D2,ext_0,ext_0,rev_drop m.hi,rev_drop m.hj,o5]
  simp
structure JH(rk:Keyed->Nat)(x y:Array Keyed)(N:Nat)(i j:Nat)(o:Array Keyed):Prop where
 m:MH rk x y o i j
 hi:1<=i
 hj:2<=j
 hN:N+i+j<=x.size+y.size
noncomputable def RH(rk:Keyed->Nat)(x y:Array Keyed)(N:Nat)(c:HiT):Prop:=(∃t,c.1=some t/\Po rk x y t)\/(c.1=none/\JH rk x y N c.2.1 c.2.2.1 c.2.2.2.1)
noncomputable def StH(rk:Keyed->Nat)(x y:Array Keyed)(N:Nat)(st:SortSt)(r:ForInStep HiT)(st':SortSt):Prop :=
 Gs st st'/\match r with
  | .done c=>RH rk x y N c
  | .yield c=>c.1=none/\JH rk x y N c.2.1 c.2.2.1 c.2.2.2.1
theorem w_hi2(H:Hy rk S x y){N:Nat}{o:Array Keyed}{i j g ac bc:Nat}{st st':SortSt}(hg:Gs st st')(m:MH rk x y o i j)(hi:1<=i)(hj:2<=j)(hN:N+i+j<=x.size+y.size+1)
  (h:∀n (hn:n < y.size),n < j->rk y[n]<=rk (x[i - 1]'(by have:=m.hi;omega))):wpS (model prog w) A E s (hi2 x y i j o g ac bc) (StH rk x y N st) st':=by
 unfold hi2
 have hi':=m.hi
 have m':=m.push H.hx hi h
 refine wpS_bind (w_elem (by omega) ?_)
 by_cases h1:i - 1=0
 ·rw[if_pos (by simpa using h1)]
  exact wpS_pure ⟨hg,.inl ⟨_,rfl,Po_dnH H m' (.inl h1)⟩⟩
 ·rw[if_neg (by simpa using h1)]
  have jj:JH rk x y N (i - 1) j (o.push (x[i - 1]'(by omega))):=⟨m',by omega,hj,by omega⟩
  by_cases h2:(decide (ac < 7)&&decide (bc < 7))=true
  ·rw[if_pos h2]
   exact wpS_pure ⟨hg,.inr ⟨rfl,jj⟩⟩
  ·rw[if_neg h2]
   exact wpS_pure ⟨hg,rfl,jj⟩
theorem w_hi1(q:Asks prog w A s κ rk S)(H:Hy rk S x y){N:Nat}{o:Array Keyed}{i j g ac bc:Nat}{st st':SortSt}(hk:kindOf st=κ)(hg:Gs st st')(m:MH rk x y o i j)(hi:1<=i)(hj:2<=j)(hN:N+i+j<=x.size+y.size+1)
  (h:∀n (hn:n < x.size),n < i->rk x[n]<=rk (y[j - 1]'(by have:=m.hj;omega))):wpS (model prog w) A E s (hi1 x y i j o g ac bc) (StH rk x y N st) st':=by
 unfold hi1
 have hi':=m.hi
 have hj':=m.hj
 have m':=(m.comm.push H.hy (by omega) h).comm
 refine wpS_bind (w_elem (by omega) ?_)
 by_cases h1:j - 1=1
 ·rw[if_pos (by simpa using h1)]
  exact wpS_pure ⟨hg,.inl ⟨_,rfl,Po_lsH H m' h1⟩⟩
 ·rw[if_neg (by simpa using h1)]
  refine wpS_bind (w_elem (by omega) ?_)
  refine wpS_bind (w_gallop q (hg.kind.trans hk) (H.Sx _ _) H.Sy (by omega) (λa b hb hab _ _=>srt_at H.hy hb hab) (by omega) λp pn k1 k2=>?_)
  dsimp only
  have k1':∀n (hn:n < y.size),n < p->rk y[n] < rk (x[i - 1]'(by omega)):=λn hn hp=>by
   have:=k1 n hn (S3 _) (by omega)
   rw[if_pos rfl]at this
   exact this
  by_cases hk0:j - 1 - p > 0
  ·rw[if_pos hk0]
   have m2:=(m'.comm.chunk H.hy (p:=p) pn λn hn k hk1 n1 n2 n3=>by
     have:=k2 n hn (by omega) (by omega)
     rw[if_pos rfl]at this
     have:=srt_at H.hx (i:=k) (j:=i - 1) (by omega) (by omega)
     omega).comm
   by_cases h2:p=1
   ·rw[if_pos (by simpa using h2)]
    exact wpS_pure ⟨hg,.inl ⟨_,rfl,Po_lsH H m2 h2⟩⟩
   ·rw[if_neg (by simpa using h2)]
    by_cases h3:p=0
    ·rw[if_pos (by simpa using h3)]
     exact wpS_pure ⟨hg,.inl ⟨_,rfl,Po_dnH H m2 (.inr h3)⟩⟩
    ·rw[if_neg (by simpa using h3)]
     exact w_hi2 H hg m2 hi (by omega) (by omega) λn hn n1=>N4 (k1' n hn n1)
  ·rw[if_neg hk0]
   exact w_hi2 H hg m' hi (by omega) (by omega) λn hn n1=>N4 (k1' n hn (by omega))
theorem w_hi0(q:Asks prog w A s κ rk S)(H:Hy rk S x y){N:Nat}{o:Array Keyed}{i j g ac bc:Nat}{st st':SortSt}(hk:kindOf st=κ)(hg:Gs st st')(m:MH rk x y o i j)(hi:1<=i)(hj:2<=j)(hN:N+i+j<=x.size+y.size+1) :
  wpS (model prog w) A E s (hi0 x y i j o g ac bc) (StH rk x y N st) st':=by
 unfold hi0
 have hi':=m.hi
 have hj':=m.hj
 refine wpS_bind (wpS_modify ?_)
 have hg':=hg.set g
 refine wpS_bind (w_elem (by omega) ?_)
 refine wpS_bind (w_gallop q (hg'.kind.trans hk) (H.Sy _ _) H.Sx (by omega) (λa b hb hab _ _=>srt_at H.hx hb hab) (by omega) λp pn k1 k2=>?_)
 dsimp only
 have k1':∀n (hn:n < x.size),n < p->rk x[n]<=rk (y[j - 1]'(by omega)):=λn hn hp=>by
  have:=k1 n hn (S3 _) (by omega)
  rw[if_neg (by decide)]at this
  exact this
 by_cases hk0:i - p > 0
 ·rw[if_pos hk0]
  have m2:=m.chunk H.hx (p:=p) pn λn hn k hk1 n1 n2 n3=>by
   have:=k2 n hn (by omega) (by omega)
   rw[if_neg (by decide)]at this
   have:=srt_at H.hy (i:=k) (j:=j - 1) (by omega) (by omega)
   omega
  by_cases h3:p=0
  ·rw[if_pos (by simpa using h3)]
   exact wpS_pure ⟨hg',.inl ⟨_,rfl,Po_dnH H m2 (.inl h3)⟩⟩
  ·rw[if_neg (by simpa using h3)]
   exact w_hi1 q H hk hg' m2 (by omega) hj (by omega) k1'
 ·rw[if_neg hk0]
  exact w_hi1 q H hk hg' m hi hj (by omega) λn hn n1=>k1' n hn (by omega)
theorem w_hiG(q:Asks prog w A s κ rk S)(H:Hy rk S x y){N:Nat}{c:HiT}{st st':SortSt}(hk:kindOf st=κ)(hg:Gs st st')(hJ:JH rk x y N c.2.1 c.2.2.1 c.2.2.2.1) :
  wpS (model prog w) A E s (hiG x y c) (StH rk x y (N+1) st) st':=by
 unfold hiG
 have:=hJ.hN
 split
 ·exact w_hi0 q H hk hg hJ.m hJ.hi hJ.hj (by omega)
 ·exact w_hi0 q H hk hg hJ.m hJ.hi hJ.hj (by omega)
theorem w_hiS(q:Asks prog w A s κ rk S)(H:Hy rk S x y){N g:Nat}{c:HiS}{st:SortSt}(hk:kindOf st=κ)(hJ:JH rk x y N c.2.1 c.2.2.1 c.2.2.2.1) :
  wpS (model prog w) A E s (hiS x y g c) (λr st'=>st'=st/\match r with
    | .done c=>(∃t,c.1=some t/\Po rk x y t)\/(c.1=none/\JH rk x y (N+1) c.2.1 c.2.2.1 c.2.2.2.1)
    | .yield c=>c.1=none/\JH rk x y (N+1) c.2.1 c.2.2.1 c.2.2.2.1) st:=by
 unfold hiS
 obtain⟨m,hi,hj,hN⟩:=hJ
 have hi':=m.hi
 have hj':=m.hj
 refine wpS_bind (w_elem (by omega) ?_)
 refine wpS_bind (w_elem (by omega) ?_)
 refine wpS_bind (w_lt q hk (H.Sy _ _) (H.Sx _ _) ?_)
 dsimp only
 by_cases hlt:rk (y[c.2.2.1 - 1]'(by omega)) < rk (x[c.2.1 - 1]'(by omega))
 ·rw[if_pos (by simpa using hlt)]
  have m':=m.push H.hx hi λn hn n1=>by have:=srt_at H.hy (i:=n) (j:=c.2.2.1 - 1) (by omega) (by omega);omega
  refine wpS_bind (w_elem (by omega) ?_)
  by_cases h1:c.2.1 - 1=0
  ·rw[if_pos (by simpa using h1)]
   exact wpS_pure ⟨rfl,.inl ⟨_,rfl,Po_dnH H m' (.inl h1)⟩⟩
  ·rw[if_neg (by simpa using h1)]
   have jj:JH rk x y (N+1) (c.2.1 - 1) c.2.2.1 (c.2.2.2.1.push (x[c.2.1 - 1]'(by omega))):=⟨m',by omega,hj,by omega⟩
   split
   ·exact wpS_pure ⟨rfl,.inr ⟨rfl,jj⟩⟩
   ·exact wpS_pure ⟨rfl,rfl,jj⟩
 ·rw[if_neg (by simpa using hlt)]
  have m':=(m.comm.push H.hy (by omega) λn hn n1=>by have:=srt_at H.hx (i:=n) (j:=c.2.1 - 1) (by omega) (by omega);omega).comm
  refine wpS_bind (w_elem (by omega) ?_)
  by_cases h1:c.2.2.1 - 1=1
  ·rw[if_pos (by simpa using h1)]
   exact wpS_pure ⟨rfl,.inl ⟨_,rfl,Po_lsH H m' h1⟩⟩
  ·rw[if_neg (by simpa using h1)]
   have jj:JH rk x y (N+1) c.2.1 (c.2.2.1 - 1) (c.2.2.2.1.push (y[c.2.2.1 - 1]'(by omega))):=⟨m',by omega,by omega,by omega⟩
   split
   ·exact wpS_pure ⟨rfl,.inr ⟨rfl,jj⟩⟩
   ·exact wpS_pure ⟨rfl,rfl,jj⟩
theorem JH.false{N i j:Nat}{o:Array Keyed}(h:JH rk x y N i j o)(hN:x.size+y.size<=N):False:=by
 have h1:=h.hi
 have h2:=h.hj
 have h3:=h.hN
 omega
theorem w_hiB(q:Asks prog w A s κ rk S)(H:Hy rk S x y){N:Nat}{c:HiO}{st st':SortSt}(hk:kindOf st=κ)(hg:Gs st st')(hJ:JH rk x y N c.2.1 c.2.2.1 c.2.2.2.1) :
  wpS (model prog w) A E s (hiB x y c) (λr st'=>Gs st st'/\match r with
    | .done c=>∃t,c.1=some t/\Po rk x y t
    | .yield c=>c.1=none/\JH rk x y (N+1) c.2.1 c.2.2.1 c.2.2.2.1) st':=by
 unfold hiB
 refine wpS_bind (wpS_mono (wpS_forRange (I:=λn c st''=>st''=st'/\c.1=none/\JH rk x y (N+n) c.2.1 c.2.2.1 c.2.2.2.1)
   (Q:=λc st''=>st''=st'/\((∃t,c.1=some t/\Po rk x y t)\/(c.1=none/\JH rk x y N c.2.1 c.2.2.1 c.2.2.2.1))) ?step ?fin ⟨rfl,rfl,hJ⟩) ?post)
 case fin =>
  rintro c st'' ⟨rfl,_,h⟩
  exact (h.false (by omega)).elim
 case step =>
  rintro n c st'' _ _ ⟨rfl,_,h⟩
  refine wpS_mono (w_hiS q H (hg.kind.trans hk) h) ?_
  rintro r st3 ⟨rfl,h⟩
  cases r with
  | done c =>
   refine ⟨rfl,h.imp id λh=>⟨h.1,h.2.m,h.2.hi,h.2.hj,?_⟩⟩
   have:=h.2.hN
   omega
  | yield c=>exact ⟨rfl,h.1,h.2⟩
 case post =>
  rintro c st'' ⟨rfl,h⟩
  obtain⟨r,c⟩:=c
  rcases h with⟨t,e,h⟩|⟨e,h⟩
  ·cases e
   exact wpS_pure ⟨hg,_,rfl,h⟩
  ·cases e
   dsimp only
   refine wpS_bind (wpS_lift (wpAny_rule ⟨rfl,?_⟩))
   refine wpS_bind (wpS_mono (wpS_forRange (I:=λn c st''=>Gs st st''/\c.1=none/\JH rk x y (N+n) c.2.1 c.2.2.1 c.2.2.2.1)
     (Q:=λc st''=>Gs st st''/\RH rk x y (N+1) c) ?step2 ?fin2 ⟨hg,rfl,h⟩) ?post2)
   case fin2 =>
    rintro c st'' ⟨_,_,h⟩
    exact (h.false (by omega)).elim
   case step2 =>
    rintro n c st'' _ _ ⟨hg2,_,h⟩
    refine wpS_mono (w_hiG q H hk hg2 h) ?_
    rintro r st3 ⟨hg3,h⟩
    cases r with
    | done c =>
     refine ⟨hg3,Or.imp id (λh=>⟨h.1,h.2.m,h.2.hi,h.2.hj,?_⟩) h⟩
     have:=h.2.hN
     omega
    | yield c=>exact ⟨hg3,h.1,h.2⟩
   case post2 =>
    rintro c st'' ⟨hg2,h⟩
    obtain⟨r,c⟩:=c
    rcases h with⟨t,e,h⟩|⟨e,h⟩
    ·cases e
     exact wpS_pure ⟨hg2,_,rfl,h⟩
    ·cases e
     exact wpS_bind (wpS_modify (wpS_pure ⟨hg2.set _,rfl,h⟩))
theorem w_mHi(q:Asks prog w A s κ rk S)(H:Hy rk S x y){st:SortSt}{Q:Array Keyed->SortSt->Prop}(hk:kindOf st=κ)(h:∀r st',Gs st st'->Po rk x y r->Q r st'):wpS (model prog w) A E s (mHi x y) Q st:=by
 rw[mHi_eq]
 have hy0:=H.y0
 have hx0:=H.x0
 refine wpS_bind (wpS_lift (wpAny_rule ⟨rfl,?_⟩))
 refine wpS_bind (w_elem (by omega) ?_)
 have m0:MH rk x y #[] x.size y.size:=⟨⟨by simp,by simp,by simp,by simp⟩,A0 _,A0 _⟩
 have m1:=m0.push H.hx hx0 λn hn _=>H.hl n hn
 have e1:(#[]:Array Keyed).push (x[x.size - 1]'(by omega))=#[x[x.size - 1]'(by omega)]:=rfl
 rw[e1]at m1
 by_cases h1:x.size - 1=0
 ·rw[if_pos (by simpa using h1)]
  exact wpS_pure (h _ _ (Gs.refl _) (Po_dnH H m1 (.inl h1)))
 ·rw[if_neg (by simpa using h1)]
  by_cases h2:y.size=1
  ·rw[if_pos (by simpa using h2)]
   exact wpS_pure (h _ _ (Gs.refl _) (Po_lsH H m1 h2))
  ·rw[if_neg (by simpa using h2)]
   refine wpS_bind (wpS_get ?_)
   refine wpS_bind (wpS_mono (wpS_forRange (I:=λn c st''=>Gs st st''/\c.1=none/\JH rk x y n c.2.1 c.2.2.1 c.2.2.2.1)
     (Q:=λc st''=>Gs st st''/\∃t,c.1=some t/\Po rk x y t) ?step ?fin ⟨Gs.refl _,rfl,m1,by show 1<=x.size - 1;omega,by show 2<=y.size;omega,by show 0+(x.size - 1)+y.size<=_;omega⟩) ?post)
   case fin =>
    rintro c st'' ⟨_,_,h⟩
    exact (h.false (by omega)).elim
   case step =>
    rintro n c st'' _ _ ⟨hg2,_,h⟩
    refine wpS_mono (w_hiB q H hk hg2 h) ?_
    rintro r st3 ⟨hg3,h⟩
    cases r with
    | done c=>exact ⟨hg3,h⟩
    | yield c=>exact ⟨hg3,h⟩
   case post =>
    rintro c st'' ⟨hg2,t,e,hP⟩
    obtain⟨r,c⟩:=c
    cases e
    exact wpS_pure (h _ _ hg2 hP)
end
noncomputable def KR(rk:Keyed->Nat)(xs:Array Keyed)(i:Nat):Nat:=match xs[i]? with
 | some p=>rk p
 | none=>0
theorem KR_at{rk:Keyed->Nat}{xs:Array Keyed}{i:Nat}(h:i < xs.size):KR rk xs i=rk xs[i]:=by
 unfold KR;rw[getElem?_pos xs i h]
theorem KR_congr{rk:Keyed->Nat}{xs ys:Array Keyed}{i j:Nat}(h:xs[i]?=ys[j]?):KR rk xs i=KR rk ys j:=by unfold KR;rw[h]
theorem KR_mirror{rk:Keyed->Nat}{xs:Array Keyed}{i j:Nat}(hj:j<=xs.size)(k:Nat) :
  KR rk (mirror xs i j ((j - i) / 2)) k=if i<=k/\k < j then KR rk xs (i+j - 1 - k) else KR rk xs k:=by
 have e:=getElem?_mirror_all (i:=i) hj k
 split
 ·rename_i h1;rw[if_pos h1]at e;exact KR_congr e
 ·rename_i h1;rw[if_neg h1]at e;exact KR_congr e
theorem KR_bubble{rk:Keyed->Nat}{xs:Array Keyed}{c d:Nat}(hs:c < xs.size)(hd:d<=c)(k:Nat) :
  KR rk (bubble xs c d) k=if k=c - d then KR rk xs c else if c - d < k/\k<=c then KR rk xs (k - 1) else KR rk xs k:=by
 have e:=getElem?_bubble hs d hd k
 split
 ·rename_i h1;rw[if_pos h1]at e;exact KR_congr e
 ·rename_i h1
  rw[if_neg h1]at e
  split
  ·rename_i h2;rw[if_pos h2]at e;exact KR_congr e
  ·rename_i h2;rw[if_neg h2]at e;exact KR_congr e
noncomputable def Sg(rk:Keyed->Nat)(xs:Array Keyed)(lo n:Nat):Prop:=∀i j,lo<=i->i<=j->j < lo+n->KR rk xs i<=KR rk xs j
noncomputable def Dg(rk:Keyed->Nat)(xs:Array Keyed)(lo n:Nat):Prop:=∀i j,lo<=i->i<=j->j < lo+n->KR rk xs j<=KR rk xs i
structure Bs(κ:SortKind)(st:SortSt)(lo n:Nat)(st':SortSt):Prop where
 perm:(arrOf st').Perm (arrOf st)
 kind:kindOf st'=κ
 failed:failedOf st'=none
 pend:pendingOf st'=pendingOf st
 keep:∀i,i < lo\/lo+n<=i->(arrOf st')[i]?=(arrOf st)[i]?
theorem Bs.size{κ:SortKind}{st st':SortSt}{lo n:Nat}(h:Bs κ st lo n st'):(arrOf st').size=(arrOf st).size:=h.perm.size_eq
theorem Bs.mir{κ:SortKind}{st st':SortSt}{lo n i j:Nat}(h:Bs κ st lo n st')(hj:j<=(arrOf st).size)(h1:lo<=i)(h2:j<=lo+n):Bs κ st lo n (setArr st' (mirror (arrOf st') i j ((j - i) / 2))) :=
 ⟨(mirror_perm _ _ _ _).trans h.perm,h.kind,h.failed,h.pend,λk hk=>by
   show (mirror (arrOf st') i j ((j - i) / 2))[k]?=_
   rw[getElem?_mirror_all (by rw[h.size];exact hj),if_neg (by omega)]
   exact h.keep k hk⟩
section
variable {prog:Program}{w:World}{A:Around}{E:Value->Shared->Prop}{s:Shared}{κ:SortKind}{rk:Keyed->Nat}{S:Keyed->Prop}{st:SortSt}
noncomputable abbrev AllS(S:Keyed->Prop)(xs:Array Keyed):Prop:=∀p,p∈xs.toList->S p
theorem Bs.inS{st':SortSt}{lo n:Nat}(hS:AllS S (arrOf st))(h:Bs κ st lo n st'){i:Nat}(hi:i < (arrOf st').size):S (arrOf st')[i] :=
 hS _ ((G4.mp h.perm).mem_iff.mp (by simp))
theorem w_ltAt(q:Asks prog w A s κ rk S){st':SortSt}{lo n i j:Nat}{Q:Option Bool->SortSt->Prop}(hS:AllS S (arrOf st))(hB:Bs κ st lo n st')(hi:i < (arrOf st).size)(hj:j < (arrOf st).size)
  (h:Q (some (decide (KR rk (arrOf st') i < KR rk (arrOf st') j))) st'):wpS (model prog w) A E s (ltAt' i j) Q st':=by
 have hi':i < (arrOf st').size:=by rw[hB.size];exact hi
 have hj':j < (arrOf st').size:=by rw[hB.size];exact hj
 rw[ltAt'_eq]
 refine wpS_bind (wpS_get ?_)
 refine wpS_bind (w_elem hi' (wpS_bind (w_elem hj' ?_)))
 refine w_lt q hB.kind (hB.inS hS _) (hB.inS hS _) ?_
 rw[KR_at hi',KR_at hj']at h
 exact h
noncomputable def ascL(lo a nrem:Nat):StateT SortSt Sem AscSt :=
 forIn [a:nrem] ((none,a):AscSt) λ_ z=>do
  let some sm<-ltAt' (lo+z.2) (lo+z.2 - 1)|pure (.done (some none,z.2))
  if sm=true then pure (.done (none,z.2)) else pure (.yield (none,z.2+1))
noncomputable def t3L(lo n nrem:Nat):StateT SortSt Sem (Option Nat):=do
 reverseSlice' lo (lo+n)
 let z<-ascL lo n nrem
 match z.1 with
 | some r=>pure r
 | none=>pure (some z.2)
noncomputable def descL(lo n nrem:Nat):StateT SortSt Sem DescSt :=
 forIn [n:nrem] ((none,n,0):DescSt) λ_ z=>do
  let some sm<-ltAt' (lo+z.2.1) (lo+z.2.1 - 1)|pure (.done (some none,z.2.1,z.2.2))
  if sm=true then
   if z.2.2 > 0 then do
    reverseSlice' (lo+z.2.1 - (z.2.2+1)) (lo+z.2.1)
    pure (.yield (none,z.2.1+1,0))
   else pure (.yield (none,z.2.1+1,0))
  else do
   let some la<-ltAt' (lo+z.2.1 - 1) (lo+z.2.1)|pure (.done (some none,z.2.1,z.2.2))
   if la=true then pure (.done (none,z.2.1,z.2.2)) else pure (.yield (none,z.2.1+1,z.2.2+1))
noncomputable def dpL(lo n nrem:Nat):StateT SortSt Sem (Option Nat):=do
 liftM (rule "list.sort.descending-run")
 let z<-descL lo (n+1) nrem
 match z.1 with
 | some r=>pure r
 | none =>
  if z.2.2 > 0 then do
   reverseSlice' (lo+z.2.1 - (z.2.2+1)) (lo+z.2.1)
   t3L lo z.2.1 nrem
  else t3L lo z.2.1 nrem
theorem crL_eq(lo nrem:Nat):countRun' lo nrem=(do
    let z<-ascL lo 1 nrem
    match z.1 with
    | some r=>pure r
    | none =>
      if (z.2==nrem)=true then pure (some z.2)
      else if z.2 > 1 then do
        let some ro<-ltAt' lo (lo+z.2 - 1)|pure none
        if ro=true then pure (some z.2) else do
          reverseSlice' lo (lo+z.2)
          dpL lo z.2 nrem
      else dpL lo z.2 nrem):=by
 have te:∀m,(do
     reverseSlice' lo (lo+m)
     let z<-ascL lo m nrem
     match z.1 with
     | some r=>pure r
     | none=>pure (some z.2))=t3L lo m nrem:=λm=>rfl
 rw[countRun'_eq]
 unfold dpL t3L descL ascL
 refine congr (congrArg bind rfl) (funext λz=>?_)
 obtain⟨r,n⟩:=z
 cases r with
 | some r=>rfl
 | none =>
  dsimp only
  have tl:∀z:AscSt,(match z.1 with|some r=>pure r|none=>pure (some z.2):StateT SortSt Sem (Option Nat))=match z.1 with|some r=>pure r|none=>pure (some z.2):=λz=>rfl
  split
  ·rfl
  ·split
   ·congr 1
    funext x
    cases x with
    | none=>rfl
    | some ro =>
     dsimp only
     split
     ·rfl
     ·congr 1
      funext _
      congr 1
      funext _
      congr 1
      funext z
      obtain⟨r,m,q⟩:=z
      cases r with
      | some r=>rfl
      | none =>
       dsimp only
       split
       ·congr 1;funext _;congr 1;funext _;congr 1;funext z;obtain⟨r,k⟩:=z;cases r<;>rfl
       ·congr 1;funext _;congr 1;funext z;obtain⟨r,k⟩:=z;cases r<;>rfl
   ·congr 1
    funext _
    congr 1
    funext z
    obtain⟨r,m,q⟩:=z
    cases r with
    | some r=>rfl
    | none =>
     dsimp only
     split
     ·congr 1;funext _;congr 1;funext _;congr 1;funext z;obtain⟨r,k⟩:=z;cases r<;>rfl
     ·congr 1;funext _;congr 1;funext z;obtain⟨r,k⟩:=z;cases r<;>rfl
theorem w_rev{i j:Nat}{st':SortSt}{Q:Unit->SortSt->Prop}(h:Q () (setArr st' (mirror (arrOf st') i j ((j - i) / 2)))):wpS (model prog w) A E s (reverseSlice' i j) Q st':=by
 rw[reverseSlice'_eq]
 exact wpS_modify h
theorem w_asc(q:Asks prog w A s κ rk S){st':SortSt}{lo N a nrem:Nat}{Q:AscSt->SortSt->Prop}(hS:AllS S (arrOf st))(hn:lo+nrem<=(arrOf st).size)(ha:1<=a)(han:a<=nrem)(hB:Bs κ st lo N st')(hs:Sg rk (arrOf st') lo a)
  (h:∀n,a<=n->n<=nrem->Sg rk (arrOf st') lo n->(n=nrem\/KR rk (arrOf st') (lo+n) < KR rk (arrOf st') (lo+n - 1))->Q (none,n) st'):wpS (model prog w) A E s (ascL lo a nrem) Q st':=by
 unfold ascL
 refine wpS_forRange (I:=λx c z=>z=st'/\c=(none,x)/\Sg rk (arrOf st') lo x) ?step ?fin ⟨rfl,rfl,hs⟩
 case fin =>
  rintro c z ⟨rfl,rfl,h1⟩
  rw[show max a nrem=nrem by omega]at h1 ⊢
  exact h nrem han (A0 _) h1 (.inl rfl)
 case step =>
  rintro x c z hax hxn ⟨rfl,rfl,h1⟩
  dsimp only
  refine wpS_bind (w_ltAt q hS hB (by omega) (by omega) ?_)
  dsimp only
  by_cases hl:KR rk (arrOf z) (lo+x) < KR rk (arrOf z) (lo+x - 1)
  ·rw[if_pos (by simpa using hl)]
   exact wpS_pure (h x hax (by omega) h1 (.inr hl))
  ·rw[if_neg (by simpa using hl)]
   refine wpS_pure ⟨rfl,rfl,λi j hi hij hj=>?_⟩
   by_cases hjx:j < lo+x
   ·exact h1 i j hi hij hjx
   ·have:j=lo+x:=by omega
    subst this
    by_cases hi':i=lo+x
    ·subst hi';exact A0 _
    ·have:=h1 i (lo+x - 1) hi (by omega) (by omega)
     omega
theorem w_t3(q:Asks prog w A s κ rk S){st':SortSt}{lo n nrem:Nat}{Q:Option Nat->SortSt->Prop}(hS:AllS S (arrOf st))(hn:lo+nrem<=(arrOf st).size)(h1:1<=n)(hnn:n<=nrem)(hB:Bs κ st lo nrem st')(hs:Dg rk (arrOf st') lo n)
  (h:∀m z,Bs κ st lo nrem z->1<=m->m<=nrem->Sg rk (arrOf z) lo m->Q (some m) z):wpS (model prog w) A E s (t3L lo n nrem) Q st':=by
 unfold t3L
 refine wpS_bind (w_rev ?_)
 have hz:lo+n<=(arrOf st').size:=by rw[hB.size];omega
 have hB':=hB.mir (i:=lo) (j:=lo+n) (by omega) (A0 _) (by omega)
 refine wpS_bind (w_asc q hS hn h1 hnn hB' (λi j hi hij hj=>?_) λm m1 m2 hm _=>wpS_pure (h m _ hB' (by omega) m2 hm))
 show KR rk (mirror _ _ _ _) i<=KR rk (mirror _ _ _ _) j
 rw[KR_mirror hz,KR_mirror hz,if_pos (by omega),if_pos (by omega)]
 exact hs _ _ (by omega) (by omega) (by omega)
theorem KR_alike{xs:Array Keyed}{i j:Nat}(hj:j<=xs.size)(he:∀k,i<=k->k < j->KR rk xs k=KR rk xs (j - 1))(k:Nat):KR rk (mirror xs i j ((j - i) / 2)) k=KR rk xs k:=by
 rw[KR_mirror hj]
 split
 ·rw[he _ (by omega) (by omega),he k (by omega) (by omega)]
 ·rfl
theorem w_desc(q:Asks prog w A s κ rk S){st':SortSt}{lo n nrem:Nat}{Q:DescSt->SortSt->Prop}(hS:AllS S (arrOf st))(hn:lo+nrem<=(arrOf st).size)(h1:1<=n)(hnn:n<=nrem)(hB:Bs κ st lo nrem st')(hs:Dg rk (arrOf st') lo n)
  (h:∀m e z,Bs κ st lo nrem z->n<=m->m<=nrem->Dg rk (arrOf z) lo m->e+1<=m->(∀i,lo+m - (e+1)<=i->i < lo+m->KR rk (arrOf z) i=KR rk (arrOf z) (lo+m - 1))->Q (none,m,e) z) :
  wpS (model prog w) A E s (descL lo n nrem) Q st':=by
 unfold descL
 refine wpS_forRange (I:=λx c z=>∃e,c=(none,x,e)/\Bs κ st lo nrem z/\Dg rk (arrOf z) lo x/\e+1<=x/\∀i,lo+x - (e+1)<=i->i < lo+x->KR rk (arrOf z) i=KR rk (arrOf z) (lo+x - 1)) ?step ?fin
  ⟨0,rfl,hB,hs,by omega,λi i1 i2=>by congr 1;omega⟩
 case fin =>
  rintro c z ⟨e,rfl,b,d,e1,e2⟩
  rw[show max n nrem=nrem by omega]at d e1 e2 ⊢
  exact h nrem e z b hnn (A0 _) d e1 e2
 case step =>
  rintro x c z hax hxn ⟨e,rfl,b,d,e1,e2⟩
  dsimp only
  have hz:lo+x<=(arrOf z).size:=by rw[b.size];omega
  refine wpS_bind (w_ltAt q hS b (by omega) (by omega) ?_)
  dsimp only
  by_cases hl:KR rk (arrOf z) (lo+x) < KR rk (arrOf z) (lo+x - 1)
  ·rw[if_pos (by simpa using hl)]
   have st1:∀xs:Array Keyed,(∀k,KR rk xs k=KR rk (arrOf z) k)->Dg rk xs lo (x+1):=λxs hk i j hi hij hj=>by
    rw[hk,hk]
    by_cases hjx:j < lo+x
    ·exact d i j hi hij hjx
    ·have:j=lo+x:=by omega
     subst this
     by_cases hi':i=lo+x
     ·subst hi';exact A0 _
     ·have:=d i (lo+x - 1) hi (by omega) (by omega)
      omega
   by_cases he:e > 0
   ·rw[if_pos he]
    exact wpS_bind (w_rev (wpS_pure ⟨0,rfl,b.mir (by omega) (by omega) (by omega),st1 _ (KR_alike hz e2),by omega,λi i1 i2=>by congr 1;omega⟩))
   ·rw[if_neg he]
    exact wpS_pure ⟨0,rfl,b,st1 _ (λ_=>rfl),by omega,λi i1 i2=>by congr 1;omega⟩
  ·rw[if_neg (by simpa using hl)]
   refine wpS_bind (w_ltAt q hS b (by omega) (by omega) ?_)
   dsimp only
   by_cases hg:KR rk (arrOf z) (lo+x - 1) < KR rk (arrOf z) (lo+x)
   ·rw[if_pos (by simpa using hg)]
    exact wpS_pure (h x e z b hax (by omega) d e1 e2)
   ·rw[if_neg (by simpa using hg)]
    refine wpS_pure ⟨e+1,rfl,b,λi j hi hij hj=>?_,by omega,λi i1 i2=>?_⟩
    ·by_cases hjx:j < lo+x
     ·exact d i j hi hij hjx
     ·have:j=lo+x:=by omega
      subst this
      by_cases hi':i=lo+x
      ·subst hi';exact A0 _
      ·have:=d i (lo+x - 1) hi (by omega) (by omega)
       omega
    ·rw[show lo+(x+1) - 1=lo+x by omega]
     by_cases hix:i=lo+x
     ·subst hix;rfl
     ·have:=e2 i (by omega) (by omega)
      omega
theorem w_dp(q:Asks prog w A s κ rk S){st':SortSt}{lo n nrem:Nat}{Q:Option Nat->SortSt->Prop}(hS:AllS S (arrOf st))(hn:lo+nrem<=(arrOf st).size)(hnn:n+1<=nrem)(hB:Bs κ st lo nrem st')(hs:Dg rk (arrOf st') lo (n+1))
  (h:∀m z,Bs κ st lo nrem z->1<=m->m<=nrem->Sg rk (arrOf z) lo m->Q (some m) z):wpS (model prog w) A E s (dpL lo n nrem) Q st':=by
 unfold dpL
 refine wpS_bind (wpS_lift (wpAny_rule ⟨rfl,?_⟩))
 refine wpS_bind (w_desc q hS hn (by omega) hnn hB hs λm e z b m1 m2 d e1 e2=>?_)
 dsimp only
 have hz:lo+m<=(arrOf z).size:=by rw[b.size];omega
 by_cases he:e > 0
 ·rw[if_pos he]
  refine wpS_bind (w_rev (w_t3 q hS hn (by omega) m2 (b.mir (by omega) (by omega) (by omega)) (λi j hi hij hj=>?_) h))
  show KR rk (mirror _ _ _ _) j<=KR rk (mirror _ _ _ _) i
  rw[KR_alike hz e2,KR_alike hz e2]
  exact d i j hi hij hj
 ·rw[if_neg he]
  exact w_t3 q hS hn (by omega) m2 b d h
theorem w_cr(q:Asks prog w A s κ rk S){lo nrem:Nat}{Q:Option Nat->SortSt->Prop}(hS:AllS S (arrOf st))(hn:lo+nrem<=(arrOf st).size)(h1:1<=nrem)(hB:Bs κ st lo nrem st)
  (h:∀m z,Bs κ st lo nrem z->1<=m->m<=nrem->Sg rk (arrOf z) lo m->Q (some m) z):wpS (model prog w) A E s (countRun' lo nrem) Q st:=by
 rw[crL_eq]
 refine wpS_bind (w_asc q hS hn (A0 1) h1 hB (λi j hi hij hj=>by have:i=j:=(by omega);subst this;exact A0 _) λn n1 n2 sn hor=>?_)
 dsimp only
 by_cases hnn:n=nrem
 ·rw[if_pos (by simpa using hnn)]
  exact wpS_pure (h n st hB n1 n2 sn)
 ·rw[if_neg (by simpa using hnn)]
  have hlt:=hor.resolve_left hnn
  by_cases hgt:n > 1
  ·rw[if_pos hgt]
   refine wpS_bind (w_ltAt q hS hB (by omega) (by omega) ?_)
   dsimp only
   by_cases hr:KR rk (arrOf st) lo < KR rk (arrOf st) (lo+n - 1)
   ·rw[if_pos (by simpa using hr)]
    exact wpS_pure (h n st hB n1 n2 sn)
   ·rw[if_neg (by simpa using hr)]
    have hz:lo+n<=(arrOf st).size:=by omega
    have all:∀k,lo<=k->k < lo+n->KR rk (arrOf st) k=KR rk (arrOf st) (lo+n - 1):=λk k1 k2=>by
     have a1:=sn lo k (by omega) k1 k2
     have a2:=sn k (lo+n - 1) k1 (by omega) (by omega)
     omega
    refine wpS_bind (w_rev (w_dp q hS hn (by omega) (hB.mir (by omega) (by omega) (by omega)) (λi j hi hij hj=>?_) h))
    show KR rk (mirror _ _ _ _) j<=KR rk (mirror _ _ _ _) i
    rw[KR_alike hz all,KR_alike hz all]
    by_cases hjn:j < lo+n
    ·have:=all i hi (by omega)
     have:=all j (by omega) hjn
     omega
    ·have:j=lo+n:=by omega
     subst this
     by_cases hi':i=lo+n
     ·subst hi';exact A0 _
     ·have:=all i hi (by omega)
      omega
  ·rw[if_neg hgt]
   have:n=1:=by omega
   subst this
   refine w_dp q hS hn (by omega) hB (λi j hi hij hj=>?_) h
   by_cases hi':i=j
   ·subst hi';exact A0 _
   ·have e1:i=lo:=by omega
    have e2:j=lo+1:=by omega
    subst e1;subst e2
    exact N4 hlt
theorem w_bins(q:Asks prog w A s κ rk S){st':SortSt}{lo N n ok:Nat}{Q:Bool->SortSt->Prop}(hS:AllS S (arrOf st))(hn:lo+n<=(arrOf st).size)(hnN:n<=N)(hok:ok<=n)(hB:Bs κ st lo N st')(hs:Sg rk (arrOf st') lo ok)
  (h:∀z,Bs κ st lo N z->Sg rk (arrOf z) lo n->Q true z):wpS (model prog w) A E s (binarySort' lo n ok) Q st':=by
 rw[binarySort'_eq]
 refine wpS_bind (wpS_mono (wpS_forRange (I:=λk c z=>c=(none,())/\Bs κ st lo N z/\Sg rk (arrOf z) lo (min k n)) (Q:=λc z=>c=(none,())/\Bs κ st lo N z/\Sg rk (arrOf z) lo n) ?step ?fin ?init) ?post)
 case post =>
  rintro c z ⟨rfl,b,hs'⟩
  exact wpS_pure (h z b hs')
 case init =>
  refine ⟨rfl,hB,λi j hi hij hj=>?_⟩
  by_cases h1:ok=0
  ·have:i=j:=by omega
   subst this;exact A0 _
  ·exact hs i j hi hij (by omega)
 case fin =>
  rintro c z ⟨hc,b,hs'⟩
  refine ⟨hc,b,?_⟩
  rwa [show min (max (max ok 1) n) n=n by omega]at hs'
 case step =>
  rintro k c z hak hkn ⟨rfl,b,hs'⟩
  rw[show min k n=k by omega]at hs'
  refine wpS_bind (wpS_mono (wpS_forRange (I:=λx c z'=>z'=z/\∃l r,c=(none,l,r)/\l<=r/\r<=k/\r - l<=k - x/\(∀i,i < l->KR rk (arrOf z) (lo+i)<=KR rk (arrOf z) (lo+k))/\(∀i,r<=i->i < k->KR rk (arrOf z) (lo+k) < KR rk (arrOf z) (lo+i)))
    (Q:=λc z'=>z'=z/\∃l r,c=(none,l,r)/\l<=k/\(∀i,i < l->KR rk (arrOf z) (lo+i)<=KR rk (arrOf z) (lo+k))/\(∀i,l<=i->i < k->KR rk (arrOf z) (lo+k) < KR rk (arrOf z) (lo+i))) ?istep ?ifin ?iinit) ?ipost)
  case iinit=>exact ⟨rfl,0,k,rfl,by omega,by omega,by omega,λi hi=>by omega,λi h1 h2=>by omega⟩
  case ifin =>
   rintro c z' ⟨rfl,l,r,rfl,hlr,hrk,hm,hlo,hhi⟩
   have:l=r:=by omega
   subst this
   exact ⟨rfl,l,l,rfl,hrk,hlo,hhi⟩
  case istep =>
   rintro x c z' _ hxk ⟨rfl,l,r,rfl,hlr,hrk,hm,hlo,hhi⟩
   dsimp only
   by_cases hge:l ≥ r
   ·rw[if_pos hge]
    have:l=r:=by omega
    subst this
    exact wpS_pure ⟨rfl,l,l,rfl,hrk,hlo,hhi⟩
   ·rw[if_neg hge]
    refine wpS_bind (w_ltAt q hS b (by omega) (by omega) ?_)
    dsimp only
    by_cases hl:KR rk (arrOf z') (lo+k) < KR rk (arrOf z') (lo+(l+r) / 2)
    ·rw[if_pos (by simpa using hl)]
     refine wpS_pure ⟨rfl,l,(l+r) / 2,rfl,by omega,by omega,by omega,hlo,λi h1 h2=>?_⟩
     have:=hs' (lo+(l+r) / 2) (lo+i) (by omega) (by omega) (by omega)
     omega
    ·rw[if_neg (by simpa using hl)]
     refine wpS_pure ⟨rfl,(l+r) / 2+1,r,rfl,by omega,by omega,by omega,λi h1=>?_,hhi⟩
     have:=hs' (lo+i) (lo+(l+r) / 2) (by omega) (by omega) (by omega)
     omega
  case ipost =>
   rintro c z' ⟨rfl,l,r,rfl,hlk,hlo,hhi⟩
   show wpS _ _ _ _ (do moveDown' (lo+k) (lo+l);pure (ForInStep.yield (none,()))) _ _
   rw[moveDown'_eq]
   have hks:lo+k < (arrOf z').size:=by rw[b.size];omega
   refine wpS_bind (wpS_modify (wpS_pure ⟨rfl,⟨(bubble_perm _ _ _).trans b.perm,b.kind,b.failed,b.pend,λi hi=>?_⟩,?_⟩))
   ·show (bubble (arrOf z') _ _)[i]?=_
    rw[getElem?_bubble hks _ (by omega),if_neg (by omega),if_neg (by omega)]
    exact b.keep i hi
   ·rw[show min (k+1) n=k+1 by omega]
    intro i j hi hij hj
    show KR rk (bubble (arrOf z') (lo+k) (lo+k - (lo+l))) i<=KR rk (bubble (arrOf z') (lo+k) (lo+k - (lo+l))) j
    rw[KR_bubble hks (by omega),KR_bubble hks (by omega),show lo+k - (lo+k - (lo+l))=lo+l by omega]
    have hlo':∀i,lo<=i->i < lo+l->KR rk (arrOf z') i<=KR rk (arrOf z') (lo+k):=λi h1 h2=>by
     have:=hlo (i - lo) (by omega)
     rwa [show lo+(i - lo)=i by omega]at this
    have hhi':∀i,lo+l<=i->i < lo+k->KR rk (arrOf z') (lo+k) < KR rk (arrOf z') i:=λi h1 h2=>by
     have:=hhi (i - lo) (by omega) (by omega)
     rwa [show lo+(i - lo)=i by omega]at this
    repeat' split
    all_goals first
     | (exfalso;omega)
     | exact A0 _
     | exact hlo' _ (by omega) (by omega)
     | exact N4 (hhi' _ (by omega) (by omega))
     | exact hs' _ _ (by omega) (by omega) (by omega)
end
noncomputable def wb(xs:Array Keyed)(c:Nat)(m:List Keyed)(n:Nat):Array Keyed:=(m.zipIdx n).foldl (λa pj=>a.setIfInBounds (c+pj.2) pj.1) xs
theorem mAt_eq(i:Nat):mergeAt' i=(do
    let z<-get
    let (some (sa,na,pw),some (sb,nb,_)):=((pendingOf z)[i]?,(pendingOf z)[i+1]?)|unsupported "internal:list.sort.pending"
    set (setPending z (((pendingOf z).setIfInBounds i (sa,na+nb,pw)).eraseIdxIfInBounds (i+1)))
    let some k<-gal false (<- elem' (arrOf z) sb) (arrOf z) sa na 0|return false
    let (sa,na):=(sa+k,na - k)
    if na==0 then return true
    let some nb<-gal true (<- elem' (arrOf z) (sa+na - 1)) (arrOf z) sb nb (nb - 1)|return false
    if nb==0 then return true
    let x:=(arrOf z).extract sa sb
    let y:=(arrOf z).extract sb (sb+nb)
    let r<-if na<=nb then mLo x y else mHi x y
    modify λv=>setArr v (wb (arrOf v) sa r.toList 0)
    return (failedOf (<- get)).isNone):=rfl
theorem wb_get:∀(m:List Keyed) (n c:Nat) (xs:Array Keyed),c+n+m.length<=xs.size->∀k,(wb xs c m n)[k]?=if c+n<=k/\k < c+n+m.length then m[k - (c+n)]? else xs[k]?
 | [],n,c,xs,_,k=>by
  show xs[k]?=_
  rw[if_neg (by simp)]
 | p :: m,n,c,xs,h,k=>by
  have hl:(p :: m).length=m.length+1:=rfl
  show (wb (xs.setIfInBounds (c+n) p) c m (n+1))[k]?=_
  rw[wb_get m (n+1) c _ (by rw[Array.size_setIfInBounds];omega),Array.getElem?_setIfInBounds]
  by_cases h1:c+n=k
  ·subst h1
   rw[if_neg (by omega),if_pos rfl,if_pos (by omega),if_pos (by omega)]
   simp
  ·by_cases h2:c+(n+1)<=k/\k < c+(n+1)+m.length
   ·rw[if_pos h2,if_pos (by omega)]
    have e:k - (c+n)=(k - (c+(n+1)))+1:=by omega
    rw[e,v4]
   ·rw[if_neg h2,if_neg h1,if_neg (by omega)]
theorem wb_list{xs:Array Keyed}{c:Nat}{m:List Keyed}(h:c+m.length<=xs.size):(wb xs c m 0).toList=xs.toList.take c++m++xs.toList.drop (c+m.length):=by
 apply List.ext_getElem?
 intro k
 rw[Z2,wb_get m 0 c xs (by omega)]
 have hl:(xs.toList.take c).length=c:=by rw[U2,M0];omega
 rw[Z1]
 by_cases h1:k < c
 ·rw[if_neg (by omega),T1 (by omega),y7 h1,Z2]
 ·rw[B1 (by omega),hl]
  by_cases h2:k - c < m.length
  ·rw[if_pos (by omega),T1 h2]
   rfl
  ·rw[if_neg (by omega),B1 (by omega),t8,Z2]
   congr 1
   omega
section
variable {prog:Program}{w:World}{A:Around}{E:Value->Shared->Prop}{s:Shared}{κ:SortKind}{rk:Keyed->Nat}{S:Keyed->Prop}{st:SortSt}
theorem ext_at{xs:Array Keyed}{a b i:Nat}(hb:b<=xs.size)(hi:i < (xs.extract a b).size):(xs.extract a b)[i]=xs[a+i]'(by rw[Q5]at hi;omega):=by
 rw[Array.getElem_extract]
theorem ext_pw{xs:Array Keyed}{a b:Nat}(hb:b<=xs.size)(h:∀i j,a<=i->i<=j->j < b->KR rk xs i<=KR rk xs j):(xs.extract a b).toList.Pairwise (leK rk):=by
 rw[J2]
 intro i j hi hj hij
 rw[M0]at hi hj
 rw[P2,P2,ext_at hb,ext_at hb]
 have hz:(xs.extract a b).size=b - a:=by rw[Q5];omega
 have:=h (a+i) (a+j) (by omega) (by omega) (by omega)
 rwa [KR_at (by omega),KR_at (by omega)]at this
structure Mt(κ:SortKind)(rk:Keyed->Nat)(st:SortSt)(i sa na nb pw:Nat)(st':SortSt):Prop where
 perm:(arrOf st').Perm (arrOf st)
 kind:kindOf st'=κ
 failed:failedOf st'=none
 pend:pendingOf st'=((pendingOf st).setIfInBounds i (sa,na+nb,pw)).eraseIdxIfInBounds (i+1)
 keep:∀j,j < sa\/sa+(na+nb)<=j->(arrOf st')[j]?=(arrOf st)[j]?
 sg:Sg rk (arrOf st') sa (na+nb)
theorem w_mAt(q:Asks prog w A s κ rk S){i sa na nb pw pw':Nat}{Q:Bool->SortSt->Prop}(hS:AllS S (arrOf st))(hk:kindOf st=κ)(hF:failedOf st=none)(p1:(pendingOf st)[i]?=some (sa,na,pw))(p2:(pendingOf st)[i+1]?=some (sa+na,nb,pw'))
  (hz:sa+na+nb<=(arrOf st).size) (n1:1<=na) (n2:1<=nb) (s1:Sg rk (arrOf st) sa na) (s2:Sg rk (arrOf st) (sa+na) nb) (h:∀st',Mt κ rk st i sa na nb pw st'->Q true st') :
  wpS (model prog w) A E s (mergeAt' i) Q st:=by
 rw[mAt_eq]
 refine wpS_bind (wpS_get ?_)
 rw[p1,p2]
 dsimp only
 refine wpS_bind (wpS_modify (f:=λ_=>setPending st (((pendingOf st).setIfInBounds i (sa,na+nb,pw)).eraseIdxIfInBounds (i+1))) ?_)
 generalize hst1:setPending st (((pendingOf st).setIfInBounds i (sa,na+nb,pw)).eraseIdxIfInBounds (i+1))=st1
 have hk1:kindOf st1=κ:=by rw[<- hst1];exact hk
 have hF1:failedOf st1=none:=by rw[<- hst1];exact hF
 have hA1:arrOf st1=arrOf st:=by rw[<- hst1]
 have hP1:pendingOf st1=((pendingOf st).setIfInBounds i (sa,na+nb,pw)).eraseIdxIfInBounds (i+1):=by rw[<- hst1]
 have hSi:∀j (hj:j < (arrOf st).size),S (arrOf st)[j]:=λj hj=>hS _ (by simp)
 have s1':∀a b,sa<=a->a<=b->b < sa+na->KR rk (arrOf st) a<=KR rk (arrOf st) b:=s1
 have s2':∀a b,sa+na<=a->a<=b->b < sa+na+nb->KR rk (arrOf st) a<=KR rk (arrOf st) b:=s2
 refine wpS_bind (w_elem (by omega) ?_)
 refine wpS_bind (w_gallop q hk1 (hSi _ _) hSi (by omega) (λa b hb hab h1 h2=>by
   have:=s1' a b h1 hab h2
   rwa [KR_at (by omega),KR_at hb]at this) (by omega) λk kn k1 k2=>?_)
 dsimp only
 have k1':∀a,sa<=a->a < sa+k->KR rk (arrOf st) a<=KR rk (arrOf st) (sa+na):=λa h1 h2=>by
  have:=k1 a (by omega) h1 h2
  rw[if_neg (by decide)]at this
  rwa [KR_at (by omega),KR_at (by omega)]
 have k2':∀a,sa+k<=a->a < sa+na->KR rk (arrOf st) (sa+na) < KR rk (arrOf st) a:=λa h1 h2=>by
  have:=k2 a (by omega) h1 h2
  rw[if_neg (by decide)]at this
  rwa [KR_at (by omega),KR_at (by omega)]
 by_cases h0:na - k=0
 ·rw[if_pos (by simpa using h0)]
  refine wpS_pure (h st1 ⟨by rw[hA1],hk1,hF1,hP1,λj _=>by rw[hA1],λa b h1 h2 h3=>?_⟩)
  rw[hA1]
  by_cases hb:b < sa+na
  ·exact s1' a b h1 h2 hb
  ·by_cases ha:a < sa+na
   ·exact Q1 (k1' a h1 (by omega)) (s2' (sa+na) b (by omega) (by omega) (by omega))
   ·exact s2' a b (by omega) h2 (by omega)
 ·rw[if_neg (by simpa using h0)]
  refine wpS_bind (w_elem (by omega) ?_)
  refine wpS_bind (w_gallop q hk1 (hSi _ _) hSi (by omega) (λa b hb hab h1 h2=>by
    have:=s2' a b h1 hab h2
    rwa [KR_at (by omega),KR_at hb]at this) (by omega) λl ln l1 l2=>?_)
  dsimp only
  have l1':∀a,sa+na<=a->a < sa+na+l->KR rk (arrOf st) a < KR rk (arrOf st) (sa+k+(na - k) - 1):=λa h1 h2=>by
   have:=l1 a (by omega) h1 h2
   rw[if_pos rfl]at this
   rwa [KR_at (by omega),KR_at (by omega)]
  have l2':∀a,sa+na+l<=a->a < sa+na+nb->KR rk (arrOf st) (sa+k+(na - k) - 1)<=KR rk (arrOf st) a:=λa h1 h2=>by
   have:=l2 a (by omega) h1 h2
   rw[if_pos rfl]at this
   rwa [KR_at (by omega),KR_at (by omega)]
  have el:sa+k+(na - k) - 1=sa+na - 1:=by omega
  rw[el]at l1' l2'
  by_cases hl0:l=0
  ·rw[if_pos (by simpa using hl0)]
   refine wpS_pure (h st1 ⟨by rw[hA1],hk1,hF1,hP1,λj _=>by rw[hA1],λa b h1 h2 h3=>?_⟩)
   rw[hA1]
   by_cases hb:b < sa+na
   ·exact s1' a b h1 h2 hb
   ·by_cases ha:a < sa+na
    ·exact Q1 (s1' a (sa+na - 1) h1 (by omega) (by omega)) (l2' b (by omega) (by omega))
    ·exact s2' a b (by omega) h2 (by omega)
  ·rw[if_neg (by simpa using hl0)]
   have hxz:((arrOf st).extract (sa+k) (sa+na)).size=na - k:=by rw[Q5];omega
   have hyz:((arrOf st).extract (sa+na) (sa+na+l)).size=l:=by rw[Q5];omega
   have H:Hy rk S ((arrOf st).extract (sa+k) (sa+na)) ((arrOf st).extract (sa+na) (sa+na+l)):=by
    refine ⟨ext_pw (by omega) λa b h1 h2 h3=>s1' a b (by omega) h2 h3,ext_pw (by omega) λa b h1 h2 h3=>s2' a b h1 h2 (by omega),λj hj=>?_,λj hj=>?_,by omega,by omega,λj hj=>?_,λj hj=>?_⟩
    ·rw[ext_at (by omega)];exact hSi _ _
    ·rw[ext_at (by omega)];exact hSi _ _
    ·rw[ext_at (by omega),ext_at (by omega)]
     have:=l1' (sa+na+j) (by omega) (by omega)
     rw[KR_at (by omega),KR_at (by omega)]at this
     simp only[hxz]
     have e2:sa+k+(na - k - 1)=sa+na - 1:=by omega
     simp only[e2]
     exact N4 this
    ·rw[ext_at (by omega),ext_at (by omega)]
     have:=k2' (sa+k+j) (by omega) (by omega)
     rw[KR_at (by omega),KR_at (by omega)]at this
     simp only[Nat.add_zero]
     exact N4 this
   have go:∀(r:Array Keyed) (st2:SortSt),Gs st1 st2->Po rk ((arrOf st).extract (sa+k) (sa+na)) ((arrOf st).extract (sa+na) (sa+na+l)) r->wpS (model prog w) A E s (do
       modify λv=>setArr v (wb (arrOf v) (sa+k) r.toList 0)
       let v<-get
       pure (failedOf v).isNone) Q st2:=by
    rintro r st2 ⟨g,rfl⟩ ⟨hp,hw⟩
    refine wpS_bind (wpS_modify (wpS_bind (wpS_get ?_)))
    have hlen:r.toList.length=na - k+l:=by rw[hp.length_eq,R0,M0,M0,hxz,hyz]
    have hb:sa+k+r.toList.length<=(arrOf st).size:=by omega
    have eA:arrOf (setArr (setG st1 g) (wb (arrOf (setG st1 g)) (sa+k) r.toList 0))=wb (arrOf st) (sa+k) r.toList 0:=by
     show wb (arrOf st1) _ _ _=_
     rw[hA1]
    have eF:failedOf (setArr (setG st1 g) (wb (arrOf (setG st1 g)) (sa+k) r.toList 0))=none:=hF1
    rw[eF]
    have gt:∀j,(wb (arrOf st) (sa+k) r.toList 0)[j]?=if sa+k<=j/\j < sa+k+r.toList.length then r.toList[j - (sa+k)]? else (arrOf st)[j]?:=λj=>wb_get r.toList 0 (sa+k) (arrOf st) hb j
    have mid:∀j,sa+k<=j->j < sa+na+l->∃n,sa+k<=n/\n < sa+na+l/\KR rk (wb (arrOf st) (sa+k) r.toList 0) j=KR rk (arrOf st) n:=λj j1 j2=>by
     have hj:j - (sa+k) < r.toList.length:=by omega
     have e:KR rk (wb (arrOf st) (sa+k) r.toList 0) j=rk (r.toList[j - (sa+k)]'hj):=by
      unfold KR
      rw[gt,if_pos (by omega),L0 hj]
     have hm:=hp.mem_iff.mp (U3 hj)
     rw[e]
     rcases u3.mp hm with hm|hm
     ·obtain⟨n,hn,en⟩:=Y2 hm
      rw[M0]at hn
      rw[P2,ext_at (by omega)]at en
      refine ⟨sa+k+n,by omega,by omega,?_⟩
      rw[<- en,KR_at (by omega)]
     ·obtain⟨n,hn,en⟩:=Y2 hm
      rw[M0]at hn
      rw[P2,ext_at (by omega)]at en
      refine ⟨sa+na+n,by omega,by omega,?_⟩
      rw[<- en,KR_at (by omega)]
    have out:∀j,j < sa+k\/sa+na+l<=j->(wb (arrOf st) (sa+k) r.toList 0)[j]?=(arrOf st)[j]?:=λj hj=>by rw[gt,if_neg (by omega)]
    refine wpS_pure (h _ ⟨?_,hk1,hF1,hP1,?_,?_⟩)
    ·rw[eA,G4,wb_list hb]
     have e:(arrOf st).toList=(arrOf st).toList.take (sa+k)++(((arrOf st).extract (sa+k) (sa+na)).toList++((arrOf st).extract (sa+na) (sa+na+l)).toList)++(arrOf st).toList.drop (sa+k+r.toList.length):=by
      rw[V3,V3,W2,W2]
      have e1:(arrOf st).toList.drop (sa+na)=((arrOf st).toList.drop (sa+k)).drop (na - k):=by rw[W7];congr 1;omega
      rw[e1,show sa+na - (sa+k)=na - k by omega,show sa+na+l - (sa+na)=l by omega,<- List.take_add,hlen]
      have e2:(arrOf st).toList.drop (sa+k+(na - k+l))=((arrOf st).toList.drop (sa+k)).drop (na - k+l):=by rw[W7]
      rw[e2,Z1,j4,j4]
     conv=>rhs;rw[e]
     exact (hp.append_left _).append_right _
    ·intro j hj
     rw[eA]
     exact out j (by omega)
    ·rw[eA]
     intro a b h1 h2 h3
     have kA:∀a,a < sa+k->KR rk (wb (arrOf st) (sa+k) r.toList 0) a=KR rk (arrOf st) a:=λa ha=>KR_congr (out a (.inl ha))
     have kB:∀a,sa+na+l<=a->KR rk (wb (arrOf st) (sa+k) r.toList 0) a=KR rk (arrOf st) a:=λa ha=>KR_congr (out a (.inr ha))
     by_cases ha:a < sa+k
     ·rw[kA a ha]
      by_cases hb1:b < sa+k
      ·rw[kA b hb1];exact s1' a b h1 h2 (by omega)
      ·by_cases hb2:b < sa+na+l
       ·obtain⟨n,m1,m2,en⟩:=mid b (by omega) hb2
        rw[en]
        by_cases hn:n < sa+na
        ·exact s1' a n h1 (by omega) hn
        ·exact Q1 (k1' a h1 ha) (s2' (sa+na) n (by omega) (by omega) (by omega))
       ·rw[kB b (by omega)]
        exact Q1 (k1' a h1 ha) (s2' (sa+na) b (by omega) (by omega) (by omega))
     ·by_cases ha2:a < sa+na+l
      ·by_cases hb2:b < sa+na+l
       ·have ha':a - (sa+k) < r.toList.length:=by omega
        have hb':b - (sa+k) < r.toList.length:=by omega
        have ea:KR rk (wb (arrOf st) (sa+k) r.toList 0) a=rk (r.toList[a - (sa+k)]'ha'):=by
         unfold KR
         rw[gt,if_pos (by omega),L0 ha']
        have eb:KR rk (wb (arrOf st) (sa+k) r.toList 0) b=rk (r.toList[b - (sa+k)]'hb'):=by
         unfold KR
         rw[gt,if_pos (by omega),L0 hb']
        rw[ea,eb]
        rcases A8 a b with hab|hab
        ·exact J2.mp hw _ _ ha' hb' (by omega)
        ·have:a=b:=by omega
         subst this
         exact A0 _
       ·obtain⟨n,m1,m2,en⟩:=mid a (by omega) ha2
        rw[en,kB b (by omega)]
        by_cases hn:n < sa+na
        ·exact Q1 (s1' n (sa+na - 1) (by omega) (by omega) (by omega)) (l2' b (by omega) (by omega))
        ·exact s2' n b (by omega) (by omega) (by omega)
      ·rw[kB a (by omega),kB b (by omega)]
       exact s2' a b (by omega) h2 (by omega)
   by_cases hle:na - k<=l
   ·simp only[if_pos hle]
    exact wpS_bind (w_mLo q H hk1 λr st2 hg hP=>go r st2 hg hP)
   ·simp only[if_neg hle]
    exact wpS_bind (w_mHi q H hk1 λr st2 hg hP=>go r st2 hg hP)
end
noncomputable def Ch(rk:Keyed->Nat)(xs:Array Keyed):List (Nat×Nat×Nat)->Nat->Nat->Prop
 | [],b,e=>b=e
 | p :: l,b,e=>p.1=b/\1<=p.2.1/\Sg rk xs b p.2.1/\Ch rk xs l (b+p.2.1) e
theorem Ch.len{rk:Keyed->Nat}{xs:Array Keyed}:∀{l:List (Nat×Nat×Nat)}{b e:Nat},Ch rk xs l b e->b+l.length<=e
 | [],b,e,h=>by cases h;simp
 | p :: l,b,e,h=>by
  have:=h.2.2.2.len
  have:=h.2.1
  rw[E3]
  omega
theorem Ch.append{rk:Keyed->Nat}{xs:Array Keyed}:∀{l l':List (Nat×Nat×Nat)}{b e:Nat},Ch rk xs (l++l') b e ↔ ∃m,Ch rk xs l b m/\Ch rk xs l' m e
 | [],l',b,e=>⟨λh=>⟨b,rfl,h⟩,λ⟨m,h1,h2⟩=>by cases h1;exact h2⟩
 | p :: l,l',b,e=>⟨λ⟨h1,h2,h3,h4⟩=>by
     obtain⟨m,h5,h6⟩:=Ch.append.mp h4
     exact ⟨m,⟨h1,h2,h3,h5⟩,h6⟩,λ⟨m,⟨h1,h2,h3,h5⟩,h6⟩=>⟨h1,h2,h3,Ch.append.mpr ⟨m,h5,h6⟩⟩⟩
theorem Ch.congr{rk:Keyed->Nat}{xs ys:Array Keyed}:∀{l:List (Nat×Nat×Nat)}{b e:Nat},(∀i,b<=i->i < e->ys[i]?=xs[i]?)->Ch rk xs l b e->Ch rk ys l b e
 | [],_,_,_,h=>h
 | p :: l,b,e,k,⟨h1,h2,h3,h4⟩=>by
  have:=h4.len
  refine ⟨h1,h2,λi j hi hij hj=>?_,h4.congr λi hi he=>k i (by omega) he⟩
  rw[KR_congr (k i hi (by omega)),KR_congr (k j (by omega) (by omega))]
  exact h3 i j hi hij hj
structure In(κ:SortKind)(rk:Keyed->Nat)(st:SortSt)(lo:Nat)(st':SortSt):Prop where
 perm:(arrOf st').Perm (arrOf st)
 kind:kindOf st'=κ
 failed:failedOf st'=none
 ch:Ch rk (arrOf st') (pendingOf st').toList 0 lo
theorem In.size{κ:SortKind}{rk:Keyed->Nat}{st st':SortSt}{lo:Nat}(h:In κ rk st lo st'):(arrOf st').size=(arrOf st).size:=h.perm.size_eq
section
variable {prog:Program}{w:World}{A:Around}{E:Value->Shared->Prop}{s:Shared}{κ:SortKind}{rk:Keyed->Nat}{S:Keyed->Prop}{st:SortSt}
theorem AllS.perm{xs ys:Array Keyed}(h:AllS S xs)(p:ys.Perm xs):AllS S ys:=λq hq=>h q ((G4.mp p).mem_iff.mp hq)
theorem w_mIn(q:Asks prog w A s κ rk S){i lo:Nat}{st':SortSt}{Q:Bool->SortSt->Prop}(hS:AllS S (arrOf st))(hI:In κ rk st lo st')(hlo:lo<=(arrOf st).size)(hi:i+1 < (pendingOf st').size)
  (h:∀st'',In κ rk st lo st''->(pendingOf st'').size+1=(pendingOf st').size->(∀j,lo<=j->(arrOf st'')[j]?=(arrOf st')[j]?)->Q true st''):wpS (model prog w) A E s (mergeAt' i) Q st':=by
 obtain⟨perm,kind,failed,ch⟩:=hI
 have hl:(pendingOf st').toList.length=(pendingOf st').size:=M0
 obtain⟨pre,p,p',post,e,ep⟩:∃pre p p' post,(pendingOf st').toList=pre++p :: p' :: post/\pre.length=i:=by
  refine ⟨(pendingOf st').toList.take i,(pendingOf st').toList[i]'(by omega),(pendingOf st').toList[i+1]'(by omega),(pendingOf st').toList.drop (i+2),?_,by rw[U2];omega⟩
  have e1:=K3 (l:=(pendingOf st').toList) (i:=i) (by omega)
  have e2:=K3 (l:=(pendingOf st').toList) (i:=i+1) (by omega)
  rw[<- e2,<- e1,j4]
 rw[e]at ch
 obtain⟨m,c1,c2⟩:=Ch.append.mp ch
 obtain⟨sa,na,pw⟩:=p
 obtain⟨sb,nb,pw'⟩:=p'
 obtain⟨f1,f2,f3,g1,g2,g3,c3⟩:=c2
 dsimp only at f1 f2 f3 g1 g2 g3 c3
 subst f1
 subst g1
 have hlen:=c3.len
 have q1:(pendingOf st')[i]?=some (sa,na,pw):=by rw[<- Z2,e,B1 (by omega),ep,Nat.sub_self];rfl
 have q2:(pendingOf st')[i+1]?=some (sa+na,nb,pw'):=by rw[<- Z2,e,B1 (by omega),ep,T4];rfl
 have hz:=perm.size_eq
 refine w_mAt q (hS.perm perm) kind failed q1 q2 (by omega) f2 g2 f3 g3 λst'' M=>?_
 have el:(pendingOf st'').toList=pre++(sa,na+nb,pw) :: post:=by
  rw[M.pend,Array.toList_eraseIdxIfInBounds,Array.toList_setIfInBounds,e,<- ep,List.set_append_right _ _ (A0 _),Nat.sub_self,List.eraseIdx_append_of_length_le (by omega),T4]
  rfl
 refine h st'' ⟨M.perm.trans perm,M.kind,M.failed,?_⟩ ?_ λj hj=>M.keep j (.inr (by omega))
 ·rw[el]
  refine Ch.append.mpr ⟨sa,c1.congr λj _ hj=>M.keep j (.inl hj),rfl,by show 1<=na+nb;omega,M.sg,?_⟩
  show Ch rk _ post (sa+(na+nb)) lo
  rw[<- Nat.add_assoc]
  exact c3.congr λj hj _=>M.keep j (.inr (by omega))
 ·have e1:=congrArg Q3 el
  have e2:=congrArg Q3 e
  rw[M0]at e1 e2
  simp only[R0,E3]at e1 e2
  omega
theorem Ch.modify{xs:Array Keyed}(pw:Nat):∀{l:List (Nat×Nat×Nat)}{i b e:Nat},Ch rk xs l b e->Ch rk xs (l.modify i λx=>(x.1,x.2.1,pw)) b e
 | [],i,_,_,h=>by cases i<;>exact h
 | p :: l,0,_,_,h=>h
 | p :: l,i+1,_,_,⟨h1,h2,h3,h4⟩=>⟨h1,h2,h3,h4.modify pw (i:=i)⟩
theorem In.put{lo n pw:Nat}{z:SortSt}(h:In κ rk st lo z):In κ rk st lo (setPending z ((pendingOf z).modify ((pendingOf z).size - 1) λx=>(x.1,x.2.1,pw))) :=
 ⟨h.perm,h.kind,h.failed,by
   show Ch rk (arrOf z) ((pendingOf z).modify ((pendingOf z).size - 1) λx=>(x.1,x.2.1,pw)).toList 0 lo
   rw[Array.toList_modify]
   exact h.ch.modify pw⟩
theorem In.push{lo n:Nat}{z:SortSt}(h:In κ rk st lo z)(hn:1<=n)(hs:Sg rk (arrOf z) lo n):In κ rk st (lo+n) (setPending z ((pendingOf z).push (lo,n,0))) :=
 ⟨h.perm,h.kind,h.failed,by
   show Ch rk (arrOf z) ((pendingOf z).push (lo,n,0)).toList 0 (lo+n)
   rw[p7]
   exact Ch.append.mpr ⟨lo,h.ch,rfl,hn,hs,rfl⟩⟩
theorem In.run{lo n:Nat}{z z':SortSt}(h:In κ rk st lo z)(b:Bs κ z lo n z'):In κ rk st lo z' :=
 ⟨b.perm.trans h.perm,b.kind,b.failed,by
   rw[b.pend]
   exact h.ch.congr λi _ hi=>b.keep i (.inl hi)⟩
theorem Sg.congr{xs ys:Array Keyed}{lo n:Nat}(h:Sg rk xs lo n)(k:∀j,lo<=j->ys[j]?=xs[j]?):Sg rk ys lo n:=λi j hi hij hj=>by
 rw[KR_congr (k i hi),KR_congr (k j (by omega))]
 exact h i j hi hij hj
theorem w_sort(q:Asks prog w A s κ rk S){Q:Unit->SortSt->Prop}(hS:AllS S (arrOf st))(hk:kindOf st=κ)(hF:failedOf st=none)(hP:pendingOf st=#[])
  (h:∀st',(arrOf st').Perm (arrOf st)->failedOf st'=none->Sg rk (arrOf st') 0 (arrOf st).size->Q () st'):wpS (model prog w) A E s sortRuns' Q st:=by
 rw[sortRuns'_eq]
 refine wpS_bind (wpS_get ?_)
 dsimp only
 have I0:In κ rk st 0 st:=⟨Array.Perm.refl _,hk,hF,by rw[hP];rfl⟩
 refine wpS_bind (wpS_mono (wpS_forRange (I:=λx c z=>∃lo,c=(none,lo)/\In κ rk st lo z/\lo<=(arrOf st).size/\(x<=lo\/lo=(arrOf st).size)) (Q:=λc z=>c=(none,(arrOf st).size)/\In κ rk st (arrOf st).size z) ?step ?fin ⟨0,rfl,I0,S3 _,.inl (A0 _)⟩) ?post)
 case fin =>
  rintro c z ⟨lo,rfl,hI,h1,h2⟩
  have:lo=(arrOf st).size:=by omega
  subst this
  exact ⟨rfl,hI⟩
 case step =>
  rintro x c z _ hx ⟨lo,rfl,hI,h1,h2⟩
  dsimp only
  by_cases hge:lo ≥ (arrOf st).size
  ·rw[if_pos hge]
   have:lo=(arrOf st).size:=by omega
   subst this
   exact wpS_pure ⟨rfl,hI⟩
  ·rw[if_neg hge]
   have hz:=hI.size
   have hS':AllS S (arrOf z):=AllS.perm hS hI.perm
   refine wpS_bind (w_cr q hS' (by omega) (by omega) ⟨Array.Perm.refl _,hI.kind,hI.failed,rfl,λ_ _=>rfl⟩ λn z1 b1 n1 n2 g1=>?_)
   dsimp only
   have rest:∀(n:Nat) (z1:SortSt),In κ rk st lo z1->1<=n->lo+n<=(arrOf st).size->Sg rk (arrOf z1) lo n->∃c,c=n/\In κ rk st lo z1/\Sg rk (arrOf z1) lo c/\1<=c/\lo+c<=(arrOf st).size:=λn z1 a b c d=>⟨n,rfl,a,d,b,c⟩
   by_cases hlt:n < minRun' (arrOf st).size (arrOf st).size 0
   case' pos =>
    rw[if_pos hlt]
    refine wpS_bind (wpS_lift (wpAny_rule ⟨rfl,?_⟩))
    refine wpS_bind (w_bins (N:=(arrOf st).size - lo) q hS' (n:=min ((arrOf st).size - lo) (minRun' (arrOf st).size (arrOf st).size 0)) (by omega) (by omega) (by omega) b1 g1 λz2 b2 g2=>?_)
    simp only[j8,Q2,if_false]
    have hI2:=hI.run b2
    have m1:1<=min ((arrOf st).size - lo) (minRun' (arrOf st).size (arrOf st).size 0):=by omega
    have m2:lo+min ((arrOf st).size - lo) (minRun' (arrOf st).size (arrOf st).size 0)<=(arrOf st).size:=by omega
    clear b2 b1 g1
    generalize min ((arrOf st).size - lo) (minRun' (arrOf st).size (arrOf st).size 0)=m at *
   case' neg =>
    rw[if_neg hlt]
    have hI2:=hI.run b1
    have m1:=n1
    have m2:lo+n<=(arrOf st).size:=by omega
    have g2:=g1
    clear b1 g1 n1 n2 hlt
    generalize n=m at *
    generalize z1=z2 at *
   all_goals
    refine wpS_bind (wpS_get ?_)
    cases hb:(pendingOf z2).back? with
    | none=>exact wpS_bind (wpS_modify (wpS_pure ⟨lo+m,rfl,hI2.push m1 g2,m2,.inl (by omega)⟩))
    | some pb =>
     obtain⟨s1,n1,pv⟩:=pb
     dsimp only
     refine wpS_bind (wpS_mono (wpS_forRange (I:=λ_ c z=>c=(none,())/\In κ rk st lo z/\∀j,lo<=j->(arrOf z)[j]?=(arrOf z2)[j]?) (Q:=λc z=>c=(none,())/\In κ rk st lo z/\∀j,lo<=j->(arrOf z)[j]?=(arrOf z2)[j]?) ?_ (λ_ _ hh=>hh) ⟨rfl,hI2,λ_ _=>rfl⟩) ?_)
     ·rintro y c z _ _ ⟨rfl,hI3,k3⟩
      refine wpS_bind (wpS_get ?_)
      by_cases hp:(pendingOf z).size > 1
      ·rw[if_pos hp]
       cases hq:(pendingOf z)[(pendingOf z).size - 2]? with
       | none=>exact wpS_pure ⟨rfl,hI3,k3⟩
       | some pq =>
        obtain⟨u1,u2,older⟩:=pq
        dsimp only
        split
        ·exact wpS_pure ⟨rfl,hI3,k3⟩
        ·refine wpS_bind (w_mIn q hS hI3 (by omega) (by omega) λz4 hI4 _ k4=>?_)
         simp only[j8,Q2,if_false]
         exact wpS_pure ⟨rfl,hI4,λj hj=>(k4 j hj).trans (k3 j hj)⟩
      ·rw[if_neg hp]
       exact wpS_pure ⟨rfl,hI3,k3⟩
     ·rintro c z ⟨rfl,hI3,k3⟩
      exact wpS_bind (wpS_modify (wpS_bind (wpS_modify (wpS_pure ⟨lo+m,rfl,(hI3.put (n:=0)).push m1 (g2.congr k3),m2,.inl (by omega)⟩))))
 case post =>
  rintro c z ⟨rfl,hI⟩
  dsimp only
  refine wpS_bind (wpS_mono (wpS_forRange (I:=λx c z=>c=(none,())/\In κ rk st (arrOf st).size z/\(pendingOf z).size+x<=(arrOf st).size) (Q:=λc z=>c=(none,())/\In κ rk st (arrOf st).size z/\(pendingOf z).size<=1) ?_ ?_ ⟨rfl,hI,?_⟩) ?_)
  ·rintro x c z _ hx ⟨rfl,hI,hx2⟩
   refine wpS_bind (wpS_get ?_)
   by_cases hp:(pendingOf z).size<=1
   ·rw[if_pos hp]
    exact wpS_pure ⟨rfl,hI,hp⟩
   ·rw[if_neg hp]
    refine wpS_bind (w_mIn q hS hI (A0 _) (by (repeat' split)<;>omega) λz4 hI4 hs4 _=>?_)
    simp only[j8,Q2,if_false]
    exact wpS_pure ⟨rfl,hI4,by omega⟩
  ·rintro c z ⟨rfl,hI,hx2⟩
   exact ⟨rfl,hI,by omega⟩
  ·have:=hI.ch.len
   rw[M0]at this
   omega
  ·rintro c z ⟨rfl,hI,hp⟩
   refine wpS_pure (h z hI.perm hI.failed ?_)
   have hc:=hI.ch
   have hl:(pendingOf z).toList.length<=1:=by rw[M0];exact hp
   match (pendingOf z).toList,hc,hl with
   | [],hc,_ =>
    have:0=(arrOf st).size:=hc
    intro i j _ _ hj
    omega
   | [p],⟨h1,h2,h3,h4⟩,_ =>
    have h4:0+p.2.1=(arrOf st).size:=h4
    rw[y8]at h4
    rw[h4]at h3
    exact h3
end
end SG
namespace L2
open PySem PySem.Spec PyProof.Rows PySem.W
section
variable {prog:Program}{w:World}{A:Around}{E:Value->Shared->Prop}{s:Shared}{κ:SortKind}{vs:List Value}{rk:Value->Nat}
theorem pairs_mem{p:Keyed}(h:p∈(pairsOf vs).toList):p.1=p.2/\p.2∈vs:=by
 have h:p∈(vs.toArray.zip vs.toArray).toList:=h
 rw[Array.toList_zip]at h
 obtain⟨i,hi,e⟩:=Y2 h
 rw[D7]at e
 subst e
 exact ⟨rfl,U3 _⟩
theorem list_sort_rk{a:Addr}{n:Nat}{P:Fin->Shared->Prop}(ho:s.heap.get? a=some (seqObj "list" vs.toArray n))(hz:vs.length<=sizeLine)
  (hk:2<=vs.length->∀s':Shared,(∀b o,b≠a->s.heap.get? b=some o->s'.heap.get? b=some o)->∀Q':SortKind->Shared->Prop,Q' κ s'->wpAny (model prog w) A (keyKind' vs.toArray) Q' E s')
  (hlt:∀s':Shared,(∀b o,b≠a->s.heap.get? b=some o->s'.heap.get? b=some o)->∀x y,x∈vs->y∈vs->∀Q':Bool->Shared->Prop,Q' (decide (rk x < rk y)) s'->wpAny (model prog w) A (keyLt' κ x y) Q' (λ_ _=>False) s')
  (h:∀out:List Value,out.Perm vs->out.Pairwise (λx y=>rk x<=rk y)->P (.done (.ret .none)) { s with heap:=sortedHeap s.heap a vs out.toArray }) :
  wpAny (model prog w) A (Builtin.«list.sort» ⟨[.ref a],[]⟩) P E s:=by
 rw[list_sort_plain]
 have ha:a < s.heap.objs.size:=v0 ho
 refine wpAny_bind (listItems_at ho rfl ?_)
 refine wpAny_bind (listUpdate_at ho rfl ?_)
 obtain⟨e1,ho1⟩:∃e1,(s.heap.update a (P3 λ_=>#[])).get? a=some (seqObj "list" #[] e1):=⟨_,get?_update_seq ho (λ_=>#[])⟩
 refine wpAny_bind (seqEpoch_at ho1 rfl ?_)
 refine wpAny_bind (wpAny_newTuple ?_)
 refine wpAny_bind (wpAny_newList ?_)
 refine wpAny_holding ?_
 have ho6:(((s.heap.update a (P3 λ_=>#[])).push (seqObj "tuple" vs.toArray 0)).push (seqObj "list" #[] 0)).get? a=some (seqObj "list" #[] e1):=by
  rw[X5 _ _ _ (by rw[size_push',E7];exact V0 (u7 ha)),X5 _ _ _ (by rw[E7];exact V0 ha)]
  exact ho1
 have kp:∀b o,b≠a->s.heap.get? b=some o->(((s.heap.update a (P3 λ_=>#[])).push (seqObj "tuple" vs.toArray 0)).push (seqObj "list" #[] 0)).get? b=some o:=λb o hb e=>by
  refine g0 _ (g0 _ ?_)
  rw[i8 _ _ _ _ hb]
  exact e
 show wpAny (model prog w) A _ P E { s with heap:=((s.heap.update a (P3 λ_=>#[])).push (seqObj "tuple" vs.toArray 0)).push (seqObj "list" #[] 0) }
 dsimp only
 have hsz:vs.toArray.size=vs.length:=by simp
 have out0:((pairsOf vs).map (·.2))=vs.toArray:=by
  apply Array.toList_inj.mp
  rw[p6]
  show (vs.toArray.zip vs.toArray).toList.map (·.2)=_
  simp only[Array.toList_zip]
  exact List.map_snd_zip (A0 _)
 by_cases h2:vs.toArray.size < 2
 ·rw[if_pos h2,if_pos h2]
  refine wpAny_bind (wpAny_pure ?_)
  rw[StateT.run_pure]
  refine wpAny_bind (wpAny_pure ?_)
  dsimp only
  refine wpAny_bind (seqEpoch_at ho6 rfl ?_)
  refine wpAny_bind (listUpdate_at ho6 rfl ?_ (hsz2:=by rw[Array.size_map];show (pairsOf vs).size<=_;rw[pairsOf_size];exact Nat.le_succ_of_le hz))
  simp only[bne_self_eq_false,Q2,if_false]
  have h':=h vs (List.Perm.refl _) (by
    match vs,h2 with
    | [],_=>exact .nil
    | [x],_=>exact T5 _ _
    | x :: y :: z,h2=>simp at h2;omega)
  rw[<- out0]at h'
  exact wpAny_pure h'
 ·rw[if_neg h2,if_neg h2]
  have h2':2<=vs.length:=by omega
  refine wpAny_bind (hk h2' _ kp _ ?_)
  have run:=SG.w_sort (prog:=prog) (w:=w) (A:=A) (E:=E) (κ:=κ) (rk:=λp=>rk p.1) (S:=λp=>p.1∈vs) (st:=SortSt.mk' κ (pairsOf vs) #[] 7 none)
   (s:={ s with heap:=((s.heap.update a (P3 λ_=>#[])).push (seqObj "tuple" vs.toArray 0)).push (seqObj "list" #[] 0) })
   (Q:=λ_ st'=>(arrOf st').Perm (pairsOf vs)/\failedOf st'=none/\SG.Sg (λp=>rk p.1) (arrOf st') 0 (pairsOf vs).size)
   (λx y hx hy Q' hQ'=>hlt _ kp _ _ hx hy Q' hQ') (λp hp=>by have:=pairs_mem hp;show p.1∈vs;rw[this.1];exact this.2) rfl rfl rfl λst' p1 p2 p3=>⟨p1,p2,p3⟩
  refine wpAny_bind (wpAny_mono run ?_ λ_ _ e=>e)
  rintro⟨⟨⟩,st'⟩ s' ⟨rfl,hp,hf,hs⟩
  dsimp only at hp hf hs ⊢
  refine wpAny_bind (seqEpoch_at ho6 rfl ?_)
  have hpl:=G4.mp hp
  have eq12:∀p∈(arrOf st').toList,p.1=p.2:=λp h=>(pairs_mem (hpl.mem_iff.mp h)).1
  have hO:((arrOf st').map (·.2)).toList.Perm vs:=by
   rw[p6]
   have e:(pairsOf vs).toList.map (·.2)=vs:=by rw[<- p6,out0]
   have:=hpl.map (·.2)
   rw[e]at this
   exact this
  have hL:((arrOf st').map (·.2)).toList.length=vs.length:=hO.length_eq
  rw[M0]at hL
  refine wpAny_bind (listUpdate_at ho6 rfl ?_ (hsz2:=by rw[hL];exact Nat.le_succ_of_le hz))
  rw[hf]
  simp only[bne_self_eq_false,Q2,if_false]
  refine wpAny_pure ?_
  have:=h ((arrOf st').map (·.2)).toList hO (by
    rw[p6,Y5,J2]
    intro i j hi hj hij
    rw[M0]at hi hj
    have hz2:(arrOf st').size=(pairsOf vs).size:=hp.size_eq
    have:=hs i j (S3 _) (by omega) (by omega)
    rw[SG.KR_at hi,SG.KR_at hj]at this
    rw[P2,P2,<- eq12 _ (by simp),<- eq12 _ (by simp)]
    exact this)
  rw[Array.toArray_toList]at this
  exact this
theorem sorted_rk{l:Addr}{Q:Value->Shared->Prop}(hl:s.heap.IsList l vs.toArray)(hz:vs.length<=sizeLine)
  (hk:2<=vs.length->∀s':Shared,(∀b o,s.heap.get? b=some o->s'.heap.get? b=some o)->∀(E:Value->Shared->Prop) (Q':SortKind->Shared->Prop),Q' κ s'->wpAny (model prog w) A.in1.in1 (keyKind' vs.toArray) Q' E s')
  (hlt:∀s':Shared,(∀b o,s.heap.get? b=some o->s'.heap.get? b=some o)->∀x y,x∈vs->y∈vs->∀Q':Bool->Shared->Prop,Q' (decide (rk x < rk y)) s'->wpAny (model prog w) A.in1.in1 (keyLt' κ x y) Q' (λ_ _=>False) s')
  (h:∀out:List Value,out.Perm vs->out.Pairwise (λx y=>rk x<=rk y)->Q (.ref (s.heap.objs.size+1)) { s with heap:=sortedAll s.heap vs out.toArray }) :
  wpAny (model prog w) A (call (.builtin "sorted") [.ref l]) Q E s:=by
 refine Calls.call_function_entry kind_sorted plain_sorted entry_sorted (args_sorted1 _) ?_
 unfold Builtin.«sorted»
 refine wpAny_bind (m:=checkCount "sorted" 1 1 _) (wpAny_pure ?_)
 refine wpAny_bind (collect_list hl ?_ (hsz:=hz))
 refine wpAny_bind (wpAny_newList ?_ hz)
 have hsz:((s.heap.push (seqObj "list" #[] 0)).update s.heap.objs.size (P3 (·++vs.toArray))).objs.size=s.heap.objs.size+1:=by
  rw[E7,size_push']
 have hoL:(((s.heap.push (seqObj "list" #[] 0)).update s.heap.objs.size (P3 (·++vs.toArray))).push (seqObj "list" vs.toArray 0)).get? (s.heap.objs.size+1)=some (seqObj "list" vs.toArray 0):=by
  rw[<- hsz];exact G0 _ rfl
 have keep:∀b o,s.heap.get? b=some o->b≠s.heap.objs.size+1/\(((s.heap.push (seqObj "list" #[] 0)).update s.heap.objs.size (P3 (·++vs.toArray))).push (seqObj "list" vs.toArray 0)).get? b=some o:=λb o q=>by
  have hlt:b < s.heap.objs.size:=v0 q
  refine ⟨V0 (u7 hlt),?_⟩
  rw[X5 _ _ _ (by rw[hsz];exact V0 (u7 hlt)),i8 _ _ _ _ (V0 hlt),X5 _ _ _ (V0 hlt)]
  exact q
 show wpAny _ _ _ _ _ { s with heap:=((s.heap.push (seqObj "list" #[] 0)).update s.heap.objs.size (P3 (·++vs.toArray))).push (seqObj "list" vs.toArray 0) }
 rw[hsz]
 refine wpAny_bind (wpAny_holding (wpAny_call_entry slot_list_sort ⟨_,hoL,rfl⟩ entry_list_sort (list_sort_rk (κ:=κ) (rk:=rk) hoL hz (λh2 s' k Q' q=>hk h2 s' (λb o e=>k b o (keep b o e).1 (keep b o e).2) _ Q' q)
   (λs' k x y hx hy Q' q=>hlt s' (λb o e=>k b o (keep b o e).1 (keep b o e).2) x y hx hy Q' q) λout o1 o2=>⟨_,rfl,?_⟩) (args_list_sort _)))
 exact wpAny_pure ⟨_,rfl,h out o1 o2⟩
end
end L2
namespace SG
structure Wk{α:Type}(lt:α->α->Bool):Prop where
 irr:∀a,lt a a=false
 tr:∀a b c,lt a b=true->lt b c=true->lt a c=true
 nt:∀a b c,lt a b=false->lt b c=false->lt a c=false
theorem cnt_le{α:Type}{p q:α->Bool}:∀{l:List α},(∀a∈l,p a=true->q a=true)->l.countP p<=l.countP q
 | [],_=>A0 _
 | a :: l,h=>by
  have ih:=cnt_le (l:=l) λx hx=>h x (u0 _ hx)
  rw[t6,t6]
  have:=h a K0
  cases hp:p a
  ·simp;omega
  ·rw[this hp];simp;omega
theorem cnt_lt{α:Type}{p q:α->Bool}:∀{l:List α},(∀a∈l,p a=true->q a=true)->(∃a∈l,p a=false/\q a=true)->l.countP p < l.countP q
 | [],_,⟨_,h,_⟩=>by simp at h
 | a :: l,h,⟨x,hx,h1,h2⟩=>by
  rw[t6,t6]
  rcases Y0.mp hx with rfl|hx
  ·have:=cnt_le (l:=l) λx hx=>h x (u0 _ hx)
   rw[h1,h2]
   simp
   omega
  ·have ih:=cnt_lt (l:=l) (λx hx=>h x (u0 _ hx)) ⟨x,hx,h1,h2⟩
   have:=h a K0
   cases hp:p a
   ·simp;omega
   ·rw[this hp];simp;omega
theorem rank{α:Type}{lt:α->α->Bool}(W:Wk lt){l:List α}{x y:α}(hx:x∈l)(hy:y∈l):decide (l.countP (λa=>lt a x) < l.countP (λa=>lt a y))=lt x y:=by
 cases h:lt x y
 ·rw[decide_eq_false_iff_not,Nat.not_lt]
  refine cnt_le λa _ ha=>?_
  cases h2:lt a x
  ·rw[W.nt a x y h2 h]at ha;cases ha
  ·rfl
 ·rw[decide_eq_true_eq]
  exact cnt_lt (λa _ ha=>W.tr a x y ha h) ⟨x,hx,W.irr x,h⟩
theorem lex_wk:Wk HT.lexLt:=by
 refine ⟨λa=>?_,λa=>?_,λa=>?_⟩
 ·induction a with
  | nil=>rfl
  | cons x a ih=>rw[HT.lexLt_cons,if_pos rfl];exact ih
 ·induction a with
  | nil =>
   intro b c h1 h2
   cases c with
   | nil=>cases b<;>cases h2
   | cons z c=>rfl
  | cons x a ih =>
   intro b c h1 h2
   cases b with
   | nil=>cases h1
   | cons y b =>
    cases c with
    | nil=>cases h2
    | cons z c =>
     rw[HT.lexLt_cons]at h1 h2 ⊢
     by_cases e1:x=y
     ·subst e1
      rw[if_pos rfl]at h1
      by_cases e2:x=z
      ·subst e2
       rw[if_pos rfl]at h2 ⊢
       exact ih b c h1 h2
      ·rw[if_neg e2]at h2 ⊢;exact h2
     ·rw[if_neg e1]at h1
      have h1:=of_decide_eq_true h1
      by_cases e2:y=z
      ·subst e2
       rw[if_neg e1]
       exact decide_eq_true h1
      ·rw[if_neg e2]at h2
       have h2:=of_decide_eq_true h2
       rw[if_neg (by omega)]
       exact decide_eq_true (by omega)
 ·induction a with
  | nil =>
   intro b c h1 h2
   cases b with
   | nil=>exact h2
   | cons y b=>cases h1
  | cons x a ih =>
   intro b c h1 h2
   cases c with
   | nil=>rfl
   | cons z c =>
    cases b with
    | nil=>cases h2
    | cons y b =>
     rw[HT.lexLt_cons]at h1 h2 ⊢
     by_cases e1:x=y
     ·subst e1
      rw[if_pos rfl]at h1
      by_cases e2:x=z
      ·subst e2
       rw[if_pos rfl]at h2 ⊢
       exact ih b c h1 h2
      ·rw[if_neg e2]at h2 ⊢;exact h2
     ·rw[if_neg e1]at h1
      have h1:=of_decide_eq_false h1
      by_cases e2:y=z
      ·subst e2
       rw[if_neg e1]
       exact decide_eq_false h1
      ·rw[if_neg e2]at h2
       have h2:=of_decide_eq_false h2
       rw[if_neg (by omega)]
       exact decide_eq_false (by omega)
theorem lex_eq:∀{a b:List Int},HT.lexLt a b=false->HT.lexLt b a=false->a=b
 | [],[],_,_=>rfl
 | [],_ :: _,h,_=>by cases h
 | _ :: _,[],_,h=>by cases h
 | x :: a,y :: b,h1,h2=>by
  rw[HT.lexLt_cons]at h1 h2
  by_cases e:x=y
  ·subst e
   rw[if_pos rfl]at h1 h2
   rw[lex_eq h1 h2]
  ·rw[if_neg e]at h1
   rw[if_neg (λz=>e z.symm)]at h2
   have h1:=of_decide_eq_false h1
   have h2:=of_decide_eq_false h2
   omega
theorem sorted_uniq{α:Type}{lt:α->α->Bool}(an:∀a b,lt a b=false->lt b a=false->a=b):∀{l m:List α},l.Perm m->l.Pairwise (λa b=>lt b a=false)->m.Pairwise (λa b=>lt b a=false)->l=m
 | [],m,p,_,_=>by rw[List.nil_perm.mp p]
 | x :: l,[],p,_,_=>by simp at p
 | x :: l,y :: m,p,h1,h2=>by
  have e:x=y:=by
   have hx:x∈y :: m:=p.mem_iff.mp K0
   have hy:y∈x :: l:=p.mem_iff.mpr K0
   rcases Y0.mp hx with e|hx
   ·exact e
   ·rcases Y0.mp hy with e|hy
    ·exact e.symm
    ·exact an x y ((S5.mp h2).1 x hx) ((S5.mp h1).1 y hy)
  subst e
  rw[sorted_uniq an (List.perm_cons x |>.mp p) (S5.mp h1).2 (S5.mp h2).2]
end SG
namespace L2
open PySem PySem.Spec PyProof.Rows PySem.W
section
variable {X:Cx}{α:Type}[Inhabited α]
noncomputable def rSortG(K:i0)(Rep:Hp->Addr->α->Prop)(fn:Hp->V->α)(lt:α->α->Bool):List V->Hp->VK->Prop:=λxs H Q=>∃(a:Addr) (us:List V),xs=[.ref a]/\SqL K H a us/\us.length<=sizeLine /\
 (∀v∈us,∃c x,v=.ref c/\Rep H c x)/\∀(p:Addr) (us':List V),H p=none->us'.Perm us->(us'.map (fn H)).Pairwise (λa b=>lt b a=false)->Q (.ref p) (upd H p (.lst us'))
theorem vals_perm{us:List V}{its:List Value}:∀{out:List Value},out.Perm its->Vals us its->∃us':List V,us'.Perm us/\Vals us' out:=by
 intro out p
 induction p generalizing us with
 | nil=>intro h;exact ⟨us,List.Perm.refl _,h⟩
 | cons x _ ih =>
  intro h
  cases h with
  | cons h t =>
   obtain⟨us',p,r⟩:=ih t
   exact ⟨_,p.cons _,.cons h r⟩
 | swap x y l =>
  intro h
  cases h with
  | cons h1 t=>cases t with|cons h2 t=>exact ⟨_,List.Perm.swap _ _ _,.cons h2 (.cons h1 t)⟩
 | trans _ _ ih1 ih2 =>
  intro h
  obtain⟨u2,p2,r2⟩:=ih2 h
  obtain⟨u1,p1,r1⟩:=ih1 r2
  exact ⟨u1,p1.trans p2,r1⟩
end
section
variable {X:Cx}{α:Type}[Inhabited α]{Rep:Hp->Addr->α->Prop}{fn:Hp->V->α}{lt:α->α->Bool}{κ:SortKind}
theorem relV_ref{c:Addr}{u:Value}(h:RelV (.ref c) u):u=.ref c:=h
noncomputable def ofVal(fn:Hp->V->α)(H:Hp):Value->α
 | .ref c=>fn H (.ref c)
 | _=>default
theorem call_sortG(W:SG.Wk lt)(hf:∀H c a,Rep H c a->fn H (.ref c)=a)
  (hkind:∀{pins:List (Addr×Obj)}{s:Shared}{σ:St}{H:Hp},Inv X pins σ H s->∀its:List Value,2<=its.length->(∀u∈its,∃c x,u=.ref c/\Rep H c x)->∀(s':Shared),(∀b o,s.heap.get? b=some o->s'.heap.get? b=some o)->∀(E:Value->Shared->Prop) (Q':SortKind->Shared->Prop),Q' κ s'->wpAny (model X.prog X.w) X.A.in1.in1 (keyKind' its.toArray) Q' E s')
  (hcmp:∀{pins:List (Addr×Obj)}{s:Shared}{σ:St}{H:Hp},Inv X pins σ H s->∀(c d:Addr) (x y:α),Rep H c x->Rep H d y->∀(s':Shared),(∀b o,s.heap.get? b=some o->s'.heap.get? b=some o)->∀Q':Bool->Shared->Prop,Q' (lt x y) s'->wpAny (model X.prog X.w) X.A.in1.in1 (keyLt' κ (.ref c) (.ref d)) Q' (λ_ _=>False) s') :
  CallR X (.builtin "sorted") (rSortG X.K Rep fn lt):=by
 intro pins s σ H xs us Q I r h
 obtain⟨a,vs,rfl,hs,hz,hrep,q⟩:=h
 obtain⟨u,rfl,ru⟩:=vals1 r
 cases ru
 obtain⟨its,rv,⟨o,n,e,c,d1,d2⟩,hz'⟩:=I.list hs
 have hl:=rv.length
 have at':∀u∈its,∃c x,u=.ref c/\Rep H c x:=λu hu=>by
  obtain⟨i,hi,rfl⟩:=Y2 hu
  have hi2:i < vs.length:=by omega
  obtain⟨c,x,hv,hr⟩:=hrep _ (U3 hi2)
  obtain⟨u,hu,ru⟩:=rv.get (L0 hi2)
  rw[hv]at ru
  rw[L0 hi]at hu
  have:its[i]=u:=S1 hu
  rw[this]
  exact ⟨c,x,relV_ref ru,hr⟩
 have key:∀x∈its,∀y∈its,decide ((its.map (ofVal fn H)).countP (λa=>lt a (ofVal fn H x)) < (its.map (ofVal fn H)).countP (λa=>lt a (ofVal fn H y)))=lt (ofVal fn H x) (ofVal fn H y):=λx hx y hy =>
  SG.rank W (Y3 hx) (Y3 hy)
 refine sorted_rk (κ:=κ) (rk:=λv=>(its.map (ofVal fn H)).countP (λa=>lt a (ofVal fn H v))) (vs:=its) ⟨o,e,c,n,by first|exact d2|exact d1⟩ (by omega) (λh2 s' k E' Q' q'=>?_) (λs' k x y hx hy Q' q'=>?_) (λout o1 o2=>?_)
 ·exact hkind I its h2 at' s' k E' Q' q'
 ·rw[key x hx y hy]at q'
  obtain⟨c,x',rfl,hx'⟩:=at' x hx
  obtain⟨d,y',rfl,hy'⟩:=at' y hy
  refine hcmp I c d x' y' hx' hy' s' k Q' ?_
  have e1:ofVal fn H (.ref c)=x':=hf H c x' hx'
  have e2:ofVal fn H (.ref d)=y':=hf H d y' hy'
  rw[e1,e2]at q'
  exact q'
 ·obtain⟨ep,he⟩:=sortedAll_at s.heap its out.toArray
  have hn:H (s.heap.objs.size+1)=none:=I.hok.fresh (J8 _)
  obtain⟨us',p',r'⟩:=vals_perm o1 rv
  refine ⟨.ref (s.heap.objs.size+1),upd H (s.heap.objs.size+1) (.lst us'),I.laid (t':=s.toks) (λb u e=>sortedAll_old e) (J8 _) ?_,rfl,q _ us' hn p' ?_⟩
  ·exact ⟨by rw[p'.length_eq];exact hz,out,ep,r',by rw[he]⟩
  ·rw[Y5,J2]
   intro i j hi hj hij
   have hl':=r'.length
   have o3:=J2.mp o2 i j (by omega) (by omega) hij
   have hxm:out[i]'(by omega)∈its:=o1.mem_iff.mp (U3 _)
   have hym:out[j]'(by omega)∈its:=o1.mem_iff.mp (U3 _)
   have k2:=key _ hym _ hxm
   rw[decide_eq_false (Nat.not_lt.mpr o3)]at k2
   have ev:∀(m:Nat) (hm:m < us'.length),fn H us'[m]=ofVal fn H (out[m]'(by omega)):=λm hm=>by
    obtain⟨c,x,hv,hr⟩:=hrep _ (p'.mem_iff.mp (U3 hm))
    obtain⟨u,hu,ru⟩:=r'.get (L0 hm)
    rw[L0 (by omega)]at hu
    have hu:out[m]'(by omega)=u:=S1 hu
    rw[hv]at ru ⊢
    rw[hu,relV_ref ru]
    rfl
   rw[ev i hi,ev j hj]
   exact k2.symm
end
section
variable {prog:Program}{w:World}{A:Around}{s:Shared}
theorem one_int(b:Bool){n m:Int}{t u:Tok}{Q:Bool->Shared->Prop}{E:Value->Shared->Prop}(h:Q (decide (n < m)) s):wpAny (model prog w) A (oneLt' b (.int n t) (.int m u)) Q E s:=by
 cases b with
 | true=>exact oneLt_int h
 | false=>exact kat_one _ _ (lt_int h)
theorem kat_ints{b:Bool}{Q:Bool->Shared->Prop}:∀{ns ms:List Int}{xs ys:List Value} (i:Nat),IntsAre xs ns->IntsAre ys ms->Q (HT.lexLt ns ms) s->KatLex prog w A b (decide (xs.length < ys.length)) Q (xs.zip ys) i s
 | _,_,_,_,i,.nil,.nil,h=>h
 | _,_,_,_,i,.nil,.cons m u r,h=>h
 | _,_,_,_,i,.cons n t r,.nil,h=>h
 | _,_,_,_,i,.cons (vs:=xs) (ns:=ns) n t r,.cons (vs:=ys) (ns:=ms) m u r',h=>by
  have e:decide ((Q6 n t :: xs).length < (Q6 m u :: ys).length)=decide (xs.length < ys.length):=by simp
  rw[e]
  rw[HT.lexLt_cons]at h
  show KatLex prog w A b _ Q ((Q6 n t,Q6 m u) :: xs.zip ys) i s
  refine kat_cons (SeqAt.EqAt.int_int n t m u _ _ _ _ ?_)
  refine kat_go (λq=>kat_yes ?_) (λq=>kat_no ?_)
  ·rw[if_pos (by simpa using q)]at h
   exact kat_ints (i+1) r r' h
  ·rw[if_neg (by simpa using q)]at h
   exact one_int _ h
end
noncomputable def RepT(H:Hp)(c:Addr)(r:List Int):Prop:=H c=some (.tup (r.map V.int))/\r≠[]
noncomputable def fnT(H:Hp):V->List Int
 | .ref c=>match H c with
  | some (.tup xs)=>xs.map unV
  | _=>[]
 | _=>[]
theorem fnT_of(H:Hp)(c:Addr)(r:List Int)(h:RepT H c r):fnT H (.ref c)=r:=by
 show (match H c with|some (.tup xs)=>xs.map unV|_=>[])=r
 rw[h.1]
 exact unV_ints r
theorem call_sortT{X:Cx}:CallR X (.builtin "sorted") (rSortG X.K RepT fnT HT.lexLt):=by
 refine call_sortG (κ:=tuples' true) SG.lex_wk fnT_of (λ{pins s σ H} I its h2 at' s' k E' Q' q'=>?_) (λ{pins s σ H} I c d x y hx hy s' k Q' q'=>?_)
 ·have gen:∀(l:List Value),(∀v∈l,∃(c:Addr) (r:List Int),v=.ref c/\RepT H c r)->∃fs:List Value,KatTups s'.heap l fs/\fs.length=l.length/\∀v∈fs,Looks (model X.prog X.w) s'.heap (typeOf v) (.type "int"):=by
   intro l
   induction l with
   | nil=>intro _;exact ⟨[],.nil,rfl,λv hv=>by simp at hv⟩
   | cons v l ih =>
    intro hl
    obtain⟨fs,f1,f2,f3⟩:=ih λx hx=>hl x (u0 _ hx)
    obtain⟨c,r,rfl,hc,hr⟩:=hl v K0
    obtain⟨_,itc,rc,ob,e1,e2,m,e3,_⟩:=(show ObjOk X.prog X.w H s.heap c (.tup (r.map V.int)) from I.hok c _ hc)
    cases r with
    | nil=>exact absurd rfl hr
    | cons n r =>
     rw[X1]at rc
     cases rc with
     | cons h1 rc =>
      obtain⟨t,rfl⟩:=h1
      refine ⟨.int n t :: fs,.cons (k _ _ e1) e2 e3 rfl f1,by simp[f2],λv hv=>?_⟩
      rcases Y0.mp hv with rfl|hv
      ·exact Looks.of_pure rfl
      ·exact f3 v hv
  obtain⟨fs,f1,f2,f3⟩:=gen its at'
  exact kat_kind (T:=.type "int") f1 (by omega) f3 (by decide) q'
 ·obtain⟨_,ic,rc,oc,c1,c2,m1,c3,_⟩:=(show ObjOk X.prog X.w H s.heap c (.tup (x.map V.int)) from I.hok c _ hx.1)
  obtain⟨_,id',rd,od,d1,d2,m2,d3,_⟩:=(show ObjOk X.prog X.w H s.heap d (.tup (y.map V.int)) from I.hok d _ hy.1)
  refine kat_lt (k _ _ c1) c3 (k _ _ d1) d3 ?_
  have:=kat_ints (prog:=X.prog) (w:=X.w) (A:=X.A.in1.in1) (s:=s') (b:=true) (Q:=Q') 0 (intsAre_of rc) (intsAre_of rd) q'
  simpa using this
end L2
namespace L3
open PySem PySem.Spec PyProof.Rows L2
noncomputable def fSortT:D->(Sl->Prop)->Prop
 | .list ds,Q=>∃rows:List (List Int),ds=rows.map (λr=>.tuple (r.map j0))/\rows.length<=sizeLine/\(∀r∈rows,r≠[])/\∀rows':List (List Int),rows'.Perm rows->rows'.Pairwise (λa b=>HT.lexLt b a=false)->Q (.ow (.list (rows'.map λr=>.tuple (r.map j0))))
 | _,_=>False
theorem DaAll.mem{K:Fg}{F:Hp}:∀{us:List V}{ds:List D},DaAll K F us ds->∀v∈us,∃d∈ds,Da K F v d
 | _,_,.nil,v,h=>by simp at h
 | _,_,.cons a t,v,h=>by
  rcases Y0.mp h with rfl|h
  ·exact ⟨_,K0,a⟩
  ·obtain⟨d,h1,h2⟩:=DaAll.mem t v h
   exact ⟨d,u0 _ h1,h2⟩
theorem DaAll.map_of{K:Fg}{F:Hp}{f:V->D}:∀{us:List V},(∀v∈us,Da K F v (f v))->DaAll K F us (us.map f)
 | [],_=>.nil
 | v :: us,h=>.cons (h v K0) (DaAll.map_of λx hx=>h x (u0 _ hx))
theorem DaAll.map_eq{K:Fg}{F:Hp}{α:Type}{g:α->D}{f:V->α}(hg:∀v a,Da K F v (g a)->f v=a):∀{us:List V}{as:List α},DaAll K F us (as.map g)->us.map f=as
 | [],[],_=>rfl
 | _ :: _,[],h=>by cases h
 | [],_ :: _,h=>by cases h
 | v :: us,a :: as,h=>by
  cases h with
  | cons h t=>rw[X1,hg v a h,DaAll.map_eq hg t]
theorem da_tup{K:Fg}{F:Hp}{v:V}{r:List Int}(h:Da K F v (.tuple (r.map j0))):∃c,v=.ref c/\F c=some (.tup (r.map V.int)):=by
 cases h with
 | tup h t =>
  have:=t.ints_of
  subst this
  exact ⟨_,rfl,h⟩
theorem ok_sortT{K:Fg}:OpOk K (rSortG K RepT fnT HT.lexLt) (o1 fSortT):=ok1 λG F σ H ρ x d Q Qd R h1 w k=>by
 cases d<;>first|exact w.elim|skip
 case list ds =>
  obtain⟨rows,e,hz,hne,w⟩:=w
  subst e
  obtain⟨a,us,rfl,e1,d1⟩:=h1.list R.sub
  have hl:=d1.length
  rw[n0]at hl
  have hrep:∀v∈us,∃c r,v=.ref c/\RepT F c r/\r∈rows:=λv hv=>by
   obtain⟨d,hd,dv⟩:=d1.mem v hv
   obtain⟨r,hr,rfl⟩:=T0.mp hd
   obtain⟨c,rfl,hc⟩:=da_tup dv
   exact ⟨c,r,rfl,⟨hc,hne r hr⟩,hr⟩
  have hfe:∀v∈us,fnT H v=fnT F v:=λv hv=>by
   obtain⟨c,r,rfl,hc,_⟩:=hrep v hv
   rw[fnT_of F c r hc,fnT_of H c r ⟨R.sub _ _ hc.1,hc.2⟩]
  refine ⟨a,us,rfl,SqL.of e1,by omega,λv hv=>?_,λp us' hp p' o'=>?_⟩
  ·obtain⟨c,r,rfl,hc,_⟩:=hrep v hv
   exact ⟨c,r,rfl,R.sub _ _ hc.1,hc.2⟩
  ·have em:us.map (fnT F)=rows:=by
    refine DaAll.map_eq (K:=K) (F:=F) (g:=λr:List Int=>N1 (r.map j0)) (λv a h=>?_) d1
    obtain⟨c,rfl,hc⟩:=da_tup h
    show (match F c with|some (.tup xs)=>xs.map unV|_=>[])=a
    rw[hc]
    exact unV_ints a
   have ee:us'.map (fnT H)=us'.map (fnT F):=S2 λv hv=>hfe v (p'.mem_iff.mp hv)
   rw[ee]at o'
   have dall:DaAll K F us' ((us'.map (fnT F)).map λr=>N1 (r.map j0)):=by
    rw[P0]
    refine DaAll.map_of λv hv=>?_
    obtain⟨c,r,rfl,hc,_⟩:=hrep v (p'.mem_iff.mp hv)
    show Da K F (.ref c) (.tuple ((fnT F (.ref c)).map j0))
    rw[fnT_of F c r hc]
    exact .tup hc.1 (DaAll.ints r)
   obtain⟨R',r'⟩:=R.newOw (o:=.lst us') (d:=.list _) hp dall
   exact k _ _ F _ (Sub.refl _) R' r' (w _ (by rw[<- em];exact p'.map _) o')
theorem call_sortTK{X:Cx}{K:Fg}(h:X.K=K):CallR X (.builtin "sorted") (rSortG K RepT fnT HT.lexLt):=by subst h;exact call_sortT
end L3
namespace L2
open PySem PySem.Spec PyProof.Rows
noncomputable def rIsiLA(K:i0):List V->Hp->VK->Prop:=λxs H Q=>∃(x:V) (p:Addr),xs=[x,.ref p]/\(∃u,H p=some (.frz tyLT u)) /\
 ((∃a ys,x=.ref a/\SqL K H a ys/\Q (.bl true) H)\/(∃a ys,x=.ref a/\SqT K H a ys/\Q (.bl true) H)\/(((∃i,x=.int i)\/(∃b,x=.bl b)\/∃t,x=.str t)/\Q (.bl false) H))
theorem call_isiLA{X:Cx}:CallR X (.builtin "isinstance") (rIsiLA X.K):=by
 intro pins s σ H xs us Q I r h
 obtain⟨x,p,rfl,⟨u,hp⟩,h⟩:=h
 obtain⟨u1,u2,rfl,r1,r2⟩:=vals2 r
 cases r2
 have hpt:s.heap.get? p=some tyLT:=(show ObjOk X.prog X.w H s.heap p (.frz tyLT u) from I.hok p _ hp).1
 rcases h with⟨a,ys,rfl,hs,q⟩|⟨a,ys,rfl,hs,q⟩|⟨h,q⟩
 ·cases r1
  obtain⟨its,rv,⟨o,n,e,c,d1,d2⟩,hz⟩:=I.list hs
  have ht:s.TypeIs (.ref a) "list":=⟨o,e,c⟩
  exact call_isinstance (isinstance_tuple (Tx:="list") (tp:=p) (cs:=[.type "list",.type "tuple"]) (vs:=[true,false])
    ⟨Answers.of_true (ki_meta .lst) (ki_sub .lst .lst),Answers.of_false_list (ki_ne .lst .tup (by decide)) (ki_meta .tup) (ki_sub .lst .tup),trivial⟩) ⟨ht,hpt,λtk=>⟨.bl true,H,I.tok _,rfl,q⟩⟩
 ·cases r1
  obtain⟨its,_,⟨o,e,c,_⟩,_⟩:=I.tuple hs
  have ht:s.TypeIs (.ref a) "tuple":=⟨o,e,c⟩
  exact call_isinstance (isinstance_tuple (Tx:="tuple") (tp:=p) (cs:=[.type "list",.type "tuple"]) (vs:=[false,true])
    ⟨Answers.of_false_tuple (ki_ne .tup .lst (by decide)) (ki_meta .lst) (ki_sub .tup .lst),Answers.of_true (ki_meta .tup) (ki_sub .tup .tup),trivial⟩) ⟨ht,hpt,λtk=>⟨.bl true,H,I.tok _,rfl,q⟩⟩
 ·rcases h with⟨i,rfl⟩|⟨b,rfl⟩|⟨t,rfl⟩
  ·obtain⟨t,rfl⟩:=r1
   exact call_isinstance (isinstance_tuple (Tx:="int") (tp:=p) (cs:=[.type "list",.type "tuple"]) (vs:=[false,false])
     ⟨Answers.of_false_int (ki_ne .int .lst (by decide)) (ki_meta .lst) (ki_sub .int .lst),Answers.of_false_int (ki_ne .int .tup (by decide)) (ki_meta .tup) (ki_sub .int .tup),trivial⟩) ⟨typeIs_int _ _ _,hpt,λtk=>⟨.bl false,H,I.tok _,rfl,q⟩⟩
  ·cases r1
   exact call_isinstance (isinstance_tuple (Tx:="bool") (tp:=p) (cs:=[.type "list",.type "tuple"]) (vs:=[false,false])
     ⟨Answers.of_false_bool (ki_ne .bl .lst (by decide)) (ki_meta .lst) (ki_sub .bl .lst),Answers.of_false_bool (ki_ne .bl .tup (by decide)) (ki_meta .tup) (ki_sub .bl .tup),trivial⟩) ⟨PySem.typeIs_bool _ _,hpt,λtk=>⟨.bl false,H,I.tok _,rfl,q⟩⟩
  ·obtain⟨t',rfl⟩:=r1
   exact call_isinstance (isinstance_tuple (Tx:="str") (tp:=p) (cs:=[.type "list",.type "tuple"]) (vs:=[false,false])
     ⟨Answers.of_false_str (ki_ne .str .lst (by decide)) (ki_meta .lst) (ki_sub .str .lst),Answers.of_false_str (ki_ne .str .tup (by decide)) (ki_meta .tup) (ki_sub .str .tup),trivial⟩) ⟨PySem.typeIs_str _ _ _,hpt,λtk=>⟨.bl false,H,I.tok _,rfl,q⟩⟩
end L2
namespace L3
open PySem PySem.Spec PyProof.Rows L2
noncomputable def fIsiLA:D->(Sl->Prop)->Prop
 | .list _,Q=>Q (.fz (.bool true))
 | .tuple _,Q=>Q (.fz (.bool true))
 | .int _,Q=>Q (.fz (.bool false))
 | .bool _,Q=>Q (.fz (.bool false))
 | .str _,Q=>Q (.fz (.bool false))
 | _,_=>False
theorem ok_isiLA{K:Fg}:OpOk K (λvs H Q=>∃x,vs=[x]/\∀p,H p=none->rIsiLA K [x,.ref p] (upd H p (.frz tyLT (.tup [.ty "list",.ty "tuple"]))) Q) (o1 fIsiLA):=ok1 λG F σ H ρ x d Q Qd R h1 w k=>by
 have fin:∀(b:Bool) (p:Addr),H p=none->Qd (.fz (.bool b))->Q (.bl b) (upd H p (.frz tyLT (.tup [.ty "list",.ty "tuple"]))):=λb p hp w=>k _ _ F (.fz _) (Sub.refl _) (R.laid hp) (Da.bl _) w
 cases d<;>first|exact w.elim|skip
 case bool b =>
  cases h1.bool
  exact ⟨_,rfl,λp hp=>⟨_,p,rfl,⟨_,upd_same⟩,.inr (.inr ⟨.inr (.inl ⟨_,rfl⟩),fin _ p hp w⟩)⟩⟩
 case int b =>
  cases h1.int
  exact ⟨_,rfl,λp hp=>⟨_,p,rfl,⟨_,upd_same⟩,.inr (.inr ⟨.inl ⟨_,rfl⟩,fin _ p hp w⟩)⟩⟩
 case str b =>
  cases h1.str
  exact ⟨_,rfl,λp hp=>⟨_,p,rfl,⟨_,upd_same⟩,.inr (.inr ⟨.inr (.inr ⟨_,rfl⟩),fin _ p hp w⟩)⟩⟩
 case list ds =>
  obtain⟨a,us,rfl,e1,d1⟩:=h1.list R.sub
  exact ⟨_,rfl,λp hp=>⟨_,p,rfl,⟨_,upd_same⟩,.inl ⟨a,us,rfl,SqL.of (by rw[upd_ne (ne_of_none e1 hp)];exact e1),fin _ p hp w⟩⟩⟩
 case tuple ds =>
  obtain⟨a,us,rfl,_,e1,d1⟩:=h1.tuple R.sub
  exact ⟨_,rfl,λp hp=>⟨_,p,rfl,⟨_,upd_same⟩,.inr (.inl ⟨a,us,rfl,SqT.of (by rw[upd_ne (ne_of_none e1 hp)];exact e1),fin _ p hp w⟩)⟩⟩
section
variable {X:Cx}{K:Fg}{e1:Expr}{a:AD}{p pos p2 p3 p4:Pos}
theorem w_isiLA{k:Nat}(hK:X.K=K)(hm:X.mg "isinstance"=none)(hm1:X.mg "list"=none)(hm2:X.mg "tuple"=none)(ha:WE X e1 (argT K a))(hg:Gl X "isinstance":=by rfl)(hg1:Gl X "list":=by rfl)(hg2:Gl X "tuple":=by rfl)(he:notStar e1=true:=by rfl) :
  WE X (.Call (.Name "isinstance" p) [e1,.Tuple [.Name "list" p2,.Name "tuple" p3] k p4] [] pos) (lift K (dOp [a] (o1 fIsiLA))):=by
 subst hK
 exact ⟨peM (pe_callB call_isiLA hg hm boot_isinstance (pa_cons ha.h (pa_cons (pe_tyT hm1 hm2 hg1 hg2) pa_nil (starEach_of rfl)) (starEach_of he)) (by decide) (by decide) (starEach_of he) (plain_of rfl)) λq=>arg1 (P:=λx H1=>∀p,H1 p=none->rIsiLA X.K [x,.ref p] (upd H1 p (.frz tyLT (.tup [.ty "list",.ty "tuple"]))) _) (l_op ok_isiLA q)⟩
end
end L3
namespace L2
open PySem PySem.Spec PyProof.Rows
noncomputable abbrev mroV:List Value:=[.type "ValueError",.type "Exception",.type "BaseException",.type "object"]
noncomputable abbrev ExcC(K:i0)(C:Addr):Prop:=PySem.W.excIn K C mroV "ValueError.__new__"=true
theorem exc_obj{K:i0}{h:Heap}{C:Addr}(X:K.In h)(q:ExcC K C):∃bm N nm qn bs hd sn sub ab col dd k0 k1 k2 k3 k5 mN,K.lookup C=some (excClassObj nm qn C N bs bm hd sn sub ab col dd k0 k1 k2 k3 k5 "ValueError.__new__")/\h.Ns N mN/\mN "__init__"=none/\OwnTail h mroV bm:=by
 unfold ExcC PySem.W.excIn at q
 split at q
 ·rename_i dd cd sl ho
  split at q
  ·rename_i C' bm k0 k1 k2 k3 i k5 e1 e2
   simp only[O2,beq_iff_eq,Bool.not_eq_true']at q
   obtain⟨⟨⟨⟨⟨z1,z2⟩,z3⟩,z4⟩,z5⟩,z6⟩:=q
   cases cd with
   | mk nm bs mro ns qn hd sn sub ab col del =>
    simp only at e1 z3 z5 z6
    subst e1 z1 z2 z3
    cases sl with
    | mk l =>
     simp only at e2
     subst e2
     exact ⟨bm,ns,nm,qn,bs,hd,sn,sub,ab,col,dd,k0,k1,k2,k3,k5,_,ho,.of_isNs (V6 X z5),J5 X z5 z6,PySem.W.tail_of_in X z4⟩
  ·cases q
 ·cases q
section
variable {P:Program}{w:World}{H:Hp}{h:Heap}{a:Addr}{o:HO}
theorem ObjOk.ob(x:ObjOk P w H h a o):∃u,h.get? a=some u:=by
 cases o with
 | lst xs=>obtain⟨_,_,_,_,e⟩:=x;exact ⟨_,e⟩
 | tup xs=>obtain⟨_,_,_,_,e,_⟩:=x;exact ⟨_,e⟩
 | dK kvs=>obtain⟨_,_,_,_,o,_,_,e,_⟩:=x;exact ⟨_,e⟩
 | dT kvs=>obtain⟨_,_,_,_,o,_,_,e,_⟩:=x;exact ⟨_,e⟩
 | set S n=>obtain⟨o,_,_,_,e,_⟩:=x;exact ⟨_,e⟩
 | ins C dx fs=>obtain⟨_,_,_,e,_⟩:=x;exact ⟨_,e⟩
 | own y=>exact x
 | xd fs=>obtain⟨_,⟨_,_,_,e,_⟩,_⟩:=x;exact ⟨_,e⟩
 | rng lo hi=>obtain⟨_,_,_,e⟩:=x;exact ⟨_,e⟩
 | frz ob u=>obtain⟨e,_⟩:=x;exact ⟨_,e⟩
 | tbl ps=>exact ⟨_,(show h.get? a=some _ from x)⟩
 | met f y=>exact ⟨_,(show h.get? a=some _ from x)⟩
 | ext φ=>exact x.2.1
theorem HOk.gone(x:HOk P w H h)(e:h.get? a=none):H a=none:=by
 cases q:H a with
 | none=>rfl
 | some u=>obtain⟨ob,z⟩:=(x a u q).ob;rw[e]at z;cases z
end
noncomputable def FlewAt(h:Heap)(a T:Addr)(C:Value):Prop:=∃oe vs oT ts a0,h.get? a=some oe/\(oe.cls=C/\vs[0]?=some a0)/\oe.data=.fields vs/\vs[1]?=some (.ref T)/\T≠a/\h.get? T=some oT/\oT.data=.fields ts/\ts[3]?=some .none
noncomputable def CXE(P:Program)(w:World):CXT:=λouter H s E e s'=>∃(a T:Addr) (C:Value) (H':Hp),e=.ref a/\s'.os=s.os/\AllBare s'.gens/\Un (frs outer) [] H H' s.heap s'.heap/\HOk P w H' s'.heap /\
 s.heap.get? a=none/\s.heap.get? T=none/\H' a=none/\H' T=none/\FlewAt s'.heap a T C/\E C none H'
section
variable {X:Cx}{pins:List (Addr×Obj)}{σ:St}{H:Hp}{s:Shared}
theorem leaves_exc(I:Inv X pins σ H s)(hst:X.stack=X.env :: X.outer)(hfr:X.env.frame=some X.env.locals)(hex:X.ex=[]){h3:Heap}{e:Addr}{C:Value}{args:List Value}(hx:Heap.MadeExcOf s.heap h3 e C args)
  {E:XK} (q:E C none H) {M:Model}{E':Value->Shared->Prop}:wpAny M X.A (leaving X.env (.ref e)) (λ_ s2=>CXE X.prog X.w X.outer X.H₀ X.s₀ E (.ref e) s2) E' { s with heap:=h3 }:=by
 have hF:=I.stack
 have nex:∀b,b∉X.ex:=λb z=>by rw[hex]at z;cases z
 have sub:∀b,b∈X.fs->b∈frs X.stack:=λb z=>by rw[hst];unfold frs;rw[B5,hfr];exact u0 _ z
 have hin:∀env∈X.env :: X.outer,∀b,env.frame=some b->b∈frs X.stack:=λenv he b hb=>by rw[hst];exact P5.mpr ⟨env,he,hb⟩
 refine wpAny_leaves_madeW (base:=J6 s.heap (frs X.stack)) (h:=s.heap) (by rw[I.ok.frames,hst]) hfr (λb o z=>T6 _ z) (N7 (hst ▸ hF) hin) hx λh' t fl tup tn up=>?_
 obtain⟨k1,k2,k3,oe,vs,T,oT,ts,g1,g2,g3,g4,g5,g6,g7,g8,g9⟩:=fl
 have kept:∀b o,s.heap.get? b=some o->b∉frs X.stack->h'.get? b=some o:=λb o z nb=>k1 b o (A5 _ z nb)
 have slot:∀b o,s.heap.get? b=some o->b∈frs X.stack->(∃sl,h'.get? b=some { o with slots:=sl })/\∀vs,o.data≠.fields vs:=λb o z hb=>by
  obtain⟨_,o',z',nf⟩:=hF.mem hb
  rw[z]at z'
  cases z'
  exact ⟨up b o (hx.keeps b o z) nf,nf⟩
 have fT:s.heap.get? T=none:=by
  cases z:s.heap.get? T with
  | none=>rfl
  | some o =>
   exfalso
   by_cases hb:T∈frs X.stack
   ·obtain⟨⟨sl,y⟩,nf⟩:=slot T o z hb
    rw[g7]at y
    cases y
    exact nf ts g8
   ·have:=A5 (frs X.stack) z hb
    rw[g5]at this
    cases this
 have old:∀b,s.heap.get? b=none->X.s₀.heap.get? b=none:=λb z=>by
  cases y:X.s₀.heap.get? b with
  | none=>rfl
  | some o =>
   obtain⟨o',y'⟩:=I.base.there b o y (nex b)
   rw[z]at y'
   cases y'
 have neL:∀b o,X.s₀.heap.get? b=some o->b∉X.fs->b∉frs X.stack:=λb o y nb z=>by
  rcases Y0.mp (I.stkSub b z) with z|z
  ·exact V0 (J0 (v0 y) I.ok.above) z
  ·exact nb z
 refine ⟨e,T,C,H,rfl,I.os,I.bare,⟨λb o y n nb _=>?_,λb o y n hb _=>?_,λb o y n _=>I.base.free b o y n (nex b),λb o y _=>?_,I.base.tups,I.base.frzs,I.base.tbls⟩,λb u y=>?_,old e hx.new,old T fT,I.hok.gone hx.new,I.hok.gone fT,⟨oe,vs,oT,ts,_,g1,g2,g3,g4,g6,g7,g8,g9⟩,q⟩
 ·exact kept b o (I.base.keep b o y n nb (nex b)) (neL b o y nb)
 ·obtain⟨sl,y1⟩:=I.base.slot b o y n hb (nex b)
  obtain⟨⟨sl2,y2⟩,_⟩:=slot b _ y1 (sub b hb)
  exact ⟨sl2,y2⟩
 ·obtain⟨o',y1⟩:=I.base.there b o y (nex b)
  by_cases hb:b∈frs X.stack
  ·obtain⟨⟨sl2,y2⟩,_⟩:=slot b _ y1 hb
   exact ⟨_,y2⟩
  ·exact ⟨_,kept b _ y1 hb⟩
 ·refine (I.hok b u y).stay (λc v hc z=>kept c v z λhb=>?_) (λ_ z=>z) λ_ _ z=>z
  have fr:=I.stkFree c hb
  rcases hc with rfl|hc
  ·rw[y]at fr;cases fr
  ·rw[hc]at fr;cases fr
noncomputable def tRaise(C:Addr)(E:XK):TS:=λ_ _ H=>E (.ref C) none H
theorem ps_raise{x t:Str}{C:Addr}{E:XK}{k:Nat}{np cpos pos p2:Pos}(hxe:∀e s',wpAny (model X.prog X.w) X.A (leaving X.env e) (λ_ s2=>CXE X.prog X.w X.outer X.H₀ X.s₀ E e s2) (λe2 s2=>CXE X.prog X.w X.outer X.H₀ X.s₀ E e2 s2) s'->X.xe e s')
  (hst:X.stack=X.env :: X.outer) (hfr:X.env.frame=some X.env.locals) (hex:X.ex=[]) (hc:X.calm=true) (hg:Gl X x) (hm:X.mg x=some (.ref C)) (hC:ExcC X.K C) (hdb:(x==("__debug__":Str))=false:=by decide) :
  PS X (.Raise (some (.Call (.Name x np) [.Constant (.str t) k p2] [] cpos)) none pos) (tRaise C E):=by
 intro pins s σ H D I h
 obtain⟨bm,N,nm,qn,bs,hd,sn,sub,ab,col,dd,k0,k1,k2,k3,k5,mN,g1,g2,g3,g4⟩:=exc_obj I.mod.kin hC
 refine wpAny_Raise_call_subT (C:=C) (N:=N) (nm:=nm) (q:=qn) (bs:=bs) (hdct:=hd) (sn:=sn) (sub:=sub) (ab:=ab) (col:=col) (dd:=dd) (k0:=k0) (k1:=k1) (k2:=k2) (k3:=k3) (k5:=k5) PySem.F.excBase_ValueError (g4.hasType (by decide)) (I.ok.hd hc) rfl g3 (ld_glob I hg hm ⟨rfl,?_⟩ hdb)
 have hA:=(pa_cons (X:=X) (e:=.Constant (.str t) k p2) pe_str pa_nil (L3.starEach_of rfl)) cpos pins s σ H (λxs H2=>xs=[.str t]/\H2=H) I ⟨rfl,rfl⟩
 have hs:starEach [Expr.Constant (.str t) k p2] X.env=[(false,eval (.Constant (.str t) k p2) X.env)]:=L3.starEach_of rfl
 rw[hs]at hA ⊢
 refine Calls.evalArgs_plain (thn hA λus s2 ⟨vs,H2,I2,r2,q2⟩=>?_)
 obtain⟨rfl,rfl⟩:=q2
 obtain⟨u,rfl,_⟩:=vals1 r2
 refine ⟨rfl,by show 1<=sizeLine;decide,I2.kIn _ _ g1,g2.keeps I2.bk,g4.keeps I2.bk,λh' e hm2=>hxe _ _ (leaves_exc I2 hst hfr hex hm2 h)⟩
end
section
variable {M:Model}{A:Around}{E:Value->Shared->Prop}
variable {nm q:Str}{C N:Addr}{bs bm:List Value}{hdct:Bool}{sn:List Str}{sub:List Value}{ab:Bool}{col:Option Bool}{dd:Option Addr}{k0 k1 k2 k3 k5:Option Value}{newId:String}
variable {nm' q':Str}{B N':Addr}{bs' bm':List Value}{hdct':Bool}{sn':List Str}{sub':List Value}{ab':Bool}{col':Option Bool}{dd':Option Addr}{l0 l1 l2 l3 l5:Option Value}{newId':String}
theorem excMatches_ref{h:Heap}{g:Array GenState}{d:Drawn}{t:Nat}{os:OsState}{e:Addr}{oe:Obj}{b:Bool}{Q:Bool->Shared->Prop}
  (hC:h.get? C=some (excClassObj nm q C N bs bm hdct sn sub ab col dd k0 k1 k2 k3 k5 newId)) (hB:h.get? B=some (excClassObj nm' q' B N' bs' bm' hdct' sn' sub' ab' col' dd' l0 l1 l2 l3 l5 newId'))
  (he:h.get? e=some oe) (hcls:oe.cls=.ref C) (hbase:bm'.contains (.type "BaseException")=true) (hb:(Y1 C :: bm).contains (.ref B)=b)
  (hq:Q b ⟨h,g,d,t,os⟩):wpAny M A (excMatches (.ref e) (.ref B)) Q E ⟨h,g,d,t,os⟩:=by
 have hcB:(Y1 B :: bm').contains (.type "BaseException")=true:=by rw[V4,hbase,Bool.or_true]
 have f:=tc_notTuple
 unfold excMatches
 repeat (first|(with_reducible refine wpAny_loadPart_at he ?_;rw[hcls])|with_reducible refine wpAny_loadPart_at hB ?_|(with_reducible refine wpAny_isSubtype_exc hB ?_;rw[hcB])|(with_reducible refine wpAny_isSubtype_exc hC ?_;rw[hb])|wp_step)
 cases b<;>(wp_walk;exact hq)
end
noncomputable def subIn(K:i0)(C B:Addr):Bool:=match K.lookup C with
 | some ⟨_,_,.cls cd,_⟩=>cd.mro.contains (.ref B)
 | _=>false
section
variable {X:Cx}{pins:List (Addr×Obj)}{σ:St}{H H':Hp}{s s':Shared}{a T:Addr}
theorem Inv.back(I:Inv X pins σ H s)(un:Un (frs X.stack) [] H H' s.heap s'.heap)(hok:HOk X.prog X.w H' s'.heap)(bare:AllBare s'.gens)(os:s'.os=s.os)(fa:s.heap.get? a=none)(fT:s.heap.get? T=none)(na:H' a=none)(nT:H' T=none){h5:Heap}
  (k:∀b o,s'.heap.get? b=some o->b≠a->b≠T->b∉frs X.stack->h5.get? b=some o) (up:∀b o,s'.heap.get? b=some o->b∈frs X.stack->∃sl,h5.get? b=some { o with slots:=sl }) :
  Inv X pins σ H' { s' with heap:=h5 }:=by
 have ne:∀{b o},s.heap.get? b=some o->b≠a/\b≠T:=λ{b o} e=>⟨λz=>(by rw[z,fa]at e;cases e),λz=>(by rw[z,fT]at e;cases e)⟩
 have frf:∀b∈frs X.stack,H' b=none:=λb hb=>by
  obtain⟨_,o,e,_⟩:=I.stack.mem hb
  exact un.free b o e (I.stkFree b hb) (by simp)
 refine I.call' (s':={ s' with heap:=h5 }) (ch:=[]) os ⟨λb o e n nb _=>?_,λb o e n hb _=>?_,un.free,λb o e _=>?_,un.tups,un.frzs,un.tbls⟩ (λb u y=>?_) bare (λb z=>(by cases z))
 ·exact k b o (un.keep b o e n nb (by simp)) (ne e).1 (ne e).2 nb
 ·obtain⟨sl,e1⟩:=un.slot b o e n hb (by simp)
  obtain⟨sl2,e2⟩:=up b _ e1 hb
  exact ⟨sl2,e2⟩
 ·obtain⟨o1,e1⟩:=un.there b o e (by simp)
  by_cases hb:b∈frs X.stack
  ·obtain⟨sl2,e2⟩:=up b _ e1 hb
   exact ⟨_,e2⟩
  ·exact ⟨_,k b _ e1 (ne e).1 (ne e).2 hb⟩
 ·have good:∀c v,H' c=some v->c≠a/\c≠T/\c∉frs X.stack:=λc v q=>⟨λz=>(by rw[z,na]at q;cases q),λz=>(by rw[z,nT]at q;cases q),λz=>(by rw[frf c z]at q;cases q)⟩
  refine (hok b u y).stay (λc v hc z=>?_) (λ_ z=>z) λ_ _ z=>z
  obtain⟨g1,g2,g3⟩:c≠a/\c≠T/\c∉frs X.stack:=by
   rcases hc with rfl|hc
   ·exact good c u y
   ·exact good c _ hc
  exact k c v z g1 g2 g3
noncomputable abbrev Cx.mk2(X:Cx)(v:Option Value):Cx:={ X with A:=X.A.mark v,calm:=false,xe:=λ_ _=>False }
theorem Inv.mk2(I:Inv X pins σ H s)(v:Option Value):Inv (X.mk2 v) pins σ H s :=
 ⟨⟨I.ok.mod,I.ok.kind,I.ok.glob,I.ok.blt,I.ok.above,I.ok.inj,I.ok.has,I.ok.cab,λz=>(by cases z),I.ok.frames,I.ok.stk,I.ok.exf,I.ok.bs,I.ok.bsz,I.ok.noex,I.ok.exfs,I.ok.funs,I.ok.frf⟩,I.os,I.bare,I.base,I.loc,I.cell,I.free,I.freeC,I.pin,I.hok,I.len⟩
theorem Inv.un2{v:Option Value}(hd:X.calm=true->X.A.handled=none)(I:Inv (X.mk2 v) pins σ H s):Inv X pins σ H s :=
 ⟨⟨I.ok.mod,I.ok.kind,I.ok.glob,I.ok.blt,I.ok.above,I.ok.inj,I.ok.has,I.ok.cab,hd,I.ok.frames,I.ok.stk,I.ok.exf,I.ok.bs,I.ok.bsz,I.ok.noex,I.ok.exfs,I.ok.funs,I.ok.frf⟩,I.os,I.bare,I.base,I.loc,I.cell,I.free,I.freeC,I.pin,I.hok,I.len⟩
theorem Inv.goes{M:Model}{A:Around}{E:Value->Shared->Prop}{i:Nat}{n:Str}{pos:Pos}{Q:Unit->Shared->Prop}(I:Inv X pins σ H s)(hN:X.N.Nodup)(hi:X.N[i]?=some n)(hl:X.env.kindOf n=some .local)
  (q:∀s',Inv X pins (σ.set i none) H s'->Q () s'):wpAny M A (do bindName X.env n .none;unbindBehindTheSuite X.env n pos) Q E s:=by
 obtain⟨m,hn,hL⟩:=id I.loc
 obtain⟨oL,_,_,hoL,_⟩:=id hn
 have hcls:(X.env.scope.kind==.class||(X.env.scope.kind==.module&&X.env.locals != X.env.globals))=false:=by rw[I.ok.kind];rfl
 refine wpAny_nameGoes_keeps hl hn hcls λh' v hn' hs=>q _ ?_
 have neL:∀b o,X.s₀.heap.get? b=some o->b≠X.env.locals:=λb o e=>V0 (J0 (v0 e) I.ok.above)
 refine ⟨I.ok,I.os,I.bare,⟨λb o e n hb hx=>(hs.2 b (neL b o e)).trans (I.base.keep b o e n hb hx),λb o e n hb hx=>?_,I.base.free,λb o e hx=>?_,I.base.tups,I.base.frzs,I.base.tbls⟩,⟨_,hn',λj y v' e1 e2 e3=>?_⟩,λy c e=>?_,I.free,I.freeC,λp hp=>?_,λb u e=>?_,by simpa using I.len⟩
 ·obtain⟨sl,e1⟩:=I.base.slot b o e n hb hx
  exact ⟨sl,(hs.2 b (neL b o e)).trans e1⟩
 ·obtain⟨o',e1⟩:=I.base.there b o e hx
  exact ⟨o',(hs.2 b (neL b o e)).trans e1⟩
 ·by_cases hj:j=i
  ·subst hj
   rw[d5]at e2
   split at e2
   ·split at e2<;>cases e2
   ·contradiction
  ·rw[S0 (G2 hj)]at e2
   obtain⟨u',r',z⟩:=hL j y v' e1 e2 e3
   refine ⟨u',r',?_⟩
   rcases z with⟨k,e⟩|⟨k,c,e,z⟩
   ·refine .inl ⟨k,?_⟩
    have:y≠n:=λe=>hj (nodup_ix hN e1 (e ▸ hi))
    simp[this,e]
   ·exact .inr ⟨k,c,e,z.sameBut hs (I.cne y c e)⟩
 ·obtain⟨w',z⟩:=I.cell y c e
  exact ⟨w',z.sameBut hs (I.cne y c e)⟩
 ·obtain⟨e,n,ne,nf,d⟩:=I.pin p hp
  exact ⟨(hs.2 p.1 ne).trans e,n,ne,nf,d⟩
 ·refine (I.hok b u e).stay (λc w' hc z=>(hs.2 c ?_).trans z) (λ_ z=>z) λ_ _ z=>z
  rintro rfl
  rcases hc with rfl|hc
  ·rw[I.free]at e;cases e
  ·rw[I.free]at hc;cases hc
theorem Inv.track{o:HO}(I:Inv X pins σ H s)(na:H a=none)(f0:X.s₀.heap.get? a=none)(nl:a≠X.env.locals)(nc:∀x c,X.env.cells.lookup x=some c->c≠a)(np:∀p∈X.pn++pins,p.1≠a)(new:ObjOk X.prog X.w (upd H a o) s.heap a o):Inv X pins σ (upd H a o) s:=by
 have ne:∀{b u},H b=some u->b≠a:=λe=>ne_of_none e na
 refine ⟨I.ok,I.os,I.bare,⟨I.base.keep,I.base.slot,λb u e n hx=>?_,I.base.there,λb xs e=>?_,λb u v e=>?_,λb ps e=>?_⟩,I.loc,I.cell,by rw[upd_ne (G2 nl)];exact I.free,λx c e=>by rw[upd_ne (nc x c e)];exact I.freeC x c e,λp hp=>?_,λb u e=>?_,I.len⟩
 ·rw[upd_ne λz=>(by rw[z,f0]at e;cases e)]
  exact I.base.free b u e n hx
 ·have:=I.base.tups b xs e
  rw[upd_ne (ne this)]
  exact this
 ·have:=I.base.frzs b u v e
  rw[upd_ne (ne this)]
  exact this
 ·obtain⟨more,this⟩:=I.base.tbls b ps e
  exact ⟨more,by rw[upd_ne (ne this)];exact this⟩
 ·obtain⟨e,n,r⟩:=I.pin p hp
  exact ⟨e,by rw[upd_ne (np p hp)];exact n,r⟩
 ·by_cases hb:b=a
  ·subst hb
   rw[upd_same]at e
   cases e
   exact new
  ·rw[upd_ne hb]at e
   exact (I.hok b u e).stay (λ_ _ _ z=>z) (λc z=>by rw[upd_ne (ne z)];exact z) λc xs z=>by rw[upd_ne (ne z)];exact z
theorem sub_of{K:i0}{C B N:Addr}{nm qn:Str}{bs bm:List Value}{hd:Bool}{sn:List Str}{sub:List Value}{ab:Bool}{col:Option Bool}{dd:Option Addr}{k0 k1 k2 k3 k5:Option Value}{i:String}(h:K.lookup C=some (excClassObj nm qn C N bs bm hd sn sub ab col dd k0 k1 k2 k3 k5 i)):(Y1 C :: bm).contains (.ref B)=subIn K C B:=by
 unfold subIn
 rw[h]
theorem caught{n b c:Str}{pb pn pc p3 hpos:Pos}{iE iC:Nat}{B:Addr}{E:XK}{D:Ends}{Eo:Value->Shared->Prop}{e:Value}(I:Inv X pins σ H s)(hst:X.stack=X.env :: X.outer)(hfr:X.env.frame=some X.env.locals)(hex:X.ex=[])(hN:X.N.Nodup)
  (hiE:X.N[iE]?=some n) (hlE:X.env.scope.names.lookup n=some .local) (hiC:X.N[iC]?=some c) (hlC:X.env.scope.names.lookup c=some .local) (hgb:Gl X b) (hmb:X.mg b=some (.ref B)) (hB:ExcC X.K B) (hcx:CXE X.prog X.w X.stack H s E e s')
  (hE:∀Cv o H',E Cv o H'->∃C,Cv=.ref C/\ExcC X.K C/\subIn X.K C B=true/\∀a,H' a=none->D.nx (((σ.set iE (some (.ref a))).set iC (some (.ref a))).set iE none) (upd H' a (excO a C)))
  (hs3:swapsWith (.Name n pn) (some (.Name c pc)) p3.line X.env=pure false:=by rfl) (hdb:(b==("__debug__":Str))=false:=by decide) (hd1:(n==("__debug__":Str))=false:=by decide) (hd2:(n==("__classdict__":Str))=false:=by decide) :
  wpAny (model X.prog X.w) X.A (noteFrame e X.env) (λ_ s2=>wpAny (model X.prog X.w) X.A (setFlight e none) (λ_ s3=>wpAny (model X.prog X.w) X.A (handleBy e X.env [.ExceptHandler (some (.Name b pb)) (some n) [.Assign [.Name c pc] (.Name n pn) p3] hpos]) (SP X pins D) Eo s3) Eo s2) Eo s':=by
 obtain⟨a,T,Cv,H',rfl,os,bare,un,hok,fa,fT,na,nT,⟨oe,vs,oT,ts,a0,g1,g2,g3,g4,g5,g6,g7,g8⟩,hEE⟩:=hcx
 obtain⟨C,rfl,hC,hsub,q⟩:=hE _ _ _ hEE
 have I':Inv X pins σ H' s':=I.call' os un hok bare (ch:=[]) (λb z=>(by cases z))
 have FF:=I'.stack
 have ha:a∈a :: T :: frs X.stack:=K0
 have hT:T∈a :: T :: frs X.stack:=u0 _ K0
 have fly:Heap.FlyingW (J6 s'.heap (a :: T :: frs X.stack)) X.stack a (.ref C) a0 s'.heap :=
  ⟨λb o z=>T6 _ z,D6 _ ha,N7 FF λenv he b hb=>u0 _ (u0 _ (P5.mpr ⟨env,he,hb⟩)),oe,vs,T,oT,ts,g1,g2,g3,g4,D6 _ hT,g5,g6,g7,g8⟩
 have mkI:∀h5:Heap,(J6 s'.heap (a :: T :: frs X.stack)).StaysIn h5->s'.heap.UpToSlots h5->Inv X pins σ H' { s' with heap:=h5 }:=λh5 st up=>by
  refine I.back un hok bare os fa fT na nT (λb o z n1 n2 n3=>st b o (A5 _ z λy=>?_)) λb o z hb=>?_
  ·rcases Y0.mp y with y|y
   ·exact n1 y
   ·rcases Y0.mp y with y|y
    ·exact n2 y
    ·exact n3 y
  ·obtain⟨_,o',z',nf⟩:=FF.mem hb
   rw[z]at z'
   cases z'
   exact up b o z nf
 rw[hst]at fly
 refine wpAny_looks_onW (by rw[I.ok.frames,hst]) hfr fly λh4 held4 up4=>?_
 refine wpAny_landsW held4 λh5 fly5 up5=>?_
 have I5:=mkI h5 (by rw[hst];exact fly5.1) (up4.trans up5)
 obtain⟨ob,hob,hobc⟩:=fly5.there
 refine wpAny_handleBy_cons (codeAny_handlers_test (Calls.Name_function_global I5.ok.kind hgb (Calls.loadGlobal_global (by rw[I5.ok.glob];exact I5.mod.glob.keeps I5.bk) hmb ?_) hdb)) (by intro z;cases z)
 obtain⟨bm,N,nm,qn,bs,hd,sn,sub,ab,col,dd,k0,k1,k2,k3,k5,mN,e1,e2,e3,e4⟩:=exc_obj I5.kIn hC
 obtain⟨bm',N',nm',qn',bs',hd',sn',sub',ab',col',dd',l0,l1,l2,l3,l5,mN',f1,f2,f3,f4⟩:=exc_obj I5.kIn hB
 refine excMatches_ref (I5.kIn _ _ e1) (I5.kIn _ _ f1) hob hobc (f4.hasType (by decide)) ((sub_of e1).trans hsub) ?_
 refine codeAny_handlers_suite_as ?_
 refine lands_againW fly5 λh6 fly6 up6=>?_
 have I6:=mkI h6 (by rw[hst];exact fly6.1) ((up4.trans up5).trans up6)
 have old:X.s₀.heap.get? a=none:=by
  cases y:X.s₀.heap.get? a with
  | none=>rfl
  | some o =>
   obtain⟨o',y'⟩:=I.base.there a o y (by rw[hex];simp)
   rw[fa]at y'
   cases y'
 obtain⟨o6,v6,z1,z2,z3,_⟩:=fly6.first
 have I7:Inv X pins σ (upd H' a (excO a C)) { s' with heap:=h6 }:=by
  refine I6.track na old (λz=>?_) (λx c y z=>?_) (λp hp z=>?_) ⟨⟨o6,v6,z1,z2,z3⟩,⟨o6,z1⟩,λh1 h2 ⟨o,v,y1,y2,y3⟩ k=>⟨o,v,k o y1,y2,y3⟩⟩
  ·obtain⟨m,⟨o,_,_,y,_⟩,_⟩:=I.loc
   rw[<- z,fa]at y
   cases y
  ·obtain⟨v,o,y1,_⟩:=I.cell x c y
   rw[z,fa]at y1
   cases y1
  ·have:=(I.pin p hp).1
   rw[z,fa]at this
   cases this
 refine store_ok I7 hN hiE (.inl hlE) (v:=.ref a) rfl (λs8 I8=>?_) (.inr hlE)
 have hi8:(σ.set iE (some (V.ref a)))[iE]?=some (some (V.ref a)):=Z5 (by rw[I.len];exact (X0.mp hiE).1)
 have P9:=(pss_one (ps_set (X:=X.mk2 (some (.ref a))) (pos:=p3) (pos':=pc) hN hiC (.inl hlC) (pe_var (pos:=pn) hiE (.inl hlE) hd1 hd2) hs3 (.inr hlC))) pins s8 _ _ { nx:=λσ9 H9=>σ9=(σ.set iE (some (V.ref a))).set iC (some (V.ref a))/\H9=upd H' a (excO a C),rt:=λ_ _=>False } (I8.mk2 _) ⟨_,hi8,rfl,rfl⟩
 refine wpAny_mono P9 (λf s9 q9=>?_) (λ_ _ z=>z.elim)
 cases f with
 | next =>
  obtain⟨σ9,H9,I9,rfl,rfl⟩:=q9
  exact (I9.un2 I.ok.hd).goes hN hiE hlE λs10 I10=>⟨_,_,I10,q a na⟩
 | ret v=>obtain⟨_,_,_,_,_,z⟩:=q9;exact z.elim
 | brk=>obtain⟨_,_,_,z⟩:=q9;exact z.elim
 | cont=>obtain⟨_,_,_,z⟩:=q9;exact z.elim
end
noncomputable def qTail(K:i0)(n:Str):List Value->Bool
 | []=>mroV==[]
 | v :: r=>(v :: r)==mroV||match v with
  | .ref A=>(match K.lookup A with
    | some ⟨_,_,.cls cd,_⟩=>PySem.W.nsOkIn K cd.ns&&(B0 K cd.ns n==some none)&&qTail K n r
    | _=>false)
  | _=>false
noncomputable def qIn(K:i0)(C:Addr)(n:Str):Bool:=match K.lookup C with
 | some ⟨_,_,.cls cd,_⟩=>(match cd.mro with
   | _ :: bm=>qTail K n bm&&PySem.W.nsOkIn K cd.ns&&(B0 K cd.ns n==some none)
   | _=>false)
 | _=>false
structure ExcQ(K:i0)(C:Addr):Prop where
 c:ExcC K C
 q1:qIn K C "__getattribute__"=true
 q2:qIn K C "__getattr__"=true
 q3:qIn K C "__class__"=true
section
variable {M:Model}{A:Around}{E:Value->Shared->Prop}{h:Heap}{g:Array GenState}{d:Drawn}{t:Nat}{os:OsState}{K:i0}
theorem along_q{n:Str}{y:Option Value}{Q:Option Value->Shared->Prop}(X:K.In h)(hv:lookupAlong mroV n=pure y)(q:Q y ⟨h,g,d,t,os⟩):∀{l:List Value},qTail K n l=true->wpAny M A (lookupAlong l n) Q E ⟨h,g,d,t,os⟩
 | [],e=>by cases e
 | v :: r,e=>by
  unfold qTail at e
  rcases Bool.or_eq_true_iff.mp e with z|z
  ·rw[beq_iff_eq.mp z,hv]
   exact wpAny_pure q
  ·split at z
   ·split at z
    ·rename_i ho
     simp only[O2,beq_iff_eq]at z
     rw[lookupAlong_cons]
     refine wpAny_bind (wpAny_classOwn_cls (X _ _ ho) (.of_isNs (V6 X z.1.1)) ?_)
     rw[J5 X z.1.1 z.1.2]
     exact along_q X hv q z.2
    ·cases z
   ·cases z
theorem look_q{C:Addr}{n:Str}{y:Option Value}{Q:Option Value->Shared->Prop}(X:K.In h)(hC:ExcC K C)(hq:qIn K C n=true)(hB:typeLookup (.type "ValueError") n=pure y)(q:Q y ⟨h,g,d,t,os⟩) :
  wpAny M A (typeLookup (.ref C) n) Q E ⟨h,g,d,t,os⟩:=by
 have hv:lookupAlong mroV n=pure y:=by rw[typeLookup_eq,PySem.F.excBase_ValueError.mroIs]at hB;exact hB
 obtain⟨bm,N,nm,qn,bs,hd,sn,sub,ab,col,dd,k0,k1,k2,k3,k5,mN,e1,e2,e3,e4⟩:=exc_obj X hC
 unfold qIn at hq
 rw[e1]at hq
 simp only[O2,beq_iff_eq]at hq
 rw[typeLookup_eq]
 refine wpAny_bind (wpAny_mroOf_exc (X _ _ e1) ?_)
 rw[lookupAlong_cons]
 refine wpAny_bind (wpAny_classOwn_cls (X _ _ e1) (.of_isNs (V6 X hq.1.2)) ?_)
 rw[J5 X hq.1.2 hq.2]
 exact along_q X hv q hq.1.1
theorem sub_q{C:Addr}{v:Value}{b:Bool}{Q:Bool->Shared->Prop}(X:K.In h){N:Addr}{nm qn:Str}{bs bm:List Value}{hd:Bool}{sn:List Str}{sub:List Value}{ab:Bool}{col:Option Bool}{dd:Option Addr}{k0 k1 k2 k3 k5:Option Value}{i:String}(e1:K.lookup C=some (excClassObj nm qn C N bs bm hd sn sub ab col dd k0 k1 k2 k3 k5 i))(hb:(Y1 C :: bm).contains v=b)(q:Q b ⟨h,g,d,t,os⟩) :
  wpAny M A (isSubtype (.ref C) v) Q E ⟨h,g,d,t,os⟩:=wpAny_isSubtype_exc (X _ _ e1) (by rw[hb];exact q)
end
theorem lkV_class:typeLookup (.type "ValueError") "__class__"=pure (some (.builtin "object.__class__")):=by rw[typeLookup_type,builtinLookup_eq_fast];kernel_rfl
section
variable {prog:Program}{w:World}{A:Around}{E:Value->Shared->Prop}{h:Heap}{g:Array GenState}{d:Drawn}{t:Nat}{os:OsState}{K:i0}{a C:Addr}{o:Obj}
theorem clsE_get{R:Result->Shared->Prop}(X:K.In h)(hC:ExcQ K C)(hx:h.get? a=some o)(hc:o.cls=.ref C)(q:R (.ok (.ret (.ref C))) ⟨h,g,d,t,os⟩) :
  codeAny (model prog w) A (.call (.builtin "getset_descriptor.__get__") ⟨[.builtin "object.__class__",.ref a,.ref C],[]⟩) R ⟨h,g,d,t,os⟩:=by
 have tq:(⟨h,g,d,t,os⟩:Shared).TypeIs (.builtin "object.__class__") "getset_descriptor":=PySem.F.typeOf_object_class
 obtain⟨bm,N,nm,qn,bs,hd,sn,sub,ab,col,dd,k0,k1,k2,k3,k5,mN,e1,e2,e3,e4⟩:=exc_obj X hC.c
 have cb:(Y1 C :: bm).contains (.type (".".intercalate ("object.__class__".cutAt '.').dropLast))=true:=by rw[PySem.F.owner_object_class,V4,e4.hasType (b:=true) (by decide)];rfl
 refine codeAny_call_builtin PySem.F.slot_gs_get.plain PySem.F.entry_gs_get (PySem.F.slot_gs_get.check _ _ _ _ _ _ _ _ tq (PySem.F.args_gs_get _ _ _) ?_)
 repeat (any_goals (first|assumption|(with_reducible refine wpAny_loadPart_at hx ?_;rw[hc])|(with_reducible refine sub_q X e1 cb ?_)|wp_step))
 refine ⟨Code.quiet_builtin _ (by decide +kernel),codeAny_builtin PySem.F.entry_object_class ?_⟩
 repeat (any_goals (first|assumption|(with_reducible refine wpAny_loadPart_at hx ?_;rw[hc])|wp_step))
theorem clsE_entry{tk:Tok}{Q:Fin->Shared->Prop}(X:K.In h)(hC:ExcQ K C)(hx:h.get? a=some o)(hc:o.cls=.ref C)(q:Q (.done (.ret (.ref C))) ⟨h,g,d,t,os⟩) :
  wpAny (model prog w) A (Builtin.«object.__getattribute__» ⟨[.ref a,.str "__class__" tk],[]⟩) Q E ⟨h,g,d,t,os⟩:=by
 have tq:(⟨h,g,d,t,os⟩:Shared).TypeIs (.builtin "object.__class__") "getset_descriptor":=PySem.F.typeOf_object_class
 have r1:=PySem.F.typeOf_object_class
 have r2:=PySem.F.slot_gs_get.lookup
 have r3:=PySem.F.slot_gs_set.lookup
 repeat (any_goals (first|assumption|(with_reducible refine wpAny_loadPart_at hx ?_;rw[hc])|with_reducible refine look_q X hC.c hC.q3 lkV_class ?_|wp_step))
 refine clsE_get X hC hx hc ?_
 repeat (any_goals (first|assumption|wp_step))
theorem clsE_check{M:Model}{v:Value}{Q:Unit->Shared->Prop}(X:K.In h)(hC:ExcQ K C)(hx:h.get? a=some o)(hc:o.cls=.ref C)(q:Q () ⟨h,g,d,t,os⟩):wpAny M A (checkBuiltinCall "BaseException.__getattribute__" ⟨[.ref a,v],[]⟩) Q E ⟨h,g,d,t,os⟩:=by
 obtain⟨bm,N,nm,qn,bs,hd,sn,sub,ab,col,dd,k0,k1,k2,k3,k5,mN,e1,e2,e3,e4⟩:=exc_obj X hC.c
 have y1:builtinKind "BaseException.__getattribute__"=some .slot:=by decide +kernel
 have y2:splitId "BaseException.__getattribute__"=some ("BaseException","__getattribute__"):=by decide +kernel
 have cb:(Y1 C :: bm).contains (.type "BaseException")=true:=by rw[V4,e4.hasType (b:=true) (by decide)];rfl
 have y3:=PySem.F.args_bexc_ga (.ref a) v
 simp only[checkBuiltinCall,y1,y2]
 refine wpAny_bind ?_
 unfold isInstance
 repeat (first|(with_reducible refine wpAny_loadPart_at hx ?_;rw[hc])|(with_reducible refine sub_q X e1 cb ?_)|wp_step)
 exact q
theorem clsE_by{tk:Tok}{Q:Value->Shared->Prop}{fill:Bool}(X:K.In h)(hC:ExcQ K C)(hx:h.get? a=some o)(hc:o.cls=.ref C)(q:Q (.ref C) ⟨h,g,d,t,os⟩):wpAny (model prog w) A (getAttrBy (.ref a) (.str "__class__" tk) fill) Q E ⟨h,g,d,t,os⟩:=by
 have y1:=PySem.F.attrBase_ValueError.ga.bind (.ref a)
 have y2:(A6 "BaseException.__getattribute__"==A6 "object.__getattribute__")=false:=by decide +kernel
 have y3:(onTheHeap (Y1 C)&&A6 "BaseException.__getattribute__"==A6 "object.__getattribute__")=false:=by rw[y2];rfl
 repeat (any_goals (first|assumption|(with_reducible refine wpAny_loadPart_at hx ?_;rw[hc])|with_reducible refine look_q X hC.c hC.q1 PySem.F.attrBase_ValueError.ga.lookup ?_|with_reducible refine look_q X hC.c hC.q2 PySem.F.attrBase_ValueError.noGetattr ?_|wp_step))
 refine codeAny_call_builtin PySem.F.attrBase_ValueError.ga.plain PySem.F.entry_bexc_ga (clsE_check X hC hx hc (clsE_entry X hC hx hc ?_))
 repeat (any_goals (first|assumption|wp_step))
theorem clsE_attr{Q:Option Value->Shared->Prop}(X:K.In h)(hC:ExcQ K C)(hx:h.get? a=some o)(hc:o.cls=.ref C)(q:Q (some (.ref C)) ⟨h,g,d,t+1,os⟩):wpAny (model prog w) A (getAttr? (.ref a) "__class__") Q E ⟨h,g,d,t,os⟩:=by
 unfold getAttr? getAttrBy?
 repeat (any_goals (first|assumption|with_reducible apply clsE_by X hC hx hc|wp_step))
end
noncomputable def clsIn(K:i0)(D:Addr):Bool:=match K.lookup D with
 | some ⟨.type "type",_,.cls _,_⟩=>true
 | _=>false
theorem cls_obj{K:i0}{D:Addr}(q:clsIn K D=true):∃dd cd sl,K.lookup D=some ⟨.type "type",dd,.cls cd,sl⟩:=by
 unfold clsIn at q
 split at q
 ·rename_i ho
  exact ⟨_,_,_,ho⟩
 ·cases q
theorem type_sub:isSubtype (.type "type") (.type "type")=pure true:=by rw[isSubtype_type];kernel_rfl
theorem typeOf_V:typeOf (.type "ValueError")=pure (.type "type"):=by kernel_rfl
section
variable {prog:Program}{w:World}{A:Around}{E:Value->Shared->Prop}{h:Heap}{g:Array GenState}{d:Drawn}{t:Nat}{os:OsState}{K:i0}{a C D:Addr}{o:Obj}{b:Bool}
theorem nestE{dep:Int}{tk:Tok}{Q:Fin->Shared->Prop}(X:K.In h)(hC:ExcQ K C)(hD:clsIn K D=true)(hb:subIn K C D=b)(hx:h.get? a=some o)(hc:o.cls=.ref C)(q:∀tk',Q (.done (.ret (.bool b))) ⟨h,g,d,tk',os⟩) :
  wpAny (model prog w) A (Builtin.«isinstance.nested» ⟨[.ref a,.ref D,.int dep tk],[]⟩) Q E ⟨h,g,d,t,os⟩:=by
 obtain⟨bm,N,nm,qn,bs,hd,sn,sub,ab,col,dd,k0,k1,k2,k3,k5,mN,e1,e2,e3,e4⟩:=exc_obj X hC.c
 obtain⟨dD,cD,sD,f1⟩:=cls_obj hD
 have cb:(Y1 C :: bm).contains (.ref D)=b:=(sub_of e1).trans hb
 have hD2:=X _ _ f1
 have hC2:=X _ _ e1
 have r1:=type_sub
 by_cases z:C=D
 ·subst z
  have:b=true:=by rw[<- cb,V4];simp
  subst this
  have ee:(Y1 C==Y1 C)=true:=by simp
  have q1:=q t
  repeat (any_goals (first|assumption|(with_reducible refine wpAny_loadPart_at hx ?_;rw[hc])|wp_step))
 ·have ee:(Y1 C==Y1 D)=false:=by simp[z]
  have q1:=q t
  have q2:=q (t+1)
  cases b with
  | true=>repeat (any_goals (first|assumption|(with_reducible refine wpAny_loadPart_at hx ?_;rw[hc])|with_reducible refine wpAny_loadPart_at hD2 ?_|(with_reducible refine sub_q X e1 cb ?_)|wp_step))
  | false=>repeat (any_goals (first|assumption|(with_reducible refine wpAny_loadPart_at hx ?_;rw[hc])|with_reducible refine wpAny_loadPart_at hD2 ?_|(with_reducible refine wpAny_loadPart_at hC2 ?_)|(with_reducible refine sub_q X e1 cb ?_)|with_reducible refine clsE_attr X hC hx hc ?_|wp_step))
end
section
variable {prog:Program}{w:World}{A:Around}{E:Value->Shared->Prop}{h:Heap}{g:Array GenState}{d:Drawn}{t:Nat}{os:OsState}{K:i0}{a C D:Addr}{o:Obj}{b:Bool}
theorem nestV{dep:Int}{tk:Tok}{Q:Fin->Shared->Prop}(X:K.In h)(hC:ExcQ K C)(hx:h.get? a=some o)(hc:o.cls=.ref C)(q:∀tk',Q (.done (.ret (.bool true))) ⟨h,g,d,tk',os⟩) :
  wpAny (model prog w) A (Builtin.«isinstance.nested» ⟨[.ref a,.type "ValueError",.int dep tk],[]⟩) Q E ⟨h,g,d,t,os⟩:=by
 obtain⟨bm,N,nm,qn,bs,hd,sn,sub,ab,col,dd,k0,k1,k2,k3,k5,mN,e1,e2,e3,e4⟩:=exc_obj X hC.c
 have cb:(Y1 C :: bm).contains (.type "ValueError")=true:=by rw[V4,e4.hasType (b:=true) (by decide)];rfl
 have r1:=typeOf_V
 have ee:(Y1 C==o8 "ValueError")=false:=by rfl
 have q1:=q t
 repeat (any_goals (first|assumption|(with_reducible refine wpAny_loadPart_at hx ?_;rw[hc])|(with_reducible refine sub_q X e1 cb ?_)|wp_step))
theorem nestT{tp:Addr}{cs:List Value}{vs:List Bool}{n:Nat}{oT:Obj}{tk:Tok}{P:Shared->Prop}(hP:∀s tk,P s->P { s with toks:=tk }){Q:Fin->Shared->Prop}(hx:h.get? a=some o)(hc:o.cls=.ref C)(ne:C≠tp)
  (hT:h.get? tp=some oT) (hTc:oT.cls=.type "tuple") (hTd:oT.data=.seq cs.toArray n) (ha:AnswersAll P (.ref a) cs vs) (hs:P ⟨h,g,d,t,os⟩) (q:∀tk',Q (.done (.ret (.bool (vs.any id)))) ⟨h,g,d,tk',os⟩) :
  wpAny (model prog w) A (Builtin.«isinstance.nested» ⟨[.ref a,.ref tp,.int 0 tk],[]⟩) Q E ⟨h,g,d,t,os⟩:=by
 have tt:(⟨h,g,d,t,os⟩:Shared).TypeIs (.ref tp) "tuple":=⟨_,hT,hTc⟩
 have r1:=PySem.F.isi_sub_tuple
 have ee:(Y1 C==Y1 tp)=false:=by simp[ne]
 obtain⟨c0,d0,data0,sl0⟩:=oT
 simp only at hTc hTd
 subst hTc hTd
 repeat (any_goals (first|assumption|(with_reducible refine wpAny_loadPart_at hx ?_;rw[hc])|wp_step))
 refine wpAny_arrayLoop ?_
 simp only[o4,List.toList_toArray]
 refine isinstance_items (dep:=0) hP cs vs _ _ ha hs λtk'=>?_
 cases hv:vs.any id with
 | true =>
  rw[if_pos rfl]
  have:=q tk'
  rw[hv]at this
  repeat (any_goals (first|assumption|wp_step))
 | false =>
  rw[if_neg (by decide)]
  have:=q tk'
  rw[hv]at this
  repeat (any_goals (first|assumption|wp_step))
end
noncomputable def rIsiE(K:i0):List V->Hp->VK->Prop:=λxs H Q=>∃a C D:Addr,xs=[.ref a,.ref D]/\H a=some (excO a C)/\ExcQ K C/\clsIn K D=true/\Q (.bl (subIn K C D)) H
noncomputable def rIsiEV(K:i0):List V->Hp->VK->Prop:=λxs H Q=>∃a C:Addr,xs=[.ref a,.ty "ValueError"]/\H a=some (excO a C)/\ExcQ K C/\Q (.bl true) H
noncomputable def rIsiET(K:i0):List V->Hp->VK->Prop:=λxs H Q=>∃(a C p:Addr) (Ds:List Addr),xs=[.ref a,.ref p]/\H a=some (excO a C)/\H p=some (.tup (Ds.map V.ref))/\ExcQ K C/\(∀D∈Ds,clsIn K D=true)/\Q (.bl (Ds.any (subIn K C))) H
section
variable {X:Cx}
theorem exc_at{pins:List (Addr×Obj)}{σ:St}{H:Hp}{s:Shared}{a C:Addr}(I:Inv X pins σ H s)(h:H a=some (excO a C)):∃o,s.heap.get? a=some o/\o.cls=.ref C:=by
 obtain⟨⟨o,vs,e1,e2,_⟩,_⟩:=(show ObjOk X.prog X.w H s.heap a (excO a C) from I.hok a _ h)
 exact ⟨o,e1,e2⟩
theorem call_isiE:CallR X (.builtin "isinstance") (rIsiE X.K):=by
 intro pins s σ H xs us Q I r h
 obtain⟨a,C,D,rfl,hH,hC,hD,q⟩:=h
 obtain⟨u1,u2,rfl,r1,r2⟩:=vals2 r
 cases r1
 cases r2
 obtain⟨o,e1,e2⟩:=exc_at I hH
 obtain⟨h,g,d,t,os⟩:=s
 exact call_isinstance_of (nestE I.kIn hC hD rfl e1 e2 λtk'=>⟨.bl _,H,I.tok tk',rfl,q⟩)
theorem call_isiEV:CallR X (.builtin "isinstance") (rIsiEV X.K):=by
 intro pins s σ H xs us Q I r h
 obtain⟨a,C,rfl,hH,hC,q⟩:=h
 obtain⟨u1,u2,rfl,r1,r2⟩:=vals2 r
 cases r1
 cases r2
 obtain⟨o,e1,e2⟩:=exc_at I hH
 obtain⟨h,g,d,t,os⟩:=s
 exact call_isinstance_of (nestV I.kIn hC e1 e2 λtk'=>⟨.bl _,H,I.tok tk',rfl,q⟩)
theorem refs_of:∀{Ds:List Addr}{us:List Value},Vals (Ds.map V.ref) us->us=Ds.map Y1
 | [],_,r=>by cases r;rfl
 | D :: Ds,_,r=>by
  cases r with
  | cons r1 r2=>cases r1;rw[refs_of r2];rfl
theorem ans_all{K:i0}{a C:Addr}{o:Obj}(hC:ExcQ K C)(hc:o.cls=.ref C):∀{Ds:List Addr},(∀D∈Ds,clsIn K D=true)->AnswersAll (λs=>K.In s.heap/\s.heap.get? a=some o) (.ref a) (Ds.map Y1) (Ds.map (subIn K C))
 | [],_=>trivial
 | D :: Ds,h=>by
  refine ⟨λ_ _ _ _ _ _ s hs=>?_,ans_all hC hc λD hD=>h D (u0 _ hD)⟩
  obtain⟨hh,g,d,t,os⟩:=s
  exact nestE hs.1.1 hC (h D K0) rfl hs.1.2 hc λtk'=>hs.2 tk'
theorem call_isiET:CallR X (.builtin "isinstance") (rIsiET X.K):=by
 intro pins s σ H xs us Q I r h
 obtain⟨a,C,p,Ds,rfl,hH,hp,hC,hD,q⟩:=h
 obtain⟨u1,u2,rfl,r1,r2⟩:=vals2 r
 cases r1
 cases r2
 obtain⟨o,e1,e2⟩:=exc_at I hH
 obtain⟨_,its,rv,oT,f1,f2,n,f3,_⟩:=(show ObjOk X.prog X.w H s.heap p (.tup (Ds.map V.ref)) from I.hok p _ hp)
 have:=refs_of rv
 subst this
 have ne:C≠p:=λz=>by
  obtain⟨bm,N,nm,qn,bs,hd,sn,sub,ab,col,dd,k0,k1,k2,k3,k5,mN,g1,_⟩:=exc_obj I.kIn hC.c
  have:=I.kIn _ _ g1
  rw[z,f1]at this
  cases this
  exact absurd (Value.type.inj f2) (by decide)
 have hv:(Ds.map (subIn X.K C)).any id=Ds.any (subIn X.K C):=by rw[List.any_map];rfl
 obtain⟨h,g,d,t,os⟩:=s
 refine call_isinstance_of (nestT (vs:=Ds.map (subIn X.K C)) (P:=λs=>X.K.In s.heap/\s.heap.get? a=some o) (λ_ _ z=>z) e1 e2 ne f1 f2 f3 (ans_all hC e2 hD) ⟨I.kIn,e1⟩ λtk'=>⟨.bl _,H,I.tok tk',rfl,?_⟩)
 rw[hv]
 exact q
end
structure CalX(P:Program)(w:World)(K:i0)(mg:Str->Option Value)(base:Heap)(k:Nat)(x:Str)(ps:List Str)(sp:Sp):Prop where
 ex:∃(f:Addr) (fd:FuncData),FnOk P w K mg base (CXE P w) k f fd ps sp/\mg x=some (.ref f)/\O0 K (.ref f)=true/\Binds K fd ps []
noncomputable def xkT(K:i0)(iE iC:Nat)(B:Addr)(D:Ends)(σ:St):XK:=λCv _ H2=>∃C,Cv=.ref C/\ExcC K C/\subIn K C B=true/\∀a,H2 a=none->D.nx (((σ.set iE (some (.ref a))).set iC (some (.ref a))).set iE none) (upd H2 a (excO a C))
noncomputable def tTryR(K:i0)(iE iC:Nat)(B:Addr)(sp:Sp)(t:TA):TS:=λD σ H=>t σ H λvs H1=>sp vs H1 (λ_ _=>False) (xkT K iE iC B D σ)
section
variable {X:Cx}{k iE iC:Nat}{f n b c y:Str}{ps:List Str}{sp:Sp}{t:TA}{B:Addr}{e1:Expr}{es:List Expr}{p cpos pb pn pc p3 hpos apos pos py:Pos}
noncomputable abbrev hdl(b n c:Str)(pb pn pc p3 hpos:Pos):ExceptHandler:=.ExceptHandler (some (.Name b pb)) (some n) [.Assign [.Name c pc] (.Name n pn) p3] hpos
structure Tr(X:Cx)(b n c:Str)(pn pc p3:Pos)(iE iC:Nat)(B:Addr):Prop where
 hst:X.stack=X.env :: X.outer
 hfr:X.env.frame=some X.env.locals
 hex:X.ex=[]
 hN:X.N.Nodup
 hiE:X.N[iE]?=some n
 hlE:X.env.scope.names.lookup n=some .local
 hiC:X.N[iC]?=some c
 hlC:X.env.scope.names.lookup c=some .local
 hgb:Gl X b
 hmb:X.mg b=some (.ref B)
 hB:ExcC X.K B
 hs3:swapsWith (.Name n pn) (some (.Name c pc)) p3.line X.env=pure false
 hdb:(b==("__debug__":Str))=false
 hd1:(n==("__debug__":Str))=false
 hd2:(n==("__classdict__":Str))=false
theorem call_caught{pins:List (Addr×Obj)}{σ:St}{H:Hp}{s:Shared}{D:Ends}{Eo:Value->Shared->Prop}{Qv:Value->Shared->Prop}(T:Tr X b n c pn pc p3 iE iC B)(C:CalX X.prog X.w X.K X.mg X.base k f ps sp)(hr:Room k X.A)(ha:PA X.nox (e1 :: es) t)(hg:Gl X f)(hdf:(f==("__debug__":Str))=false)
  (he:starEach (e1 :: es) X.env=(false,eval e1 X.env) :: starEach es X.env) (hpl:(backTo cpos (starEach es X.env)).any (·.1)=false) (I:Inv X pins σ H s) (h:tTryR X.K iE iC B sp t D σ H) :
  wpAny (model X.prog X.w) X.A (eval (.Call (.Name f p) (e1 :: es) [] cpos) X.env) Qv (λe s1=>wpAny (model X.prog X.w) X.A (noteFrame e X.env) (λ_ s2=>wpAny (model X.prog X.w) X.A (setFlight e none) (λ_ s3=>wpAny (model X.prog X.w) X.A (handleBy e X.env [hdl b n c pb pn pc p3 hpos]) (SP X pins D) Eo s3) Eo s2) Eo s1) s:=by
 obtain⟨fa,fd,F,hm,hk,hb⟩:=C.ex
 refine wpAny_Call_Name_kw (ld_glob I hg hm ?_ hdf)
 refine p8 (h₀:=X.base) I.ok.mod.kin hk (wpAny_mono (ha cpos pins s σ H _ (I.wish _) h) (λus s1 ⟨vs,H1,I1,r,q⟩=>⟨I1.kIn,?_⟩) λ_ _ z=>z.elim) he hpl
 have J1:=I1.unwish
 have hl:us.length=ps.length:=by rw[<- r.length];exact F.len _ _ _ _ q
 have hbb:=hb s1 us J1.kIn (by rw[T2];exact hl)
 rw[T2]at hbb
 refine wpAny_call (codeAny_mono (F.run X.A X.stack s1 H1 ⟨us,[]⟩ us vs _ _ hr J1.env0 hbb r q) λrr s' hq=>?_)
 cases rr with
 | error e =>
  have hq:CXE X.prog X.w X.stack H1 s1 (xkT X.K iE iC B D σ) e s':=hq
  exact caught J1 T.hst T.hfr T.hex T.hN T.hiE T.hlE T.hiC T.hlC T.hgb T.hmb T.hB hq (λCv o H2 z=>z) T.hs3 T.hdb T.hd1 T.hd2
 | ok fl =>
  cases fl with
  | ret u=>obtain⟨_,_,_,_,_,_,_,z⟩:=hq;exact z.elim
  | next=>exact False.elim hq
  | brk=>exact False.elim hq
  | cont=>exact False.elim hq
theorem ps_tryA(T:Tr X b n c pn pc p3 iE iC B)(C:CalX X.prog X.w X.K X.mg X.base k f ps sp)(hr:Room k X.A)(ha:PA X.nox (e1 :: es) t)(hg:Gl X f)(hdf:(f==("__debug__":Str))=false)
  (he:starEach (e1 :: es) X.env=(false,eval e1 X.env) :: starEach es X.env) (hpl:(backTo cpos (starEach es X.env)).any (·.1)=false) (hs:swapsWith (.Call (.Name f p) (e1 :: es) [] cpos) (some (.Name y py)) apos.line X.env=pure false) :
  PS X (.Try [.Assign [.Name y py] (.Call (.Name f p) (e1 :: es) [] cpos) apos] [hdl b n c pb pn pc p3 hpos] [] [] pos) (tTryR X.K iE iC B sp t):=by
 intro pins s σ H D I h
 exact wpAny_Try_except (wpAny_execs_cons (wpAny_Assign_Name (call_caught T C hr ha hg hdf he hpl I h) hs))
theorem ps_tryN{body:List Stmt}{h0:ExceptHandler}{hs:List ExceptHandler}{tb:TS}(hb:PSs X.nox body tb):PS X (.Try body (h0 :: hs) [] [] pos) tb:=by
 intro pins s σ H D I h
 refine wpAny_Try_except (wpAny_mono (hb pins s σ H D (I.wish _) h) (λfl s1 q=>?_) λ_ _ z=>z.elim)
 cases fl with
 | next=>exact wpAny_execs_nil q.unwish
 | ret v=>exact q.unwish
 | brk=>exact q.unwish
 | cont=>exact q.unwish
end
noncomputable def PR(X:Cx)(sts:List Stmt)(E:XK)(C:Addr)(t:TS):Prop:=∀(pins:List (Addr×Obj)) (s:Shared) (σ:St) (H:Hp) (D D':Ends),Inv X pins σ H s->t D σ H->(∀σ H,D.nx σ H->E (.ref C) none H)->(∀v H,¬D.rt v H)->(∀σ H,¬D.bk σ H)->(∀σ H,¬D.ct σ H) ->
 wpAny (model X.prog X.w) X.A (execs sts X.env) (SP X pins D') X.xe s
theorem pr_cons{X:Cx}{st:Stmt}{rest:List Stmt}{E:XK}{C:Addr}{t u:TS}(h1:PS X.nox st t)(h2:PR X rest E C u):PR X (st :: rest) E C (tSeq t u):=by
 intro pins s σ H D D' I h n r b c
 refine wpAny_execs_cons (wpAny_mono (h1 pins s σ H { D with nx:=u D } (I.wish _) h) (λf s1 q=>?_) λ_ _ z=>z.elim)
 cases f with
 | next =>
  obtain⟨σ',H',I',q⟩:=q
  exact h2 pins s1 σ' H' D D' I'.unwish q n r b c
 | ret v=>obtain⟨v,σ',H',I',_,q⟩:=q;exact (r _ _ q).elim
 | brk=>obtain⟨σ',H',I',q⟩:=q;exact (b _ _ q).elim
 | cont=>obtain⟨σ',H',I',q⟩:=q;exact (c _ _ q).elim
end L2
namespace L3
open PySem PySem.Spec PyProof.Rows L2
noncomputable abbrev ConX:=List Sl->Addr->Prop
noncomputable def conSpX(K:Fg)(con:ConX):Sp:=λvs H _ E=>∃(G:Gh) (F:Hp) (args:List Sl) (C:Addr),Rel K G F (vs.map some) H (args.map some)/\con args C/\∀σ' H' F' ρ',Sub F F'->Rel K G F' σ' H' ρ'->E (.ref C) none H'
theorem Rel.off{K:Fg}{G:Gh}{F H:Hp}{σ σ':L2.St}{ρ:Ev}{i:Nat}(R:Rel K G F σ H ρ)(h:ρ[i]?=some none)(hl:σ'.length=σ.length)(hs:∀j,j≠i->σ'[j]?=σ[j]?):Rel K G F σ' H ρ:=by
 have ne:∀{j s},ρ[j]?=some (some s)->j≠i:=λ{j s} e z=>by rw[z,h]at e;cases e
 refine ⟨by rw[hl];exact R.len,R.sub,R.sub0,R.fn,R.keep,λj d e=>?_,λj s e w=>?_,λj d a e eb=>?_,λj a e=>?_,R.ioi,λj k s t a e1 w1 e2 w2 e3 e4=>?_⟩
 ·rw[hs j (ne e)];exact R.fz j d e
 ·rw[hs j (ne e)];exact R.ow j s e w
 ·rw[hs j (ne e)]at eb;exact R.new j d a e eb
 ·obtain⟨d,e1,e2⟩:=R.io j a e
  exact ⟨d,e1,by rw[hs j (ne e1)];exact e2⟩
 ·rw[hs j (ne e1)]at e3
  rw[hs k (ne e2)]at e4
  exact R.ap j k s t a e1 w1 e2 w2 e3 e4
noncomputable def dTryR(K:Fg)(iE iC:Nat)(B:Addr)(con:ConX)(as:List AD):TDS:=λE ρ=>dArgs as ρ λxs ρ1=>looksQ ρ1 xs λds=>∃C,con (ds.map Sl.fz) C/\ExcC K C/\subIn K C B=true/\ρ1[iE]?=some none/\iE≠iC/\noIo ρ1 iC/\E.nx (ρ1.set iC (some (.fz (excD C))))
theorem l_tryR{K:Fg}{iE iC:Nat}{B:Addr}{con:ConX}{as:List AD}{D:Ends}{σ:L2.St}{H:Hp}(h:liftS K (dTryR K iE iC B con as) D σ H):tTryR K iE iC B (conSpX K con) (tArgs (as.map (argT K))) D σ H:=by
 obtain⟨G,F,ρ,Ed,R,w,n,r,b,c⟩:=h
 refine args_ok R w λvs H1 F1 xs ρ1 s1 R1 o w1=>?_
 obtain⟨ds,da,C,w2,hC,hsub,hE,hne,hio,w3⟩:=lend_looks (xs:=xs) R1 (λy hy=>hy) o w1
 refine ⟨_,_,ds.map Sl.fz,C,rel_call (lend_le R1) da,w2,λσ' H' F' ρ' s' R'=>⟨C,rfl,hC,hsub,λa na=>?_⟩⟩
 obtain⟨sb,R2⟩:=R1.called R'
 have R3:=R2.laid (o:=excO a C) na
 obtain⟨sb3,R4⟩:=R3.grow (a:=a) (o:=excO a C) (R2.h0 na) upd_same λi s e w z=>by
  obtain⟨a',o',g1,g2,g3,g4⟩:=R2.ow i s e w
  rw[z]at g1
  cases g1
  rw[na]at g3
  cases g3
 have R5:=R4.asg (s:=.fz (excD C)) (v:=.ref a) hio (Da.exc upd_same)
 have hi:iE < σ.length:=by rw[R1.len];exact lt_of_get hE
 refine n _ _ _ _ (s1.trans (sb.trans sb3)) (R5.off (i:=iE) (by rw[S0 (G2 hne)];exact hE) (by simp) λj hj=>?_) w3
 rw[S0 (G2 hj)]
 by_cases z:j=iC
 ·subst z
  rw[d5,d5]
  simp[d5]
 ·rw[S0 (G2 z),S0 (G2 hj),S0 (G2 z)]
noncomputable def dRz(tc:TTD):TDS:=λE ρ=>tc ρ λb ρ'=>b=true/\E.nx ρ'
structure WR(X:Cx)(sts:List Stmt)(E:XK)(C:Addr)(t:TS):Prop where
 h:PR X sts E C t
section
variable {X:Cx}{K:Fg}{st:Stmt}{rest:List Stmt}{E:XK}{C:Addr}{t u:TDS}{tc:TTD}{c:Expr}{x tx:Str}{k:Nat}{np cpos rpos pos p2:Pos}
theorem r_cons(h1:WS X.nox st (liftS K t))(h2:WR X rest E C (liftS K u)):WR X (st :: rest) E C (liftS K (dSeq t u)):=⟨λpins s σ H D D' I h n r b c=>pr_cons h1.h h2.h pins s σ H D D' I (l_seq h) n r b c⟩
theorem r_if(hxe:∀e s',wpAny (model X.prog X.w) X.A (leaving X.env e) (λ_ s2=>CXE X.prog X.w X.outer X.H₀ X.s₀ E e s2) (λe2 s2=>CXE X.prog X.w X.outer X.H₀ X.s₀ E e2 s2) s'->X.xe e s')(hc:WT X.nox c (liftT K tc))(hm:X.mg x=some (.ref C))(hC:ExcC X.K C)
  (hst:X.stack=X.env :: X.outer:=by rfl) (hfr:X.env.frame=some X.env.locals:=by rfl) (hex:X.ex=[]:=by rfl) (hca:X.calm=true:=by rfl) (hg:Gl X x:=by rfl) (hdb:(x==("__debug__":Str))=false:=by decide) :
  WR X (.If c [.Raise (some (.Call (.Name x np) [.Constant (.str tx) k p2] [] cpos)) none rpos] [] pos :: rest) E C (liftS K (dRz tc)):=by
 refine ⟨λpins s σ H D D' I h n r b cc=>?_⟩
 obtain⟨G,F,ρ,Ed,R,w,dn,dr,db,dc⟩:=h
 have P1:=ps_if (pos:=pos) (X:=X) (PT.nox hc.h) (pss_one (ps_raise (E:=E) (t:=tx) (k:=k) (np:=np) (cpos:=cpos) (pos:=rpos) (p2:=p2) hxe hst hfr hex hca hg hm hC hdb)) (pss_nil (X:=X)) pins s σ H { nx:=λ_ _=>False,rt:=λ_ _=>False } I
  ⟨G,F,ρ,_,R,w,λbb H' F' ρ' sb R' q=>by obtain⟨rfl,q⟩:=q;exact n σ H' (dn σ H' F' ρ' sb R' q)⟩
 refine wpAny_execs_cons (thn P1 λf s1 q=>?_)
 cases f with
 | next=>obtain⟨_,_,_,z⟩:=q;exact z.elim
 | ret v=>obtain⟨_,_,_,_,_,z⟩:=q;exact z.elim
 | brk=>obtain⟨_,_,_,z⟩:=q;exact z.elim
 | cont=>obtain⟨_,_,_,z⟩:=q;exact z.elim
end
section
variable {P:Program}{w:World}{K:i0}{mg:Str->Option Value}{base:Heap}
theorem wfnR{x qual:Str}{st:Stmt}{f:Addr}{fd:FuncData}{N ps:List Str}{k:Nat}{con:ConX}{ts:TDS}{C:Addr}(F:Fun K x qual st f fd)(S:FnScope N ps (defScope st))
  (hb:∀(cdv:Value) (A:Around) (outer:List Env) (s:Shared) (H:Hp) (E:XK),Room k (A.deeper (envOfC qual (defScope st) s.heap.objs.size f cdv))->WR (cxOf (CXE P w) P w K mg base N qual (defScope st) f cdv A outer s H E) (defBody st) E C (liftS K ts))
  (hl:∀args C',con args C'->args.length=ps.length) (hc:∀args C',con args C'->C'=C/\(∀s∈args,∀d,s≠.ow d)/\ts { nx:=λ_=>True,rt:=λ_ _=>False,bk:=λ_=>False,ct:=λ_=>False } (startE N.length args)):FnOk P w K mg base (CXE P w) (k+1) f fd ps (conSpX K con):=by
 obtain⟨oc,od,kV,doc,pm,an,cdv,ct,osl,rfl,lk,hcd⟩:=F.ex
 refine fn_of lk hcd S (λvs H Q E h=>?_) λA outer s H vs Q E hr hsp=>?_
 ·obtain⟨G,F',args,C',R,w',_⟩:=h
  have h1:=hl args C' w'
  have h2:=R.len
  rw[n0,n0]at h2
  rw[h2,h1]
 ·refine ⟨λD σ H=>∃D0:Ends,liftS K ts D0 σ H/\(∀σ H,D0.nx σ H->E (.ref C) none H)/\(∀v H,¬D0.rt v H)/\(∀σ H,¬D0.bk σ H)/\∀σ H,¬D0.ct σ H,λpins s1 σ H1 D I h=>?_,?_⟩
  ·obtain⟨D0,h,n,r,b,c⟩:=h
   exact (hb cdv A outer s H E hr).h pins s1 σ H1 D0 D I h n r b c
  ·obtain⟨G,F',args,C',R,w',q⟩:=hsp
   obtain⟨rfl,hn,w2⟩:=hc args C' w'
   refine ⟨{ nx:=λ_ H'=>E (.ref C') none H',rt:=λ_ _=>False },⟨G,F',_,_,R.start,w2,λσ' H' F2 ρ' s' R' _=>q σ' H' F2 ρ' s' R',λ_ _ _ _ _ _ _ _ _ z=>z,λ_ _ _ _ _ _ z=>z,λ_ _ _ _ _ _ z=>z⟩,λ_ _ z=>z,λ_ _ z=>z,λ_ _ z=>z,λ_ _ z=>z⟩
end
noncomputable def cA(mg:Str->Option Value)(x:Str):Addr:=match mg x with
 | some (.ref a)=>a
 | _=>0
theorem cA_of{mg:Str->Option Value}{x:Str}{a:Addr}(h:mg x=some (.ref a)):cA mg x=a:=by unfold cA;rw[h]
theorem cA_mg{mg:Str->Option Value}{x:Str}{a:Addr}(h:mg x=some (.ref a)):mg x=some (.ref (cA mg x)):=by rw[cA_of h];exact h
theorem kv_nb{K:Fg}{F:Hp}{kvs:List (Key×V)}{es:List (D×D)}(h:DaKV K F kvs es){b:Bool}{d:D}{r:List (D×D)}(e:es=(.bool b,d) :: r):False:=by
 cases h with
 | nil=>cases e
 | @cons k _ _ _ _ _ _=>cases k<;>cases e
theorem kt_nb{K:Fg}{F:Hp}{kvs:List (List Key×V)}{es:List (D×D)}(h:DaKT K F kvs es){b:Bool}{d:D}{r:List (D×D)}(e:es=(.bool b,d) :: r):False:=by
 cases h<;>cases e
theorem At.exc{K:Fg}{F H:Hp}{v:V}{C:Addr}(s:Sub F H)(h:At K F H v (excD C)):∃a,v=.ref a/\H a=some (excO a C):=by
 rcases h with h|⟨a,o,rfl,_,e,h⟩
 ·have gen:∀{d:D},Da K F v d->d=excD C->∃a,v=.ref a/\H a=some (excO a C):=λ{d} h e=>by
   cases h with
   | dk q t =>
    injection e with e
    exact (kv_nb t e).elim
   | dt q t =>
    injection e with e
    exact (kt_nb t e).elim
   | scr q=>cases e
   | @exc a C' q =>
    injection e with e
    injection e with e _
    injection e with _ e
    injection e with e
    have:C'=C:=Int.ofNat.inj e
    subst this
    exact ⟨a,rfl,s _ _ q⟩
   | _=>cases e
  exact gen h rfl
 ·cases o with
  | dK kvs =>
   exact (kv_nb (show DaKV K F kvs [(.bool true,.int (C:Nat))] from h) rfl).elim
  | dT kvs =>
   exact (kt_nb (show DaKT K F kvs [(.bool true,.int (C:Nat))] from h) rfl).elim
  | _=>exact h.elim
noncomputable def fIsX(K:Fg)(B:Addr):D->(Sl->Prop)->Prop
 | .dict [(.bool true,.int c)],Q=>∃C:Addr,c=((C:Nat):Int)/\ExcQ K C/\clsIn K B=true/\Q (.fz (.bool (subIn K C B)))
 | _,_=>False
noncomputable def fIsXT(K:Fg)(Bs:List Addr):D->(Sl->Prop)->Prop
 | .dict [(.bool true,.int c)],Q=>∃C:Addr,c=((C:Nat):Int)/\ExcQ K C/\(∀B∈Bs,clsIn K B=true)/\Q (.fz (.bool (Bs.any (subIn K C))))
 | _,_=>False
noncomputable def fIsXV(K:Fg):D->(Sl->Prop)->Prop
 | .dict [(.bool true,.int c)],Q=>∃C:Addr,c=((C:Nat):Int)/\ExcQ K C/\Q (.fz (.bool true))
 | _,_=>False
theorem ok_isX{K:Fg}{B:Addr}:OpOk K (λvs H Q=>∃x,vs=[x]/\rIsiE K [x,.ref B] H Q) (o1 (fIsX K B)):=ok1 λG F σ H ρ x d Q Qd R h1 w k=>by
 unfold fIsX at w
 split at w
 ·obtain⟨C,rfl,hC,hB,w⟩:=w
  obtain⟨a,rfl,e⟩:=At.exc R.sub h1
  exact ⟨_,rfl,a,C,B,rfl,e,hC,hB,k _ H F (.fz _) (Sub.refl _) R (Da.bl _) w⟩
 ·exact w.elim
theorem ok_isXV{K:Fg}:OpOk K (λvs H Q=>∃x,vs=[x]/\rIsiEV K [x,.ty "ValueError"] H Q) (o1 (fIsXV K)):=ok1 λG F σ H ρ x d Q Qd R h1 w k=>by
 unfold fIsXV at w
 split at w
 ·obtain⟨C,rfl,hC,w⟩:=w
  obtain⟨a,rfl,e⟩:=At.exc R.sub h1
  exact ⟨_,rfl,a,C,rfl,e,hC,k _ H F (.fz _) (Sub.refl _) R (Da.bl _) w⟩
 ·exact w.elim
theorem ok_isXT{K:Fg}{Bs:List Addr}:OpOk K (λvs H Q=>∃x,vs=[x]/\(Bs.map V.ref).length<=sizeLine/\∀p,H p=none->rIsiET K [x,.ref p] (upd H p (.tup (Bs.map V.ref))) Q) (o1 λd Q=>Bs.length<=1000/\fIsXT K Bs d Q):=ok1 λG F σ H ρ x d Q Qd R h1 w k=>by
 obtain⟨hl,w⟩:=w
 unfold fIsXT at w
 split at w
 ·obtain⟨C,rfl,hC,hB,w⟩:=w
  obtain⟨a,rfl,e⟩:=At.exc R.sub h1
  exact ⟨_,rfl,by rw[n0];exact le_size hl,λp hp=>⟨a,C,p,Bs,rfl,by rw[upd_ne (ne_of_none e hp)];exact e,upd_same,hC,hB,k _ _ F (.fz _) (Sub.refl _) (R.laid hp) (Da.bl _) w⟩⟩
 ·exact w.elim
noncomputable def isN:D->Bool
 | .none=>true
 | _=>false
noncomputable def fIsN(neg:Bool):D->D->(Sl->Prop)->Prop
 | x,.none,Q=>Q (.fz (.bool (if neg then !isN x else isN x)))
 | _,_,_=>False
theorem isN_of{K:Fg}{F H:Hp}{v:V}{d:D}(s:Sub F H)(h:At K F H v d):decide (v=.non)=isN d:=by
 cases d with
 | none=>cases h.none;rfl
 | bool b=>cases h.bool;rfl
 | int i=>cases h.int;rfl
 | str x=>cases h.str;rfl
 | list ds=>obtain⟨a,_,rfl,_⟩:=h.list s;rfl
 | tuple ds=>obtain⟨a,_,rfl,_⟩:=h.tuple s;rfl
 | dict es=>obtain⟨a,rfl,_⟩:=h.dict s;rfl
theorem ok_notN{K:Fg}:OpOk K (r2L λx y H Q=>y=.non/\Q (.bl (!decide (x=.non))) H) (o2 (fIsN true)):=ok2 λG F σ H ρ x y d e Q Qd R h1 h2 w k=>by
 cases e<;>first|exact w.elim|skip
 cases h2.none
 have w:Qd (.fz (.bool (!isN d))):=w
 rw[<- isN_of R.sub h1]at w
 exact ⟨rfl,k _ H F (.fz _) (Sub.refl _) R (Da.bl _) w⟩
structure WC(X:Cx)(es:List Expr)(Bs:List Addr):Prop where
 h:PA X es (λ_ H Q=>Q (Bs.map V.ref) H)
section
variable {X:Cx}{K:Fg}{e1:Expr}{es:List Expr}{a:AD}{as:List AD}{B:Addr}{Bs:List Addr}{y f n b c:Str}{p pos p2 p3 p4 pb pn pc hpos cpos apos py:Pos}{k iE iC:Nat}{ps:List Str}{con:ConX}{t:TDS}
theorem wc_nil:WC X [] []:=⟨pa_nil⟩
theorem wc_cons(hm:X.mg y=some (.ref B))(h:WC X es Bs)(hg:Gl X y:=by rfl)(hd:(y==("__debug__":Str))=false:=by decide):WC X (.Name y p :: es) (B :: Bs) :=
 ⟨pa_cons (pe_glob hg hm (v:=.ref B) rfl hd) h.h (starEach_of rfl)⟩
theorem w_isX(hK:X.K=K)(hm:X.mg "isinstance"=none)(hm2:X.mg y=some (.ref B))(ha:WE X e1 (argT K a))(hg:Gl X "isinstance":=by rfl)(hg2:Gl X y:=by rfl)(hd:(y==("__debug__":Str))=false:=by decide)(he:notStar e1=true:=by rfl) :
  WE X (.Call (.Name "isinstance" p) [e1,.Name y p2] [] pos) (lift K (dOp [a] (o1 (fIsX K B)))):=by
 subst hK
 exact ⟨peM (pe_callB call_isiE hg hm boot_isinstance (pa_cons ha.h (pa_cons (pe_glob hg2 hm2 (v:=.ref B) rfl hd) pa_nil (starEach_of rfl)) (starEach_of he)) (by decide) (by decide) (starEach_of he) (plain_of rfl)) λq=>arg1 (P:=λx H1=>rIsiE X.K [x,.ref B] H1 _) (l_op ok_isX q)⟩
theorem w_isXV(hK:X.K=K)(hm:X.mg "isinstance"=none)(hm2:X.mg "ValueError"=none)(ha:WE X e1 (argT K a))(hg:Gl X "isinstance":=by rfl)(hg2:Gl X "ValueError":=by rfl)(he:notStar e1=true:=by rfl) :
  WE X (.Call (.Name "isinstance" p) [e1,.Name "ValueError" p2] [] pos) (lift K (dOp [a] (o1 (fIsXV K)))):=by
 subst hK
 exact ⟨peM (pe_callB call_isiEV hg hm boot_isinstance (pa_cons ha.h (pa_cons (pe_bltn hg2 hm2 (u:=.type "ValueError") (by decide +kernel) (v:=.ty "ValueError") rfl) pa_nil (starEach_of rfl)) (starEach_of he)) (by decide) (by decide) (starEach_of he) (plain_of rfl)) λq=>arg1 (P:=λx H1=>rIsiEV X.K [x,.ty "ValueError"] H1 _) (l_op ok_isXV q)⟩
theorem w_isXT(hK:X.K=K)(hm:X.mg "isinstance"=none)(ht:WC X es Bs)(ha:WE X e1 (argT K a))(hg:Gl X "isinstance":=by rfl)(he:notStar e1=true:=by rfl) :
  WE X (.Call (.Name "isinstance" p) [e1,.Tuple es k p2] [] pos) (lift K (dOp [a] (o1 λd Q=>Bs.length<=1000/\fIsXT K Bs d Q))):=by
 subst hK
 exact ⟨peM (pe_callB call_isiET hg hm boot_isinstance (pa_cons ha.h (pa_cons (pe_tup ht.h) pa_nil (starEach_of rfl)) (starEach_of he)) (by decide) (by decide) (starEach_of he) (plain_of rfl)) λq=>arg1 (P:=λx H1=>(Bs.map V.ref).length<=sizeLine/\∀p,H1 p=none->rIsiET X.K [x,.ref p] (upd H1 p (.tup (Bs.map V.ref))) _) (l_op ok_isXT q)⟩
theorem s_tryN{body:List Stmt}{h0:ExceptHandler}{hs:List ExceptHandler}(hb:WSs X.nox body (liftS K t)):WS X (.Try body (h0 :: hs) [] [] pos) (liftS K t):=⟨ps_tryN hb.h⟩
theorem s_tryA(hK:X.K=K)(T:Tr X b n c pn pc p3 iE iC B)(C:CalX X.prog X.w X.K X.mg X.base k f ps (conSpX K con))(hr:Room k X.A)(ha:WA X.nox (e1 :: es) (tArgs (as.map (argT K))))(hg:Gl X f:=by rfl)(hdf:(f==("__debug__":Str))=false:=by decide)(he:notStar e1=true:=by rfl)(hpl:es.all notStar=true:=by rfl)
  (hs:swapsWith (.Call (.Name f p) (e1 :: es) [] cpos) (some (.Name y py)) apos.line X.env=pure false:=by rfl):WS X (.Try [.Assign [.Name y py] (.Call (.Name f p) (e1 :: es) [] cpos) apos] [hdl b n c pb pn pc p3 hpos] [] [] pos) (liftS K (dTryR K iE iC B con as)):=by
 subst hK
 exact ⟨λpins s σ H D I h=>ps_tryA T C hr ha.h hg hdf (starEach_of he) (plain_of hpl) hs pins s σ H D I (l_tryR h)⟩
end
end L3
namespace L2
open PySem PySem.Spec PyProof.Rows
noncomputable def rIndexI:V->List V->Hp->VK->Prop:=λx vs H Q=>∃(a:Addr) (ns:List Int) (n:Int) (j:Nat),x=.ref a/\vs=[.int n]/\H a=some (.lst (ns.map V.int))/\ns[j]?=some n/\(∀i,i < j->ns[i]?≠some n)/\Q (.int j) H
noncomputable def evI(n:Int):Value->Bool
 | .int i _=>i==n
 | _=>false
theorem mt_indexI{X:Cx}:MtR X "list.index" rIndexI:=by
 intro pins s σ H x vs v us Q I rx rv h
 obtain⟨a,ns,m,j,rfl,rfl,hH,hj,hno,q⟩:=h
 cases rx
 obtain⟨u,rfl,ru⟩:=rv.one
 obtain⟨t,rfl⟩:=ru
 obtain⟨z,its,n,r,hlen,e⟩:=I.lstM hH
 have hjl:j < ns.length:=(X0.mp hj).1
 have rl:=r.length
 rw[n0]at rl
 have at':∀(i:Nat) (hi:i < its.length),∃t,its[i]=.int (ns.getD i 0) t:=λi hi=>vals_intsAt r hi
 have gd:∀i,i < ns.length->ns[i]?=some (ns.getD i 0):=λi hi=>by rw[G1,L0 hi];rfl
 rw[n0]at z
 refine call_meets F.slot_list_index ⟨_,e,rfl⟩ F.entry_list_index (F.args_list_index_2 _ _) (SeqAt.list_indexAt a its.toArray n none #[] (.int m t) (evI m) j (by simp;omega) (by rw[sizeLine_eq]at z;omega) ?_ ?_) ⟨e,?_,?_⟩
 ·obtain⟨t1,h1⟩:=at' j (by omega)
  simp only[G6]
  rw[h1]
  show (ns.getD j 0==m)=true
  rw[gd j hjl]at hj
  rw[S1 hj]
  exact beq_self_eq_true m
 ·intro k hk hkj
  have hk':k < its.length:=by simpa using hk
  obtain⟨t1,h1⟩:=at' k hk'
  simp only[G6]
  rw[h1]
  show (ns.getD k 0==m)=false
  rw[beq_eq_false_iff_ne]
  intro z
  exact hno k hkj (by rw[gd k (by omega),z])
 ·intro y hy
  obtain⟨i,hi,rfl⟩:=Y2 (show y∈its by simpa using hy)
  obtain⟨t1,h1⟩:=at' i hi
  rw[h1]
  exact SeqAt.EqAt.int_int _ _ _ _
 ·exact ⟨.int j,H,I.tok _,⟨_,rfl⟩,q⟩
end L2
namespace L3
open PySem PySem.Spec PyProof.Rows L2
noncomputable def fIndexI:List D->List D->(D->D->Prop)->Prop
 | es,[.int n],k=>∃(ns:List Int) (j:Nat),es=ns.map j0/\ns[j]?=some n/\(∀i,i < j->ns[i]?≠some n)/\k (.list es) (.int j)
 | _,_,_=>False
theorem ok_indexI{K:Fg}:MOk K rIndexI fIndexI:=by
 intro F H a xs es vs ds Q k s e d1 d2 w q
 match ds,d2,w with
 | [.int n],.cons h .nil,⟨ns,j,e1,hj,hno,w⟩ =>
  subst e1
  cases h
  have:=d1.ints_of
  subst this
  refine ⟨a,ns,n,j,rfl,rfl,e,hj,hno,?_⟩
  have z:=q (.int j) (.lst _) (.list (ns.map j0)) (.int j) (show Own1 K F (.lst _) (.list _) from d1) (.int _) w
  rw[upd_self e]at z
  exact z
end L3
namespace L2
open PySem PySem.Spec PyProof.Rows
theorem ne_add{b n:Nat}(k:Nat)(h:b < n):b≠n+k:=by omega
theorem zip_no_keys:typeLookup (.type "zip") "keys"=pure none:=by rw[typeLookup_type,builtinLookup_eq_fast];kernel_rfl
theorem zip_no_getattr:typeLookup (.type "zip") "__getattr__"=pure none:=by rw[typeLookup_type,builtinLookup_eq_fast];kernel_rfl
theorem entry_zip_getattribute:entryFor table "zip.__getattribute__"=some Builtin.«object.__getattribute__»:=entryFor_alias (id':="object.__getattribute__") (by kernel_rfl) (by decide +kernel) (by decide +kernel) (by kernel_rfl)
theorem zip_attr_miss(a:Addr)(fs:Array Value)(sl:Array (Option Value))(u:Tok) :
  Meets (Builtin.«object.__getattribute__» ⟨[.ref a,.str "keys" u],[]⟩) (λA R s=>s.heap.get? a=some { cls:=.type "zip",dict:=none,data:=.fields fs,slots:=sl }/\raisesAttr (.ref a) "keys" A R s):=.of_wp λprog w A R s hs=>by
 obtain⟨hp,g,d,tk,os⟩:=s
 obtain⟨hx,hs⟩:=hs
 have hT:(⟨hp,g,d,tk,os⟩:Shared).TypeIs (.ref a) "zip":=⟨_,hx,rfl⟩
 have hmiss:=zip_no_keys
 have hname:(["__module__","__name__","__qualname__","__doc__","__annotations__"]:List Str).contains "keys"=false:=by decide +kernel
 unfold Builtin.«object.__getattribute__»
 repeat (any_goals (first|assumption|wp_step))
 all_goals (try simp only[hname,Q2,if_false])
 repeat (any_goals (first|assumption|wp_step))
 exact wpAny_raiseAttrError hs.1 hs.2 (attrMsg_fits (by decide +kernel) (by size_fits))
section
variable {prog:Program}{w:World}{A:Around}{E:Value->Shared->Prop}{s:Shared}
theorem zip_keys_none{a:Addr}{fs:Array Value}{sl:Array (Option Value)}{Q:Option Value->Shared->Prop}(hx:s.heap.get? a=some { cls:=.type "zip",dict:=none,data:=.fields fs,slots:=sl })(hA:A.handled=none)
  (h:∀h' tk,(∀b o,s.heap.get? b=some o->h'.get? b=some o)->Q none { s with heap:=h',toks:=tk }) :
  wpAny (model prog w) A (getAttr? (.ref a) "keys") Q E s:=by
 obtain⟨hp,g,d,tk,os⟩:=s
 have hT:∀tk',(⟨hp,g,d,tk',os⟩:Shared).TypeIs (.ref a) "zip":=λ_=>⟨_,hx,rfl⟩
 have f1:=sub_AttributeError
 have f3:=F.slot_zip_getattribute.lookup
 have f4:=F.slot_zip_getattribute.bind (.ref a)
 have f5:=zip_no_getattr
 unfold getAttr? getAttrBy? getAttrBy
 repeat (any_goals (first|assumption|exact hT _|((with_reducible show wpAny _ _ (call (A6 "zip.__getattribute__") _ _) _ _ _);refine call_meets F.slot_zip_getattribute (hT _) entry_zip_getattribute (F.args_zip_getattribute_2 _ _) (zip_attr_miss a fs sl _) ⟨hx,hA,λh' tk' e hx'=>?_⟩)|wp_step))
 obtain⟨t',u',he⟩:=hx'.there
 show wpAny _ _ (getattributeRaised _ _ _ _ _ _ _) _ _ _
 unfold getattributeRaised
 repeat (any_goals (first|assumption|wp_step))
 exact h _ _ hx'.keeps
end
section
variable {prog:Program}{w:World}{A:Around}{R:Result->Shared->Prop}
theorem upd_loopZ{z TI TO d i1 i2 l1 l2:Addr}{k1 k2:Kd}{xs1 xs2:Array Value}{n:Nat}(hh:A.handled=none)(D:ZAp2 z TI TO i1 i2 l1 l2)(n1:z≠d)(n2:TI≠d)(n3:TO≠d)(n4:i1≠d)(n5:i2≠d)(n6:l1≠d)(n7:l2≠d)
  (hn1:n<=xs1.size) (hn2:n<=xs2.size) (hend:xs1[n]?=none\/xs2[n]?=none) (J:Nat->Heap->Prop)
  (hfr:∀i h h',J i h->(∀b o,b≠z->b≠TO->b≠i1->b≠i2->h.get? b=some o->h'.get? b=some o)->J i h')
  (step:∀(i:Nat) (x y:Value) (s:Shared) (Q:Unit->Shared->Prop) (E:Value->Shared->Prop),i < n->xs1[i]?=some x->xs2[i]?=some y->J i s.heap ->
    (∀h' tk,J (i+1) h'->u4 d s.heap h'->Q () { s with heap:=h',toks:=tk })->wpAny (model prog w) A.in1 (dictSet d x y) Q E s) :
  ∀(k i:Nat) (s:Shared) (tA:Tok),n - i=k->i<=n->ZSt s.heap z TI TO d i1 i2 l1 l2 k1 k2 i->SqAt k1 s.heap l1 xs1->SqAt k2 s.heap l2 xs2->J i s.heap->d < s.heap.objs.size ->
  (∀h' tk,J n h'->R (.ok (.ret .none)) { s with heap:=h',toks:=tk }) ->
  codeAny (model prog w) A (.builtin "dict.update.loop" ⟨[.ref d,.ref z,.int i tA,.none],[]⟩) R s:=by
 intro k
 induction k with
 | zero =>
  intro i s tA hk hi hst q1 q2 hJ hd hR
  have hin:i=n:=by omega
  subst hin
  refine codeAny_builtin entry_upd_loop ?_
  rw[Around.under_plainId plain_upd_loop _]
  show wpAny _ A.in1 (pyNext (.ref z) >>= _) _ _ s
  refine wpAny_bind (next_keptEnd2 (A:=A.in1) hh D hst q1 q2 hend λh' he=>?_)
  show wpAny _ _ (Builtin.Dict.addKeywords d [] >>= _) _ _ _
  exact wpAny_bind (wpAny_pure (wpAny_pure (hR h' s.toks (hfr _ _ _ hJ he))))
 | succ k ih =>
  intro i s tA hk hi hst q1 q2 hJ hd hR
  have hlt:i < n:=by omega
  obtain⟨x,hx⟩:∃p,xs1[i]?=some p:=⟨xs1[i],d7 (by omega)⟩
  obtain⟨y,hy⟩:∃p,xs2[i]?=some p:=⟨xs2[i],d7 (by omega)⟩
  refine codeAny_builtin entry_upd_loop ?_
  rw[Around.under_plainId plain_upd_loop _]
  show wpAny _ A.in1 (pyNext (.ref z) >>= _) _ _ s
  refine wpAny_bind (next_kept2 (S:=d) D hd hst q1 q2 hx hy λh' hst' ht hz hkp=>?_)
  have hJ':=hfr _ _ _ hJ hkp
  show wpAny _ A.in1 (holding [.ref s.heap.objs.size] _ >>= _) _ _ _
  refine wpAny_bind (wpAny_holding ?_)
  refine wpAny_bind (wpAny_tryCatch ?_)
  unfold Builtin.Dict.pairItems
  refine wpAny_bind (wpAny_typeOf (T:="tuple") ⟨_,ht,rfl⟩ ?_)
  rw[if_pos (by decide)]
  refine wpAny_bind (wpAny_seqItems ht rfl (wpAny_pure ?_))
  show wpAny _ A.in1 (holding [x,y] (dictSet d x y)) _ _ _
  refine wpAny_holding (wpAny_mono (step i x y { s with heap:=h' } (λ_ s''=>∃h'' tk',s''={ s with heap:=h'',toks:=tk' }/\J (i+1) h''/\u4 d h' h'') (λ_ _=>False) hlt hx hy hJ' λh'' tk' j sb=>⟨h'',tk',rfl,j,sb⟩) (λ_ s'' z=>?_) λ_ _ z=>z.elim)
  obtain⟨h'',tk',rfl,j,sb⟩:=z
  have kp:∀b o,b≠d->h'.get? b=some o->h''.get? b=some o:=λb o nb e=>(sb.2 b nb).trans e
  refine wpAny_pure ⟨plainId_quiet plain_upd_loop _,?_⟩
  refine ih (i+1) { s with heap:=h'',toks:=tk' } 0 (by omega) hlt (hst'.keep kp n1 n2 n3 n4 n5) (q1.at λo e=>kp _ _ n6 (hkp _ o D.l1z D.l1TO D.l1i1 D.l1i2 e)) (q2.at λo e=>kp _ _ n7 (hkp _ o D.l2z D.l2TO D.l2i1 D.l2i2 e)) j ?_ λh3 tk3 j3=>hR h3 tk3 j3
  have:IsTup2 h'' s.heap.objs.size x y:=kp _ _ (D3 hd) ht
  exact Nat.lt_trans hd (v0 this)
end
theorem call_dict_zip{prog:Program}{w:World}{A:Around}{E:Value->Shared->Prop}{s:Shared}{z TI TO i1 i2 l1 l2:Addr}{k1 k2:Kd}{xs1 xs2:Array Value}{n:Nat}{Q:Value->Shared->Prop}(J:Nat->Heap->Prop)(hh:A.handled=none)(D:ZAp2 z TI TO i1 i2 l1 l2)
  (hn1:n<=xs1.size) (hn2:n<=xs2.size) (hend:xs1[n]?=none\/xs2[n]?=none) {a1 a2:Value}
  (hz:IsZip s.heap z TI TO .none) (hTI:IsTup2 s.heap TI (.ref i1) (.ref i2)) (hTO:IsTup2 s.heap TO a1 a2) (h1:ItAt k1 s.heap i1 l1 0) (h2:ItAt k2 s.heap i2 l2 0) (hl1:SqAt k1 s.heap l1 xs1) (hl2:SqAt k2 s.heap l2 xs2) (b1:l1 < s.heap.objs.size) (b2:l2 < s.heap.objs.size)
  (h0:∀h',(∀b ob,s.heap.get? b=some ob->h'.get? b=some ob)->h'.get? s.heap.objs.size=some { cls:=.type "dict",data:=.dict #[] }->J 0 h')
  (hfr:∀i h h',J i h->(∀b o,b≠z->b≠TO->b≠i1->b≠i2->h.get? b=some o->h'.get? b=some o)->J i h')
  (step:∀(i:Nat) (x y:Value) (s':Shared) (Q':Unit->Shared->Prop) (E':Value->Shared->Prop),i < n->xs1[i]?=some x->xs2[i]?=some y->J i s'.heap ->
    (∀h' tk,J (i+1) h'->u4 s.heap.objs.size s'.heap h'->Q' () { s' with heap:=h',toks:=tk })->wpAny (model prog w) A.in1.in1 (dictSet s.heap.objs.size x y) Q' E' s')
  (h:∀h' tk,J n h'->Q (.ref s.heap.objs.size) { s with heap:=h',toks:=tk }) :
  wpAny (model prog w) A (call (.type "dict") [.ref z]) Q E s:=by
 refine callType_codes (Q₁:=λobj s₁=>obj=.ref s.heap.objs.size/\s₁={ s with heap:=s.heap.push { cls:=.type "dict",data:=.dict #[] } }) F.kt_called_dict (F.kt_typeCall_dict_1 _) F.entry_dict_init (kt_code_dict_new _ ⟨rfl,rfl⟩) ?_
 rintro obj s₁ ⟨rfl,rfl⟩
 have hnew:(s.heap.push { cls:=.type "dict",data:=.dict #[] }).get? s.heap.objs.size=some { cls:=.type "dict",data:=.dict #[] }:=G0 _ rfl
 have hkp:∀b ob,s.heap.get? b=some ob->(s.heap.push { cls:=.type "dict",data:=.dict #[] }).get? b=some ob:=λb ob e=>g0 _ e
 refine ⟨⟨_,hnew,rfl⟩,F.args_dict_init_2 _ _,?_⟩
 unfold Builtin.«dict.__init__»
 refine wpAny_bind ?_
 unfold Builtin.Dict.selfAndRest
 refine wpAny_bind (wpAny_notOrdered_dict ⟨_,hnew,rfl⟩ ?_)
 show wpAny _ _ (pure (s.heap.objs.size,[Y1 z])) _ _ _
 refine wpAny_pure ?_
 show wpAny _ _ (K7 "dict.__init__" s.heap.objs.size (.ref z) [] .none) _ _ _
 unfold K7
 refine wpAny_bind (wpAny_typeOf (T:="zip") ⟨_,hkp _ _ hz,rfl⟩ ?_)
 rw[if_pos (by decide)]
 refine wpAny_bind (zip_keys_none (hkp _ _ hz) hh λh1' tk1 kk1=>?_)
 simp only[Option.isNone_none,if_true]
 refine wpAny_bind (wpAny_rule ?_)
 refine wpAny_bind (wpAny_pyIter_zip (s:={ s with heap:=h1',toks:=tk1 }) (kk1 _ _ (hkp _ _ hz)) ?_)
 have kp:∀b ob,s.heap.get? b=some ob->h1'.get? b=some ob:=λb ob e=>kk1 b ob (hkp b ob e)
 obtain⟨o1,g1,_⟩:=h1.obj
 obtain⟨o2,g2,_⟩:=h2.obj
 have hlt:s.heap.objs.size < h1'.objs.size:=v0 (kk1 _ _ hnew)
 refine wpAny_pure ⟨plainId_quiet plain_upd_loop _,upd_loopZ (A:=A.in1) hh D (V0 (v0 hz)) (V0 (v0 hTI)) (V0 (v0 hTO)) (V0 (v0 g1)) (V0 (v0 g2)) (V0 b1) (V0 b2) hn1 hn2 hend J hfr step n 0 _ 0 rfl (S3 _)
   ⟨kp _ _ hTI,h1.at λo e=>kp _ _ e,h2.at λo e=>kp _ _ e,.inl ⟨kp _ _ hz,a1,a2,kp _ _ hTO⟩⟩ (hl1.at λo e=>kp _ _ e) (hl2.at λo e=>kp _ _ e) (h0 h1' kp (kk1 _ _ hnew)) hlt λh' tk j=>⟨rfl,h h' tk j⟩⟩
noncomputable def tDZ(K:i0)(ta:TA):TE:=λσ H Q=>ta σ H λvs H1=>∃(k1:Kd) (l1:Addr) (ys1:List V) (k2:Kd) (l2:Addr) (ys2:List V) (kvs:List (List Key×V)),vs=[.ref l1,.ref l2]/\Sq k1 K H1 l1 ys1/\Sq k2 K H1 l2 ys2/\ys1.length=kvs.length/\ys2.length=kvs.length /\
 (∀(i:Nat) y,ys1[i]?=some y->∃kv b,kvs[i]?=some kv/\y=.ref b/\H1 b=some (.tup (kv.1.map kV)))/\(∀(i:Nat) y,ys2[i]?=some y->∃kv,kvs[i]?=some kv/\y=kv.2)/\∀l,H1 l=none->Q (.ref l) (upd H1 l (.dT (putAll kvs)))
theorem pe_DZ{X:Cx}{a b:Expr}{ta:TA}{p pos p0 pos0:Pos}(hcm:X.calm=true)(hu:X.A.units+2 < cLine)(hg0:Gl X "dict")(hm0:X.mg "dict"=none)(hv0:bootBuiltins "dict"=some (.type "dict"))(hg:Gl X "zip")(hm:X.mg "zip"=none)(ha:PA X [a,b] ta)
  (hs:starEach [a,b] X.env=(false,eval a X.env) :: starEach [b] X.env) (hpl:(backTo pos (starEach [b] X.env)).any (·.1)=false)
  (hs0:starEach [.Call (.Name "zip" p) [a,b] [] pos] X.env=(false,eval (.Call (.Name "zip" p) [a,b] [] pos) X.env) :: starEach [] X.env) (hpl0:(backTo pos0 (starEach [] X.env)).any (·.1)=false) :
  PE X (.Call (.Name "dict" p0) [.Call (.Name "zip" p) [a,b] [] pos] [] pos0) (tDZ X.K ta):=by
 intro pins s σ H Q I h
 refine wpAny_Call_Name_kw (ld_blt I hg0 hm0 hv0 ?_ (by decide) (by decide))
 refine m3 ?_ hs0 hpl0
 rw[hs0]
 show wpAny _ _ (spliced ((false,eval (.Call (.Name "zip" p) [a,b] [] pos) X.env) :: backTo pos0 (starEach [] X.env))) _ _ s
 refine Calls.spliced_cons ?_
 refine Call_ (ld_blt I hg hm boot_zip (m3 (thn (ha pos pins s σ H _ I h) λus s1 ⟨vs,H1,I1,r1,q1⟩=>?_) hs hpl))
 obtain⟨k1,l1,ys1,k2,l2,ys2,kvs,e,q1,q2,hl1,hl2,hp1,hp2,q⟩:=q1
 subst e
 obtain rfl:us=[.ref l1,.ref l2]:=by
  cases r1 with|cons r rr=>cases r;cases rr with|cons r rr=>cases r;cases rr;rfl
 obtain⟨its1,rv1,p1,z1⟩:=I1.sq q1
 obtain⟨its2,rv2,p2,z2⟩:=I1.sq q2
 have lt:∀{k:Kd}{l:Addr}{xs:Array Value},SqAt k s1.heap l xs->l < s1.heap.objs.size:=λ{k l xs} p=>by
  cases k with
  | l=>obtain⟨o,e,_⟩:=p;exact v0 e
  | t=>obtain⟨o,e,_⟩:=p;exact v0 e
 refine callType_new F.called_zip (by decide) (F.typeCall_zip_2 _ _) (F.newCall_zip_2 _ _) (λobj=>F.args_object_init_3 obj _ _) F.entry_zip_new (zip_new2 k1 k2 l1 l2 its1.toArray its2.toArray) ⟨p1,p2,?_⟩
 have zI:(zh2I s1.heap k1 k2 l1 l2).objs.size=s1.heap.objs.size+2:=by simp[B2]
 have zT:(zh2T s1.heap k1 k2 l1 l2).objs.size=s1.heap.objs.size+3:=by simp[B2]
 have zO:(zh2O s1.heap k1 k2 l1 l2).objs.size=s1.heap.objs.size+4:=by simp[B2]
 have zZ:(zh2Z s1.heap k1 k2 l1 l2).objs.size=s1.heap.objs.size+5:=by simp[B2]
 have gZ:(zh2Z s1.heap k1 k2 l1 l2).get? (zh2O s1.heap k1 k2 l1 l2).objs.size=some _:=G0 _ rfl
 have gO:(zh2Z s1.heap k1 k2 l1 l2).get? (zh2T s1.heap k1 k2 l1 l2).objs.size=some _:=g0 _ (G0 _ rfl)
 have gT:(zh2Z s1.heap k1 k2 l1 l2).get? (zh2I s1.heap k1 k2 l1 l2).objs.size=some _:=g0 _ (g0 _ (G0 _ rfl))
 have g1:(zh2Z s1.heap k1 k2 l1 l2).get? s1.heap.objs.size=some (itObj k1 l1):=g0 _ (g0 _ (g0 _ (g0 _ (G0 _ (by cases k1<;>rfl)))))
 have g2:(zh2Z s1.heap k1 k2 l1 l2).get? (s1.heap.push (itObj k1 l1)).objs.size=some (itObj k2 l2):=g0 _ (g0 _ (g0 _ (G0 _ (by cases k2<;>rfl))))
 have zz2:(s1.heap.push (itObj k1 l1)).objs.size=s1.heap.objs.size+1:=by simp[B2]
 rw[zO,zT,zI]at gZ
 rw[zI,zz2]at gT
 rw[zT]at gO
 rw[zz2]at g2
 show _/\_
 rw[zO]
 have kp:∀b o,s1.heap.get? b=some o->(zh2Z s1.heap k1 k2 l1 l2).get? b=some o:=λb o e=>g0 _ (g0 _ (g0 _ (g0 _ (g0 _ (e)))))
 refine ⟨⟨_,gZ,rfl⟩,Calls.spliced_nil ?_⟩
 have len1:=rv1.length
 have len2:=rv2.length
 have DD:=zap2 s1.heap.objs.size l1 l2 (lt p1) (lt p2)
 have hk:=putAll_len kvs
 have keyAt:∀{ks:List Key}{b:Addr}{h':Heap},(∀b ob,s1.heap.get? b=some ob->h'.get? b=some ob)->H1 b=some (.tup (ks.map kV))->(tupleKind (mixKind X.prog X.w)).is h' ks b:=by
  intro ks b h' kk e
  obtain⟨_,its,r,o,h1,h2,n,h3,_⟩:=(show ObjOk X.prog X.w H1 s1.heap b (.tup (ks.map kV)) from I1.hok b _ e)
  exact ⟨o,its.toArray,n,kk _ _ h1,h2,h3,by simpa using items_are r⟩
 have all:∀{l:List (List Key×V)}{m:List (List Key×Addr×Value)}{h':Heap},(∀b ob,s1.heap.get? b=some ob->h'.get? b=some ob)->KT H1 l m->∀x∈m,(tupleKind (mixKind X.prog X.w)).is h' x.1 x.2.1:=by
  intro l m h' kk q
  induction q with
  | nil=>intro x hx;exact nomatch hx
  | @cons p q ps qs hq t ih =>
   intro x hx
   rcases Y0.mp hx with e|hx
   ·subst e
    exact keyAt kk (by rw[<- hq.1];exact hq.2.1)
   ·exact ih x hx
 have hb:(s1.heap.objs.size+5==sysModules)=false:=beq_eq_false_iff_ne.mpr (G2 (V0 (J0 I1.big (E4 _ _))))
 have hz5:(kvs.length:Nat)<=sizeLine:=by omega
 refine call_dict_zip (s:={ s1 with heap:=zh2Z s1.heap k1 k2 l1 l2 }) (xs1:=its1.toArray) (xs2:=its2.toArray) (n:=kvs.length) (λi h=>(∀b ob,s1.heap.get? b=some ob->h.get? b=some ob)/\∃vs,KT H1 (putAll (kvs.take i)) vs/\∃o es ep,h.get? (s1.heap.objs.size+5)=some o/\o.ExactDict/\o.data=.dict es ep/\es.toList=vs.map (entryOfKey (tupleKind (mixKind X.prog X.w)))/\(vs.map (·.1)).Nodup)
  (I1.ok.hd hcm) DD (by simp only[N0];omega) (by simp only[N0];omega) (.inl (by simp;omega)) gZ gT gO (ItAt.new k1 g1) (ItAt.new k2 g2)
  (p1.at λo e=>kp _ _ e) (p2.at λo e=>kp _ _ e) (by show l1 < (zh2Z s1.heap k1 k2 l1 l2).objs.size;rw[zZ];exact J0 (lt p1) (E4 _ _)) (by show l2 < (zh2Z s1.heap k1 k2 l1 l2).objs.size;rw[zZ];exact J0 (lt p2) (E4 _ _)) ?_ ?_ ?_ ?_
 ·intro h' kk e
  dsimp only at e
  rw[zZ]at e
  exact ⟨λb o x=>kk b o (kp b o x),[],.nil,_,#[],0,e,⟨rfl,rfl,rfl⟩,rfl,rfl,List.nodup_nil⟩
 ·rintro i h1 h2 ⟨kk,vs,rel,o',es,ep,ho,rest⟩ k3
  have far:∀{b:Addr},b < s1.heap.objs.size->b≠s1.heap.objs.size+4/\b≠s1.heap.objs.size+3/\b≠s1.heap.objs.size/\b≠s1.heap.objs.size+1:=λ{b} z=>⟨ne_add 4 z,ne_add 3 z,ne_add 0 z,ne_add 1 z⟩
  refine ⟨λb o x=>?_,vs,rel,o',es,ep,?_,rest⟩
  ·obtain⟨f1,f2,f3,f4⟩:=far (v0 x)
   exact k3 b o f1 f2 f3 f4 (kk b o x)
  ·refine k3 _ _ ?_ ?_ ?_ ?_ ho<;>(show ¬(@Eq Nat _ _))<;>omega
 ·rintro i x y s' Q' E' hi hx hy ⟨kk,vs,rel,o',es,ep,ho,a1,a2,a3,a4⟩ hq'
  dsimp only at hq' ⊢
  rw[zZ]at hq' ⊢
  obtain⟨y1,ey1,ry1⟩:=rv1.getV (by simpa using hx)
  obtain⟨y2,ey2,ry2⟩:=rv2.getV (by simpa using hy)
  obtain⟨kv,b,ekv,rfl,eb⟩:=hp1 i y1 ey1
  obtain⟨kv',ekv',e2⟩:=hp2 i y2 ey2
  rw[ekv]at ekv'
  cases ekv'
  subst e2
  cases ry1
  have hz2:vs.length<=sizeLine:=by
   have a1:=Paired.length rel
   have a2:=putAll_len (kvs.take i)
   have a3:(kvs.take i).length<=kvs.length:=by simp only[U2];omega
   omega
  refine wpAny_dictSet_heap (hsz:=hz2) (knd:=tupleKind (mixKind X.prog X.w)) hu (keyAt kk eb) ⟨o',es,ep,ho,a1,a2,a3,all kk rel,a4⟩ λh' dd' sb=>hq' h' _ ⟨λc o e=>?_,storedH vs kv.1 b y,?_,?_⟩ sb
  ·have hc:c < s1.heap.objs.size:=v0 e
   exact (sb.2 c (ne_add 5 hc)).trans (kk c o e)
  ·rw[putAll_take ekv]
   exact rel.put kv.1 eb ry2
  ·obtain⟨q,es,ep,hq,h2,h3,h4,_,h5⟩:=dd'
   exact ⟨q,es,ep,hq,h2,h3,h4,h5⟩
 ·rintro h' tk ⟨kk,vs,rel,rest⟩
  rw[W3 (A0 _)]at rel
  have hfr:H1 (s1.heap.objs.size+5)=none:=I1.hok.fresh (E4 _ _)
  dsimp only
  rw[zZ]
  exact ⟨.ref (s1.heap.objs.size+5),_,I1.laid (t':=tk) kk (E4 _ _) (show ObjOk X.prog X.w _ h' _ (.dT (putAll kvs)) from ⟨by omega,hb,vs,rel.keeps λc zs ec=>by rw[upd_ne (ne_of_none ec hfr)];exact ec,rest⟩),rfl,q _ hfr⟩
end L2
namespace L3
open PySem PySem.Spec PyProof.Rows L2
noncomputable def fDZ:D->D->(Sl->Prop)->Prop:=λd e Q=>∃ps:List (List Key×D),sqD d=some (ps.map λp=>N1 (p.1.map keyD))/\sqD e=some (ps.map (·.2))/\(ps.map (·.1)).Nodup/\Q (.ow (.dict (ps.map enT)))
noncomputable def rDZ(K:Fg):List V->Hp->VK->Prop:=λvs H1 Q=>∃(k1:Kd) (l1:Addr) (ys1:List V) (k2:Kd) (l2:Addr) (ys2:List V) (kvs:List (List Key×V)),vs=[.ref l1,.ref l2]/\Sq k1 K H1 l1 ys1/\Sq k2 K H1 l2 ys2/\ys1.length=kvs.length/\ys2.length=kvs.length /\
 (∀(i:Nat) y,ys1[i]?=some y->∃kv b,kvs[i]?=some kv/\y=.ref b/\H1 b=some (.tup (kv.1.map kV)))/\(∀(i:Nat) y,ys2[i]?=some y->∃kv,kvs[i]?=some kv/\y=kv.2)/\∀l,H1 l=none->Q (.ref l) (upd H1 l (.dT (putAll kvs)))
theorem keys_at{K:Fg}{F:Hp}:∀{ks:List Key}{xs:List V},DaAll K F xs (ks.map keyD)->xs=ks.map kV
 | [],_,h=>by cases h;rfl
 | k :: ks,_,h=>by
  cases h with
  | cons h t =>
   rw[keys_at t]
   cases k<;>(cases h;rfl)
theorem zip_kvs{K:Fg}{F:Hp}:∀{ps:List (List Key×D)}{ys1 ys2:List V},DaAll K F ys1 (ps.map λp=>N1 (p.1.map keyD))->DaAll K F ys2 (ps.map (·.2)) ->
  ∃kvs:List (List Key×V),kvs.map (·.1)=ps.map (·.1)/\ys1.length=kvs.length/\ys2.length=kvs.length/\(∀(i:Nat) y,ys1[i]?=some y->∃kv b,kvs[i]?=some kv/\y=.ref b/\F b=some (.tup (kv.1.map kV)))/\(∀(i:Nat) y,ys2[i]?=some y->∃kv,kvs[i]?=some kv/\y=kv.2)/\DaKT K F kvs (ps.map enT)
 | [],_,_,h1,h2=>by
  cases h1;cases h2
  exact ⟨[],rfl,rfl,rfl,λi y e=>by simp at e,λi y e=>by simp at e,.nil⟩
 | p :: ps,_,_,h1,h2=>by
  cases h1 with
  | @cons v _ _ _ h1 t1 =>
   cases h2 with
   | @cons u _ _ _ h2 t2 =>
    obtain⟨kvs,e1,e2,e3,e4,e5,e6⟩:=zip_kvs t1 t2
    cases h1 with
    | @tup a xs _ q r =>
     have:=keys_at r
     subst this
     refine ⟨(p.1,u) :: kvs,by simp[e1],by simp[e2],by simp[e3],λi y e=>?_,λi y e=>?_,.cons h2 e6⟩
     ·cases i with
      | zero=>cases e;exact ⟨_,_,rfl,rfl,q⟩
      | succ i=>exact e4 i y e
     ·cases i with
      | zero=>cases e;exact ⟨_,rfl,rfl⟩
      | succ i=>exact e5 i y e
theorem ok_DZ{K:Fg}:OpOk K (rDZ K) (o2 fDZ):=by
 intro G F σ H ρ vs ds Q Qd R ha w k
 rcases ds with _|⟨d,_|⟨e,_|⟨e3,ds⟩⟩⟩<;>first|exact w.elim|skip
 ·obtain⟨v1,v2,rfl,h1,h2⟩:=ha.two
  obtain⟨ps,e1,e2,nd,w⟩:=w
  obtain⟨k1,l1,ys1,rfl,q1,d1⟩:=h1.seq R.sub e1
  obtain⟨k2,l2,ys2,rfl,q2,d2⟩:=h2.seq R.sub e2
  obtain⟨kvs,g1,g2,g3,g4,g5,g6⟩:=zip_kvs d1 d2
  refine ⟨k1,l1,ys1,k2,l2,ys2,kvs,rfl,q1,q2,g2,g3,λi y e=>?_,g5,λl hl=>?_⟩
  ·obtain⟨kv,b,z1,z2,z3⟩:=g4 i y e
   exact ⟨kv,b,z1,z2,R.sub _ _ z3⟩
  ·rw[putAll_nodup kvs (by rw[g1];exact nd)]
   obtain⟨R',r'⟩:=R.newOw (o:=.dT kvs) (d:=.dict (ps.map enT)) hl g6
   exact k _ _ F _ (Sub.refl _) R' r' w
section
variable {X:Cx}{K:Fg}{e e1 e2:Expr}{a b:AD}{p pos pos' p2:Pos}
theorem w_DZ(hK:X.K=K)(hc:X.calm=true)(hu:X.A.units+2 < cLine)(hm:X.mg "dict"=none)(hv:bootBuiltins "dict"=some (.type "dict"))(hm2:X.mg "zip"=none)(ha:WA X [e1,e2] (tArgs ([a,b].map (argT K))))(hg:Gl X "dict":=by rfl)(hg2:Gl X "zip":=by rfl)(he:notStar e1=true:=by rfl)(he2:notStar e2=true:=by rfl) :
  WE X (.Call (.Name "dict" p) [.Call (.Name "zip" p2) [e1,e2] [] pos'] [] pos) (lift K (dOp [a,b] (o2 fDZ))):=by
 subst hK
 exact ⟨peM (pe_DZ hc hu hg hm hv hg2 hm2 ha.h (starEach_of he) (plain_of (by simp[he2])) (starEach_of rfl) (plain_of rfl)) λq=>l_op ok_DZ q⟩
end
end L3
namespace L2
open PySem PySem.Spec PyProof.Rows
theorem ext_tup(l:Addr)(items:Array Value)(n:Nat)(b:Addr)(items2:Array Value)(n2:Nat)(sl:Array (Option Value))(hc:¬(!items.isEmpty&&O3 (items.size+items2.size))=true)(h1:items.size<=sizeLine)(h2:items.size+items2.size<=sizeLine+1) :
  Meets (Builtin.«list.extend» ⟨[.ref l,.ref b],[]⟩) (λ_ R s=>s.heap.get? l=some { cls:=.type "list",dict:=none,data:=.seq items n,slots:=#[] }/\s.heap.get? b=some { cls:=.type "tuple",dict:=none,data:=.seq items2 n2,slots:=sl }/\R (.ok (.ret O5)) { s with heap:=s.heap.update l (P3 λx=>x++items2) }):=.of_wp λprog w A R s h=>by
 obtain⟨hp,g,d,tk,os⟩:=s
 obtain⟨hl,hb,h⟩:=h
 have f1:=AutoSeq1.idx_int;have f2:=AutoSeq1.sub_tuple_tuple;have f3:=AutoSeq1.sub_list_list;have f4:=AutoSeq1.sub_tuple_list;have f5:=AutoSeq1.sub_list_tuple
 have hz:(items++items2).size<=sizeLine+1:=by rw[Array.size_append];exact h2
 wp_walk using (wpAny_updateSeq hl rfl (hz:=h1) (_hz':=hz)),wpAny_loadPart' hl,wpAny_loadPart' hb
 exact ⟨_,rfl,h⟩
noncomputable def rExtendT:V->List V->Hp->VK->Prop:=λx vs H Q=>∃l b xs zs,x=.ref l/\vs=[.ref b]/\H l=some (.lst xs)/\H b=some (.tup zs)/\xs.length+zs.length<=sizeLine/\Q .non (upd H l (.lst (xs++zs)))
theorem mt_extendT{X:Cx}:MtM X "list.extend" rExtendT:=by
 intro pins s σ H x vs v us Q I rx rv h
 obtain⟨l,b,xs,zs,rfl,rfl,hH,hB,hz,q⟩:=h
 cases rx
 obtain⟨u,rfl,ru⟩:=rv.one
 cases ru
 obtain⟨z,its,n,r,hl,e⟩:=I.lstM hH
 obtain⟨_,its2,r2,ob,e2,c2,n2,d2,dd2⟩:=(show ObjOk X.prog X.w H s.heap b (.tup zs) from I.hok b _ hB)
 obtain⟨oc,od,odt,osl⟩:=ob
 simp only at c2 d2 dd2
 subst c2 d2 dd2
 have hl2:=r2.length
 have hsz:its.toArray.size+its2.toArray.size<=sizeLine:=by rw[N0,N0];omega
 have hlong:¬(!its.toArray.isEmpty&&O3 (its.toArray.size+its2.toArray.size))=true:=by
  rw[notLongL hsz,S6]
  exact W0
 refine call_meets F.slot_list_extend ⟨_,e,rfl⟩ F.entry_list_extend (F.args_list_extend_2 _ _) (ext_tup l its.toArray n b its2.toArray n2 osl hlong (by rw[N0];omega) (by omega)) ⟨e,e2,?_⟩
 refine ⟨.non,_,I.lset (its':=its++its2) hH e (by simp) (r.append r2) ?_,rfl,q⟩
 rw[R0]
 omega
end L2
namespace L3
open PySem PySem.Spec PyProof.Rows L2
noncomputable def fExtendT:List D->List D->(D->D->Prop)->Prop
 | es,[.tuple ys],k=>es.length+ys.length<=sizeLine/\k (.list (es++ys)) .none
 | _,_,_=>False
theorem ok_extendT{K:Fg}:MOk K rExtendT fExtendT:=by
 intro F H a xs es vs ds Q k s e d1 d2 w q
 rcases ds with _|⟨d,_|⟨d',ds⟩⟩<;>first|exact w.elim|skip
 ·cases d<;>first|exact w.elim|skip
  cases d2 with
  | cons h t =>
   cases t
   cases h with
   | tup e2 t=>exact ⟨a,_,xs,_,rfl,rfl,e,s _ _ e2,by rw[d1.length,t.length];exact w.1,q _ (.lst (xs++_)) (.list (es++_)) _ (d1.append t) .non w.2⟩
 ·cases d<;>exact w.elim
theorem izip2_of{i j:Nat}{ρ:Ev}{Q:List D->Ev->Prop}{A B:D}{us ws:List D}(h1:ρ[i]?=some (some (.fz A)))(h2:ρ[j]?=some (some (.fz B)))(e1:seqD A=some us)(e2:seqD B=some ws)(w:Q (zipD us ws) ρ):dIZip2 (.inl i) (.inl j) ρ Q:=by
 unfold dIZip2
 simp only[dArgs,h1,h2,lentAny,looksQ,Sl.d,e1,e2,isOw]
 exact w
theorem forZ_of{ks:List Nat}{i j:Nat}{g:TDG}{tb u:TDS}{E:DE}{ρ:Ev}{A B:D}{us ws:List D}(h1:ρ[i]?=some (some (.fz A)))(h2:ρ[j]?=some (some (.fz B)))(e1:seqD A=some us)(e2:seqD B=some ws)(w:dLoopC ks g tb { nx:=λρ'=>u E ρ',rt:=E.rt,bk:=E.bk,ct:=E.ct } (zipD us ws) (clean ks ρ)):dSeq (dForC ks (dIZip2 (.inl i) (.inl j)) g tb) u E ρ:=izip2_of (Q:=λds ρ'=>dLoopC ks g tb { nx:=λρ'=>u E ρ',rt:=E.rt,bk:=E.bk,ct:=E.ct } ds (clean ks ρ')) h1 h2 e1 e2 w
theorem cutS{t u:TDS}{E:DE}{ρ:Ev}(J:Ev->Prop)(h1:∀N:Ev->Prop,(∀ρ',J ρ'->N ρ')->t { nx:=N,rt:=E.rt,bk:=E.bk,ct:=E.ct } ρ)(h2:∀ρ',J ρ'->u E ρ'):dSeq t u E ρ:=h1 _ h2
theorem gnC{i:Nat}{d:D}{ρ:Ev}{Q:Ev->Prop}(h:dGN i d ρ Q=Q (ρ.set i (some (.fz d))))(w:Q (ρ.set i (some (.fz d)))):dGN i d ρ Q:=by rw[h];exact w
end L3
namespace HT
open PySem PyProof.Rows
section
open PySem.SeqAt
open PySem.AutoSeq1 (wpAny_loadPart')
open PySem.MeetsSeq PySem.MeetsSeq2 PySem.MeetsSeq3
variable {prog:Program}{w:World}{A:Around}{E:Value->Shared->Prop}{s:Shared}
theorem whole_tup{t sl:Addr}{items:Array Value}{vl vu:Value}{lo hi:Option Int}{Q:Value->Shared->Prop}(hT:IsTup s.heap t items)(hS:s.heap.IsSliceOf sl vl vu .none)(p1:IsPart vl lo)(p2:IsPart vu hi)
  (z1:sIx items.size 0 lo=0) (z2:sIx items.size items.size hi=items.size) (q:Q (.ref t) s):wpAny (model prog w) A (getItem (.ref t) (.ref sl)) Q E s:=by
 obtain⟨os,g1,g2,g3⟩:=id hS
 have tS:s.TypeIs (.ref sl) "slice":=⟨os,g1,g2⟩
 unfold getItem
 try with_reducible refine wpAny_holding ?_
 first|refine wpAny_bind (wpAny_pure ?_)|skip
 refine wpAny_bind (wpAny_sequenceKey hT.typeIs (by decide) ?_)
 refine wpAny_bind (wpAny_callSpecial?_slot (name:=Str.ofString "__getitem__") hT.typeIs Z3 (wpAny_call_entry Z3 hT.typeIs entry_tuple_getitem ?_ (args_tuple_getitem _ _)))
 show wpAny _ _ (X6 (.ref t) >>= _) _ _ s
 refine wpAny_bind (tupleItemsOf_ hT (wpAny_bind (wpAny_typeOf tS ?_)))
 rw[if_pos (by decide)]
 refine wpAny_bind (sliceApplied_gen hS p1 p2 ?_)
 have yes:((((sIx items.size 0 lo:Nat):Int)==0&&(1:Int)==1&&(sIx items.size items.size hi - sIx items.size 0 lo)==items.size)=true):=by
  rw[z1,z2]
  simp
 show wpAny _ _ (if (((sIx items.size 0 lo:Nat):Int)==0&&(1:Int)==1&&(sIx items.size items.size hi - sIx items.size 0 lo)==items.size)=true then _ else _) _ _ s
 rw[if_pos yes]
 refine wpAny_bind (m:=Builtin.Tuple.tupleIsExact _) (wpAny_bind (wpAny_typeOf hT.typeIs (wpAny_pure ?_)))
 rw[if_pos (by decide)]
 exact wpAny_bind (wpAny_rule (wpAny_pure ⟨_,rfl,wpAny_pure q⟩))
end
end HT
namespace L2
open PySem PySem.Spec PyProof.Rows
noncomputable def rSlA(K:i0):V->Option Int->Option Int->Hp->VK->Prop:=λx lo hi H Q=>∃a xs,x=.ref a/\SqT K H a xs /\
 (cutV xs lo hi=xs->Q (.ref a) H)/\∀p,H p=none->Q (.ref p) (upd H p (.tup (cutV xs lo hi)))
theorem sl_tupA{X:Cx}:SlR X (rSlA X.K):=by
 intro pins s σ H x v vl vu lo hi sl Q I rx hS p1 p2 h
 obtain⟨a,xs,rfl,hx,q1,q2⟩:=h
 by_cases z:HT.sIx xs.length 0 lo=0/\HT.sIx xs.length xs.length hi=xs.length
 ·cases rx
  obtain⟨its,r,hT,hz⟩:=I.tuple hx
  have hl:its.toArray.size=xs.length:=by rw[N0];exact r.length.symm
  refine ⟨"tuple",_,Z3.lookup,hT.typeIs,HT.whole_tup hT hS p1 p2 (by rw[hl];exact z.1) (by rw[hl];exact z.2) ⟨.ref a,H,I,rfl,q1 ?_⟩⟩
  unfold cutV
  rw[z.1,z.2]
  simp
 ·exact sl_tup pins s σ H (.ref a) v vl vu lo hi sl Q I rx hS p1 p2 ⟨a,xs,rfl,hx,z,q2⟩
theorem cutV_nn(xs:List V){i j:Int}(hi:0<=i)(hj:0<=j):cutV xs (some i) (some j)=(xs.take j.toNat).drop i.toNat:=by
 unfold cutV
 have e1:HT.sIx xs.length 0 (some i)=min i.toNat xs.length:=by
  show (if i < 0 then (i+(xs.length:Int)).toNat else min i.toNat xs.length)=_
  rw[if_neg (by omega)]
 have e2:HT.sIx xs.length xs.length (some j)=min j.toNat xs.length:=by
  show (if j < 0 then (j+(xs.length:Int)).toNat else min j.toNat xs.length)=_
  rw[if_neg (by omega)]
 rw[e1,e2,List.drop_take]
 by_cases h:i.toNat<=xs.length
 ·rw[L6 h]
  by_cases h2:j.toNat<=xs.length
  ·rw[L6 h2]
  ·rw[Nat.min_eq_right (by omega),W3 (by rw[T3];omega),W3 (by rw[T3];omega)]
 ·rw[X2 (by omega),X2 (by omega)]
  simp
end L2
namespace L3
open PySem PySem.Spec PyProof.Rows L2
noncomputable def dSl3(a b c:AD)(f:D->Int->Int->(Sl->Prop)->Prop):TD:=λρ Q=>dArgs [a,b] ρ λxs ρ1=>looksQ ρ1 xs λds=>match ds with
 | [_,.int i]=>dArgs [c] ρ1 λzs ρ2=>looksQ ρ2 (xs.take 1++zs) λes=>match es with
  | [d,.int j]=>f d i j λr=>Q r ρ2
  | _=>False
 | _=>False
noncomputable def SlOk(K:Fg)(r:V->Option Int->Option Int->Hp->VK->Prop)(f:D->Int->Int->(Sl->Prop)->Prop):Prop :=
 ∀(G:Gh) (F:Hp) (σ:L2.St) (H:Hp) (ρ:Ev) (x:V) (i j:Int) (d:D) (Q:VK) (Qd:Sl->Prop),Rel K G F σ H ρ->At K F H x d->f d i j Qd ->
  (∀v H' F' s,Sub F F'->Rel K G F' σ H' ρ->Res K G F' H' σ ρ v s->Qd s->Q v H')->r x (some i) (some j) H Q
theorem l_sl3{K:Fg}{a b c:AD}{r:V->Option Int->Option Int->Hp->VK->Prop}{f:D->Int->Int->(Sl->Prop)->Prop}(ok:SlOk K r f){σ:L2.St}{H:Hp}{Q:VK}(h:lift K (dSl3 a b c f) σ H Q):tSl r (argT K a) (tPart (argT K b)) (tPart (argT K c)) σ H Q:=by
 obtain⟨G,F,ρ,Qd,R,w,k⟩:=h
 have main:tArgs ([a,b].map (argT K)) σ H λvs H2=>∃x y,vs=[x,y]/\∃i,y=.int i/\argT K c σ H2 λz H3=>∃j,z=.int j/\r x (some i) (some j) H3 Q:=by
  refine args_ok R w λvs H' F' xs ρ' sb R' o w1=>?_
  obtain⟨ds,ha,w1⟩:=looks_ok R' o w1
  split at w1
  ·rename_i dx i
   obtain⟨v,u,rfl,h1,h2⟩:=ha.two
   cases h2.int
   refine ⟨_,_,rfl,i,rfl,?_⟩
   refine arg1 (args_ok (as:=[c]) (Qv:=λvs H4=>∃z,vs=[z]/\∃j,z=.int j/\r v (some i) (some j) H4 Q) R' w1 λvs H2 F2 ys ρ2 s2 R2 o2 w2=>?_)
   cases o with|cons p1 t1=>?_
   cases t1 with|cons p2 t2=>?_
   cases t2
   obtain⟨es,hb,w2⟩:=looks_ok R2 (OpdsAt.cons (p1.mono s2) o2) w2
   split at w2
   ·rename_i d j
    cases hb with|cons q1 t3=>?_
    obtain⟨v3,rfl,h3⟩:=t3.one
    cases h3.int
    exact ⟨_,rfl,j,rfl,ok G F2 σ H2 ρ2 v i j d Q _ R2 q1 w2 λv' H3 F3 s3 sb3 R3 r3 q3=>k v' H3 F3 s3 ρ2 (sb.trans (s2.trans sb3)) R3 r3 q3⟩
   ·exact w2.elim
  ·exact w1.elim
 exact arg2 main
noncomputable def fSl3T:D->Int->Int->(Sl->Prop)->Prop
 | .tuple ds,i,j,Q=>0<=i/\0<=j/\Q (.fz (.tuple ((ds.take j.toNat).drop i.toNat)))
 | _,_,_,_=>False
theorem ok_sl3T{K:Fg}:SlOk K (rSlA K) fSl3T:=λG F σ H ρ x i j d Q Qd R h1 w k=>by
 cases d<;>first|exact w.elim|skip
 rename_i ds
 obtain⟨w1,w2,w⟩:=w
 obtain⟨a,us,rfl,f1,e1,d1⟩:=h1.tuple R.sub
 have dc:=(d1.take j.toNat).drop i.toNat
 refine ⟨a,us,rfl,SqT.of e1,λz=>?_,λp hp=>?_⟩
 ·rw[cutV_nn us w1 w2]at z
  refine k _ H F (.fz _) (Sub.refl _) R (Da.tup f1 ?_) w
  rw[z]at dc
  exact dc
 ·rw[cutV_nn us w1 w2]
  obtain⟨sb,R',dd⟩:=R.newTup hp dc
  exact k _ _ _ (.fz _) sb R' dd w
section
variable {X:Cx}{K:Fg}{e1 e2 e3:Expr}{a b c:AD}{p pos p2 apos cpos:Pos}{x:Str}
theorem w_sl3T(hK:X.K=K)(ha:WE X e1 (argT K a))(hb:WE X e2 (argT K b))(hc:WE X e3 (argT K c)):WE X (.Subscript e1 (.Slice (some e2) (some e3) none p2) pos) (lift K (dSl3 a b c fSl3T)):=by
 subst hK
 exact ⟨peM (pe_slice sl_tupA ha.h (po_some hb.h) (po_some hc.h)) λq=>l_sl3 ok_sl3T q⟩
end
end L3
namespace L2
open PySem PySem.Spec PyProof.Rows PySem.W
theorem eqTupB{X:Cx}{pins:List (Addr×Obj)}{σ:St}{H:Hp}{s:Shared}{a b:Addr}{x y:List Int}{A:Around}(I:Inv X pins σ H s)(hu:A.units < cLine)(ha:H a=some (.tup (x.map V.int)))(hb:H b=some (.tup (y.map V.int))){s':Shared}(k:∀b o,s.heap.get? b=some o->s'.heap.get? b=some o) :
  SeqAt.EqAt A s' (.ref a) (.ref b) (decide (x=y)):=by
 by_cases e:a=b
 ·subst e
  rw[ha]at hb
  injection hb with hb;injection hb with hb
  rw[ints_inj hb,decide_eq_true rfl]
  exact SeqAt.EqAt.same _
 ·have I':Inv X pins σ H { s with heap:=s'.heap }:=I.kept (t':=s.toks) k
  obtain⟨_,ia,ra,ta⟩:=(show ObjOk X.prog X.w H s'.heap a (.tup (x.map V.int)) from I'.hok a _ ha)
  obtain⟨_,ib,rb,tb⟩:=(show ObjOk X.prog X.w H s'.heap b (.tup (y.map V.int)) from I'.hok b _ hb)
  have la:=ra.length
  have lb:=rb.length
  rw[n0]at la lb
  have h:=SeqAt.RcAt.tuples (A:=A) (s:=s') (e:=λk=>x.getD k 0==y.getD k 0) ta.t tb.t hu λj h1 h2=>by
   obtain⟨t1,e1⟩:=vals_intsAt ra (k:=j) (by simpa using h1)
   obtain⟨t2,e2⟩:=vals_intsAt rb (k:=j) (by simpa using h2)
   simp only[G6]
   rw[e1,e2]
   exact SeqAt.EqAt.int_int _ _ _ _
  have hv:((V1 (min ia.toArray.size ib.toArray.size)).all (λk=>x.getD k 0==y.getD k 0)&&ia.toArray.size==ib.toArray.size)=decide (x=y):=by
   simp only[N0,<- la,<- lb]
   by_cases z:x=y
   ·subst z
    rw[decide_eq_true rfl]
    simp
   ·rw[decide_eq_false z,Bool.eq_false_iff]
    intro hb
    rw[O2,q5,beq_iff_eq]at hb
    refine z (List.ext_getElem hb.2 λk k1 k2=>?_)
    have:=hb.1 k (i5.mpr (by omega))
    rw[beq_iff_eq,G1,G1,L0 k1,L0 k2]at this
    exact this
  rw[<- hv]
  exact SeqAt.EqAt.of_refs e h
end L2
namespace L3
open PySem PySem.Spec PyProof.Rows L2
end L3
namespace L2
open PySem PySem.Spec PyProof.Rows
noncomputable def lexG(e l:Nat->Bool)(b:Bool):Nat->Nat->Bool
 | _,0=>b
 | k,m+1=>if e k=true then lexG e l b (k+1) m else l k
section
open PySem.SeqAt
open PySem.AutoSeq1 (wpAny_loadPart')
open PySem.MeetsSeq PySem.MeetsSeq2 PySem.MeetsSeq3
theorem tuple_lt_gen(l b:Addr)(items items2:Array Value)(n n2:Nat)(dd dd2:Option Addr)(sl sl2:Array (Option Value))(e lt:Nat->Bool) :
  Meets (Builtin.«tuple.__lt__» ⟨[.ref l,.ref b],[]⟩) (λA R s=>s.heap.get? l=some { cls:=.type "tuple",dict:=dd,data:=.seq items n,slots:=sl }/\s.heap.get? b=some { cls:=.type "tuple",dict:=dd2,data:=.seq items2 n2,slots:=sl2 } /\
    (∀(k:Nat) (x y:Value),items[k]?=some x->items2[k]?=some y->SeqAt.EqAt A.in1 s x y (e k)) /\
    (∀(k:Nat) (x y:Value),items[k]?=some x->items2[k]?=some y->e k=false->∀(prog:Program) (w:World) (E:Value->Shared->Prop) (Q:Value->Shared->Prop),Q (.bool (lt k)) s->wpAny (model prog w) A.in1 (richCompare .Lt x y) Q E s) /\
    R (.ok (.ret (.bool (lexG e lt (decide (items.size < items2.size)) 0 (min items.size items2.size))))) s):=.of_wp λprog w A R s h=>by
 obtain⟨hp,g,d,tk,os⟩:=s
 obtain⟨hl,hb,hE,hL,h⟩:=h
 have f2:=AutoSeq1.sub_tuple_tuple
 wp_walk using wpAny_loadPart' hl,wpAny_loadPart' hb,wpAny_forIn_list _ (λrest b s'=>b.1=none/\s'=⟨hp,g,d,tk,os⟩/\∃k,rest=(items.toList.zip items2.toList).drop k/\k<=min items.size items2.size/\R (.ok (.ret (.bool (lexG e lt (decide (items.size < items2.size)) k (min items.size items2.size - k))))) ⟨hp,g,d,tk,os⟩) _
 case turn =>
  rintro⟨y,x⟩ rest b s' ⟨hb',rfl,k,hz,hk,hR⟩
  have hlt:k < (items.toList.zip items2.toList).length:=by
   by_cases q:k < (items.toList.zip items2.toList).length
   ·exact q
   ·rw[X2 (by omega)]at hz;cases hz
  rw[K3 hlt]at hz
  injection hz with hyx hrest
  rw[D7]at hyx
  injection hyx with hy hx
  rw[K2,M0,M0]at hlt
  have g1:items[k]?=some y:=by rw[hy,<- Z2];exact L0 _
  have g2:items2[k]?=some x:=by rw[hx,<- Z2];exact L0 _
  obtain⟨m,hm⟩:∃m,min items.size items2.size - k=m+1:=⟨min items.size items2.size - k - 1,by omega⟩
  rw[hm]at hR
  refine wpAny_bind (hE k y x g1 g2 prog w _ _ ?_)
  have hR:R (.ok (.ret (.bool (if e k=true then lexG e lt (decide (items.size < items2.size)) (k+1) m else lt k)))) ⟨hp,g,d,tk,os⟩:=hR
  cases he:e k with
  | true =>
   rw[he,if_pos rfl]at hR
   wp_walk
   exact ⟨rfl,rfl,k+1,hrest,by omega,by rw[show min items.size items2.size - (k+1)=m by omega];exact hR⟩
  | false =>
   rw[he,if_neg W0]at hR
   have hri:=hL k y x g1 g2 he prog w
   wp_walk using hri
   exact ⟨_,rfl,by simpa using hR⟩
 case fin =>
  rintro⟨b1,b2⟩ s' ⟨hb',rfl,k,hz,hk,hR⟩
  simp only at hb'
  subst hb'
  have hk2:min items.size items2.size - k=0:=by
   have:=congrArg Q3 hz
   rw[T3,K2,M0,M0]at this
   simp at this
   omega
  rw[hk2]at hR
  have hR:R (.ok (.ret (.bool (decide (items.size < items2.size))))) ⟨hp,g,d,tk,os⟩:=hR
  wp_walk
  exact ⟨_,rfl,by simpa [i6]using hR⟩
 case h =>
  exact ⟨rfl,rfl,0,rfl,S3 _,h⟩
end
section
variable {prog:Program}{w:World}{A:Around}{R:Result->Shared->Prop}{I:Addr}{fp wr:List Addr}{n:Nat}{P:Nat->Value->Prop}{St:Nat->Heap->Prop}{base:Heap}
noncomputable abbrev CmpK(prog:Program)(w:World)(A:Around)(base:Heap)(P:Nat->Value->Prop)(bt:Nat->Nat->Bool):Prop:=∀i j vi vj (s:Shared) (Q E:Value->Shared->Prop),P i vi->P j vj->(∀b o,base.get? b=some o->s.heap.get? b=some o)->Q (.bool (bt i j)) s->wpAny (model prog w) A (richCompare .Lt vi vj) Q E s
theorem min_loopK(W:Walks prog w A.in1 I fp wr n P St)(bt:Nat->Nat->Bool)(hcmp:CmpK prog w A.in1 base P bt)(S:Addr)(hSf:S∉fp)(hSb:base.get? S=none)(hwb:∀b∈wr,base.get? b=none) :
  ∀(k j:Nat) (s:Shared) (vb:Value) (c:Nat),n - (j+1)=k->j+1<=n->St (j+1) s.heap->P (argBest bt j) vb->(∀b o,base.get? b=some o->s.heap.get? b=some o) ->
  s.heap.get? S=some { cls:=.type "list",dict:=none,data:=.seq #[vb,vb] c,slots:=#[] } ->
  (∀v h' tk,P (argBest bt (n - 1)) v->(∀b o,base.get? b=some o->h'.get? b=some o)->R (.ok (.ret v)) { s with heap:=h',toks:=tk }) ->
  codeAny (model prog w) A (.builtin "min.loop" ⟨[.ref I,.none,.ref S],[]⟩) R s:=by
 have hSw:S∉wr:=λh=>hSf (W.sub _ h)
 have nw:∀{b o},base.get? b=some o->b∉wr:=λe h=>by rw[hwb _ h]at e;cases e
 have nS:∀{b o},base.get? b=some o->b≠S:=λe h=>by rw[h,hSb]at e;cases e
 have hname:(toString "min"++toString ".loop":String) = "min.loop":=by decide
 intro k
 induction k with
 | zero =>
  intro j s vb c hk hj hst hPb hB hS hR
  have hin:j+1=n:=by omega
  refine codeAny_builtin F.entry_min_loop ?_
  rw[Around.under_plainId F.plain_min_loop _]
  refine wpAny_bind (wpAny_seqItems hS rfl ?_)
  refine wpAny_bind (wpAny_tryCatch (W.done s _ _ (hin ▸ hst) λh' tk hk'=>?_))
  have hS':=hk' S _ hSw hS
  refine wpAny_bind ?_
  refine wpAny_updateSeq hS' rfl (wpAny_bind (wpAny_letGo (wpAny_pure ?_)))
  exact hR vb _ tk (by rw[<- hin];exact hPb) λb o e=>(J3 _ _ (G2 (nS e))).trans (hk' b o (nw e) (hB b o e))
 | succ k ih =>
  intro j s vb c hk hj hst hPb hB hS hR
  have hlt:j+1 < n:=by omega
  refine codeAny_builtin F.entry_min_loop ?_
  rw[Around.under_plainId F.plain_min_loop _]
  refine wpAny_bind (wpAny_seqItems hS rfl ?_)
  refine wpAny_bind (wpAny_tryCatch (W.item (j+1) s _ _ hlt hst λv h' tk hP hst' hk'=>?_))
  have hS':=hk' S _ hSw hS
  have hB':∀b o,base.get? b=some o->h'.get? b=some o:=λb o e=>hk' b o (nw e) (hB b o e)
  show wpAny _ A.in1 (tryCatch (holding [v,v] (richCompare .Lt v vb >>= _)) _ >>= _) _ _ _
  refine wpAny_bind (wpAny_tryCatch (wpAny_holding (wpAny_bind (hcmp (j+1) (argBest bt j) v vb _ _ _ hP hPb hB' ?_))))
  refine wpAny_bind (wpAny_holding (wpAny_truthy_bool ?_))
  refine wpAny_bind (wpAny_letGo (wpAny_pure ?_))
  cases hb:bt (j+1) (argBest bt j) with
  | true =>
   simp only[if_true]
   refine wpAny_bind ?_
   refine wpAny_updateSeq hS' rfl (wpAny_bind (wpAny_letGo ?_))
   rw[hname]
   exact wpAny_pure ⟨plainId_quiet F.plain_min_loop _,ih (j+1) _ v _ (by omega) hlt (W.frame _ _ _ hst' λb hbf o e=>(J3 _ _ (λh:S=b=>hSf (by rw[h];exact hbf))).trans e) (by simp only[argBest,hb,if_true];exact hP)
     (λb o e=>(J3 _ _ (G2 (nS e))).trans (hB' b o e)) (X4 _ hS' rfl) λv' h'' tk'' hP' hk''=>hR v' h'' tk'' hP' hk''⟩
  | false =>
   simp only[Q2,if_false]
   refine wpAny_bind (wpAny_letGo ?_)
   rw[hname]
   exact wpAny_pure ⟨plainId_quiet F.plain_min_loop _,ih (j+1) _ vb c (by omega) hlt hst' (by simp only[argBest,hb,Q2,if_false];exact hPb) hB' hS' λv' h'' tk'' hP' hk''=>hR v' h'' tk'' hP' hk''⟩
end
theorem min_firstK{prog:Program}{w:World}{A:Around}{R:Result->Shared->Prop}{I:Addr}{fp wr:List Addr}{n:Nat}{P:Nat->Value->Prop}{St:Nat->Heap->Prop}{base:Heap}(W:Walks prog w A.in1 I fp wr n P St)(bt:Nat->Nat->Bool)(hcmp:CmpK prog w A.in1 base P bt)(S:Addr)(hSf:S∉fp)(hSb:base.get? S=none)(hwb:∀b∈wr,base.get? b=none)(hn:0 < n){s:Shared}{c:Nat}(hst:St 0 s.heap)(hB:∀b o,base.get? b=some o->s.heap.get? b=some o)
  (hS:s.heap.get? S=some { cls:=.type "list",dict:=none,data:=.seq #[] c,slots:=#[] })
  (hR:∀v h' tk,P (argBest bt (n - 1)) v->(∀b o,base.get? b=some o->h'.get? b=some o)->R (.ok (.ret v)) { s with heap:=h',toks:=tk }) :
  codeAny (model prog w) A (.builtin "min.loop" ⟨[.ref I,.none,.ref S],[]⟩) R s:=by
 have hSw:S∉wr:=λh=>hSf (W.sub _ h)
 have hname:(toString "min"++toString ".loop":String) = "min.loop":=by decide
 refine codeAny_builtin F.entry_min_loop ?_
 rw[Around.under_plainId F.plain_min_loop _]
 refine wpAny_bind (wpAny_seqItems hS rfl ?_)
 refine wpAny_bind (wpAny_tryCatch (W.item 0 s _ _ hn hst λv h' tk hP hst' hk'=>?_))
 have hS':=hk' S _ hSw hS
 show wpAny _ A.in1 (updateSeq S (λ_=>#[v,v]) >>= _) _ _ _
 refine wpAny_bind ?_
 refine wpAny_updateSeq hS' rfl ?_
 rw[hname]
 refine wpAny_pure ⟨plainId_quiet F.plain_min_loop _,min_loopK W bt hcmp S hSf hSb hwb _ 0 _ v _ rfl hn (W.frame _ _ _ hst' λb hbf o e=>(J3 _ _ (λh:S=b=>hSf (by rw[h];exact hbf))).trans e) hP (λb o e=>?_) (X4 _ hS' rfl) λv' h'' tk'' hP' hk''=>hR v' h'' tk'' hP' hk''⟩
 refine (J3 _ _ λh=>?_).trans (hk' b o (λh=>?_) (hB b o e))
 ·rw[<- h,hSb]at e;cases e
 ·rw[hwb _ h]at e;cases e
theorem call_minK{prog:Program}{w:World}{A:Around}{E:Value->Shared->Prop}{s:Shared}{l:Addr}{xs:Array Value}{Q:Value->Shared->Prop}(bt:Nat->Nat->Bool)(hh:A.handled=none)(hl:s.heap.IsList l xs)(hn:0 < xs.size)
  (hcmp:CmpK prog w A.in1 s.heap (λi v=>xs[i]?=some v) bt)
  (hQ:∀v h' tk,xs[argBest bt (xs.size - 1)]?=some v->(∀b o,s.heap.get? b=some o->h'.get? b=some o)->Q v { s with heap:=h',toks:=tk }) :
  wpAny (model prog w) A (call (.builtin "min") [.ref l]) Q E s:=by
 have hname:(toString "min"++toString ".loop":String) = "min.loop":=by decide
 refine call_function_tree F.kind_min F.plain_min F.entry_min (F.args_min1 _) ?_
 show wpAny _ A.in1 (P6 "min" ["key","default"] 0 ⟨[],[]⟩ >>= _) _ _ s
 refine wpAny_bind (wpAny_of_eq (show P6 "min" ["key","default"] 0 ⟨[],[]⟩=pure [none,none] from rfl) ?_)
 refine wpAny_bind (wpAny_pure ?_)
 refine wpAny_bind (wpAny_pyIter_list hl ?_)
 refine wpAny_bind (wpAny_newObj_type ?_)
 have hll:l < s.heap.objs.size:=by obtain⟨o,ho,_⟩:=hl;exact v0 ho
 have W:=Walks.list (prog:=prog) (w:=w) (A:=A.in1) hh s.heap.objs.size l (V0 hll) xs
 rw[hname]
 have none_of:∀b:Addr,s.heap.objs.size<=b->s.heap.get? b=none:=λb h=>by
  cases e:s.heap.get? b with
  | none=>rfl
  | some o=>exact absurd (v0 e) (Nat.not_lt.mpr h)
 refine wpAny_pure ⟨plainId_quiet F.plain_min_loop _,min_firstK W bt hcmp _ (λhm=>?_) (none_of _ ?_) (λb hb=>?_) hn ?_ (λb o e=>g0 _ (g0 _ e)) (G0 _ rfl) λv h' tk hv hk=>hQ v h' tk hv hk⟩
 ·simp[B2]at hm
  exact absurd (hm ▸ hll) (by simp)
 ·simp[B2]
 ·rw[W1.mp hb];exact none_of _ (A0 _)
 ·obtain⟨o,ho,hc,m,hd⟩:=hl
  exact ⟨⟨_,g0 _ (G0 _ rfl),rfl,rfl⟩,⟨o,g0 _ (g0 _ ho),hc,m,hd⟩⟩
open PySem.W in
theorem lt_pairK{X:Cx}{pins:List (Addr×Obj)}{σ:St}{H:Hp}{s s':Shared}{A:Around}{c d b1 b2:Addr}{x1 x2:Int}{p1 p2:List Int}{Q E:Value->Shared->Prop}(I:Inv X pins σ H s)(k:∀b o,s.heap.get? b=some o->s'.heap.get? b=some o)(hu:A.units+1 < cLine)
  (hc:H c=some (.tup [.int x1,.ref b1])) (hb1:H b1=some (.tup (p1.map V.int))) (hd:H d=some (.tup [.int x2,.ref b2])) (hb2:H b2=some (.tup (p2.map V.int))) (h:Q (.bool (HT.lexLt (x1 :: p1) (x2 :: p2))) s') :
  wpAny (model X.prog X.w) A (richCompare .Lt (.ref c) (.ref d)) Q E s':=by
 have I':Inv X pins σ H { s with heap:=s'.heap }:=I.kept (t':=s.toks) k
 obtain⟨_,ic,rc,⟨oc1,oc2,oc3,oc4⟩,c1,c2,m1,c3,_⟩:=(show ObjOk X.prog X.w H s.heap c (.tup [.int x1,.ref b1]) from I.hok c _ hc)
 obtain⟨_,id',rd,⟨od1,od2,od3,od4⟩,d1,d2,m2,d3,_⟩:=(show ObjOk X.prog X.w H s.heap d (.tup [.int x2,.ref b2]) from I.hok d _ hd)
 obtain⟨u1,u2,rfl,r1,r2⟩:=vals2 rc
 obtain⟨w1,w2,rfl,r3,r4⟩:=vals2 rd
 obtain⟨t1,rfl⟩:=r1
 obtain⟨t2,rfl⟩:=r3
 cases r2
 cases r4
 simp only at c2 c3 d2 d3
 subst c2 c3 d2 d3
 have hu0:A.in1.units < cLine:=by show A.units+1 < cLine;exact hu
 refine richCompare_meets_room (op:=.Lt) ⟨_,k _ _ c1,rfl⟩ ⟨_,k _ _ d1,rfl⟩ PySem.F.slot_tuple_lt PySem.F.entry_tuple_lt (PySem.F.args_tuple_lt_2 _ _)
  (tuple_lt_gen c d _ _ m1 m2 oc2 od2 oc4 od4 (λj=>if j=0 then decide (x1=x2) else decide (p1=p2)) (λj=>if j=0 then decide (x1 < x2) else HT.lexLt p1 p2)) ⟨k _ _ c1,k _ _ d1,λj x y hx hy=>?_,λj x y hx hy he prog w E Q hq=>?_,?_⟩ (Nat.lt_of_succ_lt hu)
 ·rcases j with _|_|j
  ·cases hx;cases hy
   have:=SeqAt.EqAt.int_int (A:=A.in1) (s:=s') x1 t1 x2 t2
   have e:(x1==x2)=decide (x1=x2):=by by_cases z:x1=x2<;>simp[z]
   rw[e]at this
   rw[if_pos rfl]
   exact this
  ·cases hx;cases hy
   rw[if_neg (by decide)]
   exact eqTupB I hu0 hb1 hb2 k
  ·simp at hx
 ·rcases j with _|_|j
  ·cases hx;cases hy
   exact HT.rcLt_int A.in1 s' x1 t1 x2 t2 prog w E Q hq
  ·cases hx;cases hy
   obtain⟨_,ia,ra,ta⟩:=(show ObjOk X.prog X.w H s'.heap b1 (.tup (p1.map V.int)) from I'.hok b1 _ hb1)
   obtain⟨_,ib,rb,tb⟩:=(show ObjOk X.prog X.w H s'.heap b2 (.tup (p2.map V.int)) from I'.hok b2 _ hb2)
   exact HT.lt_tupInts (prog:=prog) (w:=w) ta.t tb.t (intsAre_of ra) (intsAre_of rb) hu0 hq
  ·simp at hx
 ·have e:lexG (λj=>if j=0 then decide (x1=x2) else decide (p1=p2)) (λj=>if j=0 then decide (x1 < x2) else HT.lexLt p1 p2) (decide ((2:Nat) < 2)) 0 2=HT.lexLt (x1 :: p1) (x2 :: p2):=by
   rw[HT.lexLt_cons]
   by_cases z1:x1=x2
   ·by_cases z2:p1=p2
    ·subst z2
     simp[lexG,z1,SG.lex_wk.irr]
    ·simp[lexG,z1,z2]
   ·simp[lexG,z1]
  show n8 (lexG _ _ (decide ((2:Nat) < 2)) 0 2)≠Y7/\Q (.bool (lexG _ _ (decide ((2:Nat) < 2)) 0 2)) s'
  rw[e]
  exact ⟨(λz=>by cases z),h⟩
theorem argBest_ok{bt:Nat->Nat->Bool}(irr:∀i,bt i i=false)(tr:∀i j k,bt i j=true->bt j k=true->bt i k=true):∀n,argBest bt n<=n/\∀j,j<=n->bt j (argBest bt n)=false
 | 0=>⟨A0 _,λj h=>by rw[show j=0 by omega];exact irr 0⟩
 | n+1=>by
  obtain⟨h1,h2⟩:=argBest_ok irr tr n
  show (if bt (n+1) (argBest bt n) then n+1 else argBest bt n)<=n+1/\∀j,j<=n+1->bt j (if bt (n+1) (argBest bt n) then n+1 else argBest bt n)=false
  cases e:bt (n+1) (argBest bt n) with
  | true =>
   simp only[if_true]
   refine ⟨A0 _,λj hj=>?_⟩
   by_cases z:j=n+1
   ·rw[z];exact irr _
   ·cases e2:bt j (n+1) with
    | false=>rfl
    | true=>exact absurd (h2 j (by omega)) (by rw[tr _ _ _ e2 e];decide)
  | false =>
   simp only[Q2,if_false]
   refine ⟨by omega,λj hj=>?_⟩
   by_cases z:j=n+1
   ·rw[z];exact e
   ·exact h2 j (by omega)
noncomputable abbrev keyP(p:Int×List Int):List Int:=p.1 :: p.2
noncomputable def rMinP(K:i0):List V->Hp->VK->Prop:=λxs H Q=>∃(l:Addr) (ys:List V) (ps:List (Int×List Int)),xs=[.ref l]/\SqL K H l ys/\ys.length=ps.length/\0 < ps.length/\(∀(i:Nat) y,ys[i]?=some y->∃c b p,ps[i]?=some p/\y=.ref c/\H c=some (.tup [.int p.1,.ref b])/\H b=some (.tup (p.2.map V.int))) /\
 ∀(i:Nat) y p,ys[i]?=some y->ps[i]?=some p->(∀q∈ps,HT.lexLt (keyP q) (keyP p)=false)->Q y H
theorem call_minP{X:Cx}{K:i0}(hK:X.K=K)(hc:X.calm=true)(hu:X.A.units+2 < cLine):CallR X (.builtin "min") (rMinP K):=by
 subst hK
 intro pins s σ H xs us Q I r h
 obtain⟨l,ys,ps,rfl,hq,hl,hp,hy,q⟩:=h
 obtain⟨u,rfl,ru⟩:=vals1 r
 cases ru
 obtain⟨its,rv,p,hz⟩:=I.list hq
 have len:=rv.length
 have W:=SG.lex_wk
 obtain⟨g1,g2⟩:=argBest_ok (bt:=λi j=>HT.lexLt (keyP (ps.getD i (0,[]))) (keyP (ps.getD j (0,[])))) (λi=>W.irr _) (λi j k h1 h2=>W.tr _ _ _ h1 h2) (ps.length - 1)
 refine call_minK (xs:=its.toArray) (λi j=>HT.lexLt (keyP (ps.getD i (0,[]))) (keyP (ps.getD j (0,[])))) (I.ok.hd hc) p.isList (by simp;omega) (λi j vi vj s' Q' E' hi hj kk hq'=>?_) λv h' tk hv hk=>?_
 ·obtain⟨y1,e1,r1⟩:=rv.getV (by simpa using hi)
  obtain⟨y2,e2,r2⟩:=rv.getV (by simpa using hj)
  obtain⟨c1,b1,p1,f1,rfl,f2,f3⟩:=hy i y1 e1
  obtain⟨c2,b2,p2,k1,rfl,k2,k3⟩:=hy j y2 e2
  cases r1
  cases r2
  have hq':Q' (.bool (HT.lexLt (keyP (ps.getD i (0,[]))) (keyP (ps.getD j (0,[]))))) s':=hq'
  rw[G1,G1,f1,k1]at hq'
  exact lt_pairK I kk (show X.A.in1.units+1 < cLine from hu) f2 f3 k2 k3 hq'
 ·have hsz:its.toArray.size=ps.length:=by simp;omega
  rw[hsz,List.getElem?_toArray]at hv
  obtain⟨y,ey,ry⟩:=rv.getV hv
  obtain⟨c,b,p0,f1,rfl,f2,f3⟩:=hy _ y ey
  refine ⟨.ref c,H,I.kept hk,ry,q _ _ p0 ey f1 λx hx=>?_⟩
  obtain⟨j,hj⟩:=j6.mp hx
  have hjl:j < ps.length:=(X0.mp hj).1
  have:=g2 j (by omega)
  have this:HT.lexLt (keyP (ps.getD j (0,[]))) (keyP (ps.getD _ (0,[])))=false:=this
  rw[G1,G1,f1,hj]at this
  exact this
end L2
namespace L3
open PySem PySem.Spec PyProof.Rows L2
noncomputable abbrev prP(p:Int×List Int):D:=.tuple [.int p.1,.tuple (p.2.map j0)]
noncomputable def fMinP:D->(Sl->Prop)->Prop
 | .list ds,Q=>∃ps:List (Int×List Int),ds=ps.map prP/\0 < ps.length/\∀m∈ps,(∀q∈ps,HT.lexLt (keyP q) (keyP m)=false)->Q (.fz (prP m))
 | _,_=>False
theorem prP_at{K:Fg}{F:Hp}{v:V}{p:Int×List Int}(h:Da K F v (prP p)):∃c b,v=.ref c/\F c=some (.tup [.int p.1,.ref b])/\F b=some (.tup (p.2.map V.int)):=by
 cases h with
 | tup q t =>
  cases t with
  | cons h1 t =>
   cases t with
   | cons h2 t =>
    cases t
    cases h1
    cases h2 with
    | tup q2 t2 =>
     rw[t2.intsV]at q2
     exact ⟨_,_,rfl,q,q2⟩
theorem ok_minP{K:Fg}:OpOk K (rMinP K) (o1 fMinP):=ok1 λG F σ H ρ x d Q Qd R h1 w k=>by
 cases d<;>first|exact w.elim|skip
 obtain⟨ps,rfl,hp,w⟩:=w
 obtain⟨a,us,rfl,e1,d1⟩:=h1.list R.sub
 have hl:=d1.length
 rw[n0]at hl
 refine ⟨a,us,ps,rfl,SqL.of e1,hl,hp,λi y e=>?_,λi y p e1 e2 hm=>?_⟩
 ·have hi:i < ps.length:=by rw[<- hl];exact (X0.mp e).1
  obtain⟨v,f1,f2⟩:=d1.get (i:=i) (d:=prP ps[i]) (by rw[E1,L0 hi];rfl)
  rw[e]at f1
  cases f1
  obtain⟨c,b,rfl,g1,g2⟩:=prP_at f2
  exact ⟨c,b,ps[i],L0 hi,rfl,R.sub _ _ g1,R.sub _ _ g2⟩
 ·obtain⟨v,f1,f2⟩:=d1.get (i:=i) (d:=prP p) (by rw[E1,e2];rfl)
  rw[e1]at f1
  cases f1
  exact k _ H F (.fz _) (Sub.refl _) R f2 (w p (E2 e2) hm)
end L3
namespace R50
open PySem L2 L3 PyProof.Rows
noncomputable def top(i:Nat):Stmt:=PySem.Challenge.pw_boxsums_k50_windows_told.main.body.getD i (.Pass ⟨0,0,0,0⟩)
structure Txt(mg:Str->Option Value):Prop where
 len_:mg "len"=none
 abs_:mg "abs"=none
 min_:mg "min"=none
 max_:mg "max"=none
 sum_:mg "sum"=none
 dict_:mg "dict"=none
 all_:mg "all"=none
 isinstance_:mg "isinstance"=none
 tuple_:mg "tuple"=none
 list_:mg "list"=none
 int_:mg "int"=none
 bool_:mg "bool"=none
 range_:mg "range"=none
 zip_:mg "zip"=none
 sorted_:mg "sorted"=none
 ValueError_:mg "ValueError"=none
 BoxError_:mg "BoxError"=some (.ref (cA mg "BoxError"))
 NoField_:mg "NoField"=some (.ref (cA mg "NoField"))
 NoBox_:mg "NoBox"=some (.ref (cA mg "NoBox"))
 NoTurn_:mg "NoTurn"=some (.ref (cA mg "NoTurn"))
 NoNumber_:mg "NoNumber"=some (.ref (cA mg "NoNumber"))
 NoText_:mg "NoText"=some (.ref (cA mg "NoText"))
 NoRow_:mg "NoRow"=some (.ref (cA mg "NoRow"))
 NoBack_:mg "NoBack"=some (.ref (cA mg "NoBack"))
structure Cls(K:i0)(mg:Str->Option Value):Prop where
 BoxError_e:ExcC K (cA mg "BoxError")
 NoBox_e:ExcC K (cA mg "NoBox")
 NoBox_q:ExcQ K (cA mg "NoBox")
 NoField_c:clsIn K (cA mg "NoField")=true
 NoBox_c:clsIn K (cA mg "NoBox")=true
 NoTurn_c:clsIn K (cA mg "NoTurn")=true
 NoNumber_c:clsIn K (cA mg "NoNumber")=true
 NoText_c:clsIn K (cA mg "NoText")=true
 NoRow_c:clsIn K (cA mg "NoRow")=true
 NoBack_c:clsIn K (cA mg "NoBack")=true
 NoBox_BoxError:subIn K (cA mg "NoBox") (cA mg "BoxError")=true
 NoBox_NoField:subIn K (cA mg "NoBox") (cA mg "NoField")=false
 NoBox_NoBox:subIn K (cA mg "NoBox") (cA mg "NoBox")=true
 NoBox_NoTurn:subIn K (cA mg "NoBox") (cA mg "NoTurn")=false
 NoBox_NoNumber:subIn K (cA mg "NoBox") (cA mg "NoNumber")=false
 NoBox_NoText:subIn K (cA mg "NoBox") (cA mg "NoText")=false
 NoBox_NoRow:subIn K (cA mg "NoBox") (cA mg "NoRow")=false
 NoBox_NoBack:subIn K (cA mg "NoBox") (cA mg "NoBack")=false
section
variable {P:Program}{w:World}{K:i0}{mg:Str->Option Value}{base:Heap}
noncomputable abbrev penE(ns:List Int)(k l:Int):List (PyData×PyData):=[(.str "script",scrD ns),(.str "at",.int k),(.str "left",.int l)]
noncomputable abbrev penD(ns:List Int)(k l:Int):PyData:=.dict (penE ns k l)
theorem g_script(ns:List Int)(k l:Int):getE (penE ns k l) (.str "script")=some (scrD ns):=by rfl
theorem g_at(ns:List Int)(k l:Int):getE (penE ns k l) (.str "at")=some (.int k):=by rfl
theorem g_left(ns:List Int)(k l:Int):getE (penE ns k l) (.str "left")=some (.int l):=by rfl
theorem s_at(ns:List Int)(k l:Int):(getK (penE ns k l) (.inr "at")).isSome=true:=by rfl
theorem s_left(ns:List Int)(k l:Int):(getK (penE ns k l) (.inr "left")).isSome=true:=by rfl
theorem z3(ns:List Int)(k l:Int):(penE ns k l).length < sizeLine:=by show 3 < sizeLine;decide
noncomputable def cPen:Con:=λargs Q=>∃ns:List Int,args=[.fz (scrD ns)]/\∀o,Q (.ow (penD ns 0 0)) o
theorem scPen:FnScope ["_law_script"] ["_law_script"] (defScope (top 27)):=⟨rfl,rfl,rfl,by decide +kernel,rfl,by decide +kernel,by decide +kernel⟩
theorem ok_pen{f:Addr}{fd:FuncData}(F:Fun K "_law_pen" "_law_pen" (top 27) f fd):FnOk P w K mg base CX0 1 f fd ["_law_script"] (conSp K cPen):=by
 have S:=scPen
 refine wfn F S (λcdv A outer s H E hr=>(s_one (s_ret (w_disp [(.inr "script",.inl 0),(.inr "at",.inr (.int 0)),(.inr "left",.inr (.int 0))] (by decide +kernel) (by decide) (by simp) (pe_disp (pps_cons pe_str (pv 0) (pps_cons pe_str pe_int (pps_cons pe_str pe_int pps_nil))) rfl rfl (by simp) (by simp)))))) ?_ ?_
 ·rintro args Qd ⟨ns,rfl,_⟩;rfl
 ·rintro args Qd ⟨ns,rfl,q⟩
  exact ⟨noOw_of rfl,q _⟩
noncomputable def cTake:Con:=λargs Q=>∃(ns:List Int) (k l m:Int),args=[.io (penD ns k l),.fz (.int m)]/\0<=k/\0<=l/\0 < m/\m < 1000000 /\
 ∀(r k' l':Int) (o:Ev),0<=r->r < m->0<=k'->0<=l'->Q (.fz (.int r)) (some (.io (penD ns k' l')) :: o)
theorem scTake:FnScope ["_law_pen_here","_law_many","_law_digit","_law_script","_law_at","_law_cell","_law_number_here"] ["_law_pen_here","_law_many"] (defScope (top 28)):=⟨rfl,rfl,rfl,by decide +kernel,rfl,by decide +kernel,by decide +kernel⟩
theorem ok_take{f:Addr}{fd:FuncData}(F:Fun K "_law_take" "_law_take" (top 28) f fd)(T:Txt mg):FnOk P w K mg base CX0 1 f fd ["_law_pen_here","_law_many"] (conSp K cTake):=by
 have S:=scTake
 refine wfn F S (λcdv A outer s H E hr=>(s_cons (s_if (t_cmp ok_gt op_gt (wx (w_dget (hu_of hr) (wn 0) (wx w_str))) (wx w_int)) (s_cons (s_set (i:=2) S.nd rfl (Or.inl rfl) (w_bin ok_mod op_mod (wx (w_dget (hu_of hr) (wn 0) (wx w_str))) (wn 1)))
     (s_cons (s_key (hu_of hr) (wn 0) (wx w_str) (w_bin ok_fdiv op_fdiv (wx (w_dget (hu_of hr) (wn 0) (wx w_str))) (wn 1)))
     (s_one (s_retV (wn 2))))) s_nil)
     (s_cons (s_set (i:=3) S.nd rfl (Or.inl rfl) (w_dget (hu_of hr) (wn 0) (wx w_str)))
     (s_cons (s_set (i:=4) S.nd rfl (Or.inl rfl) (w_dget (hu_of hr) (wn 0) (wx w_str)))
     (s_cons (s_key (hu_of hr) (wn 0) (wx w_str) (w_bin ok_add op_addD (wn 4) (wx w_int)))
     (s_cons (s_set (i:=5) S.nd rfl (Or.inl rfl) (w_bin ok_add op_addD (wx (w_bin ok_mul op_mulD (wx w_int) (wn 4))) (wx w_int)))
     (s_cons (s_if (t_cmp ok_lt op_lt (wn 4) (wx (w_callB ok_len (call_lenK (K:=K) rfl) T.len_ PySem.boot_len (wa_cons (wn 3) wa_nil)))) (s_cons (s_set (i:=5) S.nd rfl (Or.inl rfl) (w_ix rfl (wn 3) (wn 4)))
     (s_one (s_if (t_cmp ok_ge op_ge (wx (w_callB ok_abs call_abs T.abs_ boot_abs (wa_cons (wn 5) wa_nil))) (wx (w_bin ok_pow op_pow (wx w_int) (wx w_int)))) (s_cons (s_key (hu_of hr) (wn 0) (wx w_str) (w_bin ok_fdiv op_fdiv (wx (w_callB ok_abs call_abs T.abs_ boot_abs (wa_cons (wn 5) wa_nil))) (wn 1)))
     (s_one (s_ret (w_bin ok_mod op_mod (wx (w_callB ok_abs call_abs T.abs_ boot_abs (wa_cons (wn 5) wa_nil))) (wn 1))))) s_nil))) (s_one (s_if (t_cmp ok_gt op_gt (wx (w_callB ok_len (call_lenK (K:=K) rfl) T.len_ PySem.boot_len (wa_cons (wn 3) wa_nil))) (wx w_int)) (s_one (s_set (i:=5) S.nd rfl (Or.inl rfl) (w_bin ok_add op_addD (wx (w_bin ok_mod op_mod (wx (w_ix rfl (wn 3) (wx (w_bin ok_mod op_mod (wn 4) (wx (w_callB ok_len (call_lenK (K:=K) rfl) T.len_ PySem.boot_len (wa_cons (wn 3) wa_nil))))))) (wx (w_bin ok_pow op_pow (wx w_int) (wx w_int))))) (wx (w_bin ok_mul op_mulD (wx w_int) (wn 4)))))) s_nil)))
     (s_cons (s_set (i:=6) S.nd rfl (Or.inl rfl) (w_bin ok_mod op_mod (wx (w_bin ok_mul op_mulD (wx (w_bin ok_add op_addD (wx (w_bin ok_add op_addD (wx (w_bin ok_mod op_mod (wn 5) (wx w_int))) (wx (w_bin ok_mul op_mulD (wx w_int) (wn 4))))) (wx w_int))) (wx w_int))) (wx w_int)))
     (s_cons (s_set (i:=6) S.nd rfl (Or.inl rfl) (w_bin ok_mod op_mod (wx (w_bin ok_add op_addD (wx (w_bin ok_mul op_mulD (wn 6) (wx (w_bin ok_add op_addD (wx (w_bin ok_mod op_mod (wn 6) (wx w_int))) (wx w_int))))) (wx w_int))) (wx w_int)))
     (s_one (s_ret (w_bin ok_mod op_mod (wx (w_bin ok_fdiv op_fdiv (wn 6) (wx w_int))) (wn 1))))))))))))) ?_ ?_
 ·rintro args Qd ⟨ns,k,l,m,rfl,_⟩;rfl
 ·rintro args Qd ⟨ns,k,l,m,rfl,hk,hl,m0,m1,q⟩
  have hmd:∀x:Int,0<=x % m/\x % m < m:=λx=>⟨Int.emod_nonneg _ (by omega),Int.emod_lt_of_pos _ m0⟩
  refine ⟨noOw_of rfl,?_⟩
  refine ⟨_,g_left ns k l,?_⟩
  refine ite2 (λh1=>?_) (λh1=>?_)
  ·exact ⟨_,g_left ns k l,m0,_,g_left ns k l,⟨m0,by omega⟩,z3 ns k l,s_left ns k l,q _ _ _ _ (hmd _).1 (hmd _).2 hk (Int.ediv_nonneg hl (by omega))⟩
  refine ⟨_,g_script ns k l,?_⟩
  refine ⟨_,g_at ns k l,?_⟩
  refine ⟨z3 ns k l,s_at ns k l,?_⟩
  refine ⟨.inl ⟨by decide,by decide⟩,?_⟩
  refine ⟨ns,rfl,?_⟩
  refine ite2 (λh2=>?_) (λh2=>?_)
  ·have h2:k < (ns.length:Int):=of_decide_eq_true h2
   obtain⟨j,hj⟩:=A4 hk
   have hjl:j < ns.length:=by omega
   refine ⟨ns,ns[j],rfl,by rw[hj];exact atI_nat (L0 hjl),?_⟩
   have hab:0<=(if ns[j] < 0 then -ns[j] else ns[j]):=by split<;>omega
   refine ⟨⟨by decide,by decide,by decide⟩,?_⟩
   refine ite2 (λh3=>?_) (λh3=>?_)
   ·exact ⟨⟨m0,by omega⟩,z3 ns (k+1) l,s_left ns (k+1) l,m0,q _ _ _ _ (hmd _).1 (hmd _).2 (by omega) (Int.ediv_nonneg hab (by omega))⟩
   ·refine ⟨by show (0:Int) < 2147483629;decide,.inl ⟨by decide,by decide⟩,.inr ⟨by decide,by decide⟩,by show (0:Int) < 2147483587;decide,?_⟩
    refine ⟨by show (0:Int) < 65521;decide,.inl ⟨by omega,by omega⟩,by show (0:Int) < 2147483563;decide,?_⟩
    exact ⟨⟨by decide,by decide⟩,m0,q _ _ _ _ (hmd _).1 (hmd _).2 (by omega) hl⟩
  ·refine ⟨ns,rfl,?_⟩
   refine ite2 (λh3=>?_) (λh3=>?_)
   ·have hpos:(0:Int) < (ns.length:Int):=of_decide_eq_true h3
    have hb:=Int.emod_lt_of_pos k hpos
    have ha:=Int.emod_nonneg k (show (ns.length:Int)≠0 by omega)
    obtain⟨j,hj⟩:=A4 ha
    have hjl:j < ns.length:=by omega
    refine ⟨ns,rfl,hpos,ns,ns[j],rfl,by rw[hj];exact atI_nat (L0 hjl),⟨by decide,by decide,by decide⟩,by show (0:Int) < 10 ^ 17;decide,.inl ⟨by decide,by decide⟩,?_⟩
    refine ⟨by show (0:Int) < 2147483629;decide,.inl ⟨by decide,by decide⟩,.inr ⟨by decide,by decide⟩,by show (0:Int) < 2147483587;decide,?_⟩
    refine ⟨by show (0:Int) < 65521;decide,.inl ⟨by omega,by omega⟩,by show (0:Int) < 2147483563;decide,?_⟩
    exact ⟨⟨by decide,by decide⟩,m0,q _ _ _ _ (hmd _).1 (hmd _).2 (by omega) hl⟩
   ·refine ⟨by show (0:Int) < 2147483629;decide,.inl ⟨by decide,by decide⟩,.inr ⟨by decide,by decide⟩,by show (0:Int) < 2147483587;decide,?_⟩
    refine ⟨by show (0:Int) < 65521;decide,.inl ⟨by omega,by omega⟩,by show (0:Int) < 2147483563;decide,?_⟩
    exact ⟨⟨by decide,by decide⟩,m0,q _ _ _ _ (hmd _).1 (hmd _).2 (by omega) hl⟩
end
section
variable {P:Program}{w:World}{K:i0}{mg:Str->Option Value}{base:Heap}
theorem rangeD_succ(lo:Int)(n:Nat):rangeD lo (n+1)=j0 lo :: rangeD (lo+1) n:=by
 simp only[rangeD,List.range_succ_eq_map,X1,P0]
 refine congr (congrArg List.cons (by simp)) (S2 λa _=>?_)
 simp only[Function.comp_def,PyData.int.injEq,Int.natCast_succ]
 omega
noncomputable def prodI:List Int->Int
 | []=>1
 | a :: r=>a * prodI r
theorem prodI_pos:∀{l:List Int},(∀c∈l,1<=c)->1<=prodI l
 | [],_=>B6 _
 | a :: r,h=>by
  have h1:=h a K0
  have h2:=prodI_pos (l:=r) λc hc=>h c (u0 _ hc)
  show 1<=a * prodI r
  have:=X7 h1 h2 (by decide) (by omega)
  omega
theorem prodI_append(l r:List Int):prodI (l++r)=prodI l * prodI r:=by
 induction l with
 | nil=>show prodI r=1 * prodI r;rw[T7]
 | cons a l ih=>show a * prodI (l++r)=a * prodI l * prodI r;rw[ih,v7]
structure Sd(sd:List Int):Prop where
 l1:1<=sd.length
 l3:sd.length<=3
 p:∀c∈sd,1<=c
 m:prodI sd<=120
noncomputable abbrev tupD(p:List Int):PyData:=.tuple (p.map j0)
theorem prodI_reverse(l:List Int):prodI l.reverse=prodI l:=by
 induction l with
 | nil=>rfl
 | cons a l ih =>
  rw[Z4,prodI_append,ih]
  show prodI l * (a * 1)=a * prodI l
  rw[h7,Int.mul_comm]
structure CalsB(P:Program)(w:World)(K:i0)(mg:Str->Option Value)(base:Heap):Prop where
 law_take:Cal P w K mg base 1 "_law_take" ["_law_pen_here","_law_many"] (conSp K cTake)
noncomputable def cSides:Con:=λargs Q=>∃(ns:List Int) (k l m:Int),args=[.io (penD ns k l),.fz (.int m)]/\0<=k/\0<=l/\1<=m/\m<=120 /\
 ∀(sd:List Int) (k' l':Int) (o:Ev),Sd sd->prodI sd<=m->0<=k'->0<=l'->Q (.ow (.list (sd.map j0))) (some (.io (penD ns k' l')) :: o)
theorem scSides:FnScope ["_law_pen_here","_law_most","_law_ways","_law_thin","_law_sides_here","_law_left","_law_way","_law_top","_law_side"] ["_law_pen_here","_law_most"] (defScope (top 31)):=⟨rfl,rfl,rfl,by decide +kernel,rfl,by decide +kernel,by decide +kernel⟩
theorem ok_sides{f:Addr}{fd:FuncData}(F:Fun K "_law_sides" "_law_sides" (top 31) f fd)(T:Txt mg)(C:CalsB P w K mg base):FnOk P w K mg base CX0 2 f fd ["_law_pen_here","_law_most"] (conSp K cSides):=by
 have S:=scSides
 refine wfn F S (λcdv A outer s H E hr=>(s_cons (s_set (i:=2) S.nd rfl (Or.inl rfl) (w_bin ok_add op_addD (wx w_int) (wx (w_fnI C.law_take (hr.mono (by first|decide|omega)) (wa_cons (wn 0) (wa_cons (wx w_int) wa_nil))))))
     (s_cons (s_set (i:=3) S.nd rfl (Or.inl rfl) (w_cmp ok_eq (op_eqE (K:=K) rfl hr.units) (wx (w_fnI C.law_take (hr.mono (by first|decide|omega)) (wa_cons (wn 0) (wa_cons (wx w_int) wa_nil)))) (wx w_int)))
     (s_cons (s_set (i:=4) S.nd rfl (Or.inl rfl) (w_lst wa_nil))
     (s_cons (s_move (i:=5) S.nd rfl (Or.inl rfl) (wn 1))
     (s_cons (s_for [6,7,8] PassesOwn.never rfl (i_rng1 T.range_ (wa_cons (wn 2) wa_nil)) (g_name (i:=6) S.nd rfl (Or.inl rfl)) (s_cons (s_set (i:=7) S.nd rfl (Or.inl rfl) (w_ix rfl (wx (w_lst (wa_cons (wx w_int) (wa_cons (wx w_int) (wa_cons (wx w_int) wa_nil))))) (wx (w_bin ok_sub op_sub (wn 2) (wx w_int)))))
     (s_cons (s_if (t_val (wv 3)) (s_one (s_set (i:=7) S.nd rfl (Or.inl rfl) (w_ix rfl (wx (w_lst (wa_cons (wx w_int) (wa_cons (wx w_int) wa_nil)))) (wx (w_callT ok_int call_int1 T.int_ boot_int (wa_cons (wx (w_cmp ok_eq (op_eqE (K:=K) rfl hr.units) (wn 6) (wx (w_bin ok_sub op_sub (wn 2) (wx w_int))))) wa_nil)))))) s_nil)
     (s_cons (s_set (i:=8) S.nd rfl (Or.inl rfl) (w_bin ok_add op_addD (wx w_int) (wx (w_fnI C.law_take (hr.mono (by first|decide|omega)) (wa_cons (wn 0) (wa_cons (wx (w_callB ok_2I (call_min2 rfl) T.min_ boot_min (wa_cons (wn 5) (wa_cons (wn 7) wa_nil)))) wa_nil))))))
     (s_cons (s_expr (w_m ok_append rfl PySem.F.slot_list_append PySem.F.type_list_append mt_append (wn 4) (wa_cons (wx (wv 8)) wa_nil)))
     (s_one (s_set (i:=5) S.nd rfl (Or.inl rfl) (w_bin ok_fdiv op_fdiv (wn 5) (wn 8)))))))))
     (s_cons (s_if (t_w (t_and (t_val (wv 3)) (t_and1 (t_cmp ok_eq (op_eqE (K:=K) rfl hr.units) (wx (w_fnI C.law_take (hr.mono (by first|decide|omega)) (wa_cons (wn 0) (wa_cons (wx w_int) wa_nil)))) (wx w_int))))) (s_one (s_expr (w_m0 ok_reverse rfl PySem.F.slot_list_reverse PySem.F.type_list_reverse mt_reverse (wn 4)))) s_nil)
     (s_one (s_retV (wn 4)))))))))) ?_ ?_
 ·rintro args Qd ⟨ns,k,l,m,rfl,_⟩;rfl
 ·rintro args Qd ⟨ns,k,l,m,rfl,hk,hl,m1,m2,q⟩
  refine ⟨noOw_of rfl,?_⟩
  refine ⟨ns,k,l,_,rfl,hk,hl,by decide,by decide,λw0 k1 l1 _ w00 w01 hk1 hl1=>?_⟩
  refine ⟨ns,k1,l1,_,rfl,hk1,hl1,by decide,by decide,λth k2 l2 _ _ _ hk2 hl2=>?_⟩
  refine ⟨by omega,by omega,loopC (λrest ρ=>∃(lc:Int) (fs:List Int) (k4 l4:Int),ρ=[some (.io (penD ns k4 l4)),some (.fz (.int m)),some (.fz (.int (1+w0))),some (.fz (.bool (decide (th=3)))),some (.ow (.list (fs.map j0))),some (.fz (.int lc)),none,none,none] /\
      (∃n:Nat,rest=rangeD fs.length n/\(fs.length:Int)+n=1+w0)/\(∀c∈fs,1<=c)/\1<=lc/\prodI fs * lc<=m/\0<=k4/\0<=l4) ?_ ?_
    ⟨m,[],k2,l2,rfl,⟨(1+w0).toNat,rfl,by simp;omega⟩,λc hc=>by simp at hc,m1,by show 1 * m<=m;omega,hk2,hl2⟩⟩
  ·rintro d ds ρ ⟨lc,fs,k4,l4,rfl,⟨n,en,hlen⟩,hfp,hm1,hpm,hk4,hl4⟩ N hN
   cases n with
   | zero=>cases en
   | succ n =>
    rw[rangeD_succ]at en
    cases en
    have hp1:=prodI_pos hfp
    have hmc:lc<=m:=B8 (by have:=U4 hp1 (show (0:Int)<=lc by omega);omega) hpm
    have pick:∃x:Int,atI [j0 120,j0 12,j0 6] (1+w0 - 1)=some (.int x)/\1<=x:=by
     have:w0=0\/w0=1\/w0=2:=by omega
     rcases this with rfl|rfl|rfl
     ·exact ⟨120,rfl,by decide⟩
     ·exact ⟨12,rfl,by decide⟩
     ·exact ⟨6,rfl,by decide⟩
    obtain⟨x,hx,hx1⟩:=pick
    refine ⟨_,hx,?_⟩
    refine ite2 (λhb=>?_) (λhb=>?_)
    ·have pick2:∃y:Int,atI [j0 2,j0 120] (if decide ((fs.length:Int)=1+w0 - 1)=true then 1 else 0)=some (.int y)/\1<=y:=by
      split
      ·exact ⟨120,rfl,by decide⟩
      ·exact ⟨2,rfl,by decide⟩
     obtain⟨y,hy,hy1⟩:=pick2
     refine ⟨_,hy,?_⟩
     refine ⟨ns,k4,l4,_,rfl,hk4,hl4,by split<;>omega,by split<;>omega,λr6 k6 l6 _ r60 r61 hk6 hl6=>?_⟩
     have hs1:1+r6<=lc:=by
      have:(if y < lc then y else lc)<=lc:=by split<;>omega
      omega
     refine ⟨by rw[n0];exact J0 (show fs.length < 1000 by omega) (by decide),⟨by omega,by omega⟩,?_⟩
     refine hN _ ⟨lc / (1+r6),fs++[1+r6],k6,l6,by rw[B3];rfl,⟨n,by rw[R0];rfl,by rw[R0,U1];omega⟩,?_,S7 (by omega) (by omega),?_,hk6,hl6⟩
     ·intro c hc
      rcases u3.mp hc with z|z
      ·exact hfp c z
      ·rw[W1.mp z];omega
     ·rw[prodI_append]
      show prodI fs * ((1+r6) * 1) * (lc / (1+r6))<=m
      have h1:(1+r6) * (lc / (1+r6))<=lc:=d8 (by omega)
      have h2:prodI fs * ((1+r6) * (lc / (1+r6)))<=prodI fs * lc:=N3 h1 (by omega)
      rw[h7,v7]
      omega
    ·obtain⟨y,ey⟩:∃y,y=x:=⟨x,rfl⟩
     subst ey
     refine ⟨ns,k4,l4,_,rfl,hk4,hl4,by split<;>omega,by split<;>omega,λr6 k6 l6 _ r60 r61 hk6 hl6=>?_⟩
     have hs1:1+r6<=lc:=by
      have:(if y < lc then y else lc)<=lc:=by split<;>omega
      omega
     refine ⟨by rw[n0];exact J0 (show fs.length < 1000 by omega) (by decide),⟨by omega,by omega⟩,?_⟩
     refine hN _ ⟨lc / (1+r6),fs++[1+r6],k6,l6,by rw[B3];rfl,⟨n,by rw[R0];rfl,by rw[R0,U1];omega⟩,?_,S7 (by omega) (by omega),?_,hk6,hl6⟩
     ·intro c hc
      rcases u3.mp hc with z|z
      ·exact hfp c z
      ·rw[W1.mp z];omega
     ·rw[prodI_append]
      show prodI fs * ((1+r6) * 1) * (lc / (1+r6))<=m
      have h1:(1+r6) * (lc / (1+r6))<=lc:=d8 (by omega)
      have h2:prodI fs * ((1+r6) * (lc / (1+r6)))<=prodI fs * lc:=N3 h1 (by omega)
      rw[h7,v7]
      omega
  ·rintro ρ ⟨lc,fs,k4,l4,rfl,⟨n,en,hlen⟩,hfp,hm1,hpm,hk4,hl4⟩
   cases n with
   | succ n=>rw[rangeD_succ]at en;cases en
   | zero =>
    have hp1:=prodI_pos hfp
    have hpp:=N3 hm1 (show (0:Int)<=prodI fs by omega)
    have hsd:Sd fs:=⟨by omega,by omega,hfp,by omega⟩
    have hsr:Sd fs.reverse:=⟨by rw[M6];omega,by rw[M6];omega,λc hc=>hfp c (B7.mp hc),by rw[prodI_reverse];omega⟩
    refine ite2 (λhb=>?_) (λhb=>?_)
    ·refine ⟨ns,k4,l4,_,rfl,hk4,hl4,by decide,by decide,λr6 k6 l6 _ r60 r61 hk6 hl6=>?_⟩
     refine ite2 (λhb=>?_) (λhb=>?_)
     ·have e:(fs.map j0).reverse=fs.reverse.map j0:=by rw[List.map_reverse]
      refine (?_:Qd (Sl.ow (M4 (fs.map j0).reverse)) _)
      rw[e]
      exact q fs.reverse k6 l6 _ hsr (by rw[prodI_reverse];omega) hk6 hl6
     ·exact q fs k6 l6 _ hsd (by omega) hk6 hl6
    ·exact q fs k4 l4 _ hsd (by omega) hk4 hl4
end
noncomputable def eachA{α:Type}(acc:List (List α)):List (List α)->List (List α)
 | []=>acc
 | c :: cs=>eachA (acc.flatMap λp=>c.map λx=>p++[x]) cs
noncomputable def lenP{α:Type}:List (List α)->Nat
 | []=>1
 | c :: cs=>c.length * lenP cs
theorem lenP_pos{α:Type}:∀{cs:List (List α)},(∀c∈cs,c≠[])->1<=lenP cs
 | [],_=>A0 _
 | c :: cs,h=>by
  have h1:1<=c.length:=D5.mpr (h c K0)
  have h2:=lenP_pos (cs:=cs) λd hd=>h d (u0 _ hd)
  exact Nat.mul_le_mul h1 h2
theorem flat_len{α:Type}(c:List α):∀acc:List (List α),(acc.flatMap λp=>c.map λx=>p++[x]).length=acc.length * c.length
 | []=>by simp
 | p :: acc=>by rw[M3,R0,flat_len c acc,n0,E3,x8,Nat.add_comm]
theorem eachA_len{α:Type}:∀(cs acc:List (List α)),(eachA acc cs).length=acc.length * lenP cs
 | [],acc=>by simp[eachA,lenP]
 | c :: cs,acc=>by rw[eachA,eachA_len cs,flat_len,lenP,m8]
noncomputable def rng(s:Int):List Int:=(V1 s.toNat).map λ(n:Nat)=>(n:Int)
theorem rangeD_rng(s:Int):rangeD 0 s.toNat=(rng s).map j0:=by simp[rangeD,rng,P0,Function.comp_def]
theorem rng_len(s:Int):(rng s).length=s.toNat:=by simp[rng]
noncomputable def plc(sd:List Int):List (List Int):=eachA [[]] (sd.map rng)
theorem lenP_rng:∀{sd:List Int},(∀c∈sd,1<=c)->(lenP (sd.map rng):Int)=prodI sd
 | [],_=>rfl
 | a :: r,h=>by
  have h1:=h a K0
  have h2:=lenP_rng (sd:=r) λc hc=>h c (u0 _ hc)
  show ((((rng a).length * lenP (r.map rng):Nat)):Int)=a * prodI r
  rw[rng_len,Int.natCast_mul,h2]
  congr 1
  omega
open PySem PySem.Spec L2 L3 PyProof.Rows
theorem zipD_ints(a b:List Int):zipD (a.map j0) (b.map j0)=(a.zip b).map λp=>N1 [.int p.1,.int p.2]:=by
 rw[zipD,List.zip_map,P0];rfl
noncomputable def rng2(a b:Int):List Int:=(V1 (b+1 - a).toNat).map λ(n:Nat)=>a+(n:Int)
theorem rangeD_rng2(a b:Int):rangeD a (b+1 - a).toNat=(rng2 a b).map j0:=by simp[rangeD,rng2,P0,Function.comp_def]
theorem rng2_zero(s:Int):rng2 0 (s - 1)=rng s:=by
 unfold rng2 rng
 rw[show s - 1+1 - 0=s by omega]
 simp
noncomputable def btw(low high:List Int):List (List Int):=eachA [[]] ((low.zip high).map λp=>rng2 p.1 p.2)
theorem zip_zero:∀sd:List Int,((sd.map λ_=>(0:Int)).zip (sd.map λs=>s - 1))=sd.map λs=>(0,s - 1)
 | []=>rfl
 | a :: r=>by simp[zip_zero r]
theorem le_prodI:∀{sd:List Int},(∀c∈sd,1<=c)->∀c∈sd,c<=prodI sd
 | a :: r,h,c,hc=>by
  have h1:=h a K0
  have hr:∀c∈r,1<=c:=λc hc=>h c (u0 _ hc)
  have h2:=prodI_pos hr
  show c<=a * prodI r
  rcases Y0.mp hc with rfl|hc
  ·have:=N3 h2 (show (0:Int)<=c by omega);omega
  ·have h3:=le_prodI hr c hc
   have:=U4 h1 (show (0:Int)<=prodI r by omega);omega
noncomputable def idx(sd pl:List Int):Int:=(sd.zip pl).foldl (λi p=>i * p.1+p.2) 0
noncomputable def InW{α:Type}:List α->List (List α)->Prop
 | [],[]=>True
 | x :: xs,c :: cs=>x∈c/\InW xs cs
 | _,_=>False
theorem each_mem{α:Type}:∀{cs acc:List (List α)}{p:List α},p∈eachA acc cs->∃a∈acc,∃q,p=a++q/\InW q cs
 | [],acc,p,h=>⟨p,h,[],by simp,trivial⟩
 | c :: cs,acc,p,h=>by
  obtain⟨a',ha',q,rfl,hq⟩:=each_mem (cs:=cs) h
  obtain⟨a,ha,hb⟩:=u5.mp ha'
  obtain⟨x,hx,rfl⟩:=T0.mp hb
  exact ⟨a,ha,x :: q,by simp,hx,hq⟩
theorem each_mem0{α:Type}{cs:List (List α)}{p:List α}(h:p∈eachA [[]] cs):InW p cs:=by
 obtain⟨a,ha,q,rfl,hq⟩:=each_mem h
 simp at ha
 subst ha
 exact hq
noncomputable def Wi:List Int->List Int->Prop
 | [],[]=>True
 | x :: xs,s :: ss=>(0<=x/\x < s)/\Wi xs ss
 | _,_=>False
theorem plc_len{sd:List Int}(hp:∀c∈sd,1<=c):((plc sd).length:Int)=prodI sd:=by
 rw[plc,eachA_len,<- lenP_rng hp]
 simp
theorem wi_len:∀{p sd:List Int},Wi p sd->p.length=sd.length
 | [],[],_=>rfl
 | [],_ :: _,h=>h.elim
 | _ :: _,[],h=>h.elim
 | _ :: _,_ :: _,h=>by simp[wi_len h.2]
theorem idx_b:∀{sd pl:List Int}{i m:Int},Wi pl sd->0<=i->i < m->0<=(sd.zip pl).foldl (λi p=>i * p.1+p.2) i/\(sd.zip pl).foldl (λi p=>i * p.1+p.2) i < m * prodI sd
 | [],[],i,m,_,h0,h1=>by simp[prodI];omega
 | [],_ :: _,_,_,h,_,_=>h.elim
 | _ :: _,[],_,_,h,_,_=>h.elim
 | s :: ss,x :: xs,i,m,h,h0,h1=>by
  have hx:=h.1
  have hs:0<=s:=by omega
  have e1:0<=i * s:=Int.mul_nonneg h0 hs
  have e2:i * s<=(m - 1) * s:=U4 (by omega) hs
  rw[Int.sub_mul,T7]at e2
  have:=idx_b (sd:=ss) (pl:=xs) (i:=i * s+x) (m:=m * s) h.2 (by omega) (by omega)
  rw[v7]at this
  exact this
theorem rng_at{s:Int}{j:Nat}{x:Int}(h:(rng s)[j]?=some x):x=j/\(j:Int) < s:=by
 unfold rng at h
 rw[E1,B4]at h
 obtain⟨n,hn,rfl⟩:=h
 rw[X0]at hn
 obtain⟨h1,h2⟩:=hn
 simp at h1 h2
 omega
theorem flat_at{s:Int}(hs:1<=s):∀{acc:List (List Int)}{j':Nat}{a':List Int},(acc.flatMap λp=>(rng s).map λx=>p++[x])[j']?=some a' ->
  ∃(j:Nat) (a:List Int) (x:Int),acc[j]?=some a/\a'=a++[x]/\(0<=x/\x < s)/\(j':Int)=j * s+x
 | [],j',a',h=>by simp at h
 | a :: acc,j',a',h=>by
  rw[M3]at h
  rcases A8 j' ((rng s).map λx=>a++[x]).length with g|g
  ·rw[T1 g,E1,B4]at h
   obtain⟨x,hx,rfl⟩:=h
   obtain⟨rfl,h2⟩:=rng_at hx
   exact ⟨0,a,_,rfl,rfl,⟨by omega,h2⟩,by simp⟩
  ·rw[B1 g]at h
   obtain⟨j,b,x,h1,h2,h3,h4⟩:=flat_at hs h
   rw[n0,rng_len]at g h4
   refine ⟨j+1,b,x,h1,h2,h3,?_⟩
   rw[show ((j+1:Nat):Int)=(j:Int)+1 by omega,Int.add_mul,T7]
   omega
theorem each_at:∀{sd:List Int}{acc:List (List Int)}{k:Nat}{p:List Int},(∀c∈sd,1<=c)->(eachA acc (sd.map rng))[k]?=some p ->
  ∃(j:Nat) (a q:List Int),acc[j]?=some a/\p=a++q/\Wi q sd/\(sd.zip q).foldl (λi p=>i * p.1+p.2) (j:Int)=k
 | [],acc,k,p,_,h=>⟨k,p,[],h,by simp,trivial,rfl⟩
 | s :: ss,acc,k,p,hp,h=>by
  obtain⟨j',a',q',h1,h2,h3,h4⟩:=each_at (sd:=ss) (λc hc=>hp c (u0 _ hc)) h
  obtain⟨j,a,x,g1,g2,g3,g4⟩:=flat_at (hp s K0) h1
  refine ⟨j,a,x :: q',g1,by rw[h2,g2];simp,⟨g3,h3⟩,?_⟩
  rw[g4]at h4
  exact h4
theorem plc_at{sd:List Int}(hp:∀c∈sd,1<=c){k:Nat}{p:List Int}(h:(plc sd)[k]?=some p):Wi p sd/\idx sd p=k:=by
 obtain⟨j,a,q,h1,h2,h3,h4⟩:=each_at hp h
 have hj:j=0:=by
  rcases j with _|j
  ·rfl
  ·simp at h1
 subst hj
 simp at h1
 subst h1
 simp at h2
 subst h2
 exact ⟨h3,h4⟩
noncomputable def IT:Nat->PyData->Prop
 | 0,d=>∃i,d=.int i
 | n+1,d=>(∃i,d=.int i)\/∃l,(d=.list l\/d=.tuple l)/\l.length<=20000/\∀x∈l,IT n x
theorem it_int(n:Nat)(i:Int):IT n (.int i):=by
 cases n
 ·exact ⟨i,rfl⟩
 ·exact .inl ⟨i,rfl⟩
theorem zl(l:List PyData)(h:l.length<=20000):(zipD l l).length<=sizeLine:=by
 unfold zipD
 rw[n0,K2,D8]
 exact Q1 h (by decide)
theorem zm{l:List PyData}{x:PyData}(h:x∈zipD l l):∃a∈l,x=.tuple [a,a]:=by
 unfold zipD at h
 obtain⟨p,hp,rfl⟩:=T0.mp h
 obtain⟨i,hi,e⟩:=Y2 hp
 rw[D7]at e
 subst e
 rw[K2,D8]at hi
 exact ⟨l[i],U3 _,rfl⟩
theorem zr(l:List PyData):(zipD l l).map (λ_=>K8 true)=Z0 l.length (.bool true):=by
 unfold zipD
 rw[P0,List.eq_replicate_iff]
 refine ⟨by rw[n0,K2,D8],λb hb=>?_⟩
 obtain⟨p,_,rfl⟩:=T0.mp hb
 rfl
section
variable {P:Program}{w:World}{K:i0}{mg:Str->Option Value}{base:Heap}
noncomputable def cSame:Nat->Con
 | 0=>λ_ _=>False
 | n+1=>λargs Q=>∃d,args=[.fz d,.fz d]/\IT n d/\∀o,Q (.fz (.bool true)) o
theorem scSame:FnScope ["_law_found","_law_due_here"] ["_law_found","_law_due_here"] (defScope (top 29)):=⟨rfl,rfl,rfl,by decide +kernel,rfl,by decide +kernel,by decide +kernel⟩
structure CalsSm(n k:Nat)(P:Program)(w:World)(K:i0)(mg:Str->Option Value)(base:Heap):Prop where
 law_same:Cal P w K mg base k "_law_same" ["_law_found","_law_due_here"] (conSp K (cSame n))
theorem ok_sameG{n k:Nat}{f:Addr}{fd:FuncData}(F:Fun K "_law_same" "_law_same" (top 29) f fd)(T:Txt mg)(C:CalsSm n k P w K mg base):FnOk P w K mg base CX0 (k+1) f fd ["_law_found","_law_due_here"] (conSp K (cSame (n+1))):=by
 have S:=scSame
 refine wfn F S (λcdv A outer s H E hr=>(s_cons (s_if (t_val (w_isiLA rfl T.isinstance_ T.list_ T.tuple_ (wn 1))) (s_cons (s_if (t_w (t_or (t_not (t_val (w_isiLA rfl T.isinstance_ T.list_ T.tuple_ (wn 0)))) (t_or1 (t_cmp ok_ne (op_neE (K:=K) rfl hr.units) (wx (w_isi .lst rfl T.isinstance_ T.list_ boot_list (wn 0))) (wx (w_isi .lst rfl T.isinstance_ T.list_ boot_list (wn 1))))))) (s_one (s_ret w_bl)) s_nil)
     (s_one (s_ret (w_and (w_cmp ok_eq (op_eqE (K:=K) rfl hr.units) (wx (w_callB ok_len (call_lenK (K:=K) rfl) T.len_ PySem.boot_len (wa_cons (wn 0) wa_nil))) (wx (w_callB ok_len (call_lenK (K:=K) rfl) T.len_ PySem.boot_len (wa_cons (wn 1) wa_nil)))) (w_one (w_callB ok_all (call_allK (K:=K) rfl rfl) T.all_ boot_all (wa_cons (wx (w_comp rfl (own:=["_law_one","_law_other"]) (fr:=[]) (by kernel_rfl) (i_zip2 rfl T.zip_ (wa_cons (wn 0) (wa_cons (wn 1) wa_nil))) (λ_ _ _ _=>(g_tup rfl rfl (gs_cons (g_name (i:=0) (by decide +kernel:O1 (["_law_one","_law_other"]:List Str)) rfl (Or.inl rfl)) (gs_cons (g_name (i:=1) (by decide +kernel:O1 (["_law_one","_law_other"]:List Str)) rfl (Or.inl rfl)) gs_nil)))) (λ_ _ _ _=>if0) (λ_ _ _ _=>(w_fn C.law_same (hr.mono (by first|decide|omega)) (wa_cons (wn 0) (wa_cons (wn 1) wa_nil)))))) wa_nil))))))) s_nil)
     (s_one (s_ret (w_and (w_isi .int rfl T.isinstance_ T.int_ boot_int (wn 0)) (w_and (w_not (w_isi .bl rfl T.isinstance_ T.bool_ boot_bool (wn 0))) (w_one (w_cmp ok_eq (op_eqE (K:=K) rfl hr.units) (wn 0) (wn 1))))))))) ?_ ?_
 ·rintro args Qd ⟨d,rfl,_⟩;rfl
 ·rintro args Qd ⟨d,rfl,hd,q⟩
  refine ⟨noOw_of rfl,?_⟩
  have key:(∃i,d=.int i)\/∃m l,n=m+1/\(d=.list l\/d=.tuple l)/\l.length<=20000/\∀x∈l,IT m x:=by
   cases n with
   | zero=>exact .inl hd
   | succ m =>
    rcases hd with h|⟨l,h1,h2,h3⟩
    ·exact .inl h
    ·exact .inr ⟨m,l,rfl,h1,h2,h3⟩
  rcases key with⟨i,rfl⟩|⟨m,l,rfl,hd|hd,hl,hi⟩
  ·refine (?_:Qd (.fz (.bool (decide (i=i)))) _)
   rw[decide_eq_true (rfl:i=i)]
   exact q _
  ·subst hd
   have nb:=Nice.bool 0 true
   refine ⟨nb.p,nb.p,nb.sh (by decide),nb.sh (by decide),noMix_self _ nb.p,ite2 (λh=>?_) (λh=>?_)⟩
   ·have h:(!same (.bool true) (.bool true))=true:=h
    rw[same_self]at h
    cases h
   refine ite2 (λh=>?_) (λh=>?_)
   ·refine ⟨zl l hl,mapC (λ_=>.bool true) ?_ ?_⟩
    ·intro x hx R hR
     obtain⟨a,ha,rfl⟩:=zm hx
     exact ⟨rfl,a,rfl,hi a ha,λo=>hR⟩
    ·refine ⟨Z0 l.length true,?_,?_⟩
     ·rw[w8]
      exact zr l
     ·have e:(Z0 l.length true).all id=true:=by simp
      refine (?_:Qd (.fz (.bool ((Z0 l.length true).all id))) _)
      rw[e]
      exact q _
   ·exact absurd (decide_eq_true rfl) h
  ·subst hd
   have nb:=Nice.bool 0 false
   refine ⟨nb.p,nb.p,nb.sh (by decide),nb.sh (by decide),noMix_self _ nb.p,ite2 (λh=>?_) (λh=>?_)⟩
   ·have h:(!same (.bool false) (.bool false))=true:=h
    rw[same_self]at h
    cases h
   refine ite2 (λh=>?_) (λh=>?_)
   ·refine ⟨zl l hl,mapC (λ_=>.bool true) ?_ ?_⟩
    ·intro x hx R hR
     obtain⟨a,ha,rfl⟩:=zm hx
     exact ⟨rfl,a,rfl,hi a ha,λo=>hR⟩
    ·refine ⟨Z0 l.length true,?_,?_⟩
     ·rw[w8]
      exact zr l
     ·have e:(Z0 l.length true).all id=true:=by simp
      refine (?_:Qd (.fz (.bool ((Z0 l.length true).all id))) _)
      rw[e]
      exact q _
   ·exact absurd (decide_eq_true rfl) h
end
noncomputable def lawS(acc:List (List Int))(c:List Int):List (List Int):=c.flatMap λx=>acc.map λp=>p++[x]
noncomputable def lawA(acc:List (List Int)):List (List Int)->List (List Int)
 | []=>acc
 | c :: cs=>lawA (lawS acc c) cs
theorem perm_zip{α β:Type}(g:α->β)(h:α->List β):∀c:List α,(c.map g++c.flatMap h).Perm (c.flatMap λx=>g x :: h x)
 | []=>List.Perm.refl _
 | x :: c=>by
  rw[X1,M3,M3,D4,D4]
  refine List.Perm.cons _ ?_
  rw[<- Z1]
  refine (m6.append_right _).trans ?_
  rw[Z1]
  exact (perm_zip g h c).append_left _
theorem perm_swap{α β γ:Type}(f:α->β->γ)(c:List β):∀acc:List α,(c.flatMap λx=>acc.map λp=>f p x).Perm (acc.flatMap λp=>c.map λx=>f p x)
 | []=>by simp
 | a :: acc=>by
  rw[M3]
  exact (perm_zip (f a) (λx=>acc.map λp=>f p x) c).symm.trans ((perm_swap f c acc).append_left _)
theorem lawA_perm:∀{cs acc acc':List (List Int)},acc.Perm acc'->(lawA acc cs).Perm (eachA acc' cs)
 | [],_,_,h=>h
 | c :: cs,acc,acc',h=>lawA_perm (cs:=cs) ((perm_swap (λp x=>p++[x]) c acc).trans (h.flatMap_right _))
theorem lex_app:∀{a b:List Int} (x y:Int),a.length=b.length->HT.lexLt a b=true->HT.lexLt (a++[x]) (b++[y])=true
 | [],[],x,y,_,h=>by cases h
 | [],_ :: _,x,y,e,_=>by simp at e
 | _ :: _,[],x,y,e,_=>by simp at e
 | u :: a,v :: b,x,y,e,h=>by
  rw[D4,D4,HT.lexLt_cons]
  rw[HT.lexLt_cons]at h
  by_cases q:u=v
  ·rw[if_pos q]at h ⊢
   exact lex_app x y (by simpa using e) h
  ·rw[if_neg q]at h ⊢
   exact h
theorem lex_end:∀(a:List Int) {x y:Int},x < y->HT.lexLt (a++[x]) (a++[y])=true
 | [],x,y,h=>by
  show HT.lexLt [x] [y]=true
  rw[HT.lexLt_cons,if_neg (by omega)]
  exact decide_eq_true h
 | u :: a,x,y,h=>by
  rw[D4,D4,HT.lexLt_cons,if_pos rfl]
  exact lex_end a h
theorem eachA_sorted:∀{cs acc:List (List Int)}{n:Nat},acc.Pairwise (λa b=>HT.lexLt a b=true)->(∀p∈acc,p.length=n)->(∀c∈cs,c.Pairwise (· < ·))->(eachA acc cs).Pairwise (λa b=>HT.lexLt a b=true)
 | [],_,_,h,_,_=>h
 | c :: cs,acc,n,h,hn,hc=>by
  refine eachA_sorted (cs:=cs) (n:=n+1) ?_ ?_ λd hd=>hc d (u0 _ hd)
  ·rw[List.pairwise_flatMap]
   refine ⟨λp hp=>?_,?_⟩
   ·rw[Y5]
    exact (hc c K0).imp λh=>lex_end p h
   ·refine List.Pairwise.imp_of_mem (λ{a b} ha hb h=>?_) h
    intro x hx y hy
    obtain⟨u,_,rfl⟩:=T0.mp hx
    obtain⟨v,_,rfl⟩:=T0.mp hy
    exact lex_app u v (by rw[hn a ha,hn b hb]) h
  ·intro p hp
   obtain⟨q,hq,hx⟩:=u5.mp hp
   obtain⟨x,_,rfl⟩:=T0.mp hx
   rw[R0,hn q hq]
   rfl
theorem rng2_lt(a b:Int):(rng2 a b).Pairwise (· < ·):=by
 unfold rng2
 rw[Y5]
 exact List.pairwise_lt_range.imp λh=>by omega
theorem btw_sorted(lo hi:List Int):(btw lo hi).Pairwise (λa b=>HT.lexLt b a=false):=by
 have h:=eachA_sorted (cs:=(lo.zip hi).map λp=>rng2 p.1 p.2) (acc:=[[]]) (n:=0) (T5 _ _) (by simp) λc hc=>by
  obtain⟨p,_,rfl⟩:=T0.mp hc
  exact rng2_lt _ _
 refine List.Pairwise.imp (λ{a b} h=>?_) h
 cases e:HT.lexLt b a
 ·rfl
 ·have:=SG.lex_wk.tr a b a h e
  rw[SG.lex_wk.irr]at this
  cases this
theorem lawA_len(cs acc:List (List Int)):(lawA acc cs).length=acc.length * lenP cs:=by
 rw[<- eachA_len]
 exact (lawA_perm (List.Perm.refl acc)).length_eq
theorem rng2_len(a b:Int):(rng2 a b).length=(b+1 - a).toNat:=by simp[rng2]
noncomputable def snocD(x:Int):PyData->PyData
 | .tuple l=>.tuple (l++[.int x])
 | _=>.none
theorem noMut_tup(p:List Int):noMut (tupD p)=true:=by
 show noMutAll (p.map j0)=true
 exact noMutAll_ints p
theorem noMutAll_tups:∀ps:List (List Int),noMutAll (ps.map tupD)=true
 | []=>rfl
 | p :: ps=>by
  show (noMut (tupD p)&&noMutAll (ps.map tupD))=true
  rw[noMut_tup,noMutAll_tups ps]
  rfl
noncomputable abbrev prD2(p:Int×Int):PyData:=.tuple [.int p.1,.int p.2]
section
variable {P:Program}{w:World}{K:i0}{mg:Str->Option Value}{base:Heap}
noncomputable def cLPl:Con:=λargs Q=>∃(A B:PyData) (lo hi:List Int),args=[.fz A,.fz B]/\seqD A=some (lo.map j0)/\seqD B=some (hi.map j0)/\lo.length=hi.length/\lo.length<=3/\1<=lo.length/\(∀p∈lo.zip hi,0<=p.1/\p.1<=p.2/\p.2<=1000)/\lenP ((lo.zip hi).map λp=>rng2 p.1 p.2)<=1000/\∀o,Q (.ow (.list ((btw lo hi).map tupD))) o
theorem scLPl:FnScope ["_law_low","_law_high","_law_found","_law_first","_law_last","_law_longer","_law_one"] ["_law_low","_law_high"] (defScope (top 32)):=⟨rfl,rfl,rfl,by decide +kernel,rfl,by decide +kernel,by decide +kernel⟩
theorem ok_lpl{f:Addr}{fd:FuncData}(F:Fun K "_law_places" "_law_places" (top 32) f fd)(T:Txt mg):FnOk P w K mg base CX0 1 f fd ["_law_low","_law_high"] (conSp K cLPl):=by
 have S:=scLPl
 refine wfn F S (λcdv A outer s H E hr=>(s_cons (s_set (i:=2) S.nd rfl (Or.inl rfl) (w_lst (wa_cons (wx (w_tup wa_nil)) wa_nil)))
     (s_cons (s_for [3,4,5,6] PassesOwn.never rfl (i_zip2 rfl T.zip_ (wa_cons (wn 0) (wa_cons (wn 1) wa_nil))) (g_tup rfl rfl (gs_cons (g_name (i:=3) S.nd rfl (Or.inl rfl)) (gs_cons (g_name (i:=4) S.nd rfl (Or.inl rfl)) gs_nil))) (s_cons (s_set (i:=5) S.nd rfl (Or.inl rfl) (w_lst wa_nil))
     (s_cons (s_for [6] PassesOwn.never rfl (i_rng2 T.range_ (wa_cons (wn 3) (wa_cons (wx (w_bin ok_add op_addD (wn 4) (wx w_int))) wa_nil))) (g_name (i:=6) S.nd rfl (Or.inr rfl)) (s_one (s_expr (w_m ok_extend rfl PySem.F.slot_list_extend PySem.F.type_list_extend mt_extend (wn 5) (wa_cons (wx (w_compN rfl rfl (own:=["_law_place"]) (fr:=[6]) (by kernel_rfl) (wn 2) (λ_ _ _ _=>(g_name (i:=0) (by decide +kernel:O1 (["_law_place","_law_one"]:List Str)) rfl (Or.inl rfl))) (λ_ _ _ _=>if0) (λ_ _ _ _=>(w_bin ok_add op_addD (wn 0) (wx (w_tup (wa_cons (wx (wv 1)) wa_nil))))))) wa_nil)))))
     (s_one (s_move (i:=2) S.nd rfl (Or.inl rfl) (wn 5))))))
     (s_one (s_ret (w_callB ok_sortT (call_sortTK rfl) T.sorted_ boot_sorted (wa_cons (wn 2) wa_nil))))))) ?_ ?_
 ·rintro args Qd ⟨A,B,lo,hi,rfl,_⟩;rfl
 ·rintro args Qd ⟨A,B,lo,hi,rfl,hA,hB,hle,h3,h1,hin,hm,q⟩
  refine ⟨noOw_of rfl,?_⟩
  refine cutS (λρ=>ρ=[some (.fz A),some (.fz B),some (.ow (.list [.tuple []])),none,none,none,none]) (λN hN=>hN _ rfl) ?_
  rintro ρ rfl
  refine forZ_of rfl rfl hA hB ?_
  show dLoopC _ _ _ _ (zipD (lo.map j0) (hi.map j0)) _
  rw[zipD_ints]
  refine loopC (λrest ρ=>∃(acc:List (List Int)) (rs:List (Int×Int)),ρ=[some (.fz A),some (.fz B),some (.ow (.list (acc.map tupD))),none,none,none,none]/\rest=rs.map prD2/\(∀p∈rs,0<=p.1/\p.1<=p.2/\p.2<=1000) /\
      lawA acc (rs.map λp=>rng2 p.1 p.2)=lawA [[]] ((lo.zip hi).map λp=>rng2 p.1 p.2)/\(∀p∈acc,p.length+rs.length=lo.length)) ?_ ?_
   ⟨[[]],lo.zip hi,rfl,rfl,hin,rfl,λp hp=>by simp at hp;subst hp;simp[hle]⟩
  ·rintro d ds ρ ⟨acc,rs,rfl,er,hr1,hacc,hl3⟩ N hN
   cases rs with
   | nil=>cases er
   | cons a rs =>
    cases er
    have ha1:=hr1 a K0
    have hr2:∀c∈rs,0<=c.1/\c.1<=c.2/\c.2<=1000:=λc hc=>hr1 c (u0 _ hc)
    have hlp:=lenP_pos (cs:=rs.map λp=>rng2 p.1 p.2) λc hc=>by
     obtain⟨x,hx,rfl⟩:=T0.mp hc
     intro z
     have:=congrArg Q3 z
     rw[rng2_len]at this
     have:=hr2 x hx
     simp at *
     omega
    have htot:(lawS acc (rng2 a.1 a.2)).length<=1000:=by
     have h1:=lawA_len (rs.map λp=>rng2 p.1 p.2) (lawS acc (rng2 a.1 a.2))
     have h2:lawA (lawS acc (rng2 a.1 a.2)) (rs.map λp=>rng2 p.1 p.2)=_:=hacc
     rw[h2,lawA_len,U1,U7]at h1
     have:(lawS acc (rng2 a.1 a.2)).length<=(lawS acc (rng2 a.1 a.2)).length * lenP (rs.map λp=>rng2 p.1 p.2):=L7 _ hlp
     omega
    refine ⟨rfl,?_⟩
    refine ⟨⟨by omega,by omega,by omega,by omega⟩,?_⟩
    show dLoopC _ _ _ _ (rangeD a.1 (a.2+1 - a.1).toNat) _
    rw[rangeD_rng2]
    refine loopC (λrest ρ=>∃(lg:List (List Int)) (rc:List Int),ρ=[some (.fz A),some (.fz B),some (.ow (.list (acc.map tupD))),some (.fz (.int a.1)),some (.fz (.int a.2)),some (.ow (.list (lg.map tupD))),none]/\rest=rc.map j0/\lg++lawS acc rc=lawS acc (rng2 a.1 a.2)) ?_ ?_
     ⟨[],rng2 a.1 a.2,rfl,rfl,rfl⟩
    ·rintro d ds ρ ⟨lg,rc,rfl,er,he⟩ M hM
     cases rc with
     | nil=>cases er
     | cons x rc =>
      cases er
      have hl5:lg.length+acc.length<=1000:=by
       have:=congrArg Q3 he
       have e2:lawS acc (x :: rc)=(acc.map λp=>p++[x])++lawS acc rc:=by unfold lawS;rw[M3]
       rw[e2,R0,R0,n0]at this
       omega
      have ez:(acc.map tupD).map (snocD x)=(acc.map λp=>p++[x]).map tupD:=by
       rw[P0,P0]
       exact S2 λp _=>by simp[snocD,tupD]
      refine ⟨rfl,by rw[n0];exact le_size (by omega),mapC (snocD x) ?_ ?_⟩
      ·intro d hd R hR
       obtain⟨p,hp,rfl⟩:=T0.mp hd
       have:=hl3 p hp
       exact ⟨by simp only[n0,U1];exact le_size (by simp at this;omega),hR⟩
      ·rw[ez]
       refine ⟨noMutAll_tups _,by rw[n0,n0,n0];exact le_size (by omega),?_⟩
       refine hM _ ⟨lg++acc.map λp=>p++[x],rc,by rw[B3];rfl,rfl,?_⟩
       rw[<- he,Z1]
       congr 1
    ·rintro ρ ⟨lg,rc,rfl,er,he⟩
     cases rc with
     | cons p rp=>cases er
     | nil =>
      have he:lg=lawS acc (rng2 a.1 a.2):=by simpa [lawS]using he
      refine hN _ ⟨lawS acc (rng2 a.1 a.2),rs,?_,rfl,hr2,hacc,λp hp=>?_⟩
      ·rw[he];rfl
      ·obtain⟨x,_,hx⟩:=u5.mp hp
       obtain⟨p',hp',rfl⟩:=T0.mp hx
       have:=hl3 p' hp'
       simp at this ⊢
       omega
  ·rintro ρ ⟨acc,rs,rfl,er,hr1,hacc,hl3⟩
   cases rs with
   | cons a rs=>cases er
   | nil =>
    have hacc:acc=lawA [[]] ((lo.zip hi).map λp=>rng2 p.1 p.2):=hacc
    have pm:acc.Perm (btw lo hi):=by rw[hacc];exact lawA_perm (List.Perm.refl _)
    refine ⟨acc,rfl,?_,λr hr=>?_,λrows r1 r2=>?_⟩
    ·rw[hacc,lawA_len,U1,U7]
     exact Q1 hm (by decide)
    ·intro z
     have:=hl3 r hr
     subst z
     simp at this
     omega
    ·rw[SG.sorted_uniq (λa b=>SG.lex_eq) (r1.trans pm) r2 (btw_sorted lo hi)]
     exact q _
end
section
variable {P:Program}{w:World}{K:i0}{mg:Str->Option Value}{base:Heap}
noncomputable abbrev cSame0:Con:=cSame 0
noncomputable abbrev cSame1:Con:=cSame 1
noncomputable abbrev cSame2:Con:=cSame 2
noncomputable abbrev cSame3:Con:=cSame 3
noncomputable abbrev cSame4:Con:=cSame 4
theorem ok_same0{f:Addr}{fd:FuncData}(F:Fun K "_law_same" "_law_same" (top 29) f fd):FnOk P w K mg base CX0 1 f fd ["_law_found","_law_due_here"] (conSp K cSame0):=⟨λ_ _ _ _ ⟨_,_,_,_,_,h,_⟩=>h.elim,λ_ _ _ _ _ _ _ _ _ _ _ _ _ ⟨_,_,_,_,_,h,_⟩=>h.elim⟩
structure CalsSa(P:Program)(w:World)(K:i0)(mg:Str->Option Value)(base:Heap):Prop where
 law_same:Cal P w K mg base 1 "_law_same" ["_law_found","_law_due_here"] (conSp K cSame0)
theorem ok_same1{f:Addr}{fd:FuncData}(F:Fun K "_law_same" "_law_same" (top 29) f fd)(T:Txt mg)(C:CalsSa P w K mg base):FnOk P w K mg base CX0 2 f fd ["_law_found","_law_due_here"] (conSp K cSame1):=ok_sameG F T ⟨C.law_same⟩
structure CalsSb(P:Program)(w:World)(K:i0)(mg:Str->Option Value)(base:Heap):Prop where
 law_same:Cal P w K mg base 2 "_law_same" ["_law_found","_law_due_here"] (conSp K cSame1)
theorem ok_same2{f:Addr}{fd:FuncData}(F:Fun K "_law_same" "_law_same" (top 29) f fd)(T:Txt mg)(C:CalsSb P w K mg base):FnOk P w K mg base CX0 3 f fd ["_law_found","_law_due_here"] (conSp K cSame2):=ok_sameG F T ⟨C.law_same⟩
structure CalsSc(P:Program)(w:World)(K:i0)(mg:Str->Option Value)(base:Heap):Prop where
 law_same:Cal P w K mg base 3 "_law_same" ["_law_found","_law_due_here"] (conSp K cSame2)
theorem ok_same3{f:Addr}{fd:FuncData}(F:Fun K "_law_same" "_law_same" (top 29) f fd)(T:Txt mg)(C:CalsSc P w K mg base):FnOk P w K mg base CX0 4 f fd ["_law_found","_law_due_here"] (conSp K cSame3):=ok_sameG F T ⟨C.law_same⟩
structure CalsSd(P:Program)(w:World)(K:i0)(mg:Str->Option Value)(base:Heap):Prop where
 law_same:Cal P w K mg base 4 "_law_same" ["_law_found","_law_due_here"] (conSp K cSame3)
theorem ok_same4{f:Addr}{fd:FuncData}(F:Fun K "_law_same" "_law_same" (top 29) f fd)(T:Txt mg)(C:CalsSd P w K mg base):FnOk P w K mg base CX0 5 f fd ["_law_found","_law_due_here"] (conSp K cSame4):=ok_sameG F T ⟨C.law_same⟩
structure CalsAl(P:Program)(w:World)(K:i0)(mg:Str->Option Value)(base:Heap):Prop where
 law_places:Cal P w K mg base 1 "_law_places" ["_law_low","_law_high"] (conSp K cLPl)
noncomputable def cAllL:Con:=λargs Q=>∃(A:PyData) (sd:List Int),args=[.fz A]/\(A=.list (sd.map j0)\/A=tupD sd)/\Sd sd/\∀o,Q (.ow (.list ((plc sd).map tupD))) o
theorem scAll:FnScope ["_law_sides_here"] ["_law_sides_here"] (defScope (top 33)):=⟨rfl,rfl,rfl,by decide +kernel,rfl,by decide +kernel,by decide +kernel⟩
theorem ok_all_{f:Addr}{fd:FuncData}(F:Fun K "_law_all" "_law_all" (top 33) f fd)(T:Txt mg)(C:CalsAl P w K mg base):FnOk P w K mg base CX0 2 f fd ["_law_sides_here"] (conSp K cAllL):=by
 have S:=scAll
 refine wfn F S (λcdv A outer s H E hr=>(s_one (s_ret (w_fn C.law_places (hr.mono (by first|decide|omega)) (wa_cons (wx (w_comp rfl (own:=["_law_side"]) (fr:=[]) (by kernel_rfl) (i_seq rfl (wv 0)) (λ_ _ _ _=>(g_name (i:=0) (by decide +kernel:O1 (["_law_side"]:List Str)) rfl (Or.inl rfl))) (λ_ _ _ _=>if0) (λ_ _ _ _=>w_int))) (wa_cons (wx (w_comp rfl (own:=["_law_side"]) (fr:=[]) (by kernel_rfl) (i_seq rfl (wv 0)) (λ_ _ _ _=>(g_name (i:=0) (by decide +kernel:O1 (["_law_side"]:List Str)) rfl (Or.inl rfl))) (λ_ _ _ _=>if0) (λ_ _ _ _=>(w_bin ok_sub op_sub (wn 0) (wx w_int))))) wa_nil)))))) ?_ ?_
 ·rintro args Qd ⟨A,sd,rfl,_⟩;rfl
 ·rintro args Qd ⟨A,sd,rfl,hA,hsd,q⟩
  have h3:=hsd.l3
  have h1:=hsd.l1
  have hks:(sd.map j0).length=sd.length:=n0 ..
  rcases hA with rfl|rfl
  all_goals
   refine ⟨noOw_of rfl,?_⟩
   refine ⟨by rw[hks];exact le_size (by omega),mapC (λ_=>.int 0) (λd hd R hR=>hR) ?_⟩
   refine ⟨by rw[hks];exact le_size (by omega),mapC (λd=>match d with | .int i=>.int (i - 1)|_=>.none) ?_ ?_⟩
   ·intro d hd R hR
    obtain⟨i,_,rfl⟩:=T0.mp hd
    exact hR
   have e:((sd.map λ_=>(0:Int)).zip (sd.map λs=>s - 1)).map (λp=>rng2 p.1 p.2)=sd.map rng:=by
    rw[zip_zero,P0]
    exact S2 λs _=>rng2_zero s
   refine ⟨_,_,sd.map λ_=>0,sd.map λs=>s - 1,rfl,?_,?_,by simp,by simpa using h3,by simpa using h1,λp hp=>?_,?_,λo3=>?_⟩
   ·simp only[P0]
    rfl
   ·simp only[P0]
    rfl
   ·rw[zip_zero]at hp
    obtain⟨s,hs,rfl⟩:=T0.mp hp
    have h1:=hsd.p s hs
    have h2:=le_prodI hsd.p s hs
    have:=hsd.m
    exact ⟨by show (0:Int)<=0;decide,by show (0:Int)<=s - 1;omega,by show s - 1<=1000;omega⟩
   ·rw[e]
    have h1:=lenP_rng hsd.p
    have:=hsd.m
    omega
   ·unfold btw
    rw[e]
    exact q _
end
theorem plc_nodup{sd:List Int}(hp:∀c∈sd,1<=c):(plc sd).Nodup:=by
 rw[List.nodup_iff_pairwise_ne,J2]
 intro i j hi hj hij e
 have h1:=plc_at hp (k:=i) (p:=(plc sd)[i]) (by simp[hi])
 have h2:=plc_at hp (k:=j) (p:=(plc sd)[j]) (by simp[hj])
 rw[e]at h1
 have:=h1.2.symm.trans h2.2
 omega
theorem each_in2{α:Type}:∀{cs acc:List (List α)}{a q:List α},a∈acc->InW q cs->a++q∈eachA acc cs
 | [],acc,a,[],ha,_=>by simpa [eachA]using ha
 | [],_,_,_ :: _,_,h=>h.elim
 | _ :: _,_,_,[],_,h=>h.elim
 | c :: cs,acc,a,x :: q,ha,h=>by
  have:=each_in2 (cs:=cs) (acc:=acc.flatMap λp=>c.map λx=>p++[x]) (a:=a++[x]) (q:=q) (u5.mpr ⟨a,ha,T0.mpr ⟨x,h.1,rfl⟩⟩) h.2
  simpa [eachA]using this
theorem rng_mem{x s:Int}(h0:0<=x)(h1:x < s):x∈rng s:=T0.mpr ⟨x.toNat,i5.mpr (by omega),by omega⟩
theorem wi_inW:∀{p sd:List Int},Wi p sd->InW p (sd.map rng)
 | [],[],_=>trivial
 | [],_ :: _,h=>h.elim
 | _ :: _,[],h=>h.elim
 | x :: p,s :: sd,h=>⟨rng_mem h.1.1 h.1.2,wi_inW h.2⟩
theorem wi_mem{p sd:List Int}(h:Wi p sd):p∈plc sd:=each_in2 (a:=[]) (by simp) (wi_inW h)
noncomputable abbrev keyI(p:List Int):List Key:=p.map Sum.inl
noncomputable abbrev fldD(sd cl:List Int):PyData:=.tuple [tupD sd,tupD cl]
noncomputable def cel(sd cl p:List Int):Int:=cl.getD (idx sd p).toNat 0
noncomputable def dic(sd cl:List Int):List (List Key×PyData):=((plc sd).zip cl).map λq=>(keyI q.1,.int q.2)
theorem keyI_D(p:List Int):(keyI p).map keyD=p.map j0:=by rw[P0];rfl
theorem keyI_inj{p q:List Int}(h:keyI p=keyI q):p=q:=by
 have:=congrArg (G5 λk:Key=>match k with | .inl i=>i | .inr _=>0) h
 rw[P0,P0]at this
 simpa [Function.comp_def]using this
theorem ksOf_I:∀p:List Int,ksOf (p.map j0)=some (keyI p)
 | []=>rfl
 | x :: p=>by simp[ksOf,kOf,ksOf_I p]
theorem dic_fst{sd cl:List Int}(hl:cl.length=(plc sd).length):(dic sd cl).map (λp=>N1 (p.1.map keyD))=(plc sd).map tupD:=by
 rw[dic,P0]
 have:((plc sd).zip cl).map (·.1)=plc sd:=List.map_fst_zip (by omega)
 conv=>rhs;rw[<- this,P0]
 exact S2 λq _=>by show N1 ((keyI q.1).map keyD)=_;rw[keyI_D];rfl
theorem dic_snd{sd cl:List Int}(hl:cl.length=(plc sd).length):(dic sd cl).map (·.2)=cl.map j0:=by
 rw[dic,P0]
 have:((plc sd).zip cl).map (·.2)=cl:=List.map_snd_zip (by omega)
 conv=>rhs;rw[<- this,P0]
 rfl
theorem dic_nodup{sd cl:List Int}(hp:∀c∈sd,1<=c)(hl:cl.length=(plc sd).length):((dic sd cl).map (·.1)).Nodup:=by
 have e:(dic sd cl).map (·.1)=(plc sd).map keyI:=by
  rw[dic,P0]
  have:((plc sd).zip cl).map (·.1)=plc sd:=List.map_fst_zip (by omega)
  conv=>rhs;rw[<- this,P0]
  rfl
 rw[e]
 exact List.Pairwise.map keyI (λa b h q=>h (keyI_inj q)) (plc_nodup hp)
theorem dic_get(sd cl p:List Int):getE ((dic sd cl).map enT) (tupD p)=(((plc sd).zip cl).find? λq=>decide (q.1=p)).map λq=>j0 q.2:=by
 have h1:getE ((dic sd cl).map enT) (tupD p)=getT ((dic sd cl).map enT) (keyI p):=by
  unfold getE
  rw[show kOf (tupD p)=none from rfl,show keyT (tupD p)=some (keyI p) from ksOf_I p]
 rw[h1,getT,dic]
 generalize (plc sd).zip cl=l
 induction l with
 | nil=>rfl
 | cons q l ih =>
  simp only[X1,A3]
  have h2:keyT (enT (keyI q.1,j0 q.2)).1=some (keyI q.1):=by
   show ksOf ((keyI q.1).map keyD)=_
   rw[keyI_D,ksOf_I]
  rw[h2]
  by_cases h:q.1=p
  ·simp[h]
  ·have h3:¬(keyI q.1=keyI p):=λz=>h (keyI_inj z)
   simp only[h,Option.some.injEq,h3,decide_false]
   exact ih
theorem dic_at{sd cl p:List Int}(hp:∀c∈sd,1<=c)(hl:cl.length=(plc sd).length)(h:Wi p sd):getE ((dic sd cl).map enT) (tupD p)=some (.int (cel sd cl p)):=by
 have e:(((plc sd).zip cl).find? λq=>decide (q.1=p))=some (p,cel sd cl p):=by
  cases e:((plc sd).zip cl).find? λq=>decide (q.1=p) with
  | none =>
   rw[u8]at e
   obtain⟨k,hk,ek⟩:=j5.mp (wi_mem h)
   have hk2:k < cl.length:=by omega
   have hm:((plc sd)[k],cl[k])∈(plc sd).zip cl:=j5.mpr ⟨k,by simp;omega,by simp⟩
   exact absurd (by simpa using ek) (e _ hm)
  | some q =>
   have h1:=List.find?_some e
   have h1:q.1=p:=by simpa using h1
   obtain⟨k,hk⟩:=j6.mp (List.mem_of_find?_eq_some e)
   obtain⟨h2,h3⟩:=Z6.mp hk
   have h4:=(plc_at hp h2).2
   rw[h1]at h4
   have h5:cel sd cl p=q.2:=by
    unfold cel
    rw[h4,Q4,G1,h3]
    rfl
   rw[h5,<- h1]
 rw[dic_get,e]
 rfl
section
variable {P:Program}{w:World}{K:i0}{mg:Str->Option Value}{base:Heap}
noncomputable def cNumber:Con:=λargs Q=>∃(ns:List Int) (k l:Int),args=[.io (penD ns k l)]/\0<=k/\0<=l/\∀(r k' l':Int) (o:Ev),0<=k'->0<=l'->Q (.fz (.int r)) (some (.io (penD ns k' l')) :: o)
theorem scNumber:FnScope ["_law_pen_here","_law_way"] ["_law_pen_here"] (defScope (top 30)):=⟨rfl,rfl,rfl,by decide +kernel,rfl,by decide +kernel,by decide +kernel⟩
theorem ok_number{f:Addr}{fd:FuncData}(F:Fun K "_law_number" "_law_number" (top 30) f fd)(T:Txt mg)(C:CalsB P w K mg base):FnOk P w K mg base CX0 2 f fd ["_law_pen_here"] (conSp K cNumber):=by
 have S:=scNumber
 refine wfn F S (λcdv A outer s H E hr=>(s_cons (s_set (i:=1) S.nd rfl (Or.inl rfl) (w_fnI C.law_take (hr.mono (by first|decide|omega)) (wa_cons (wn 0) (wa_cons (wx w_int) wa_nil))))
     (s_cons (s_if (t_cmp ok_eq (op_eqE (K:=K) rfl hr.units) (wn 1) (wx w_int)) (s_one (s_ret (w_bin ok_mul op_mulD (wx (w_bin ok_sub op_sub (wx (w_bin ok_sub op_sub (wx (w_bin ok_pow op_pow (wx w_int) (wx w_int))) (wx w_int))) (wx (w_fnI C.law_take (hr.mono (by first|decide|omega)) (wa_cons (wn 0) (wa_cons (wx w_int) wa_nil)))))) (wx (w_bin ok_sub op_sub (wx w_int) (wx (w_bin ok_mul op_mulD (wx w_int) (wx (w_fnI C.law_take (hr.mono (by first|decide|omega)) (wa_cons (wn 0) (wa_cons (wx w_int) wa_nil))))))))))) s_nil)
     (s_cons (s_if (t_cmp ok_gt op_gt (wn 1) (wx w_int)) (s_one (s_ret (w_bin ok_sub op_sub (wx (w_fnI C.law_take (hr.mono (by first|decide|omega)) (wa_cons (wn 0) (wa_cons (wx w_int) wa_nil)))) (wx w_int)))) s_nil)
     (s_one (s_ret (w_bin ok_sub op_sub (wx (w_fnI C.law_take (hr.mono (by first|decide|omega)) (wa_cons (wn 0) (wa_cons (wx w_int) wa_nil)))) (wx w_int)))))))) ?_ ?_
 ·rintro args Qd ⟨ns,k,l,rfl,_⟩;rfl
 ·rintro args Qd ⟨ns,k,l,rfl,hk,hl,q⟩
  refine ⟨noOw_of rfl,?_⟩
  refine ⟨ns,k,l,_,rfl,hk,hl,by decide,by decide,λr k1 l1 _ r0 r1 hk1 hl1=>?_⟩
  refine ite2 (λh=>?_) (λh=>?_)
  ·refine ⟨⟨by decide,by decide,by decide⟩,?_⟩
   refine ⟨ns,k1,l1,_,rfl,hk1,hl1,by decide,by decide,λa k2 l2 _ a0 a1 hk2 hl2=>?_⟩
   refine ⟨ns,k2,l2,_,rfl,hk2,hl2,by decide,by decide,λb k3 l3 _ b0 b1 hk3 hl3=>?_⟩
   refine ⟨.inl ⟨by decide,by decide⟩,.inr ⟨by omega,by omega⟩,?_⟩
   exact q _ _ _ _ hk3 hl3
  refine ite2 (λh=>?_) (λh=>?_)
  ·refine ⟨ns,k1,l1,_,rfl,hk1,hl1,by decide,by decide,λa k2 l2 _ a0 a1 hk2 hl2=>?_⟩
   exact q _ _ _ _ hk2 hl2
  ·refine ⟨ns,k1,l1,_,rfl,hk1,hl1,by decide,by decide,λa k2 l2 _ a0 a1 hk2 hl2=>?_⟩
   exact q _ _ _ _ hk2 hl2
structure CalsFd(P:Program)(w:World)(K:i0)(mg:Str->Option Value)(base:Heap):Prop where
 law_sides:Cal P w K mg base 2 "_law_sides" ["_law_pen_here","_law_most"] (conSp K cSides)
 law_number:Cal P w K mg base 2 "_law_number" ["_law_pen_here"] (conSp K cNumber)
 law_all:Cal P w K mg base 2 "_law_all" ["_law_sides_here"] (conSp K cAllL)
noncomputable def cField:Con:=λargs Q=>∃(ns:List Int) (k l m:Int),args=[.io (penD ns k l),.fz (.int m)]/\0<=k/\0<=l/\1<=m/\m<=120 /\
 ∀(sd cl:List Int) (k' l':Int) (o:Ev),Sd sd->cl.length=(plc sd).length->0<=k'->0<=l'->Q (.fz (fldD sd cl)) (some (.io (penD ns k' l')) :: o)
theorem scField:FnScope ["_law_pen_here","_law_most","_law_sides_here"] ["_law_pen_here","_law_most"] (defScope (top 34)):=⟨rfl,rfl,rfl,by decide +kernel,rfl,by decide +kernel,by decide +kernel⟩
theorem ok_field{f:Addr}{fd:FuncData}(F:Fun K "_law_field" "_law_field" (top 34) f fd)(T:Txt mg)(C:CalsFd P w K mg base):FnOk P w K mg base CX0 3 f fd ["_law_pen_here","_law_most"] (conSp K cField):=by
 have S:=scField
 refine wfn F S (λcdv A outer s H E hr=>(s_cons (s_set (i:=2) S.nd rfl (Or.inl rfl) (w_fnI C.law_sides (hr.mono (by first|decide|omega)) (wa_cons (wn 0) (wa_cons (wn 1) wa_nil))))
     (s_one (s_ret (w_tup (wa_cons (wx (w_callT ok_tuple (call_tupleK (K:=K) rfl) T.tuple_ boot_tuple (wa_cons (wn 2) wa_nil))) (wa_cons (wx (w_callT ok_tuple (call_tupleK (K:=K) rfl) T.tuple_ boot_tuple (wa_cons (wx (w_comp rfl (own:=["_law_place"]) (fr:=[0]) (by kernel_rfl) (i_seq rfl (w_fnL C.law_all (hr.mono (by first|decide|omega)) (wa_cons (wn 2) wa_nil))) (λ_ _ _ _=>(g_name (i:=0) (by decide +kernel:O1 (["_law_place","_law_pen_here"]:List Str)) rfl (Or.inl rfl))) (λ_ _ _ _=>if0) (λ_ _ _ _=>(w_fnI C.law_number (hr.mono (by first|decide|omega)) (wa_cons (wn 1) wa_nil))))) wa_nil))) wa_nil))))))) ?_ ?_
 ·rintro args Qd ⟨ns,k,l,m,rfl,_⟩;rfl
 ·rintro args Qd ⟨ns,k,l,m,rfl,hk,hl,m1,m2,q⟩
  refine ⟨noOw_of rfl,?_⟩
  refine ⟨ns,k,l,m,rfl,hk,hl,m1,m2,λsd k1 l1 _ hsd _ hk1 hl1=>?_⟩
  have hm:=hsd.m
  have hpl:=plc_len hsd.p
  refine ⟨_,sd,rfl,.inl rfl,hsd,λ_=>⟨noMutAll_tups _,?_⟩⟩
  refine ⟨by rw[n0];exact le_size (by omega),compN (λrest acc τ=>∃(cs:List Int) (k4 l4:Int),τ=[none,some (.io (penD ns k4 l4))]/\acc=cs.map j0/\cs.length+rest.length=(plc sd).length/\0<=k4/\0<=l4) ?_ ?_
    ⟨[],k1,l1,rfl,rfl,by simp,hk1,hl1⟩⟩
  ·rintro d ds acc τ ⟨cs,k4,l4,rfl,rfl,hlen,hk4,hl4⟩ N hN
   refine ⟨ns,k4,l4,rfl,hk4,hl4,λx k5 l5 _ hk5 hl5=>?_⟩
   exact hN _ _ ⟨cs++[x],k5,l5,rfl,by simp[Sl.d],by simp at hlen ⊢;omega,hk5,hl5⟩
  ·rintro acc τ ⟨cs,k4,l4,rfl,rfl,hlen,hk4,hl4⟩
   exact q sd cs k4 l4 _ hsd (by simpa using hlen) hk4 hl4
structure CalsKn(P:Program)(w:World)(K:i0)(mg:Str->Option Value)(base:Heap):Prop where
 law_all:Cal P w K mg base 2 "_law_all" ["_law_sides_here"] (conSp K cAllL)
noncomputable def cKnown:Con:=λargs Q=>∃sd cl:List Int,args=[.fz (fldD sd cl)]/\Sd sd/\cl.length=(plc sd).length/\∀o,Q (.ow (.dict ((dic sd cl).map enT))) o
theorem scKnown:FnScope ["_law_field_here"] ["_law_field_here"] (defScope (top 35)):=⟨rfl,rfl,rfl,by decide +kernel,rfl,by decide +kernel,by decide +kernel⟩
theorem ok_known{f:Addr}{fd:FuncData}(F:Fun K "_law_known" "_law_known" (top 35) f fd)(T:Txt mg)(C:CalsKn P w K mg base):FnOk P w K mg base CX0 3 f fd ["_law_field_here"] (conSp K cKnown):=by
 have S:=scKnown
 refine wfn F S (λcdv A outer s H E hr=>(s_one (s_ret (w_DZ rfl rfl (hu2_of hr) T.dict_ (by decide +kernel) T.zip_ (wa_cons (wx (w_fn C.law_all (hr.mono (by first|decide|omega)) (wa_cons (wx (w_ix rfl (wn 0) (wx w_int))) wa_nil))) (wa_cons (wx (w_ix rfl (wn 0) (wx w_int))) wa_nil)))))) ?_ ?_
 ·rintro args Qd ⟨sd,cl,rfl,_⟩;rfl
 ·rintro args Qd ⟨sd,cl,rfl,hsd,hcl,q⟩
  refine ⟨noOw_of rfl,?_⟩
  refine ⟨_,rfl,_,sd,rfl,.inr rfl,hsd,λ_=>?_⟩
  refine ⟨_,rfl,dic sd cl,?_,?_,dic_nodup hsd.p hcl,q _⟩
  ·rw[dic_fst hcl];rfl
  ·rw[dic_snd hcl];rfl
end
mutual
noncomputable def okD:PyData->Bool
 | .dict es=>notScr es
 | .list xs=>okAll xs
 | .tuple xs=>okAll xs
 | .none=>true
 | .bool _=>true
 | .int _=>true
 | .str _=>true
noncomputable def okAll:List PyData->Bool
 | []=>true
 | x :: xs=>okD x&&okAll xs
end
theorem okAll_mem:∀{xs:List PyData},okAll xs=true->∀d∈xs,okD d=true
 | [],_,d,h=>by simp at h
 | x :: xs,h,d,hd=>by
  simp[okAll]at h
  rcases Y0.mp hd with rfl|hd
  ·exact h.1
  ·exact okAll_mem h.2 d hd
theorem okAll_of:∀{xs:List PyData},(∀d∈xs,okD d=true)->okAll xs=true
 | [],_=>rfl
 | x :: xs,h=>by
  simp[okAll]
  exact ⟨h x K0,okAll_of λd hd=>h d (u0 _ hd)⟩
noncomputable def isI:PyData->Bool
 | .int _=>true
 | _=>false
noncomputable def num1(s:Int):PyData->Bool
 | .int i=>decide (0<=i)&&decide (i < s)
 | _=>false
noncomputable def okZ:List PyData->List Int->Bool
 | d :: ds,s :: sd=>num1 s d&&okZ ds sd
 | _,_=>true
noncomputable def isPl(sd:List Int):PyData->Bool
 | .tuple ds=>decide (ds.length=sd.length)&&okZ ds sd
 | _=>false
theorem ints_of:∀{ds:List PyData},ds.all isI=true->∃ns:List Int,ds=ns.map j0
 | [],_=>⟨[],rfl⟩
 | d :: ds,h=>by
  simp at h
  obtain⟨ns,e⟩:=ints_of (ds:=ds) (by simpa using h.2)
  cases d<;>simp[isI]at h
  rename_i i
  exact ⟨i :: ns,by rw[e];rfl⟩
theorem okZ_ints:∀{ds:List PyData}{sd:List Int},ds.length=sd.length->okZ ds sd=true->ds.all isI=true
 | [],_,_,_=>rfl
 | d :: ds,[],h,_=>by simp at h
 | d :: ds,s :: sd,h,k=>by
  simp[okZ]at k
  have:=okZ_ints (ds:=ds) (sd:=sd) (by simpa using h) k.2
  cases d<;>simp[num1]at k
  rename_i i
  show (isI (.int i)&&ds.all isI)=true
  rw[this];rfl
noncomputable def numZ(p:Int×Int):Bool:=decide (0<=p.1)&&decide (p.1 < p.2)
theorem okZ_zip:∀(ns sd:List Int),okZ (ns.map j0) sd=((ns.zip sd).map numZ).all id
 | [],_=>by simp[okZ]
 | n :: ns,[]=>by simp[okZ]
 | n :: ns,s :: sd=>by simp[okZ,num1,numZ,okZ_zip ns sd]
noncomputable def leZ(ns ms:List Int):Bool:=((ns.zip ms).map λp=>decide (p.1<=p.2)).all id
noncomputable def unI:PyData->Int
 | .int i=>i
 | _=>0
noncomputable def leD:PyData->PyData->Bool
 | .tuple xs,.tuple ys=>leZ (xs.map unI) (ys.map unI)
 | _,_=>false
theorem unI_int(ns:List Int):(ns.map j0).map unI=ns:=by
 rw[P0];exact L8 ns
noncomputable def isBx(sd:List Int):PyData->Bool
 | .tuple [a,b]=>isPl sd a&&isPl sd b&&leD a b
 | _=>false
theorem isPl_ints{sd:List Int}{d:PyData}(h:isPl sd d=true):∃ns:List Int,d=tupD ns/\ns.length=sd.length:=by
 cases d<;>simp[isPl]at h
 rename_i ds
 obtain⟨ns,e⟩:=ints_of (okZ_ints h.1 h.2)
 subst e
 exact ⟨ns,rfl,by simpa using h.1⟩
theorem isBx_len{sd:List Int}{xs:List PyData}(h:xs.length≠2):isBx sd (.tuple xs)=false:=by
 rcases xs with _|⟨a,_|⟨b,_|⟨c,xs⟩⟩⟩<;>first|rfl|simp at h
section
variable {P:Program}{w:World}{K:i0}{mg:Str->Option Value}{base:Heap}
noncomputable def cWhole:Con:=λargs Q=>∃d,args=[.fz d]/\okD d=true/\∀o,Q (.fz (.bool (isI d))) o
theorem scWhole:FnScope ["thing"] ["thing"] (defScope (top 10)):=⟨rfl,rfl,rfl,by decide +kernel,rfl,by decide +kernel,by decide +kernel⟩
theorem ok_whole{f:Addr}{fd:FuncData}(F:Fun K "is_whole" "is_whole" (top 10) f fd)(T:Txt mg):FnOk P w K mg base CX0 1 f fd ["thing"] (conSp K cWhole):=by
 have S:=scWhole
 refine wfn F S (λcdv A outer s H E hr=>(s_one (s_ret (w_and (w_isiA .int rfl T.isinstance_ T.int_ boot_int (wn 0)) (w_one (w_not (w_isiA .bl rfl T.isinstance_ T.bool_ boot_bool (wn 0)))))))) ?_ ?_
 ·rintro args Qd ⟨d,rfl,_⟩;rfl
 ·rintro args Qd ⟨d,rfl,hd,q⟩
  refine ⟨noOw_of rfl,?_⟩
  cases d with
  | dict es=>exact ⟨hd,q _⟩
  | int i=>exact q _
  | bool b=>exact q _
  | none=>exact q _
  | str x=>exact q _
  | list xs=>exact q _
  | tuple xs=>exact q _
structure CalsC(P:Program)(w:World)(K:i0)(mg:Str->Option Value)(base:Heap):Prop where
 is_whole:Cal P w K mg base 1 "is_whole" ["thing"] (conSp K cWhole)
noncomputable def areW(n:Nat):PyData->Bool
 | .tuple ds=>decide (ds.length=n)&&ds.all isI
 | _=>false
noncomputable def cAreW:Con:=λargs Q=>∃(d:PyData) (n:Nat),args=[.fz d,.fz (.int n)]/\okD d=true/\n<=1000/\∀o,Q (.fz (.bool (areW n d))) o
theorem scAreW:FnScope ["thing","many"] ["thing","many"] (defScope (top 11)):=⟨rfl,rfl,rfl,by decide +kernel,rfl,by decide +kernel,by decide +kernel⟩
theorem ok_areW{f:Addr}{fd:FuncData}(F:Fun K "are_wholes" "are_wholes" (top 11) f fd)(T:Txt mg)(C:CalsC P w K mg base):FnOk P w K mg base CX0 2 f fd ["thing","many"] (conSp K cAreW):=by
 have S:=scAreW
 refine wfn F S (λcdv A outer s H E hr=>(s_cons (s_if (t_w (t_or (t_not (t_val (w_isiA .tup rfl T.isinstance_ T.tuple_ boot_tuple (wn 0)))) (t_or1 (t_cmp ok_ne (op_neE (K:=K) rfl hr.units) (wx (w_callB ok_len (call_lenK (K:=K) rfl) T.len_ PySem.boot_len (wa_cons (wn 0) wa_nil))) (wn 1))))) (s_one (s_ret w_bl)) s_nil)
     (s_one (s_ret (w_callB ok_all (call_allK (K:=K) rfl rfl) T.all_ boot_all (wa_cons (wx (w_comp rfl (own:=["number"]) (fr:=[]) (by kernel_rfl) (i_seq rfl (wv 0)) (λ_ _ _ _=>(g_name (i:=0) (by decide +kernel:O1 (["number"]:List Str)) rfl (Or.inl rfl))) (λ_ _ _ _=>if0) (λ_ _ _ _=>(w_fn C.is_whole (hr.mono (by first|decide|omega)) (wa_cons (wn 0) wa_nil))))) wa_nil)))))) ?_ ?_
 ·rintro args Qd ⟨d,n,rfl,_⟩;rfl
 ·rintro args Qd ⟨d,n,rfl,hd,hn,q⟩
  refine ⟨noOw_of rfl,?_⟩
  cases d with
  | dict es=>exact ⟨hd,q _⟩
  | int i=>exact q _
  | bool b=>exact q _
  | none=>exact q _
  | str x=>exact q _
  | list xs=>exact q _
  | tuple xs =>
   refine ite2 (λh=>?_) (λh=>?_)
   ·have h:¬(xs.length:Int)=n:=by simpa using h
    have e:areW n (.tuple xs)=false:=by simp[areW];intro z;omega
    rw[e]at q
    exact q _
   ·have h:(xs.length:Int)=n:=by simpa using h
    have hl:xs.length=n:=by omega
    refine ⟨le_size (by omega),mapC (λd=>.bool (isI d)) ?_ ?_⟩
    ·intro d hd2 N hN
     exact ⟨d,rfl,okAll_mem (by simpa [okD]using hd) d hd2,λo=>hN⟩
    ·refine ⟨xs.map isI,by rw[P0];rfl,?_⟩
     have e:areW n (.tuple xs)=(xs.map isI).all id:=by simp[areW,hl]
     rw[<- e]
     exact q _
structure CalsD(P:Program)(w:World)(K:i0)(mg:Str->Option Value)(base:Heap):Prop where
 are_wholes:Cal P w K mg base 2 "are_wholes" ["thing","many"] (conSp K cAreW)
noncomputable def cIsPlace:Con:=λargs Q=>∃(sd:List Int) (d:PyData),args=[.fz (tupD sd),.fz d]/\okD d=true/\sd.length<=1000/\∀o,Q (.fz (.bool (isPl sd d))) o
noncomputable def fNum:PyData->PyData
 | .tuple [.int a,.int b]=>.bool (numZ (a,b))
 | _=>.none
theorem scIsPlace:FnScope ["sides","thing"] ["sides","thing"] (defScope (top 16)):=⟨rfl,rfl,rfl,by decide +kernel,rfl,by decide +kernel,by decide +kernel⟩
theorem ok_isPlace{f:Addr}{fd:FuncData}(F:Fun K "is_place" "is_place" (top 16) f fd)(T:Txt mg)(C:CalsD P w K mg base):FnOk P w K mg base CX0 3 f fd ["sides","thing"] (conSp K cIsPlace):=by
 have S:=scIsPlace
 refine wfn F S (λcdv A outer s H E hr=>(s_cons (s_if (t_not (t_val (w_fn C.are_wholes (hr.mono (by first|decide|omega)) (wa_cons (wn 1) (wa_cons (wx (w_callB ok_len (call_lenK (K:=K) rfl) T.len_ PySem.boot_len (wa_cons (wn 0) wa_nil))) wa_nil))))) (s_one (s_ret w_bl)) s_nil)
     (s_one (s_ret (w_callB ok_all (call_allK (K:=K) rfl rfl) T.all_ boot_all (wa_cons (wx (w_comp rfl (own:=["number","side"]) (fr:=[]) (by kernel_rfl) (i_zip2 rfl T.zip_ (wa_cons (wn 1) (wa_cons (wn 0) wa_nil))) (λ_ _ _ _=>(g_tup rfl rfl (gs_cons (g_name (i:=0) (by decide +kernel:O1 (["number","side"]:List Str)) rfl (Or.inl rfl)) (gs_cons (g_name (i:=1) (by decide +kernel:O1 (["number","side"]:List Str)) rfl (Or.inl rfl)) gs_nil)))) (λ_ _ _ _=>if0) (λ_ _ _ _=>(w_chain op_le op_lt (wx w_int) (wn 0) (wn 1))))) wa_nil)))))) ?_ ?_
 ·rintro args Qd ⟨sd,d,rfl,_⟩;rfl
 ·rintro args Qd ⟨sd,d,rfl,hd,hn,q⟩
  refine ⟨noOw_of rfl,?_⟩
  refine ⟨d,sd.length,by rw[n0];rfl,hd,hn,λo=>?_⟩
  cases ha:areW sd.length d with
  | false =>
   have e:isPl sd d=false:=by
    cases d<;>first|rfl|skip
    rename_i ds
    simp[areW]at ha
    by_cases h:ds.length=sd.length
    ·cases hz:okZ ds sd with
     | false=>simp[isPl,hz]
     | true =>
      have:=okZ_ints h hz
      exact absurd this (by simpa using ha h)
    ·simp[isPl,h]
   rw[e]at q
   exact q _
  | true =>
   cases d<;>simp[areW]at ha
   rename_i ds
   obtain⟨hl,hi⟩:=ha
   obtain⟨ns,rfl⟩:=ints_of (ds:=ds) (by simpa using hi)
   have hz:zipD (ns.map j0) (sd.map j0)=(ns.zip sd).map λp=>N1 [.int p.1,.int p.2]:=zipD_ints ns sd
   have hln:ns.length=sd.length:=by simpa using hl
   refine ⟨by rw[hz,n0,K2];exact le_size (by omega),mapC fNum ?_ ?_⟩
   ·intro d hd2 N hN
    rw[hz]at hd2
    obtain⟨⟨a,b⟩,_,rfl⟩:=T0.mp hd2
    have hN:N (.bool (numZ (a,b))) _:=hN
    refine ⟨rfl,?_⟩
    refine ite2 (λh=>?_) (λh=>?_)
    ·have e:numZ (a,b)=decide (a < b):=by
      have h:decide (0<=a)=true:=h
      simp[numZ,of_decide_eq_true h]
     rw[e]at hN
     exact hN
    ·have e:numZ (a,b)=false:=by
      have h:¬decide (0<=a)=true:=h
      simp[numZ]
      intro z
      exact absurd (decide_eq_true z) h
     rw[e]at hN
     exact hN
   ·rw[hz,P0]
    refine ⟨(ns.zip sd).map numZ,by rw[P0];rfl,?_⟩
    have e:isPl sd (.tuple (ns.map j0))=((ns.zip sd).map numZ).all id:=by
     rw[<- okZ_zip]
     simp[isPl,hln]
    rw[<- e]
    exact q _
structure CalsE(P:Program)(w:World)(K:i0)(mg:Str->Option Value)(base:Heap):Prop where
 is_place:Cal P w K mg base 3 "is_place" ["sides","thing"] (conSp K cIsPlace)
noncomputable def cIsBox:Con:=λargs Q=>∃(sd:List Int) (d:PyData),args=[.fz (tupD sd),.fz d]/\okD d=true/\sd.length<=1000/\∀o,Q (.fz (.bool (isBx sd d))) o
noncomputable def fLe:PyData->PyData
 | .tuple [.int a,.int b]=>.bool (decide (a<=b))
 | _=>.none
theorem scIsBox:FnScope ["sides","thing"] ["sides","thing"] (defScope (top 17)):=⟨rfl,rfl,rfl,by decide +kernel,rfl,by decide +kernel,by decide +kernel⟩
theorem ok_isBox{f:Addr}{fd:FuncData}(F:Fun K "is_box" "is_box" (top 17) f fd)(T:Txt mg)(C:CalsE P w K mg base):FnOk P w K mg base CX0 4 f fd ["sides","thing"] (conSp K cIsBox):=by
 have S:=scIsBox
 refine wfn F S (λcdv A outer s H E hr=>(s_cons (s_if (t_w (t_or (t_not (t_val (w_isiA .tup rfl T.isinstance_ T.tuple_ boot_tuple (wn 1)))) (t_or1 (t_cmp ok_ne (op_neE (K:=K) rfl hr.units) (wx (w_callB ok_len (call_lenK (K:=K) rfl) T.len_ PySem.boot_len (wa_cons (wn 1) wa_nil))) (wx w_int))))) (s_one (s_ret w_bl)) s_nil)
     (s_cons (s_if (t_w (t_or (t_not (t_val (w_fn C.is_place (hr.mono (by first|decide|omega)) (wa_cons (wn 0) (wa_cons (wx (w_ix rfl (wn 1) (wx w_int))) wa_nil))))) (t_or1 (t_not (t_val (w_fn C.is_place (hr.mono (by first|decide|omega)) (wa_cons (wn 0) (wa_cons (wx (w_ix rfl (wn 1) (wx w_int))) wa_nil)))))))) (s_one (s_ret w_bl)) s_nil)
     (s_one (s_ret (w_callB ok_all (call_allK (K:=K) rfl rfl) T.all_ boot_all (wa_cons (wx (w_comp rfl (own:=["first","last"]) (fr:=[]) (by kernel_rfl) (i_zip2 rfl T.zip_ (wa_cons (wx (w_ix rfl (wn 1) (wx w_int))) (wa_cons (wx (w_ix rfl (wn 1) (wx w_int))) wa_nil))) (λ_ _ _ _=>(g_tup rfl rfl (gs_cons (g_name (i:=0) (by decide +kernel:O1 (["first","last"]:List Str)) rfl (Or.inl rfl)) (gs_cons (g_name (i:=1) (by decide +kernel:O1 (["first","last"]:List Str)) rfl (Or.inl rfl)) gs_nil)))) (λ_ _ _ _=>if0) (λ_ _ _ _=>(w_cmp ok_le op_le (wn 0) (wn 1))))) wa_nil))))))) ?_ ?_
 ·rintro args Qd ⟨sd,d,rfl,_⟩;rfl
 ·rintro args Qd ⟨sd,d,rfl,hd,hn,q⟩
  refine ⟨noOw_of rfl,?_⟩
  cases d with
  | dict es=>exact ⟨hd,q _⟩
  | int i=>exact q _
  | bool b=>exact q _
  | none=>exact q _
  | str x=>exact q _
  | list xs=>exact q _
  | tuple xs =>
   refine ite2 (λh=>?_) (λh=>?_)
   ·have h:¬(xs.length:Int)=2:=by simpa using h
    rw[isBx_len (by omega)]at q
    exact q _
   ·have h:(xs.length:Int)=2:=by simpa using h
    obtain⟨a,b,rfl⟩:∃a b,xs=[a,b]:=by
     rcases xs with _|⟨a,_|⟨b,_|⟨c,xs⟩⟩⟩
     ·simp at h
     ·simp at h
     ·exact ⟨a,b,rfl⟩
     ·simp at h;omega
    have hab:okD a=true/\okD b=true:=by simpa [okD,okAll]using hd
    refine ⟨a,rfl,sd,a,rfl,hab.1,hn,λo=>?_⟩
    cases ha:isPl sd a with
    | false =>
     have e:isBx sd (.tuple [a,b])=false:=by simp[isBx,ha]
     rw[e]at q
     exact q _
    | true =>
     refine ⟨b,rfl,sd,b,rfl,hab.2,hn,λo=>?_⟩
     cases hb:isPl sd b with
     | false =>
      have e:isBx sd (.tuple [a,b])=false:=by simp[isBx,hb]
      rw[e]at q
      exact q _
     | true =>
      obtain⟨ns,rfl,hns⟩:=isPl_ints ha
      obtain⟨ms,rfl,hms⟩:=isPl_ints hb
      have hz:=zipD_ints ns ms
      refine ⟨tupD ns,rfl,tupD ms,rfl,by rw[hz,n0,K2];exact le_size (by omega),mapC fLe ?_ ?_⟩
      ·intro d hd2 N hN
       rw[hz]at hd2
       obtain⟨⟨a,b⟩,_,rfl⟩:=T0.mp hd2
       exact ⟨rfl,hN⟩
      ·rw[hz,P0]
       refine ⟨(ns.zip ms).map λp=>decide (p.1<=p.2),by rw[P0];rfl,?_⟩
       have e:isBx sd (.tuple [tupD ns,tupD ms])=((ns.zip ms).map λp=>decide (p.1<=p.2)).all id:=by
        simp only[isBx,ha,hb,Bool.true_and]
        show leZ ((ns.map j0).map unI) ((ms.map j0).map unI)=_
        rw[unI_int,unI_int];rfl
       rw[<- e]
       exact q _
end
theorem eachA_map{α β:Type}(f:α->β):∀(cs acc:List (List α)),(eachA acc cs).map (G5 f)=eachA (acc.map (G5 f)) (cs.map (G5 f))
 | [],acc=>rfl
 | c :: cs,acc=>by
  show (eachA (acc.flatMap λp=>c.map λx=>p++[x]) cs).map (G5 f)=eachA ((acc.map (G5 f)).flatMap λp=>(c.map f).map λx=>p++[x]) (cs.map (G5 f))
  rw[eachA_map f cs]
  congr 1
  rw[List.map_flatMap,List.flatMap_map]
  congr 1
  funext p
  simp[P0,Function.comp_def]
section
variable {P:Program}{w:World}{K:i0}{mg:Str->Option Value}{base:Heap}
noncomputable def cEach:Con:=λargs Q=>∃cs:List (List PyData),args=[.fz (.list (cs.map M4))]/\(∀c∈cs,c≠[])/\lenP cs<=1000/\cs.length<=1000/\∀o,Q (.ow (.list ((eachA [[]] cs).map N1))) o
theorem scEach:FnScope ["choices","chosen","things","longer","ahead","thing"] ["choices"] (defScope (top 12)):=⟨rfl,rfl,rfl,by decide +kernel,rfl,by decide +kernel,by decide +kernel⟩
theorem ok_each{f:Addr}{fd:FuncData}(F:Fun K "one_of_each" "one_of_each" (top 12) f fd):FnOk P w K mg base CX0 1 f fd ["choices"] (conSp K cEach):=by
 have S:=scEach
 refine wfn F S (λcdv A outer s H E hr=>(s_cons (s_set (i:=1) S.nd rfl (Or.inl rfl) (w_lst (wa_cons (wx (w_tup wa_nil)) wa_nil)))
     (s_cons (s_for [2,3,4] PassesOwn.never rfl (i_seq rfl (wv 0)) (g_name (i:=2) S.nd rfl (Or.inl rfl)) (s_cons (s_set (i:=3) S.nd rfl (Or.inl rfl) (w_lst wa_nil))
     (s_cons (s_for [4,5] PassesOwn.never rfl (i_seq rfl (wv 1)) (g_name (i:=4) S.nd rfl (Or.inl rfl)) (s_one (s_for [5] PassesOwn.never rfl (i_seq rfl (wv 2)) (g_name (i:=5) S.nd rfl (Or.inl rfl)) (s_one (s_expr (w_m ok_append rfl PySem.F.slot_list_append PySem.F.type_list_append mt_append (wn 3) (wa_cons (wx (w_bin ok_add op_addD (wn 4) (wx (w_tup (wa_cons (wx (wv 5)) wa_nil))))) wa_nil)))))))
     (s_one (s_move (i:=1) S.nd rfl (Or.inl rfl) (wn 3))))))
     (s_one (s_retV (wn 1)))))) ?_ ?_
 ·rintro args Qd ⟨cs,rfl,_⟩;rfl
 ·rintro args Qd ⟨cs,rfl,hne,hlen,hcl,q⟩
  refine ⟨noOw_of rfl,?_⟩
  refine loopC (λrest ρ=>∃(acc rs:List (List PyData)),ρ=[some (.fz (.list (cs.map M4))),some (.ow (.list (acc.map N1))),none,none,none,none]/\rest=rs.map M4/\(∀c∈rs,c≠[])/\acc.length * lenP rs=lenP cs/\eachA acc rs=eachA [[]] cs/\(∀p∈acc,p.length+rs.length<=1000)) ?_ ?_
   ⟨[[]],cs,rfl,rfl,hne,by simp,rfl,λp hp=>by simp at hp;subst hp;simpa using hcl⟩
  ·rintro d ds ρ ⟨acc,rs,rfl,er,hne',hln,hacc,hpl⟩ N hN
   cases rs with
   | nil=>cases er
   | cons c rs =>
    cases er
    have hr2:∀c∈rs,c≠[]:=λc hc=>hne' c (u0 _ hc)
    have hlp:=lenP_pos hr2
    have htot:(acc.flatMap λp=>c.map λx=>p++[x]).length<=1000:=by
     rw[flat_len]
     have h1:acc.length * (c.length * lenP rs)=lenP cs:=hln
     rw[<- m8]at h1
     have:acc.length * c.length<=acc.length * c.length * lenP rs:=L7 _ hlp
     omega
    refine loopC (λrest ρ=>∃(lg rp:List (List PyData)),ρ=[some (.fz (.list (cs.map M4))),some (.fz (.list (acc.map N1))),some (.fz (.list c)),some (.ow (.list (lg.map N1))),none,none]/\rest=rp.map N1/\(lg++rp.flatMap λp=>c.map λx=>p++[x])=(acc.flatMap λp=>c.map λx=>p++[x])/\(∀p∈rp,p∈acc)) ?_ ?_
     ⟨[],acc,rfl,rfl,rfl,λp hp=>hp⟩
    ·rintro d ds ρ ⟨lg,rp,rfl,er,he,hin⟩ M hM
     cases rp with
     | nil=>cases er
     | cons p rp =>
      cases er
      have hp1:=hpl p (hin p K0)
      have hl5:lg.length+c.length<=1000:=by
       have:=congrArg Q3 he
       rw[R0,M3,R0,n0]at this
       omega
      refine loopC (λrest ρ=>∃(pre:List PyData),c=pre++rest/\ρ=[some (.fz (.list (cs.map M4))),some (.fz (.list (acc.map N1))),some (.fz (.list c)),some (.ow (.list ((lg++pre.map λx=>p++[x]).map N1))),some (.fz (.tuple p)),none]) ?_ ?_
       ⟨[],rfl,by simp;rfl⟩
      ·rintro x ds' ρ ⟨pre,hc,rfl⟩ L hL
       refine ⟨by simp at hp1 ⊢;exact le_size (by omega),by rw[n0,R0,n0];have:=congrArg Q3 hc;simp at this;exact J0 (show _ < 1000 by omega) (by decide),?_⟩
       refine hL _ ⟨pre++[x],by rw[hc];simp,?_⟩
       have e1:((lg++pre.map λx=>p++[x]).map N1)++[N1 (p++[x])]=((lg++(pre++[x]).map λx=>p++[x]).map N1):=by simp
       rw[<- e1];rfl
      ·rintro ρ ⟨pre,hc,rfl⟩
       rw[T2]at hc
       subst hc
       exact hM _ ⟨lg++c.map λx=>p++[x],rp,rfl,rfl,by rw[Z1,<- he,M3],λp' hp'=>hin p' (u0 _ hp')⟩
    ·rintro ρ ⟨lg,rp,rfl,er,he,hin⟩
     cases rp with
     | cons p rp=>cases er
     | nil =>
      rw[List.flatMap_nil,T2]at he
      refine hN _ ⟨acc.flatMap λp=>c.map λx=>p++[x],rs,by rw[he];rfl,rfl,hr2,?_,hacc,λp hp=>?_⟩
      ·rw[flat_len,m8];exact hln
      ·obtain⟨p',hp',hx⟩:=u5.mp hp
       obtain⟨x,_,rfl⟩:=T0.mp hx
       have:=hpl p' hp'
       simp at this ⊢
       omega
  ·rintro ρ ⟨acc,rs,rfl,er,hne',hln,hacc,hpl⟩
   cases rs with
   | cons a rs=>cases er
   | nil =>
    have hacc:acc=eachA [[]] cs:=hacc
    rw[hacc]
    exact q _
structure CalsBt(P:Program)(w:World)(K:i0)(mg:Str->Option Value)(base:Heap):Prop where
 one_of_each:Cal P w K mg base 1 "one_of_each" ["choices"] (conSp K cEach)
noncomputable def cBtw:Con:=λargs Q=>∃low high:List Int,args=[.fz (tupD low),.fz (tupD high)]/\low.length=high.length/\low.length<=3/\(∀p∈low.zip high,0<=p.1/\p.1<=p.2/\p.2<=1000)/\lenP ((low.zip high).map λp=>rng2 p.1 p.2)<=1000/\∀o,Q (.ow (.list ((btw low high).map tupD))) o
theorem scBtw:FnScope ["low","high"] ["low","high"] (defScope (top 13)):=⟨rfl,rfl,rfl,by decide +kernel,rfl,by decide +kernel,by decide +kernel⟩
theorem ok_btw{f:Addr}{fd:FuncData}(F:Fun K "places_between" "places_between" (top 13) f fd)(T:Txt mg)(C:CalsBt P w K mg base):FnOk P w K mg base CX0 2 f fd ["low","high"] (conSp K cBtw):=by
 have S:=scBtw
 refine wfn F S (λcdv A outer s H E hr=>(s_one (s_ret (w_fn C.one_of_each (hr.mono (by first|decide|omega)) (wa_cons (wx (w_comp rfl (own:=["first","last"]) (fr:=[]) (by kernel_rfl) (i_zip2 rfl T.zip_ (wa_cons (wn 0) (wa_cons (wn 1) wa_nil))) (λ_ _ _ _=>(g_tup rfl rfl (gs_cons (g_name (i:=0) (by decide +kernel:O1 (["first","last"]:List Str)) rfl (Or.inl rfl)) (gs_cons (g_name (i:=1) (by decide +kernel:O1 (["first","last"]:List Str)) rfl (Or.inl rfl)) gs_nil)))) (λ_ _ _ _=>if0) (λ_ _ _ _=>(w_LR rfl T.list_ T.range_ (wa_cons (wn 0) (wa_cons (wx (w_bin ok_add op_addD (wn 1) (wx w_int))) wa_nil)))))) wa_nil))))) ?_ ?_
 ·rintro args Qd ⟨low,high,rfl,_⟩;rfl
 ·rintro args Qd ⟨low,high,rfl,hl,h3,hb,hlen,q⟩
  refine ⟨noOw_of rfl,?_⟩
  have hz:(zipD (low.map j0) (high.map j0)).length<=sizeLine:=by rw[zipD_ints,n0,K2];exact le_size (by omega)
  refine ⟨hz,mapC (λd=>match d with | .tuple [.int a,.int b]=>.list (rangeD a (b+1 - a).toNat)|_=>.none) ?_ ?_⟩
  ·intro d hd N hN
   rw[zipD_ints]at hd
   obtain⟨⟨a,b⟩,hp,rfl⟩:=T0.mp hd
   have hab:=hb _ hp
   simp only at hab
   exact ⟨rfl,⟨by omega,by omega,by omega,by omega⟩,by omega,hN⟩
  ·have e1:(zipD (low.map j0) (high.map j0)).map (λd=>match d with | .tuple [.int a,.int b]=>M4 (rangeD a (b+1 - a).toNat)|_=>.none)=(((low.zip high).map λp=>rng2 p.1 p.2).map (G5 j0)).map M4:=by
    rw[zipD_ints,P0,P0,P0]
    refine S2 λp _=>?_
    simp[rangeD_rng2]
   rw[e1]
   have hl2:lenP (((low.zip high).map λp=>rng2 p.1 p.2).map (G5 j0))=lenP ((low.zip high).map λp=>rng2 p.1 p.2):=by
    generalize (low.zip high).map (λp=>rng2 p.1 p.2)=cs
    induction cs with
    | nil=>rfl
    | cons c cs ih=>simp[lenP,ih]
   refine ⟨((low.zip high).map λp=>rng2 p.1 p.2).map (G5 j0),rfl,?_,by rw[hl2];exact hlen,by simp;omega,λo=>?_⟩
   ·intro c hc
    obtain⟨c',hc',rfl⟩:=T0.mp hc
    obtain⟨p,hp,rfl⟩:=T0.mp hc'
    have:=hb p hp
    intro z
    have:=congrArg Q3 z
    simp[rng2]at this
    omega
   ·have e2:(eachA [[]] (((low.zip high).map λp=>rng2 p.1 p.2).map (G5 j0))).map N1=(btw low high).map tupD:=by
     have:=eachA_map j0 ((low.zip high).map λp=>rng2 p.1 p.2) [[]]
     simp only[X1,O6]at this
     rw[<- this,P0];rfl
    rw[e2]
    exact q _
noncomputable def cIndex:Con:=λargs Q=>∃sd pl:List Int,args=[.fz (tupD sd),.fz (tupD pl)]/\sd.length<=1000/\(∀s∈sd,0<=s/\s < 2 ^ 64)/\∀o,Q (.fz (.int (idx sd pl))) o
theorem scIndex:FnScope ["sides","place","index","side","number"] ["sides","place"] (defScope (top 14)):=⟨rfl,rfl,rfl,by decide +kernel,rfl,by decide +kernel,by decide +kernel⟩
theorem ok_index{f:Addr}{fd:FuncData}(F:Fun K "index_of" "index_of" (top 14) f fd)(T:Txt mg):FnOk P w K mg base CX0 1 f fd ["sides","place"] (conSp K cIndex):=by
 have S:=scIndex
 refine wfn F S (λcdv A outer s H E hr=>(s_cons (s_set (i:=2) S.nd rfl (Or.inl rfl) w_int)
     (s_cons (s_for [3,4] PassesOwn.never rfl (i_zip2 rfl T.zip_ (wa_cons (wn 0) (wa_cons (wn 1) wa_nil))) (g_tup rfl rfl (gs_cons (g_name (i:=3) S.nd rfl (Or.inl rfl)) (gs_cons (g_name (i:=4) S.nd rfl (Or.inl rfl)) gs_nil))) (s_one (s_set (i:=2) S.nd rfl (Or.inl rfl) (w_bin ok_add op_addD (wx (w_bin ok_mul op_mulD (wn 2) (wn 3))) (wn 4)))))
     (s_one (s_retV (wn 2)))))) ?_ ?_
 ·rintro args Qd ⟨sd,pl,rfl,_⟩;rfl
 ·rintro args Qd ⟨sd,pl,rfl,hl,hs,q⟩
  refine ⟨noOw_of rfl,?_⟩
  refine loopC (λrest ρ=>∃(i:Int) (rs:List (Int×Int)),ρ=[some (.fz (tupD sd)),some (.fz (tupD pl)),some (.fz (.int i)),none,none]/\rest=rs.map (λp=>N1 [.int p.1,.int p.2])/\(∀p∈rs,p∈sd.zip pl)/\rs.foldl (λi p=>i * p.1+p.2) i=idx sd pl) ?_ ?_
   ⟨0,sd.zip pl,rfl,zipD_ints _ _,λ_ h=>h,rfl⟩
  ·rintro d ds ρ ⟨i,rs,rfl,er,hin,hf⟩ N hN
   cases rs with
   | nil=>cases er
   | cons p rs =>
    cases er
    have hp:=hs p.1 (K6 (hin p K0)).1
    exact ⟨rfl,.inr ⟨by omega,by omega⟩,hN _ ⟨i * p.1+p.2,rs,rfl,rfl,λx hx=>hin x (u0 _ hx),hf⟩⟩
  ·rintro ρ ⟨i,rs,rfl,er,hin,hf⟩
   cases rs with
   | nil =>
    have hf:i=idx sd pl:=hf
    subst hf
    exact q _
   | cons _ _=>cases er
end
noncomputable def Bx:List Int->List Int->List Int->Prop
 | [],[],[]=>True
 | x :: lo,y :: hi,s :: sd=>(0<=x/\x<=y/\y < s)/\Bx lo hi sd
 | _,_,_=>False
noncomputable abbrev bxD(lo hi:List Int):PyData:=.tuple [tupD lo,tupD hi]
theorem bx_len:∀{lo hi sd:List Int},Bx lo hi sd->lo.length=sd.length/\hi.length=sd.length
 | [],[],[],_=>⟨rfl,rfl⟩
 | x :: lo,y :: hi,s :: sd,h=>by
  have:=bx_len h.2
  simp[this.1,this.2]
 | [],[],_ :: _,h=>h.elim
 | [],_ :: _,z,h=>by cases z<;>exact h.elim
 | _ :: _,[],z,h=>by cases z<;>exact h.elim
 | _ :: _,_ :: _,[],h=>h.elim
theorem bx_is:∀{lo hi sd:List Int},Bx lo hi sd->okZ (lo.map j0) sd=true/\okZ (hi.map j0) sd=true/\leZ lo hi=true
 | [],[],[],_=>⟨rfl,rfl,rfl⟩
 | x :: lo,y :: hi,s :: sd,h=>by
  obtain⟨h1,h2,h3⟩:=bx_is h.2
  have hx:=h.1
  refine ⟨?_,?_,?_⟩
  ·simp only[X1,okZ,num1,h1,W4,O2,decide_eq_true_eq];omega
  ·simp only[X1,okZ,num1,h2,W4,O2,decide_eq_true_eq];omega
  ·have e:leZ (x :: lo) (y :: hi)=(decide (x<=y)&&leZ lo hi):=by simp[leZ]
   rw[e,h3,W4,decide_eq_true_eq];exact hx.2.1
 | [],[],_ :: _,h=>h.elim
 | [],_ :: _,z,h=>by cases z<;>exact h.elim
 | _ :: _,[],z,h=>by cases z<;>exact h.elim
 | _ :: _,_ :: _,[],h=>h.elim
theorem bx_isBx{lo hi sd:List Int}(h:Bx lo hi sd):isBx sd (bxD lo hi)=true:=by
 obtain⟨h1,h2,h3⟩:=bx_is h
 obtain⟨e1,e2⟩:=bx_len h
 have a1:isPl sd (tupD lo)=true:=by
  show (decide ((lo.map j0).length=sd.length)&&okZ (lo.map j0) sd)=true
  rw[n0,h1,W4];exact decide_eq_true e1
 have a2:isPl sd (tupD hi)=true:=by
  show (decide ((hi.map j0).length=sd.length)&&okZ (hi.map j0) sd)=true
  rw[n0,h2,W4];exact decide_eq_true e2
 show (isPl sd (tupD lo)&&isPl sd (tupD hi)&&leZ ((lo.map j0).map unI) ((hi.map j0).map unI))=true
 rw[a1,a2,unI_int,unI_int,h3];rfl
theorem okD_tup(p:List Int):okD (tupD p)=true:=okAll_of λd hd=>by
 obtain⟨i,_,rfl⟩:=T0.mp hd;rfl
theorem okD_bx(lo hi:List Int):okD (bxD lo hi)=true:=by
 show (okD (tupD lo)&&(okD (tupD hi)&&true))=true
 rw[okD_tup,okD_tup];rfl
theorem bx_last:∀{lo hi sd:List Int},Bx lo hi sd->1<=sd.length->∃ls hs ss a b s,lo=ls++[a]/\hi=hs++[b]/\sd=ss++[s]/\Bx ls hs ss/\0<=a/\a<=b/\b < s
 | [],[],[],_,h=>by simp at h
 | x :: lo,y :: hi,s :: sd,h,_=>by
  cases sd with
  | nil =>
   cases lo with
   | nil =>
    cases hi with
    | nil=>exact ⟨[],[],[],x,y,s,rfl,rfl,rfl,trivial,h.1⟩
    | cons _ _=>exact h.2.elim
   | cons _ _=>cases hi<;>exact h.2.elim
  | cons s2 sd =>
   obtain⟨ls,hs,ss,a,b,t,e1,e2,e3,h1,h2⟩:=bx_last (sd:=s2 :: sd) h.2 (by simp)
   exact ⟨x :: ls,y :: hs,s :: ss,a,b,t,by rw[e1];rfl,by rw[e2];rfl,by rw[e3];rfl,⟨h.1,h1⟩,h2⟩
 | [],[],_ :: _,h,_=>h.elim
 | [],_ :: _,z,h,_=>by cases z<;>exact h.elim
 | _ :: _,[],z,h,_=>by cases z<;>exact h.elim
 | _ :: _,_ :: _,[],h,_=>h.elim
theorem mem_rng2{a b x:Int}(h:x∈rng2 a b):a<=x/\x<=b:=by
 unfold rng2 at h
 obtain⟨n,hn,rfl⟩:=T0.mp h
 have:=i5.mp hn
 omega
theorem bx_inW:∀{lo hi sd p:List Int},Bx lo hi sd->InW p ((lo.zip hi).map λq=>rng2 q.1 q.2)->Wi p sd
 | [],[],[],[],_,_=>trivial
 | [],[],[],_ :: _,_,h=>h.elim
 | x :: lo,y :: hi,s :: sd,[],_,h=>h.elim
 | x :: lo,y :: hi,s :: sd,z :: p,h,k=>by
  have:=mem_rng2 k.1
  have hx:=h.1
  simp only at this
  exact ⟨by omega,bx_inW h.2 k.2⟩
 | [],[],_ :: _,_,h,_=>h.elim
 | [],_ :: _,z,_,h,_=>by cases z<;>exact h.elim
 | _ :: _,[],z,_,h,_=>by cases z<;>exact h.elim
 | _ :: _,_ :: _,[],_,h,_=>h.elim
theorem btw_wi{lo hi sd p:List Int}(h:Bx lo hi sd)(hp:p∈btw lo hi):Wi p sd:=bx_inW h (each_mem0 hp)
theorem bx_pair:∀{lo hi sd:List Int},Bx lo hi sd->∀p∈lo.zip hi,0<=p.1/\p.1<=p.2/\∃s∈sd,p.2 < s
 | [],[],[],_,p,hp=>by simp at hp
 | x :: lo,y :: hi,s :: sd,h,p,hp=>by
  rw[U6]at hp
  rcases Y0.mp hp with rfl|hp
  ·exact ⟨h.1.1,h.1.2.1,s,K0,h.1.2.2⟩
  ·obtain⟨h1,h2,t,ht,h3⟩:=bx_pair h.2 p hp
   exact ⟨h1,h2,t,u0 _ ht,h3⟩
 | [],[],_ :: _,h,_,_=>h.elim
 | [],_ :: _,z,h,_,_=>by cases z<;>exact h.elim
 | _ :: _,[],z,h,_,_=>by cases z<;>exact h.elim
 | _ :: _,_ :: _,[],h,_,_=>h.elim
theorem bx_lenP:∀{lo hi sd:List Int},Bx lo hi sd->(lenP ((lo.zip hi).map λq=>rng2 q.1 q.2):Int)<=prodI sd/\1<=prodI sd
 | [],[],[],_=>by simp[lenP,prodI]
 | x :: lo,y :: hi,s :: sd,h=>by
  obtain⟨h1,h2⟩:=bx_lenP h.2
  have hx:=h.1
  show (((rng2 x y).length * lenP ((lo.zip hi).map λq=>rng2 q.1 q.2):Nat):Int)<=s * prodI sd/\1<=s * prodI sd
  rw[rng2_len,Int.natCast_mul]
  refine ⟨X7 (by omega) h1 (Int.natCast_nonneg _) (by omega),?_⟩
  have:=X7 (show (1:Int)<=s by omega) h2 (by decide) (by omega)
  omega
 | [],[],_ :: _,h=>h.elim
 | [],_ :: _,z,h=>by cases z<;>exact h.elim
 | _ :: _,[],z,h=>by cases z<;>exact h.elim
 | _ :: _,_ :: _,[],h=>h.elim
theorem eachA_snoc{α:Type}(c:List α):∀(cs acc:List (List α)),eachA acc (cs++[c])=(eachA acc cs).flatMap λp=>c.map λx=>p++[x]
 | [],acc=>rfl
 | d :: cs,acc=>eachA_snoc c cs _
theorem btw_snoc{ls hs:List Int}(a b:Int)(h:ls.length=hs.length):btw (ls++[a]) (hs++[b])=(btw ls hs).flatMap λp=>(rng2 a b).map λx=>p++[x]:=by
 unfold btw
 rw[List.zip_append h,B3]
 exact eachA_snoc _ _ _
theorem idx_snoc{ss p:List Int}(s x:Int)(h:p.length=ss.length):idx (ss++[s]) (p++[x])=idx ss p * s+x:=by
 unfold idx
 rw[List.zip_append h.symm,List.foldl_append]
 rfl
theorem idx_nn{sd p:List Int}(h:Wi p sd):0<=idx sd p/\idx sd p < prodI sd:=by
 have:=idx_b h (B6 0) (by decide:(0:Int) < 1)
 rw[T7]at this
 exact this
theorem wi_snoc:∀{p ss:List Int}{x s:Int},Wi p ss->0<=x->x < s->Wi (p++[x]) (ss++[s])
 | [],[],_,_,_,h1,h2=>⟨⟨h1,h2⟩,trivial⟩
 | _ :: _,_ :: _,_,_,h,h1,h2=>⟨h.1,wi_snoc h.2 h1 h2⟩
 | [],_ :: _,_,_,h,_,_=>h.elim
 | _ :: _,[],_,_,h,_,_=>h.elim
noncomputable def cels(sd cl lo hi:List Int):List Int:=(btw lo hi).map (cel sd cl)
noncomputable def lineC(sd cl:List Int)(a b:Int)(p:List Int):List Int:=(rng2 a b).map λx=>cel sd cl (p++[x])
theorem slice_eq{cl:List Int}{st n:Nat}(h:st+n<=cl.length):(cl.take (st+n)).drop st=(V1 n).map λj=>cl.getD (st+j) 0:=by
 refine List.ext_getElem (by simp;omega) λj h1 h2=>?_
 simp at h1 h2
 rw[m7,o7,List.getElem_map,List.getElem_range,G1,L0 (by omega)]
 rfl
theorem line_eq{ss cl p:List Int}{a b s:Int}(hcl:(cl.length:Int)=prodI (ss++[s]))(hp:Wi p ss)(h0:0<=a)(h1:a<=b)(h2:b < s) :
  0<=idx (ss++[s]) (p++[a])/\0<=idx (ss++[s]) (p++[a])+(b - a+1)/\((cl.map j0).take (idx (ss++[s]) (p++[a])+(b - a+1)).toNat).drop (idx (ss++[s]) (p++[a])).toNat=(lineC (ss++[s]) cl a b p).map j0:=by
 have hl:=wi_len hp
 have g1:=idx_nn (wi_snoc hp h0 (by omega:a < s))
 have g2:=idx_nn (wi_snoc hp (by omega:0<=b) h2)
 have e2:idx (ss++[s]) (p++[b])=idx (ss++[s]) (p++[a])+(b - a):=by rw[idx_snoc s b hl,idx_snoc s a hl];omega
 have ex:∀x,idx (ss++[s]) (p++[x])=idx (ss++[s]) (p++[a])+(x - a):=λx=>by rw[idx_snoc s x hl,idx_snoc s a hl];omega
 unfold lineC cel
 generalize idx (ss++[s]) (p++[a])=st at *
 refine ⟨g1.1,by omega,?_⟩
 obtain⟨k,rfl⟩:=A4 g1.1
 obtain⟨n,hn⟩:=A4 (show 0<=b - a+1 by omega)
 rw[hn,show ((k:Int)+(n:Int)).toNat=k+n by omega,Q4,<- List.map_take,<- List.map_drop,slice_eq (by omega)]
 congr 1
 unfold rng2
 rw[show b+1 - a=(n:Int) by omega,Q4,P0]
 refine S2 λj _=>?_
 show _=cl.getD (idx (ss++[s]) (p++[a+(j:Int)])).toNat 0
 rw[ex]
 congr 1
 omega
theorem cels_snoc{ss cl ls hs:List Int}{a b s:Int}(h:ls.length=hs.length):cels (ss++[s]) cl (ls++[a]) (hs++[b])=(btw ls hs).flatMap (lineC (ss++[s]) cl a b):=by
 unfold cels lineC
 rw[btw_snoc a b h,List.map_flatMap]
 congr 1
 funext p
 rw[P0]
 rfl
theorem take_init(ss:List Int)(z:Int):(((ss++[z]).map j0).take (if (-1:Int) < 0 then ((-1:Int)+(((ss++[z]).map j0).length:Nat)).toNat else (-1:Int).toNat))=ss.map j0:=by
 rw[if_pos (by decide),n0,R0,U1,show ((-1:Int)+((ss.length+1:Nat):Int)).toNat=ss.length by omega,B3,List.take_append_of_le_length (by rw[n0];exact A0 _),W3 (by rw[n0];exact A0 _)]
theorem one_le_init(ss:List Int)(z:Int):if (-1:Int) < 0 then 1<=((ss++[z]).map j0).length else (-1:Int) < (((ss++[z]).map j0).length:Nat):=by
 rw[if_pos (by decide),n0,R0,U1];omega
theorem at_last(ss:List Int)(z:Int):atI ((ss++[z]).map j0) (-1)=some (.int z):=by
 unfold atI ixN
 rw[if_neg (by decide),n0,R0,U1,if_pos (by omega)]
 show ((ss++[z]).map j0)[((-1:Int)+((ss.length+1:Nat):Int)).toNat]?=_
 rw[show ((-1:Int)+((ss.length+1:Nat):Int)).toNat=ss.length by omega]
 simp
theorem flat_le{α β:Type}{f:α->List β}{c:Nat}:∀{l:List α},(∀p∈l,(f p).length<=c)->(l.flatMap f).length<=l.length * c
 | [],_=>by simp
 | p :: l,h=>by
  have h1:=h p K0
  have h2:=flat_le (l:=l) λq hq=>h q (u0 _ hq)
  rw[M3,R0,E3,x8]
  omega
section
variable {P:Program}{w:World}{K:i0}{mg:Str->Option Value}{base:Heap}
structure CalsAk(P:Program)(w:World)(K:i0)(mg:Str->Option Value)(base:Heap):Prop where
 is_box:Cal P w K mg base 4 "is_box" ["sides","thing"] (conSp K cIsBox)
noncomputable def cAsk:Con:=λargs Q=>∃(sd:List Int) (d:PyData),args=[.fz (tupD sd),.fz d]/\okD d=true/\sd.length<=1000/\isBx sd d=true/\∀o,Q (.fz .none) o
theorem scAsk:FnScope ["sides","thing"] ["sides","thing"] (defScope (top 18)):=⟨rfl,rfl,rfl,by decide +kernel,rfl,by decide +kernel,by decide +kernel⟩
theorem ok_ask{f:Addr}{fd:FuncData}(F:Fun K "ask_for_box" "ask_for_box" (top 18) f fd)(C:CalsAk P w K mg base):FnOk P w K mg base CX0 5 f fd ["sides","thing"] (conSp K cAsk):=by
 have S:=scAsk
 refine wfn F S (λcdv A outer s H E hr=>(s_one (s_if (t_not (t_val (w_fn C.is_box (hr.mono (by first|decide|omega)) (wa_cons (wn 0) (wa_cons (wn 1) wa_nil))))) (s_one s_never) s_nil))) ?_ ?_
 ·rintro args Qd ⟨sd,d,rfl,_⟩;rfl
 ·rintro args Qd ⟨sd,d,rfl,hd,hn,hb,q⟩
  refine ⟨noOw_of rfl,?_⟩
  refine ⟨sd,d,rfl,hd,hn,λo=>?_⟩
  rw[hb]
  exact q _
noncomputable def cAskX:(Str->Option Value)->ConX:=λmg args C=>∃(sd:List Int) (d:PyData),args=[.fz (tupD sd),.fz d]/\okD d=true/\sd.length<=1000/\isBx sd d=false/\C=cA mg "NoBox"
structure CalsCi(P:Program)(w:World)(K:i0)(mg:Str->Option Value)(base:Heap):Prop where
 ask_for_box:Cal P w K mg base 5 "ask_for_box" ["sides","thing"] (conSp K cAsk)
 places_between:Cal P w K mg base 2 "places_between" ["low","high"] (conSp K cBtw)
 index_of:Cal P w K mg base 1 "index_of" ["sides","place"] (conSp K cIndex)
noncomputable def cCells:Con:=λargs Q=>∃(sd cl lo hi:List Int),args=[.fz (fldD sd cl),.fz (bxD lo hi)]/\Sd sd/\cl.length=(plc sd).length/\Bx lo hi sd/\∀o,Q (.ow (.list ((cels sd cl lo hi).map j0))) o
theorem scCells:FnScope ["field","box","sides","low","high","length","found","line","start"] ["field","box"] (defScope (top 21)):=⟨rfl,rfl,rfl,by decide +kernel,rfl,by decide +kernel,by decide +kernel⟩
theorem ok_cells{f:Addr}{fd:FuncData}(F:Fun K "cells_in" "cells_in" (top 21) f fd)(T:Txt mg)(C:CalsCi P w K mg base):FnOk P w K mg base CX0 6 f fd ["field","box"] (conSp K cCells):=by
 have S:=scCells
 refine wfn F S (λcdv A outer s H E hr=>(s_cons (s_set (i:=2) S.nd rfl (Or.inl rfl) (w_ix rfl (wn 0) (wx w_int)))
     (s_cons (s_expr (w_fn C.ask_for_box (hr.mono (by first|decide|omega)) (wa_cons (wn 2) (wa_cons (wn 1) wa_nil))))
     (s_cons (s_set (i:=3) S.nd rfl (Or.inl rfl) (w_ix rfl (wn 1) (wx w_int)))
     (s_cons (s_set (i:=4) S.nd rfl (Or.inl rfl) (w_ix rfl (wn 1) (wx w_int)))
     (s_cons (s_set (i:=5) S.nd rfl (Or.inl rfl) (w_bin ok_add op_addD (wx (w_bin ok_sub op_sub (wx (w_ix rfl (wn 4) (wx (w_neg (wx w_int))))) (wx (w_ix rfl (wn 3) (wx (w_neg (wx w_int))))))) (wx w_int)))
     (s_cons (s_set (i:=6) S.nd rfl (Or.inl rfl) (w_lst wa_nil))
     (s_cons (s_for [7,8] PassesOwn.never rfl (i_seq rfl (w_fn C.places_between (hr.mono (by first|decide|omega)) (wa_cons (wx (w_slHi rfl (wn 3) (wx (w_neg (wx w_int))))) (wa_cons (wx (w_slHi rfl (wn 4) (wx (w_neg (wx w_int))))) wa_nil)))) (g_name (i:=7) S.nd rfl (Or.inl rfl)) (s_cons (s_set (i:=8) S.nd rfl (Or.inl rfl) (w_fn C.index_of (hr.mono (by first|decide|omega)) (wa_cons (wn 2) (wa_cons (wx (w_bin ok_add op_addD (wn 7) (wx (w_tup (wa_cons (wx (w_ix rfl (wn 3) (wx (w_neg (wx w_int))))) wa_nil))))) wa_nil))))
     (s_one (s_expr (w_m ok_extendT rfl PySem.F.slot_list_extend PySem.F.type_list_extend mt_extendT (wn 6) (wa_cons (wx (w_sl3T rfl (wx (w_ix rfl (wn 0) (wx w_int))) (wn 8) (wx (w_bin ok_add op_addD (wn 8) (wn 5))))) wa_nil))))))
     (s_one (s_retV (wn 6))))))))))) ?_ ?_
 ·rintro args Qd ⟨sd,cl,lo,hi,rfl,_⟩;rfl
 ·rintro args Qd ⟨sd,cl,lo,hi,rfl,hsd,hcl,hb,q⟩
  have h3:=hsd.l3
  have hm:=hsd.m
  have hpl:=plc_len hsd.p
  refine ⟨noOw_of rfl,?_⟩
  refine ⟨_,rfl,?_⟩
  refine ⟨sd,_,rfl,okD_bx lo hi,by omega,bx_isBx hb,λ_=>?_⟩
  refine ⟨_,rfl,_,rfl,?_⟩
  obtain⟨ls,hs,ss,a,b,s,rfl,rfl,rfl,hb',h0,h1,h2⟩:=bx_last hb hsd.l1
  obtain⟨bl1,bl2⟩:=bx_len hb'
  have hss:ss.length<=2:=by simp at h3;omega
  have hlp:=bx_lenP hb'
  have hps:prodI ss<=120:=by
   have:prodI (ss++[s])=prodI ss * (s * 1):=prodI_append ss [s]
   rw[h7]at this
   have:=N3 (show (1:Int)<=s by omega) (show 0<=prodI ss by omega)
   omega
  have hs2:s<=120:=by have:=le_prodI hsd.p s (by simp);omega
  refine ⟨_,at_last hs b,_,at_last ls a,?_⟩
  refine ⟨one_le_init ls a,one_le_init hs b,ls,hs,by rw[take_init,take_init];rfl,by omega,by omega,λp hp=>?_,by omega,λ_=>?_⟩
  ·obtain⟨g1,g2,t,ht,g3⟩:=bx_pair hb' p hp
   have:=le_prodI hsd.p t (by simp[ht])
   omega
  have hcl2:(cl.length:Int)=prodI (ss++[s]):=by omega
  have hnb:(btw ls hs).length<=120:=by
   unfold btw
   rw[eachA_len]
   have:=hlp.1
   simp
   omega
  refine loopC (λrest ρ=>∃(dn rs:List (List Int)),btw ls hs=dn++rs/\rest=rs.map tupD/\ρ=[some (.fz (fldD (ss++[s]) cl)),some (.fz (bxD (ls++[a]) (hs++[b]))),some (.fz (tupD (ss++[s]))),some (.fz (tupD (ls++[a]))),some (.fz (tupD (hs++[b]))),some (.fz (.int (b - a+1))),some (.ow (.list ((dn.flatMap (lineC (ss++[s]) cl a b)).map j0))),none,none]) ?_ ?_ ⟨[],btw ls hs,rfl,rfl,rfl⟩
  ·rintro d ds ρ ⟨dn,rs,e1,e2,rfl⟩ N hN
   cases rs with
   | nil=>cases e2
   | cons p rs =>
    cases e2
    have hp:Wi p ss:=btw_wi hb' (by rw[e1];simp)
    have hpl2:=wi_len hp
    obtain⟨z1,z2,z3⟩:=line_eq hcl2 hp h0 h1 h2
    have hll:∀p:List Int,(lineC (ss++[s]) cl a b p).length<=120:=λp=>by unfold lineC;rw[n0,rng2_len];omega
    have hdn:dn.length<=120:=by have:=congrArg Q3 e1;simp at this;omega
    refine ⟨_,at_last ls a,by rw[n0];simp;exact le_size (by omega),ss++[s],p++[a],by rw[show tupD (p++[a])=.tuple (p.map j0++[.int a]) by show N1 _=_;rw[B3];rfl];rfl,by simp;omega,λc hc=>?_,λ_=>?_⟩
    ·have g1:=hsd.p c hc
     have g2:=le_prodI hsd.p c hc
     exact ⟨by omega,Int.lt_of_le_of_lt (show c<=120 by omega) (by decide)⟩
    refine ⟨_,rfl,z1,z2,?_⟩
    rw[z3]
    refine ⟨?_,?_⟩
    ·rw[n0,n0]
     have g1:=flat_le (l:=dn) (f:=lineC (ss++[s]) cl a b) (c:=120) λp _=>hll p
     have g2:=hll p
     have:dn.length * 120<=120 * 120:=Nat.mul_le_mul_right _ hdn
     exact Q1 (show _<=20000 by omega) (by decide)
    ·refine hN _ ⟨dn++[p],rs,by rw[e1];simp,rfl,?_⟩
     rw[List.flatMap_append,B3,List.flatMap_singleton]
     rfl
  ·rintro ρ ⟨dn,rs,e1,e2,rfl⟩
   cases rs with
   | cons _ _=>cases e2
   | nil =>
    rw[T2]at e1
    have:=q
    rw[cels_snoc (by omega),e1]at this
    exact this _
structure CalsCx(P:Program)(w:World)(K:i0)(mg:Str->Option Value)(base:Heap):Prop where
 ask_for_boxX:CalX P w K mg base 5 "ask_for_box" ["sides","thing"] (conSpX K (cAskX mg))
noncomputable def cWord:(Str->Option Value)->Con:=λmg args Q=>args=[.fz (excD (cA mg "NoBox"))]/\∀o,Q (.fz (.str "box")) o
theorem scWord:FnScope ["_law_caught","_law_found"] ["_law_caught"] (defScope (top 36)):=⟨rfl,rfl,rfl,by decide +kernel,rfl,by decide +kernel,by decide +kernel⟩
theorem ok_word{f:Addr}{fd:FuncData}(F:Fun K "_law_word" "_law_word" (top 36) f fd)(T:Txt mg)(L:Cls K mg):FnOk P w K mg base CX0 1 f fd ["_law_caught"] (conSp K (cWord mg)):=by
 have S:=scWord
 refine wfn F S (λcdv A outer s H E hr=>(s_cons (s_set (i:=1) S.nd rfl (Or.inl rfl) (w_lst wa_nil))
     (s_cons (s_if (t_val (w_isX rfl T.isinstance_ T.NoField_ (wn 0))) (s_one (s_expr (w_m ok_append rfl PySem.F.slot_list_append PySem.F.type_list_append mt_append (wn 1) (wa_cons (wx w_str) wa_nil)))) s_nil)
     (s_cons (s_if (t_val (w_isX rfl T.isinstance_ T.NoBox_ (wn 0))) (s_one (s_expr (w_m ok_append rfl PySem.F.slot_list_append PySem.F.type_list_append mt_append (wn 1) (wa_cons (wx w_str) wa_nil)))) s_nil)
     (s_cons (s_if (t_val (w_isX rfl T.isinstance_ T.NoTurn_ (wn 0))) (s_one (s_expr (w_m ok_append rfl PySem.F.slot_list_append PySem.F.type_list_append mt_append (wn 1) (wa_cons (wx w_str) wa_nil)))) s_nil)
     (s_cons (s_if (t_val (w_isXT rfl T.isinstance_ (wc_cons T.NoNumber_ (wc_cons T.NoText_ (wc_cons T.NoRow_ (wc_cons T.NoBack_ wc_nil)))) (wn 0))) (s_one (s_expr (w_m ok_append rfl PySem.F.slot_list_append PySem.F.type_list_append mt_append (wn 1) (wa_cons (wx w_str) wa_nil)))) s_nil)
     (s_cons (s_if (t_w (t_or (t_cmp ok_ne (op_neE (K:=K) rfl hr.units) (wx (w_callB ok_len (call_lenK (K:=K) rfl) T.len_ PySem.boot_len (wa_cons (wn 1) wa_nil))) (wx w_int)) (t_or1 (t_not (t_val (w_isXV rfl T.isinstance_ T.ValueError_ (wn 0))))))) (s_one (s_ret w_str)) s_nil)
     (s_one (s_ret (w_ix rfl (wn 1) (wx w_int))))))))))) ?_ ?_
 ·rintro args Qd ⟨rfl,_⟩;rfl
 ·rintro args Qd ⟨rfl,q⟩
  refine ⟨noOw_of rfl,?_⟩
  refine ⟨_,rfl,L.NoBox_q,L.NoField_c,?_⟩
  rw[L.NoBox_NoField]
  refine ⟨_,rfl,L.NoBox_q,L.NoBox_c,?_⟩
  rw[L.NoBox_NoBox]
  refine ⟨by decide,?_⟩
  refine ⟨_,rfl,L.NoBox_q,L.NoTurn_c,?_⟩
  rw[L.NoBox_NoTurn]
  refine ⟨by show 4<=1000;decide,_,rfl,L.NoBox_q,λB hB=>?_,?_⟩
  ·simp only[Y0,u6,or_false]at hB
   rcases hB with rfl|rfl|rfl|rfl
   ·exact L.NoNumber_c
   ·exact L.NoText_c
   ·exact L.NoRow_c
   ·exact L.NoBack_c
  have e:[cA mg "NoNumber",cA mg "NoText",cA mg "NoRow",cA mg "NoBack"].any (subIn K (cA mg "NoBox"))=false:=by simp only[w6,List.any_nil,L.NoBox_NoNumber,L.NoBox_NoText,L.NoBox_NoRow,L.NoBox_NoBack,Bool.or_false]
  rw[e]
  refine ⟨_,rfl,L.NoBox_q,?_⟩
  exact ⟨_,rfl,q _⟩
end
noncomputable def Wz:List Int->List Int->Prop
 | [],[]=>True
 | z :: sz,s :: sd=>(1<=z/\z<=s)/\Wz sz sd
 | _,_=>False
theorem wz_len:∀{sz sd:List Int},Wz sz sd->sz.length=sd.length
 | [],[],_=>rfl
 | [],_ :: _,h=>h.elim
 | _ :: _,[],h=>h.elim
 | _ :: _,_ :: _,h=>by simp[wz_len h.2]
noncomputable def Fst(f:List Int->Int)(ps:List (List Int))(v:Int)(w:List Int):Prop:=∃i:Nat,ps[i]?=some w/\f w=v/\∀(j:Nat) y,j < i->ps[j]?=some y->f y≠v
theorem fst_uniq{f:List Int->Int}{ps:List (List Int)}{v:Int}{w u:List Int}(h1:Fst f ps v w)(h2:Fst f ps v u):w=u:=by
 obtain⟨i,a1,a2,a3⟩:=h1
 obtain⟨j,b1,b2,b3⟩:=h2
 rcases Nat.lt_trichotomy i j with h|h|h
 ·exact absurd a2 (b3 i w h a1)
 ·subst h;rw[a1]at b1;exact S1 b1
 ·exact absurd b2 (a3 j u h b1)
theorem fst_mem{f:List Int->Int}{ps:List (List Int)}{v:Int}{w:List Int}(h:Fst f ps v w):w∈ps/\f w=v:=by
 obtain⟨i,a1,a2,_⟩:=h
 exact ⟨E2 a1,a2⟩
theorem fst_ex{f:List Int->Int}:∀{ps:List (List Int)}{v:Int},(∃q∈ps,f q=v)->∃w,Fst f ps v w
 | [],_,⟨q,h,_⟩=>by cases h
 | p :: ps,v,⟨q,h,e⟩=>by
  by_cases z:f p=v
  ·exact ⟨p,0,rfl,z,λj y hj=>by omega⟩
  ·have:∃q∈ps,f q=v:=by
    rcases Y0.mp h with rfl|h
    ·exact absurd e z
    ·exact ⟨q,h,e⟩
   obtain⟨w,i,a1,a2,a3⟩:=fst_ex this
   refine ⟨w,i+1,a1,a2,λj y hj hy=>?_⟩
   cases j with
   | zero=>cases hy;exact z
   | succ j=>exact a3 j y (by omega) hy
theorem min_ex{f:List Int->Int}:∀{ps:List (List Int)},ps≠[]->∃q∈ps,∀y∈ps,f q<=f y
 | [],h=>absurd rfl h
 | [p],_=>⟨p,K0,λy hy=>by rw[W1.mp hy];exact B6 _⟩
 | p :: r :: ps,_=>by
  obtain⟨q,hq,hm⟩:=min_ex (f:=f) (ps:=r :: ps) (by simp)
  by_cases z:f p<=f q
  ·refine ⟨p,K0,λy hy=>?_⟩
   rcases Y0.mp hy with rfl|hy
   ·exact B6 _
   ·exact B8 z (hm y hy)
  ·refine ⟨q,u0 _ hq,λy hy=>?_⟩
   rcases Y0.mp hy with rfl|hy
   ·omega
   ·exact hm y hy
noncomputable abbrev wnD(p:List Int)(m:Int)(w:List Int)(M:Int)(u:List Int):PyData:=.tuple [tupD p,.int m,tupD w,.int M,tupD u]
noncomputable def IsWin(f:List Int->Int)(ps:List (List Int))(p:List Int)(d:PyData):Prop:=∃m w M u,d=wnD p m w M u/\(∀y∈ps,m<=f y)/\Fst f ps m w/\(∀y∈ps,f y<=M)/\Fst f ps M u
theorem win_uniq{f:List Int->Int}{ps:List (List Int)}{p:List Int}{d e:PyData}(h1:IsWin f ps p d)(h2:IsWin f ps p e):d=e:=by
 obtain⟨m,w,M,u,rfl,a1,a2,a3,a4⟩:=h1
 obtain⟨m',w',M',u',rfl,b1,b2,b3,b4⟩:=h2
 obtain⟨c1,c2⟩:=fst_mem a2
 obtain⟨c3,c4⟩:=fst_mem a4
 obtain⟨d1,d2⟩:=fst_mem b2
 obtain⟨d3,d4⟩:=fst_mem b4
 have e1:m=m':=by have:=a1 w' d1;have:=b1 w c1;omega
 have e2:M=M':=by have:=a3 u' d3;have:=b3 u c3;omega
 subst e1 e2
 rw[fst_uniq a2 b2,fst_uniq a4 b4]
open Classical in
noncomputable def win(f:List Int->Int)(ps:List (List Int))(p:List Int):PyData:=if h:∃d,IsWin f ps p d then Classical.choose h else .none
theorem win_is{f:List Int->Int}{ps:List (List Int)}{p:List Int}{d:PyData}(h:IsWin f ps p d):win f ps p=d:=by
 have hx:∃d,IsWin f ps p d:=⟨d,h⟩
 unfold win
 rw[dif_pos hx]
 exact win_uniq (Classical.choose_spec hx) h
theorem win_ex{f:List Int->Int}{ps:List (List Int)}(p:List Int)(h:ps≠[]):∃m w M u,win f ps p=wnD p m w M u/\w∈ps/\u∈ps:=by
 obtain⟨q,hq,hm⟩:=min_ex (f:=f) h
 obtain⟨r,hr,hM⟩:=min_ex (f:=λp=>- f p) h
 obtain⟨w,hw⟩:=fst_ex (f:=f) (ps:=ps) (v:=f q) ⟨q,hq,rfl⟩
 obtain⟨u,hu⟩:=fst_ex (f:=f) (ps:=ps) (v:=f r) ⟨r,hr,rfl⟩
 exact ⟨f q,w,f r,u,win_is ⟨f q,w,f r,u,rfl,hm,hw,λy hy=>by have:=hM y hy;omega,hu⟩,(fst_mem hw).1,(fst_mem hu).1⟩
noncomputable def hiP:List Int->List Int->List Int
 | x :: p,z :: sz=>(x+z - 1) :: hiP p sz
 | _,_=>[]
theorem hiP_zip:∀p sz:List Int,hiP p sz=(p.zip sz).map λq=>q.1+q.2 - 1
 | [],_=>rfl
 | _ :: _,[]=>rfl
 | x :: p,z :: sz=>by rw[hiP,hiP_zip p sz];rfl
noncomputable def lastP:List Int->List Int->List Int
 | s :: sd,z :: sz=>(s - z) :: lastP sd sz
 | _,_=>[]
theorem lastP_zip:∀sd sz:List Int,lastP sd sz=(sd.zip sz).map λq=>q.1 - q.2
 | [],_=>rfl
 | _ :: _,[]=>rfl
 | s :: sd,z :: sz=>by rw[lastP,lastP_zip sd sz];rfl
theorem last_bx:∀{sz sd:List Int},Wz sz sd->Bx (sd.map λ_=>0) (lastP sd sz) sd
 | [],[],_=>trivial
 | [],_ :: _,h=>h.elim
 | _ :: _,[],h=>h.elim
 | z :: sz,s :: sd,h=>⟨by have:=h.1;show (0:Int)<=0/\(0:Int)<=s - z/\s - z < s;omega,last_bx h.2⟩
theorem win_bx:∀{sz sd p:List Int},Wz sz sd->InW p (((sd.map λ_=>(0:Int)).zip (lastP sd sz)).map λq=>rng2 q.1 q.2)->Bx p (hiP p sz) sd
 | [],[],[],_,_=>trivial
 | [],[],_ :: _,_,h=>h.elim
 | [],_ :: _,_,h,_=>h.elim
 | _ :: _,[],_,h,_=>h.elim
 | z :: sz,s :: sd,[],_,h=>h.elim
 | z :: sz,s :: sd,x :: p,h,k=>by
  have h1:=mem_rng2 k.1
  simp only at h1
  exact ⟨by have:=h.1;omega,win_bx h.2 k.2⟩
noncomputable abbrev plW(sd sz:List Int):List (List Int):=btw (sd.map λ_=>0) (lastP sd sz)
theorem plW_bx{sz sd p:List Int}(h:Wz sz sd)(hp:p∈plW sd sz):Bx p (hiP p sz) sd:=win_bx h (each_mem0 hp)
noncomputable abbrev winP(sd cl sz p:List Int):PyData:=win (cel sd cl) (btw p (hiP p sz)) p
theorem btw_ne{lo hi sd:List Int}(h:Bx lo hi sd):btw lo hi≠[]:=by
 unfold btw
 intro z
 have:=congrArg Q3 z
 rw[eachA_len,U1,U7]at this
 have hp:=lenP_pos (cs:=(lo.zip hi).map λp=>rng2 p.1 p.2) λc hc=>by
  obtain⟨p,hp,rfl⟩:=T0.mp hc
  obtain⟨g1,g2,_⟩:=bx_pair h p hp
  intro z
  have:=congrArg Q3 z
  rw[rng2_len]at this
  simp at this
  omega
 simp at this
 omega
theorem btw_len{lo hi sd:List Int}(h:Bx lo hi sd):((btw lo hi).length:Int)<=prodI sd:=by
 unfold btw
 rw[eachA_len,U1,U7]
 exact (bx_lenP h).1
noncomputable def fZ(g:Int->Int->Int):PyData->PyData
 | .tuple [.int a,.int b]=>.int (g a b)
 | _=>.none
theorem fZ_map(g:Int->Int->Int)(xs ys:List Int):(zipD (xs.map j0) (ys.map j0)).map (fZ g)=((xs.zip ys).map λq=>g q.1 q.2).map j0:=by
 rw[zipD_ints,P0,P0]
 rfl
theorem first_at{ns:List Int}{n:Int}:n∈ns->∃j:Nat,ns[j]?=some n/\∀i,i < j->ns[i]?≠some n:=by
 induction ns with
 | nil=>intro h;cases h
 | cons a ns ih =>
  intro h
  by_cases z:a=n
  ·exact ⟨0,by simp[z],λi hi=>by omega⟩
  ·rcases Y0.mp h with h|h
   ·exact absurd h.symm z
   ·obtain⟨j,h1,h2⟩:=ih h
    refine ⟨j+1,h1,λi hi=>?_⟩
    cases i with
    | zero=>simpa using z
    | succ i=>exact h2 i (by omega)
noncomputable def sz1(s:Int):PyData->Bool
 | .int i=>decide (1<=i)&&decide (i<=s)
 | _=>false
noncomputable def okS:List PyData->List Int->Bool
 | d :: ds,s :: sd=>sz1 s d&&okS ds sd
 | _,_=>true
noncomputable def isSz(sd:List Int):PyData->Bool
 | .tuple ds=>decide (ds.length=sd.length)&&okS ds sd
 | _=>false
theorem okS_ints:∀{ds:List PyData}{sd:List Int},ds.length=sd.length->okS ds sd=true->ds.all isI=true
 | [],_,_,_=>rfl
 | d :: ds,[],h,_=>by simp at h
 | d :: ds,s :: sd,h,k=>by
  simp[okS]at k
  have:=okS_ints (ds:=ds) (sd:=sd) (by simpa using h) k.2
  cases d<;>simp[sz1]at k
  rename_i i
  show (isI (.int i)&&ds.all isI)=true
  rw[this];rfl
noncomputable def szZ(p:Int×Int):Bool:=decide (1<=p.1)&&decide (p.1<=p.2)
theorem okS_zip:∀(ns sd:List Int),okS (ns.map j0) sd=((ns.zip sd).map szZ).all id
 | [],_=>by simp[okS]
 | n :: ns,[]=>by simp[okS]
 | n :: ns,s :: sd=>by simp[okS,sz1,szZ,okS_zip ns sd]
theorem wz_is:∀{sz sd:List Int},Wz sz sd->okS (sz.map j0) sd=true
 | [],[],_=>rfl
 | [],_ :: _,h=>h.elim
 | _ :: _,[],h=>h.elim
 | z :: sz,s :: sd,h=>by
  have hx:=h.1
  simp only[X1,okS,sz1,wz_is h.2,W4,O2,decide_eq_true_eq]
  omega
theorem wz_isSz{sz sd:List Int}(h:Wz sz sd):isSz sd (tupD sz)=true:=by
 show (decide ((sz.map j0).length=sd.length)&&okS (sz.map j0) sd)=true
 rw[n0,wz_is h,W4];exact decide_eq_true (wz_len h)
noncomputable def fSz:PyData->PyData
 | .tuple [.int a,.int b]=>.bool (szZ (a,b))
 | _=>.none
noncomputable def fWin(sd cl sz:List Int):PyData->PyData
 | .tuple xs=>winP sd cl sz (xs.map unI)
 | _=>.none
theorem fWin_map(sd cl sz:List Int)(l:List (List Int)):(l.map tupD).map (fWin sd cl sz)=l.map (winP sd cl sz):=by
 rw[P0]
 refine S2 λp _=>?_
 show winP sd cl sz ((p.map j0).map unI)=_
 rw[unI_int]
section
variable {P:Program}{w:World}{K:i0}{mg:Str->Option Value}{base:Heap}
noncomputable def cFirst:Con:=λargs Q=>∃sd:List Int,args=[.fz (tupD sd)]/\sd.length<=1000/\∀o,Q (.fz (tupD (sd.map λ_=>0))) o
theorem scFirst:FnScope ["sides"] ["sides"] (defScope (top 19)):=⟨rfl,rfl,rfl,by decide +kernel,rfl,by decide +kernel,by decide +kernel⟩
theorem ok_first{f:Addr}{fd:FuncData}(F:Fun K "first_place" "first_place" (top 19) f fd)(T:Txt mg):FnOk P w K mg base CX0 1 f fd ["sides"] (conSp K cFirst):=by
 have S:=scFirst
 refine wfn F S (λcdv A outer s H E hr=>(s_one (s_ret (w_callT ok_tuple (call_tupleK (K:=K) rfl) T.tuple_ boot_tuple (wa_cons (wx (w_comp rfl (own:=["side"]) (fr:=[]) (by kernel_rfl) (i_seq rfl (wv 0)) (λ_ _ _ _=>(g_name (i:=0) (by decide +kernel:O1 (["side"]:List Str)) rfl (Or.inl rfl))) (λ_ _ _ _=>if0) (λ_ _ _ _=>w_int))) wa_nil))))) ?_ ?_
 ·rintro args Qd ⟨sd,rfl,_⟩;rfl
 ·rintro args Qd ⟨sd,rfl,hl,q⟩
  refine ⟨noOw_of rfl,?_⟩
  refine ⟨by rw[n0];exact le_size hl,mapC (λ_=>.int 0) (λd hd N hN=>hN) ?_⟩
  have e:(sd.map j0).map (λ_=>j0 0)=(sd.map λ_=>0).map j0:=by simp[P0,Function.comp_def]
  rw[e]
  exact q _
structure CalsZs(P:Program)(w:World)(K:i0)(mg:Str->Option Value)(base:Heap):Prop where
 are_wholes:Cal P w K mg base 2 "are_wholes" ["thing","many"] (conSp K cAreW)
noncomputable def cAreSz:Con:=λargs Q=>∃(sd:List Int) (d:PyData),args=[.fz (tupD sd),.fz d]/\okD d=true/\sd.length<=1000/\∀o,Q (.fz (.bool (isSz sd d))) o
theorem scAreSz:FnScope ["sides","thing"] ["sides","thing"] (defScope (top 23)):=⟨rfl,rfl,rfl,by decide +kernel,rfl,by decide +kernel,by decide +kernel⟩
theorem ok_areSz{f:Addr}{fd:FuncData}(F:Fun K "are_sizes" "are_sizes" (top 23) f fd)(T:Txt mg)(C:CalsZs P w K mg base):FnOk P w K mg base CX0 3 f fd ["sides","thing"] (conSp K cAreSz):=by
 have S:=scAreSz
 refine wfn F S (λcdv A outer s H E hr=>(s_cons (s_if (t_not (t_val (w_fn C.are_wholes (hr.mono (by first|decide|omega)) (wa_cons (wn 1) (wa_cons (wx (w_callB ok_len (call_lenK (K:=K) rfl) T.len_ PySem.boot_len (wa_cons (wn 0) wa_nil))) wa_nil))))) (s_one (s_ret w_bl)) s_nil)
     (s_one (s_ret (w_callB ok_all (call_allK (K:=K) rfl rfl) T.all_ boot_all (wa_cons (wx (w_comp rfl (own:=["size","side"]) (fr:=[]) (by kernel_rfl) (i_zip2 rfl T.zip_ (wa_cons (wn 1) (wa_cons (wn 0) wa_nil))) (λ_ _ _ _=>(g_tup rfl rfl (gs_cons (g_name (i:=0) (by decide +kernel:O1 (["size","side"]:List Str)) rfl (Or.inl rfl)) (gs_cons (g_name (i:=1) (by decide +kernel:O1 (["size","side"]:List Str)) rfl (Or.inl rfl)) gs_nil)))) (λ_ _ _ _=>if0) (λ_ _ _ _=>(w_chain op_le op_le (wx w_int) (wn 0) (wn 1))))) wa_nil)))))) ?_ ?_
 ·rintro args Qd ⟨sd,d,rfl,_⟩;rfl
 ·rintro args Qd ⟨sd,d,rfl,hd,hn,q⟩
  refine ⟨noOw_of rfl,?_⟩
  refine ⟨d,sd.length,by rw[n0];rfl,hd,hn,λo=>?_⟩
  cases ha:areW sd.length d with
  | false =>
   have e:isSz sd d=false:=by
    cases d<;>first|rfl|skip
    rename_i ds
    simp[areW]at ha
    by_cases h:ds.length=sd.length
    ·cases hz:okS ds sd with
     | false=>simp[isSz,hz]
     | true =>
      have:=okS_ints h hz
      exact absurd this (by simpa using ha h)
    ·simp[isSz,h]
   rw[e]at q
   exact q _
  | true =>
   cases d<;>simp[areW]at ha
   rename_i ds
   obtain⟨hl,hi⟩:=ha
   obtain⟨ns,rfl⟩:=ints_of (ds:=ds) (by simpa using hi)
   have hz:zipD (ns.map j0) (sd.map j0)=(ns.zip sd).map λp=>N1 [.int p.1,.int p.2]:=zipD_ints ns sd
   have hln:ns.length=sd.length:=by simpa using hl
   refine ⟨by rw[hz,n0,K2];exact le_size (by omega),mapC fSz ?_ ?_⟩
   ·intro d hd2 N hN
    rw[hz]at hd2
    obtain⟨⟨a,b⟩,_,rfl⟩:=T0.mp hd2
    have hN:N (.bool (szZ (a,b))) _:=hN
    refine ⟨rfl,?_⟩
    refine ite2 (λh=>?_) (λh=>?_)
    ·have e:szZ (a,b)=decide (a<=b):=by
      have h:decide (1<=a)=true:=h
      simp[szZ,of_decide_eq_true h]
     rw[e]at hN
     exact hN
    ·have e:szZ (a,b)=false:=by
      have h:¬decide (1<=a)=true:=h
      simp[szZ]
      intro z
      exact absurd (decide_eq_true z) h
     rw[e]at hN
     exact hN
   ·rw[hz,P0]
    refine ⟨(ns.zip sd).map szZ,by rw[P0];rfl,?_⟩
    have e:isSz sd (.tuple (ns.map j0))=((ns.zip sd).map szZ).all id:=by
     rw[<- okS_zip]
     simp[isSz,hln]
    rw[<- e]
    exact q _
structure CalsWa(P:Program)(w:World)(K:i0)(mg:Str->Option Value)(base:Heap):Prop where
 places_between:Cal P w K mg base 2 "places_between" ["low","high"] (conSp K cBtw)
 cells_in:Cal P w K mg base 6 "cells_in" ["field","box"] (conSp K cCells)
noncomputable def cWinAt:Con:=λargs Q=>∃(sd cl p sz:List Int),args=[.fz (fldD sd cl),.fz (tupD p),.fz (tupD sz)]/\Sd sd/\cl.length=(plc sd).length/\sz.length=sd.length/\Bx p (hiP p sz) sd/\∀o,Q (.fz (winP sd cl sz p)) o
theorem scWinAt:FnScope ["field","place","sizes","high","places","cells","least","greatest"] ["field","place","sizes"] (defScope (top 25)):=⟨rfl,rfl,rfl,by decide +kernel,rfl,by decide +kernel,by decide +kernel⟩
theorem ok_winAt{f:Addr}{fd:FuncData}(F:Fun K "window_at" "window_at" (top 25) f fd)(T:Txt mg)(C:CalsWa P w K mg base):FnOk P w K mg base CX0 7 f fd ["field","place","sizes"] (conSp K cWinAt):=by
 have S:=scWinAt
 refine wfn F S (λcdv A outer s H E hr=>(s_cons (s_set (i:=3) S.nd rfl (Or.inl rfl) (w_callT ok_tuple (call_tupleK (K:=K) rfl) T.tuple_ boot_tuple (wa_cons (wx (w_comp rfl (own:=["number","size"]) (fr:=[]) (by kernel_rfl) (i_zip2 rfl T.zip_ (wa_cons (wn 1) (wa_cons (wn 2) wa_nil))) (λ_ _ _ _=>(g_tup rfl rfl (gs_cons (g_name (i:=0) (by decide +kernel:O1 (["number","size"]:List Str)) rfl (Or.inl rfl)) (gs_cons (g_name (i:=1) (by decide +kernel:O1 (["number","size"]:List Str)) rfl (Or.inl rfl)) gs_nil)))) (λ_ _ _ _=>if0) (λ_ _ _ _=>(w_bin ok_sub op_sub (wx (w_bin ok_add op_addD (wn 0) (wn 1))) (wx w_int))))) wa_nil)))
     (s_cons (s_set (i:=4) S.nd rfl (Or.inl rfl) (w_fn C.places_between (hr.mono (by first|decide|omega)) (wa_cons (wn 1) (wa_cons (wn 3) wa_nil))))
     (s_cons (s_set (i:=5) S.nd rfl (Or.inl rfl) (w_fn C.cells_in (hr.mono (by first|decide|omega)) (wa_cons (wn 0) (wa_cons (wx (w_tup (wa_cons (wx (wv 1)) (wa_cons (wx (wv 3)) wa_nil)))) wa_nil))))
     (s_cons (s_set (i:=6) S.nd rfl (Or.inl rfl) (w_callB ok_mnI (call_mnI (K:=K) rfl rfl) T.min_ boot_min (wa_cons (wn 5) wa_nil)))
     (s_cons (s_set (i:=7) S.nd rfl (Or.inl rfl) (w_callB ok_mxI (call_mxI (K:=K) rfl rfl) T.max_ boot_max (wa_cons (wn 5) wa_nil)))
     (s_one (s_ret (w_tup (wa_cons (wx (wv 1)) (wa_cons (wx (wv 6)) (wa_cons (wx (w_ix rfl (wn 4) (wx (w_m ok_indexI rfl PySem.F.slot_list_index PySem.F.type_list_index mt_indexI (wn 5) (wa_cons (wx (wv 6)) wa_nil))))) (wa_cons (wx (wv 7)) (wa_cons (wx (w_ix rfl (wn 4) (wx (w_m ok_indexI rfl PySem.F.slot_list_index PySem.F.type_list_index mt_indexI (wn 5) (wa_cons (wx (wv 7)) wa_nil))))) wa_nil)))))))))))))) ?_ ?_
 ·rintro args Qd ⟨sd,cl,p,sz,rfl,_⟩;rfl
 ·rintro args Qd ⟨sd,cl,p,sz,rfl,hsd,hcl,hsz,hb,q⟩
  have h3:=hsd.l3
  have hm:=hsd.m
  obtain⟨e1,e2⟩:=bx_len hb
  have hbl:=btw_len hb
  refine ⟨noOw_of rfl,?_⟩
  refine ⟨by rw[zipD_ints,n0,K2];exact le_size (by omega),mapC (fZ λa b=>a+b - 1) ?_ ?_⟩
  ·intro d hd N hN
   rw[zipD_ints]at hd
   obtain⟨x,_,rfl⟩:=T0.mp hd
   exact ⟨rfl,hN⟩
  rw[fZ_map,<- hiP_zip]
  refine ⟨p,hiP p sz,rfl,by omega,by omega,λx hx=>?_,by have:=(bx_lenP hb).1;omega,λ_=>?_⟩
  ·obtain⟨g1,g2,t,ht,g3⟩:=bx_pair hb x hx
   have:=le_prodI hsd.p t ht
   omega
  refine ⟨sd,cl,p,hiP p sz,rfl,hsd,hcl,hb,λ_=>?_⟩
  have hcp:0 < (cels sd cl p (hiP p sz)).length:=by
   unfold cels
   rw[n0]
   exact D5.mpr (btw_ne hb)
  refine ⟨_,rfl,hcp,λm m1 m2=>?_⟩
  refine ⟨_,rfl,hcp,λM M1 M2=>?_⟩
  obtain⟨i,i1,i2⟩:=first_at m1
  obtain⟨j,j1,j2⟩:=first_at M1
  have get:∀{i:Nat}{v:Int},(cels sd cl p (hiP p sz))[i]?=some v->(∀k,k < i->(cels sd cl p (hiP p sz))[k]?≠some v)->∃w,(btw p (hiP p sz))[i]?=some w/\Fst (cel sd cl) (btw p (hiP p sz)) v w:=λ{i v} h1 h2=>by
   unfold cels at h1 h2
   rw[E1,B4]at h1
   obtain⟨w,w1,w2⟩:=h1
   refine ⟨w,w1,i,w1,w2,λk y hk hy z=>h2 k hk ?_⟩
   rw[E1,hy]
   exact congrArg some z
  obtain⟨w,w1,w2⟩:=get i1 i2
  obtain⟨u,u1,u2⟩:=get j1 j2
  have at1:∀{i:Nat}{w:List Int},(btw p (hiP p sz))[i]?=some w->atI ((btw p (hiP p sz)).map tupD) (i:Int)=some (tupD w):=λ{i w} h=>atI_nat (by rw[E1,h];rfl)
  have hw:IsWin (cel sd cl) (btw p (hiP p sz)) p (wnD p m w M u):=⟨m,w,M,u,rfl,λy hy=>m2 _ (Y3 hy),w2,λy hy=>M2 _ (Y3 hy),u2⟩
  refine ⟨_,i,rfl,i1,i2,_,at1 w1,_,j,rfl,j1,j2,_,at1 u1,?_⟩
  have:=q
  rw[show winP sd cl sz p=wnD p m w M u from win_is hw]at this
  exact this _
structure CalsWs(P:Program)(w:World)(K:i0)(mg:Str->Option Value)(base:Heap):Prop where
 are_sizes:Cal P w K mg base 3 "are_sizes" ["sides","thing"] (conSp K cAreSz)
 first_place:Cal P w K mg base 1 "first_place" ["sides"] (conSp K cFirst)
 places_between:Cal P w K mg base 2 "places_between" ["low","high"] (conSp K cBtw)
 window_at:Cal P w K mg base 7 "window_at" ["field","place","sizes"] (conSp K cWinAt)
noncomputable def cWins:Con:=λargs Q=>∃(sd cl sz:List Int),args=[.fz (fldD sd cl),.fz (tupD sz)]/\Sd sd/\cl.length=(plc sd).length/\Wz sz sd/\∀o,Q (.ow (.list ((plW sd sz).map (winP sd cl sz)))) o
theorem scWins:FnScope ["field","sizes","sides","last"] ["field","sizes"] (defScope (top 24)):=⟨rfl,rfl,rfl,by decide +kernel,rfl,by decide +kernel,by decide +kernel⟩
theorem ok_wins{f:Addr}{fd:FuncData}(F:Fun K "windows" "windows" (top 24) f fd)(T:Txt mg)(C:CalsWs P w K mg base):FnOk P w K mg base CX0 8 f fd ["field","sizes"] (conSp K cWins):=by
 have S:=scWins
 refine wfn F S (λcdv A outer s H E hr=>(s_cons (s_set (i:=2) S.nd rfl (Or.inl rfl) (w_ix rfl (wn 0) (wx w_int)))
     (s_cons (s_if (t_not (t_val (w_fn C.are_sizes (hr.mono (by first|decide|omega)) (wa_cons (wn 2) (wa_cons (wn 1) wa_nil))))) (s_one s_never) s_nil)
     (s_cons (s_set (i:=3) S.nd rfl (Or.inl rfl) (w_callT ok_tuple (call_tupleK (K:=K) rfl) T.tuple_ boot_tuple (wa_cons (wx (w_comp rfl (own:=["side","size"]) (fr:=[]) (by kernel_rfl) (i_zip2 rfl T.zip_ (wa_cons (wn 2) (wa_cons (wn 1) wa_nil))) (λ_ _ _ _=>(g_tup rfl rfl (gs_cons (g_name (i:=0) (by decide +kernel:O1 (["side","size"]:List Str)) rfl (Or.inl rfl)) (gs_cons (g_name (i:=1) (by decide +kernel:O1 (["side","size"]:List Str)) rfl (Or.inl rfl)) gs_nil)))) (λ_ _ _ _=>if0) (λ_ _ _ _=>(w_bin ok_sub op_sub (wn 0) (wn 1))))) wa_nil)))
     (s_one (s_ret (w_comp rfl (own:=["place"]) (fr:=[0,1]) (by kernel_rfl) (i_seq rfl (w_fn C.places_between (hr.mono (by first|decide|omega)) (wa_cons (wx (w_fn C.first_place (hr.mono (by first|decide|omega)) (wa_cons (wn 2) wa_nil))) (wa_cons (wn 3) wa_nil)))) (λ_ _ _ _=>(g_name (i:=0) (by decide +kernel:O1 (["place","field","sizes"]:List Str)) rfl (Or.inl rfl))) (λ_ _ _ _=>if0) (λ_ _ _ _=>(w_fn C.window_at (hr.mono (by first|decide|omega)) (wa_cons (wn 1) (wa_cons (wn 0) (wa_cons (wn 2) wa_nil)))))))))))) ?_ ?_
 ·rintro args Qd ⟨sd,cl,sz,rfl,_⟩;rfl
 ·rintro args Qd ⟨sd,cl,sz,rfl,hsd,hcl,hz,q⟩
  have h3:=hsd.l3
  have hm:=hsd.m
  have hzl:=wz_len hz
  have hb0:=last_bx hz
  have hbl:=btw_len hb0
  obtain⟨e1,e2⟩:=bx_len hb0
  refine ⟨noOw_of rfl,?_⟩
  refine ⟨_,rfl,?_⟩
  refine ⟨sd,tupD sz,rfl,okD_tup sz,by omega,λ_=>?_⟩
  rw[wz_isSz hz]
  refine ⟨by rw[zipD_ints,n0,K2];exact le_size (by omega),mapC (fZ λa b=>a - b) ?_ ?_⟩
  ·intro d hd N hN
   rw[zipD_ints]at hd
   obtain⟨x,_,rfl⟩:=T0.mp hd
   exact ⟨rfl,hN⟩
  rw[fZ_map,<- lastP_zip]
  refine ⟨sd,rfl,by omega,λ_=>?_⟩
  refine ⟨sd.map λ_=>0,lastP sd sz,rfl,by omega,by omega,λx hx=>?_,by have:=(bx_lenP hb0).1;omega,λ_=>?_⟩
  ·obtain⟨g1,g2,t,ht,g3⟩:=bx_pair hb0 x hx
   have:=le_prodI hsd.p t ht
   omega
  refine ⟨by rw[n0];exact le_size (by omega),mapC (fWin sd cl sz) ?_ ?_⟩
  ·intro d hd N hN
   obtain⟨p,hp,rfl⟩:=T0.mp hd
   refine ⟨sd,cl,p,sz,rfl,hsd,hcl,hzl,plW_bx hz hp,λ_=>?_⟩
   have hN:N (winP sd cl sz ((p.map j0).map unI)) _:=hN
   rw[unI_int]at hN
   exact hN
  rw[fWin_map]
  exact q _
noncomputable def cWinsX:(Str->Option Value)->ConX:=λmg args C=>∃(sd cl:List Int) (d:PyData),args=[.fz (fldD sd cl),.fz d]/\okD d=true/\sd.length<=1000/\isSz sd d=false/\C=cA mg "NoBox"
theorem ok_winsX{f:Addr}{fd:FuncData}(F:Fun K "windows" "windows" (top 24) f fd)(T:Txt mg)(L:Cls K mg)(C:CalsWs P w K mg base):FnOk P w K mg base (CXE P w) 8 f fd ["field","sizes"] (conSpX K (cWinsX mg)):=by
 have S:=scWins
 refine wfnR (C:=cA mg "NoBox") F S (λcdv A outer s H E hr=>(r_cons (s_set (i:=2) S.nd rfl (Or.inl rfl) (w_ix rfl (wn 0) (wx w_int)))
     (r_if (λ_ _ h=>h) (t_not (t_val (w_fn C.are_sizes (hr.mono (by first|decide|omega)) (wa_cons (wn 2) (wa_cons (wn 1) wa_nil))))) T.NoBox_ L.NoBox_e))) ?_ ?_
 ·rintro args C' ⟨sd,cl,d,rfl,_⟩;rfl
 ·rintro args C' ⟨sd,cl,d,rfl,hd,hn,hb,rfl⟩
  refine ⟨rfl,noOw_of rfl,?_⟩
  refine ⟨_,rfl,?_⟩
  refine ⟨sd,d,rfl,hd,hn,λo=>?_⟩
  rw[hb]
  exact ⟨rfl,trivial⟩
end
theorem Sd.b{sd:List Int}(h:Sd sd):∀c∈sd,1<=c/\c<=120:=λc hc=>⟨h.p c hc,B8 (le_prodI h.p c hc) h.m⟩
theorem wz_snoc:∀{sz sd:List Int}{z s:Int},Wz sz sd->1<=z->z<=s->Wz (sz++[z]) (sd++[s])
 | [],[],_,_,_,h1,h2=>⟨⟨h1,h2⟩,trivial⟩
 | _ :: _,_ :: _,_,_,h,h1,h2=>⟨h.1,wz_snoc h.2 h1 h2⟩
 | [],_ :: _,_,_,h,_,_=>h.elim
 | _ :: _,[],_,_,h,_,_=>h.elim
theorem pickS{s a b r:Int}(a1:1<=a)(a2:a<=s)(b1:1<=b)(b2:b<=s)(s1:1<=s)(h0:0<=r)(h1:r < 4):∃z:Int,atI [j0 a,.int b,.int s,.int 1] r=some (.int z)/\1<=z/\z<=s:=by
 have:r=0\/r=1\/r=2\/r=3:=by omega
 rcases this with rfl|rfl|rfl|rfl
 ·exact ⟨a,rfl,a1,a2⟩
 ·exact ⟨b,rfl,b1,b2⟩
 ·exact ⟨s,rfl,s1,B6 _⟩
 ·exact ⟨1,rfl,B6 _,s1⟩
noncomputable def fPut(cs:List PyData)(a:Int)(d:PyData):PyData:=.tuple ((cs.take (if a < 0 then (a+cs.length).toNat else a.toNat)++[d])++cs.drop (a+1).toNat)
theorem okS_at:∀{ds:List PyData}{sd:List Int}{j:Nat}{d:PyData}{s:Int},okS ds sd=true->ds[j]?=some d->sd[j]?=some s->sz1 s d=true
 | d :: ds,s :: sd,0,_,_,h,h1,h2=>by
  cases h1;cases h2
  simp only[okS,O2]at h
  exact h.1
 | d :: ds,s :: sd,j+1,_,_,h,h1,h2=>by
  simp only[okS,O2]at h
  exact okS_at (j:=j) h.2 h1 h2
 | [],_,_,_,_,_,h1,_=>by simp at h1
 | _ :: _,[],_,_,_,_,_,h2=>by simp at h2
noncomputable def BadZ(sd:List Int)(d:PyData):Prop:=okD d=true/\isSz sd d=false
theorem okAll_append(a b:List PyData):okAll (a++b)=(okAll a&&okAll b):=by
 induction a with
 | nil=>simp[okAll]
 | cons x a ih=>simp[okAll,ih,Bool.and_assoc]
theorem okAll_ints(ns:List Int):okAll (ns.map j0)=true:=okAll_of λd hd=>by
 obtain⟨i,_,rfl⟩:=T0.mp hd;rfl
theorem bad_put{sd sz:List Int}{a:Nat}{d:PyData}{s:Int}(hl:sz.length=sd.length)(ha:sd[a]?=some s)(hd:okD d=true)(hb:sz1 s d=false):BadZ sd (fPut (sz.map j0) (a:Int) d):=by
 have hal:a < sd.length:=(X0.mp ha).1
 have e:fPut (sz.map j0) (a:Int) d=.tuple (((sz.take a).map j0++[d])++(sz.drop (a+1)).map j0):=by
  unfold fPut
  rw[if_neg (by omega),Q4,show ((a:Int)+1).toNat=a+1 by omega,List.map_take,List.map_drop]
 rw[e]
 refine ⟨?_,?_⟩
 ·show okAll _=true
  rw[okAll_append,okAll_append,okAll_ints,okAll_ints]
  simp[okAll,hd]
 ·cases hz:okS (((sz.take a).map j0++[d])++(sz.drop (a+1)).map j0) sd with
  | false =>
   show (_&&okS (((sz.take a).map j0++[d])++(sz.drop (a+1)).map j0) sd)=false
   rw[hz,S6]
  | true =>
   have:=okS_at (j:=a) (d:=d) hz (by
     rw[T1 (by simp;omega),B1 (by simp;omega)]
     simp
     rw[show a - min a sz.length=0 by omega]
     rfl) ha
   rw[this]at hb
   cases hb
theorem bad_len{sd:List Int}{ds:List PyData}(h:okAll ds=true)(hl:ds.length≠sd.length):BadZ sd (.tuple ds):=⟨h,by simp[isSz,hl]⟩
theorem fil_fst{f:List Int->Int}:∀{ps:List (List Int)}{v:Int}{u:List Int},(ps.filter λp=>decide (f p=v))[0]?=some u->Fst f ps v u
 | [],_,_,h=>by simp at h
 | p :: ps,v,u,h=>by
  by_cases z:f p=v
  ·rw[List.filter_cons_of_pos (by simpa using z)]at h
   cases h
   exact ⟨0,rfl,z,λj y hj=>by omega⟩
  ·rw[List.filter_cons_of_neg (by simpa using z)]at h
   obtain⟨i,a1,a2,a3⟩:=fil_fst h
   refine ⟨i+1,a1,a2,λj y hj hy=>?_⟩
   cases j with
   | zero=>cases hy;exact z
   | succ j=>exact a3 j y (by omega) hy
theorem btw_lt(lo hi:List Int):(btw lo hi).Pairwise (λa b=>HT.lexLt a b=true):=by
 unfold btw
 exact eachA_sorted (cs:=(lo.zip hi).map λp=>rng2 p.1 p.2) (acc:=[[]]) (n:=0) (T5 _ _) (by simp) λc hc=>by
  obtain⟨p,_,rfl⟩:=T0.mp hc
  exact rng2_lt _ _
theorem minP_fst{f:List Int->Int}{ps:List (List Int)}{m:Int×List Int}(hs:ps.Pairwise (λa b=>HT.lexLt a b=true))(hm:m∈ps.map λq=>(f q,q))(hb:∀q∈ps.map (λq=>(f q,q)),HT.lexLt (keyP q) (keyP m)=false):(∀y∈ps,m.1<=f y)/\Fst f ps m.1 m.2:=by
 obtain⟨q,hq,rfl⟩:=T0.mp hm
 have key:∀y∈ps,f q<=f y/\(f y=f q->HT.lexLt y q=false):=λy hy=>by
  have h:=hb _ (Y3 hy)
  have h:HT.lexLt (f y :: y) (f q :: q)=false:=h
  rw[HT.lexLt_cons]at h
  by_cases z:f y=f q
  ·rw[if_pos z]at h
   exact ⟨by omega,λ_=>h⟩
  ·rw[if_neg z]at h
   have:=of_decide_eq_false h
   exact ⟨by omega,λz'=>absurd z' z⟩
 refine ⟨λy hy=>(key y hy).1,?_⟩
 obtain⟨i,hi,ei⟩:=j5.mp hq
 refine ⟨i,by rw[L0 hi,ei],rfl,λj y hj hy z=>?_⟩
 obtain⟨hj2,ej⟩:=X0.mp hy
 have h1:=J2.mp hs j i hj2 hi hj
 rw[ej,ei]at h1
 have h2:=(key y (E2 hy)).2 z
 rw[h1]at h2
 cases h2
theorem it_win{sd cl sz:List Int}(hsd:Sd sd)(hz:Wz sz sd):IT 3 (.list ((plW sd sz).map (winP sd cl sz))):=by
 have hm:=hsd.m
 have h3:=hsd.l3
 have hbl:=btw_len (last_bx hz)
 have tup:∀p:List Int,p.length<=3->IT 1 (tupD p):=λp hp=>.inr ⟨_,.inr rfl,by rw[n0];omega,λx hx=>by
   obtain⟨i,_,rfl⟩:=T0.mp hx
   exact it_int _ _⟩
 refine .inr ⟨_,.inl rfl,by rw[n0];show (btw _ _).length<=20000;omega,λx hx=>?_⟩
 obtain⟨p,hp,rfl⟩:=T0.mp hx
 have hb:=plW_bx hz hp
 obtain⟨m,w,M,u,e,hw,hu⟩:=win_ex (f:=cel sd cl) p (btw_ne hb)
 rw[show winP sd cl sz p=wnD p m w M u from e]
 have l1:=(bx_len hb).1
 have l2:=wi_len (btw_wi hb hw)
 have l3:=wi_len (btw_wi hb hu)
 refine .inr ⟨_,.inr rfl,by show 5<=20000;decide,λx hx=>?_⟩
 simp only[Y0,u6,or_false]at hx
 rcases hx with rfl|rfl|rfl|rfl|rfl
 ·exact tup p (by omega)
 ·exact it_int _ _
 ·exact tup w (by omega)
 ·exact it_int _ _
 ·exact tup u (by omega)
theorem nm_win{sd cl sz p:List Int}(hb:Bx p (hiP p sz) sd):noMut (winP sd cl sz p)=true:=by
 obtain⟨m,w,M,u,e,hw,hu⟩:=win_ex (f:=cel sd cl) p (btw_ne hb)
 rw[show winP sd cl sz p=wnD p m w M u from e]
 show (noMut (tupD p)&&(true&&(noMut (tupD w)&&(true&&(noMut (tupD u)&&true)))))=true
 rw[noMut_tup,noMut_tup,noMut_tup]
 rfl
noncomputable def fCel(sd cl:List Int):PyData->PyData
 | .tuple xs=>.int (cel sd cl (xs.map unI))
 | _=>.none
theorem fCel_map(sd cl:List Int)(ps:List (List Int)):(ps.map tupD).map (fCel sd cl)=(ps.map (cel sd cl)).map j0:=by
 rw[P0,P0]
 refine S2 λp _=>?_
 show j0 (cel sd cl ((p.map j0).map unI))=j0 (cel sd cl p)
 rw[unI_int]
theorem nm_pr:∀l:List (Int×List Int),noMutAll (l.map prP)=true
 | []=>rfl
 | p :: l=>by
  show ((true&&(noMut (tupD p.2)&&true))&&noMutAll (l.map prP))=true
  rw[noMut_tup,nm_pr l]
  rfl
noncomputable def fPr(sd cl:List Int)(d:PyData):PyData:=.tuple [fCel sd cl d,d]
theorem fPr_map(sd cl:List Int)(ps:List (List Int)):(ps.map tupD).map (fPr sd cl)=(ps.map λq=>(cel sd cl q,q)).map prP:=by
 rw[P0,P0]
 refine S2 λp _=>?_
 show N1 [.int (cel sd cl ((p.map j0).map unI)),tupD p]=N1 [.int (cel sd cl p),tupD p]
 rw[unI_int]
noncomputable def isC(sd cl:List Int)(v:Int):PyData->Bool
 | .tuple xs=>decide (cel sd cl (xs.map unI)=v)
 | _=>false
theorem isC_fil(sd cl:List Int)(v:Int)(ps:List (List Int)):((ps.map tupD).filter (isC sd cl v)).map id=(ps.filter λp=>decide (cel sd cl p=v)).map tupD:=by
 rw[L8,List.filter_map]
 congr 1
 refine List.filter_congr λp _=>?_
 show decide (cel sd cl ((p.map j0).map unI)=v)=_
 rw[unI_int]
section
variable {P:Program}{w:World}{K:i0}{mg:Str->Option Value}{base:Heap}
noncomputable def cSizes:Con:=λargs Q=>∃(ns:List Int) (k l:Int) (sd:List Int),args=[.io (penD ns k l),.fz (tupD sd)]/\0<=k/\0<=l/\Sd sd /\
 ∀(sz:List Int) (k' l':Int) (o:Ev),Wz sz sd->0<=k'->0<=l'->Q (.fz (tupD sz)) (some (.io (penD ns k' l')) :: o)
theorem scSizes:FnScope ["_law_pen_here","_law_sides_here","_law_found","_law_side"] ["_law_pen_here","_law_sides_here"] (defScope (top 37)):=⟨rfl,rfl,rfl,by decide +kernel,rfl,by decide +kernel,by decide +kernel⟩
theorem ok_sizes{f:Addr}{fd:FuncData}(F:Fun K "_law_sizes" "_law_sizes" (top 37) f fd)(T:Txt mg)(C:CalsB P w K mg base):FnOk P w K mg base CX0 2 f fd ["_law_pen_here","_law_sides_here"] (conSp K cSizes):=by
 have S:=scSizes
 refine wfn F S (λcdv A outer s H E hr=>(s_cons (s_set (i:=2) S.nd rfl (Or.inl rfl) (w_lst wa_nil))
     (s_cons (s_for [3] PassesOwn.never rfl (i_seq rfl (wv 1)) (g_name (i:=3) S.nd rfl (Or.inl rfl)) (s_one (s_expr (w_m ok_append rfl PySem.F.slot_list_append PySem.F.type_list_append mt_append (wn 2) (wa_cons (wx (w_ix rfl (wx (w_lst (wa_cons (wx (w_bin ok_add op_addD (wx w_int) (wx (w_fnI C.law_take (hr.mono (by first|decide|omega)) (wa_cons (wn 0) (wa_cons (wn 3) wa_nil)))))) (wa_cons (wx (w_bin ok_add op_addD (wx w_int) (wx (w_fnI C.law_take (hr.mono (by first|decide|omega)) (wa_cons (wn 0) (wa_cons (wx (w_callB ok_2I (call_min2 rfl) T.min_ boot_min (wa_cons (wn 3) (wa_cons (wx w_int) wa_nil)))) wa_nil)))))) (wa_cons (wx (wv 3)) (wa_cons (wx w_int) wa_nil)))))) (wx (w_fnI C.law_take (hr.mono (by first|decide|omega)) (wa_cons (wn 0) (wa_cons (wx w_int) wa_nil)))))) wa_nil)))))
     (s_one (s_ret (w_callT ok_tuple (call_tupleK (K:=K) rfl) T.tuple_ boot_tuple (wa_cons (wn 2) wa_nil))))))) ?_ ?_
 ·rintro args Qd ⟨ns,k,l,sd,rfl,_⟩;rfl
 ·rintro args Qd ⟨ns,k,l,sd,rfl,hk,hl,hsd,q⟩
  have h3:=hsd.l3
  refine ⟨noOw_of rfl,?_⟩
  refine loopC (λrest ρ=>∃(dn sz rs:List Int) (k4 l4:Int),ρ=[some (.io (penD ns k4 l4)),some (.fz (tupD sd)),some (.ow (.list (sz.map j0))),none] /\
      rest=rs.map j0/\sd=dn++rs/\Wz sz dn/\0<=k4/\0<=l4) ?_ ?_
   ⟨[],[],sd,k,l,rfl,rfl,rfl,trivial,hk,hl⟩
  ·rintro d ds ρ ⟨dn,sz,rs,k4,l4,rfl,er,hsp,hw,hk4,hl4⟩ N hN
   cases rs with
   | nil=>cases er
   | cons s rs =>
    cases er
    have hs:=hsd.b s (by rw[hsp];simp)
    have hdl:dn.length<=3:=by have:=congrArg Q3 hsp;simp at this;omega
    have g1:=wz_len hw
    have hz1:(sz.map j0).length < sizeLine:=by rw[n0];exact J0 (show sz.length < 1000 by omega) (by decide)
    refine ⟨ns,k4,l4,_,rfl,hk4,hl4,by omega,by omega,λa k5 l5 _ a0 a1 hk5 hl5=>?_⟩
    refine ⟨ns,k5,l5,_,rfl,hk5,hl5,by split<;>omega,by split<;>omega,λb k6 l6 _ b0 b1 hk6 hl6=>?_⟩
    refine ⟨ns,k6,l6,_,rfl,hk6,hl6,by decide,by decide,λc k7 l7 _ c0 c1 hk7 hl7=>?_⟩
    have b2:1+b<=s:=by split at b1<;>omega
    obtain⟨z,ez,z1,z2⟩:=pickS (s:=s) (a:=1+a) (b:=1+b) (by omega) (by omega) (by omega) b2 hs.1 c0 c1
    refine ⟨_,ez,hz1,?_⟩
    exact hN _ ⟨dn++[s],sz++[z],rs,k7,l7,by rw[B3];rfl,rfl,by rw[hsp];simp,wz_snoc hw z1 z2,hk7,hl7⟩
  ·rintro ρ ⟨dn,sz,rs,k4,l4,rfl,er,hsp,hw,hk4,hl4⟩
   cases rs with
   | nil=>exact q sz k4 l4 _ (by rw[hsp,T2];exact hw) hk4 hl4
   | cons _ _=>cases er
noncomputable def cNoSz:Con:=λargs Q=>∃(ns:List Int) (k l:Int) (sd sz:List Int),args=[.io (penD ns k l),.fz (tupD sd),.fz (tupD sz)]/\0<=k/\0<=l/\Sd sd/\Wz sz sd /\
 ∀(ds:List PyData) (k' l':Int) (o:Ev),(∀d∈ds,BadZ sd d)->0<=k'->0<=l'->Q (.ow (.list ds)) (some (.io (penD ns k' l')) :: o)
theorem scNoSz:FnScope ["_law_pen_here","_law_sides_here","_law_sizes_here","_law_at","_law_some","_law_found"] ["_law_pen_here","_law_sides_here","_law_sizes_here"] (defScope (top 38)):=⟨rfl,rfl,rfl,by decide +kernel,rfl,by decide +kernel,by decide +kernel⟩
theorem ok_noSz{f:Addr}{fd:FuncData}(F:Fun K "_law_no_sizes" "_law_no_sizes" (top 38) f fd)(T:Txt mg)(C:CalsB P w K mg base):FnOk P w K mg base CX0 2 f fd ["_law_pen_here","_law_sides_here","_law_sizes_here"] (conSp K cNoSz):=by
 have S:=scNoSz
 refine wfn F S (λcdv A outer s H E hr=>(s_cons (s_set (i:=3) S.nd rfl (Or.inr rfl) (w_fnI C.law_take (hr.mono (by first|decide|omega)) (wa_cons (wn 0) (wa_cons (wx (w_callB ok_len (call_lenK (K:=K) rfl) T.len_ PySem.boot_len (wa_cons (wn 1) wa_nil))) wa_nil))))
     (s_cons (s_set (i:=4) S.nd rfl (Or.inl rfl) (w_lst (wa_cons (wx w_int) (wa_cons (wx (w_neg (wx w_int))) (wa_cons (wx (w_bin ok_add op_addD (wx (w_ix rfl (wn 1) (wn 3))) (wx w_int))) (wa_cons (wx w_bl) (wa_cons (wx w_non) (wa_cons (wx w_str) (wa_cons (wx (w_tup (wa_cons (wx w_int) wa_nil))) (wa_cons (wx (w_lst (wa_cons (wx w_int) wa_nil))) (wa_cons (wx (w_bin ok_sub op_sub (wx (w_bin ok_pow op_pow (wx w_int) (wx w_int))) (wx w_int))) wa_nil)))))))))))
     (s_cons (s_setC (i:=5) S.nd rfl rfl rfl (own:=["_law_one"]) (fr:=[2,3]) (by kernel_rfl) (i_seq rfl (wv 4)) (λ_ _ _ _=>(g_name (i:=0) (by decide +kernel:O1 (["_law_one","_law_sizes_here","_law_at"]:List Str)) rfl (Or.inl rfl))) (λ_ _ _ _=>if0) (λ_ _ _ _=>(w_bin ok_add op_addD (wx (w_bin ok_add op_addD (wx (w_slHi rfl (wn 1) (wn 2))) (wx (w_tup (wa_cons (wx (wv 0)) wa_nil))))) (wx (w_slLo rfl (wn 1) (wx (w_bin ok_add op_addD (wn 2) (wx w_int))))))))
     (s_one (s_ret (w_bin ok_add op_addD (wn 5) (wx (w_lst (wa_cons (wx (w_callT ok_list (call_listK (K:=K) rfl) T.list_ boot_list (wa_cons (wn 2) wa_nil))) (wa_cons (wx (w_bin ok_add op_addD (wn 2) (wx (w_tup (wa_cons (wx w_int) wa_nil))))) (wa_cons (wx (w_slHi rfl (wn 2) (wx (w_neg (wx w_int))))) (wa_cons (wx (w_tup wa_nil)) (wa_cons (wx w_non) (wa_cons (wx w_int) (wa_cons (wx w_bl) (wa_cons (wx w_str) (wa_cons (wx w_dnew) wa_nil)))))))))))))))))) ?_ ?_
 ·rintro args Qd ⟨ns,k,l,sd,sz,rfl,_⟩;rfl
 ·rintro args Qd ⟨ns,k,l,sd,sz,rfl,hk,hl,hsd,hz,q⟩
  have h3:=hsd.l3
  have h1:=hsd.l1
  have hzl:=wz_len hz
  have hsm:(sd.map j0).length=sd.length:=n0 ..
  have hcm:(sz.map j0).length=sd.length:=by rw[n0];exact hzl
  refine ⟨noOw_of rfl,?_⟩
  refine ⟨ns,k,l,_,rfl,hk,hl,by rw[hsm];omega,by rw[hsm];omega,λa k5 l5 _ a0 a1 hk5 hl5=>?_⟩
  rw[hsm]at a1
  obtain⟨j,rfl⟩:=A4 a0
  have hjl:j < sd.length:=by omega
  have hjs:sd[j]?=some sd[j]:=L0 hjl
  have hs:=hsd.b sd[j] (U3 _)
  have hat:atI (sd.map j0) (j:Int)=some (.int sd[j]):=atI_map j0 (atI_nat hjs)
  refine ⟨_,hat,⟨by decide,by decide,by decide⟩,?_⟩
  refine ⟨by show 9<=sizeLine;decide,mapC (fPut (sz.map j0) (j:Int)) ?_ ?_⟩
  ·intro d hd N hN
   refine ⟨by rw[if_neg (by omega),hcm];omega,?_,?_⟩
   ·refine le_size ?_
    rw[U2,hcm]
    simp
    omega
   ·refine ⟨by omega,by rw[hcm];omega,?_,hN⟩
    refine le_size ?_
    rw[R0,U2,T3,hcm]
    simp
    omega
  ·refine ⟨by refine le_size ?_;rw[hcm];simp;omega,?_⟩
   refine ⟨by rw[if_pos (by decide),hcm];omega,?_⟩
   refine ⟨by refine le_size ?_;simp,?_⟩
   refine q _ _ _ _ ?_ hk5 hl5
   intro d hd
   rcases u3.mp hd with hd|hd
   ·obtain⟨x,hx,rfl⟩:=T0.mp hd
    have hx:x∈[j0 0,.int (-1),.int (sd[j]+1),.bool true,.none,.str "1",.tuple [.int 1],.list [.int 1],.int (10 ^ 30 - 1)]:=hx
    have big:sd[j] < 10 ^ 30 - 1:=Int.lt_of_le_of_lt hs.2 (by decide)
    simp only[Y0,u6,or_false]at hx
    rcases hx with rfl|rfl|rfl|rfl|rfl|rfl|rfl|rfl|rfl
    ·exact bad_put hzl hjs rfl (by simp[sz1])
    ·exact bad_put hzl hjs rfl (by simp[sz1])
    ·exact bad_put hzl hjs rfl (by simp[sz1];omega)
    ·exact bad_put hzl hjs rfl rfl
    ·exact bad_put hzl hjs rfl rfl
    ·exact bad_put hzl hjs rfl rfl
    ·exact bad_put hzl hjs rfl rfl
    ·exact bad_put hzl hjs rfl rfl
    ·exact bad_put hzl hjs rfl (by show (decide (1<=(10 ^ 30 - 1:Int))&&decide ((10 ^ 30 - 1:Int)<=sd[j]))=false;rw[decide_eq_false (Int.not_le.mpr big),S6])
   ·have hd:d∈[M4 (sz.map j0),.tuple (sz.map j0++[.int 1]),.tuple ((sz.map j0).take (if (-1:Int) < 0 then ((-1:Int)+((sz.map j0).length:Nat)).toNat else (-1:Int).toNat)),.tuple [],.none,.int 1,.bool true,.str "1",.dict []]:=hd
    simp only[Y0,u6,or_false]at hd
    rcases hd with rfl|rfl|rfl|rfl|rfl|rfl|rfl|rfl|rfl
    ·exact ⟨okAll_ints sz,rfl⟩
    ·exact bad_len (by rw[okAll_append,okAll_ints];rfl) (by simp;omega)
    ·refine bad_len (okAll_of λd hd=>okAll_mem (okAll_ints sz) d (Z7 hd)) ?_
     rw[U2,if_pos (by decide),hcm]
     omega
    ·exact bad_len rfl (by simp;omega)
    ·exact ⟨rfl,rfl⟩
    ·exact ⟨rfl,rfl⟩
    ·exact ⟨rfl,rfl⟩
    ·exact ⟨rfl,rfl⟩
    ·exact ⟨rfl,rfl⟩
structure CalsHe(P:Program)(w:World)(K:i0)(mg:Str->Option Value)(base:Heap):Prop where
 windows:Cal P w K mg base 8 "windows" ["field","sizes"] (conSp K cWins)
 law_word:Cal P w K mg base 1 "_law_word" ["_law_caught"] (conSp K (cWord mg))
theorem scHeard:FnScope ["_law_field_here","_law_sizes_here","_law_caught","_law_found","e"] ["_law_field_here","_law_sizes_here"] (defScope (top 39)):=⟨rfl,rfl,rfl,by decide +kernel,rfl,by decide +kernel,by decide +kernel⟩
theorem ok_heard{f:Addr}{fd:FuncData}(F:Fun K "_law_heard" "_law_heard" (top 39) f fd)(T:Txt mg)(C:CalsHe P w K mg base):FnOk P w K mg base CX0 9 f fd ["_law_field_here","_law_sizes_here"] (conSp K cWins):=by
 have S:=scHeard
 refine wfn F S (λcdv A outer s H E hr=>(s_cons (s_set (i:=2) S.nd rfl (Or.inl rfl) w_non)
     (s_cons (s_set (i:=3) S.nd rfl (Or.inl rfl) w_non)
     (s_cons (s_tryN (s_one (s_set (i:=3) S.nd rfl (Or.inl rfl) (w_fn C.windows (hr.mono (by first|decide|omega)) (wa_cons (wn 0) (wa_cons (wn 1) wa_nil))))))
     (s_cons (s_if (t_cmp ok_notN op_notN (wn 2) (wx w_non)) (s_one (s_ret (w_fn C.law_word (hr.mono (by first|decide|omega)) (wa_cons (wn 2) wa_nil)))) s_nil)
     (s_one (s_retV (wn 3)))))))) ?_ ?_
 ·rintro args Qd ⟨sd,cl,sz,rfl,_⟩;rfl
 ·rintro args Qd ⟨sd,cl,sz,rfl,hsd,hcl,hz,q⟩
  refine ⟨noOw_of rfl,?_⟩
  exact ⟨sd,cl,sz,rfl,hsd,hcl,hz,λo=>q _⟩
structure CalsWd(P:Program)(w:World)(K:i0)(mg:Str->Option Value)(base:Heap):Prop where
 law_places:Cal P w K mg base 1 "_law_places" ["_law_low","_law_high"] (conSp K cLPl)
noncomputable def cWinL:Con:=λargs Q=>∃(sd cl p sz:List Int),args=[.fz (.dict ((dic sd cl).map enT)),.fz (tupD p),.fz (tupD sz)]/\Sd sd/\cl.length=(plc sd).length/\sz.length=sd.length/\Bx p (hiP p sz) sd/\∀o,Q (.fz (winP sd cl sz p)) o
theorem scWinL:FnScope ["_law_known_here","_law_place","_law_sizes_here","_law_some","_law_least","_law_where","_law_greatest"] ["_law_known_here","_law_place","_law_sizes_here"] (defScope (top 40)):=⟨rfl,rfl,rfl,by decide +kernel,rfl,by decide +kernel,by decide +kernel⟩
theorem ok_winL{f:Addr}{fd:FuncData}(F:Fun K "_law_window" "_law_window" (top 40) f fd)(T:Txt mg)(C:CalsWd P w K mg base):FnOk P w K mg base CX0 2 f fd ["_law_known_here","_law_place","_law_sizes_here"] (conSp K cWinL):=by
 have S:=scWinL
 refine wfn F S (λcdv A outer s H E hr=>(s_cons (s_set (i:=3) S.nd rfl (Or.inl rfl) (w_fn C.law_places (hr.mono (by first|decide|omega)) (wa_cons (wn 1) (wa_cons (wx (w_comp rfl (own:=["_law_one","_law_size"]) (fr:=[]) (by kernel_rfl) (i_zip2 rfl T.zip_ (wa_cons (wn 1) (wa_cons (wn 2) wa_nil))) (λ_ _ _ _=>(g_tup rfl rfl (gs_cons (g_name (i:=0) (by decide +kernel:O1 (["_law_one","_law_size"]:List Str)) rfl (Or.inl rfl)) (gs_cons (g_name (i:=1) (by decide +kernel:O1 (["_law_one","_law_size"]:List Str)) rfl (Or.inl rfl)) gs_nil)))) (λ_ _ _ _=>if0) (λ_ _ _ _=>(w_bin ok_sub op_sub (wx (w_bin ok_add op_addD (wn 0) (wn 1))) (wx w_int))))) wa_nil))))
     (s_cons (s_asgG (w_callB ok_minP (call_minP rfl rfl (hu2_of hr)) T.min_ boot_min (wa_cons (wx (w_compN rfl rfl (own:=["_law_one"]) (fr:=[0]) (by kernel_rfl) (wn 3) (λ_ _ _ _=>(g_name (i:=0) (by decide +kernel:O1 (["_law_one","_law_known_here"]:List Str)) rfl (Or.inl rfl))) (λ_ _ _ _=>if0) (λ_ _ _ _=>(w_tup (wa_cons (wx (w_dget (hu_of hr) (wn 1) (wn 0))) (wa_cons (wx (wv 0)) wa_nil)))))) wa_nil)) (g_tup rfl rfl (gs_cons (g_name (i:=4) S.nd rfl (Or.inl rfl)) (gs_cons (g_name (i:=5) S.nd rfl (Or.inl rfl)) gs_nil))))
     (s_cons (s_set (i:=6) S.nd rfl (Or.inr rfl) (w_callB ok_mxI (call_mxI (K:=K) rfl rfl) T.max_ boot_max (wa_cons (wx (w_compN rfl rfl (own:=["_law_one"]) (fr:=[0]) (by kernel_rfl) (wn 3) (λ_ _ _ _=>(g_name (i:=0) (by decide +kernel:O1 (["_law_one","_law_known_here"]:List Str)) rfl (Or.inl rfl))) (λ_ _ _ _=>if0) (λ_ _ _ _=>(w_dget (hu_of hr) (wn 1) (wn 0))))) wa_nil)))
     (s_one (s_ret (w_tup (wa_cons (wx (wv 1)) (wa_cons (wx (wv 4)) (wa_cons (wx (wv 5)) (wa_cons (wx (wv 6)) (wa_cons (wx (w_ix rfl (wx (w_compN rfl rfl (own:=["_law_one"]) (fr:=[0,6]) (by kernel_rfl) (wn 3) (λ_ _ _ _=>(g_name (i:=0) (by decide +kernel:O1 (["_law_one","_law_known_here","_law_greatest"]:List Str)) rfl (Or.inl rfl))) (λ_ _ _ _=>if1 (t_cmp ok_eq (op_eqE (K:=K) rfl hr.units) (wx (w_dget (hu_of hr) (wn 1) (wn 0))) (wn 2))) (λ_ _ _ _=>(wv 0)))) (wx w_int))) wa_nil)))))))))))) ?_ ?_
 ·rintro args Qd ⟨sd,cl,p,sz,rfl,_⟩;rfl
 ·rintro args Qd ⟨sd,cl,p,sz,rfl,hsd,hcl,hsz,hb,q⟩
  have h3:=hsd.l3
  have hm:=hsd.m
  obtain⟨e1,e2⟩:=bx_len hb
  have hbl:=btw_len hb
  have hne:=btw_ne hb
  refine ⟨noOw_of rfl,?_⟩
  refine ⟨by rw[zipD_ints,n0,K2];exact le_size (by omega),mapC (fZ λa b=>a+b - 1) ?_ ?_⟩
  ·intro d hd N hN
   rw[zipD_ints]at hd
   obtain⟨x,_,rfl⟩:=T0.mp hd
   exact ⟨rfl,hN⟩
  rw[fZ_map,<- hiP_zip]
  refine ⟨_,_,p,hiP p sz,rfl,rfl,rfl,by omega,by omega,by have:=hsd.l1;omega,λx hx=>?_,by have:=(bx_lenP hb).1;omega,λ_=>?_⟩
  ·obtain⟨g1,g2,t,ht,g3⟩:=bx_pair hb x hx
   have:=le_prodI hsd.p t ht
   omega
  have hget:∀q∈btw p (hiP p sz),getE ((dic sd cl).map enT) (tupD q)=some (.int (cel sd cl q)):=λq hq=>dic_at hsd.p hcl (btw_wi hb hq)
  generalize hps:btw p (hiP p sz)=ps at *
  have hpl:(ps.map tupD).length<=sizeLine:=by rw[n0];exact le_size (by omega)
  refine ⟨rfl,hpl,mapC (fPr sd cl) ?_ ?_⟩
  ·intro d hd N hN
   obtain⟨x,hx,rfl⟩:=T0.mp hd
   refine ⟨_,hget x hx,?_⟩
   have hN:N (.tuple [.int (cel sd cl ((x.map j0).map unI)),tupD x]) _:=hN
   rw[unI_int]at hN
   exact hN
  rw[fPr_map]
  refine ⟨nm_pr _,_,rfl,by rw[n0];exact D5.mpr hne,λm m1 m2=>?_⟩
  have hms:=minP_fst (f:=cel sd cl) (by rw[<- hps];exact btw_lt _ _) m1 m2
  refine ⟨rfl,?_⟩
  refine ⟨rfl,hpl,mapC (fCel sd cl) ?_ ?_⟩
  ·intro d hd N hN
   obtain⟨x,hx,rfl⟩:=T0.mp hd
   refine ⟨_,hget x hx,?_⟩
   have hN:N (.int (cel sd cl ((x.map j0).map unI))) _:=hN
   rw[unI_int]at hN
   exact hN
  rw[fCel_map]
  refine ⟨noMutAll_ints _,_,rfl,by rw[n0];exact D5.mpr hne,λM M1 M2=>?_⟩
  refine ⟨rfl,hpl,filC (isC sd cl M) id ?_ ?_⟩
  ·intro d hd N N' hN hN'
   obtain⟨x,hx,rfl⟩:=T0.mp hd
   have e:isC sd cl M (tupD x)=decide (cel sd cl x=M):=by
    show decide (cel sd cl ((x.map j0).map unI)=M)=_
    rw[unI_int]
   rw[e]at hN hN'
   refine ⟨_,hget x hx,?_⟩
   refine ite2 (λh=>?_) (λh=>?_)
   ·exact hN h
   ·exact hN' (by simpa using h)
  rw[isC_fil]
  obtain⟨x,hx,ex⟩:=T0.mp M1
  have hfn:(ps.filter λp=>decide (cel sd cl p=M))≠[]:=List.ne_nil_of_mem (O7.mpr ⟨hx,by simpa using ex⟩)
  obtain⟨u,us,eu⟩:=Y6 hfn
  have hu:Fst (cel sd cl) ps M u:=fil_fst (by rw[eu];rfl)
  rw[eu]
  refine ⟨noMutAll_tups _,tupD u,atI_nat (j:=0) rfl,?_⟩
  have hw:IsWin (cel sd cl) ps p (wnD p m.1 m.2 M u):=⟨m.1,m.2,M,u,rfl,hms.1,hms.2,λy hy=>M2 _ (Y3 hy),hu⟩
  have:=q
  rw[show winP sd cl sz p=wnD p m.1 m.2 M u by unfold winP;rw[hps];exact win_is hw]at this
  exact this _
structure CalsDu(P:Program)(w:World)(K:i0)(mg:Str->Option Value)(base:Heap):Prop where
 law_known:Cal P w K mg base 3 "_law_known" ["_law_field_here"] (conSp K cKnown)
 law_places:Cal P w K mg base 1 "_law_places" ["_law_low","_law_high"] (conSp K cLPl)
 law_window:Cal P w K mg base 2 "_law_window" ["_law_known_here","_law_place","_law_sizes_here"] (conSp K cWinL)
theorem scDue:FnScope ["_law_field_here","_law_sizes_here","_law_known_here","_law_last"] ["_law_field_here","_law_sizes_here"] (defScope (top 41)):=⟨rfl,rfl,rfl,by decide +kernel,rfl,by decide +kernel,by decide +kernel⟩
theorem ok_due{f:Addr}{fd:FuncData}(F:Fun K "_law_due" "_law_due" (top 41) f fd)(T:Txt mg)(C:CalsDu P w K mg base):FnOk P w K mg base CX0 4 f fd ["_law_field_here","_law_sizes_here"] (conSp K cWins):=by
 have S:=scDue
 refine wfn F S (λcdv A outer s H E hr=>(s_cons (s_set (i:=2) S.nd rfl (Or.inr rfl) (w_fn C.law_known (hr.mono (by first|decide|omega)) (wa_cons (wn 0) wa_nil)))
     (s_cons (s_setC (i:=3) S.nd rfl rfl rfl (own:=["_law_side","_law_size"]) (fr:=[]) (by kernel_rfl) (i_zip2 rfl T.zip_ (wa_cons (wx (w_ix rfl (wn 0) (wx w_int))) (wa_cons (wn 1) wa_nil))) (λ_ _ _ _=>(g_tup rfl rfl (gs_cons (g_name (i:=0) (by decide +kernel:O1 (["_law_side","_law_size"]:List Str)) rfl (Or.inl rfl)) (gs_cons (g_name (i:=1) (by decide +kernel:O1 (["_law_side","_law_size"]:List Str)) rfl (Or.inl rfl)) gs_nil)))) (λ_ _ _ _=>if0) (λ_ _ _ _=>(w_bin ok_sub op_sub (wn 0) (wn 1))))
     (s_one (s_ret (w_comp rfl (own:=["_law_place"]) (fr:=[2,1]) (by kernel_rfl) (i_seq rfl (w_fnL C.law_places (hr.mono (by first|decide|omega)) (wa_cons (wx (w_comp rfl (own:=["_law_size"]) (fr:=[]) (by kernel_rfl) (i_seq rfl (wv 1)) (λ_ _ _ _=>(g_name (i:=0) (by decide +kernel:O1 (["_law_size"]:List Str)) rfl (Or.inl rfl))) (λ_ _ _ _=>if0) (λ_ _ _ _=>w_int))) (wa_cons (wn 3) wa_nil)))) (λ_ _ _ _=>(g_name (i:=0) (by decide +kernel:O1 (["_law_place","_law_known_here","_law_sizes_here"]:List Str)) rfl (Or.inl rfl))) (λ_ _ _ _=>if0) (λ_ _ _ _=>(w_fn C.law_window (hr.mono (by first|decide|omega)) (wa_cons (wn 1) (wa_cons (wn 0) (wa_cons (wn 2) wa_nil))))))))))) ?_ ?_
 ·rintro args Qd ⟨sd,cl,sz,rfl,_⟩;rfl
 ·rintro args Qd ⟨sd,cl,sz,rfl,hsd,hcl,hz,q⟩
  have h3:=hsd.l3
  have h1:=hsd.l1
  have hm:=hsd.m
  have hzl:=wz_len hz
  have hb0:=last_bx hz
  have hbl:=btw_len hb0
  obtain⟨e1,e2⟩:=bx_len hb0
  refine ⟨noOw_of rfl,?_⟩
  refine ⟨sd,cl,rfl,hsd,hcl,λ_=>?_⟩
  refine ⟨_,rfl,by rw[zipD_ints,n0,K2];exact le_size (by omega),mapC (fZ λa b=>a - b) ?_ ?_⟩
  ·intro d hd N hN
   rw[zipD_ints]at hd
   obtain⟨x,_,rfl⟩:=T0.mp hd
   exact ⟨rfl,hN⟩
  rw[fZ_map,<- lastP_zip]
  refine ⟨by rw[n0];exact le_size (by omega),mapC (λ_=>.int 0) (λd hd N hN=>hN) ?_⟩
  have e0:(sz.map j0).map (λ_=>j0 0)=(sd.map λ_=>(0:Int)).map j0:=by
   rw[P0,P0]
   have:∀(a b:List Int),a.length=b.length->a.map (λ_=>j0 0)=b.map (λ_=>j0 0):=by
    intro a
    induction a with
    | nil=>intro b hb;cases b with
     | nil=>rfl
     | cons _ _=>simp at hb
    | cons x a ih=>intro b hb;cases b with
     | nil=>simp at hb
     | cons y b=>simp at hb;simp[ih b hb]
   exact this sz sd hzl
  refine ⟨_,_,sd.map λ_=>0,lastP sd sz,rfl,by rw[e0];rfl,rfl,by omega,by omega,by omega,λx hx=>?_,by have:=(bx_lenP hb0).1;omega,λ_=>⟨noMutAll_tups _,?_⟩⟩
  ·obtain⟨g1,g2,t,ht,g3⟩:=bx_pair hb0 x hx
   have:=le_prodI hsd.p t ht
   omega
  refine ⟨by rw[n0];exact le_size (by omega),mapC (fWin sd cl sz) ?_ ?_⟩
  ·intro d hd N hN
   obtain⟨p,hp,rfl⟩:=T0.mp hd
   have hb:=plW_bx hz hp
   refine ⟨sd,cl,p,sz,rfl,hsd,hcl,hzl,hb,λ_=>⟨nm_win hb,?_⟩⟩
   have hN:N (winP sd cl sz ((p.map j0).map unI)) _:=hN
   rw[unI_int]at hN
   exact hN
  rw[fWin_map]
  exact q _
end
section
variable {P:Program}{w:World}{K:i0}{mg:Str->Option Value}{base:Heap}
structure CalsHr(P:Program)(w:World)(K:i0)(mg:Str->Option Value)(base:Heap):Prop where
 windowsX:CalX P w K mg base 8 "windows" ["field","sizes"] (conSpX K (cWinsX mg))
 law_word:Cal P w K mg base 1 "_law_word" ["_law_caught"] (conSp K (cWord mg))
noncomputable def cHeardR:Con:=λargs Q=>∃(sd cl:List Int) (d:PyData),args=[.fz (fldD sd cl),.fz d]/\sd.length<=1000/\BadZ sd d/\∀o,Q (.fz (.str "box")) o
theorem ok_heardR{f:Addr}{fd:FuncData}(F:Fun K "_law_heard" "_law_heard" (top 39) f fd)(T:Txt mg)(L:Cls K mg)(C:CalsHr P w K mg base):FnOk P w K mg base CX0 9 f fd ["_law_field_here","_law_sizes_here"] (conSp K cHeardR):=by
 have S:=scHeard
 refine wfn F S (λcdv A outer s H E hr=>(s_cons (s_set (i:=2) S.nd rfl (Or.inl rfl) w_non)
     (s_cons (s_set (i:=3) S.nd rfl (Or.inl rfl) w_non)
     (s_cons (s_tryA (iE:=4) (iC:=2) rfl ⟨rfl,rfl,rfl,S.nd,rfl,rfl,rfl,rfl,rfl,T.BoxError_,L.BoxError_e,rfl,by decide,by decide,by decide⟩ C.windowsX (hr.mono (by first|decide|omega)) (wa_cons (wn 0) (wa_cons (wn 1) wa_nil)))
     (s_cons (s_if (t_cmp ok_notN op_notN (wn 2) (wx w_non)) (s_one (s_ret (w_fn C.law_word (hr.mono (by first|decide|omega)) (wa_cons (wn 2) wa_nil)))) s_nil)
     (s_one (s_retV (wn 3)))))))) ?_ ?_
 ·rintro args Qd ⟨sd,cl,d,rfl,_⟩;rfl
 ·rintro args Qd ⟨sd,cl,d,rfl,hn,hb,q⟩
  refine ⟨noOw_of rfl,?_⟩
  refine ⟨_,⟨sd,cl,d,rfl,hb.1,hn,hb.2,rfl⟩,L.NoBox_e,L.NoBox_BoxError,rfl,by decide,trivial,?_⟩
  exact ⟨rfl,λo=>q _⟩
end
theorem pick4{r b:Int}(h0:0<=r)(h1:r < 4)(hb:b=0\/b=1):∃m:Int,atI [j0 24,.int 24,.int 24,.int 120] (r * b)=some (.int m)/\1<=m/\m<=120:=by
 have:r=0\/r=1\/r=2\/r=3:=by omega
 rcases this with rfl|rfl|rfl|rfl<;>rcases hb with rfl|rfl<;>first|exact ⟨24,rfl,by decide,by decide⟩|exact ⟨120,rfl,by decide,by decide⟩
section
variable {P:Program}{w:World}{K:i0}{mg:Str->Option Value}{base:Heap}
structure CalsL(P:Program)(w:World)(K:i0)(mg:Str->Option Value)(base:Heap):Prop where
 law_pen:Cal P w K mg base 1 "_law_pen" ["_law_script"] (conSp K cPen)
 law_take:Cal P w K mg base 1 "_law_take" ["_law_pen_here","_law_many"] (conSp K cTake)
 law_field:Cal P w K mg base 3 "_law_field" ["_law_pen_here","_law_most"] (conSp K cField)
 law_sizes:Cal P w K mg base 2 "_law_sizes" ["_law_pen_here","_law_sides_here"] (conSp K cSizes)
 law_no_sizes:Cal P w K mg base 2 "_law_no_sizes" ["_law_pen_here","_law_sides_here","_law_sizes_here"] (conSp K cNoSz)
 law_due:Cal P w K mg base 4 "_law_due" ["_law_field_here","_law_sizes_here"] (conSp K cWins)
 law_same:Cal P w K mg base 5 "_law_same" ["_law_found","_law_due_here"] (conSp K cSame4)
 law_heard:Cal P w K mg base 9 "_law_heard" ["_law_field_here","_law_sizes_here"] (conSp K cWins)
 law_heardR:Cal P w K mg base 9 "_law_heard" ["_law_field_here","_law_sizes_here"] (conSp K cHeardR)
noncomputable def cLaw:Con:=λargs Q=>∃ns:List Int,args=[.fz (scrD ns)]/\ns.length<=63/\∀o,Q (.fz (.bool true)) o
theorem cLaw_sp{K:i0}{H:Hp}{a:Addr}{ns:List Int}(hl:ns.length<=63)(h:SqL K H a (ns.map V.int)):conSp K cLaw [.ref a] H (λv _=>v=.bl true) λ_ _ _=>False:=by
 refine ⟨⟨H,H,λ_=>none⟩,H,[.fz (scrD ns)],λr _=>r=.fz (.bool true),?_,⟨ns,rfl,hl,λ_=>rfl⟩,?_⟩
 ·refine ⟨rfl,Sub.refl _,Sub.refl _,λa o h=>.inl h,λa o h _=>h,?_,?_,?_,?_,?_,?_⟩
  ·intro i d e
   cases i with
   | zero=>cases e;exact ⟨_,rfl,.scr h⟩
   | succ i=>cases e
  ·intro i s e w
   cases i with
   | zero=>cases e;cases w
   | succ i=>cases e
  ·intro i d a e
   cases i with
   | zero=>cases e
   | succ i=>cases e
  ·intro i a e;cases e
  ·intro i d e
   cases i with
   | zero=>cases e
   | succ i=>cases e
  ·intro i j s t a e w
   cases i with
   | zero=>cases e;cases w
   | succ i=>cases e
 ·intro v H' F' r ρ' _ _ hr e
  subst e
  have hr:Da K F' v (.bool true):=hr
  cases hr
  rfl
theorem scLaw:FnScope ["_law_script","_law_pen_here","_law_turn","_law_field_here","_law_sizes_here","_law_due_here","_law_again","_law_found","_law_thing"] ["_law_script"] (defScope (top 42)):=⟨rfl,rfl,rfl,by decide +kernel,rfl,by decide +kernel,by decide +kernel⟩
theorem ok_law{f:Addr}{fd:FuncData}(F:Fun K "law" "law" (top 42) f fd)(T:Txt mg)(C:CalsL P w K mg base):FnOk P w K mg base CX0 10 f fd ["_law_script"] (conSp K cLaw):=by
 have S:=scLaw
 refine wfn F S (λcdv A outer s H E hr=>(s_cons (s_set (i:=1) S.nd rfl (Or.inl rfl) (w_fn C.law_pen (hr.mono (by first|decide|omega)) (wa_cons (wn 0) wa_nil)))
     (s_cons (s_for [2,3,4,5,6,8] PassesOwn.never rfl (i_rng1 T.range_ (wa_cons (wx w_int) wa_nil)) (g_name (i:=2) S.nd rfl (Or.inl rfl)) (s_cons (s_set (i:=3) S.nd rfl (Or.inl rfl) (w_fnI C.law_field (hr.mono (by first|decide|omega)) (wa_cons (wn 1) (wa_cons (wx (w_ix rfl (wx (w_lst (wa_cons (wx w_int) (wa_cons (wx w_int) (wa_cons (wx w_int) (wa_cons (wx w_int) wa_nil)))))) (wx (w_bin ok_mul op_mulD (wx (w_fnI C.law_take (hr.mono (by first|decide|omega)) (wa_cons (wn 1) (wa_cons (wx w_int) wa_nil)))) (wx (w_callT ok_int call_int1 T.int_ boot_int (wa_cons (wx (w_cmp ok_eq (op_eqE (K:=K) rfl hr.units) (wn 2) (wx w_int))) wa_nil))))))) wa_nil))))
     (s_cons (s_set (i:=4) S.nd rfl (Or.inl rfl) (w_fnI C.law_sizes (hr.mono (by first|decide|omega)) (wa_cons (wn 1) (wa_cons (wx (w_ix rfl (wn 3) (wx w_int))) wa_nil))))
     (s_cons (s_set (i:=5) S.nd rfl (Or.inl rfl) (w_fn C.law_due (hr.mono (by first|decide|omega)) (wa_cons (wn 3) (wa_cons (wn 4) wa_nil))))
     (s_cons (s_for [6,7] PassesOwn.never rfl (i_rng1 T.range_ (wa_cons (wx w_int) wa_nil)) (g_name (i:=6) S.nd rfl (Or.inl rfl)) (s_cons (s_set (i:=7) S.nd rfl (Or.inl rfl) (w_fn C.law_heard (hr.mono (by first|decide|omega)) (wa_cons (wn 3) (wa_cons (wn 4) wa_nil))))
     (s_cons (s_if (t_not (t_val (w_fn C.law_same (hr.mono (by first|decide|omega)) (wa_cons (wn 7) (wa_cons (wn 5) wa_nil))))) (s_one (s_ret w_bl)) s_nil)
     (s_one (s_expr (w_m0 ok_pop rfl PySem.F.slot_list_pop PySem.F.type_list_pop mt_pop (wn 7)))))))
     (s_one (s_for [8] PassesOwn.never rfl (i_seq rfl (w_fnI C.law_no_sizes (hr.mono (by first|decide|omega)) (wa_cons (wn 1) (wa_cons (wx (w_ix rfl (wn 3) (wx w_int))) (wa_cons (wn 4) wa_nil))))) (g_name (i:=8) S.nd rfl (Or.inl rfl)) (s_one (s_if (t_cmp ok_ne (op_neE (K:=K) rfl hr.units) (wx (w_fn C.law_heardR (hr.mono (by first|decide|omega)) (wa_cons (wn 3) (wa_cons (wn 8) wa_nil)))) (wx w_str)) (s_one (s_ret w_bl)) s_nil)))))))))
     (s_one (s_ret w_bl))))) ?_ ?_
 ·rintro args Qd ⟨ns,rfl,_⟩;rfl
 ·rintro args Qd ⟨ns,rfl,hn,q⟩
  refine ⟨noOw_of rfl,?_⟩
  refine ⟨ns,rfl,λ_=>?_⟩
  refine cutS (λρ=>ρ=[some (.fz (scrD ns)),some (.ow (penD ns 0 0)),none,none,none,none,none,none,none]) (λN hN=>hN _ rfl) ?_
  rintro ρ rfl
  refine ⟨by decide,by decide,?_⟩
  refine loopC (λrest ρ=>(∀d∈rest,∃i:Int,d=.int i)/\∃k l:Int,0<=k/\0<=l/\ρ=[some (.fz (scrD ns)),some (.ow (penD ns k l)),none,none,none,none,none,none,none]) ?_ ?_ ⟨?_,0,0,by decide,by decide,rfl⟩
  ·rintro d ds ρ ⟨hd,k,l,hk,hl,rfl⟩ N hN
   obtain⟨tn,rfl⟩:=hd d K0
   have hd':∀d∈ds,∃i:Int,d=.int i:=λd h=>hd d (u0 _ h)
   refine gnC rfl ?_
   refine cutS (λρ=>∃(sd cl:List Int) (k l:Int),0<=k/\0<=l/\Sd sd/\cl.length=(plc sd).length/\ρ=[some (.fz (scrD ns)),some (.ow (penD ns k l)),some (.fz (.int tn)),some (.fz (fldD sd cl)),none,none,none,none,none]) ?_ ?_
   ·intro N' hN'
    refine ⟨ns,k,l,_,rfl,hk,hl,by decide,by decide,λr k1 l1 _ r0 r1 hk1 hl1=>?_⟩
    refine ⟨.inl ⟨by omega,by omega⟩,?_⟩
    obtain⟨m,em,m0,m1⟩:=pick4 (b:=if decide (tn=0) then 1 else 0) r0 r1 (by split;exact .inr rfl;exact .inl rfl)
    refine ⟨_,em,?_⟩
    exact ⟨ns,k1,l1,m,rfl,hk1,hl1,m0,m1,λsd cl k2 l2 _ a1 a2 hk2 hl2=>hN' _ ⟨sd,cl,k2,l2,hk2,hl2,a1,a2,rfl⟩⟩
   rintro ρ ⟨sd,cl,k,l,hk,hl,hsd,hcl,rfl⟩
   have h3:=hsd.l3
   refine cutS (λρ=>∃(sz:List Int) (k l:Int),0<=k/\0<=l/\Wz sz sd/\ρ=[some (.fz (scrD ns)),some (.ow (penD ns k l)),some (.fz (.int tn)),some (.fz (fldD sd cl)),some (.fz (tupD sz)),none,none,none,none]) ?_ ?_
   ·intro N' hN'
    exact ⟨_,rfl,ns,k,l,sd,rfl,hk,hl,hsd,λsz k1 l1 _ hz hk1 hl1=>hN' _ ⟨sz,k1,l1,hk1,hl1,hz,rfl⟩⟩
   rintro ρ ⟨sz,k,l,hk,hl,hz,rfl⟩
   have hWn:((plW sd sz).map (winP sd cl sz))≠[]:=by
    intro z
    exact btw_ne (last_bx hz) (List.map_eq_nil_iff.mp z)
   have hit:=it_win (cl:=cl) hsd hz
   generalize hWs:(plW sd sz).map (winP sd cl sz)=ws at *
   refine cutS (λρ=>ρ=[some (.fz (scrD ns)),some (.ow (penD ns k l)),some (.fz (.int tn)),some (.fz (fldD sd cl)),some (.fz (tupD sz)),some (.ow (.list ws)),none,none,none]) ?_ ?_
   ·intro N' hN'
    exact ⟨sd,cl,sz,rfl,hsd,hcl,hz,λ_=>hN' _ (by rw[<- hWs];rfl)⟩
   rintro ρ rfl
   refine cutS (λρ=>ρ=[some (.fz (scrD ns)),some (.ow (penD ns k l)),some (.fz (.int tn)),some (.fz (fldD sd cl)),some (.fz (tupD sz)),some (.ow (.list ws)),none,none,none]) ?_ ?_
   ·intro N' hN'
    refine ⟨by decide,by decide,?_⟩
    refine loopC (λ_ ρ=>ρ=[some (.fz (scrD ns)),some (.ow (penD ns k l)),some (.fz (.int tn)),some (.fz (fldD sd cl)),some (.fz (tupD sz)),some (.ow (.list ws)),none,none,none]) ?_ ?_ rfl
    ·rintro d ds ρ rfl N2 hN2
     refine ⟨sd,cl,sz,rfl,hsd,hcl,hz,λ_=>?_⟩
     rw[hWs]
     refine ⟨_,rfl,hit,λ_=>⟨rfl,?_⟩⟩
     obtain⟨a,as,ea⟩:=Y6 hWn
     have hlast:ws[ws.length - 1]?=some (ws.getLast hWn):=by rw[List.getLast_eq_getElem,L0]
     refine ⟨_,hlast,?_⟩
     exact hN2 _ rfl
    ·rintro ρ rfl
     exact hN' _ rfl
   rintro ρ rfl
   refine ⟨_,rfl,ns,k,l,sd,sz,rfl,hk,hl,hsd,hz,λdd k1 l1 _ hbad hk1 hl1=>?_⟩
   refine loopC (λrest ρ=>(∀d∈rest,BadZ sd d)/\ρ=[some (.fz (scrD ns)),some (.ow (penD ns k1 l1)),some (.fz (.int tn)),some (.fz (fldD sd cl)),some (.fz (tupD sz)),some (.ow (.list ws)),none,none,none]) ?_ ?_ ⟨hbad,rfl⟩
   ·rintro t rs ρ ⟨hb,rfl⟩ N2 hN2
    refine ⟨sd,cl,t,rfl,by omega,hb t K0,λ_=>?_⟩
    exact hN2 _ ⟨λd h=>hb d (u0 _ h),rfl⟩
   ·rintro ρ ⟨_,rfl⟩
    exact hN _ ⟨hd',k1,l1,hk1,hl1,rfl⟩
  ·rintro ρ ⟨_,k,l,_,_,rfl⟩
   exact q _
  ·intro d hd
   unfold rangeD at hd
   obtain⟨i,hi,rfl⟩:=T0.mp hd
   exact ⟨_,rfl⟩
end
theorem len0{p:List Value->Prop}(h:p []):∀us:List Value,us.length=0->p us:=λus e=>by
 cases us with
 | nil=>exact h
 | cons x us=>cases e
theorem len1{p:List Value->Prop}(h:∀x0,p [x0]):∀us:List Value,us.length=1->p us:=λus e=>by
 cases us with
 | nil=>cases e
 | cons x us=>exact len0 (p:=λl=>p (x :: l)) (h x) us (E8 e)
theorem len2{p:List Value->Prop}(h:∀x0 x1,p [x0,x1]):∀us:List Value,us.length=2->p us:=λus e=>by
 cases us with
 | nil=>cases e
 | cons x us=>exact len1 (p:=λl=>p (x :: l)) (λx1=>h x x1) us (E8 e)
theorem len3{p:List Value->Prop}(h:∀x0 x1 x2,p [x0,x1,x2]):∀us:List Value,us.length=3->p us:=λus e=>by
 cases us with
 | nil=>cases e
 | cons x us=>exact len2 (p:=λl=>p (x :: l)) (λx1 x2=>h x x1 x2) us (E8 e)
theorem all_mk{l:R7}{w:World}{K:i0}{h:Heap}{mg:Str->Option Value}{fa f0 f1 f2 f3 f4 f5 f6 f7 f8 f9 f10 f11 f12 f13 f14 f15 f16 f17 f18 f19 f20 f21 f22 f23 f24 f25 f26 f27 f28 f29 f30 f31 f32 f33 f34 cl0 cl1 cl2 cl3 cl4 cl5 cl6 cl7:Addr}(X:K.In h)(G:h.Ns mainGlobals mg)(hfa:mg "law"=some (.ref fa))
  {od0 an0 od1 an1 od2 an2 od3 an3 od4 an4 od5 an5 od6 an6 od7 an7 od8 an8 od9 an9 od10 an10 od11 an11 od12 an12 od13 an13 od14 an14 od15 an15 od16 an16 od17 an17 od18 an18 od19 an19 od20 an20 od21 an21 od22 an22 od23 an23 od24 an24 od25 an25 od26 an26 od27 an27 od28 an28 od29 an29 od30 an30 od31 an31 od32 an32 od33 an33 od34 an34:Option Addr}{sl0 sl1 sl2 sl3 sl4 sl5 sl6 sl7 sl8 sl9 sl10 sl11 sl12 sl13 sl14 sl15 sl16 sl17 sl18 sl19 sl20 sl21 sl22 sl23 sl24 sl25 sl26 sl27 sl28 sl29 sl30 sl31 sl32 sl33 sl34:Array (Option Value)}{oc0 kV0 dc0 pm0 cd0 ct0 oc1 kV1 dc1 pm1 cd1 ct1 oc2 kV2 dc2 pm2 cd2 ct2 oc3 kV3 dc3 pm3 cd3 ct3 oc4 kV4 dc4 pm4 cd4 ct4 oc5 kV5 dc5 pm5 cd5 ct5 oc6 kV6 dc6 pm6 cd6 ct6 oc7 kV7 dc7 pm7 cd7 ct7 oc8 kV8 dc8 pm8 cd8 ct8 oc9 kV9 dc9 pm9 cd9 ct9 oc10 kV10 dc10 pm10 cd10 ct10 oc11 kV11 dc11 pm11 cd11 ct11 oc12 kV12 dc12 pm12 cd12 ct12 oc13 kV13 dc13 pm13 cd13 ct13 oc14 kV14 dc14 pm14 cd14 ct14 oc15 kV15 dc15 pm15 cd15 ct15 oc16 kV16 dc16 pm16 cd16 ct16 oc17 kV17 dc17 pm17 cd17 ct17 oc18 kV18 dc18 pm18 cd18 ct18 oc19 kV19 dc19 pm19 cd19 ct19 oc20 kV20 dc20 pm20 cd20 ct20 oc21 kV21 dc21 pm21 cd21 ct21 oc22 kV22 dc22 pm22 cd22 ct22 oc23 kV23 dc23 pm23 cd23 ct23 oc24 kV24 dc24 pm24 cd24 ct24 oc25 kV25 dc25 pm25 cd25 ct25 oc26 kV26 dc26 pm26 cd26 ct26 oc27 kV27 dc27 pm27 cd27 ct27 oc28 kV28 dc28 pm28 cd28 ct28 oc29 kV29 dc29 pm29 cd29 ct29 oc30 kV30 dc30 pm30 cd30 ct30 oc31 kV31 dc31 pm31 cd31 ct31 oc32 kV32 dc32 pm32 cd32 ct32 oc33 kV33 dc33 pm33 cd33 ct33 oc34 kV34 dc34 pm34 cd34 ct34:Value}
  (a0:B0 K mainGlobals "_law_pen"=some (some (.ref f0))) (l0:K.lookup f0=some ⟨oc0,od0,.func (U0 "_law_pen" "_law_pen" (defArgs (top 27)) (defBody (top 27)) (defScope (top 27)) .none kV0 dc0 pm0 an0 cd0 ct0),sl0⟩) (c0:Q0 K cd0 "_law_pen"=true) (k0:O0 K (.ref f0)=true)
  (a1:B0 K mainGlobals "_law_take"=some (some (.ref f1))) (l1:K.lookup f1=some ⟨oc1,od1,.func (U0 "_law_take" "_law_take" (defArgs (top 28)) (defBody (top 28)) (defScope (top 28)) .none kV1 dc1 pm1 an1 cd1 ct1),sl1⟩) (c1:Q0 K cd1 "_law_take"=true) (k1:O0 K (.ref f1)=true)
  (a2:B0 K mainGlobals "_law_sides"=some (some (.ref f2))) (l2:K.lookup f2=some ⟨oc2,od2,.func (U0 "_law_sides" "_law_sides" (defArgs (top 31)) (defBody (top 31)) (defScope (top 31)) .none kV2 dc2 pm2 an2 cd2 ct2),sl2⟩) (c2:Q0 K cd2 "_law_sides"=true) (k2:O0 K (.ref f2)=true)
  (a3:B0 K mainGlobals "_law_number"=some (some (.ref f3))) (l3:K.lookup f3=some ⟨oc3,od3,.func (U0 "_law_number" "_law_number" (defArgs (top 30)) (defBody (top 30)) (defScope (top 30)) .none kV3 dc3 pm3 an3 cd3 ct3),sl3⟩) (c3:Q0 K cd3 "_law_number"=true) (k3:O0 K (.ref f3)=true)
  (a4:B0 K mainGlobals "_law_places"=some (some (.ref f4))) (l4:K.lookup f4=some ⟨oc4,od4,.func (U0 "_law_places" "_law_places" (defArgs (top 32)) (defBody (top 32)) (defScope (top 32)) .none kV4 dc4 pm4 an4 cd4 ct4),sl4⟩) (c4:Q0 K cd4 "_law_places"=true) (k4:O0 K (.ref f4)=true)
  (a5:B0 K mainGlobals "_law_all"=some (some (.ref f5))) (l5:K.lookup f5=some ⟨oc5,od5,.func (U0 "_law_all" "_law_all" (defArgs (top 33)) (defBody (top 33)) (defScope (top 33)) .none kV5 dc5 pm5 an5 cd5 ct5),sl5⟩) (c5:Q0 K cd5 "_law_all"=true) (k5:O0 K (.ref f5)=true)
  (a6:B0 K mainGlobals "_law_field"=some (some (.ref f6))) (l6:K.lookup f6=some ⟨oc6,od6,.func (U0 "_law_field" "_law_field" (defArgs (top 34)) (defBody (top 34)) (defScope (top 34)) .none kV6 dc6 pm6 an6 cd6 ct6),sl6⟩) (c6:Q0 K cd6 "_law_field"=true) (k6:O0 K (.ref f6)=true)
  (a7:B0 K mainGlobals "_law_sizes"=some (some (.ref f7))) (l7:K.lookup f7=some ⟨oc7,od7,.func (U0 "_law_sizes" "_law_sizes" (defArgs (top 37)) (defBody (top 37)) (defScope (top 37)) .none kV7 dc7 pm7 an7 cd7 ct7),sl7⟩) (c7:Q0 K cd7 "_law_sizes"=true) (k7:O0 K (.ref f7)=true)
  (a8:B0 K mainGlobals "_law_no_sizes"=some (some (.ref f8))) (l8:K.lookup f8=some ⟨oc8,od8,.func (U0 "_law_no_sizes" "_law_no_sizes" (defArgs (top 38)) (defBody (top 38)) (defScope (top 38)) .none kV8 dc8 pm8 an8 cd8 ct8),sl8⟩) (c8:Q0 K cd8 "_law_no_sizes"=true) (k8:O0 K (.ref f8)=true)
  (a9:B0 K mainGlobals "_law_known"=some (some (.ref f9))) (l9:K.lookup f9=some ⟨oc9,od9,.func (U0 "_law_known" "_law_known" (defArgs (top 35)) (defBody (top 35)) (defScope (top 35)) .none kV9 dc9 pm9 an9 cd9 ct9),sl9⟩) (c9:Q0 K cd9 "_law_known"=true) (k9:O0 K (.ref f9)=true)
  (a10:B0 K mainGlobals "_law_window"=some (some (.ref f10))) (l10:K.lookup f10=some ⟨oc10,od10,.func (U0 "_law_window" "_law_window" (defArgs (top 40)) (defBody (top 40)) (defScope (top 40)) .none kV10 dc10 pm10 an10 cd10 ct10),sl10⟩) (c10:Q0 K cd10 "_law_window"=true) (k10:O0 K (.ref f10)=true)
  (a11:B0 K mainGlobals "_law_due"=some (some (.ref f11))) (l11:K.lookup f11=some ⟨oc11,od11,.func (U0 "_law_due" "_law_due" (defArgs (top 41)) (defBody (top 41)) (defScope (top 41)) .none kV11 dc11 pm11 an11 cd11 ct11),sl11⟩) (c11:Q0 K cd11 "_law_due"=true) (k11:O0 K (.ref f11)=true)
  (a12:B0 K mainGlobals "_law_same"=some (some (.ref f12))) (l12:K.lookup f12=some ⟨oc12,od12,.func (U0 "_law_same" "_law_same" (defArgs (top 29)) (defBody (top 29)) (defScope (top 29)) .none kV12 dc12 pm12 an12 cd12 ct12),sl12⟩) (c12:Q0 K cd12 "_law_same"=true) (k12:O0 K (.ref f12)=true)
  (a13:B0 K mainGlobals "_law_same"=some (some (.ref f13))) (l13:K.lookup f13=some ⟨oc13,od13,.func (U0 "_law_same" "_law_same" (defArgs (top 29)) (defBody (top 29)) (defScope (top 29)) .none kV13 dc13 pm13 an13 cd13 ct13),sl13⟩) (c13:Q0 K cd13 "_law_same"=true) (k13:O0 K (.ref f13)=true)
  (a14:B0 K mainGlobals "_law_same"=some (some (.ref f14))) (l14:K.lookup f14=some ⟨oc14,od14,.func (U0 "_law_same" "_law_same" (defArgs (top 29)) (defBody (top 29)) (defScope (top 29)) .none kV14 dc14 pm14 an14 cd14 ct14),sl14⟩) (c14:Q0 K cd14 "_law_same"=true) (k14:O0 K (.ref f14)=true)
  (a15:B0 K mainGlobals "_law_same"=some (some (.ref f15))) (l15:K.lookup f15=some ⟨oc15,od15,.func (U0 "_law_same" "_law_same" (defArgs (top 29)) (defBody (top 29)) (defScope (top 29)) .none kV15 dc15 pm15 an15 cd15 ct15),sl15⟩) (c15:Q0 K cd15 "_law_same"=true) (k15:O0 K (.ref f15)=true)
  (a16:B0 K mainGlobals "_law_same"=some (some (.ref f16))) (l16:K.lookup f16=some ⟨oc16,od16,.func (U0 "_law_same" "_law_same" (defArgs (top 29)) (defBody (top 29)) (defScope (top 29)) .none kV16 dc16 pm16 an16 cd16 ct16),sl16⟩) (c16:Q0 K cd16 "_law_same"=true) (k16:O0 K (.ref f16)=true)
  (a17:B0 K mainGlobals "is_whole"=some (some (.ref f17))) (l17:K.lookup f17=some ⟨oc17,od17,.func (U0 "is_whole" "is_whole" (defArgs (top 10)) (defBody (top 10)) (defScope (top 10)) .none kV17 dc17 pm17 an17 cd17 ct17),sl17⟩) (c17:Q0 K cd17 "is_whole"=true) (k17:O0 K (.ref f17)=true)
  (a18:B0 K mainGlobals "are_wholes"=some (some (.ref f18))) (l18:K.lookup f18=some ⟨oc18,od18,.func (U0 "are_wholes" "are_wholes" (defArgs (top 11)) (defBody (top 11)) (defScope (top 11)) .none kV18 dc18 pm18 an18 cd18 ct18),sl18⟩) (c18:Q0 K cd18 "are_wholes"=true) (k18:O0 K (.ref f18)=true)
  (a19:B0 K mainGlobals "are_sizes"=some (some (.ref f19))) (l19:K.lookup f19=some ⟨oc19,od19,.func (U0 "are_sizes" "are_sizes" (defArgs (top 23)) (defBody (top 23)) (defScope (top 23)) .none kV19 dc19 pm19 an19 cd19 ct19),sl19⟩) (c19:Q0 K cd19 "are_sizes"=true) (k19:O0 K (.ref f19)=true)
  (a20:B0 K mainGlobals "first_place"=some (some (.ref f20))) (l20:K.lookup f20=some ⟨oc20,od20,.func (U0 "first_place" "first_place" (defArgs (top 19)) (defBody (top 19)) (defScope (top 19)) .none kV20 dc20 pm20 an20 cd20 ct20),sl20⟩) (c20:Q0 K cd20 "first_place"=true) (k20:O0 K (.ref f20)=true)
  (a21:B0 K mainGlobals "one_of_each"=some (some (.ref f21))) (l21:K.lookup f21=some ⟨oc21,od21,.func (U0 "one_of_each" "one_of_each" (defArgs (top 12)) (defBody (top 12)) (defScope (top 12)) .none kV21 dc21 pm21 an21 cd21 ct21),sl21⟩) (c21:Q0 K cd21 "one_of_each"=true) (k21:O0 K (.ref f21)=true)
  (a22:B0 K mainGlobals "places_between"=some (some (.ref f22))) (l22:K.lookup f22=some ⟨oc22,od22,.func (U0 "places_between" "places_between" (defArgs (top 13)) (defBody (top 13)) (defScope (top 13)) .none kV22 dc22 pm22 an22 cd22 ct22),sl22⟩) (c22:Q0 K cd22 "places_between"=true) (k22:O0 K (.ref f22)=true)
  (a23:B0 K mainGlobals "is_place"=some (some (.ref f23))) (l23:K.lookup f23=some ⟨oc23,od23,.func (U0 "is_place" "is_place" (defArgs (top 16)) (defBody (top 16)) (defScope (top 16)) .none kV23 dc23 pm23 an23 cd23 ct23),sl23⟩) (c23:Q0 K cd23 "is_place"=true) (k23:O0 K (.ref f23)=true)
  (a24:B0 K mainGlobals "is_box"=some (some (.ref f24))) (l24:K.lookup f24=some ⟨oc24,od24,.func (U0 "is_box" "is_box" (defArgs (top 17)) (defBody (top 17)) (defScope (top 17)) .none kV24 dc24 pm24 an24 cd24 ct24),sl24⟩) (c24:Q0 K cd24 "is_box"=true) (k24:O0 K (.ref f24)=true)
  (a25:B0 K mainGlobals "ask_for_box"=some (some (.ref f25))) (l25:K.lookup f25=some ⟨oc25,od25,.func (U0 "ask_for_box" "ask_for_box" (defArgs (top 18)) (defBody (top 18)) (defScope (top 18)) .none kV25 dc25 pm25 an25 cd25 ct25),sl25⟩) (c25:Q0 K cd25 "ask_for_box"=true) (k25:O0 K (.ref f25)=true)
  (a26:B0 K mainGlobals "index_of"=some (some (.ref f26))) (l26:K.lookup f26=some ⟨oc26,od26,.func (U0 "index_of" "index_of" (defArgs (top 14)) (defBody (top 14)) (defScope (top 14)) .none kV26 dc26 pm26 an26 cd26 ct26),sl26⟩) (c26:Q0 K cd26 "index_of"=true) (k26:O0 K (.ref f26)=true)
  (a27:B0 K mainGlobals "cells_in"=some (some (.ref f27))) (l27:K.lookup f27=some ⟨oc27,od27,.func (U0 "cells_in" "cells_in" (defArgs (top 21)) (defBody (top 21)) (defScope (top 21)) .none kV27 dc27 pm27 an27 cd27 ct27),sl27⟩) (c27:Q0 K cd27 "cells_in"=true) (k27:O0 K (.ref f27)=true)
  (a28:B0 K mainGlobals "window_at"=some (some (.ref f28))) (l28:K.lookup f28=some ⟨oc28,od28,.func (U0 "window_at" "window_at" (defArgs (top 25)) (defBody (top 25)) (defScope (top 25)) .none kV28 dc28 pm28 an28 cd28 ct28),sl28⟩) (c28:Q0 K cd28 "window_at"=true) (k28:O0 K (.ref f28)=true)
  (a29:B0 K mainGlobals "windows"=some (some (.ref f29))) (l29:K.lookup f29=some ⟨oc29,od29,.func (U0 "windows" "windows" (defArgs (top 24)) (defBody (top 24)) (defScope (top 24)) .none kV29 dc29 pm29 an29 cd29 ct29),sl29⟩) (c29:Q0 K cd29 "windows"=true) (k29:O0 K (.ref f29)=true)
  (a30:B0 K mainGlobals "_law_word"=some (some (.ref f30))) (l30:K.lookup f30=some ⟨oc30,od30,.func (U0 "_law_word" "_law_word" (defArgs (top 36)) (defBody (top 36)) (defScope (top 36)) .none kV30 dc30 pm30 an30 cd30 ct30),sl30⟩) (c30:Q0 K cd30 "_law_word"=true) (k30:O0 K (.ref f30)=true)
  (a31:B0 K mainGlobals "_law_heard"=some (some (.ref f31))) (l31:K.lookup f31=some ⟨oc31,od31,.func (U0 "_law_heard" "_law_heard" (defArgs (top 39)) (defBody (top 39)) (defScope (top 39)) .none kV31 dc31 pm31 an31 cd31 ct31),sl31⟩) (c31:Q0 K cd31 "_law_heard"=true) (k31:O0 K (.ref f31)=true)
  (a32:B0 K mainGlobals "windows"=some (some (.ref f32))) (l32:K.lookup f32=some ⟨oc32,od32,.func (U0 "windows" "windows" (defArgs (top 24)) (defBody (top 24)) (defScope (top 24)) .none kV32 dc32 pm32 an32 cd32 ct32),sl32⟩) (c32:Q0 K cd32 "windows"=true) (k32:O0 K (.ref f32)=true)
  (a33:B0 K mainGlobals "_law_heard"=some (some (.ref f33))) (l33:K.lookup f33=some ⟨oc33,od33,.func (U0 "_law_heard" "_law_heard" (defArgs (top 39)) (defBody (top 39)) (defScope (top 39)) .none kV33 dc33 pm33 an33 cd33 ct33),sl33⟩) (c33:Q0 K cd33 "_law_heard"=true) (k33:O0 K (.ref f33)=true)
  (a34:B0 K mainGlobals "law"=some (some (.ref f34))) (l34:K.lookup f34=some ⟨oc34,od34,.func (U0 "law" "law" (defArgs (top 42)) (defBody (top 42)) (defScope (top 42)) .none kV34 dc34 pm34 an34 cd34 ct34),sl34⟩) (c34:Q0 K cd34 "law"=true) (k34:O0 K (.ref f34)=true)
  (x0:B0 K mainGlobals "BoxError"=some (some (.ref cl0))) (x1:B0 K mainGlobals "NoField"=some (some (.ref cl1))) (x2:B0 K mainGlobals "NoBox"=some (some (.ref cl2))) (x3:B0 K mainGlobals "NoTurn"=some (some (.ref cl3))) (x4:B0 K mainGlobals "NoNumber"=some (some (.ref cl4))) (x5:B0 K mainGlobals "NoText"=some (some (.ref cl5))) (x6:B0 K mainGlobals "NoRow"=some (some (.ref cl6))) (x7:B0 K mainGlobals "NoBack"=some (some (.ref cl7))) (z0:B0 K mainGlobals "len"=some none) (z1:B0 K mainGlobals "abs"=some none) (z2:B0 K mainGlobals "min"=some none) (z3:B0 K mainGlobals "max"=some none) (z4:B0 K mainGlobals "sum"=some none) (z5:B0 K mainGlobals "dict"=some none) (z6:B0 K mainGlobals "all"=some none) (z7:B0 K mainGlobals "isinstance"=some none) (z8:B0 K mainGlobals "tuple"=some none) (z9:B0 K mainGlobals "list"=some none) (z10:B0 K mainGlobals "int"=some none) (z11:B0 K mainGlobals "bool"=some none) (z12:B0 K mainGlobals "range"=some none) (z13:B0 K mainGlobals "zip"=some none) (z14:B0 K mainGlobals "sorted"=some none) (z15:B0 K mainGlobals "ValueError"=some none) (e0:ExcC K cl0) (e1:ExcC K cl2) (e2:qIn K cl2 "__getattribute__"=true) (e3:qIn K cl2 "__getattr__"=true) (e4:qIn K cl2 "__class__"=true) (e5:clsIn K cl1=true) (e6:clsIn K cl2=true) (e7:clsIn K cl3=true) (e8:clsIn K cl4=true) (e9:clsIn K cl5=true) (e10:clsIn K cl6=true) (e11:clsIn K cl7=true) (e12:subIn K cl2 cl0=true) (e13:subIn K cl2 cl1=false) (e14:subIn K cl2 cl2=true) (e15:subIn K cl2 cl3=false) (e16:subIn K cl2 cl4=false) (e17:subIn K cl2 cl5=false) (e18:subIn K cl2 cl6=false) (e19:subIn K cl2 cl7=false) :
  ∃fd:FuncData,(∀(s:Shared) (v:Value),BindsTo s fd ⟨[v],[]⟩ [("_law_script",v)])/\∀base:Heap,K.In base->base.Ns mainGlobals mg->FnOk l.prog w K mg base CX0 10 fa fd ["_law_script"] (conSp K cLaw):=by
 have e:=hfa.symm.trans (q0 X G a34)
 cases e
 have T:Txt mg:=⟨L1 X G z0,L1 X G z1,L1 X G z2,L1 X G z3,L1 X G z4,L1 X G z5,L1 X G z6,L1 X G z7,L1 X G z8,L1 X G z9,L1 X G z10,L1 X G z11,L1 X G z12,L1 X G z13,L1 X G z14,L1 X G z15,cA_mg (q0 X G x0),cA_mg (q0 X G x1),cA_mg (q0 X G x2),cA_mg (q0 X G x3),cA_mg (q0 X G x4),cA_mg (q0 X G x5),cA_mg (q0 X G x6),cA_mg (q0 X G x7)⟩
 have L:Cls K mg:=⟨by rw[(cA_of (q0 X G x0))];exact e0,
   by rw[(cA_of (q0 X G x2))];exact e1,
   by rw[(cA_of (q0 X G x2))];exact ⟨e1,e2,e3,e4⟩,
   by rw[(cA_of (q0 X G x1))];exact e5,
   by rw[(cA_of (q0 X G x2))];exact e6,
   by rw[(cA_of (q0 X G x3))];exact e7,
   by rw[(cA_of (q0 X G x4))];exact e8,
   by rw[(cA_of (q0 X G x5))];exact e9,
   by rw[(cA_of (q0 X G x6))];exact e10,
   by rw[(cA_of (q0 X G x7))];exact e11,
   by rw[(cA_of (q0 X G x2)),(cA_of (q0 X G x0))];exact e12,
   by rw[(cA_of (q0 X G x2)),(cA_of (q0 X G x1))];exact e13,
   by rw[(cA_of (q0 X G x2))];exact e14,
   by rw[(cA_of (q0 X G x2)),(cA_of (q0 X G x3))];exact e15,
   by rw[(cA_of (q0 X G x2)),(cA_of (q0 X G x4))];exact e16,
   by rw[(cA_of (q0 X G x2)),(cA_of (q0 X G x5))];exact e17,
   by rw[(cA_of (q0 X G x2)),(cA_of (q0 X G x6))];exact e18,
   by rw[(cA_of (q0 X G x2)),(cA_of (q0 X G x7))];exact e19⟩
 have F0:=fun_mk (st:=(top 27)) l0 c0 k0
 have b0:=F0.binds (ps:=["_law_script"]) λ_ _ _ _ _ _=>len1 (λ_=>rfl)
 have F1:=fun_mk (st:=(top 28)) l1 c1 k1
 have b1:=F1.binds (ps:=["_law_pen_here","_law_many"]) λ_ _ _ _ _ _=>len2 (λ_ _=>rfl)
 have F2:=fun_mk (st:=(top 31)) l2 c2 k2
 have b2:=F2.binds (ps:=["_law_pen_here","_law_most"]) λ_ _ _ _ _ _=>len2 (λ_ _=>rfl)
 have F3:=fun_mk (st:=(top 30)) l3 c3 k3
 have b3:=F3.binds (ps:=["_law_pen_here"]) λ_ _ _ _ _ _=>len1 (λ_=>rfl)
 have F4:=fun_mk (st:=(top 32)) l4 c4 k4
 have b4:=F4.binds (ps:=["_law_low","_law_high"]) λ_ _ _ _ _ _=>len2 (λ_ _=>rfl)
 have F5:=fun_mk (st:=(top 33)) l5 c5 k5
 have b5:=F5.binds (ps:=["_law_sides_here"]) λ_ _ _ _ _ _=>len1 (λ_=>rfl)
 have F6:=fun_mk (st:=(top 34)) l6 c6 k6
 have b6:=F6.binds (ps:=["_law_pen_here","_law_most"]) λ_ _ _ _ _ _=>len2 (λ_ _=>rfl)
 have F7:=fun_mk (st:=(top 37)) l7 c7 k7
 have b7:=F7.binds (ps:=["_law_pen_here","_law_sides_here"]) λ_ _ _ _ _ _=>len2 (λ_ _=>rfl)
 have F8:=fun_mk (st:=(top 38)) l8 c8 k8
 have b8:=F8.binds (ps:=["_law_pen_here","_law_sides_here","_law_sizes_here"]) λ_ _ _ _ _ _=>len3 (λ_ _ _=>rfl)
 have F9:=fun_mk (st:=(top 35)) l9 c9 k9
 have b9:=F9.binds (ps:=["_law_field_here"]) λ_ _ _ _ _ _=>len1 (λ_=>rfl)
 have F10:=fun_mk (st:=(top 40)) l10 c10 k10
 have b10:=F10.binds (ps:=["_law_known_here","_law_place","_law_sizes_here"]) λ_ _ _ _ _ _=>len3 (λ_ _ _=>rfl)
 have F11:=fun_mk (st:=(top 41)) l11 c11 k11
 have b11:=F11.binds (ps:=["_law_field_here","_law_sizes_here"]) λ_ _ _ _ _ _=>len2 (λ_ _=>rfl)
 have F12:=fun_mk (st:=(top 29)) l12 c12 k12
 have b12:=F12.binds (ps:=["_law_found","_law_due_here"]) λ_ _ _ _ _ _=>len2 (λ_ _=>rfl)
 have F13:=fun_mk (st:=(top 29)) l13 c13 k13
 have b13:=F13.binds (ps:=["_law_found","_law_due_here"]) λ_ _ _ _ _ _=>len2 (λ_ _=>rfl)
 have F14:=fun_mk (st:=(top 29)) l14 c14 k14
 have b14:=F14.binds (ps:=["_law_found","_law_due_here"]) λ_ _ _ _ _ _=>len2 (λ_ _=>rfl)
 have F15:=fun_mk (st:=(top 29)) l15 c15 k15
 have b15:=F15.binds (ps:=["_law_found","_law_due_here"]) λ_ _ _ _ _ _=>len2 (λ_ _=>rfl)
 have F16:=fun_mk (st:=(top 29)) l16 c16 k16
 have b16:=F16.binds (ps:=["_law_found","_law_due_here"]) λ_ _ _ _ _ _=>len2 (λ_ _=>rfl)
 have F17:=fun_mk (st:=(top 10)) l17 c17 k17
 have b17:=F17.binds (ps:=["thing"]) λ_ _ _ _ _ _=>len1 (λ_=>rfl)
 have F18:=fun_mk (st:=(top 11)) l18 c18 k18
 have b18:=F18.binds (ps:=["thing","many"]) λ_ _ _ _ _ _=>len2 (λ_ _=>rfl)
 have F19:=fun_mk (st:=(top 23)) l19 c19 k19
 have b19:=F19.binds (ps:=["sides","thing"]) λ_ _ _ _ _ _=>len2 (λ_ _=>rfl)
 have F20:=fun_mk (st:=(top 19)) l20 c20 k20
 have b20:=F20.binds (ps:=["sides"]) λ_ _ _ _ _ _=>len1 (λ_=>rfl)
 have F21:=fun_mk (st:=(top 12)) l21 c21 k21
 have b21:=F21.binds (ps:=["choices"]) λ_ _ _ _ _ _=>len1 (λ_=>rfl)
 have F22:=fun_mk (st:=(top 13)) l22 c22 k22
 have b22:=F22.binds (ps:=["low","high"]) λ_ _ _ _ _ _=>len2 (λ_ _=>rfl)
 have F23:=fun_mk (st:=(top 16)) l23 c23 k23
 have b23:=F23.binds (ps:=["sides","thing"]) λ_ _ _ _ _ _=>len2 (λ_ _=>rfl)
 have F24:=fun_mk (st:=(top 17)) l24 c24 k24
 have b24:=F24.binds (ps:=["sides","thing"]) λ_ _ _ _ _ _=>len2 (λ_ _=>rfl)
 have F25:=fun_mk (st:=(top 18)) l25 c25 k25
 have b25:=F25.binds (ps:=["sides","thing"]) λ_ _ _ _ _ _=>len2 (λ_ _=>rfl)
 have F26:=fun_mk (st:=(top 14)) l26 c26 k26
 have b26:=F26.binds (ps:=["sides","place"]) λ_ _ _ _ _ _=>len2 (λ_ _=>rfl)
 have F27:=fun_mk (st:=(top 21)) l27 c27 k27
 have b27:=F27.binds (ps:=["field","box"]) λ_ _ _ _ _ _=>len2 (λ_ _=>rfl)
 have F28:=fun_mk (st:=(top 25)) l28 c28 k28
 have b28:=F28.binds (ps:=["field","place","sizes"]) λ_ _ _ _ _ _=>len3 (λ_ _ _=>rfl)
 have F29:=fun_mk (st:=(top 24)) l29 c29 k29
 have b29:=F29.binds (ps:=["field","sizes"]) λ_ _ _ _ _ _=>len2 (λ_ _=>rfl)
 have F30:=fun_mk (st:=(top 36)) l30 c30 k30
 have b30:=F30.binds (ps:=["_law_caught"]) λ_ _ _ _ _ _=>len1 (λ_=>rfl)
 have F31:=fun_mk (st:=(top 39)) l31 c31 k31
 have b31:=F31.binds (ps:=["_law_field_here","_law_sizes_here"]) λ_ _ _ _ _ _=>len2 (λ_ _=>rfl)
 have F32:=fun_mk (st:=(top 24)) l32 c32 k32
 have b32:=F32.binds (ps:=["field","sizes"]) λ_ _ _ _ _ _=>len2 (λ_ _=>rfl)
 have F33:=fun_mk (st:=(top 39)) l33 c33 k33
 have b33:=F33.binds (ps:=["_law_field_here","_law_sizes_here"]) λ_ _ _ _ _ _=>len2 (λ_ _=>rfl)
 have F34:=fun_mk (st:=(top 42)) l34 c34 k34
 have b34:=F34.binds (ps:=["_law_script"]) λ_ _ _ _ _ _=>len1 (λ_=>rfl)
 refine ⟨U0 "law" "law" (defArgs (top 42)) (defBody (top 42)) (defScope (top 42)) .none kV34 dc34 pm34 an34 cd34 ct34,λs v=>.of_eq rfl,λbase _ _=>?_⟩
 have C0:Cal l.prog w K mg base 1 "_law_pen" ["_law_script"] (conSp K cPen):=⟨⟨_,_,ok_pen F0,q0 X G a0,k0,b0⟩⟩
 have C1:Cal l.prog w K mg base 1 "_law_take" ["_law_pen_here","_law_many"] (conSp K cTake):=⟨⟨_,_,ok_take F1 T,q0 X G a1,k1,b1⟩⟩
 have C2:Cal l.prog w K mg base 2 "_law_sides" ["_law_pen_here","_law_most"] (conSp K cSides):=⟨⟨_,_,ok_sides F2 T ⟨C1⟩,q0 X G a2,k2,b2⟩⟩
 have C3:Cal l.prog w K mg base 2 "_law_number" ["_law_pen_here"] (conSp K cNumber):=⟨⟨_,_,ok_number F3 T ⟨C1⟩,q0 X G a3,k3,b3⟩⟩
 have C4:Cal l.prog w K mg base 1 "_law_places" ["_law_low","_law_high"] (conSp K cLPl):=⟨⟨_,_,ok_lpl F4 T,q0 X G a4,k4,b4⟩⟩
 have C5:Cal l.prog w K mg base 2 "_law_all" ["_law_sides_here"] (conSp K cAllL):=⟨⟨_,_,ok_all_ F5 T ⟨C4⟩,q0 X G a5,k5,b5⟩⟩
 have C6:Cal l.prog w K mg base 3 "_law_field" ["_law_pen_here","_law_most"] (conSp K cField):=⟨⟨_,_,ok_field F6 T ⟨C2,C3,C5⟩,q0 X G a6,k6,b6⟩⟩
 have C7:Cal l.prog w K mg base 2 "_law_sizes" ["_law_pen_here","_law_sides_here"] (conSp K cSizes):=⟨⟨_,_,ok_sizes F7 T ⟨C1⟩,q0 X G a7,k7,b7⟩⟩
 have C8:Cal l.prog w K mg base 2 "_law_no_sizes" ["_law_pen_here","_law_sides_here","_law_sizes_here"] (conSp K cNoSz):=⟨⟨_,_,ok_noSz F8 T ⟨C1⟩,q0 X G a8,k8,b8⟩⟩
 have C9:Cal l.prog w K mg base 3 "_law_known" ["_law_field_here"] (conSp K cKnown):=⟨⟨_,_,ok_known F9 T ⟨C5⟩,q0 X G a9,k9,b9⟩⟩
 have C10:Cal l.prog w K mg base 2 "_law_window" ["_law_known_here","_law_place","_law_sizes_here"] (conSp K cWinL):=⟨⟨_,_,ok_winL F10 T ⟨C4⟩,q0 X G a10,k10,b10⟩⟩
 have C11:Cal l.prog w K mg base 4 "_law_due" ["_law_field_here","_law_sizes_here"] (conSp K cWins):=⟨⟨_,_,ok_due F11 T ⟨C9,C4,C10⟩,q0 X G a11,k11,b11⟩⟩
 have C12:Cal l.prog w K mg base 1 "_law_same" ["_law_found","_law_due_here"] (conSp K cSame0):=⟨⟨_,_,ok_same0 F12,q0 X G a12,k12,b12⟩⟩
 have C13:Cal l.prog w K mg base 2 "_law_same" ["_law_found","_law_due_here"] (conSp K cSame1):=⟨⟨_,_,ok_same1 F13 T ⟨C12⟩,q0 X G a13,k13,b13⟩⟩
 have C14:Cal l.prog w K mg base 3 "_law_same" ["_law_found","_law_due_here"] (conSp K cSame2):=⟨⟨_,_,ok_same2 F14 T ⟨C13⟩,q0 X G a14,k14,b14⟩⟩
 have C15:Cal l.prog w K mg base 4 "_law_same" ["_law_found","_law_due_here"] (conSp K cSame3):=⟨⟨_,_,ok_same3 F15 T ⟨C14⟩,q0 X G a15,k15,b15⟩⟩
 have C16:Cal l.prog w K mg base 5 "_law_same" ["_law_found","_law_due_here"] (conSp K cSame4):=⟨⟨_,_,ok_same4 F16 T ⟨C15⟩,q0 X G a16,k16,b16⟩⟩
 have C17:Cal l.prog w K mg base 1 "is_whole" ["thing"] (conSp K cWhole):=⟨⟨_,_,ok_whole F17 T,q0 X G a17,k17,b17⟩⟩
 have C18:Cal l.prog w K mg base 2 "are_wholes" ["thing","many"] (conSp K cAreW):=⟨⟨_,_,ok_areW F18 T ⟨C17⟩,q0 X G a18,k18,b18⟩⟩
 have C19:Cal l.prog w K mg base 3 "are_sizes" ["sides","thing"] (conSp K cAreSz):=⟨⟨_,_,ok_areSz F19 T ⟨C18⟩,q0 X G a19,k19,b19⟩⟩
 have C20:Cal l.prog w K mg base 1 "first_place" ["sides"] (conSp K cFirst):=⟨⟨_,_,ok_first F20 T,q0 X G a20,k20,b20⟩⟩
 have C21:Cal l.prog w K mg base 1 "one_of_each" ["choices"] (conSp K cEach):=⟨⟨_,_,ok_each F21,q0 X G a21,k21,b21⟩⟩
 have C22:Cal l.prog w K mg base 2 "places_between" ["low","high"] (conSp K cBtw):=⟨⟨_,_,ok_btw F22 T ⟨C21⟩,q0 X G a22,k22,b22⟩⟩
 have C23:Cal l.prog w K mg base 3 "is_place" ["sides","thing"] (conSp K cIsPlace):=⟨⟨_,_,ok_isPlace F23 T ⟨C18⟩,q0 X G a23,k23,b23⟩⟩
 have C24:Cal l.prog w K mg base 4 "is_box" ["sides","thing"] (conSp K cIsBox):=⟨⟨_,_,ok_isBox F24 T ⟨C23⟩,q0 X G a24,k24,b24⟩⟩
 have C25:Cal l.prog w K mg base 5 "ask_for_box" ["sides","thing"] (conSp K cAsk):=⟨⟨_,_,ok_ask F25 ⟨C24⟩,q0 X G a25,k25,b25⟩⟩
 have C26:Cal l.prog w K mg base 1 "index_of" ["sides","place"] (conSp K cIndex):=⟨⟨_,_,ok_index F26 T,q0 X G a26,k26,b26⟩⟩
 have C27:Cal l.prog w K mg base 6 "cells_in" ["field","box"] (conSp K cCells):=⟨⟨_,_,ok_cells F27 T ⟨C25,C22,C26⟩,q0 X G a27,k27,b27⟩⟩
 have C28:Cal l.prog w K mg base 7 "window_at" ["field","place","sizes"] (conSp K cWinAt):=⟨⟨_,_,ok_winAt F28 T ⟨C22,C27⟩,q0 X G a28,k28,b28⟩⟩
 have C29:Cal l.prog w K mg base 8 "windows" ["field","sizes"] (conSp K cWins):=⟨⟨_,_,ok_wins F29 T ⟨C19,C20,C22,C28⟩,q0 X G a29,k29,b29⟩⟩
 have C30:Cal l.prog w K mg base 1 "_law_word" ["_law_caught"] (conSp K (cWord mg)):=⟨⟨_,_,ok_word F30 T L,q0 X G a30,k30,b30⟩⟩
 have C31:Cal l.prog w K mg base 9 "_law_heard" ["_law_field_here","_law_sizes_here"] (conSp K cWins):=⟨⟨_,_,ok_heard F31 T ⟨C29,C30⟩,q0 X G a31,k31,b31⟩⟩
 have C32:CalX l.prog w K mg base 8 "windows" ["field","sizes"] (conSpX K (cWinsX mg)):=⟨⟨_,_,ok_winsX F32 T L ⟨C19,C20,C22,C28⟩,q0 X G a32,k32,b32⟩⟩
 have C33:Cal l.prog w K mg base 9 "_law_heard" ["_law_field_here","_law_sizes_here"] (conSp K cHeardR):=⟨⟨_,_,ok_heardR F33 T L ⟨C32,C30⟩,q0 X G a33,k33,b33⟩⟩
 exact ok_law F34 T ⟨C0,C1,C6,C7,C8,C11,C16,C31,C33⟩
theorem walk{l:R7}{q:Program}{loose:List Str}{XP:(Str->Option Value)->Heap->Prop}{YP:World->Heap->Prop}{d:DefRec}{K:Params->i0}(hn:l.most=some 63)(hdf:d.params.defaults=[])
  (hY:∀(w:World) (h:Heap),YP w h->(K w.params).In h)
  (F:∀(w:World) (mg:Str->Option Value) (fa:Addr) (h:Heap),(K w.params).In h->h.Ns mainGlobals mg->mg d.name=some (.ref fa) ->
    ∃fd:FuncData,(∀(s:Shared) (u:Value),BindsTo s fd ⟨[u],[]⟩ [("_law_script",u)])/\∀base:Heap,(K w.params).In base->base.Ns mainGlobals mg->FnOk l.prog w (K w.params) mg base CX0 10 fa fd ["_law_script"] (conSp (K w.params) cLaw)) :
  PySem.W.WalkO q loose XP YP l.row.toRowW d [] (λf vs=>PySem.call f vs) :=
 L2.walk_of (n:=63) (k:=10) (x:="_law_script") (CX:=λ_=>CX0) (sp:=λw=>conSp (K w.params) cLaw) hn (by decide) hdf ⟨rfl,by decide,by decide,rfl⟩ hY F (λ_ _ a ns hl _ hS=>cLaw_sp hl hS) λ_ _ _ _ _ z=>z
end R50
open PySem PySem.W PyProof.Rows
namespace PySem.W.Fast
noncomputable def tw14302190507292814714:Unit:=()
noncomputable def tw6003231613339075586:Unit:=()
noncomputable def tw8900234864906759847:Unit:=()
noncomputable def tw18225624449096898960:Unit:=()
noncomputable def tw917649233604230887:Unit:=()
noncomputable def tw2453644137270933897:Unit:=()
noncomputable def tw99012894296007361:Unit:=()
noncomputable def tw4031109986137496532:Unit:=()
noncomputable def tw16229388067932296756:Unit:=()
noncomputable def tw8811598114871505075:Unit:=()
noncomputable def tw15039243502912814998:Unit:=()
noncomputable def tw15476260690854483246:Unit:=()
noncomputable def tw16607852286765833934:Unit:=()
noncomputable def tw9055501768132244798:Unit:=()
noncomputable def tw5131530912426010553:Unit:=()
noncomputable def tw4632546583256916221:Unit:=()
noncomputable def tw15179344422308785841:Unit:=()
noncomputable def tw17924250446933798508:Unit:=()
noncomputable def tw9891231874366848702:Unit:=()
noncomputable def tw8441595661284920970:Unit:=()
noncomputable def tw12902311819100929173:Unit:=()
noncomputable def tw18153239255517364286:Unit:=()
noncomputable def tw4972980629162191170:Unit:=()
noncomputable def tw17486204299854177878:Unit:=()
noncomputable def tw10925361292385892994:Unit:=()
noncomputable def tw101797519663828632:Unit:=()
noncomputable def tw15074084285003649047:Unit:=()
noncomputable def tw3606460887173553303:Unit:=()
noncomputable def tw6705711928887255539:Unit:=()
noncomputable def tw15875563625392553157:Unit:=()
noncomputable def tw2385314209014915126:Unit:=()
noncomputable def tw17159384784131694414:Unit:=()
noncomputable def tw10341254707672952500:Unit:=()
noncomputable def tw5967579466811828142:Unit:=()
noncomputable def tw9448998787629988887:Unit:=()
noncomputable def tw8710878538449100742:Unit:=()
noncomputable def tw16654715587018887488:Unit:=()
noncomputable def tw9586267921227773228:Unit:=()
noncomputable def tw17470743807558951713:Unit:=()
noncomputable def tw7665177057901973299:Unit:=()
noncomputable def tw747993629214472817:Unit:=()
noncomputable def tw6943336138576917329:Unit:=()
noncomputable def tw4552566666711176257:Unit:=()
noncomputable def tw4183494124760965657:Unit:=()
noncomputable def tw1553810031049510571:Unit:=()
noncomputable def tw17903700601335970529:Unit:=()
noncomputable def tw17955323179204535109:Unit:=()
noncomputable def tw16847874313631688689:Unit:=()
noncomputable def tw7361238706040539531:Unit:=()
noncomputable def tw17865353188475991310:Unit:=()
noncomputable def tw9325627175315438570:Unit:=()
noncomputable def tw8787767498283179325:Unit:=()
noncomputable def tw16029044792597924979:Unit:=()
noncomputable def tw18275536264627512382:Unit:=()
noncomputable def tw14714457312070217317:Unit:=()
noncomputable def tw4166142800464014495:Unit:=()
noncomputable def tw12523179857044496073:Unit:=()
noncomputable def tw11775667322866364465:Unit:=()
noncomputable def tw3485969148931268888:Unit:=()
noncomputable def tw12141505823788876149:Unit:=()
noncomputable def tw16795175201206200491:Unit:=()
noncomputable def tw10582360428505285420:Unit:=()
noncomputable def tw7113970692821836797:Unit:=()
noncomputable def tw18335662473947425391:Unit:=()
noncomputable def tw7623987758429217937:Unit:=()
noncomputable def tw11859474406829228081:Unit:=()
noncomputable def tw18293753564435378393:Unit:=()
noncomputable def tw4187700905337270193:Unit:=()
noncomputable def tw12011524500223040012:Unit:=()
noncomputable def tw9049961744098715032:Unit:=()
noncomputable def tw6435381145462145670:Unit:=()
noncomputable def tw13277555969811938845:Unit:=()
noncomputable def tw7892734199466206199:Unit:=()
noncomputable def tw16999567478455721036:Unit:=()
noncomputable def tw12244487360206840747:Unit:=()
noncomputable def tw10782220851759202264:Unit:=()
noncomputable def tw2326047800676579223:Unit:=()
noncomputable def tw12139853073737305168:Unit:=()
noncomputable def tw1940192892084272553:Unit:=()
noncomputable def tw7505750999457892940:Unit:=()
noncomputable def tw693696285443232251:Unit:=()
noncomputable def tw11407157220028869366:Unit:=()
noncomputable def tw14541875931510274028:Unit:=()
end PySem.W.Fast
set_option maxRecDepth 100000 in
set_option maxHeartbeats 0 in
theorem PySem.Challenge.cw_boxsums_k50_windows_told_holds : PySem.Challenge.rw_boxsums_k50_windows_told.Holds := by
 w_on;o_law;k_head;(case hw=>w_witness2)
 k_fill
 refine R50.walk (l:=PySem.Challenge.rw_boxsums_k50_windows_told) rfl rfl (λw h Y=>PySem.W.kIn_of Y) ?F
 case F =>
  intro w mg fa h KX G hmg
  refine' R50.all_mk KX G hmg ?a0 ?l0 ?c0 ?k0 ?a1 ?l1 ?c1 ?k1 ?a2 ?l2 ?c2 ?k2 ?a3 ?l3 ?c3 ?k3 ?a4 ?l4 ?c4 ?k4 ?a5 ?l5 ?c5 ?k5 ?a6 ?l6 ?c6 ?k6 ?a7 ?l7 ?c7 ?k7 ?a8 ?l8 ?c8 ?k8 ?a9 ?l9 ?c9 ?k9 ?a10 ?l10 ?c10 ?k10 ?a11 ?l11 ?c11 ?k11 ?a12 ?l12 ?c12 ?k12 ?a13 ?l13 ?c13 ?k13 ?a14 ?l14 ?c14 ?k14 ?a15 ?l15 ?c15 ?k15 ?a16 ?l16 ?c16 ?k16 ?a17 ?l17 ?c17 ?k17 ?a18 ?l18 ?c18 ?k18 ?a19 ?l19 ?c19 ?k19 ?a20 ?l20 ?c20 ?k20 ?a21 ?l21 ?c21 ?k21 ?a22 ?l22 ?c22 ?k22 ?a23 ?l23 ?c23 ?k23 ?a24 ?l24 ?c24 ?k24 ?a25 ?l25 ?c25 ?k25 ?a26 ?l26 ?c26 ?k26 ?a27 ?l27 ?c27 ?k27 ?a28 ?l28 ?c28 ?k28 ?a29 ?l29 ?c29 ?k29 ?a30 ?l30 ?c30 ?k30 ?a31 ?l31 ?c31 ?k31 ?a32 ?l32 ?c32 ?k32 ?a33 ?l33 ?c33 ?k33 ?a34 ?l34 ?c34 ?k34 ?x0 ?x1 ?x2 ?x3 ?x4 ?x5 ?x6 ?x7 ?z0 ?z1 ?z2 ?z3 ?z4 ?z5 ?z6 ?z7 ?z8 ?z9 ?z10 ?z11 ?z12 ?z13 ?z14 ?z15 ?e0 ?e1 ?e2 ?e3 ?e4 ?e5 ?e6 ?e7 ?e8 ?e9 ?e10 ?e11 ?e12 ?e13 ?e14 ?e15 ?e16 ?e17 ?e18 ?e19
  (case a0=>k_is);(case l0=>k_is);(case c0=>k_is);(case k0=>k_is);(case a1=>k_is);(case l1=>k_is)
  (case c1=>k_is);(case k1=>k_is);(case a2=>k_is);(case l2=>k_is);(case c2=>k_is);(case k2=>k_is)
  (case a3=>k_is);(case l3=>k_is);(case c3=>k_is);(case k3=>k_is);(case a4=>k_is);(case l4=>k_is)
  (case c4=>k_is);(case k4=>k_is);(case a5=>k_is);(case l5=>k_is);(case c5=>k_is);(case k5=>k_is)
  (case a6=>k_is);(case l6=>k_is);(case c6=>k_is);(case k6=>k_is);(case a7=>k_is);(case l7=>k_is)
  (case c7=>k_is);(case k7=>k_is);(case a8=>k_is);(case l8=>k_is);(case c8=>k_is);(case k8=>k_is)
  (case a9=>k_is);(case l9=>k_is);(case c9=>k_is);(case k9=>k_is);(case a10=>k_is);(case l10=>k_is)
  (case c10=>k_is);(case k10=>k_is);(case a11=>k_is);(case l11=>k_is);(case c11=>k_is);(case k11=>k_is)
  (case a12=>k_is);(case l12=>k_is);(case c12=>k_is);(case k12=>k_is);(case a13=>k_is);(case l13=>k_is)
  (case c13=>k_is);(case k13=>k_is);(case a14=>k_is);(case l14=>k_is);(case c14=>k_is);(case k14=>k_is)
  (case a15=>k_is);(case l15=>k_is);(case c15=>k_is);(case k15=>k_is);(case a16=>k_is);(case l16=>k_is)
  (case c16=>k_is);(case k16=>k_is);(case a17=>k_is);(case l17=>k_is);(case c17=>k_is);(case k17=>k_is)
  (case a18=>k_is);(case l18=>k_is);(case c18=>k_is);(case k18=>k_is);(case a19=>k_is);(case l19=>k_is)
  (case c19=>k_is);(case k19=>k_is);(case a20=>k_is);(case l20=>k_is);(case c20=>k_is);(case k20=>k_is)
  (case a21=>k_is);(case l21=>k_is);(case c21=>k_is);(case k21=>k_is);(case a22=>k_is);(case l22=>k_is)
  (case c22=>k_is);(case k22=>k_is);(case a23=>k_is);(case l23=>k_is);(case c23=>k_is);(case k23=>k_is)
  (case a24=>k_is);(case l24=>k_is);(case c24=>k_is);(case k24=>k_is);(case a25=>k_is);(case l25=>k_is)
  (case c25=>k_is);(case k25=>k_is);(case a26=>k_is);(case l26=>k_is);(case c26=>k_is);(case k26=>k_is)
  (case a27=>k_is);(case l27=>k_is);(case c27=>k_is);(case k27=>k_is);(case a28=>k_is);(case l28=>k_is)
  (case c28=>k_is);(case k28=>k_is);(case a29=>k_is);(case l29=>k_is);(case c29=>k_is);(case k29=>k_is)
  (case a30=>k_is);(case l30=>k_is);(case c30=>k_is);(case k30=>k_is);(case a31=>k_is);(case l31=>k_is)
  (case c31=>k_is);(case k31=>k_is);(case a32=>k_is);(case l32=>k_is);(case c32=>k_is);(case k32=>k_is)
  (case a33=>k_is);(case l33=>k_is);(case c33=>k_is);(case k33=>k_is);(case a34=>k_is);(case l34=>k_is)
  (case c34=>k_is);(case k34=>k_is);(case x0=>k_is);(case x1=>k_is);(case x2=>k_is);(case x3=>k_is)
  (case x4=>k_is);(case x5=>k_is);(case x6=>k_is);(case x7=>k_is);(case z0=>k_is);(case z1=>k_is)
  (case z2=>k_is);(case z3=>k_is);(case z4=>k_is);(case z5=>k_is);(case z6=>k_is);(case z7=>k_is)
  (case z8=>k_is);(case z9=>k_is);(case z10=>k_is);(case z11=>k_is);(case z12=>k_is);(case z13=>k_is)
  (case z14=>k_is);(case z15=>k_is);(case e0=>kernel_rfl);(case e1=>kernel_rfl);(case e2=>kernel_rfl);(case e3=>kernel_rfl)
  (case e4=>kernel_rfl);(case e5=>kernel_rfl);(case e6=>kernel_rfl);(case e7=>kernel_rfl);(case e8=>kernel_rfl);(case e9=>kernel_rfl)
  (case e10=>kernel_rfl);(case e11=>kernel_rfl);(case e12=>kernel_rfl);(case e13=>kernel_rfl);(case e14=>kernel_rfl);(case e15=>kernel_rfl)
  (case e16=>kernel_rfl);(case e17=>kernel_rfl);(case e18=>kernel_rfl);(case e19=>kernel_rfl)
