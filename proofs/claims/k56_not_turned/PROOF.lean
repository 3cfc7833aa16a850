import PyProof.Rows.All
import Wide.All
import OpenK.AllK
import Wide.FinOn
import Lean
import PyProof.EqAt
import PyProof.EqKinds
import PyProof.TupleCall
import KE.KNest
import KE.KLam
import PyProof.Rows.SortRuns
import KE.KNestM
import PySem.Challenge.RW_boxsums_k56_not_turned
import KE.IntBitsLaws
set_option Elab.async false
set_option linter.all false
set_option maxRecDepth 100000
set_option maxHeartbeats 4000000
open PySem.PyData renaming int → p0,tuple → G1,list → M5,none → X5,canLayAll0 → X7,depthAll → O8,canLay0 → Y8,depth → O9
open PySem.Heap renaming get?_push_of_some → u0,get?_push_size → T0,lt_size → U0,size_push → O2,get?_update_self → V2,SameBut → u3,get?_push_ne → U6,get?_update_other → W6,size_update → i7,get?_update_ne → y9
open List renaming replicate → A0,length_map → B0,mem_cons_of_mem → K0,mem_cons_self → L0,length_append → M0,mem_cons → P0,getElem?_eq_getElem → R0,mem_map → S0,size_toArray → X0,mem_singleton → Y0,getElem?_set_ne → Z0,map_map → v1,mem_append_right → A1,getElem?_map → E1,map_cons → K1,append_nil → L1,map_append → N1,not_mem_nil → O1,getElem?_eq_some_iff → Q1,mem_append → S1,mem_of_getElem? → U1,length_replicate → V1,length_cons → Y1,range → Z1,length_take → j2,replicate_succ → G2,all_eq_true → K2,lookup_cons → P2,getElem?_append_right → Q2,length_drop → U2,map_replicate → Y2,drop_of_length_le → A3,getElem?_eq_none_iff → B3,getElem?_append_left → E3,length_singleton → M3,eq_of_mem_replicate → P3,nodup_cons → S3,find?_cons → T3,any_eq_true → X3,pairwise_map → Y3,take_of_length_le → Z3,map_congr_left → i4,cons_append → o4,getElem_mem → u4,any_cons → v4,length → A4,mem_range → E4,flatten_cons → K4,append_assoc → L4,flatMap_cons → M4,getElem?_cons_succ → N4,length_eq_zero_iff → O4,length_zip → S4,pairwise_cons → i5,pairwise_iff_getElem → o5,of_mem_zip → u5,length_set → v5,mem_filterMap → N5,contains_cons → O5,reverse_cons → U5,getElem?_set → V5,map → W5,mem_append_left → Z5,getD_eq_getElem?_getD → i6,nodup_iff_pairwise_ne → m6,filterMap_cons → t6,nil_append → E6,length_nil → G6,forIn_cons → J6,forIn_nil → P6,nodup_append → T6,getElem?_set_self → V6,foldl → Y6,countP_cons → Z6,mem_flatMap → m7,map_id → v7,mem_iff_getElem → A7,mem_filter → B7,length_reverse → E7,mem_map_of_mem → F7,map_nil → G7,length_eraseIdx_of_lt → Q7,lookup → S7,length_range → W7,map_take → i8,map_drop → j8,ext_getElem → t8,getElem?_replicate → v8,pairwise_singleton → y8,pairwise_lt_range → L8,foldl_cons → N8,take_append_drop → U8,pairwise_append → i9,getElem_of_mem → t9,all_cons → E9,getElem_range → L9,any_nil → Q9
open PySem.W renaming Frag → G0,mg_of → N0,nsIn → B1,mg_none_of → X1,keepIn → O3,codeHdIn → W3,hideAll_get → T4,fnOf → V4,callWith_K → Y4,hideAll_none → E5,kla_obj → Q5,nsMap_none_of_in → A6,hideAll → B6,of_hideAll → L6,findIn → O6,tabObj → Q6,funFrames_hide → X6,codeIn → K7,isNs_of_in → L7,methodObj → V7,cellsFrom_some → J8,OpenLaw → Q8,kla_fn → Z8,kla_callFunE → b9,kla_codeExpr → h9,codeHd_of_K → u9,tabIn → F9,specialIn → R9,instObj → T9
open Nat renaming le_refl → O0,lt_of_lt_of_le → Q0,ne_of_lt → V0,le_trans → T1,lt_irrefl → T2,zero_le → W2,lt_of_le_of_lt → X2,ne_of_gt → v3,lt_succ_of_lt → K3,lt_succ_self → V3,le_succ → B4,add_le_add_right → G4,le_of_lt → U4,le_of_succ_le → A5,le_succ_of_le → Z7,le_of_not_lt → o8,le_add_right → r8,le_mul_of_pos_right → A8,lt_trans → B8,zero_add → E8,min_eq_left → P8,not_lt_zero → R8,add_le_add_left → o9,mul_assoc → G9,succ_mul → M9,mul_comm → N9
open Bool renaming false_ne_true → W0,and_eq_true → A2,and_eq_true_iff → Z2,false_eq_true → j5,eq_false_iff → B5,eq_iff_iff → P5,beq_eq_decide_eq → S5,or_false → b8,false_and → W8,and_false → X8,true_and → J9
open Option.some renaming inj → W1
open PySem.Builtin.SmallTypes renaming nextOf → B2,ownedTupleIsFree → Q3,ownedTupleHandOut → u6
open PySem.Value renaming ref → E2,none → U3,type → P4,int → M6,builtin → o7,isInt_shape → U7
open PySem.Obj renaming mapSeq → J2,data_mapFields → Z4,isFreed_of_fields → m5,mapFields → t7
open Ne renaming symm → S2
open Array renaming length_toList → G3,getElem?_eq_getElem → m4,getElem?_toList → T5,perm_iff_toList_perm → j6,getD → K6,toList_map → j7,toList_push → Y7,getElem?_eq_none → M8,getElem_toList → j9,toList_append → v9,size_append → S9
open PySem.Heap.SameBut renaming update → J3
open PyProof.Rows renaming slot_tuple_getitem → j4,callWith_type1 → W4
open Option renaming getD_some → n4,map_some → Q4,map_eq_some_iff → K8,isSome_some → K9
open Int renaming mul_le_mul_of_nonneg_left → J4,eq_ofNat_of_zero_le → K5,mul_le_mul_of_nonneg_right → L5,mul_le_mul → Y5,mul_assoc → w6,zero_add → N6,toNat_natCast → S6,mul_one → u7,one_mul → y7,emod_lt_of_pos → M7,le_refl → T7,le_trans → F8,emod_nonneg → S8,ediv_nonneg → T8,le_ediv_of_mul_le → V8,mul_ediv_self_le → m9,toNat_of_nonneg → A9
open PySem.Builtin.List renaming listExtendWith → X4,listTooLong → J5,listLengthHint → J7,listFitsIndex → P7,listSameRef → n8
open PySem.Builtin.Slice renaming slicePlaces → n5,sliceAdjust → n6,sliceApplied → N7
open PySem.Builtin.Tuple renaming tupleExact → G5,tupleItemsOf → O7,tupleHashOf → R7
open PySem.Builtin.Frozenset renaming sizeOf → m8
open PySem.Builtin.Range renaming rangeSize → u8
open PySem.Builtin.Dict renaming updateFrom → w8
open Nat.succ renaming inj → G8
open PySem.Builtin.Int renaming intBits → B9
open PySem.Heap.DictOf renaming new → U9
open Int.ofNat renaming inj → V9
abbrev Qa:=List Int
open PySem PySem.Spec PyProof.Rows
variable {its us:List Value}{h h':Heap}{α β κ:Type}{o ot:Obj}{lo n slot t':Nat}{ch fp ts:List Addr}{B I T i1 i2 it l1 l2 sl z:Addr}{N loose:List Str}{A:Around}{E Q:Value->Shared->Prop}{a1 a2 u:Value}{s s':Shared}{pins:List (Addr×Obj)}{body elt iter tg:Expr}{name qual y:Str}{p:List Value->Prop}{g:Int->Int->Int}{fd:FuncData}{sc scope:Scope}{prog:Program}{env:Env}{XP:(Str->Option Value)->Heap->Prop}{YP:World->Heap->Prop}{fr ys:List Nat}{ifs:List Expr}{l:List (Int×Value)}{xs1 xs2:Array Value}{os sd:Qa}{cl:List (Str×Addr)}{led:Bool}
namespace L2
noncomputable abbrev EQ:=Sum Int Str
noncomputable def iU:EQ->Value->Bool
 | .inl k,v=>Value.isInt k v
 | .inr x,v=>Value.isStrOf x v
noncomputable def WP(w:World):EQ->Int
 | .inl k=>hashInt k
 | .inr x=>hashStr w x
theorem jX:∀{k:EQ}{v:Value},iU k v=true->(∃i t,k=Sum.inl i/\v=M6 i t)\/(∃x t,k=Sum.inr x/\v=Value.str x t)
 | .inl i,v,h=>by obtain⟨t,e⟩:=U7 (k:=i) (v:=v) h;exact .inl ⟨i,t,rfl,e⟩
 | .inr x,v,h=>by obtain⟨t,e⟩:=Value.isStrOf_shape (x:=x) (v:=v) h;exact .inr ⟨x,t,rfl,e⟩
theorem nz(i:Int)(t:Tok):iU (.inl i) (.int i t)=true:=by simp[iU,Value.isInt]
theorem oz(x:Str)(t:Tok):iU (.inr x) (.str x t)=true:=by simp[iU,Value.isStrOf]
theorem HE(a b:Int):decide ((Sum.inl a:EQ)=Sum.inl b)=(a==b):=by
 by_cases e:a=b
 .subst e;simp
 .have h:¬(Sum.inl a:EQ)=Sum.inl b:=λq=>e<|Sum.inl.inj q;rw[decide_eq_false h];exact(beq_eq_false_iff_ne.mpr e).symm
theorem IE(a b:Str):decide ((Sum.inr a:EQ)=Sum.inr b)=decide (a=b):=by
 by_cases e:a=b
 .subst e;simp
 .have h:¬(Sum.inr a:EQ)=Sum.inr b:=λq=>e<|Sum.inr.inj q;rw[decide_eq_false h,decide_eq_false e]
theorem JE(a:Int)(b:Str):decide ((Sum.inl a:EQ)=Sum.inr b)=false:=decide_eq_false<|λq=>nomatch q
theorem LE(a:Str)(b:Int):decide ((Sum.inr a:EQ)=Sum.inl b)=false:=decide_eq_false<|λq=>nomatch q
noncomputable def bX(prog:Program)(w:World):PySem.KeyKind prog w EQ where
 is:=iU
 hash:=WP w
 inj:=λv a b ha hb=>by
  rcases jX ha with⟨i,t,rfl,rfl⟩|⟨x,t,rfl,rfl⟩
  .rcases jX hb with⟨j,u,rfl,e⟩|⟨y,u,rfl,e⟩
   .injection e with e1 _;rw[e1]
   .exact nomatch e
  .rcases jX hb with⟨j,u,rfl,e⟩|⟨y,u,rfl,e⟩
   .exact nomatch e
   .injection e with e1 _;rw[e1]
 byValue:=λk v h=>by rcases jX h with⟨i,t,rfl,rfl⟩|⟨x,t,rfl,rfl⟩<;>rfl
 pyHash:=λhv h=>by
  rcases jX hv with⟨i,t,rfl,rfl⟩|⟨x,t,rfl,rfl⟩
  .exact wpAny_pyHash_int h
  .exact wpAny_pyHash_str h
 eqBool:=λhu hv h=>by
  rcases jX hu with⟨i,t,rfl,rfl⟩|⟨x,t,rfl,rfl⟩
  .rcases jX hv with⟨j,u,rfl,rfl⟩|⟨y,u,rfl,rfl⟩
   .rw[HE]at h;exact wpAny_eqBool_int h
   .rw[JE]at h;exact SeqAt.EqAt.int_str i t y u _ _ _ _ h
  .rcases jX hv with⟨j,u,rfl,rfl⟩|⟨y,u,rfl,rfl⟩
   .rw[LE]at h;exact SeqAt.EqAt.str_int x t j u _ _ _ _ h
   .rw[IE]at h;exact wpAny_eqBool_str h
 «strs»:=λk x t v h=>by
  rcases jX h with⟨i,u,rfl,e⟩|⟨y,u,rfl,e⟩
  .exact nomatch e
  .injection e with e1 _
   subst e1
   cases v<;>rfl
theorem zH(prog:Program)(w:World)(i:Int)(t:Tok):(bX prog w).is (.inl i) (.int i t)=true:=nz i t
theorem AH(prog:Program)(w:World)(x:Str)(t:Tok):(bX prog w).is (.inr x) (.str x t)=true:=oz x t
inductive V where
 |non|bl (b:Bool)|int (i:Int)|str (x:Str)|byt (b:Array UInt8)|flt (b:UInt64)|ref (a:Addr)|ty (n:String)
 deriving DecidableEq
noncomputable def RelV:V->Value->Prop
 | .non,u=>u=U3
 | .bl b,u=>u=Value.bool b
 | .int i,u=>∃t,u=M6 i t
 | .str x,u=>∃t,u=Value.str x t
 | .byt b,u=>∃t,u=Value.bytes b t
 | .flt b,u=>∃t,u=Value.float b t
 | .ref a,u=>u=E2 a
 | .ty n,u=>u=P4 n
abbrev Vals:List V->List Value->Prop:=Paired RelV
theorem Vals.length(r:Vals xs us):xs.length=us.length:=Paired.length r
theorem Vals.get:∀{xs:List V}{us:List Value}{i:Nat}{x:V},Vals xs us->xs[i]?=some x->∃u,us[i]?=some u/\RelV x u
 |_,_,_,_,.nil,e=>by simp at e
 |_,_,0,_,.cons r _,e=>by simp at e;subst e;exact⟨_,rfl,r⟩
 |_,_,i+1,x,.cons _ t,e=>by obtain⟨u,h1,h2⟩:=Vals.get (i:=i) (x:=x) t (by simpa using e);exact⟨u,by simpa using h1,h2⟩
theorem Vals.append:∀{xs ys:List V}{us ws:List Value},Vals xs us->Vals ys ws->Vals (xs++ys) (us++ws)
 |_,_,_,_,.nil,s=>s
 |_,_,_,_,.cons r t,s=>.cons r<|Vals.append t s
theorem Vals.take:∀{xs:List V}{us:List Value} (n:Nat),Vals xs us->Vals (xs.take n) (us.take n)
 |_,_,0,_=>.nil
 |_,_,_+1,.nil=>.nil
 |_,_,n+1,.cons r t=>.cons r<|Vals.take n t
theorem Vals.drop:∀{xs:List V}{us:List Value} (n:Nat),Vals xs us->Vals (xs.drop n) (us.drop n)
 |_,_,0,r=>r
 |_,_,_+1,.nil=>.nil
 |_,_,n+1,.cons _ t=>Vals.drop n t
theorem Vals.none_of:∀{xs:List V}{us:List Value}{i:Nat},Vals xs us->xs[i]?=none->us[i]?=none:=λ{xs us i} r e=>by have h1:=r.length;have h2:xs.length<=i:=B3.mp e;exact B3.mpr (by lia)
noncomputable def RelO:Option V->Option Value->Prop
 |some v,some u=>RelV v u
 |none,none=>True
 |_,_=>False
def KV{κ:Type}:List (κ×V)->List (κ×Value)->Prop:=Paired λ(p:κ×V) (q:κ×Value)=>p.1=q.1/\RelV p.2 q.2
noncomputable def kV:EQ->V
 | .inl i=>.int i
 | .inr x=>.str x
inductive HO where
 |lst (xs:List V)
 |tup (xs:List V)
 |dK (kvs:List (EQ×V))|dT (kvs:List (List EQ×V))
 |set (S:Int->Bool) (n:Nat)
 |ins (C dx:Addr) (fs:List (Str×V))
 |own (x:Addr)
 |xd (fs:List (Str×V))
 |met (f x:Addr)
 |rng (lo hi:Int)
 |frz (o:Obj) (u:HO)
 |tbl (ps:Array Value)
 |ext (φ:Heap->Prop)
noncomputable abbrev Hp:=Addr->Option HO
noncomputable def upd(H:Hp)(a:Addr)(o:HO):Hp:=λb=>if b=a then some o else H b
theorem uQ{o:HO}:upd H a o a=some o:=by unfold upd;rw[if_pos rfl]
theorem iQ{o:HO}(h:b≠a):upd H a o b=H b:=by unfold upd;rw[if_neg h]
theorem LU{o u:HO}:upd (upd H a o) a u=upd H a u:=by funext b;unfold upd;split<;>rfl
theorem Sj{H:Hp}{o u:HO}(h:H a=some o)(h':H b=some u)(d:o≠u):a≠b:=by intro e;subst e;rw[h]at h';exact d<|W1 h'
theorem qQ{H:Hp}{o:HO}(h:H a=some o)(h':H b=none):a≠b:=by intro e;subst e;rw[h]at h';cases h'
def IsTupD(h:Heap)(a:Addr)(items:Array Value):Prop:=∃o,h.get? a=some o/\o.cls=.type "tuple"/\∃n,o.data=.seq items n/\o.dict=none
theorem IsTupD.t:IsTupD h a items->IsTup h a items:=λ⟨o,e,c,n,d,_⟩=>⟨o,e,c,n,d⟩
theorem IsTupD.new(h:Heap)(items:Array Value):IsTupD (h.push {cls:=.type "tuple",data:=.seq items}) h.objs.size items:=⟨_,T0 _ rfl,rfl,_,rfl,rfl⟩
section
variable (P:Program)(w:World)
noncomputable def ObjOk(H:Hp)(h:Heap)(a:Addr):HO->Prop
 | .lst xs=>xs.length<=sizeLine/\∃(its:List Value) (n:Nat),Vals xs its/\h.get? a=some {cls:=.type "list",data:=.seq its.toArray n}
 | .tup xs=>xs.length<=sizeLine/\∃its:List Value,Vals xs its/\IsTupD h a its.toArray
 | .dK kvs=>kvs.length<=sizeLine/\(a==sysModules)=false/\∃vs,KV kvs vs/\h.DictOf (bX P w) a vs
 | .dT kvs=>kvs.length<=sizeLine/\(a==sysModules)=false/\∃xs:List (List EQ×Addr×Value),
   Paired (λ(p:List EQ×V) (q:List EQ×Addr×Value)=>p.1=q.1/\H q.2.1=some (.tup<|p.1.map kV)/\RelV p.2 q.2.2) kvs xs /\
   ∃o es ep,h.get? a=some o/\o.ExactDict/\o.data=.dict es ep/\es.toList=xs.map (entryOfKey<|tupleKind<|bX P w)/\(xs.map (·.1)).Nodup
 | .set S n=>h.SetOf (intKind P w) a S n
 | .ins C dx fs=>H dx=some (.own a)/\fs.length<=1000/\dx≠a/\h.get? a=some (T9 C dx) /\
   ∃mA,h.Ns1 dx mA/\(∀f,RelO (fs.lookup f)<|mA f)/\PySem.Within mA (fs.map (·.1))
 | .own _=>∃o,h.get? a=some o
 | .xd fs=>∃mA,h.Ns1 a mA/\∀f,RelO (fs.lookup f) (mA f)
 | .rng lo hi=>∃t u v,h.get? a=some {cls:=.type "range",data:=.fields #[.int lo t,.int hi u,.int 1 v]}
 | .frz o u=>h.get? a=some o/\ObjOk H h a u
 | .tbl ps=>h.get? a=some {cls:=.none,data:=.fields ps}
 | .met f x=>h.get? a=some (V7 (.ref f)<|.ref x)
 | .ext φ=>φ h/\(∃o,h.get? a=some o)/\∀h1 h2:Heap,φ h1->(∀o,h1.get? a=some o->h2.get? a=some o)->φ h2
def HOk(H:Hp)(h:Heap):Prop:=∀a o,H a=some o->ObjOk P w H h a o
end
section
variable {P:Program}{w:World}{H H':Hp}{a:Addr}{o:HO}
theorem ObjOk.lt(x:ObjOk P w H h a o):a<h.objs.size:=by
 cases o with
 |lst xs=>obtain⟨_,_,_,_,e⟩:=x;exact U0 e
 |tup xs=>obtain⟨_,_,_,p⟩:=x;exact p.t.lt
 |dK kvs=>obtain⟨_,_,_,_,o,_,_,e,_⟩:=x;exact U0 e
 |dT kvs=>obtain⟨_,_,_,_,o,_,_,e,_⟩:=x;exact U0 e
 |set S n=>obtain⟨o,_,_,_,e,_⟩:=x;exact U0 e
 |ins C dx fs=>obtain⟨_,_,_,e,_⟩:=x;exact U0 e
 |own y=>obtain⟨_,e⟩:=x;exact U0 e
 |xd fs=>obtain⟨_,⟨_,_,_,e,_⟩,_⟩:=x;exact U0 e
 |rng lo hi=>obtain⟨_,_,_,e⟩:=x;exact U0 e
 |frz ob u=>obtain⟨e,_⟩:=x;exact U0 e
 |tbl ps=>exact U0<|show h.get? a=some _ from x
 |met f y=>exact U0<|show h.get? a=some _ from x
 |ext φ=>obtain⟨_,⟨_,e⟩,_⟩:=x;exact U0 e
theorem Paired.mapP{F G:α->β->Prop}:∀{l₁:List α}{l₂:List β},Paired F l₁ l₂->(∀a b,F a b->G a b)->Paired G l₁ l₂
 |_,_,.nil,_=>.nil
 |_,_,.cons r t,f=>.cons (f _ _ r)<|Paired.mapP t f
theorem ObjOk.stay(x:ObjOk P w H h a o)(k:∀b u,(b=a\/H b=some (.own a))->h.get? b=some u->h'.get? b=some u)(ho:∀b,H b=some (.own a)->H' b=some (.own a)) (ht:∀b xs,H b=some (.tup xs)->H' b=some (.tup xs)):ObjOk P w H' h' a o:=by
 induction o with
 |lst xs=>obtain⟨z,its,n,r,e⟩:=x;exact⟨z,its,n,r,k _ _ (.inl rfl) e⟩
 |tup xs=>obtain⟨z,its,r,ob,e,c⟩:=x;exact⟨z,its,r,ob,k _ _ (.inl rfl) e,c⟩
 |dK kvs=>obtain⟨z,y,vs,r,ob,es,ep,e,c⟩:=x;exact⟨z,y,vs,r,ob,es,ep,k _ _ (.inl rfl) e,c⟩
 |dT kvs=>obtain⟨z,y,xs,r,ob,es,ep,e,c⟩:=x;exact⟨z,y,xs,Paired.mapP r λp q z=>⟨z.1,ht _ _ z.2.1,z.2.2⟩,ob,es,ep,k _ _ (.inl rfl) e,c⟩
 |set S n=>obtain⟨ob,es,ep,t,e,c⟩:=x;exact⟨ob,es,ep,t,k _ _ (.inl rfl) e,c⟩
 |ins C dx fs=>obtain⟨d,z,ne,e,mA,⟨od,es,ep,e2,c⟩,r⟩:=x;exact⟨ho _ d,z,ne,k _ _ (.inl rfl) e,mA,⟨od,es,ep,k _ _ (.inr d) e2,c⟩,r⟩
 |own y=>obtain⟨ob,e⟩:=x;exact⟨ob,k _ _ (.inl rfl) e⟩
 |xd fs=>obtain⟨mA,⟨od,es,ep,e,c⟩,r⟩:=x;exact⟨mA,⟨od,es,ep,k _ _ (.inl rfl) e,c⟩,r⟩
 |rng lo hi=>obtain⟨t,u,v,e⟩:=x;exact⟨t,u,v,k _ _ (.inl rfl) e⟩
 |frz ob u ih=>obtain⟨e,q⟩:=x;exact⟨k _ _ (.inl rfl) e,ih q⟩
 |tbl ps=>have e:h.get? a=some {cls:=.none,data:=.fields ps}:=x;show h'.get? a=some {cls:=.none,data:=.fields ps};exact k a _ (.inl rfl) e
 |met f y=>have e:h.get? a=some (V7 (.ref f)<|.ref y):=x;show h'.get? a=some (V7 (.ref f)<|.ref y);exact k a _ (.inl rfl) e
 |ext φ=>obtain⟨p,⟨o,e⟩,st⟩:=x;exact⟨st _ _ p λo q=>k _ _ (.inl rfl) q,⟨o,k _ _ (.inl rfl) e⟩,st⟩
theorem HOk.lt(x:HOk P w H h)(e:H a=some o):a<h.objs.size:=(x a o e).lt
theorem HOk.fresh(x:HOk P w H h)(e:h.objs.size<=a):H a=none:=by
 cases q:H a with
 |none=>rfl
 |some u=>exact absurd (Q0 (x.lt q) e)<|T2 _
theorem HOk.kept(x:HOk P w H h)(k:∀b u,h.get? b=some u->h'.get? b=some u):HOk P w H h':=λa o e=>(x a o e).stay (λb u _ q=>k b u q) (λ_ q=>q) λ_ _ q=>q
theorem HOk.laid(x:HOk P w H h)(k:∀b u,h.get? b=some u->h'.get? b=some u)(hp:h.objs.size<=a)(new:ObjOk P w (upd H a o) h' a o):HOk P w (upd H a o) h':=λb u e=>by
 have hn:=x.fresh hp;by_cases hb:b=a
 .subst hb;rw[uQ]at e;cases e;exact new
 .rw[iQ hb]at e;exact(x b u e).stay (λc v _ q=>k c v q) (λc q=>by rw[iQ<|qQ q hn];exact q) λc xs q=>by rw[iQ<|qQ q hn];exact q
end
def Rd(H:Hp)(a:Addr)(u:HO):Prop:=H a=some u\/∃o,H a=some (.frz o u)
theorem Rd.ok{u:HO}(r:Rd H a u)(x:HOk P w H h):ObjOk P w H h a u:=by
 rcases r with r|⟨o,r⟩
 .exact x a u r
 .obtain⟨_,q⟩:=x a _ r;exact q
noncomputable def vN:Option HO->Prop
 |some (.lst _)=>True
 |some (.dK _)=>True
 |some (.dT _)=>True
 |some (.set _ _)=>True
 |some (.ins _ _ _)=>True
 |some (.ext _)=>True
 |_=>False
section
variable {P:Program}{w:World}{H:Hp}{x e:Addr}{o':HO}
theorem HOk.write(ok:HOk P w H h)(mu:vN (H x))(he:e=x\/H e=some (.own x))(k:∀b u,b≠e->h.get? b=some u->h'.get? b=some u)(heo:∃u,h'.get? e=some u)(new:ObjOk P w (upd H x o') h' x o'):HOk P w (upd H x o') h':=λb u q=>by
 have nown:∀c y,H c=some (.own y)->c≠x:=λc y r z=>by subst z;rw[r]at mu;exact mu
 have ntup:∀c xs,H c=some (.tup xs)->c≠x:=λc xs r z=>by subst z;rw[r]at mu;exact mu
 by_cases hb:b=x
 .subst hb;rw[uQ]at q;cases q;exact new
 .rw[iQ hb]at q;by_cases hbe:b=e
  .have q':H b=some (.own x):=by
    rcases he with z|z
    .exact absurd (hbe.trans z) hb
    .rw[hbe];exact z
   rw[q]at q';cases q';obtain⟨v,hv⟩:=heo;exact⟨v,by rw[hbe];exact hv⟩
  .refine(ok b u q).stay (λc v hc r=>k c v ?_ r) (λc r=>by rw[iQ<|nown c b r];exact r) λc xs r=>by rw[iQ<|ntup c xs r];exact r
   rcases hc with rfl|hc
   .exact hbe
   .rintro rfl;rcases he with z|z
    .exact nown c b hc z
    .rw[hc]at z;cases z;exact hb rfl
end
structure Un(fs ex:List Addr)(H H':Hp)(h h':Heap):Prop where
 keep:∀b o,h.get? b=some o->H b=none->b∉fs->b∉ex->h'.get? b=some o
 slot:∀b o,h.get? b=some o->H b=none->b∈fs->b∉ex->∃sl,h'.get? b=some {o with slots:=sl}
 free:∀b o,h.get? b=some o->H b=none->b∉ex->H' b=none
 there:∀b o,h.get? b=some o->b∉ex->∃o',h'.get? b=some o'
 tups:∀b xs,H b=some (.tup xs)->H' b=some (.tup xs)
 frzs:∀b o u,H b=some (.frz o u)->H' b=some (.frz o u)
 tbls:∀b ps,H b=some (.tbl ps)->∃more,H' b=some (.tbl<|ps++more)
section
variable {fs fs' ex ex':List Addr}{H H1 H2:Hp}{h1 h2:Heap}{a x e:Addr}{o:HO}
theorem Un.any(u:Un fs ex H H1 h h1){b:Addr}{ob:Obj}(q:h.get? b=some ob)(n:H b=none)(hx:b∉ex):∃sl,h1.get? b=some {ob with slots:=sl}:=by
 by_cases hb:b∈fs
 .exact u.slot b ob q n hb hx
 .exact⟨ob.slots,u.keep b ob q n hb hx⟩
theorem Un.kept(k:∀b u,h.get? b=some u->h'.get? b=some u):Un fs ex H H h h':=⟨λb ob q _ _ _=>k b ob q,λb ob q _ _ _=>⟨ob.slots,k b ob q⟩,λ_ _ _ n _=>n,λb ob q _=>⟨ob,k b ob q⟩,λ_ _ q=>q,λ_ _ _ q=>q,λ_ ps q=>⟨#[],by rw[q];simp⟩⟩
theorem Un.refl:Un fs ex H H h h:=Un.kept λ_ _ q=>q
theorem Un.laid(k:∀b u,h.get? b=some u->h'.get? b=some u)(hp:h.objs.size<=a)(hn:H a=none):Un fs ex H (upd H a o) h h' where
 keep:=λb u q _ _ _=>k b u q
 slot:=λb u q _ _ _=>⟨u.slots,k b u q⟩
 free:=λb u q n _=>by rw[iQ<|V0<|Q0 (U0 q) hp];exact n
 there:=λb u q _=>⟨u,k b u q⟩
 tups:=λb xs q=>by rw[iQ<|qQ q hn];exact q
 frzs:=λb u xs q=>by rw[iQ<|qQ q hn];exact q
 tbls:=λb ps q=>⟨#[],by rw[iQ<|qQ q hn,q];simp⟩
theorem Un.write(mu:vN (H x))(he:e=x\/H e=some (.own x))(k:∀b u,b≠e->h.get? b=some u->h'.get? b=some u)(heo:∃u,h'.get? e=some u):Un fs ex H (upd H x o) h h':=by
 have hx:∀b,H b=none->b≠x:=λb n z=>by subst z;rw[n]at mu;exact mu
 have hb:∀b,H b=none->b≠e:=λb n z=>by
  subst z;rcases he with r|r
  .exact hx b n r
  .rw[n]at r;cases r
 have hm:∀b u,H b=some u->¬vN (some u)->b≠x:=λb u q nm z=>by subst z;rw[q]at mu;exact nm mu
 refine⟨λb u q n _ _=>k b u (hb b n) q,λb u q n _ _=>⟨u.slots,k b u (hb b n) q⟩,λb u q n _=>by rw[iQ<|hx b n];exact n,λb u q _=>?_,
   λb xs q=>by rw[iQ<|hm b _ q λz=>z];exact q,λb u xs q=>by rw[iQ<|hm b _ q λz=>z];exact q,λb ps q=>⟨#[],by rw[iQ<|hm b _ q λz=>z,q];simp⟩⟩;by_cases hbe:b=e
 .subst hbe;exact heo
 .exact⟨u,k b u hbe q⟩
end
noncomputable def FP(h:Heap)(H:Hp):List Addr:=(Z1 h.objs.size).filter λa=>(H a).isSome
noncomputable def MU(h:Heap)(H:Hp):Heap:=B6 h<|FP h H
theorem qz(h:Heap)(H:Hp):(MU h H).objs.size=h.objs.size:=PySem.W.hideAll_size _ _
theorem Tj(e:h.get? b=some o)(n:H b=none):(MU h H).get? b=some o :=
 T4 _ e λhm=>by have q:(H b).isSome=true:=(B7.mp hm).2;rw[n]at q;simp at q
theorem my(e:(MU h H).get? b=some o):h.get? b=some o/\H b=none:=by
 have e':h.get? b=some o:=L6 (FP h H) e;refine⟨e',?_⟩;cases q:H b with
 |none=>rfl
 |some x=>have hm:b∈FP h H:=B7.mpr ⟨E4.mpr<|U0 e',by simp[q]⟩;have z:(MU h H).get? b=none:=E5 (FP h H) hm;rw[z]at e;cases e
noncomputable def oy(g h:Heap)(L:Addr):List (Addr×Obj):=(Z1 h.objs.size).filterMap λa=>if a=L\/(g.get? a).isSome=true then none else (h.get? a).map λo=>(a,o)
noncomputable def rest(g h:Heap)(L d:Addr):List (Addr×Obj):=(oy g h L).filter λp=>decide<|p.1≠d
def wN(mg:Str->Option Value)(h:Heap):Prop:=∃bm o,mg "__builtins__"=some (.ref bm)/\bm≠builtinsNs/\h.get? bm=some o/\o.cls=.type "module"/\o.dict=some builtinsNs/\o.data=.plain
structure Mod(K:G0)(mg:Str->Option Value)(base:Heap):Prop where
 kin:K.In base
 glob:base.Ns mainGlobals mg
 blt:∃mb,base.Ns builtinsNs mb/\∀x:Str,x ≠ "__name__"->mb x=bootBuiltins x
 nolimit:base.NoLimit
 bm:wN mg base
structure Cx where
 prog:Program
 w:World
 K:G0
 mg:Str->Option Value
 base:Heap
 A:Around
 N:List Str
 s₀:Shared
 H₀:Hp
 env:Env
 outer:List Env
 stack:List Env
 ex:List Addr
 fn:Str->Bool
 calm:Bool
 pn:List (Addr×Obj)
 xe:Value->Shared->Prop
noncomputable def TZ(l:List Env):List Addr:=l.filterMap (·.frame)
noncomputable abbrev Cx.fs(X:Cx):List Addr:=TZ X.outer
def qy(sc:Scope)(x:Str):Prop:=sc.names.lookup x=some .local\/sc.names.lookup x=some .cell\/sc.names.lookup x=some .free
def gy(sc:Scope)(x:Str):Prop:=sc.names.lookup x=some .local\/sc.names.lookup x=some .cell
def ZP(env:Env)(h:Heap)(m:Str->Option Value)(x:Str)(u:Value):Prop:=(env.kindOf x=some .local/\m x=some u)\/((env.kindOf x=some .cell\/env.kindOf x=some .free)/\∃c,env.cells.lookup x=some c/\h.IsCell c (some u))
structure Cx.Ok(X:Cx):Prop where
 mod:Mod X.K X.mg X.base
 kind:X.env.scope.kind=.function
 glob:X.env.globals=mainGlobals
 blt:X.env.builtins=builtinsNs
 above:X.s₀.heap.objs.size<=X.env.locals
 inj:∀x y c,X.env.cells.lookup x=some c->X.env.cells.lookup y=some c->x=y
 has:∀x,(X.env.kindOf x=some .cell\/X.env.kindOf x=some .free)->∃c,X.env.cells.lookup x=some c
 cab:∀x c,X.fn x=true->X.env.cells.lookup x=some c->X.s₀.heap.objs.size<=c
 hd:X.calm=true->X.A.handled=none
 frames:X.A.frames=some X.stack
 stk:X.stack=X.outer\/(X.stack=X.env::X.outer/\X.env.frame=some X.env.locals)
 exf:∀b∈X.ex,b≠X.env.locals/\∀x c,X.env.cells.lookup x=some c->c≠b
 bs:∀b o,X.base.get? b=some o->X.s₀.heap.get? b=some o/\X.H₀ b=none
 bsz:X.base.objs.size<=X.s₀.heap.objs.size
 noex:∀b o,X.base.get? b=some o->b∉X.ex
 exfs:∀b∈X.ex,b∉X.fs
 funs:X.s₀.heap.FunFrames X.base X.outer
 frf:∀b∈X.fs,X.H₀ b=none
structure Inv(X:Cx)(pins:List (Addr×Obj))(σ:List (Option V))(H:Hp)(s:Shared):Prop where
 ok:X.Ok
 os:s.os=X.s₀.os
 bare:AllBare s.gens
 base:Un X.fs X.ex X.H₀ H X.s₀.heap s.heap
 loc:∃m,s.heap.Ns X.env.locals m/\∀(i:Nat) (x:Str) (v:V),X.N[i]?=some x->σ[i]?=some (some v)->qy X.env.scope x->∃u,RelV v u/\ZP X.env s.heap m x u
 cell:∀x c,X.env.cells.lookup x=some c->∃v,s.heap.IsCell c v
 free:H X.env.locals=none
 freeC:∀x c,X.env.cells.lookup x=some c->H c=none
 pin:∀p∈X.pn++pins,s.heap.get? p.1=some p.2/\H p.1=none/\p.1≠X.env.locals/\p.1∉X.fs/\∀v,p.2.data≠.cell v
 hok:HOk X.prog X.w H s.heap
 len:σ.length=X.N.length
section
variable {X:Cx}{σ:List (Option V)}{H H':Hp}
theorem Cx.Ok.nofr(ok:X.Ok){b:Addr}{o:Obj}(e:X.base.get? b=some o):b∉X.fs:=λhb=>by have:=(ok.funs.mem hb).1;rw[e]at this;cases this
theorem Inv.bs(I:Inv X pins σ H s):∀b o,X.base.get? b=some o->s.heap.get? b=some o/\H b=none:=λb o e=>⟨I.base.keep b o (I.ok.bs b o e).1 (I.ok.bs b o e).2 (I.ok.nofr e)<|I.ok.noex b o e,I.base.free b o (I.ok.bs b o e).1 (I.ok.bs b o e).2<|I.ok.noex b o e⟩
theorem Inv.bk(I:Inv X pins σ H s):∀b o,X.base.get? b=some o->s.heap.get? b=some o:=λb o e=>(I.bs b o e).1
theorem Inv.mod(I:Inv X pins σ H s):Mod X.K X.mg X.base:=I.ok.mod
theorem Inv.kIn(I:Inv X pins σ H s):X.K.In s.heap:=I.ok.mod.kin.keeps I.bk
theorem Inv.lt(I:Inv X pins σ H s):X.env.locals<s.heap.objs.size:=let ⟨_,hn,_⟩:=I.loc;hn.lt
theorem Inv.sz(I:Inv X pins σ H s):X.s₀.heap.objs.size<=s.heap.objs.size:=T1 I.ok.above<|U4 I.lt
theorem Inv.nofs(I:Inv X pins σ H s){a:Addr}(h:s.heap.objs.size<=a):a∉X.fs:=λhb=>by obtain⟨_,o,ho,_⟩:=I.ok.funs.mem hb;exact absurd (Q0 (U0 ho)<|T1 I.sz h)<|T2 _
theorem Inv.cne(I:Inv X pins σ H s):∀x c,X.env.cells.lookup x=some c->c≠X.env.locals:=λx c e z=>by obtain⟨v,o,ho,hd⟩:=I.cell x c e;obtain⟨m,⟨o',es,ep,ho',hd',_⟩,_⟩:=I.loc;rw[z,ho']at ho;cases ho;rw[hd']at hd;cases hd
theorem Inv.funs(I:Inv X pins σ H s):s.heap.FunFrames X.base X.outer:=by
 have all:∀(l:List Env),(∀b∈TZ l,b∈X.fs)->X.s₀.heap.FunFrames X.base l->s.heap.FunFrames X.base l:=by
  intro l;induction l with
  |nil=>intro _ _;trivial
  |cons env r ih=>intro hs hl;obtain⟨hk,⟨L,o,hf,hn,ho,hd⟩,hr⟩:=hl;have hL:L∈X.fs:=hs L (by unfold TZ;rw[t6,hf];exact L0);obtain⟨sl,e⟩:=I.base.slot L o ho (I.ok.frf L hL) hL λz=>I.ok.exfs L z hL;exact⟨hk,⟨L,_,hf,hn,e,hd⟩,ih (λb hb=>hs b<|by unfold TZ;rw[t6,hf];exact K0 _ hb) hr⟩
 exact all X.outer (λ_ hb=>hb) I.ok.funs
theorem Inv.stack(I:Inv X pins σ H s):s.heap.FunFrames X.base X.stack:=by
 rcases I.ok.stk with e|⟨e,hf⟩
 .rw[e];exact I.funs
 .rw[e];obtain⟨m,hn,_⟩:=I.loc;refine .cons (by rw[I.ok.kind];decide) hf hn ?_ I.funs;exact Heap.get?_none_of_le<|T1 I.ok.bsz I.ok.above
theorem Inv.stkSub(I:Inv X pins σ H s):∀b∈TZ X.stack,b∈X.env.locals::X.fs:=λb hb=>by
 rcases I.ok.stk with e|⟨e,hf⟩
 .rw[e]at hb;exact K0 _ hb
 .rw[e]at hb;unfold TZ at hb;rw[t6,hf]at hb;exact hb
theorem Inv.stkFree(I:Inv X pins σ H s):∀b∈TZ X.stack,H b=none:=λb hb=>by
 rcases P0.mp (I.stkSub b hb) with e|hb
 .rw[e];exact I.free
 .obtain⟨_,o,ho,_⟩:=I.ok.funs.mem hb;exact I.base.free b o ho (I.ok.frf b hb) λz=>I.ok.exfs b z hb
theorem Inv.step(I:Inv X pins σ H s)(hch:∀b∈ch,(b∈X.ex\/X.s₀.heap.objs.size<=b)/\b≠X.env.locals/\(∀x c,X.env.cells.lookup x=some c->c≠b)/\∀p∈X.pn++pins,p.1≠b)(keep:∀b o,b≠X.env.locals->b∉X.fs->b∉ch->s.heap.get? b=some o->H b=none->h'.get? b=some o)(slot:∀b o,b≠X.env.locals->b∈X.fs->b∉ch->s.heap.get? b=some o->H b=none->∃sl,h'.get? b=some {o with slots:=sl}) (free:∀b o,b∉ch->s.heap.get? b=some o->H b=none->H' b=none)(there:∀b o,b∉ch->s.heap.get? b=some o->∃o',h'.get? b=some o')(tups:∀b xs,H b=some (.tup xs)->H' b=some (.tup xs)) (frzs:∀b o u,H b=some (.frz o u)->H' b=some (.frz o u)) (tbls:∀b ps,H b=some (.tbl ps)->∃more,H' b=some (.tbl<|ps++more))(ns:∀m,s.heap.Ns X.env.locals m->h'.Ns X.env.locals m) (hok:HOk X.prog X.w H' h') (hg:AllBare g'):Inv X pins σ H' {s with heap:=h',gens:=g',drawn:=d',toks:=t'}:=by
 have neL:∀b o,X.s₀.heap.get? b=some o->b≠X.env.locals:=λb o e=>V0<|Q0 (U0 e) I.ok.above;have neC:∀b o,X.s₀.heap.get? b=some o->b∉X.ex->b∉ch:=λb o e hx hb=>by
  rcases (hch b hb).1 with z|z
  .exact hx z
  .exact absurd (Q0 (U0 e) z) (T2 _)
 have cellK:∀x c,X.env.cells.lookup x=some c->∀v,s.heap.IsCell c v->h'.IsCell c v:=λx c e v ⟨o,ho,hd⟩=>by
  have nch:c∉ch:=λz=>(hch c z).2.2.1 x c e rfl;by_cases hc:c∈X.fs
  .obtain⟨sl,q⟩:=slot c o (I.cne x c e) hc nch ho<|I.freeC x c e;exact⟨_,q,hd⟩
  .exact⟨o,keep c o (I.cne x c e) hc nch ho<|I.freeC x c e,hd⟩
 refine⟨I.ok,I.os,hg,⟨λb o e n hb hx=>?_,λb o e n hb hx=>?_,λb o e n hx=>?_,λb o e hx=>?_,λb xs e=>tups b xs<|I.base.tups b xs e,λb o xs e=>frzs b o xs<|I.base.frzs b o xs e,λb ps e=>?_⟩,?_,λx c e=>?_,?_,λx c e=>?_,λp hp=>?_,hok,I.len⟩
 .exact keep b o (neL b o e) hb (neC b o e hx) (I.base.keep b o e n hb hx) (I.base.free b o e n hx)
 .obtain⟨sl,e1⟩:=I.base.slot b o e n hb hx;obtain⟨sl',e2⟩:=slot b _ (neL b o e) hb (neC b o e hx) e1<|I.base.free b o e n hx;exact⟨sl',e2⟩
 .obtain⟨o',e1⟩:=I.base.there b o e hx;exact free b o' (neC b o e hx) e1<|I.base.free b o e n hx
 .obtain⟨o',e1⟩:=I.base.there b o e hx;exact there b o' (neC b o e hx) e1
 .obtain⟨m1,e1⟩:=I.base.tbls b ps e;obtain⟨m2,e2⟩:=tbls b _ e1;exact⟨m1++m2,by rw[e2,Array.append_assoc]⟩
 .obtain⟨m,hn,hl⟩:=I.loc;refine⟨m,ns m hn,λi x v e1 e2 e3=>?_⟩;obtain⟨u,r,l⟩:=hl i x v e1 e2 e3;refine⟨u,r,?_⟩;rcases l with l|⟨k,c,e,z⟩
  .exact .inl l
  .exact .inr ⟨k,c,e,cellK x c e _ z⟩
 .obtain⟨v,z⟩:=I.cell x c e;exact⟨v,cellK x c e v z⟩
 .obtain⟨m,⟨o,_,_,ho,_⟩,_⟩:=I.loc;exact free _ o (λz=>(hch _ z).2.1 rfl) ho I.free
 .obtain⟨v,o,ho,hd⟩:=I.cell x c e;exact free c o (λz=>(hch c z).2.2.1 x c e rfl) ho<|I.freeC x c e
 .obtain⟨e,n,ne,nf,d⟩:=I.pin p hp;have nch:p.1∉ch:=λz=>(hch p.1 z).2.2.2 p hp rfl;exact⟨keep p.1 p.2 ne nf nch e n,free p.1 p.2 nch e n,ne,nf,d⟩
theorem Inv.un(I:Inv X pins σ H s)(u:Un X.fs [] H H' s.heap h')(hok:HOk X.prog X.w H' h'):Inv X pins σ H' {s with heap:=h',toks:=t'}:=by
 obtain⟨m,⟨o,es,ep,ho,r⟩,_⟩:=id I.loc;obtain⟨sl,hL⟩:=u.any ho I.free (by simp);exact I.step (g':=s.gens) (d':=s.drawn) (ch:=[]) (λ_ z=>nomatch z) (λb o _ hb _ e n=>u.keep b o e n hb<|by simp) (λb o _ hb _ e n=>u.slot b o e n hb<|by simp) (λb o _ e n=>u.free b o e n<|by simp) (λb o _ e=>u.there b o e<|by simp) u.tups u.frzs u.tbls (λm' hm=>by obtain⟨o',es',ep',ho',r'⟩:=hm;rw[ho]at ho';cases ho';exact⟨_,es',ep',hL,r'⟩) hok I.bare
theorem Inv.call(I:Inv X pins σ H s)(u:Un (TZ X.stack) ch H H' s.heap h')(hok:HOk X.prog X.w H' h')(hg:AllBare g')(hch:∀b∈ch,(b∈X.ex\/X.s₀.heap.objs.size<=b)/\b≠X.env.locals/\(∀x c,X.env.cells.lookup x=some c->c≠b)/\∀p∈X.pn++pins,p.1≠b):Inv X pins σ H' {s with heap:=h',gens:=g',drawn:=d',toks:=t'}:=by
 obtain⟨m,⟨o,es,ep,ho,r⟩,_⟩:=id I.loc;obtain⟨sl,hL⟩:=u.any ho I.free λz=>(hch _ z).2.1 rfl;exact I.step (ch:=ch) hch (λb o hL hb hc e n=>u.keep b o e n (λz=>(P0.mp<|I.stkSub b z).elim hL hb) hc) (λb o _ _ hc e n=>u.any e n hc) (λb o hc e n=>u.free b o e n hc) (λb o hc e=>u.there b o e hc) u.tups u.frzs u.tbls (λm' hm=>by obtain⟨o',es',ep',ho',r'⟩:=hm;rw[ho]at ho';cases ho';exact⟨_,es',ep',hL,r'⟩) hok hg
theorem Inv.turned(I:Inv X pins σ H s)(k:∀b o,b≠it->s.heap.get? b=some o->h'.get? b=some o)(hn:H it=none)(hL:it≠X.env.locals)(h1:it∈X.ex\/X.s₀.heap.objs.size<=it) (h2:∀x c,X.env.cells.lookup x=some c->c≠it) (h3:∀p∈X.pn++pins,p.1≠it):Inv X pins σ H {s with heap:=h',toks:=t'}:=by
 have nit:∀b u,H b=some u->b≠it:=λb u e z=>by rw[z,hn]at e;cases e
 refine I.step (g':=s.gens) (d':=s.drawn) (ch:=[it]) (λb hb=>?_) (λb o _ _ hc e _=>k b o (λz=>hc<|by simp[z]) e) (λb o _ _ hc e _=>⟨o.slots,k b o (λz=>hc<|by simp[z]) e⟩) (λ_ _ _ _ n=>n)
  (λb o hc e=>⟨o,k b o (λz=>hc<|by simp[z]) e⟩) (λ_ _ e=>e) (λ_ _ _ e=>e) (λb ps e=>⟨#[],by rw[e];simp⟩) (λm hm=>?_) (λb u e=>?_) I.bare
 .have e:b=it:=by simpa using hb
  subst e;exact⟨h1,hL,h2,h3⟩
 .obtain⟨o,es,ep,ho,r⟩:=hm;exact⟨o,es,ep,k _ o (S2 hL) ho,r⟩
 .refine(I.hok b u e).stay (λc v hc q=>k c v ?_ q) (λ_ q=>q) λ_ _ q=>q;rcases hc with z|z
  .rw[z];exact nit b u e
  .exact nit c _ z
theorem Inv.tok(I:Inv X pins σ H s)(t:Nat):Inv X pins σ H {s with toks:=t}:=I.un (h':=s.heap) (t':=t) Un.refl I.hok
theorem Inv.kept(I:Inv X pins σ H s)(k:∀b u,s.heap.get? b=some u->h'.get? b=some u):Inv X pins σ H {s with heap:=h',toks:=t'}:=I.un (Un.kept k)<|I.hok.kept k
theorem Inv.laid{a:Addr}{o:HO}(I:Inv X pins σ H s)(k:∀b u,s.heap.get? b=some u->h'.get? b=some u)(hp:s.heap.objs.size<=a)(new:ObjOk X.prog X.w (upd H a o) h' a o):Inv X pins σ (upd H a o) {s with heap:=h',toks:=t'}:=I.un (Un.laid k hp<|I.hok.fresh hp)<|I.hok.laid k hp new
theorem Inv.write{o:HO}(I:Inv X pins σ H s)(mu:vN (H x))(he:e=x\/H e=some (.own x))(k:∀b u,b≠e->s.heap.get? b=some u->h'.get? b=some u)(heo:∃u,h'.get? e=some u)(new:ObjOk X.prog X.w (upd H x o) h' x o):Inv X pins σ (upd H x o) {s with heap:=h',toks:=t'}:=I.un (Un.write mu he k heo)<|I.hok.write mu he k heo new
theorem Inv.pins_of(I:Inv X pins σ H s)(h:∀p∈pins',s.heap.get? p.1=some p.2/\H p.1=none/\p.1≠X.env.locals/\p.1∉X.fs/\∀v,p.2.data≠.cell v):Inv X pins' σ H s:=⟨I.ok,I.os,I.bare,I.base,I.loc,I.cell,I.free,I.freeC,λp hp=>(S1.mp hp).elim (λz=>I.pin p<|Z5 _ z)<|h p,I.hok,I.len⟩
theorem HW(hN:N.Nodup){i j:Nat}{x:Str}(a:N[i]?=some x)(b:N[j]?=some x):i=j:=by obtain⟨h1,e1⟩:=Q1.mp a;obtain⟨h2,e2⟩:=Q1.mp b;exact(List.getElem_inj hN).mp<|e1.trans e2.symm
theorem jU{M:Model}{i:Nat}{x:Str}{v:V}{Q:Unit->Shared->Prop}(I:Inv X pins σ H s)(hN:X.N.Nodup)(hi:X.N[i]?=some x)(hx:gy X.env.scope x)(r:RelV v u)
  (h:∀s',Inv X pins (σ.set i<|some v) H s'->(∃a,u3 a s.heap s'.heap/\(a=X.env.locals\/X.env.cells.lookup x=some a))->Q () s') (hf:X.fn x=true\/X.env.scope.names.lookup x=some .local:=by first|exact .inl rfl|exact .inr rfl|assumption):wpAny M A (storeName X.env x u) Q E s:=by
 obtain⟨m,hn,hl⟩:=id I.loc;have hcls:(X.env.scope.kind==.class||(X.env.scope.kind==.module&&X.env.locals != X.env.globals))=false:=by rw[I.ok.kind];rfl
 have hiσ:i<σ.length:=by rw[I.len];exact(Q1.mp hi).1
 have cne:=I.cne;have tracked:∀{a:Addr}{h':Heap},(∃o,s.heap.get? a=some o/\H a=none)->u3 a s.heap h'->HOk X.prog X.w H h':=λ{a h'} ha hs b ob e=>by
  obtain⟨_,_,hfree⟩:=ha;refine(I.hok b ob e).stay (λc w' hc q=>(hs.2 c ?_).trans q) (λ_ q=>q) λ_ _ q=>q;rintro rfl;rcases hc with rfl|hc
  .rw[hfree]at e;cases e
  .rw[hfree]at hc;cases hc
 rcases hx with hk|hk
 .refine wpAny_storeName_local hk hn (λh' hn' hs=>?_) hcls;obtain⟨oL,_,_,hoL,_⟩:=id hn;refine h _ ⟨I.ok,I.os,I.bare,⟨λb o e n hb hx=>?_,λb o e n hb hx=>?_,I.base.free,λb o e hx=>?_,I.base.tups,I.base.frzs,I.base.tbls⟩,⟨_,hn',λj y v' e1 e2 e3=>?_⟩,λy c e=>?_,I.free,I.freeC,λp hp=>?_,tracked ⟨oL,hoL,I.free⟩ hs,by simpa using I.len⟩ ⟨_,hs,.inl rfl⟩
  .exact(hs.2 b<|V0<|Q0 (U0 e) I.ok.above).trans (I.base.keep b o e n hb hx)
  .obtain⟨sl,e1⟩:=I.base.slot b o e n hb hx;exact⟨sl,(hs.2 b<|V0<|Q0 (U0 e) I.ok.above).trans e1⟩
  .obtain⟨o',e1⟩:=I.base.there b o e hx;exact⟨o',(hs.2 b<|V0<|Q0 (U0 e) I.ok.above).trans e1⟩
  .by_cases hj:j=i
   .subst hj;rw[hi]at e1;cases e1;rw[V6 hiσ]at e2;cases e2;exact⟨u,r,.inl ⟨hk,by simp⟩⟩
   .rw[Z0<|S2 hj]at e2;obtain⟨u',r',q⟩:=hl j y v' e1 e2 e3;refine⟨u',r',?_⟩;rcases q with⟨k,e⟩|⟨k,c,e,z⟩
    .refine .inl ⟨k,?_⟩;have:y≠x:=λe=>hj<|HW hN e1<|e ▸ hi;simp[this,e]
    .exact .inr ⟨k,c,e,z.sameBut hs<|cne y c e⟩
  .obtain⟨w',z⟩:=I.cell y c e;exact⟨w',z.sameBut hs<|cne y c e⟩
  .obtain⟨e,n,ne,nf,d⟩:=I.pin p hp;exact⟨(hs.2 p.1 ne).trans e,n,ne,nf,d⟩
 .have hfn:X.fn x=true:=by
   rcases hf with z|z
   .exact z
   .rw[z]at hk;cases hk
  obtain⟨c,hc⟩:=I.ok.has x<|.inl hk;obtain⟨w',z⟩:=I.cell x c hc;refine wpAny_storeName_cell I.ok.kind hk hc z<|λh' hc' hs=>?_;obtain⟨oc,hoc,hocd⟩:=id z;refine h {s with heap:=h'} ⟨I.ok,I.os,I.bare,⟨λb o e n hb hx=>?_,λb o e n hb hx=>?_,I.base.free,λb o e hx=>?_,I.base.tups,I.base.frzs,I.base.tbls⟩,⟨m,hn.sameBut hs<|S2<|cne x c hc,λj y v' e1 e2 e3=>?_⟩,λy c' e=>?_,I.free,I.freeC,λp hp=>?_,tracked ⟨oc,hoc,I.freeC x c hc⟩ hs,by simpa using I.len⟩ ⟨c,hs,.inr hc⟩
  .exact(hs.2 b<|V0<|Q0 (U0 e)<|I.ok.cab x c hfn hc).trans (I.base.keep b o e n hb hx)
  .obtain⟨sl,e1⟩:=I.base.slot b o e n hb hx;exact⟨sl,(hs.2 b<|V0<|Q0 (U0 e)<|I.ok.cab x c hfn hc).trans e1⟩
  .obtain⟨o',e1⟩:=I.base.there b o e hx;exact⟨o',(hs.2 b<|V0<|Q0 (U0 e)<|I.ok.cab x c hfn hc).trans e1⟩
  .by_cases hj:j=i
   .subst hj;rw[hi]at e1;cases e1;rw[V6 hiσ]at e2;cases e2;exact⟨u,r,.inr ⟨.inl hk,c,hc,hc'⟩⟩
   .rw[Z0<|S2 hj]at e2;obtain⟨u',r',q⟩:=hl j y v' e1 e2 e3;refine⟨u',r',?_⟩;rcases q with q|⟨k,c',e,z'⟩
    .exact .inl q
    .refine .inr ⟨k,c',e,z'.sameBut hs ?_⟩;rintro rfl;exact hj<|HW hN e1<|I.ok.inj _ _ _ e hc ▸ hi
  .by_cases hcc:c'=c
   .subst hcc;exact⟨_,hc'⟩
   .obtain⟨w2,z2⟩:=I.cell y c' e;exact⟨w2,z2.sameBut hs hcc⟩
  .obtain⟨e,n,ne,nf,d⟩:=I.pin p hp;refine⟨(hs.2 p.1 ?_).trans e,n,ne,nf,d⟩;intro q;rw[q,hoc]at e;have q':oc=p.2:=W1 e;exact d w' (by rw[<-q'];exact hocd)
theorem cK{M:Model}{i:Nat}{x:Str}{v:V}{Q:Unit->Shared->Prop}(I:Inv X pins σ H s)(hN:X.N.Nodup)(hi:X.N[i]?=some x)(hx:gy X.env.scope x)(r:RelV v u)
  (h:∀s',Inv X pins (σ.set i<|some v) H s'->Q () s') (hf:X.fn x=true\/X.env.scope.names.lookup x=some .local:=by first|exact .inl rfl|exact .inr rfl|assumption):wpAny M A (storeName X.env x u) Q E s :=
 jU I hN hi hx r (λs' I' _=>h s' I') hf
theorem Inv.call'(I:Inv X pins σ H s)(ho:s'.os=s.os)(u:Un (TZ X.stack) ch H H' s.heap s'.heap)(hok:HOk X.prog X.w H' s'.heap)(hg:AllBare s'.gens)(hch:∀b∈ch,(b∈X.ex\/X.s₀.heap.objs.size<=b)/\b≠X.env.locals/\(∀x c,X.env.cells.lookup x=some c->c≠b)/\∀p∈X.pn++pins,p.1≠b):Inv X pins σ H' s':=by
 obtain⟨h',g',d',t',o'⟩:=s';have e:o'=s.os:=ho;subst e;exact I.call (g':=g') (t':=t') (d':=d') u hok hg hch
end
noncomputable abbrev XK:=Value->Option Addr->Hp->Prop
noncomputable abbrev St:=List<|Option V
noncomputable abbrev VK:=V->Hp->Prop
noncomputable abbrev TE:=St->Hp->VK->Prop
noncomputable abbrev TT:=St->Hp->(Bool->Hp->Prop)->Prop
noncomputable abbrev TA:=St->Hp->(List V->Hp->Prop)->Prop
structure Ends where
 nx:St->Hp->Prop
 rt:VK
 bk:St->Hp->Prop:=λ_ _=>False
 ct:St->Hp->Prop:=λ_ _=>False
noncomputable abbrev TS:=Ends->St->Hp->Prop
def EP(X:Cx)(pins:List (Addr×Obj))(σ:St)(Q:VK)(u:Value)(s':Shared):Prop:=∃v H',Inv X pins σ H' s'/\RelV v u/\Q v H'
def TP(X:Cx)(pins:List (Addr×Obj))(σ:St)(Q:Bool->Hp->Prop)(b:Bool)(s':Shared):Prop:=∃H',Inv X pins σ H' s'/\Q b H'
def AP(X:Cx)(pins:List (Addr×Obj))(σ:St)(Q:List V->Hp->Prop)(us:List Value)(s':Shared):Prop:=∃vs H',Inv X pins σ H' s'/\Vals vs us/\Q vs H'
def SP(X:Cx)(pins:List (Addr×Obj))(D:Ends)(f:Flow)(s':Shared):Prop :=
 match f with
 | .next=>∃σ' H',Inv X pins σ' H' s'/\D.nx σ' H'
 | .brk=>∃σ' H',Inv X pins σ' H' s'/\D.bk σ' H'
 | .cont=>∃σ' H',Inv X pins σ' H' s'/\D.ct σ' H'
 | .ret u=>∃v σ' H',Inv X pins σ' H' s'/\RelV v u/\D.rt v H'
def PE(X:Cx)(e:Expr)(t:TE):Prop:=∀(pins:List (Addr×Obj)) (s:Shared) (σ:St) (H:Hp) (Q:VK),Inv X pins σ H s->t σ H Q->wpAny (model X.prog X.w) X.A (eval e X.env) (EP X pins σ Q) X.xe s
def PT(X:Cx)(e:Expr)(t:TT):Prop:=∀(pins:List (Addr×Obj)) (s:Shared) (σ:St) (H:Hp) (Q:Bool->Hp->Prop),Inv X pins σ H s->t σ H Q->wpAny (model X.prog X.w) X.A (isTrue e X.env<|eval e X.env) (TP X pins σ Q) X.xe s
def PW(X:Cx)(e:Expr)(t:TT):Prop:=∀(whole:Sem Value) (pins:List (Addr×Obj)) (s:Shared) (σ:St) (H:Hp) (Q:Bool->Hp->Prop),Inv X pins σ H s->t σ H Q->wpAny (model X.prog X.w) X.A (isTrue e X.env whole) (TP X pins σ Q) X.xe s
theorem PW.pt(h:PW X e t):PT X e t:=h _
def PA(X:Cx)(es:List Expr)(t:TA):Prop:=∀(pos:Pos) (pins:List (Addr×Obj)) (s:Shared) (σ:St) (H:Hp) (Q:List V->Hp->Prop),Inv X pins σ H s->t σ H Q->wpAny (model X.prog X.w) X.A (spliced<|backTo pos<|starEach es X.env) (AP X pins σ Q) X.xe s
def PS(X:Cx)(st:Stmt)(t:TS):Prop:=∀(pins:List (Addr×Obj)) (s:Shared) (σ:St) (H:Hp) (D:Ends),Inv X pins σ H s->t D σ H->wpAny (model X.prog X.w) X.A (exec st X.env) (SP X pins D) X.xe s
def PSs(X:Cx)(st:List Stmt)(t:TS):Prop:=∀(pins:List (Addr×Obj)) (s:Shared) (σ:St) (H:Hp) (D:Ends),Inv X pins σ H s->t D σ H->wpAny (model X.prog X.w) X.A (execs st X.env) (SP X pins D) X.xe s
theorem vX{t:Sem α}{Q Q':α->Shared->Prop}(h:wpAny M A t Q E s)(hQ:∀a s,Q a s->Q' a s):wpAny M A t Q' E s:=wpAny_mono h hQ λ_ _ x=>x
section
variable {X:Cx}
def uJ(i:Nat):TE:=λσ H Q=>∃v,σ[i]?=some (some v)/\Q v H
def tC(v:V):TE:=λ_ H Q=>Q v H
theorem NU{i:Nat}{x:Str}{pos:Pos}(hN:X.N[i]?=some x)(hv:qy X.env.scope x)(hd:(x==("__debug__":Str))=false:=by decide)(hcd:(x==("__classdict__":Str))=false:=by decide):PE X (.Name x pos) (uJ i):=by
 intro pins s σ H Q I h;obtain⟨v,e,h⟩:=h;obtain⟨m,hn,hl⟩:=I.loc;obtain⟨u,r,l⟩:=hl i x v hN e hv;have fin:EP X pins σ Q u s:=⟨v,H,I,r,h⟩;rcases l with⟨hk,hm⟩|⟨hk,c,hc,hcell⟩
 .exact wpAny_Name (wpAny_loadName_local I.ok.kind hk hn hm fin) hd
 .rcases hk with hk|hk
  .exact wpAny_Name (wpAny_loadName_cell I.ok.kind hk hc hcell fin) hd
  .exact wpAny_Name (wpAny_loadName_free I.ok.kind hk hc hcell fin hcd) hd
theorem IW{i j pos}:PE X (.Constant (.int i) j pos) (tC<|.int i):=λ_ _ _ H _ I h=>wpAny_Constant_int ⟨.int i,H,I.tok _,⟨_,rfl⟩,h⟩
theorem xN{b j pos}:PE X (.Constant (.bool b) j pos) (tC<|.bl b):=λ_ _ _ H _ I h=>Constant_bool ⟨.bl b,H,I,rfl,h⟩
theorem ME{j pos}:PE X (.Constant .none j pos) (tC .non):=λ_ _ _ H _ I h=>Constant_none ⟨.non,H,I,rfl,h⟩
theorem JW{x j pos}:PE X (.Constant (.str x) j pos) (tC<|.str x):=λ_ _ _ H _ I h=>Calls.Constant_str ⟨.str x,H,I.tok _,⟨_,rfl⟩,h⟩
def Gl(X:Cx)(x:Str):Prop:=X.env.kindOf x=some .globalImplicit
theorem vJ{σ:St}{H:Hp}{x:Str}{pos:Pos}(I:Inv X pins σ H s)(hg:Gl X x)(hm:X.mg x=some u)(h:Q u s)
  (hd:(x==("__debug__":Str))=false:=by decide):wpAny (model X.prog X.w) X.A (eval (.Name x pos) X.env) Q E s :=
 Calls.Name_function_global I.ok.kind hg (Calls.loadGlobal_global (by rw[I.ok.glob];exact I.mod.glob.keeps I.bk) hm h) hd
theorem KY{σ:St}{H:Hp}{x:Str}{pos:Pos}(I:Inv X pins σ H s)(hg:Gl X x)(hm:X.mg x=none)(hv:bootBuiltins x=some u)(h:Q u s)
  (hn:x ≠ "__name__":=by decide) (hd:(x==("__debug__":Str))=false:=by decide):wpAny (model X.prog X.w) X.A (eval (.Name x pos) X.env) Q E s:=by
 obtain⟨mb,h1,h2⟩:=I.mod.blt;exact Calls.Name_function_global I.ok.kind hg (Calls.loadGlobal_builtin (by rw[I.ok.glob];exact I.mod.glob.keeps I.bk) hm (by rw[I.ok.blt];exact h1.keeps I.bk) ((h2 x hn).trans hv) h) hd
theorem yW{x:Str}{v:V}{pos:Pos}(hg:Gl X x)(hm:X.mg x=some u)(r:RelV v u)(hd:(x==("__debug__":Str))=false:=by decide):PE X (.Name x pos) (tC v):=λ_ _ _ H _ I h=>vJ I hg hm ⟨v,H,I,r,h⟩ hd
theorem OU{x:Str}{v:V}{pos:Pos}(hg:Gl X x)(hm:X.mg x=none)(hv:bootBuiltins x=some u)(r:RelV v u)(hn:x ≠ "__name__":=by decide)(hd:(x==("__debug__":Str))=false:=by decide):PE X (.Name x pos) (tC v):=λ_ _ _ H _ I h=>KY I hg hm hv ⟨v,H,I,r,h⟩ hn hd
variable {a b:Expr}{ta tb:TE}{pos:Pos}
def tB(t:TE):TT:=λσ H Q=>t σ H λx H1=>∃c,x=.bl c/\Q c H1
theorem OE{e:Expr}{t:TE}(h:PE X e t)(he:∀whole,isTrue e X.env whole=(do let v<-whole;standAt e.pos;holding [v] (truthy v)):=by intro _;rfl):PT X e (tB t):=by intro pins s σ H Q I hw;refine isTrue_plain (vX (h pins s σ H _ I hw) λv s1 ⟨x,H1,I1,r1,q1⟩=>?_)<|he _;obtain⟨d,rfl,q⟩:=q1;cases r1;exact wpAny_truthy_bool ⟨H1,I1,q⟩
variable {tA tB':TT}{rest:List Expr}
def QE(t u:TT):TT:=λσ H Q=>t σ H λc H1=>if c=true then u σ H1 Q else Q false H1
def aR(t u:TT):TT:=λσ H Q=>t σ H λc H1=>if c=true then Q true H1 else u σ H1 Q
def RE(t:TT):TT:=λσ H Q=>t σ H λc H1=>Q (!c) H1
theorem sy(ha:PT X a tA):PW X (.BoolOp .And [a] pos) tA:=by
 intro wh pins s σ H Q I h;refine isTrue_and<|vX (ha pins s σ H Q I h) λc s1 e=>?_;cases c with
 |true=>exact isTrue_and_nil e
 |false=>exact e
theorem SE(ha:PT X a tA):PW X (.BoolOp .Or [a] pos) tA:=by
 intro wh pins s σ H Q I h;refine isTrue_or<|vX (ha pins s σ H Q I h) λc s1 e=>?_;cases c with
 |false=>exact isTrue_or_nil e
 |true=>exact e
theorem UE(ha:PT X a tA)(hb:PW X (.BoolOp .And (b::rest) pos) tB'):PW X (.BoolOp .And (a::b::rest) pos) (QE tA tB'):=by
 intro wh pins s σ H Q I h;refine isTrue_and<|vX (ha pins s σ H _ I h) λc s1 ⟨H1,I1,q1⟩=>?_;cases c with
 |true=>exact hb wh pins s1 σ H1 Q I1 q1
 |false=>exact⟨H1,I1,q1⟩
theorem yN(ha:PT X a tA)(hb:PW X (.BoolOp .Or (b::rest) pos) tB'):PW X (.BoolOp .Or (a::b::rest) pos) (aR tA tB'):=by
 intro wh pins s σ H Q I h;refine isTrue_or<|vX (ha pins s σ H _ I h) λc s1 ⟨H1,I1,q1⟩=>?_;cases c with
 |true=>exact⟨H1,I1,q1⟩
 |false=>exact hb wh pins s1 σ H1 Q I1 q1
theorem VE(ha:PT X a tA):PT X (.UnaryOp .Not a pos) (RE tA):=by intro pins s σ H Q I h;exact isTrue_not<|ha pins s σ H (λc H1=>Q (!c) H1) I h
def Uj(ta tb:TE):TE:=λσ H Q=>ta σ H λx H1=>∃c,x=.bl c/\if c=true then tb σ H1 Q else Q (.bl false) H1
def Vj(ta:TE):TE:=λσ H Q=>ta σ H λx H1=>∃c,x=.bl c/\Q (.bl<|!c) H1
theorem XE(h:PE X a t):PE X (.BoolOp op [a] pos) t:=λpins s σ H Q I hw=>BoolOp_one<|h pins s σ H Q I hw
theorem YE(ha:PE X a ta)(hb:PE X (.BoolOp .And (b::rest) pos) tb):PE X (.BoolOp .And (a::b::rest) pos) (Uj ta tb):=by
 intro pins s σ H Q I h;refine BoolOp_and<|vX (ha pins s σ H _ I h) λv s1 ⟨x,H1,I1,r1,q1⟩=>?_;obtain⟨c,rfl,q1⟩:=q1;cases r1;refine wpAny_truthy_bool ?_;cases c with
 |true=>exact hb pins s1 σ H1 Q I1 q1
 |false=>exact⟨.bl false,H1,I1,rfl,q1⟩
theorem ZE(ha:PE X a ta):PE X (.UnaryOp .Not a pos) (Vj ta):=by intro pins s σ H Q I h;refine UnaryOp_<|vX (ha pins s σ H _ I h) λv s1 ⟨x,H1,I1,r1,q1⟩=>?_;obtain⟨c,rfl,q1⟩:=q1;cases r1;exact not_of<|wpAny_truthy_bool ⟨.bl<|!c,H1,I1,rfl,q1⟩
end
def SqL(K:G0)(H:Hp)(a:Addr)(xs:List V):Prop :=
 Rd H a (.lst xs) \/
  ∃(o:Obj) (its:Array Value) (n:Nat),K.lookup a=some o/\o.cls=.type "list"/\o.dict=none/\o.data=.seq its n/\its.size<=sizeLine/\Vals xs its.toList
def SqT(K:G0)(H:Hp)(a:Addr)(xs:List V):Prop :=
 Rd H a (.tup xs) \/
  ∃(o:Obj) (its:Array Value) (n:Nat),K.lookup a=some o/\o.cls=.type "tuple"/\o.data=.seq its n/\its.size<=sizeLine/\Vals xs its.toList
noncomputable def bR:Value->Option V
 | .none=>some .non
 | .bool b=>some<|.bl b
 | .int i _=>some<|.int i
 | .str x _=>some<|.str x
 | .bytes b _=>some<|.byt b
 | .float b _=>some<|.flt b
 | .ref a=>some<|.ref a
 | .type n=>some<|.ty n
 |_=>none
theorem RelV.abs(r:RelV x u):bR u=some x:=by
 cases x with
 |non=>cases r;rfl
 |bl _=>cases r;rfl
 |int _=>obtain⟨t,rfl⟩:=r;rfl
 |str _=>obtain⟨t,rfl⟩:=r;rfl
 |byt _=>obtain⟨t,rfl⟩:=r;rfl
 |flt _=>obtain⟨t,rfl⟩:=r;rfl
 |ref _=>cases r;rfl
 |ty _=>cases r;rfl
theorem RelV.inj{y:V}(r:RelV x u)(q:RelV y u):x=y:=W1<|r.abs.symm.trans q.abs
theorem Vals.inj:∀{xs ys:List V}{us:List Value},Vals xs us->Vals ys us->xs=ys
 |_,_,_,.nil,.nil=>rfl
 |_,_,_,.cons r t,.cons r' t'=>by rw[r.inj r',Vals.inj t t']
section
variable {X:Cx}{σ:St}{H:Hp}{a:Addr}{xs ys:List V}
theorem SqL.of{K:G0}(h:H a=some (.lst xs)):SqL K H a xs:=.inl<|.inl h
theorem SqT.of{K:G0}(h:H a=some (.tup xs)):SqT K H a xs:=.inl<|.inl h
theorem Inv.list(I:Inv X pins σ H s)(h:SqL X.K H a xs):∃its:List Value,Vals xs its/\PlainL s.heap a its.toArray/\xs.length<=sizeLine:=by
 rcases h with h|⟨o,its,n,hk,hc,hd,hs,hz,r⟩
 .obtain⟨z,its,n,r,e⟩:=h.ok I.hok;exact⟨its,r,⟨_,n,e,rfl,rfl,rfl⟩,z⟩
 .refine⟨its.toList,r,⟨o,n,I.kIn a o hk,hc,hd,by simpa using hs⟩,?_⟩;have e:=r.length;simp only[G3]at e
  lia
theorem Inv.tuple(I:Inv X pins σ H s)(h:SqT X.K H a xs):∃its:List Value,Vals xs its/\IsTup s.heap a its.toArray/\xs.length<=sizeLine:=by
 rcases h with h|⟨o,its,n,hk,hc,hs,hz,r⟩
 .obtain⟨z,its,r,p⟩:=h.ok I.hok;exact⟨its,r,p.t,z⟩
 .refine⟨its.toList,r,⟨o,I.kIn a o hk,hc,n,by simpa using hs⟩,?_⟩;have e:=r.length;simp only[G3]at e
  lia
theorem Inv.list_inj(I:Inv X pins σ H s)(h:SqL X.K H a xs)(h':SqL X.K H a ys):xs=ys:=by
 obtain⟨its,r,⟨o,n,e,_,_,d⟩,_⟩:=I.list h;obtain⟨its',r',⟨o',n',e',_,_,d'⟩,_⟩:=I.list h';rw[e]at e';cases e';rw[d]at d';injection d' with d1 _;have:its=its':=by simpa using congrArg Array.toList d1
 subst this;exact r.inj r'
theorem Inv.tuple_inj(I:Inv X pins σ H s)(h:SqT X.K H a xs)(h':SqT X.K H a ys):xs=ys:=by
 obtain⟨its,r,⟨o,e,_,n,d⟩,_⟩:=I.tuple h;obtain⟨its',r',⟨o',e',_,n',d'⟩,_⟩:=I.tuple h';rw[e]at e';cases e';rw[d]at d';injection d' with d1 _;have:its=its':=by simpa using congrArg Array.toList d1
 subst this;exact r.inj r'
end
noncomputable abbrev Cx.wish(X:Cx)(E:Value->Shared->Prop):Cx:={X with xe:=E}
noncomputable abbrev Cx.nox(X:Cx):Cx:=X.wish λ_ _=>False
theorem Cx.Ok.wish{X:Cx}(ok:X.Ok)(E:Value->Shared->Prop):(X.wish E).Ok:=⟨ok.mod,ok.kind,ok.glob,ok.blt,ok.above,ok.inj,ok.has,ok.cab,ok.hd,ok.frames,ok.stk,ok.exf,ok.bs,ok.bsz,ok.noex,ok.exfs,ok.funs,ok.frf⟩
theorem Cx.Ok.unwish{X:Cx}(ok:(X.wish E).Ok):X.Ok:=⟨ok.mod,ok.kind,ok.glob,ok.blt,ok.above,ok.inj,ok.has,ok.cab,ok.hd,ok.frames,ok.stk,ok.exf,ok.bs,ok.bsz,ok.noex,ok.exfs,ok.funs,ok.frf⟩
section
variable {X:Cx}{σ:St}{H:Hp}
theorem Inv.wish(I:Inv X pins σ H s)(E:Value->Shared->Prop):Inv (X.wish E) pins σ H s:=⟨I.ok.wish E,I.os,I.bare,I.base,I.loc,I.cell,I.free,I.freeC,I.pin,I.hok,I.len⟩
theorem Inv.unwish(I:Inv (X.wish E) pins σ H s):Inv X pins σ H s:=⟨I.ok.unwish,I.os,I.bare,I.base,I.loc,I.cell,I.free,I.freeC,I.pin,I.hok,I.len⟩
theorem SP.unwish(h:SP (X.wish E) pins D f s'):SP X pins D f s':=by
 cases f with
 |next=>obtain⟨σ',H',I,q⟩:=h;exact⟨σ',H',I.unwish,q⟩
 |brk=>obtain⟨σ',H',I,q⟩:=h;exact⟨σ',H',I.unwish,q⟩
 |cont=>obtain⟨σ',H',I,q⟩:=h;exact⟨σ',H',I.unwish,q⟩
 |ret u=>obtain⟨v,σ',H',I,r,q⟩:=h;exact⟨v,σ',H',I.unwish,r,q⟩
theorem PT.nox(h:PT X.nox e t):PT X e t:=λpins s σ H Q I hw=>wpAny_mono (h pins s σ H Q (I.wish _) hw) (λ_ _ ⟨H',I',q⟩=>⟨H',I'.unwish,q⟩) λ_ _ z=>False.elim z
theorem PSs.nox{st:List Stmt}(h:PSs X.nox st t):PSs X st t:=λpins s σ H D I hw=>wpAny_mono (h pins s σ H D (I.wish _) hw) (λ_ _ q=>q.unwish) λ_ _ z=>False.elim z
end
section
variable {X:Cx}{st:Stmt}{rest:List Stmt}{t u:TS}{e:Expr}{te:TE}{pos:Pos}
def Wj:TS:=λD σ H=>D.nx σ H
def uy(t u:TS):TS:=λD σ H=>t {D with nx:=u D} σ H
theorem FD:PSs X [] Wj:=λ_ _ σ H _ I h=>wpAny_execs_nil ⟨σ,H,I,h⟩
theorem Xj(h1:PS X st t)(h2:PSs X rest u):PSs X (st::rest) (uy t u):=by
 intro pins s σ H D I h;refine wpAny_execs_cons<|vX (h1 pins s σ H {D with nx:=u D} I h) λf s1 q=>?_;cases f with
 |next=>obtain⟨σ',H',I',q⟩:=q;exact h2 pins s1 σ' H' D I' q
 |ret v=>exact q
 |brk=>exact q
 |cont=>exact q
theorem PU(h1:PS X st t):PSs X [st] t:=by
 intro pins s σ H D I h;refine wpAny_execs_cons<|vX (h1 pins s σ H D I h) λf s1 q=>?_;cases f with
 |next=>exact wpAny_execs_nil q
 |ret v=>exact q
 |brk=>exact q
 |cont=>exact q
theorem Inv.quiet{σ:St}(I:Inv X pins σ H s):interactive X.env=false:=by simp[interactive,I.ok.kind]
def Yj(te:TE):TS:=λD σ H=>te σ H λ_ H1=>D.nx σ H1
theorem vy(he:PE X e te)(hs:swapsWith e none pos.line X.env=pure false:=by rfl):PS X (.Expr e pos) (Yj te):=by intro pins s σ H D I h;exact wpAny_Expr_any (vX (he pins s σ H _ I h) λv s1 ⟨x,H1,I1,r1,q1⟩=>⟨σ,H1,I1,q1⟩) I.quiet hs
def Zj(te:TE):TS:=λD σ H=>te σ H D.rt
theorem ax(he:PE X e te):PS X (.Return (some e) pos) (Zj te):=by intro pins s σ H D I h;exact wpAny_Return_some<|vX (he pins s σ H _ I h) λv s1 ⟨x,H1,I1,r1,q1⟩=>⟨x,σ,H1,I1,r1,q1⟩
def aI(c:TT)(t u:TS):TS:=λD σ H=>c σ H λb H1=>if b=true then t D σ H1 else u D σ H1
theorem AC(hc:PT X c tc)(ha:PSs X a t)(hb:PSs X b u):PS X (.If c a b pos) (aI tc t u):=by
 intro pins s σ H D I h;refine wpAny_If<|vX (hc pins s σ H _ I h) λd s1 ⟨H1,I1,q1⟩=>?_;cases d with
 |true=>exact ha pins s1 σ H1 D I1 q1
 |false=>exact hb pins s1 σ H1 D I1 q1
end
noncomputable abbrev TG:=V->St->Hp->(St->Hp->Prop)->Prop
noncomputable abbrev iy:=List V->St->Hp->(St->Hp->Prop)->Prop
def PG(X:Cx)(target:Expr)(t:TG):Prop :=
 ∀(pins:List (Addr×Obj)) (s:Shared) (σ:St) (H:Hp) (v:V) (u:Value) (Q:St->Hp->Prop),Inv X pins σ H s->RelV v u->t v σ H Q ->
  wpAny (model X.prog X.w) X.A (assign target X.env u) (λ_ s'=>∃σ' H',Inv X pins σ' H' s'/\Q σ' H') X.xe s
def BC(X:Cx)(ts:List Expr)(t:iy):Prop :=
 ∀(pins:List (Addr×Obj)) (s:Shared) (σ:St) (H:Hp) (vs:List V) (us:List Value) (Q:St->Hp->Prop),Inv X pins σ H s->Vals vs us->t vs σ H Q ->
  wpAny (model X.prog X.w) X.A (assignInOrder ((assignEach ts X.env).map (·.2)) us) (λ_ s'=>∃σ' H',Inv X pins σ' H' s'/\Q σ' H') X.xe s
section
variable {X:Cx}{pos:Pos}
def eK(i:Nat):TG:=λv σ H Q=>Q (σ.set i<|some v) H
theorem wy{i:Nat}{x:Str}(hN:X.N.Nodup)(hi:X.N[i]?=some x)(hx:gy X.env.scope x)(hf:X.fn x=true\/X.env.scope.names.lookup x=some .local:=by first|exact .inl rfl|exact .inr rfl|assumption):PG X (.Name x pos) (eK i):=by intro pins s σ H v u Q I r h;exact wpAny_assign_Name<|cK I hN hi hx r (λs' I'=>⟨_,H,I',h⟩) hf
noncomputable def zN:iy:=λvs σ H Q=>vs=[]/\Q σ H
noncomputable def CC(t:TG)(u:iy):iy:=λvs σ H Q=>∃v r,vs=v::r/\t v σ H λσ' H'=>u r σ' H' Q
theorem xy:BC X [] zN:=by intro pins s σ H vs us Q I r h;obtain⟨e,h⟩:=h;subst e;cases r;exact assignInOrder_nil ⟨σ,H,I,h⟩
theorem bx{e:Expr}{es:List Expr}{t:TG}{u:iy}(h1:PG X e t)(h2:BC X es u)
  (hs:(assignEach (e::es) X.env).map (·.2)=assign e X.env::(assignEach es X.env).map (·.2):=by rfl):BC X (e::es) (CC t u):=by
 intro pins s σ H vs us Q I r h;obtain⟨v,vr,e1,h⟩:=h;subst e1;cases r with
 |cons r rr=>rw[hs];refine assignInOrder_cons<|vX (h1 pins s σ H _ _ _ I r h) λ_ s1 ⟨σ1,H1,I1,q1⟩=>?_;exact h2 pins s1 σ1 H1 _ _ Q I1 rr q1
def yy(K:G0)(n:Nat)(t:iy):TG:=λv σ H Q=>∃a xs,v=.ref a/\SqT K H a xs/\xs.length=n/\t xs σ H Q
theorem bI{es:List Expr}{k:Nat}{t:iy}(hc:X.calm=true)(h:BC X es t)
  (hn:(assignEach es X.env).length=n:=by rfl) (hst:(assignEach es X.env).findIdx? (·.1)=none:=by rfl):PG X (.Tuple es k pos) (yy X.K n t):=by
 intro pins s σ H v u Q I r hw;obtain⟨a,xs,e1,hq,hl,hw⟩:=hw;subst e1;cases r;obtain⟨its,rv,ht,hz⟩:=I.tuple hq;refine assign_Tuple_tuple (I.ok.hd hc) ht (by simp[hn,<-hl,rv.length]) hst λh' hx=>?_;have I1:Inv X pins σ H {s with heap:=h'}:=I.kept (t':=s.toks) λb o e=>hx b o (V0<|U0 e) e;exact h pins _ σ H xs _ Q I1 (by simpa using rv) hw
def KW(te:TE)(g:TG):TS:=λD σ H=>te σ H λx H1=>g x σ H1 D.nx
theorem cI{e:Expr}{te:TE}{g:TG}(he:PE X e te)(hg:PG X tg g)(hs:swapsWithSole [tg] e pos.line X.env=pure false:=by rfl)(hw:swappedStores [tg] e X.env=pure none:=by rfl)
  (h1:(assignEach [tg] X.env).map (·.2)=[assign tg X.env]:=by rfl):PS X (.Assign [tg] e pos) (KW te g):=by
 intro pins s σ H D I h;refine wpAny_Assign_stores (vX (he pins s σ H _ I h) λv s1 ⟨x,H1,I1,r1,q1⟩=>?_) hs hw;rw[h1];exact vX (hg pins s1 σ H1 x v _ I1 r1 q1) λ_ s2 q=>q
theorem UG{i:Nat}{x:Str}{e:Expr}{te:TE}{pos':Pos}(hN:X.N.Nodup)(hi:X.N[i]?=some x)(hx:gy X.env.scope x)(he:PE X e te)(hs:swapsWith e (some<|.Name x pos') pos.line X.env=pure false:=by rfl)(hf:X.fn x=true\/X.env.scope.names.lookup x=some .local:=by first|exact .inl rfl|exact .inr rfl|assumption) :
  PS X (.Assign [.Name x pos'] e pos) (KW te<|eK i):=by
 intro pins s σ H D I h;refine wpAny_Assign_Name (vX (he pins s σ H _ I h) λv s1 ⟨y,H1,I1,r1,q1⟩=>?_) hs;exact cK I1 hN hi hx r1 (λs2 I2=>⟨_,H1,I2,q1⟩) hf
def AN(i j:Nat)(ta:TA):TS:=λD σ H=>ta σ H λvs H1=>∃v w,vs=[v,w]/\D.nx ((σ.set i<|some v).set j<|some w) H1
theorem dI{i j:Nat}{x:Str}{a b:Expr}{ta:TA}{px py pt:Pos}{kt k2 pt2}(hc:X.calm=true)(hN:X.N.Nodup)(hi:X.N[i]?=some x)(hj:X.N[j]?=some y)(hij:i≠j)
  (hx:X.env.scope.names.lookup x=some .local) (hy:X.env.scope.names.lookup y=some .local) (ha:PA X [a,b] ta)
  (hw:swappedStores [.Tuple [.Name x px,.Name y py] kt pt] (.Tuple [a,b] k2 pt2) X.env=pure (some [x,y]))
  (hs:swapsWithSole [.Tuple [.Name x px,.Name y py] kt pt] (.Tuple [a,b] k2 pt2) pos.line X.env=pure false:=by rfl) :
  PS X (.Assign [.Tuple [.Name x px,.Name y py] kt pt] (.Tuple [a,b] k2 pt2) pos) (AN i j ta):=by
 intro pins s σ H D I h;rw[exec_Assign_arm];refine wpAny_bind<|wpAny_standAt ?_;rw[hs];refine wpAny_bind<|wpAny_pure ?_;rw[if_neg<|by decide];refine wpAny_bind<|Tuple_<|vX (ha _ pins s σ H _ I h) λus s1 ⟨vs,H1,I1,r1,q1⟩=>?_;obtain⟨v,w,e1,q1⟩:=q1;subst e1;obtain⟨u1,u2,rfl,rv,rw'⟩:∃u1 u2,us=[u1,u2]/\RelV v u1/\RelV w u2:=by
  cases r1 with
  |cons p q =>
   cases q with
   |cons p' q'=>cases q';exact⟨_,_,rfl,p,p'⟩
 refine wpAny_newObj_type ?_ (by show 2<=sizeLine;decide);have I2:Inv X pins σ H1 {s1 with heap:=s1.heap.push {cls:=.type "tuple",data:=.seq [u1,u2].toArray}}:=I1.kept (t':=s1.toks) λb o e=>u0 _ e;rw[hw];refine wpAny_bind<|wpAny_pure ?_;show wpAny (model X.prog X.w) X.A (do rule "assign.swapped-stores";let items<-unpackItems (.ref s1.heap.objs.size) 2 none;assignInOrder [λv=>bindName X.env y v,λv=>bindName X.env x v] items.reverse;pure Flow.next) _ _ _;refine wpAny_bind<|wpAny_rule<|wpAny_bind<|unpackItems_tuple (items:=#[u1,u2]) (I.ok.hd hc) (IsTup.new s1.heap _) λh' hx'=>?_;have I3:=I2.kept (h':=h') (t':=s1.toks) λb o e=>hx' b o (V0<|U0 e) e;show wpAny _ _ (assignInOrder [λv=>bindName X.env y v,λv=>bindName X.env x v] [u2,u1] >>= λ_=>pure Flow.next) _ _ _;refine wpAny_bind<|assignInOrder_cons<|wpAny_bindName<|cK I3 hN hj (.inl hy) rw' (λs2 I4=>?_)<|.inr hy;refine assignInOrder_cons<|wpAny_bindName<|cK I4 hN hi (.inl hx) rv (λs3 I5=>assignInOrder_nil<|wpAny_pure ?_)<|.inr hx;rw[List.set_comm _ _<|S2 hij]at I5;exact⟨_,H1,I5,q1⟩
end
section
variable {X:Cx}{pos:Pos}
end
structure It where
 go:Nat->Hp->Prop
 yld:Nat->Hp->V->Hp->Prop
 stop:Nat->Hp->Prop
def uW(X:Cx)(pins:List (Addr×Obj))(H:Hp)(b:Addr):Prop:=H b=none/\b≠X.env.locals/\b∉X.fs/\(b∈X.ex\/X.s₀.heap.objs.size<=b)/\(∀x c,X.env.cells.lookup x=some c->c≠b)/\∀p∈X.pn++pins,p.1≠b
theorem Inv.fpOk{σ:St}{b:Addr}(I:Inv X pins σ H s)(hb:s.heap.objs.size<=b)(hn:H' b=none):uW X pins H' b:=by
 refine⟨hn,v3<|Q0 I.lt hb,I.nofs hb,.inr<|T1 I.sz hb,λx c e z=>?_,λp hp z=>?_⟩
 .obtain⟨v,q⟩:=I.cell x c e;exact absurd (Q0 q.lt<|by rw[z];exact hb)<|T2 _
 .exact absurd (Q0 (U0 (I.pin p hp).1)<|by rw[z];exact hb) (T2 _)
structure Turn(P:Program)(w:World)(K:G0)(tg:Expr)(J:It)(fp:List Addr)(it:Addr)(tn:Nat->Heap->Prop):Prop where
 mem:it∈fp
 obj:∀i h,tn i h->∀b∈fp,∃o,h.get? b=some o/\∀v,o.data≠.cell v
 keep:∀i h h',tn i h->(∀b∈fp,∀o,h.get? b=some o->h'.get? b=some o)->tn i h'
 item:∀(X:Cx),X.prog=P->X.w=w->X.K=K->X.calm=true->∀(i:Nat) (pins:List (Addr×Obj)) (s:Shared) (σ:St) (H:Hp) (E:Value->Shared->Prop),Inv X pins σ H s->(∀b∈fp,uW X pins H b)->tn i s.heap->J.go i H ->
  wpAny (model P w) X.A (pyNext<|.ref it) (λr s1=>∃u,r=some u /\
    wpAny (model P w) X.A (letOwnedTupleGo tg (.ref it) u) (λ_ s2=>∃x H',Inv X pins σ H' s2/\RelV x u/\J.yld i H x H'/\tn (i+1) s2.heap/\∀b∈fp,H' b=none) E s1) E s
 done:∀(X:Cx),X.prog=P->X.w=w->X.K=K->X.calm=true->∀(i:Nat) (pins:List (Addr×Obj)) (s:Shared) (σ:St) (H:Hp) (E:Value->Shared->Prop),Inv X pins σ H s->(∀b∈fp,uW X pins H b)->tn i s.heap->J.stop i H ->
  wpAny (model P w) X.A (pyNext<|.ref it) (λr s1=>r=none/\Inv X pins σ H s1) E s
 self:∀(A:Around) (i:Nat) (s:Shared) (Q:Value->Shared->Prop) (E:Value->Shared->Prop),tn i s.heap->Q (.ref it) s->wpAny (model P w) A (pyIter<|.ref it) Q E s
noncomputable abbrev TI:=St->Hp->(It->Hp->Prop)->Prop
def XR(X:Cx)(pins:List (Addr×Obj))(σ:St)(tg:Expr)(R:It->Hp->Prop)(itv:Value)(s2:Shared):Prop:=∃(it:Addr) (fp:List Addr) (tn:Nat->Heap->Prop) (J:It) (H':Hp),itv=.ref it/\Inv X pins σ H' s2/\Turn X.prog X.w X.K tg J fp it tn/\tn 0 s2.heap/\(∀b∈fp,uW X pins H' b)/\R J H'
def PI(X:Cx)(tg iter:Expr)(wi:TI):Prop :=
 ∀(pins:List (Addr×Obj)) (s:Shared) (σ:St) (H:Hp) (R:It->Hp->Prop),Inv X pins σ H s->wi σ H R ->
  wpAny (model X.prog X.w) X.A (eval iter X.env) (λv s1=>wpAny (model X.prog X.w) X.A (pyIter v) (XR X pins σ tg R) X.xe s1) X.xe s
theorem cx{n:String}{Q:Unit->Shared->Prop}(ho:s.heap.get? it=some o)(hc:o.cls=.type n)(hd:o.data=.fields vs)(hn:["enumerate","zip","dict_itemiterator","dict_reverseitemiterator","odict_iterator","itertools.zip_longest","itertools.pairwise"].contains n=false) (hQ:Q () s):wpAny M A (letOwnedTupleGo tg (.ref it) u) Q E s:=by
 unfold letOwnedTupleGo;cases tg<;>first
  |exact wpAny_pure hQ
  | (cases u<;>first
      |exact wpAny_pure hQ
      | (refine wpAny_bind<|wpAny_load ho ?_
         rw[hc,hd];show wpAny M A (if (["enumerate","zip","dict_itemiterator","dict_reverseitemiterator","odict_iterator","itertools.zip_longest","itertools.pairwise"].contains n&&vs[0]?==some (rawInt _))=true then _ else _) Q E s;rw[if_neg<|by intro h;rw[hn,W8]at h;cases h];exact wpAny_pure hQ))
noncomputable def cR(K:G0)(a:Addr):It:=⟨λi H=>∃xs x,SqL K H a xs/\xs[i]?=some x,λi H x H'=>H'=H/\∀xs,SqL K H a xs->xs[i]?=some x,λi H=>∃xs,SqL K H a xs/\xs.length<=i⟩
noncomputable def dR(K:G0)(a:Addr):It:=⟨λi H=>∃xs x,SqT K H a xs/\xs[i]?=some x,λi H x H'=>H'=H/\∀xs,SqT K H a xs->xs[i]?=some x,λi H=>∃xs,SqT K H a xs/\xs.length<=i⟩
noncomputable def BN(lo:Int)(n:Nat):It:=⟨λi _=>i<n,λi H x H'=>H'=H/\x=.int (lo+i),λi _=>n<=i⟩
theorem rz{K:G0}(a it:Addr):Turn P w K tg (cR K a) [it] it (λi h=>h.IsListIter it a i) where
 mem:=by simp
 obj:=λi h st b hb=>by
  have e:b=it:=by simpa using hb
  subst e;obtain⟨o,e,c,d⟩:=st;exact⟨o,e,λv z=>by rw[d]at z;cases z⟩
 keep:=λi h h' st k=>st.at λo e=>k it (by simp) o e
 item:=by intro X hP hw hK hc i pins s σ H E I hf st hg;subst hP hw hK;obtain⟨xs,x,hq,hx⟩:=hg;obtain⟨its,rv,p,hz⟩:=I.list hq;obtain⟨u,hu,ru⟩:=rv.get hx;obtain⟨f0,f1,f2,f3,f4,f5⟩:=hf it (by simp);refine wpAny_pyNext_list_item st p.isList (x:=u) (by simpa using hu) λh' st' sb=>?_;have I1:Inv X pins σ H {s with heap:=h'}:=I.turned (t':=s.toks) (λb o hb e=>(sb.2 b hb).trans e) f0 f1 f3 f4 f5;obtain⟨o,e,c,d⟩:=id st';exact⟨u,rfl,cx (s:={s with heap:=h'}) e c d (by decide) ⟨x,H,I1,ru,⟨rfl,λys hy=>by rw[I.list_inj hy hq];exact hx⟩,st',λb hb=>(hf b hb).1⟩⟩
 done:=by intro X hP hw hK hc i pins s σ H E I hf st hg;subst hP hw hK;obtain⟨xs,hq,hx⟩:=hg;obtain⟨its,rv,p,hz⟩:=I.list hq;obtain⟨f0,f1,f2,f3,f4,f5⟩:=hf it (by simp);have hl:=rv.length;exact wpAny_pyNext_list_end (I.ok.hd hc) st p.isList (by simp;lia) λh' eb=>⟨rfl,I.turned (t':=s.toks) (λb o hb e=>eb b o hb e) f0 f1 f3 f4 f5⟩
 self:=λ_ _ _ _ _ st h=>wpAny_pyIter_listiter st h
theorem VG{K:G0}(a it:Addr):Turn P w K tg (dR K a) [it] it (λi h=>h.IsTupleIter it a i) where
 mem:=by simp
 obj:=λi h st b hb=>by
  have e:b=it:=by simpa using hb
  subst e;obtain⟨o,e,c,d⟩:=st;exact⟨o,e,λv z=>by rw[d]at z;cases z⟩
 keep:=λi h h' st k=>st.at λo e=>k it (by simp) o e
 item:=by intro X hP hw hK hc i pins s σ H E I hf st hg;subst hP hw hK;obtain⟨xs,x,hq,hx⟩:=hg;obtain⟨its,rv,p,hz⟩:=I.tuple hq;obtain⟨u,hu,ru⟩:=rv.get hx;obtain⟨f0,f1,f2,f3,f4,f5⟩:=hf it (by simp);refine wpAny_pyNext_tuple_item st (show s.heap.IsTuple a its.toArray from p) (x:=u) (by simpa using hu) λh' st' sb=>?_;have I1:Inv X pins σ H {s with heap:=h'}:=I.turned (t':=s.toks) (λb o hb e=>(sb.2 b hb).trans e) f0 f1 f3 f4 f5;obtain⟨o,e,c,d⟩:=id st';exact⟨u,rfl,cx (s:={s with heap:=h'}) e c d (by decide) ⟨x,H,I1,ru,⟨rfl,λys hy=>by rw[I.tuple_inj hy hq];exact hx⟩,st',λb hb=>(hf b hb).1⟩⟩
 done:=by intro X hP hw hK hc i pins s σ H E I hf st hg;subst hP hw hK;obtain⟨xs,hq,hx⟩:=hg;obtain⟨its,rv,p,hz⟩:=I.tuple hq;obtain⟨f0,f1,f2,f3,f4,f5⟩:=hf it (by simp);have hl:=rv.length;exact wpAny_pyNext_tuple_end (I.ok.hd hc) st (show s.heap.IsTuple a its.toArray from p) (by simp;lia) λh' eb=>⟨rfl,I.turned (t':=s.toks) (λb o hb e=>eb b o hb e) f0 f1 f3 f4 f5⟩
 self:=λ_ _ _ _ _ st h=>wpAny_pyIter_tupleiter st h
theorem XG{K:G0}(it:Addr)(lo:Int)(n:Nat):Turn P w K tg (BN lo n) [it] it (λi h=>IsRangeIter h it (lo+(i:Nat)*1) ((n:Int)-(i:Nat)) 1) where
 mem:=by simp
 obj:=λi h st b hb=>by
  have e:b=it:=by simpa using hb
  subst e;exact⟨_,st,λv z=>by have z':Data.fields _=Data.cell v:=z;cases z'⟩
 keep:=λi h h' st k=>k it (by simp) _ st
 item:=by intro X hP hw hK hc i pins s σ H E I hf st hg;subst hP hw hK;obtain⟨f0,f1,f2,f3,f4,f5⟩:=hf it (by simp);have W:=Walks.range (prog:=X.prog) (w:=X.w) (I.ok.hd hc) it lo 1 n;refine W.item i s _ _ hg st λv h' tk hv st' kk=>?_;obtain⟨t,rfl⟩:=hv;have I1:Inv X pins σ H {s with heap:=h',toks:=tk}:=I.turned (λb o hb e=>kk b o (by simpa using hb) e) f0 f1 f3 f4 f5;refine⟨_,rfl,cx (s:={s with heap:=h',toks:=tk}) (n:="range_iterator") st' rfl rfl (by decide) ⟨.int<|lo+i,H,I1,⟨t,?_⟩,⟨rfl,rfl⟩,st',λb hb=>(hf b hb).1⟩⟩;rw[u7]
 done:=by intro X hP hw hK hc i pins s σ H E I hf st hg;subst hP hw hK;obtain⟨f0,f1,f2,f3,f4,f5⟩:=hf it (by simp);exact wpAny_pyNext_range_end (I.ok.hd hc) st (by have:n<=i:=hg;lia) λh' eb=>⟨rfl,I.turned (t':=s.toks) (λb o hb e=>eb b o hb e) f0 f1 f3 f4 f5⟩
 self:=λ_ _ _ _ _ st h=>wpAny_pyIter_rangeiter st h
section
variable {X:Cx}
theorem BH{σ:St}{lo:Int}{u:Tok}(I:Inv X pins σ H s)(h1:-(2 ^ 62)<=lo)(h2:lo<2 ^ 62)(h3:-(2 ^ 62)<=hi)(h4:hi<2 ^ 62)(q:R (BN lo (hi-lo).toNat) H):wpAny (model X.prog X.w) X.A (pyIter<|.ref s.heap.objs.size) (XR X pins σ tg R) E {s with heap:=s.heap.push {cls:=.type "range",data:=.fields #[.int lo t,.int hi u,.int 1 v]},toks:=tk}:=by
 refine wpAny_pyIter_range (IsRange.new ..) (small_one h1 h2 h3 h4) ?_;have I1:Inv X pins σ H {s with heap:=s.heap.push {cls:=.type "range",data:=.fields #[.int lo t,.int hi u,.int 1 v]},toks:=tk}:=I.kept λb o e=>u0 _ e;refine⟨(s.heap.push {cls:=.type "range",data:=.fields #[.int lo t,.int hi u,.int 1 v]}).objs.size,[(s.heap.push {cls:=.type "range",data:=.fields #[.int lo t,.int hi u,.int 1 v]}).objs.size],_,_,H,rfl,
   I1.kept (t':=tk) λb o e=>u0 _ e,XG _ lo (hi-lo).toNat,?_,λb hb=>?_,q⟩
 .have e1:lo+((0:Nat):Int)*1=lo:=by simp
  have e2:(((hi-lo).toNat:Nat):Int)-((0:Nat):Int)=u8 lo hi 1:=by rw[rangeSize_one];split<;>lia
  show IsRangeIter _ _ (lo+((0:Nat):Int)*1) ((((hi-lo).toNat:Nat):Int)-((0:Nat):Int)) 1;rw[e1,e2];exact T0 _ rfl
 .have e:b=(s.heap.push {cls:=.type "range",data:=.fields #[.int lo t,.int hi u,.int 1 v]}).objs.size:=by simpa using hb
  subst e;exact I1.fpOk (O0 _)<|I1.hok.fresh<|O0 _
def gx(ta:TA):TI:=λσ H R=>ta σ H λvs H1=>∃j:Int,vs=[.int j]/\-(2 ^ 62)<=j/\j<2 ^ 62/\R (BN 0 j.toNat) H1
def ix(ta:TA):TI:=λσ H R=>ta σ H λvs H1=>∃i j:Int,vs=[.int i,.int j]/\(-(2 ^ 62)<=i/\i<2 ^ 62/\-(2 ^ 62)<=j/\j<2 ^ 62)/\R (BN i (j-i).toNat) H1
theorem tz{a:Expr}{ta:TA}{p pos:Pos}(hg:Gl X "range")(hm:X.mg "range"=none)(ha:PA X [a] ta)(hs:starEach [a] X.env=[(false,eval a X.env)]:=by rfl):PI X tg (.Call (.Name "range" p) [a] [] pos) (gx ta):=by
 intro pins s σ H R I h;refine Call_<|KY I hg hm boot_range<|W4 (vX (ha pos pins s σ H _ I h) λus s1 ⟨vs,H1,I1,r1,q1⟩=>?_) hs rfl;obtain⟨j,e,q1,q2,q⟩:=q1;subst e;cases r1 with
 |cons r rr=>cases rr;obtain⟨t,rfl⟩:=r;exact call_range_1 (BH I1 (by lia) (by lia) q1 q2<|by simpa using q)
theorem uz{a b:Expr}{ta:TA}{p pos:Pos}(hg:Gl X "range")(hm:X.mg "range"=none)(ha:PA X [a,b] ta)(hs:starEach [a,b] X.env=[(false,eval a X.env),(false,eval b X.env)]:=by rfl)(hs2:starEach [b] X.env=[(false,eval b X.env)]:=by rfl) :
  PI X tg (.Call (.Name "range" p) [a,b] [] pos) (ix ta):=by
 intro pins s σ H R I h;refine Call_ (KY I hg hm boot_range<|W4 (vX (ha pos pins s σ H _ I h) λus s1 ⟨vs,H1,I1,r1,q1⟩=>?_) (by rw[hs,hs2])<|by rw[hs2];rfl);obtain⟨i,j,e,⟨q1,q2,q3,q4⟩,q⟩:=q1;subst e;cases r1 with
 |cons r rr =>
  cases rr with
  |cons r' rr=>cases rr;obtain⟨t,rfl⟩:=r;obtain⟨t',rfl⟩:=r';exact call_range_2<|BH I1 q1 q2 q3 q4 q
def eI(wi:TI)(g:TG)(tb:TS):TS:=λD σ H=>wi σ H λJ H1=>∃W:Nat->Nat->St->Hp->Prop,(∃m,W 0 m σ H1)/\∀i m σ H,W i m σ H ->
 (J.stop i H/\D.nx σ H)\/(J.go i H/\∃N:St->Hp->Prop,(∀σ' H',N σ' H'->∃m',m'<m/\W (i+1) m' σ' H')/\∀x H',J.yld i H x H'->g x σ H' λσ2 H2=>tb {D with nx:=N,ct:=N,bk:=D.nx} σ2 H2)
noncomputable def LY(fp:List Addr)(h:Heap):List (Addr×Obj):=fp.filterMap λb=>(h.get? b).map λo=>(b,o)
theorem wJ(hb:b∈fp)(e:h.get? b=some o):(b,o)∈LY fp h:=N5.mpr ⟨b,hb,by rw[e];rfl⟩
theorem kU{p:Addr×Obj}(hp:p∈LY fp h):p.1∈fp/\h.get? p.1=some p.2:=by
 obtain⟨b,hb,e⟩:=N5.mp hp;cases q:h.get? b with
 |none=>rw[q]at e;cases e
 |some o=>rw[q]at e;have e':(b,o)=p:=W1 e;subst e';exact⟨hb,q⟩
theorem Inv.pinned{σ:St}(I:Inv X pins σ H s)(hf:∀b∈fp,uW X pins H b)(ho:∀b∈fp,∃o,s.heap.get? b=some o/\∀v,o.data≠.cell v):Inv X (pins++LY fp s.heap) σ H s :=
 I.pins_of λp hp=>(S1.mp hp).elim (λz=>I.pin p<|A1 _ z) λz=>by obtain⟨hb,e⟩:=kU z;obtain⟨f0,f1,f2,_⟩:=hf p.1 hb;obtain⟨o,e',d⟩:=ho p.1 hb;rw[e]at e';cases e';exact⟨e,f0,f1,f2,d⟩
theorem Inv.unpinned{σ:St}(I:Inv X (pins++pl) σ H s):Inv X pins σ H s:=I.pins_of λp hp=>I.pin p<|A1 _<|Z5 _ hp
theorem iI{body:List Stmt}{wi:TI}{g:TG}{tb:TS}{pos:Pos}(hp:PassesOwn (model X.prog X.w) X.A X.env X.xe)(hc:X.calm=true)(hi:PI X tg iter wi)(hg:PG X tg g)(hb:PSs X body tb)
  (hs:∀x,foldedSetIterable iter X.env x=pure x:=by intro _;rfl):PS X (.For tg iter body [] pos) (eI wi g tb):=by
 intro pins s σ H D I h;refine wpAny_For (vX (hi pins s σ H _ I h) λv s1 h1=>vX h1 λitv s2 h2=>?_) hs;obtain⟨it,fp,tn,J,H2,e,I2,T,st2,f2,W,⟨m0,w0⟩,turn⟩:=h2;subst e;have stat:∀{H':Hp},(∀b∈fp,H' b=none)->∀b∈fp,uW X pins H' b:=λhn b hb=>⟨hn b hb,(f2 b hb).2⟩;refine codeAny_forLoop_any (λn s'=>∃i σ' H',Inv X pins σ' H' s'/\tn i s'.heap/\(∀b∈fp,H' b=none)/\W i n σ' H') ?_ m0 ⟨0,σ,H2,I2,st2,λb hb=>(f2 b hb).1,w0⟩;rintro n s3 ⟨i,σ3,H3,I3,st3,fr3,w3⟩;rcases turn i n σ3 H3 w3 with⟨stop,qn⟩|⟨go,N,hN,step⟩
 .refine wpAny_passesOwn hp (vX (T.done X rfl rfl rfl hc i pins s3 σ3 H3 X.xe I3 (stat fr3) st3 stop) λr s4 ⟨hr,I4⟩=>?_);subst hr;exact wpAny_execs_nil ⟨σ3,H3,I4,qn⟩
 .refine wpAny_passesOwn hp (vX (T.item X rfl rfl rfl hc i pins s3 σ3 H3 X.xe I3 (stat fr3) st3 go) λr s4 ⟨u,hr,h4⟩=>?_);subst hr;refine wpAny_passesOwn hp<|vX h4 λ_ s5 ⟨x,H5,I5,r5,y5,st5,fr5⟩=>?_;have I5':=I5.pinned (stat fr5)<|T.obj _ _ st5;refine wpAny_passesOwn hp<|vX (hg _ s5 σ3 H5 x u _ I5' r5<|step x H5 y5) λ_ s6 ⟨σ6,H6,I6,q6⟩=>?_;refine wpAny_passesOwn hp<|vX (hb _ s6 σ6 H6 _ I6 q6) λf s7 q7=>?_;have again:∀{σ7:St}{H7:Hp},Inv X (pins++LY fp s5.heap) σ7 H7 s7->N σ7 H7->∃m,m<n/\∃i σ' H',Inv X pins σ' H' s7/\tn i s7.heap/\(∀b∈fp,H' b=none)/\W i m σ' H':=λ{σ7 H7} I7 n7=>by
   obtain⟨m',hm,w7⟩:=hN σ7 H7 n7;refine⟨m',hm,i+1,σ7,H7,I7.unpinned,T.keep _ _ _ st5 λb hb o e=>(I7.pin (b,o)<|A1 _<|A1 _<|wJ hb e).1,λb hb=>?_,w7⟩;obtain⟨o,e,d⟩:=T.obj _ _ st5 b hb;exact(I7.pin (b,o)<|A1 _<|A1 _<|wJ hb e).2.1
  cases f with
  |next=>obtain⟨σ7,H7,I7,n7⟩:=q7;exact again I7 n7
  |cont=>obtain⟨σ7,H7,I7,n7⟩:=q7;exact again I7 n7
  |brk=>obtain⟨σ7,H7,I7,q7⟩:=q7;exact⟨σ7,H7,I7.unpinned,q7⟩
  |ret v=>obtain⟨x7,σ7,H7,I7,r7,q7⟩:=q7;exact⟨x7,σ7,H7,I7.unpinned,r7,q7⟩
end
noncomputable abbrev R2:=V->V->Hp->VK->Prop
def OpR(X:Cx)(f:Value->Value->Sem Value)(r:R2):Prop :=
 ∀(pins:List (Addr×Obj)) (s:Shared) (σ:St) (H:Hp) (x y:V) (v u:Value) (Q:VK),Inv X pins σ H s->RelV x v->RelV y u->r x y H Q ->
  wpAny (model X.prog X.w) X.A (f v u) (EP X pins σ Q) X.xe s
def eR(X:Cx)(f:Value->Sem Value)(r:V->Hp->VK->Prop):Prop :=
 ∀(pins:List (Addr×Obj)) (s:Shared) (σ:St) (H:Hp) (x:V) (v:Value) (Q:VK),Inv X pins σ H s->RelV x v->r x H Q ->
  wpAny (model X.prog X.w) X.A (f v) (EP X pins σ Q) X.xe s
def ZQ(X:Cx)(f:Value)(r:List V->Hp->VK->Prop):Prop :=
 ∀(pins:List (Addr×Obj)) (s:Shared) (σ:St) (H:Hp) (xs:List V) (us:List Value) (Q:VK),Inv X pins σ H s->Vals xs us->r xs H Q ->
  wpAny (model X.prog X.w) X.A (call f us) (EP X pins σ Q) X.xe s
def sN(r:R2)(ta tb:TE):TE:=λσ H Q=>ta σ H λx H1=>tb σ H1 λy H2=>r x y H2 Q
def YR(r:V->Hp->VK->Prop)(ta:TE):TE:=λσ H Q=>ta σ H λx H1=>r x H1 Q
def rI(C:Int->Int->Prop)(g:Int->Int->V):R2:=λx y H Q=>∃i j,x=.int i/\y=.int j/\C i j/\Q (g i j) H
def vW(g:Int->Int->V):R2:=λx y H Q=>∃i j,x=.int i/\y=.int j/\Q (g i j) H
def rU(g:Int->V):V->Hp->VK->Prop:=λx H Q=>∃i,x=.int i/\Q (g i) H
section
variable {X:Cx}{a b c:Expr}{ta tb tc:TE}{pos:Pos}
theorem jI(ha:PE X a ta)(hb:PE X b tb){pins:List (Addr×Obj)}{s:Shared}{σ:St}{H:Hp}{R:V->V->Hp->Prop}(I:Inv X pins σ H s)(h:ta σ H λx H1=>tb σ H1 λy H2=>R x y H2) {Q:Value->Shared->Prop}{f:Value->Value->Sem Value}(hf:∀v u s2 x y H2,Inv X pins σ H2 s2->RelV x v->RelV y u->R x y H2->wpAny (model X.prog X.w) X.A (f v u) Q X.xe s2):wpAny (model X.prog X.w) X.A (eval a X.env) (λv s₁=>wpAny (model X.prog X.w) X.A (eval b X.env) (λu s₂=>wpAny (model X.prog X.w) X.A (f v u) Q X.xe s₂) X.xe s₁) X.xe s:=by
 refine vX (ha pins s σ H _ I h) λv s1 ⟨x,H1,I1,r1,q1⟩=>?_;refine vX (hb pins s1 σ H1 _ I1 q1) λu s2 ⟨y,H2,I2,r2,q2⟩=>?_;exact hf v u s2 x y H2 I2 r1 r2 q2
theorem CN(ho:OpR X (binaryOp op) r)(ha:PE X a ta)(hb:PE X b tb):PE X (.BinOp a op b pos) (sN r ta tb):=by intro pins s σ H Q I h;exact wpAny_BinOp<|jI ha hb I h λv u s2 x y H2 I2 rx ry q=>ho pins s2 σ H2 x y v u Q I2 rx ry q
theorem DN(ho:eR X (unaryOp op) r)(ha:PE X a ta):PE X (.UnaryOp op a pos) (YR r ta):=by intro pins s σ H Q I h;exact UnaryOp_<|vX (ha pins s σ H _ I h) λv s1 ⟨x,H1,I1,r1,q1⟩=>ho pins s1 σ H1 x v Q I1 r1 q1
theorem EN(rule:∀(i j:Int) (t u:Tok) (s:Shared) (Q:Value->Shared->Prop) (E:Value->Shared->Prop),C i j->Q (.int (g i j) s.toks) {s with toks:=s.toks+1}->wpAny (model X.prog X.w) X.A (f (.int i t)<|.int j u) Q E s):OpR X f (rI C λi j=>.int<|g i j):=by
 intro pins s σ H x y v u Q I rx ry h;obtain⟨i,j,rfl,rfl,hc,q⟩:=h;obtain⟨t,rfl⟩:=rx;obtain⟨t',rfl⟩:=ry;exact rule i j t t' s _ _ hc ⟨.int<|g i j,H,I.tok _,⟨_,rfl⟩,q⟩
theorem FN(rule:∀(i j:Int) (t u:Tok) (s:Shared) (Q:Value->Shared->Prop) (E:Value->Shared->Prop),Q (.int (g i j) s.toks) {s with toks:=s.toks+1}->wpAny (model X.prog X.w) X.A (f (.int i t)<|.int j u) Q E s):OpR X f (vW λi j=>.int<|g i j):=by
 intro pins s σ H x y v u Q I rx ry h;obtain⟨i,j,rfl,rfl,q⟩:=h;obtain⟨t,rfl⟩:=rx;obtain⟨t',rfl⟩:=ry;exact rule i j t t' s _ _ ⟨.int<|g i j,H,I.tok _,⟨_,rfl⟩,q⟩
theorem zy{g:Int->Int->Bool}(rule:∀(i j:Int) (t u:Tok) (s:Shared) (Q:Value->Shared->Prop) (E:Value->Shared->Prop),Q (.bool<|g i j) s->wpAny (model X.prog X.w) X.A (f (.int i t)<|.int j u) Q E s):OpR X f (vW λi j=>.bl<|g i j):=by
 intro pins s σ H x y v u Q I rx ry h;obtain⟨i,j,rfl,rfl,q⟩:=h;obtain⟨t,rfl⟩:=rx;obtain⟨t',rfl⟩:=ry;exact rule i j t t' s _ _ ⟨.bl<|g i j,H,I,rfl,q⟩
def kI(i j:Int):Prop:=0<j/\j<1073741824
def Ay(i j:Int):Prop:=0<=j/\j<=1000000/\i.natAbs<2 ^ 64
def CMul(i j:Int):Prop:=(-(2 ^ 64)<i/\i<2 ^ 64)\/(-(2 ^ 64)<j/\j<2 ^ 64)
theorem CMul.ok(h:CMul i j):IntMulOk i j:=by
 rcases h with⟨h1,h2⟩|⟨h1,h2⟩
 .exact .of_left (intBits_le_64 h1 h2)
 .exact .of_right (intBits_le_64 h1 h2)
theorem op_add:OpR X (binaryOp .Add) (vW λi j=>.int<|i+j):=FN λ_ _ _ _ _ _ _ q=>add_int q
theorem lI:OpR X (binaryOp .Sub) (vW λi j=>.int<|i-j):=FN λ_ _ _ _ _ _ _ q=>sub_int q
theorem op_mul:OpR X (binaryOp .Mult) (rI CMul λi j=>.int<|i*j):=EN λ_ _ _ _ _ _ _ hc q=>mul_int q hc.ok
theorem LK:OpR X (binaryOp .FloorDiv) (rI kI λi j=>.int<|i / j):=EN λi j _ _ _ _ _ hc q=>by have h1:(0:Int)<j:=hc.1;have h2:j<1073741824:=hc.2;exact floordiv_int (by lia) (by rw[Int.fdiv_eq_ediv_of_nonneg i<|by lia];exact q) (.inl<|PyProof.noPylong_small<|by lia)
theorem xJ:OpR X (binaryOp .Mod) (rI (λ_ j=>0<j) λi j=>.int<|i % j):=EN λi j _ _ _ _ _ hc q=>by have h1:(0:Int)<j:=hc;exact mod_int' (by lia) (by rw[Int.fmod_eq_emod_of_nonneg i<|by lia];exact q)
theorem yJ:OpR X (binaryOp .Pow) (rI Ay λi j=>.int<|i ^ j.toNat):=EN λ_ _ _ _ _ _ _ hc q=>pow_int_small hc.1 hc.2.1 hc.2.2 q
theorem unI{g:Int->Int}(rule:∀(i:Int) (t:Tok) (s:Shared) (Q:Value->Shared->Prop) (E:Value->Shared->Prop),Q (.int (g i) s.toks) {s with toks:=s.toks+1}->wpAny (model X.prog X.w) X.A (f<|.int i t) Q E s):eR X f (rU λi=>.int<|g i):=by
 intro pins s σ H x v Q I rx h;obtain⟨i,rfl,q⟩:=h;obtain⟨t,rfl⟩:=rx;exact rule i t s _ _ ⟨.int<|g i,H,I.tok _,⟨_,rfl⟩,q⟩
theorem mI:eR X (unaryOp .USub) (rU λi=>.int<|-i):=unI λ_ _ _ _ _ q=>neg_int q
end
noncomputable def GN:V->V->Bool
 | .non,.non=>true | .non,.int _=>true | .int _,.non=>true | .non,.bl _=>true | .bl _,.non=>true | .non,.str _=>true | .str _,.non=>true
 | .int _,.int _=>true | .bl _,.bl _=>true | .str _,.str _=>true | .byt _,.byt _=>true
 | .int _,.str _=>true | .str _,.int _=>true | .bl _,.str _=>true | .str _,.bl _=>true
 |_,_=>false
def GP:R2:=λx y H Q=>GN x y=true/\Q (.bl<|decide<|x=y) H
def HP:R2:=λx y H Q=>GN x y=true/\Q (.bl<|!decide (x=y)) H
theorem zW:decide (V.int i=V.int j)=(i==j):=by rw[P5];simp
theorem jx:decide (V.bl i=V.bl j)=(i==j):=by rw[P5];simp
theorem AW:decide (V.str i=V.str j)=(i==j):=by rw[P5];simp
theorem GD:decide (V.byt i=V.byt j)=(i.toList==j.toList):=by rw[P5];cases i;cases j;simp
section
variable {X:Cx}{a b c:Expr}{ta tb tc:TE}{pos:Pos}
theorem FQ{σ:St}{Q:VK}(I:Inv X pins σ H s)(q:Q (.bl k) H)(e:k=k'):EP X pins σ Q (.bool k') s:=by subst e;exact⟨.bl k,H,I,rfl,q⟩
theorem op_eq:OpR X (compareOp .Eq) GP:=by
 intro pins s σ H x y v u Q I rx ry h;obtain⟨hs,q⟩:=h;cases x with
 |non =>
  cases rx;cases y with
  |non=>cases ry;exact PySem.EqNone.eq_none_none (FQ I q<|by simp)
  |bl j=>cases ry;exact PySem.EqNone.eq_none_bool (FQ I q<|by simp)
  |int j=>obtain⟨t',rfl⟩:=ry;exact PySem.EqNone.eq_none_int (FQ I q<|by simp)
  |str j=>obtain⟨t',rfl⟩:=ry;exact PySem.EqNone.eq_none_str (FQ I q<|by simp)
  |_=>exact absurd (show false=true from hs) W0
 |bl i =>
  cases rx;cases y with
  |non=>cases ry;exact PySem.EqNone.eq_bool_none (FQ I q<|by simp)
  |bl j=>cases ry;exact eq_bool<|FQ I q jx
  |str j=>obtain⟨t',rfl⟩:=ry;exact PySem.EqMixed.eq_bool_str (FQ I q<|by simp)
  |_=>exact absurd (show false=true from hs) W0
 |int i =>
  obtain⟨t,rfl⟩:=rx;cases y with
  |non=>cases ry;exact PySem.EqNone.eq_int_none (FQ I q<|by simp)
  |int j=>obtain⟨t',rfl⟩:=ry;exact eq_int<|FQ I q zW
  |str j=>obtain⟨t',rfl⟩:=ry;exact PySem.EqMixed.eq_int_str (FQ I q<|by simp)
  |_=>exact absurd (show false=true from hs) W0
 |str i =>
  obtain⟨t,rfl⟩:=rx;cases y with
  |non=>cases ry;exact PySem.EqNone.eq_str_none (FQ I q<|by simp)
  |bl j=>cases ry;exact PySem.EqMixed.eq_str_bool (FQ I q<|by simp)
  |int j=>obtain⟨t',rfl⟩:=ry;exact PySem.EqMixed.eq_str_int (FQ I q<|by simp)
  |str j=>obtain⟨t',rfl⟩:=ry;exact eq_str<|FQ I q AW
  |_=>exact absurd (show false=true from hs) W0
 |byt i =>
  obtain⟨t,rfl⟩:=rx;cases y with
  |byt j=>obtain⟨t',rfl⟩:=ry;exact PySem.W.eq_bytes<|FQ I q GD
  |_=>exact absurd (show false=true from hs) W0
 |_=>cases y<;>exact absurd (show false=true from hs) W0
theorem op_ne:OpR X (compareOp .NotEq) HP:=by
 intro pins s σ H x y v u Q I rx ry h;obtain⟨hs,q⟩:=h;cases x with
 |non =>
  cases rx;cases y with
  |non=>cases ry;exact PySem.EqNone.ne_none_none (FQ I q<|by simp)
  |bl j=>cases ry;exact PySem.EqNone.ne_none_bool (FQ I q<|by simp)
  |int j=>obtain⟨t',rfl⟩:=ry;exact PySem.EqNone.ne_none_int (FQ I q<|by simp)
  |str j=>obtain⟨t',rfl⟩:=ry;exact PySem.EqNone.ne_none_str (FQ I q<|by simp)
  |_=>exact absurd (show false=true from hs) W0
 |bl i =>
  cases rx;cases y with
  |non=>cases ry;exact PySem.EqNone.ne_bool_none (FQ I q<|by simp)
  |bl j=>cases ry;exact ne_bool<|FQ I q<|congrArg not jx
  |str j=>obtain⟨t',rfl⟩:=ry;exact PySem.EqMixed.ne_bool_str (FQ I q<|by simp)
  |_=>exact absurd (show false=true from hs) W0
 |int i =>
  obtain⟨t,rfl⟩:=rx;cases y with
  |non=>cases ry;exact PySem.EqNone.ne_int_none (FQ I q<|by simp)
  |int j=>obtain⟨t',rfl⟩:=ry;exact ne_int<|FQ I q<|congrArg not zW
  |str j=>obtain⟨t',rfl⟩:=ry;exact PySem.EqMixed.ne_int_str (FQ I q<|by simp)
  |_=>exact absurd (show false=true from hs) W0
 |str i =>
  obtain⟨t,rfl⟩:=rx;cases y with
  |non=>cases ry;exact PySem.EqNone.ne_str_none (FQ I q<|by simp)
  |bl j=>cases ry;exact PySem.EqMixed.ne_str_bool (FQ I q<|by simp)
  |int j=>obtain⟨t',rfl⟩:=ry;exact PySem.EqMixed.ne_str_int (FQ I q<|by simp)
  |str j=>obtain⟨t',rfl⟩:=ry;exact ne_str<|FQ I q<|congrArg not AW
  |_=>exact absurd (show false=true from hs) W0
 |byt i =>
  obtain⟨t,rfl⟩:=rx;cases y with
  |byt j=>obtain⟨t',rfl⟩:=ry;exact PySem.W.ne_bytes<|FQ I q<|congrArg not GD
  |_=>exact absurd (show false=true from hs) W0
 |_=>cases y<;>exact absurd (show false=true from hs) W0
theorem lW:OpR X (compareOp .Lt) (vW λi j=>.bl<|decide<|i<j):=zy λ_ _ _ _ _ _ _ q=>lt_int q
theorem DC:OpR X (compareOp .LtE) (vW λi j=>.bl<|decide<|i<=j):=zy λ_ _ _ _ _ _ _ q=>le_int q
theorem lU:OpR X (compareOp .Gt) (vW λi j=>.bl<|decide<|j<i):=zy λ_ _ _ _ _ _ _ q=>gt_int q
theorem HD:OpR X (compareOp .GtE) (vW λi j=>.bl<|decide<|j<=i):=zy λ_ _ _ _ _ _ _ q=>ge_int q
theorem kx:OpR X (compareOp .Is) (λx y H Q=>y=.non/\Q (.bl<|decide<|x=.non) H):=by
 intro pins s σ H x y v u Q I rx ry h;obtain⟨rfl,q⟩:=h;cases ry;refine is_none_gen<|FQ I q ?_;cases x<;>first
  |(cases rx;rfl)
  |(obtain⟨t,rfl⟩:=rx;rfl)
theorem OpR.or(h:OpR X f r)(h':OpR X f r'):OpR X f (λx y H Q=>r x y H Q\/r' x y H Q):=by
 intro pins s σ H x y v u Q I rx ry q;rcases q with q|q
 .exact h pins s σ H x y v u Q I rx ry q
 .exact h' pins s σ H x y v u Q I rx ry q
theorem lx(b:Expr){op:CmpOp}(h:op≠.In:=by decide)(h2:op≠.NotIn:=by decide):behindInMarks op b=false:=by
 have e1:(op==CmpOp.In)=false:=by cases op<;>first|rfl|exact absurd rfl h
 have e2:(op==CmpOp.NotIn)=false:=by cases op<;>first|rfl|exact absurd rfl h2
 cases b<;>simp[behindInMarks,e1,e2]
theorem By(ho:OpR X (compareOp op) r)(ha:PE X a ta)(hb:PE X b tb)(hm:behindInMarks op b=false):PE X (.Compare a [op] [b] pos) (sN r ta tb):=by intro pins s σ H Q I h;exact wpAny_Compare1 (jI ha hb I h λv u s2 x y H2 I2 rx ry q=>ho pins s2 σ H2 x y v u Q I2 rx ry q) hm
def mx(t:TE):TT:=λσ H Q=>t σ H λx H'=>∃k,x=.bl k/\Q k H'
theorem ID(ho:OpR X (compareOp op) r)(ha:PE X a ta)(hb:PE X b tb)(hm:behindInMarks op b=false):PT X (.Compare a [op] [b] pos) (mx<|sN r ta tb):=by
 intro pins s σ H Q I h;refine wpAny_isTrue_Compare1 (vX (ha pins s σ H _ I h) λv s1 ⟨x,H1,I1,r1,q1⟩=>vX (hb pins s1 σ H1 _ I1 q1) λu s2 ⟨y,H2,I2,r2,q2⟩=>vX (ho pins s2 σ H2 x y v u _ I2 r1 r2 q2) λc s3 ⟨z,H3,I3,r3,k,e,q3⟩=>?_) hm;subst e;cases r3;exact wpAny_truthy_bool ⟨H3,I3,q3⟩
def YG(r r':R2)(ta tb tc:TE):TE:=λσ H Q=>ta σ H λx H1=>tb σ H1 λy H2=>r x y H2 λz H3=>∃k,z=.bl k /\
 (if k=true then tc σ H3 λw' H4=>r' y w' H4 Q else Q (.bl false) H3)
theorem ox{op op':CmpOp}{r r':R2}(ho:OpR X (compareOp op) r)(ho':OpR X (compareOp op') r')(ha:PE X a ta)(hb:PE X b tb)(hc:PE X c tc)
  (hm:lastMarks [op,op'] [b,c]=false:=by with_unfolding_all rfl):PE X (.Compare a [op,op'] [b,c] pos) (YG r r' ta tb tc):=by
 intro pins s σ H Q I h;refine Compare_chain (vX (ha pins s σ H _ I h) λv s1 ⟨x,H1,I1,r1,q1⟩=>chain_link<|vX (hb pins s1 σ H1 _ I1 q1) λu s2 ⟨y,H2,I2,r2,q2⟩=>vX (ho pins s2 σ H2 x y v u _ I2 r1 r2 q2) λd s3 ⟨z,H3,I3,r3,k,e,q3⟩=>?_) hm;subst e;cases r3;refine wpAny_truthy_bool ?_;cases k with
 |false=>exact ite_ff ⟨.bl false,H3,I3,rfl,q3⟩
 |true=>exact ite_tt<|chain_last<|vX (hc pins s3 σ H3 _ I3 q3) λw' s4 ⟨z',H4,I4,r4,q4⟩=>ho' pins s4 σ H4 y z' u w' Q I4 r2 r4 q4
theorem ZG:(sizeLine:Nat)<2 ^ 63:=by rw[sizeLine_eq];decide
theorem EZ(r:Vals [x] us):∃u,us=[u]/\RelV x u:=by
 cases r with
 |cons r1 r2=>cases r2;exact⟨_,rfl,r1⟩
theorem bY{y:V}(r:Vals [x,y] us):∃u w',us=[u,w']/\RelV x u/\RelV y w':=by
 cases r with
 |cons r1 r2 =>
  cases r2 with
  |cons r3 r4=>cases r4;exact⟨_,_,rfl,r1,r3⟩
theorem LW:ZQ X (.builtin "abs") (λxs H Q=>∃i,xs=[.int i]/\Q (.int<|if i<0 then -i else i) H):=by intro pins s σ H xs us Q I r h;obtain⟨i,rfl,q⟩:=h;obtain⟨u,rfl,t,rfl⟩:=EZ r;exact call_abs_int λu tk=>⟨.int<|if i<0 then -i else i,H,I.tok _,⟨_,rfl⟩,q⟩
theorem vz(hc:X.calm=true):ZQ X (.builtin "max") (λxs H Q=>∃i j,xs=[.int i,.int j]/\Q (.int<|if j > i then j else i) H):=by
 intro pins s σ H xs us Q I r h;obtain⟨i,j,rfl,q⟩:=h;obtain⟨u,w',rfl,⟨t,rfl⟩,⟨t',rfl⟩⟩:=bY r;refine max_two_ints (I.ok.hd hc) λh' tk k=>⟨_,H,I.kept k,?_,q⟩;by_cases hj:j > i
 .rw[if_pos hj,if_pos hj];exact⟨_,rfl⟩
 .rw[if_neg hj,if_neg hj];exact⟨_,rfl⟩
theorem mU(hc:X.calm=true):ZQ X (.builtin "min") (λxs H Q=>∃i j,xs=[.int i,.int j]/\Q (.int<|if j<i then j else i) H):=by
 intro pins s σ H xs us Q I r h;obtain⟨i,j,rfl,q⟩:=h;obtain⟨u,w',rfl,⟨t,rfl⟩,⟨t',rfl⟩⟩:=bY r;refine min_two_ints (I.ok.hd hc) λh' tk k=>⟨_,H,I.kept k,?_,q⟩;by_cases hj:j<i
 .rw[if_pos hj,if_pos hj];exact⟨_,rfl⟩
 .rw[if_neg hj,if_neg hj];exact⟨_,rfl⟩
theorem MY:ZQ X (.type "int") (λxs H Q=>(∃i,xs=[.int i]/\Q (.int i) H)\/∃k,xs=[.bl k]/\Q (.int<|if k then 1 else 0) H):=by
 intro pins s σ H xs us Q I r h;rcases h with⟨i,rfl,q⟩|⟨k,rfl,q⟩
 .obtain⟨u,rfl,t,rfl⟩:=EZ r;exact call_int_int ⟨.int i,H,I,⟨_,rfl⟩,q⟩
 .obtain⟨u,rfl,r1⟩:=EZ r;cases r1;exact call_int_bool ⟨.int<|if k then 1 else 0,H,I.tok _,⟨_,rfl⟩,q⟩
end
structure ObjM(h:Heap)(x dx C:Addr)(mA:Str->Option Value):Prop where
 obj:h.get? x=some (T9 C dx)
 ns:h.Ns1 dx mA
 ne:dx≠x
section
variable {w:World}{K:G0}{x dx C f:Addr}{mA:Str->Option Value}{v:Value}
end
theorem RelO.some_of{o:Option Value}(r:RelO (some v) o):∃u,o=some u/\RelV v u:=by
 cases o with
 |none=>exact(show False from r).elim
 |some u=>exact⟨u,rfl,r⟩
section
variable {P:Program}{w:World}{H H':Hp}{a C dx:Addr}{fs fs':List (Str×V)}
end
structure Cls(K:G0)(C:Addr):Prop where
 pg:PySem.W.plainGet K C Str.empty=true
 hd:PySem.W.hasDictIn K C=true
 po:PySem.W.plainOver K C=true
 sa:O6 K (.ref C) "__setattr__"=some (some<|.builtin "object.__setattr__")
structure Con(K:G0)(C:Addr)(f:Str)(v:V)(u:Value):Prop where
 at_:O6 K (.ref C) f=some (some u)
 rel:RelV v u
 get:R9 K u "__get__"=some none
 cp:PySem.W.copiedNames.contains f=false
structure Meth(K:G0)(C:Addr)(m:Str)(f:Addr):Prop where
 at_:O6 K (.ref C) m=some (some<|.ref f)
 fn:PySem.W.isFn K (.ref f)=true
 kp:O3 K (.ref f)=true
section
variable {X:Cx}{σ:St}{H:Hp}{a C dx:Addr}{fs:List (Str×V)}{f:Str}{v:V}
end
section
variable {X:Cx}{o e value:Expr}{f:Str}{pos pos' tpos:Pos}{ta tv:TE}
end
section
variable {X:Cx}{σ:St}{H:Hp}{c:Value}{b:Bool}
inductive TyOf (K:G0) (H:Hp):V->Value->Prop where
 |non:TyOf K H .non (.type "NoneType")
 |bl (x:Bool):TyOf K H (.bl x) (.type "bool")
 |int (i:Int):TyOf K H (.int i) (.type "int")
 |str (x:Str):TyOf K H (.str x) (.type "str")
 |flt (x:UInt64):TyOf K H (.flt x) (.type "float")
 |lst {a:Addr}{xs:List V} (e:H a=some (.lst xs)):TyOf K H (.ref a) (.type "list")
 |frz {a:Addr}{o:Obj}{xs:List V} (e:H a=some (.frz o<|.lst xs)):TyOf K H (.ref a) (.type "list")
 |tup {a:Addr}{xs:List V} (e:H a=some (.tup xs)):TyOf K H (.ref a) (.type "tuple")
 |dK {a:Addr}{kvs:List (EQ×V)} (e:H a=some (.dK kvs)):TyOf K H (.ref a) (.type "dict")
 |dT {a:Addr}{kvs:List (List EQ×V)} (e:H a=some (.dT kvs)):TyOf K H (.ref a) (.type "dict")
 | ins {a C dx:Addr}{fs:List (Str×V)} (e:H a=some (.ins C dx fs)) (cl:Cls K C) (ha:O6 K (.ref C) "__class__"=some (some<|.builtin "object.__class__"))
   (hn:R9 K (.builtin "object.__class__") "__get__"=some (some<|.builtin "getset_descriptor.__get__")) (htk:PySem.W.takesIn K (.builtin "object.__class__")=some true)
   (hm:PySem.W.mroIn K C (.type "object")=some true):TyOf K H (.ref a) (.ref C)
end
structure Room(k:Nat)(A:Around):Prop where
 hd:A.handled=none
 dp:A.depth+3*k+5<recursionLimit
 un:A.units+16*k+200<cLine
 gd:A.guards=some []
theorem Room.mono(r:Room k A)(h:j<=k):Room j A:=⟨r.hd,by have:=r.dp;lia,by have:=r.un;lia,r.gd⟩
theorem Room.m{j k:Nat}(r:Room k A)(h:j<=k:=by first|decide|lia):Room j A:=r.mono h
theorem Room.deeper(r:Room (k+1) A)(env:Env):Room k (A.deeper env):=⟨r.hd,by have:=r.dp;show A.depth+1+3*k+5<_;lia,by have:=r.un;show A.units+3+16*k+200<_;lia,r.gd⟩
theorem Room.depth(r:Room k A):A.depth<recursionLimit:=by have:=r.dp;lia
theorem Room.units(r:Room k A):A.units+64<cLine:=by have:=r.un;lia
def wz:TA:=λ_ H Q=>Q [] H
def MW(ta:TE)(tr:TA):TA:=λσ H Q=>ta σ H λx H1=>tr σ H1 λxs H2=>Q (x::xs) H2
section
variable {X:Cx}{e:Expr}{es:List Expr}{te:TE}{t:TA}{pos:Pos}
theorem pZ:PA X [] wz:=λ_ _ _ _ H Q I h=>Calls.spliced_nil ⟨[],H,I,.nil,h⟩
theorem NQ(ha:PE X e te)(hr:PA X es t)(hs:starEach (e::es) X.env=(false,eval e X.env)::starEach es X.env:=by rfl):PA X (e::es) (MW te t):=by intro pos pins s σ H Q I h;rw[hs];show wpAny _ _ (spliced ((false,eval e X.env)::backTo pos (starEach es X.env))) _ _ s;refine Calls.spliced_cons<|vX (ha pins s σ H _ I h) λu s1 ⟨x,H1,I1,r1,q1⟩=>?_;exact vX (hr pos pins s1 σ H1 _ I1 q1) λus s2 ⟨xs,H2,I2,r2,q2⟩=>⟨x::xs,H2,I2,.cons r1 r2,q2⟩
def oI(t:TA):TE:=λσ H Q=>t σ H λxs H1=>xs.length<=sizeLine/\∀p,H1 p=none->Q (.ref p) (upd H1 p<|.tup xs)
def pI(t:TA):TE:=λσ H Q=>t σ H λxs H1=>xs.length<=sizeLine/\∀p,H1 p=none->Q (.ref p) (upd H1 p<|.lst xs)
theorem qx{x1}(h:PA X es t):PE X (.Tuple es x1 pos) (oI t):=by intro pins s σ H Q I hq;refine wpAny_Tuple_spliced<|vX (h pos pins s σ H _ I hq) λus s1 ⟨xs,H1,I1,r,z,q⟩=>⟨by rw[<-r.length];exact z,?_⟩;have hf:H1 s1.heap.objs.size=none:=I1.hok.fresh<|O0 _;refine⟨.ref s1.heap.objs.size,upd H1 s1.heap.objs.size<|.tup xs,I1.laid (t':=s1.toks) (λb u e=>u0 _ e) (O0 _) ?_,rfl,q _ hf⟩;exact⟨z,us,r,⟨_,T0 _ rfl,rfl,_,rfl,rfl⟩⟩
theorem qI(h:PA X es t):PE X (.List es pos) (pI t):=by intro pins s σ H Q I hq;refine wpAny_List_spliced<|vX (h pos pins s σ H _ I hq) λus s1 ⟨xs,H1,I1,r,z,q⟩=>⟨by rw[<-r.length];exact z,?_⟩;have hf:H1 s1.heap.objs.size=none:=I1.hok.fresh<|O0 _;refine⟨.ref s1.heap.objs.size,upd H1 s1.heap.objs.size<|.lst xs,I1.laid (t':=s1.toks) (λb u e=>u0 _ e) (O0 _) ?_,rfl,q _ hf⟩;exact⟨z,us,0,r,T0 _ rfl⟩
end
noncomputable abbrev Sp:=List V->Hp->VK->XK->Prop
noncomputable abbrev aF:=List Env->Hp->Shared->XK->Value->Shared->Prop
structure Env0(P:Program)(w:World)(K:G0)(mg:Str->Option Value)(base:Heap)(A:Around)(outer:List Env)(s:Shared)(H:Hp):Prop where
 frames:A.frames=some outer
 mod:Mod K mg base
 bs:∀b o,base.get? b=some o->s.heap.get? b=some o/\H b=none
 bsz:base.objs.size<=s.heap.objs.size
 funs:s.heap.FunFrames base outer
 frf:∀b∈TZ outer,H b=none
 hok:HOk P w H s.heap
 bare:AllBare s.gens
def CE(outer:List Env)(P:Program)(w:World)(H:Hp)(s:Shared)(Q:VK)(u:Value)(s':Shared):Prop:=∃v H',s'.os=s.os/\AllBare s'.gens/\Un (TZ outer) [] H H' s.heap s'.heap/\HOk P w H' s'.heap/\RelV v u/\Q v H'
def CR(CX:aF)(outer:List Env)(P:Program)(w:World)(H:Hp)(s:Shared)(Q:VK)(E:XK)(r:Result)(s':Shared):Prop :=
 match r with
 | .ok (.ret u)=>CE outer P w H s Q u s'
 | .ok _=>False
 | .error e=>CX outer H s E e s'
structure FnOk(P:Program)(w:World)(K:G0)(mg:Str->Option Value)(base:Heap)(CX:aF)(k:Nat)(f:Addr)(fd:FuncData)(ps:List Str)(sp:Sp):Prop where
 len:∀vs H Q E,sp vs H Q E->vs.length=ps.length
 run:∀(A:Around) (outer:List Env) (s:Shared) (H:Hp) (args:Args) (us:List Value) (vs:List V) (Q:VK) (E:XK),Room k A->Env0 P w K mg base A outer s H->BindsTo s fd args (ps.zip us)->Vals vs us->sp vs H Q E ->
  codeAny (model P w) A (.call (.ref f) args) (CR CX outer P w H s Q E) s
theorem FnOk.mono{K:G0}(F:FnOk P w K mg base CX j f fd ps sp)(h:j<=k):FnOk P w K mg base CX k f fd ps sp:=⟨F.len,λA outer s H args us vs Q E hr=>F.run A outer s H args us vs Q E<|hr.mono h⟩
section
variable {X:Cx}{σ:St}{H:Hp}
theorem Inv.env0(I:Inv X pins σ H s):Env0 X.prog X.w X.K X.mg X.base X.A X.stack s H:=⟨I.ok.frames,I.ok.mod,I.bs,T1 I.ok.bsz I.sz,I.stack,I.stkFree,I.hok,I.bare⟩
theorem Inv.after{Q:VK}(I:Inv X pins σ H s)(h:CE X.stack X.prog X.w H s Q u s'):EP X pins σ Q u s':=by obtain⟨v,H',os,bare,un,hok,r,q⟩:=h;obtain⟨hh,g,d,t,os'⟩:=s';obtain rfl:os'=s.os:=os;exact⟨v,H',I.call (h':=hh) (g':=g) (d':=d) (t':=t) (ch:=[]) un hok bare (λb z=>absurd z<|by simp),r,q⟩
end
def cY(sp:Sp)(dvs:List V)(E:XK)(t:TA):TE:=λσ H Q=>t σ H λvs H1=>sp (vs++dvs) H1 Q E
def Binds(K:G0)(fd:FuncData)(ps:List Str)(ds:List Value):Prop:=∀(s:Shared) (us:List Value),K.In s.heap->(us++ds).length=ps.length->BindsTo s fd ⟨us,[]⟩ (ps.zip<|us++ds)
theorem Binds.all{K:G0}(h:∀us:List Value,us.length=ps.length->bindArgs fd ⟨us,[]⟩=pure (ps.zip us)):Binds K fd ps []:=λs us _ hl=>by rw[L1]at hl ⊢;exact .of_eq<|h us hl
def QU(CX:aF)(X:Cx)(E:XK):Prop:=∀(pins:List (Addr×Obj)) (σ:St) (H:Hp) (s:Shared) (e:Value) (s':Shared),Inv X pins σ H s->CX X.stack H s E e s'->X.xe e s'
section
variable {X:Cx}{CX:aF}{k:Nat}{f C:Addr}{ps:List Str}{sp:Sp}{dvs:List V}{ds:List Value}{E:XK}{x m:Str}{p pos apos:Pos}{e o:Expr}{es:List Expr}{ta:TE}{t:TA}
theorem bF{σ:St}{Q:VK}(F:FnOk X.prog X.w X.K X.mg X.base CX k f fd ps sp)(hr:Room k X.A)(hb:Binds X.K fd ps ds)(hd:Vals dvs ds)(hx:QU CX X E)(I:Inv X pins σ H s) (r:Vals vs us) (h:sp (vs++dvs) H Q E):wpAny (model X.prog X.w) X.A (call (.ref f) us) (EP X pins σ Q) X.xe s:=by
 have r2:Vals (vs++dvs) (us++ds):=r.append hd;have hl:(us++ds).length=ps.length:=by rw[<-r2.length];exact F.len _ _ _ _ h
 refine wpAny_call<|codeAny_mono (F.run X.A X.stack s H ⟨us,[]⟩ (us++ds) (vs++dvs) Q E hr I.env0 (hb s us I.kIn hl) r2 h) λr s' hq=>?_;cases r with
 |error e=>exact hx pins σ H s e s' I hq
 |ok fl =>
  cases fl with
  |ret u=>exact I.after hq
  |next=>exact False.elim hq
  |brk=>exact False.elim hq
  |cont=>exact False.elim hq
theorem Cy(F:FnOk X.prog X.w X.K X.mg X.base CX k f fd ps sp)(hr:Room k X.A)(hg:Gl X x)(hm:X.mg x=some (.ref f))(hk:O3 X.K (.ref f)=true)(hb:Binds X.K fd ps ds)(hd:Vals dvs ds)(hx:QU CX X E)
  (ha:PA X (e::es) t) (hdb:(x==("__debug__":Str))=false:=by decide) (he:starEach (e::es) X.env=(false,eval e X.env)::starEach es X.env:=by rfl) (hpl:(backTo pos<|starEach es X.env).any (·.1)=false:=by rfl) :
  PE X (.Call (.Name x p) (e::es) [] pos) (cY sp dvs E t):=by
 intro pins s σ H Q I h;refine wpAny_Call_Name_kw<|vJ I hg hm ?_ hdb;refine Y4 (h₀:=X.base) I.ok.mod.kin hk (vX (ha pos pins s σ H _ I h) λus s1 ⟨vs,H1,I1,r,q⟩=>⟨I1.kIn,?_⟩) he hpl;exact bF F hr hb hd hx I1 r q
theorem sx(F:FnOk X.prog X.w X.K X.mg X.base CX k f fd ps sp)(hr:Room k X.A)(hg:Gl X x)(hm:X.mg x=some (.ref f))(hk:O3 X.K (.ref f)=true)(hb:Binds X.K fd ps ds)(hd:Vals dvs ds)(hx:QU CX X E)
  (hdb:(x==("__debug__":Str))=false:=by decide):PE X (.Call (.Name x p) [] [] pos) (cY sp dvs E wz):=by
 intro pins s σ H Q I h;refine wpAny_Call_Name_kw<|vJ I hg hm ?_ hdb;exact PySem.W.callWith_K0 I.kIn hk<|bF (us:=[]) F hr hb hd hx I .nil h
structure Mk(K:G0)(C f:Addr):Prop where
 makes:PySem.W.makesIn K C=true
 init:O6 K (.ref C) "__init__"=some (some<|.ref f)
 fn:PySem.W.isFn K (.ref f)=true
 kp:O3 K (.ref C)=true
end
section
variable {X:Cx}{CX:aF}{k:Nat}{f C:Addr}{ps ks:List Str}{sp:Sp}{E:XK}{x m:Str}{p pos apos kpos:Pos}{e o:Expr}{es:List Expr}{kws:List Keyword}{te ta:TE}{t tk:TA}{nm:Option Str}
structure KBinds(K:G0)(fd:FuncData)(ps ks:List Str)(g:List Value->List Value->List Value)(gV:List V->List V->List V):Prop where
 to:∀(s:Shared) (us ws:List Value),K.In s.heap->(g us ws).length=ps.length->BindsTo s fd ⟨us,ks.zip ws⟩ (ps.zip<|g us ws)
 rel:∀{vs:List V}{us:List Value}{zs:List V}{ws:List Value},Vals vs us->Vals zs ws->Vals (gV vs zs) (g us ws)
variable {g:List Value->List Value->List Value}{gV:List V->List V->List V}
end
structure FnScope(N P:List Str)(sc:Scope):Prop where
 kind:sc.kind=.function:=by rfl
 co:sc.isCoroutine=false:=by rfl
 gen:sc.isGenerator=false:=by rfl
 nd:N.Nodup:=by decide +kernel
 pre:N.take P.length=P:=by rfl
 par:∀x∈P,sc.names.lookup x=some .local\/sc.names.lookup x=some .cell:=by decide +kernel
 nofree:∀y∈sc.names,y.2≠.free:=by decide +kernel
theorem nU{kindOf:Str->Option NameKind}{x:Str}:∀{binds:List (Str×Value)}{m:Str->Option Value},(∀v,(x,v)∉binds)->bindL kindOf binds m x=m x
 |[],_,_=>rfl
 |(n,v)::r,m,h=>by
  unfold bindL;rw[nU λw hw=>h w<|K0 _ hw];split
  .have:x≠n:=by rintro rfl;exact h v L0
   simp[this]
  .rfl
theorem oU{kindOf:Str->Option NameKind}{x:Str}:∀{binds:List (Str×Value)}{m:Str->Option Value},(∀v,(x,v)∉binds)->bindC kindOf binds m x=m x
 |[],_,_=>rfl
 |(n,v)::r,m,h=>by
  unfold bindC;rw[oU λw hw=>h w<|K0 _ hw];split
  .rfl
  .have:x≠n:=by rintro rfl;exact h v L0
   simp[this]
theorem pU{kindOf:Str->Option NameKind}{x:Str}{v:Value}:∀{P:List Str}{vs:List Value}{i:Nat}{m:Str->Option Value},P.Nodup->P[i]?=some x->vs[i]?=some v->kindOf x=some .local -> bindL kindOf (P.zip vs) m x=some v
 |[],_,_,_,_,h,_,_=>by simp at h
 |_::_,[],_,_,_,_,h,_=>by simp at h
 |p::P,w::vs,0,m,nd,h1,h2,hk=>by simp at h1 h2;subst h1;subst h2;show bindL kindOf ((p,w)::P.zip vs) m p=_;unfold bindL;rw[nU λv hv=>(S3.mp nd).1 (u5 hv).1,if_pos hk];simp
 |p::P,w::vs,i+1,m,nd,h1,h2,hk=>by show bindL kindOf ((p,w)::P.zip vs) m x=_;unfold bindL;exact pU (i:=i) (S3.mp nd).2 (by simpa using h1) (by simpa using h2) hk
theorem qU{kindOf:Str->Option NameKind}{x:Str}{v:Value}:∀{P:List Str}{vs:List Value}{i:Nat}{m:Str->Option Value},P.Nodup->P[i]?=some x->vs[i]?=some v->kindOf x≠some .local -> bindC kindOf (P.zip vs) m x=some v
 |[],_,_,_,_,h,_,_=>by simp at h
 |_::_,[],_,_,_,_,h,_=>by simp at h
 |p::P,w::vs,0,m,nd,h1,h2,hk=>by simp at h1 h2;subst h1;subst h2;show bindC kindOf ((p,w)::P.zip vs) m p=_;unfold bindC;rw[oU λv hv=>(S3.mp nd).1 (u5 hv).1,if_neg hk];simp
 |p::P,w::vs,i+1,m,nd,h1,h2,hk=>by show bindC kindOf ((p,w)::P.zip vs) m x=_;unfold bindC;exact qU (i:=i) (S3.mp nd).2 (by simpa using h1) (by simpa using h2) hk
noncomputable def start(N:List Str)(vs:List V):St:=vs.map some++A0 (N.length-vs.length) none
noncomputable def NY(CX:aF)(P:Program)(w:World)(K:G0)(mg:Str->Option Value)(base:Heap)(N:List Str)(qual:Str)(scope:Scope)(f:Addr)(cd:Value)(A:Around)(outer:List Env)(s:Shared)(H:Hp)(E:XK):Cx where
 prog:=P
 w:=w
 K:=K
 mg:=mg
 base:=base
 A:=A.deeper (envOfC qual scope s.heap.objs.size f cd)
 N:=N
 s₀:=s
 H₀:=H
 env:=envOfC qual scope s.heap.objs.size f cd
 outer:=outer
 stack:=envOfC qual scope s.heap.objs.size f cd::outer
 ex:=[]
 calm:=true
 fn:=λ_=>true
 pn:=[]
 xe:=λe s'=>wpAny (model P w) (A.deeper<|envOfC qual scope s.heap.objs.size f cd) (leaving (envOfC qual scope s.heap.objs.size f cd) e) (λ_ s''=>CX outer H s E e s'') (λe' s''=>CX outer H s E e' s'') s'
theorem sY(h:sc.names.lookup x=some .cell):∃c,(cellsFrom n sc.names []).lookup x=some c:=by have q:=J8 sc.names n []<|.inl h;exact Option.isSome_iff_exists.mp q
theorem xz{K:G0}{E:XK}(S:FnScope N ps scope) (hd:A.handled=none) (e0:Env0 P w K mg base A outer s H) (hl:vs.length=ps.length) (r:Vals vs us)(x:InCallC s s.heap.objs.size (bindL (envOfC qual scope s.heap.objs.size f cd).kindOf (ps.zip us) λ_=>none) (cellsFrom (s.heap.objs.size+1) scope.names []) (bindC (envOfC qual scope s.heap.objs.size f cd).kindOf (ps.zip us) λ_=>none) s1):Inv (NY CX P w K mg base N qual scope f cd A outer s H E) [] (start N vs) H s1:=by
 have hpl:ps.length<=N.length:=by have:=congrArg A4 S.pre;rw[j2]at this;lia
 obtain⟨h1,tk,rfl,hk⟩:=x.done;have noA:∀b:Addr,b∉(NY CX P w K mg base N qual scope f cd A outer s H E).ex:=λb z=>absurd (show b∈([]:List Addr) from z) (by simp);refine⟨⟨e0.mod,S.kind,rfl,rfl,O0 _,λy z c h1 h2=>?_,λy hy=>?_,λy c _ h=>?_,λ_=>hd,Around.frames_deeper e0.frames,.inr ⟨rfl,rfl⟩,λb z=>absurd z<|noA b,e0.bs,e0.bsz,λb _ _=>noA b,λb z=>absurd z<|noA b,e0.funs,e0.frf⟩,
   rfl,e0.bare,Un.kept hk,⟨_,x.toInCall.ns,λi y v h1 h2 h3=>?_⟩,λy c h=>⟨_,x.cell y c h⟩,e0.hok.fresh<|O0 _,λy c h=>?_,λp hp=>absurd (show p∈([]:List (Addr×Obj)) from hp)<|by simp,e0.hok.kept hk,?_⟩
 .exact name_of_addr x.apart (PySem.mem_of_lookup h1) (PySem.mem_of_lookup h2)
 .have hy:scope.names.lookup y=some .cell\/scope.names.lookup y=some .free:=hy;rcases hy with hy|hy
  .exact sY hy
  .exact absurd rfl (S.nofree _<|PySem.mem_of_lookup hy)
 .exact U4 (x.above y c<|PySem.mem_of_lookup h)
 .have hi:i<vs.length:=by
   unfold start at h2;by_cases hi:i<vs.length
   .exact hi
   .rw[Q2<|by simpa using hi]at h2;rw[v8]at h2;split at h2<;>cases h2
  have ha:vs[i]?=some v:=by
   unfold start at h2;rw[E3 (by simpa using hi),E1]at h2;cases e:vs[i]? with
   |none=>rw[e]at h2;cases h2
   |some a=>rw[e]at h2;cases h2;rfl
  obtain⟨u,hu,rv⟩:=r.get ha;have hp:ps[i]?=some y:=by rw[<-S.pre,List.getElem?_take_of_lt<|by lia];exact h1
  have ndP:ps.Nodup:=by rw[<-S.pre];exact S.nd.sublist<|List.take_sublist _ _
  refine⟨u,rv,?_⟩;rcases S.par y (U1 hp) with k|k
  .exact .inl ⟨k,pU ndP hp hu k⟩
  .obtain⟨c,e⟩:=sY (n:=s.heap.objs.size+1) k;refine .inr ⟨.inl k,c,e,?_⟩;have q:=x.cell y c e;rw[qU ndP hp hu<|by show scope.names.lookup y≠_;rw[k];decide]at q;exact q
 .exact e0.hok.fresh (U4<|x.above y c<|PySem.mem_of_lookup h)
 .unfold start;show _=N.length;rw[M0,B0,V1]
  lia
theorem JD{CX:aF}{P:Program}{w:World}{K:G0}{mg:Str->Option Value}{base:Heap}{k:Nat}{f:Addr}{params:Arguments}{body:List Stmt}{dV kV doc pm cdv ct oc:Value}{an od:Option Addr}{osl:Array (Option Value)}{ps:List Str}{sp:Sp} (lk:K.lookup f=some ⟨oc,od,.func<|V4 name qual params body scope dV kV doc pm an cdv ct,osl⟩) (hcd:K7 K cdv qual=true) (S:FnScope N ps scope)(len:∀vs H Q E,sp vs H Q E->vs.length=ps.length)(hbody:∀(A:Around) (outer:List Env) (s:Shared) (H:Hp) (vs:List V) (Q:VK) (E:XK),Room k (A.deeper<|envOfC qual scope s.heap.objs.size f cdv)->sp vs H Q E -> ∃t,PSs (NY CX P w K mg base N qual scope f cdv A outer s H E) body t/\t {nx:=λ_ H'=>Q .non H',rt:=Q} (start N vs) H):FnOk P w K mg base CX (k+1) f (V4 name qual params body scope dV kV doc pm an cdv ct) ps sp:=by
 refine⟨len,λA outer s H args us vs Q E hr e0 hb r hsp=>?_⟩;have hl:=len _ _ _ _ hsp;have KX:K.In s.heap:=e0.mod.kin.keeps λb o e=>(e0.bs b o e).1;have lim:s.heap.NoLimit:=e0.mod.nolimit.keeps λb o e=>(e0.bs b o e).1;have hkind:∀y∈ps.zip us,scope.names.lookup y.1=some .local\/(scope.names.lookup y.1=some .cell/\((cellsFrom (s.heap.objs.size+1) scope.names []).lookup y.1).isSome=true):=λ⟨n,v⟩ hy=>by
  rcases S.par n (u5 hy).1 with q|q
  .exact .inl q
  .exact .inr ⟨q,J8 _ _ _<|.inl q⟩
 refine codeAny_call_function hr.depth (KX _ _ lk) rfl S.co S.gen rfl (PySem.W.codeRec_of KX hcd)<|hb _ _ _ _ ?_;refine wpAny_newFunctionEnv_cells S.kind hkind λenv he s1 x=>?_;subst he;refine⟨lim.keeps x.toInCall.keep,codeAny_func ?_⟩;obtain⟨t,ht,hq⟩:=hbody A outer s H vs Q E (hr.deeper _) hsp;have I:Inv (NY CX P w K mg base N qual scope f cdv A outer s H E) [] (start N vs) H s1:=xz S hr.hd e0 hl r x;refine wpAny_mono (ht [] s1 (start N vs) H _ I hq) (λfl s' hs=>?_) λe s' hs=>hs;have fin:∀{σ':St}{H':Hp}{v:V}{u:Value},Inv (NY CX P w K mg base N qual scope f cdv A outer s H E) [] σ' H' s'->RelV v u->Q v H'->CE outer P w H s Q u s':=λ{σ' H' v u} J rv q=>⟨v,H',J.os,J.bare,J.base,J.hok,rv,q⟩;cases fl with
 |ret u=>obtain⟨v,σ',H',J,rv,q⟩:=hs;exact fin J rv q
 |next=>obtain⟨σ',H',J,q⟩:=hs;exact fin (v:=V.non) (u:=U3) J rfl q
 |brk=>obtain⟨_,_,_,q⟩:=hs;exact False.elim q
 |cont=>obtain⟨_,_,_,q⟩:=hs;exact False.elim q
section
variable {X:Cx}{x:Str}{p pos:Pos}{e:Expr}{es:List Expr}{t:TA}{id T:String}{r:List V->Hp->VK->Prop}
def FC(r:List V->Hp->VK->Prop)(t:TA):TE:=λσ H Q=>t σ H λvs H1=>r vs H1 Q
theorem KZ(hc:ZQ X (.builtin id) r)(hg:Gl X x)(hm:X.mg x=none)(hv:bootBuiltins x=some (.builtin id))(ha:PA X (e::es) t)(hn:x ≠ "__name__":=by decide)(hdb:(x==("__debug__":Str))=false:=by decide)
  (he:starEach (e::es) X.env=(false,eval e X.env)::starEach es X.env:=by rfl) (hpl:(backTo pos<|starEach es X.env).any (·.1)=false:=by rfl):PE X (.Call (.Name x p) (e::es) [] pos) (FC r t):=by
 intro pins s σ H Q I h;refine wpAny_Call_Name_kw<|KY I hg hm hv ?_ hn hdb;exact PyProof.Rows.callWith_builtin1 (vX (ha pos pins s σ H _ I h) λus s1 ⟨vs,H1,I1,r1,q1⟩=>hc pins s1 σ H1 vs us Q I1 r1 q1) he hpl
theorem JZ(hc:ZQ X (.type T) r)(hg:Gl X x)(hm:X.mg x=none)(hv:bootBuiltins x=some (.type T))(ha:PA X (e::es) t)(hn:x ≠ "__name__":=by decide)(hdb:(x==("__debug__":Str))=false:=by decide)
  (he:starEach (e::es) X.env=(false,eval e X.env)::starEach es X.env:=by rfl) (hpl:(backTo pos<|starEach es X.env).any (·.1)=false:=by rfl):PE X (.Call (.Name x p) (e::es) [] pos) (FC r t):=by
 intro pins s σ H Q I h;refine wpAny_Call_Name_kw<|KY I hg hm hv ?_ hn hdb;exact W4 (vX (ha pos pins s σ H _ I h) λus s1 ⟨vs,H1,I1,r1,q1⟩=>hc pins s1 σ H1 vs us Q I1 r1 q1) he hpl
end
end L2
variable {r:L2.V->List L2.V->L2.Hp->L2.VK->Prop}{σ:L2.St}{H H':L2.Hp}{X:L2.Cx}
namespace HT
noncomputable def lexLt:Qa->Qa->Bool
 |[],[]=>false
 |[],_::_=>true
 |_::_,[]=>false
 |x::xs,y::ys=>if x=y then lexLt xs ys else decide (x<y)
theorem lexLt_cons(x y:Int)(xs ys:Qa):lexLt (x::xs) (y::ys)=if x=y then lexLt xs ys else decide (x<y):=rfl
section
open PySem.SeqAt
open PySem.AutoSeq1 (wpAny_loadPart')
open PySem.MeetsSeq PySem.MeetsSeq2 PySem.MeetsSeq3
end
section
variable {w:World}
theorem cat_tup(ht:IsTup s.heap t vs.toArray)(hb:IsTup s.heap b ws.toArray)(hv:vs≠[])(h1:ws=[]->Q (.ref t) s) (h2:ws≠[]->Q (.ref s.heap.objs.size) {s with heap:=s.heap.push {cls:=.type "tuple",data:=.seq (vs++ws).toArray}})(hsz:vs.length+ws.length<=sizeLine):wpAny (model prog w) A (binaryOp .Add (.ref t)<|.ref b) Q E s:=by
 obtain⟨⟨cls,dd,data,sl⟩,ho,hc,n,hd⟩:=id ht;obtain⟨⟨cls2,dd2,data2,sl2⟩,ho2,hc2,n2,hd2⟩:=id hb;simp only at hc hd hc2 hd2;subst hc hd hc2 hd2;have e:vs.toArray++ws.toArray=(vs++ws).toArray:=by simp
 by_cases hw:ws=[]
 .exact concat_meets ⟨_,ho,rfl⟩ ⟨_,ho2,rfl⟩ noFill_tuple_add seq_tuple_add PySem.F.slot_tuple_add PySem.F.entry_tuple_add (PySem.F.args_tuple_add_2 _ _)
   (tuple_addW1 t b vs.toArray ws.toArray n n2 dd dd2 sl sl2 (by simpa using hv)<|by simp[hw]) ⟨ho,ho2,h1 hw⟩
 .refine concat_meets ⟨_,ho,rfl⟩ ⟨_,ho2,rfl⟩ noFill_tuple_add seq_tuple_add PySem.F.slot_tuple_add PySem.F.entry_tuple_add (PySem.F.args_tuple_add_2 _ _)
   (tuple_addW2 t b vs.toArray ws.toArray n n2 dd dd2 sl sl2 (by simpa using hv) (by simpa using hw)<|by rw[X0,X0];exact hsz) ⟨ho,ho2,?_⟩;rw[e];exact h2 hw
noncomputable def sIx(n d:Nat):Option Int->Nat
 |none=>d
 |some v=>if v<0 then (v+(n:Int)).toNat else min v.toNat n
theorem sI(n d:Nat)(hd:d<=n)(o:Option Int):sIx n d o<=n:=by
 cases o with
 |none=>exact hd
 |some v =>
  show (if v<0 then (v+(n:Int)).toNat else min v.toNat n)<=n;by_cases hv:v<0
  .rw[if_pos hv];lia
  .rw[if_neg hv];exact Nat.min_le_right _ _
theorem KD(v:Int)(n d:Nat):(if v<0 then max (v+(n:Int)) 0 else min v (n:Int))=((sIx n d (some v):Nat):Int):=by
 show (if v<0 then max (v+(n:Int)) 0 else min v (n:Int))=(((if v<0 then (v+(n:Int)).toNat else min v.toNat n):Nat):Int);by_cases hv:v<0
 .simp only[if_pos hv];lia
 .simp only[if_neg hv];lia
theorem dF(lo hi:Option Int)(n:Nat):n6 lo hi 1 (n:Int)=(((sIx n 0 lo:Nat):Int),((sIx n n hi:Nat):Int)):=by
 have h1:¬((1:Int)<0):=by lia
 unfold n6;simp only[h1,if_false];refine Prod.ext ?_ ?_
 .cases lo with
  |none=>rfl
  |some v=>exact KD v n 0
 .cases hi with
  |none=>rfl
  |some v=>exact KD v n n
theorem eF(i j:Nat):n5 (i:Int) (j:Int) 1=j-i:=by
 unfold n5;have h1:(1:Int) > 0:=by lia
 simp only[h1,if_true,Int.ediv_one];split<;>lia
theorem NW{o:Option Int}{Q:Option Int->Shared->Prop}(p:IsPart v o)(h:Q o s):wpAny (model prog w) A (Builtin.Slice.slicePartIndex v) Q E s:=by
 cases p with
 |none=>exact slicePart_none h
 |int i t=>exact slicePart_int h
theorem kJ{lo:Option Int}{Q:Int×Int×Nat->Shared->Prop}(hs:s.heap.IsSliceOf sl vl vu .none)(pl:IsPart vl lo)(pu:IsPart vu hi)(h:Q (((sIx n 0 lo:Nat):Int),1,sIx n n hi-sIx n 0 lo) s):wpAny (model prog w) A (N7 (.ref sl)<|pure (n:Int)) Q E s:=by
 obtain⟨os,hos,hcs,hds⟩:=id hs;unfold N7 Builtin.Slice.sliceFields;refine wpAny_bind<|wpAny_bind<|wpAny_field hos hds (x:=vl) rfl<|wpAny_bind<|wpAny_field hos hds (x:=vu) rfl<|wpAny_bind<|wpAny_field hos hds (x:=.none) rfl<|wpAny_pure ?_;refine wpAny_bind<|slicePart_none ?_;show wpAny _ _ (if ((1:Int)==0)=true then _ else _) _ _ s;rw[if_neg<|by decide];refine wpAny_bind<|NW pl<|wpAny_bind<|NW pu<|wpAny_bind<|wpAny_pure ?_;show wpAny _ _ (match n6 lo hi 1 (n:Int) with|(lo,hi)=>pure (lo,(1:Int),n5 lo hi 1)) _ _ s;rw[dF lo hi n];show wpAny _ _ (pure (((sIx n 0 lo:Nat):Int),(1:Int),n5 ((sIx n 0 lo:Nat):Int) ((sIx n n hi:Nat):Int) 1)) _ _ s;rw[eF];exact wpAny_pure h
theorem ux(xs:Array Value)(i k:Nat):((Z1 k).filterMap λ(m:Nat)=>xs[((i:Int)+(m:Int)*1).toNat]?).toArray=((xs.toList.drop i).take k).toArray:=by
 have e:(λ(m:Nat)=>xs[((i:Int)+(m:Int)*1).toNat]?)=λm=>xs[i+m]?:=by
  funext m;have:((i:Int)+(m:Int)*1).toNat=i+m:=by lia
  rw[this]
 rw[e];have:=pick_run xs i k;rw[List.filterMap_map]at this;have e2:((λx=>xs[x]?)∘λx=>i+x)=λm=>xs[i+m]?:=rfl;rw[e2]at this;rw[this]
theorem getItem_tuple_cut{lo:Option Int}(ht:IsTup s.heap t items)(hs:s.heap.IsSliceOf sl vl vu .none)(pl:IsPart vl lo)(pu:IsPart vu hi)(hw:¬(sIx items.size 0 lo=0/\sIx items.size items.size hi=items.size))(h:Q (.ref s.heap.objs.size) {s with heap:=s.heap.push {cls:=.type "tuple",data:=.seq ((items.toList.drop<|sIx items.size 0 lo).take<|sIx items.size items.size hi-sIx items.size 0 lo).toArray}})(hsz:items.size<=sizeLine):wpAny (model prog w) A (getItem (.ref t)<|.ref sl) Q E s:=by
 have htake:sizeOk (.seq ((items.toList.drop<|sIx items.size 0 lo).take<|sIx items.size items.size hi-sIx items.size 0 lo).toArray):=by
  show ((items.toList.drop<|sIx items.size 0 lo).take<|sIx items.size items.size hi-sIx items.size 0 lo).toArray.size<=sizeLine;rw[X0,j2,U2,G3]
  lia
 have hj:sIx items.size items.size hi<=items.size:=sI _ _ (O0 _) hi;obtain⟨os,hos,hcs,hds⟩:=id hs;have hTs:s.TypeIs (.ref sl) "slice":=⟨os,hos,hcs⟩;unfold getItem;try with_reducible refine wpAny_holding ?_
 first|refine wpAny_bind (wpAny_pure ?_)|skip
 refine wpAny_bind<|wpAny_sequenceKey ht.typeIs (by decide) ?_;refine wpAny_bind<|wpAny_callSpecial?_slot (name:=Str.ofString "__getitem__") ht.typeIs j4
   (wpAny_call_entry j4 ht.typeIs entry_tuple_getitem ?_<|args_tuple_getitem _ _);show wpAny _ _ (O7 (.ref t) >>= _) _ _ s;refine wpAny_bind<|tupleItemsOf_ ht ?_;refine wpAny_bind<|wpAny_typeOf hTs ?_;rw[if_pos<|by decide];refine wpAny_bind<|kJ hs pl pu ?_;have hno:¬((((sIx items.size 0 lo:Nat):Int)==0&&(1:Int)==1&&(sIx items.size items.size hi-sIx items.size 0 lo)==items.size)=true):=by
  intro q;rw[A2,A2]at q;have q1:((sIx items.size 0 lo:Nat):Int)=0:=eq_of_beq q.1.1;have q2:sIx items.size items.size hi-sIx items.size 0 lo=items.size:=eq_of_beq q.2;exact hw ⟨by lia,by lia⟩
 show wpAny _ _ (if (((sIx items.size 0 lo:Nat):Int)==0&&(1:Int)==1&&(sIx items.size items.size hi-sIx items.size 0 lo)==items.size)=true then _ else _) _ _ s;rw[if_neg hno,ux];first
  |exact wpAny_bind (m:=G5 _)<|wpAny_newObj_type (wpAny_pure ⟨_,rfl,wpAny_pure h⟩) htake
  |exact wpAny_bind (m:=G5 _)<|wpAny_newObj_type (wpAny_bind<|wpAny_pure<|wpAny_pure ⟨_,rfl,wpAny_pure h⟩) htake
  |exact wpAny_bind<|wpAny_bind (m:=G5 _)<|wpAny_newObj_type (wpAny_pure<|wpAny_pure ⟨_,rfl,wpAny_pure h⟩) htake
  |exact wpAny_bind<|wpAny_bind (m:=G5 _)<|wpAny_newObj_type (wpAny_pure ⟨_,rfl,wpAny_pure h⟩) htake
end
end HT
namespace L2
noncomputable abbrev TO:=St->Hp->(Option Int->Hp->Prop)->Prop
def PO(X:Cx)(e:Option Expr)(t:TO):Prop :=
 ∀(pins:List (Addr×Obj)) (s:Shared) (σ:St) (H:Hp) (Q:Option Int->Hp->Prop),Inv X pins σ H s->t σ H Q ->
  wpAny (model X.prog X.w) X.A (evalPart e X.env) (λu s'=>∃o H',Inv X pins σ H' s'/\IsPart u o/\Q o H') X.xe s
noncomputable def Dy:TO:=λ_ H Q=>Q none H
noncomputable def HN(t:TE):TO:=λσ H Q=>t σ H λx H1=>∃i,x=.int i/\Q (some i) H1
theorem zJ:∀{us:List Value},Vals (ns.map V.int) us->IntsAre us ns:=by
 induction ns with
 |nil=>intro us r;rw[G7]at r;cases r;exact .nil
 |cons n ns ih =>
  intro us r;rw[K1]at r;cases r with
  |cons r1 r2=>obtain⟨t,e⟩:=r1;subst e;exact .cons n t<|ih r2
section
variable {e:Expr}{te:TE}{lo hi:Option Expr}{tl th:TO}{pos p2:Pos}
theorem tY:PO X none Dy:=by intro pins s σ H Q I h;rw[evalPart_none];exact wpAny_pure ⟨none,H,I,.none,h⟩
theorem uY(h:PE X e te):PO X (some e) (HN te):=by intro pins s σ H Q I hw;rw[evalPart_some];refine vX (h pins s σ H _ I hw) λu s1 ⟨x,H1,I1,r1,q1⟩=>?_;obtain⟨i,rfl,q⟩:=q1;obtain⟨t,rfl⟩:=r1;exact⟨some i,H1,I1,.int i t,q⟩
def IP(X:Cx)(r:V->Option Int->Option Int->Hp->VK->Prop):Prop :=
 ∀(pins:List (Addr×Obj)) (s:Shared) (σ:St) (H:Hp) (x:V) (v vl vu:Value) (lo hi:Option Int) (sl:Addr) (Q:VK),Inv X pins σ H s->RelV x v->s.heap.IsSliceOf sl vl vu .none->IsPart vl lo->IsPart vu hi->r x lo hi H Q ->
  ∃T id,typeLookup (.type T) "__getitem__"=pure (some<|.builtin id)/\s.TypeIs v T/\wpAny (model X.prog X.w) X.A (getItem v<|.ref sl) (EP X pins σ Q) X.xe s
def vS(r:V->Option Int->Option Int->Hp->VK->Prop)(te:TE)(tl th:TO):TE:=λσ H Q=>te σ H λx H1=>tl σ H1 λl H2=>th σ H2 λu H3=>r x l u H3 Q
theorem fK{r:V->Option Int->Option Int->Hp->VK->Prop}(hr:IP X r)(he:PE X e te)(hl:PO X lo tl)(hu:PO X hi th):PE X (.Subscript e (.Slice lo hi none p2) pos) (vS r te tl th):=by intro pins s σ H Q I h;refine Subscript_<|vX (he pins s σ H _ I h) λv s1 ⟨x,H1,I1,r1,q1⟩=>?_;refine wpAny_Slice<|vX (hl pins s1 σ H1 _ I1 q1) λvl s2 ⟨l,H2,I2,pl,q2⟩=>vX (hu pins s2 σ H2 _ I2 q2) λvu s3 ⟨u,H3,I3,pu,q3⟩=>?_;rw[evalPart_none];refine wpAny_pure ?_;have I4:Inv X pins σ H3 {s3 with heap:=s3.heap.push {cls:=.type "slice",data:=.fields #[vl,vu,.none]}}:=I3.kept (t':=s3.toks) λb ob q=>u0 _ q;obtain⟨T,id,hT,ht,hg⟩:=hr pins {s3 with heap:=s3.heap.push {cls:=.type "slice",data:=.fields #[vl,vu,.none]}} σ H3 x v vl vu l u s3.heap.objs.size Q I4 r1 (Heap.IsSliceOf.new ..) pl pu q3;show wpAny (model X.prog X.w) X.A (subscriptTail e (.Slice lo hi none p2) v<|.ref s3.heap.objs.size) (EP X pins σ Q) X.xe {s3 with heap:=s3.heap.push {cls:=.type "slice",data:=.fields #[vl,vu,.none]}};exact tail_any (ops:=[.ref s3.heap.objs.size,v]) ht hT hg (by with_unfolding_all rfl)
noncomputable def YJ(xs:List V)(lo hi:Option Int):List V:=(xs.drop<|HT.sIx xs.length 0 lo).take<|HT.sIx xs.length xs.length hi-HT.sIx xs.length 0 lo
theorem CH(xs:List V)(lo hi:Option Int):(YJ xs lo hi).length<=xs.length:=by
 unfold YJ;rw[j2,U2]
 lia
def tI(K:G0):V->Option Int->Option Int->Hp->VK->Prop:=λx lo hi H Q=>∃a xs,x=.ref a/\SqT K H a xs /\
 ¬(HT.sIx xs.length 0 lo=0/\HT.sIx xs.length xs.length hi=xs.length)/\∀p,H p=none->Q (.ref p) (upd H p<|.tup<|YJ xs lo hi)
theorem fF:IP X (tI X.K):=by
 intro pins s σ H x v vl vu lo hi sl Q I rx hs pl pu h;obtain⟨a,xs,rfl,hx,hw,q⟩:=h;cases rx;obtain⟨its,r,ht,hz⟩:=I.tuple hx;have hlen:its.toArray.size=xs.length:=by rw[X0];exact r.length.symm
 refine⟨"tuple",_,j4.lookup,ht.typeIs,?_⟩;refine HT.getItem_tuple_cut ht hs pl pu (by rw[hlen];exact hw) ?_ (by rw[hlen];exact hz);rw[hlen];refine⟨.ref s.heap.objs.size,_,I.laid (t':=s.toks) (o:=.tup<|YJ xs lo hi) (λb ob q=>u0 _ q) (O0 _) ?_,rfl,q _<|I.hok.fresh<|O0 _⟩;exact⟨T1 (CH xs lo hi) hz,_,(r.drop<|HT.sIx xs.length 0 lo).take<|HT.sIx xs.length xs.length hi-HT.sIx xs.length 0 lo,IsTupD.new _ _⟩
def IN(K:G0):R2:=λx y H Q=>∃a b xs ys,x=.ref a/\y=.ref b/\SqT K H a xs/\SqT K H b ys/\xs≠[]/\xs.length+ys.length<=sizeLine /\
 (ys=[]->Q (.ref a) H)/\(ys≠[]->∀p,H p=none->Q (.ref p) (upd H p<|.tup<|xs++ys))
theorem Vals.nil_iff(r:Vals xs us):us=[]↔xs=[]:=by
 cases r with
 |nil=>simp
 |cons _ _=>simp
theorem Ey:OpR X (binaryOp .Add) (IN X.K):=by intro pins s σ H x y v u Q I rx ry h;obtain⟨a,b,xs,ys,rfl,rfl,ha,hb,hx,hz,q1,q2⟩:=h;cases rx;cases ry;obtain⟨its,r1,p1,_⟩:=I.tuple ha;obtain⟨its2,r2,p2,_⟩:=I.tuple hb;refine HT.cat_tup p1 p2 (λz=>hx<|r1.nil_iff.mp z) (λz=>⟨.ref a,H,I,rfl,q1<|r2.nil_iff.mp z⟩) (λz=>?_) (by rw[<-r1.length,<-r2.length];exact hz);refine⟨.ref s.heap.objs.size,_,I.laid (t':=s.toks) (o:=.tup<|xs++ys) (λb ob q=>u0 _ q) (O0 _) ?_,rfl,q2 (λw=>z<|r2.nil_iff.mpr w) _<|I.hok.fresh<|O0 _⟩;exact⟨by rw[M0];exact hz,_,r1.append r2,IsTupD.new _ _⟩
end
noncomputable def GC(n:Nat)(i:Int):Option Nat:=if 0<=i then (if i<n then some i.toNat else none) else if -(n:Int)<=i then some (i+n).toNat else none
noncomputable def gK{α:Type}(xs:List α)(i:Int):Option α:=(GC xs.length i).bind λj=>xs[j]?
theorem Fy(h:GC n i=some j):seqIndex? i n=some j/\j<n/\-(n:Int)<=i/\i<n:=by
 unfold GC at h;by_cases h0:0<=i
 .rw[if_pos h0]at h;by_cases h1:i<n
  .rw[if_pos h1]at h;have e:i.toNat=j:=W1 h;exact⟨by rw[seqIndex_of h0 h1,e],by lia,by lia,h1⟩
  .rw[if_neg h1]at h;cases h
 .rw[if_neg h0]at h;by_cases h1:-(n:Int)<=i
  .rw[if_pos h1]at h;have e:(i+n).toNat=j:=W1 h;exact⟨by rw[seqIndex_neg (by lia) h1,e],by lia,h1,by lia⟩
  .rw[if_neg h1]at h;cases h
theorem LD(h:gK xs i=some v):∃j,seqIndex? i xs.length=some j/\xs[j]?=some v/\j<xs.length/\-(xs.length:Int)<=i/\i<xs.length:=by
 unfold gK at h;cases e:GC xs.length i with
 |none=>rw[e]at h;cases h
 |some j=>rw[e]at h;obtain⟨h1,h2,h3,h4⟩:=Fy e;exact⟨j,h1,h,h2,h3,h4⟩
theorem eZ{xs:List α}{j:Nat}{v:α}(h:xs[j]?=some v):gK xs (j:Int)=some v:=by
 have hj:j<xs.length:=(Q1.mp h).1;have e:GC xs.length (j:Int)=some j:=by unfold GC;rw[if_pos<|by lia,if_pos<|by lia];simp
 unfold gK;rw[e];exact h
def RU(b:Expr):Prop:=∀o i,subscripted b false o i=operate [o,i] (getItem o i)
def IxR(X:Cx)(r:R2):Prop :=
 ∀(value slice:Expr) (pins:List (Addr×Obj)) (s:Shared) (σ:St) (H:Hp) (x y:V) (v u:Value) (Q:VK),Inv X pins σ H s->RelV x v->RelV y u->r x y H Q ->
  subscripted slice false v u=operate [v,u] (getItem v u)->wpAny (model X.prog X.w) X.A (subscriptTail value slice v u) (EP X pins σ Q) X.xe s
def JP(X:Cx)(id:String)(r:V->List V->Hp->VK->Prop):Prop :=
 ∀(pins:List (Addr×Obj)) (s:Shared) (σ:St) (H:Hp) (x:V) (xs:List V) (v:Value) (us:List Value) (Q:VK),Inv X pins σ H s->RelV x v->Vals xs us->r x xs H Q ->
  wpAny (model X.prog X.w) X.A (call (.builtin id) (v::us)) (EP X pins σ Q) X.xe s
section
variable {a b:Expr}{ta tb:TE}{pos:Pos}
theorem IxR.or{r:R2}(h:IxR X r)(h':IxR X r'):IxR X (λx y H Q=>r x y H Q\/r' x y H Q):=by
 intro value slice pins s σ H x y v u Q I rx ry q hs;rcases q with q|q
 .exact h value slice pins s σ H x y v u Q I rx ry q hs
 .exact h' value slice pins s σ H x y v u Q I rx ry q hs
theorem JN{r:R2}(hr:IxR X r)(ha:PE X a ta)(hb:PE X b tb)(hs:RU b):PE X (.Subscript a b pos) (sN r ta tb):=by intro pins s σ H Q I h;exact Subscript_<|jI ha hb I h λv u s2 x y H2 I2 rx ry q=>hr a b pins s2 σ H2 x y v u Q I2 rx ry q<|hs _ _
def Gy(K:G0):R2:=λx y H Q=>∃p xs i v,x=.ref p/\y=.int i/\SqL K H p xs/\gK xs i=some v/\Q v H
def Hy(K:G0):R2:=λx y H Q=>∃p xs i v,x=.ref p/\y=.int i/\SqT K H p xs/\gK xs i=some v/\Q v H
theorem Iy:IxR X (Gy X.K):=by
 intro value slice pins s σ H x y v u Q I rx ry h hs;obtain⟨p,xs,i,z,rfl,rfl,hq,he,q⟩:=h;cases rx;obtain⟨t,rfl⟩:=ry;obtain⟨its,r,pl,hz⟩:=I.list hq;obtain⟨j,h1,h2,h3,h4,h5⟩:=LD he;obtain⟨w,ew,rw'⟩:=r.get h2;have hl:=r.length;have hn:=ZG;have fin:EP X pins σ Q w s:=⟨z,H,I,rw',q⟩;by_cases h0:0<=i
 .have hj:i.toNat=j:=by
   rw[seqIndex_of h0 h5]at h1;exact W1 h1
  exact item_listR pl.isList h0 (by lia) (by rw[hj];simpa using ew) fin hs
 .have hj:(i+(its.toArray.size:Int)).toNat=j:=by
   rw[seqIndex_neg (by lia) h4]at h1;rw[X0,<-hl];exact W1 h1
  exact subscriptTail_builtinR (x:=w) pl.isList.typeIs slot_list_getitem.lookup
   (wpAny_getItem_list_neg (Q:=λr s'=>r=w/\EP X pins σ Q r s') pl.isList (by lia) (by rw[X0]<;>lia) (by lia) (by rw[hj];simpa using ew) ⟨rfl,fin⟩) hs
theorem uI:IxR X (Hy X.K):=by
 intro value slice pins s σ H x y v u Q I rx ry h hs;obtain⟨p,xs,i,z,rfl,rfl,hq,he,q⟩:=h;cases rx;obtain⟨t,rfl⟩:=ry;obtain⟨its,r,pl,hz⟩:=I.tuple hq;obtain⟨j,h1,h2,h3,h4,h5⟩:=LD he;obtain⟨w,ew,rw'⟩:=r.get h2;have hl:=r.length;have hn:=ZG;have fin:EP X pins σ Q w s:=⟨z,H,I,rw',q⟩;exact subscriptTail_builtinR (x:=w) pl.typeIs slot_tuple_getitem.lookup
  (getItem_tuple (j:=j) (Q:=λr s'=>r=w/\EP X pins σ Q r s') pl (by lia) (by lia) (by rw[X0,<-hl];exact h1) (by simpa using ew) ⟨rfl,fin⟩) hs
noncomputable def vY:V->Bool
 | .non=>true
 | .bl _=>true
 | .int _=>true
 | .str _=>true
 |_=>false
noncomputable def Jy:V->V->Bool
 | .non,.non=>true
 | .bl a,.bl b=>a==b
 | .bl a,.int b=>(if a then 1 else 0)==b
 | .int a,.bl b=>a==(if b then 1 else 0)
 | .int a,.int b=>a==b
 | .str a,.str b=>a==b
 |_,_=>false
theorem vI{y:V}(ry:RelV y u)(rx:RelV x v)(fy:vY y=true)(fx:vY x=true):SeqAt.EqAt A s u v (Jy y x):=by
 cases y with
 |non =>
  cases ry;cases x with
  |non=>cases rx;exact SeqAt.EqAt.same _
  |bl b=>cases rx;exact SeqAt.EqAt.none_bool b
  |int b=>obtain⟨t,rfl⟩:=rx;exact SeqAt.EqAt.none_int b t
  |str b=>obtain⟨t,rfl⟩:=rx;exact SeqAt.EqAt.none_str b t
  |_=>exact absurd (show false=true from fx) W0
 |bl a =>
  cases ry;cases x with
  |non=>cases rx;exact SeqAt.EqAt.bool_none a
  |bl b=>cases rx;exact SeqAt.EqAt.bool_bool a b
  |int b=>obtain⟨t,rfl⟩:=rx;exact SeqAt.EqAt.bool_int a b t
  |str b=>obtain⟨t,rfl⟩:=rx;exact SeqAt.EqAt.bool_str a b t
  |_=>exact absurd (show false=true from fx) W0
 |int a =>
  obtain⟨t',rfl⟩:=ry;cases x with
  |non=>cases rx;exact SeqAt.EqAt.int_none a t'
  |bl b=>cases rx;exact SeqAt.EqAt.int_bool a t' b
  |int b=>obtain⟨t,rfl⟩:=rx;exact SeqAt.EqAt.int_int a t' b t
  |str b=>obtain⟨t,rfl⟩:=rx;exact SeqAt.EqAt.int_str a t' b t
  |_=>exact absurd (show false=true from fx) W0
 |str a =>
  obtain⟨t',rfl⟩:=ry;cases x with
  |non=>cases rx;exact SeqAt.EqAt.str_none a t'
  |bl b=>cases rx;exact SeqAt.EqAt.str_bool a t' b
  |int b=>obtain⟨t,rfl⟩:=rx;exact SeqAt.EqAt.str_int a t' b t
  |str b=>obtain⟨t,rfl⟩:=rx;exact SeqAt.EqAt.str_str a t' b t
  |_=>exact absurd (show false=true from fx) W0
 |_=>exact absurd (show false=true from fy) W0
noncomputable def Ky(x:V)(u:Value):Bool:=match u with
 | .none=>Jy .non x
 | .bool b=>Jy (.bl b) x
 | .int i _=>Jy (.int i) x
 | .str z _=>Jy (.str z) x
 |_=>false
theorem vx{y:V}(r:RelV y u)(f:vY y=true):Ky x u=Jy y x:=by
 cases y with
 |non=>cases r;rfl
 |bl b=>cases r;rfl
 |int i=>obtain⟨t,rfl⟩:=r;rfl
 |str z=>obtain⟨t,rfl⟩:=r;rfl
 |_=>exact absurd (show false=true from f) W0
theorem SU{x:V}:∀{xs:List V}{us:List Value},Vals xs us->xs.all vY=true->us.any (Ky x)=xs.any λy=>Jy y x
 |_,_,.nil,_=>rfl
 |y::xs,u::us,.cons r t,f=>by rw[E9,A2]at f;rw[v4,v4,vx r f.1,SU t f.2]
theorem OW{x:V}{v:Value}(rx:RelV x v)(fx:vY x=true):∀{xs:List V}{us:List Value},Vals xs us->xs.all vY=true->∀u∈us,SeqAt.EqAt A s u v (Ky x u)
 |_,_,.nil,_=>λu hu=>by cases hu
 |y::xs,u::us,.cons r t,f=>λu' hu=>by
  rw[E9,A2]at f;rcases P0.mp hu with rfl|hu
  .rw[vx r f.1];exact vI r rx f.1 fx
  .exact OW rx fx t f.2 u' hu
noncomputable def KN(x:V)(xs:List V):Bool:=xs.any λy=>Jy y x
def fR(K:G0)(neg:Bool):R2:=λx y H Q=>∃p xs,y=.ref p/\(SqL K H p xs\/SqT K H p xs)/\vY x=true/\xs.all vY=true/\Q (.bl<|if neg then !KN x xs else KN x xs) H
theorem yz:OpR X (compareOp .In) (fR X.K false):=by
 intro pins s σ H x y v u Q I rx ry h;obtain⟨p,xs,rfl,hq,fx,fs,q⟩:=h;cases ry;rcases hq with hq|hq
 .obtain⟨its,r,pl,hz⟩:=I.list hq;refine SeqAt.in_listAt (Ky x) pl.isList (λw hw=>OW rx fx r fs w<|by simpa using hw) ⟨.bl _,H,I,rfl,?_⟩;rw[show its.toArray.any (Ky x)=its.any (Ky x) by simp,SU r fs];exact q
 .obtain⟨its,r,pl,hz⟩:=I.tuple hq;refine SeqAt.in_tupleAt (Ky x) pl (λw hw=>OW rx fx r fs w<|by simpa using hw) ⟨.bl _,H,I,rfl,?_⟩;rw[show its.toArray.any (Ky x)=its.any (Ky x) by simp,SU r fs];exact q
theorem TU:ZQ X (.builtin "len") (λxs H Q=>∃p ys,xs=[.ref p]/\(SqL X.K H p ys\/SqT X.K H p ys)/\Q (.int ys.length) H):=by
 intro pins s σ H xs us Q I r h;obtain⟨p,ys,rfl,hq,q⟩:=h;obtain⟨u,rfl,rx⟩:=EZ r;cases rx;have hn:=ZG;rcases hq with hq|hq
 .obtain⟨its,r',pl,hz⟩:=I.list hq;have hlen:=r'.length;exact Calls.call_len_list pl.isList (by simp only[X0]<;>lia) ⟨.int ys.length,H,I.tok _,⟨s.toks+1,by rw[X0,hlen]⟩,q⟩
 .obtain⟨its,r',pl,hz⟩:=I.tuple hq;have hlen:=r'.length;exact len_tuple pl (by simp only[X0]<;>lia) ⟨.int ys.length,H,I.tok _,⟨s.toks+1,by rw[X0,hlen]⟩,q⟩
theorem UU:ZQ X (.type "list") (λxs H Q=>∃p ys,xs=[.ref p]/\(SqL X.K H p ys\/SqT X.K H p ys)/\∀l,H l=none->Q (.ref l) (upd H l<|.lst ys)):=by
 intro pins s σ H xs us Q I r h;obtain⟨p,ys,rfl,hq,q⟩:=h;obtain⟨u,rfl,rx⟩:=EZ r;cases rx;have fin:∀(its:List Value),Vals ys its->ys.length<=sizeLine->∀(h':Heap) (c':Nat),(∀b o',s.heap.get? b=some o'->h'.get? b=some o') ->
   h'.get? s.heap.objs.size=some {cls:=.type "list",dict:=none,data:=.seq its.toArray c',slots:=#[]}->EP X pins σ Q (.ref s.heap.objs.size) {s with heap:=h'}:=λits r' hz h' c' kp e =>
  ⟨.ref s.heap.objs.size,_,I.laid (t':=s.toks) kp (O0 _)<|show ObjOk X.prog X.w _ h' _ (.lst ys) from ⟨hz,its,c',r',e⟩,rfl,q _<|I.hok.fresh<|O0 _⟩;rcases hq with hq|hq
 .obtain⟨its,r',pl,hz⟩:=I.list hq;have hlen:=r'.length;obtain⟨o,ho,hc,n,hd⟩:=pl.isList;exact call_list_seq p (.inl rfl) ho hc hd (λh' c' kp e=>fin its r' hz h' c' kp e) (by simp only[X0]<;>lia)
 .obtain⟨its,r',pl,hz⟩:=I.tuple hq;have hlen:=r'.length;obtain⟨o,ho,hc,n,hd⟩:=pl;exact call_list_seq p (.inr rfl) ho hc hd (λh' c' kp e=>fin its r' hz h' c' kp e) (by simp only[X0]<;>lia)
theorem WV:ZQ X (.type "tuple") (λxs H Q=>∃p ys,xs=[.ref p]/\((SqL X.K H p ys/\∀l,H l=none->Q (.ref l) (upd H l<|.tup ys))\/(SqT X.K H p ys/\Q (.ref p) H))):=by
 intro pins s σ H xs us Q I r h;obtain⟨p,ys,rfl,h⟩:=h;obtain⟨u,rfl,rx⟩:=EZ r;cases rx;rcases h with⟨hq,q⟩|⟨hq,q⟩
 .obtain⟨its,r',pl,hz⟩:=I.list hq;have hlen:=r'.length;refine call_tuple_list pl.isList (λh' kp=>?_) (by simp only[X0]<;>lia);have I1:Inv X pins σ H {s with heap:=h'}:=I.kept (t':=s.toks) kp;have I2:Inv X pins σ (upd H h'.objs.size<|.tup ys) {s with heap:=h'.push {cls:=.type "tuple",data:=.seq its.toArray}}:=I1.laid (t':=s.toks) (λb o e=>u0 _ e) (O0 _)<|show ObjOk X.prog X.w _ _ _ (.tup ys) from ⟨hz,its,r',IsTupD.new _ _⟩;exact⟨.ref h'.objs.size,_,I2,rfl,q _<|I1.hok.fresh<|O0 _⟩
 .obtain⟨its,r',pl,hz⟩:=I.tuple hq;exact call_tuple_same pl ⟨.ref p,H,I,rfl,q⟩
def gR(K:G0)(T:String)(x:V)(H:Hp):Prop:=match x with
 | .str _=>T = "str"
 | .int _=>T = "int"
 | .ref p=>(T = "list"/\∃xs,SqL K H p xs)\/(T = "tuple"/\∃o,K.lookup p=some o/\o.cls=.type "tuple"/\o.dict=none) \/
   (T = "dict"/\((∃kvs,H p=some (.dK kvs))\/∃kvs,H p=some (.dT kvs)))\/(T = "set"/\∃S n,H p=some (.set S n))
 |_=>False
theorem xx{T:String}(I:Inv X pins σ H s)(r:RelV x v)(ty:gR X.K T x H):s.TypeIs v T/\∀a,v=.ref a->∃ob,s.heap.get? a=some ob/\ob.dict=none:=by
 cases x with
 |str z=>obtain⟨t,rfl⟩:=r;cases (show T = "str" from ty);exact⟨typeIs_str s z t,λ_ e=>nomatch e⟩
 |int i=>obtain⟨t,rfl⟩:=r;cases (show T = "int" from ty);exact⟨typeIs_int s i t,λ_ e=>nomatch e⟩
 |ref p =>
  cases r;rcases ty with⟨rfl,xs,hq⟩|⟨rfl,o,hk,hc,hd⟩|⟨rfl,hk⟩|⟨rfl,S,n,hk⟩
  .obtain⟨its,_,pl,_⟩:=I.list hq;refine⟨pl.isList.typeIs,λa e=>?_⟩;cases e;obtain⟨o,n,e,c,hd,_⟩:=pl;exact⟨o,e,hd⟩
  .refine⟨⟨o,I.kIn p o hk,hc⟩,λa e=>?_⟩;cases e;exact⟨o,I.kIn _ o hk,hd⟩
  .have z:∃o,s.heap.get? p=some o/\o.ExactDict:=by
    rcases hk with⟨kvs,hk⟩|⟨kvs,hk⟩
    .obtain⟨_,_,_,_,o,_,_,e,ex,_⟩:=I.hok p _ hk;exact⟨o,e,ex⟩
    .obtain⟨_,_,_,_,o,_,_,e,ex,_⟩:=I.hok p _ hk;exact⟨o,e,ex⟩
   obtain⟨o,e,ex⟩:=z;refine⟨⟨o,e,ex.1⟩,λa e2=>?_⟩;cases e2;exact⟨o,e,ex.2.1⟩
  .obtain⟨o,_,_,_,e,ex,_⟩:=I.hok p _ hk;refine⟨⟨o,e,ex.1⟩,λa e2=>?_⟩;cases e2;exact⟨o,e,ex.2.1⟩
 |_=>exact False.elim ty
def LN(K:G0)(T:String)(r:V->List V->Hp->VK->Prop)(to:TE):TE:=λσ H Q=>to σ H λx H1=>gR K T x H1/\r x [] H1 Q
def ZR(K:G0)(T:String)(r:V->List V->Hp->VK->Prop)(to:TE)(t:TA):TE:=λσ H Q=>to σ H λx H1=>gR K T x H1/\t σ H1 λxs H2=>r x xs H2 Q
variable {o e:Expr}{es:List Expr}{to:TE}{t:TA}{apos cpos:Pos}{T id:String}
theorem wI(pa:PlainAttrs T)(slot:Slot T name id)(hty:typeOf (.builtin id)=pure (.type "method_descriptor"))(hm:JP X id r)(ho:PE X o to)
  (hbase:attributeBase o name X.env (eval o X.env)=eval o X.env:=by rfl) (hline:(apos.endLine==cpos.line)=true:=by rfl):PE X (.Call (.Attribute o name apos) [] [] cpos) (LN X.K T r to):=by
 intro pins s σ H Q I h;refine wpAny_Call_method0_late hbase hline<|vX (ho pins s σ H _ I h) λv s1 ⟨x,H1,I1,r1,ty,q1⟩=>?_;obtain⟨h1,h2⟩:=xx I1 r1 ty;exact⟨T,id,pa,slot,hty,h1,h2,Calls.callWith_builtin rfl<|PySem.evalArgs_none<|hm pins s1 σ H1 x [] v [] Q I1 r1 .nil q1⟩
theorem MN(pa:PlainAttrs T)(slot:Slot T name id)(hty:typeOf (.builtin id)=pure (.type "method_descriptor"))(hm:JP X id r)(ho:PE X o to)(ha:PA X (e::es) t)
  (hbase:attributeBase o name X.env (eval o X.env)=eval o X.env:=by rfl)
  (hfew:((backTo cpos<|starEach (e::es) X.env).all (λx=>!x.1)&&(backToKw cpos<|keywordEach [] X.env).all (λx=>x.1.isSome)
    && decide ((e::es).length+([]:List Keyword).length+(if ([]:List Keyword).isEmpty then 0 else 1)<30))=true:=by rfl)
  (hline:(apos.endLine==cpos.line)=true:=by rfl) (hs:starEach (e::es) X.env=(false,eval e X.env)::starEach es X.env:=by rfl) (hplain:(backTo cpos<|starEach es X.env).any (·.1)=false:=by rfl) :
  PE X (.Call (.Attribute o name apos) (e::es) [] cpos) (ZR X.K T r to t):=by
 intro pins s σ H Q I h;refine wpAny_Call_method_late hbase hfew hline rfl<|vX (ho pins s σ H _ I h) λv s1 ⟨x,H1,I1,r1,ty,q1⟩=>?_;obtain⟨h1,h2⟩:=xx I1 r1 ty;refine⟨T,id,pa,slot,hty,h1,h2,?_⟩;have hA:=ha cpos pins s1 σ H1 _ I1 q1;rw[hs]at hA ⊢;refine Calls.callWith_builtin (by show (false||(backTo cpos<|starEach es X.env).any (·.1))=false;rw[hplain]<;>rfl)<|Calls.evalArgs_plain ?_;exact vX hA λus s2 ⟨vs,H2,I2,r2,q2⟩=>hm pins s2 σ H2 x vs v us Q I2 r1 r2 q2
end
def KP(X:Cx)(id:String)(r:V->List V->Hp->VK->Prop):Prop :=
 ∀(pins:List (Addr×Obj)) (s:Shared) (σ:St) (H:Hp) (x:V) (xs:List V) (v:Value) (us:List Value) (Q:VK),Inv X pins σ H s->RelV x v->Vals xs us->r x xs H Q ->
  wpAny (model X.prog X.w) X.A (call (.builtin id) (v::us)) (EP X pins σ Q) X.xe s
theorem Vals.one:∀{x:V}{us:List Value},Vals [x] us->∃u,us=[u]/\RelV x u
 |_,_,.cons r .nil=>⟨_,rfl,r⟩
theorem Vals.zero:∀{us:List Value},Vals [] us->us=[]
 |_,.nil=>rfl
theorem Vals.reverse(h:Vals xs us):Vals xs.reverse us.reverse:=by
 induction h with
 |nil=>exact .nil
 |cons r t ih=>rw[U5,U5];exact Vals.append ih<|.cons r .nil
theorem Vals.rep{xs:List V}(h:Vals xs us):∀k:Nat,Vals (A0 k xs).flatten (A0 k us).flatten
 |0=>.nil
 |k+1=>by rw[G2,G2,K4,K4];exact Vals.append h<|Vals.rep h k
theorem OY(its:List Value):∀(k:Nat) (acc:List Value), Y6 (λx1 x2=>x1++x2) acc.toArray (A0 k its.toArray)=(acc++(A0 k its).flatten).toArray
 |0,acc=>by simp
 |k+1,acc=>by
  have e:acc.toArray++its.toArray=(acc++its).toArray:=by simp
  have e2:(acc++its)++(A0 k its).flatten=acc++(A0 (k+1) its).flatten:=by rw[G2,K4,L4]
  rw[<-e2,<-OY its k (acc++its),<-e,G2,N8]
section
variable {l b:Addr}{xs ys zs:List V}
theorem Inv.lset(I:Inv X pins σ H s)(hH:H l=some (.lst xs))(e:s.heap.get? l=some {cls:=.type "list",data:=.seq its.toArray n}) (hf:f its.toArray=its'.toArray) (hv:Vals ys its') (hz:ys.length<=sizeLine):Inv X pins σ (upd H l<|.lst ys) {s with heap:=s.heap.update l (J2 f),toks:=t'}:=by
 have q:=PySem.IsL.update e f;rw[hf]at q;refine I.write (x:=l) (e:=l) (by rw[hH];exact trivial) (.inl rfl) (λb' u hb hu=>(W6 s.heap (J2 f)<|S2 hb).trans hu) ⟨_,q⟩ ?_;exact⟨hz,its',_,hv,q⟩
theorem Inv.lnew(I:Inv X pins σ H s)(hv:Vals ys its)(hz:ys.length<=sizeLine):Inv X pins σ (upd H s.heap.objs.size<|.lst ys) {s with heap:=s.heap.push {cls:=.type "list",data:=.seq its.toArray},toks:=t'}:=
 I.laid (λ_ _ q=>u0 _ q) (O0 _) ⟨hz,its,0,hv,T0 _ rfl⟩
theorem Inv.fresh(I:Inv X pins σ H s):H s.heap.objs.size=none:=I.hok.fresh<|O0 _
theorem Inv.lstM(I:Inv X pins σ H s)(hH:H l=some (.lst xs)):xs.length<=sizeLine/\∃(its:List Value) (n:Nat),Vals xs its/\xs.length=its.length/\s.heap.get? l=some {cls:=.type "list",data:=.seq its.toArray n}:=by obtain⟨z,its,n,r,e⟩:=I.hok l _ hH;exact⟨z,its,n,r,r.length,e⟩
theorem DH(h:n<=sizeLine):J5 n=false:=by unfold J5;exact decide_eq_false (by lia)
end
def MD:V->List V->Hp->VK->Prop:=λx vs H Q=>∃l xs y,x=.ref l/\vs=[y]/\H l=some (.lst xs)/\xs.length<sizeLine/\Q .non (upd H l<|.lst<|xs++[y])
theorem AX:KP X "list.append" MD:=by
 intro pins s σ H x vs v us Q I rx rv h;obtain⟨l,xs,y,rfl,rfl,hH,hz,q⟩:=h;cases rx;obtain⟨u,rfl,ru⟩:=rv.one;obtain⟨z,its,n,r,hl,e⟩:=I.lstM hH;refine call_meets F.slot_list_append ⟨_,e,rfl⟩ F.entry_list_append (F.args_list_append_2 _ _) (PySem.list_append l its.toArray n u<|by rw[X0];lia) ⟨e,?_⟩;refine⟨.non,_,I.lset (its':=its++[u]) hH e (by simp) (r.append<|.cons ru .nil) ?_,rfl,q⟩;rw[M0,M3]
 lia
def ND:V->List V->Hp->VK->Prop:=λx vs H Q=>∃l b xs zs,x=.ref l/\vs=[.ref b]/\H l=some (.lst xs)/\H b=some (.lst zs)/\xs.length+zs.length<=sizeLine/\Q .non (upd H l<|.lst<|xs++zs)
theorem zz:KP X "list.extend" ND:=by
 intro pins s σ H x vs v us Q I rx rv h;obtain⟨l,b,xs,zs,rfl,rfl,hH,hB,hz,q⟩:=h;cases rx;obtain⟨u,rfl,ru⟩:=rv.one;cases ru;obtain⟨z,its,n,r,hl,e⟩:=I.lstM hH;obtain⟨z2,its2,n2,r2,hl2,e2⟩:=I.lstM hB;have hsz:its.toArray.size+its2.toArray.size<=sizeLine:=by rw[X0,X0];lia
 have hlong:¬(!its.toArray.isEmpty&&J5 (its.toArray.size+its2.toArray.size))=true:=by rw[DH hsz,X8];exact W0
 refine call_meets F.slot_list_extend ⟨_,e,rfl⟩ F.entry_list_extend (F.args_list_extend_2 _ _)
  (AutoSeq1.list_extend_list_list_0 l its.toArray n b its2.toArray n2 hlong (by rw[X0];lia)<|by lia) ⟨e,e2,?_⟩;refine⟨.non,_,I.lset (its':=its++its2) hH e (by simp) (r.append r2) ?_,rfl,q⟩;rw[M0]
 lia
def EH:V->List V->Hp->VK->Prop:=λx vs H Q=>∃l xs,x=.ref l/\vs=[]/\H l=some (.lst xs)/\Q .non (upd H l<|.lst xs.reverse)
theorem gF:KP X "list.reverse" EH:=by
 intro pins s σ H x vs v us Q I rx rv h;obtain⟨l,xs,rfl,rfl,hH,q⟩:=h;cases rx;have hus:=rv.zero;subst hus;obtain⟨z,its,n,r,hl,e⟩:=I.lstM hH;refine call_meets F.slot_list_reverse ⟨_,e,rfl⟩ F.entry_list_reverse (F.args_list_reverse_1 _) (AutoSeq1.list_reverse_list_0 l its.toArray n<|by rw[X0];lia) ⟨e,?_⟩;refine⟨.non,_,I.lset (its':=its.reverse) hH e (by simp) r.reverse ?_,rfl,q⟩;rw[E7]
 lia
def xI:R2:=λx y H Q=>∃l b xs zs,x=.ref l/\y=.ref b/\H l=some (.lst xs)/\H b=some (.lst zs)/\xs.length+zs.length<=sizeLine/\∀p,H p=none->Q (.ref p) (upd H p<|.lst<|xs++zs)
theorem yI:OpR X (binaryOp .Add) xI:=by
 intro pins s σ H x y v u Q I rx ry h;obtain⟨l,b,xs,zs,rfl,rfl,hH,hB,hz,q⟩:=h;cases rx;cases ry;obtain⟨z,its,n,r,hl,e⟩:=I.lstM hH;obtain⟨z2,its2,n2,r2,hl2,e2⟩:=I.lstM hB;refine PySem.P.add_list e e2 ?_ (by rw[X0,X0];lia);have ea:its.toArray++its2.toArray=(its++its2).toArray:=by simp
 rw[ea];exact⟨.ref _,_,I.lnew (t':=s.toks) (r.append r2) (by rw[M0];lia),rfl,q _ I.fresh⟩
def AI:R2:=λx y H Q=>∃l k xs,x=.ref l/\y=.int k/\H l=some (.lst xs)/\-(2 ^ 63)<=k/\k<2 ^ 63/\xs.length*k.toNat<=sizeLine /\
 ∀p,H p=none->Q (.ref p) (upd H p<|.lst (A0 k.toNat xs).flatten)
theorem OD(xs:List α)(k:Nat):(A0 k xs).flatten.length=k*xs.length:=by
 induction k with
 |zero=>simp
 |succ k ih=>rw[G2,K4,M0,ih,M9,Nat.add_comm]
theorem BI:OpR X (binaryOp .Mult) AI:=by
 intro pins s σ H x y v u Q I rx ry h;obtain⟨l,k,xs,rfl,rfl,hH,h1,h2,hz,q⟩:=h;cases rx;obtain⟨t,rfl⟩:=ry;obtain⟨z,its,n,r,hl,e⟩:=I.lstM hH;have hlen:its.toArray.size*k.toNat<=sizeLine:=by rw[X0,<-hl];exact hz
 have hcap:¬its.toArray.size*k.toNat > (2 ^ 63-1) / 8:=by
  have:(sizeLine:Nat)<=(2 ^ 63-1) / 8:=by decide
  lia
 have hfit:¬(!Builtin.List.listFitsIndex k)=true:=by rw[fitsIndex_both h1 h2];exact W0
 have hlong:¬J5 (its.toArray.size*k.toNat)=true:=by rw[DH hlen];exact W0
 have hnew:Y6 (λx1 x2=>x1++x2) #[] (A0 (if its.toArray.isEmpty=true then 0 else k.toNat) its.toArray)=(A0 k.toNat its).flatten.toArray:=by
  have f0:∀m:Nat,Y6 (λx1 x2=>x1++x2) #[] (A0 m its.toArray)=(A0 m its).flatten.toArray:=λm=>by have:=OY its m [];rw[E6]at this;exact this
  rw[f0];cases its with
  |nil=>simp
  |cons a r'=>rw[if_neg<|by simp]
 refine wpAny_binaryOp_repeat_ref (T:="list") (U:="int") (by decide) ⟨_,e,rfl⟩ (λs'=>typeIs_int s' k t) noFill_list_mul F.fills_int_mul F.slot_int_rmul repeat_list F.slot_int_index.lookup
  (call_meets F.slot_int_rmul (typeIs_int s k t) F.entry_int_rmul (F.args_int_rmul_2 _ _) (int___rmul___int_list k t l its.toArray n)
    ⟨e,rfl,⟨_,e,rfl⟩,call_meets F.slot_list_mul ⟨_,e,rfl⟩ F.entry_list_mul (F.args_list_mul_2 _ _) (AutoListH.list___mul___list_int_3 l its.toArray n k t hfit hcap hlong) ⟨e,?_⟩⟩);rw[hnew];exact⟨.ref _,_,I.lnew (t':=s.toks) (r.rep k.toNat) (by rw[OD,N9];exact hz),rfl,q _ I.fresh⟩
section
variable {w:World}
set_option maxRecDepth 100000 in
end
section
variable {κ:Type}[DecidableEq κ]
noncomputable def AJ(kvs:List (κ×V))(k:κ):Option V:=(kvs.find? λkv=>decide<|kv.1=k).map (·.2)
noncomputable def IX(kvs:List (κ×V))(k:κ)(v:V):List (κ×V):=if (kvs.any λkv=>decide<|kv.1=k)=true then kvs.map (λkv=>if kv.1=k then (kv.1,v) else kv) else kvs++[(k,v)]
theorem QW{p:κ×V}{r:List (κ×V)}(e:p.1=k):AJ (p::r) k=some p.2:=by simp[AJ,T3,e]
theorem RW{p:κ×V}{r:List (κ×V)}(e:¬p.1=k):AJ (p::r) k=AJ r k:=by simp[AJ,T3,e]
theorem SW(k:κ):∀kvs:List (κ×V),(kvs.any λkv=>decide<|kv.1=k)=(AJ kvs k).isSome
 |[]=>rfl
 |p::r=>by
  rw[v4];by_cases e:p.1=k
  .simp only[QW e,decide_eq_true e,Bool.true_or,K9]
  .rw[RW e,decide_eq_false e,Bool.false_or];exact SW k r
theorem aZ(kvs:List (κ×V))(k:κ)(v:V):(IX kvs k v).length<=kvs.length+1:=by
 unfold IX;split
 .rw[B0];lia
 .rw[M0,Y1,G6];lia
theorem yx{k:κ}(v:V)(h:AJ kvs k=none):IX kvs k v=kvs++[(k,v)]:=by unfold IX;rw[SW,h];exact if_neg (by decide)
theorem RelO.isSome_eq{o:Option V}{u:Option Value}(r:RelO o u):o.isSome=u.isSome:=by
 cases o with
 |none=>cases u with
  |none=>rfl
  |some _=>exact(show False from r).elim
 |some _=>cases u with
  |none=>exact(show False from r).elim
  |some _=>rfl
theorem KV.val(r:KV kvs vs)(k:κ):RelO (AJ kvs k) (valueAt vs k):=by
 unfold KV at r;induction r with
 |nil=>exact True.intro
 |@cons p q ps qs h t ih =>
  obtain⟨h1,h2⟩:=h;by_cases e:p.1=k
  .have e':q.1=k:=h1.symm.trans e;have b:valueAt (q::qs) k=some q.2:=by simp[valueAt,T3,e']
   rw[QW e,b];exact h2
  .have e':¬q.1=k:=λz=>e<|h1.trans z;have b:valueAt (q::qs) k=valueAt qs k:=by simp[valueAt,T3,e']
   rw[RW e,b];exact ih
theorem KV.any(r:KV kvs vs)(k:κ):(kvs.any λkv=>decide<|kv.1=k)=vs.any λkv=>decide (kv.1=k):=by
 unfold KV at r;induction r with
 |nil=>rfl
 |cons h t ih=>rw[v4,v4,ih,h.1]
theorem KV.repl(r:KV kvs vs)(k:κ){y:V}{u:Value}(ry:RelV y u):KV (kvs.map λkv=>if kv.1=k then (kv.1,y) else kv) (vs.map λkv=>if kv.1=k then (kv.1,u) else kv):=by
 unfold KV at r ⊢;induction r with
 |nil=>exact .nil
 |@cons p q ps qs h t ih =>
  rw[K1,K1];refine .cons ?_ ih;obtain⟨h1,h2⟩:=h;by_cases e:p.1=k
  .rw[if_pos e,if_pos<|h1.symm.trans e];exact⟨h1,ry⟩
  .rw[if_neg e,if_neg<|λz=>e<|h1.trans z];exact⟨h1,h2⟩
theorem KV.put(r:KV kvs vs)(k:κ){y:V}{u:Value}(ry:RelV y u):KV (IX kvs k y) (stored vs k u):=by
 unfold IX stored;rw[r.any k];by_cases e:(vs.any λkv=>decide<|kv.1=k)=true
 .rw[if_pos e,if_pos e];exact r.repl k ry
 .rw[if_neg e,if_neg e];exact Paired.snoc r ⟨rfl,ry⟩
theorem KV.length{vs:List (κ×Value)}(r:KV kvs vs):kvs.length=vs.length:=Paired.length r
end
theorem FH{P:Program}{w:World}{k:EQ}(r:RelV (kV k) u):(bX P w).is k u=true:=by
 cases k with
 |inl i=>obtain⟨t,e⟩:=(show ∃t,u=M6 i t from r);subst e;exact zH P w i t
 |inr x=>obtain⟨t,e⟩:=(show ∃t,u=Value.str x t from r);subst e;exact AH P w x t
theorem sU{P:Program}{w:World}:∀{ks:List EQ}{us:List Value},Vals (ks.map kV) us->ItemsAre (bX P w) ks us
 |[],_,r=>by rw[G7]at r;cases r;exact .nil
 |k::ks,_,r=>by
  rw[K1]at r;cases r with
  |cons h t=>exact .cons (FH h)<|sU t
abbrev KT(H:Hp):List (List EQ×V)->List (List EQ×Addr×Value)->Prop:=Paired λp q=>p.1=q.1/\H q.2.1=some (.tup<|p.1.map kV)/\RelV p.2 q.2.2
theorem KT.val(r:KT H kvs xs)(k:List EQ):RelO (AJ kvs k) ((atKey xs k).map (·.2)):=by
 induction r with
 |nil=>exact True.intro
 |@cons p q ps qs h t ih =>
  obtain⟨h1,_,h2⟩:=h;by_cases e:p.1=k
  .have e':q.1=k:=h1.symm.trans e;have b:atKey (q::qs) k=some q.2:=by simp[atKey,T3,e']
   rw[QW e,b];exact h2
  .have e':¬q.1=k:=λz=>e<|h1.trans z;have b:atKey (q::qs) k=atKey qs k:=by simp[atKey,T3,e']
   rw[RW e,b];exact ih
theorem KT.repl(r:KT H kvs xs)(k:List EQ){y:V}{u:Value}(ry:RelV y u):KT H (kvs.map λkv=>if kv.1=k then (kv.1,y) else kv) (xs.map<|putAt k u):=by
 induction r with
 |nil=>exact .nil
 |@cons p q ps qs h t ih =>
  rw[K1,K1];refine .cons ?_ ih;obtain⟨h1,h2,h3⟩:=h;unfold putAt;by_cases e:p.1=k
  .rw[if_pos e,if_pos<|h1.symm.trans e];exact⟨h1,h2,ry⟩
  .rw[if_neg e,if_neg<|λz=>e<|h1.trans z];exact⟨h1,h2,h3⟩
theorem KT.put(r:KT H kvs xs)(k:List EQ){b:Addr}{y:V}{u:Value}(hb:H b=some (.tup<|k.map kV))(ry:RelV y u):KT H (IX kvs k y) (storedH xs k b u):=by
 have e:(kvs.any λkv=>decide<|kv.1=k)=(atKey xs k).isSome:=by rw[SW,(r.val k).isSome_eq,Option.isSome_map]
 unfold IX storedH;rw[e];by_cases q:(atKey xs k).isSome=true
 .rw[if_pos q,if_pos q];exact r.repl k ry
 .rw[if_neg q,if_neg q];exact Paired.snoc r ⟨rfl,hb,ry⟩
theorem KT.keeps(r:KT H kvs xs)(ht:∀b ys,H b=some (.tup ys)->H' b=some (.tup ys)):KT H' kvs xs:=Paired.mapP r λ_ _ z=>⟨z.1,ht _ _ z.2.1,z.2.2⟩
section
variable {P:Program}{w:World}{a:Addr}
theorem HC{u:HO}(ok:HOk P w H h)(e:Rd H a u):ObjOk P w H h a u:=e.ok ok
theorem PD{kvs:List (EQ×V)}(ok:HOk P w H h)(e:Rd H a (.dK kvs)):kvs.length<=sizeLine/\(a==sysModules)=false/\∃vs,KV kvs vs/\h.DictOf (bX P w) a vs:=show ObjOk P w H h a (.dK kvs) from HC ok e
theorem IC{kvs:List (EQ×V)}(ok:HOk P w H h)(e:H a=some (.dK kvs)):kvs.length<=sizeLine/\(a==sysModules)=false/\∃vs,KV kvs vs/\h.DictOf (bX P w) a vs:=PD ok<|.inl e
theorem VU{ks:List EQ}(ok:HOk P w H h)(e:H a=some (.tup<|ks.map kV)):(tupleKind<|bX P w).is h ks a:=by obtain⟨_,its,r,o,h1,h2,n,h3,_⟩:=(show ObjOk P w H h a (.tup<|ks.map kV) from ok a _ e);exact⟨o,its.toArray,n,h1,h2,h3,by simpa using sU r⟩
theorem QD{kvs:List (List EQ×V)}(ok:HOk P w H h)(e:Rd H a (.dT kvs)):kvs.length<=sizeLine/\(a==sysModules)=false /\ ∃xs,KT H kvs xs/\h.DictOfH (tupleKind<|bX P w) a xs:=by
 obtain⟨z,y,xs,r,o,es,ep,h1,h2,h3,h4,h5⟩:=(show ObjOk P w H h a (.dT kvs) from HC ok e);refine⟨z,y,xs,r,o,es,ep,h1,h2,h3,h4,λx hx=>?_,h5⟩;have all:∀{l:List (List EQ×V)}{m:List (List EQ×Addr×Value)},KT H l m->∀x∈m,(tupleKind<|bX P w).is h x.1 x.2.1:=by
  intro l m q;induction q with
  |nil=>intro x hx;exact nomatch hx
  |@cons p q ps qs hq t ih =>
   intro x hx;rcases P0.mp hx with e|hx
   .subst e;exact VU ok (by rw[<-hq.1];exact hq.2.1)
   .exact ih x hx
 exact all r x hx
theorem JC{kvs:List (List EQ×V)}(ok:HOk P w H h)(e:H a=some (.dT kvs)):kvs.length<=sizeLine/\(a==sysModules)=false /\ ∃xs,KT H kvs xs/\h.DictOfH (tupleKind<|bX P w) a xs:=QD ok<|.inl e
end
def zx(H:Hp)(a:Addr)(y:V)(r:Option V):Prop:=(∃kvs k,Rd H a (.dK kvs)/\y=kV k/\r=AJ kvs k)\/∃kvs k b,Rd H a (.dT kvs)/\y=.ref b/\H b=some (.tup<|k.map kV)/\r=AJ kvs k
def CI(H:Hp)(a:Addr)(y v:V)(H':Hp):Prop :=
 (∃kvs k,H a=some (.dK kvs)/\y=kV k/\kvs.length<sizeLine/\H'=upd H a (.dK<|IX kvs k v)) \/
 ∃kvs k b,H a=some (.dT kvs)/\y=.ref b/\H b=some (.tup<|k.map kV)/\kvs.length<sizeLine/\H'=upd H a (.dT<|IX kvs k v)
section
variable {a:Addr}{y v:V}{r:Value}{o:Option V}
theorem Inv.big(I:Inv X pins σ H s):sysModules<s.heap.objs.size:=by have h:mainGlobals<s.heap.objs.size:=(I.mod.glob.keeps I.bk).lt;exact B8 (by decide) h
theorem Az(hu:A.units+1<cLine)(I:Inv X pins σ H s)(g:zx H a y (some v))(ry:RelV y u)(h:∀w' s',Inv X pins σ H s'->RelV v w'->Q w' s'):wpAny (model X.prog X.w) A (getItem (.ref a) u) Q E s:=by
 rcases g with⟨kvs,k,e,ey,l⟩|⟨kvs,k,b,e,ey,eb,l⟩
 .subst ey;obtain⟨z,hd,vs,rel,dd⟩:=PD I.hok e;obtain⟨w',hw,rw'⟩:=RelO.some_of (v:=v) (o:=valueAt vs k) (by rw[l];exact rel.val k);exact wpAny_getItem_of (FH ry) dd.mapOf hw<|h w' _ (I.tok _) rw'
 .subst ey;cases (show u=E2 b from ry);obtain⟨z,hd,xs,rel,dd⟩:=QD I.hok e;obtain⟨w',hw,rw'⟩:=RelO.some_of (v:=v) (o:=(atKey xs k).map (·.2)) (by rw[l];exact rel.val k);obtain⟨p,hp,hp2⟩:=K8.mp hw;refine wpAny_getItem_heap (tupleKind_room_in1 hu) (VU I.hok eb) dd hp ?_;rw[hp2];exact h w' _ (I.tok _) rw'
theorem BW(I:Inv X pins σ H s)(mu:vN (H a))(hs:u3 a s.heap h')(he:∃q,h'.get? a=some q)(new:ObjOk X.prog X.w (upd H a ob) h' a ob):Inv X pins σ (upd H a ob) {s with heap:=h',toks:=t'}:=
 I.write (x:=a) (e:=a) mu (.inl rfl) (λb q hb z=>(hs.2 b hb).trans z) he new
theorem Ax{P:Program}{w:World}{kvs:List (EQ×V)}{vs:List (EQ×Value)}(z:kvs.length<=sizeLine)(hd:(a==sysModules)=false)(rel:KV kvs vs)(dd:h'.DictOf (bX P w) a vs):ObjOk P w H' h' a (.dK kvs):=⟨z,hd,vs,rel,dd⟩
theorem Bz{Q:Unit->Shared->Prop}(hu:A.units+1<cLine)(I:Inv X pins σ H s)(g:CI H a y v H')(ry:RelV y u)(rv:RelV v r)(h:∀s',Inv X pins σ H' s'->Q () s'):wpAny (model X.prog X.w) A (setItem (.ref a) u r) Q E s:=by
 rcases g with⟨kvs,k,e,ey,l,eH⟩|⟨kvs,k,b,e,ey,eb,l,eH⟩
 .subst ey eH;obtain⟨z,hd,vs,rel,dd⟩:=IC I.hok e;have hz:vs.length<=sizeLine:=by rw[<-rel.length];exact z
  have hl:(IX kvs k v).length<=sizeLine:=by have:=aZ kvs k v;lia
  refine wpAny_setItem_pairs (hsz:=hz) (FH ry) dd λh' dd' hs=>h _ ?_;have he:∃q,h'.get? a=some q:=let ⟨q,_,_,hq,_⟩:=dd';⟨q,hq⟩;exact BW I (by rw[e];exact True.intro) hs he<|Ax hl hd (rel.put k rv) dd'
 .subst ey eH;cases (show u=E2 b from ry);obtain⟨z,hd,xs,rel,dd⟩:=JC I.hok e;have hz:xs.length<=sizeLine:=by rw[<-Paired.length rel];exact z
  have hl:(IX kvs k v).length<=sizeLine:=by have:=aZ kvs k v;lia
  refine wpAny_setItem_heap (hsz:=hz) (tupleKind_room_in1 hu) (VU I.hok eb) dd λh' dd' hs=>h _ ?_;obtain⟨q,es,ep,hq,h2,h3,h4,_,h5⟩:=dd';refine BW I (by rw[e];exact True.intro) hs ⟨q,hq⟩ ⟨hl,hd,_,(rel.put k eb rv).keeps λc ys ec=>?_,q,es,ep,hq,h2,h3,h4,h5⟩;rw[iQ<|Sj ec e<|λz=>nomatch z];exact ec
end
section
variable {a:Addr}{kvs:List (EQ×V)}{k:EQ}
end
def DI(i:Expr):Prop:=∀ov iv,subscripted i false ov iv=operate [ov,iv] (getItem ov iv)
theorem Ly{T id:String}(hl:typeLookup (.type T) "__getitem__"=pure (some<|.builtin id)) (hs:DI slice)(h:wpAny (model prog w) A (eval value env) (λo s₁=>wpAny (model prog w) A (eval slice env) (λi s₂=>s₂.TypeIs o T/\wpAny (model prog w) A (getItem o i) Q E s₂) E s₁) E s):wpAny (model prog w) A (eval (.Subscript value slice pos) env) Q E s:=by
 refine Subscript_<|wpAny_mono h (λo s₁ h₁=>wpAny_mono h₁ (λi s₂ h₂=>?_) λ_ _ x=>x) λ_ _ x=>x;obtain⟨hT,h₂⟩:=h₂;unfold subscriptTail;refine wpAny_bind ?_;rw[getitemInPython_of_ne hT.not_modules];refine wpAny_bind<|wpAny_specialOf hT hl ?_;have fin:wpAny (model prog w) A (subscripted slice false o i) (λr s₃=>wpAny (model prog w) A (letTemporaryGo value o r >>= λ_=>pure r) Q E s₃) E s₂:=by rw[hs o i];exact wpAny_operating<|wpAny_mono h₂ (λr s₃ h₃=>wpAny_bind<|wpAny_letTemporaryGo<|wpAny_pure h₃) λ_ _ x=>x
 first
  |exact wpAny_pure<|wpAny_bind fin
  |exact wpAny_bind<|wpAny_pure<|wpAny_bind fin
  |exact wpAny_bind fin
theorem GH{y:V}{o:Option V}(I:Inv X pins σ H s)(g:zx H a y o):s.TypeIs (.ref a) "dict":=by
 rcases g with⟨kvs,k,e,_,_⟩|⟨kvs,k,b,e,_,_,_⟩
 .obtain⟨_,_,vs,_,dd⟩:=PD I.hok e;exact dd.typeIs
 .obtain⟨_,_,xs,_,dd⟩:=QD I.hok e;exact dd.typeIs
def NN(td ty:TE):TE:=λσ H Q=>td σ H λx H1=>ty σ H1 λy H2=>∃a v,x=.ref a/\zx H2 a y (some v)/\Q v H2
def Dx(td ty tv:TE):TS:=λD σ H=>tv σ H λv H1=>td σ H1 λx H2=>ty σ H2 λy H3=>∃a H4,x=.ref a/\CI H3 a y v H4/\D.nx σ H4
section
variable {o i e value:Expr}{pos pos' tpos:Pos}{td ty tv:TE}
theorem My(hu:X.A.units+1<cLine)(ho:PE X o td)(hi:PE X i ty)(hs:DI i):PE X (.Subscript o i pos) (NN td ty):=by intro pins s σ H Q I h;refine Ly PySem.F.slot_dict_getitem.lookup hs<|vX (ho pins s σ H _ I h) λu s1 ⟨x,H1,I1,rx,q1⟩=>vX (hi pins s1 σ H1 _ I1 q1) λiv s2 ⟨y,H2,I2,ry,a,v,ex,g,q2⟩=>?_;subst ex;obtain rfl:u=E2 a:=rx;exact⟨GH I2 g,Az hu I2 g ry λw' s3 I3 rw'=>⟨v,H2,I3,rw',q2⟩⟩
theorem Ny(hu:X.A.units+1<cLine)(ho:PE X o td)(hi:PE X i ty)(hv:PE X value tv)(hs:swapsWith value (some<|.Subscript o i pos') pos.line X.env=pure false):PS X (.Assign [.Subscript o i pos'] value pos) (Dx td ty tv):=by
 intro pins s σ H D I h;refine wpAny_Assign_Subscript (vX (hv pins s σ H _ I h) λr s1 ⟨v,H1,I1,rv,q1⟩=>vX (ho pins s1 σ H1 _ I1 q1) λu s2 ⟨x,H2,I2,rx,q2⟩=>vX (hi pins s2 σ H2 _ I2 q2) λiv s3 ⟨y,H3,I3,ry,a,H4,ex,g,q3⟩=>?_) hs;subst ex;obtain rfl:u=E2 a:=rx;exact Bz hu I3 g ry rv λs4 I4=>⟨σ,H4,I4,q3⟩
end
theorem Ex(h:Heap)(hb:sysModules<h.objs.size):ObjOk P w H (h.push {cls:=.type "dict",data:=.dict #[]}) h.objs.size (.dK []):=⟨W2 _,beq_eq_false_iff_ne.mpr<|S2<|V0 hb,[],.nil,U9 h⟩
theorem HH(h:Heap)(hb:sysModules<h.objs.size):ObjOk P w H (h.push {cls:=.type "dict",data:=.dict #[]}) h.objs.size (.dT []):=⟨W2 _,beq_eq_false_iff_ne.mpr<|S2<|V0 hb,[],.nil,_,#[],0,T0 _ rfl,⟨rfl,rfl,rfl⟩,rfl,rfl,List.nodup_nil⟩
def Fx:TE:=λ_ H Q=>∀p,H p=none->Q (.ref p) (upd H p<|.dT [])
section
variable {pos:Pos}
theorem Gx:PE X (.Dict [] [] pos) Fx:=λpins s σ H Q I h=>wpAny_Dict_empty ⟨.ref s.heap.objs.size,_,I.laid (a:=s.heap.objs.size) (o:=.dT []) (t':=s.toks) (λ_ _ q=>u0 _ q) (O0 _)<|HH s.heap I.big,rfl,h _<|I.hok.fresh<|O0 _⟩
end
noncomputable def PY:List (TE×TE)->St->Hp->(List (V×V)->Hp->Prop)->Prop
 |[],_,H,Q=>Q [] H
 |(tk,tv)::r,σ,H,Q=>tk σ H λx H1=>tv σ H1 λy H2=>PY r σ H2 λps H3=>Q ((x,y)::ps) H3
abbrev VV:List (V×V)->List (Value×Value)->Prop:=Paired λp q=>RelV p.1 q.1/\RelV p.2 q.2
def ON(X:Cx)(pos:Pos)(keys:List (Option Expr))(values:List Expr)(trs:List (TE×TE)):Prop :=
 ∀(pins:List (Addr×Obj)) (s:Shared) (σ:St) (H:Hp) (Q:List (V×V)->Hp->Prop),Inv X pins σ H s->PY trs σ H Q ->
  wpAny (model X.prog X.w) X.A (evalPairs<|pairTrees keys values X.env pos) (λvs s'=>∃ps H',Inv X pins σ H' s'/\VV ps vs/\Q ps H') X.xe s
theorem RD:ON X pos [] [] []:=λpins s σ H Q I h=>pairTrees_nil_walk ⟨[],H,I,.nil,h⟩
theorem iK(hk:PE X k tk)(hv:PE X v tv)(hr:ON X pos ks vs trs):ON X pos (some k::ks) (v::vs) ((tk,tv)::trs):=λpins s σ H Q I h =>
 pairTrees_cons_walk (vX (hk pins s σ H _ I h) λu s1 ⟨x,H1,I1,rx,q1⟩=>vX (hv pins s1 σ H1 _ I1 q1) λw2 s2 ⟨y,H2,I2,ry,q2⟩=>vX (hr pins s2 σ H2 _ I2 q2) λws s3 ⟨ps,H3,I3,rel,q3⟩=>⟨(x,y)::ps,H3,I3,.cons ⟨rx,ry⟩ rel,q3⟩)
noncomputable def jK(kvs more:List (EQ×V)):List (EQ×V):=more.foldl (λacc kv=>IX acc kv.1 kv.2) kvs
theorem KV.merge:∀{more:List (EQ×V)}{rs:List (EQ×Value)}{kvs:List (EQ×V)}{vs:List (EQ×Value)},KV more rs->KV kvs vs->KV (jK kvs more) (merged vs rs):=by
 intro more rs kvs vs r;unfold KV at r;induction r generalizing kvs vs with
 |nil=>intro q;exact q
 |@cons p q ps qs h t ih =>
  intro r0;have e:KV (IX kvs p.1 p.2) (stored vs q.1 q.2):=by have:=r0.put p.1 h.2;rw[<-h.1];exact this
  exact ih e
theorem dY:∀(more kvs:List (EQ×V)),(jK kvs more).length<=kvs.length+more.length
 |[],kvs=>by show kvs.length<=kvs.length+0;lia
 |p::r,kvs=>by have h1:=dY r<|IX kvs p.1 p.2;have h2:=aZ kvs p.1 p.2;show (jK (IX kvs p.1 p.2) r).length<=_;rw[Y1];lia
theorem TW{P:Program}{w:World}:∀{kvs:List (EQ×V)}{ws:List (Value×Value)},VV (kvs.map λkv=>(kV kv.1,kv.2)) ws->∃rs,Carries (bX P w) ws rs/\KV kvs rs
 |[],_,r=>by rw[G7]at r;cases r;exact⟨[],True.intro,.nil⟩
 |p::kvs,_,r=>by
  rw[K1]at r;cases r with
  |@cons a b as bs h t=>obtain⟨rs,c,q⟩:=TW (P:=P) (w:=w) t;obtain⟨b1,b2⟩:=b;exact⟨(p.1,b2)::rs,⟨FH h.1,rfl,c⟩,.cons ⟨rfl,h.2⟩ q⟩
def Hx(trs:List (TE×TE)):TE:=λσ H Q=>∀p,H p=none->PY trs σ (upd H p<|.dK []) λps H2=>H2 p=some (.dK [])/\∃kvs:List (EQ×V),ps=kvs.map (λkv=>(kV kv.1,kv.2))/\kvs.length<=15/\Q (.ref p) (upd H2 p<|.dK<|jK [] kvs)
theorem Oy(h:ON X pos keys values trs)(hall:keys.all (·.isSome)=true)(hl:keys.length=values.length)(h0:keys≠[])(h15:keys.length<=15):PE X (.Dict keys values pos) (Hx trs):=by
 intro pins s σ H Q I q;have hn:=I.hok.fresh<|O0 s.heap.objs.size;have I1:=I.laid (a:=s.heap.objs.size) (o:=.dK []) (h':=s.heap.push {cls:=.type "dict",data:=.dict #[]}) (t':=s.toks) (λ_ _ q=>u0 _ q) (O0 _)<|Ex s.heap I.big;refine wpAny_Dict_walk (knd:=bX X.prog X.w) hall hl h0 h15<|vX (h pins _ σ _ _ I1<|q _ hn) λws s2 ⟨ps,H2,I2,rel,e,kvs,ep,lk,q2⟩=>?_;subst ep;obtain⟨rs,c,rk⟩:=TW (P:=X.prog) (w:=X.w) rel;obtain⟨z,hd,vs0,r0,dd⟩:=IC I2.hok e;cases r0;refine⟨rs,c,dd,λh' dd' hs=>⟨.ref s.heap.objs.size,_,?_,rfl,q2⟩⟩;have hz:(jK [] kvs).length<=sizeLine:=by have h1:=dY kvs [];rw[G6]at h1;rw[sizeLine_eq];lia
 have he:∃q,h'.get? s.heap.objs.size=some q:=let ⟨q,_,_,hq,_⟩:=dd';⟨q,hq⟩;exact BW I2 (by rw[e];exact True.intro) hs he<|Ax hz hd (rk.merge .nil) dd'
structure M1(X:Cx)(o:Expr)(m:Str)(apos:Pos)(e:Expr)(cpos:Pos):Prop where
 base:attributeBase o m X.env (eval o X.env)=eval o X.env
 few:((backTo cpos<|starEach [e] X.env).all (λx=>!x.1)&&(backToKw cpos<|keywordEach [] X.env).all (λx=>x.1.isSome)
   && decide (([e]:List Expr).length+([]:List Keyword).length+(if ([]:List Keyword).isEmpty then 0 else 1)<30))=true
 line:(apos.endLine==cpos.line)=true
 trees:backTo cpos (starEach [e] X.env)=[(false,eval e X.env)]
structure M2(X:Cx)(o:Expr)(m:Str)(apos:Pos)(e f:Expr)(cpos:Pos):Prop where
 base:attributeBase o m X.env (eval o X.env)=eval o X.env
 few:((backTo cpos<|starEach [e,f] X.env).all (λx=>!x.1)&&(backToKw cpos<|keywordEach [] X.env).all (λx=>x.1.isSome)
   && decide (([e,f]:List Expr).length+([]:List Keyword).length+(if ([]:List Keyword).isEmpty then 0 else 1)<30))=true
 line:(apos.endLine==cpos.line)=true
 trees:backTo cpos (starEach [e,f] X.env)=[(false,eval e X.env),(false,eval f X.env)]
def iR(H:Hp)(a:Addr):Prop:=(∃kvs,Rd H a<|.dK kvs)\/∃kvs,Rd H a (.dT kvs)
theorem EI(I:Inv X pins σ H s)(d:iR H a):s.TypeIs (.ref a) "dict"/\(∀b,E2 a=.ref b->∃ob,s.heap.get? b=some ob/\ob.dict=none)/\(a==sysModules)=false:=by
 rcases d with⟨kvs,e⟩|⟨kvs,e⟩
 .obtain⟨_,hd,vs,_,dd⟩:=PD I.hok e;refine⟨dd.typeIs,λb q=>?_,hd⟩;cases q;obtain⟨ob,_,_,h1,h2,_⟩:=dd;exact⟨ob,h1,h2.2.1⟩
 .obtain⟨_,hd,xs,_,dd⟩:=QD I.hok e;refine⟨dd.typeIs,λb q=>?_,hd⟩;cases q;obtain⟨ob,_,_,h1,h2,_⟩:=dd;exact⟨ob,h1,h2.2.1⟩
section
variable {a:Addr}{y d:V}{r:Value}{o:Option V}
end
section
variable {o e f:Expr}{apos cpos:Pos}{td ty tx:TE}
end
section
variable {a:Addr}{kvs:List (EQ×V)}
end
section
variable {a:Addr}{y:V}
end
end L2
namespace Att
open PySem.W PySem.Calls
theorem wW:∀(ns:Qa) (vs:List Value),WellAll P h vs (ns.map WData.int)->IntsAre vs ns:=by
 intro ns;induction ns with
 |nil=>intro vs w;rw[G7]at w;cases w;exact .nil
 |cons n ns ih =>
  intro vs w;rw[K1]at w;cases w with
  |cons a b=>cases a;exact .cons _ _<|ih _ b
theorem Cz{l:OpenLaw}(hn:l.most=some n){P:Params}{h:Heap}{args:List WData}{vals:List Value}(hpre:l.row.toRowW.claim.pre args=true) (hwl:WellAll P h vals args):∃a vs ns,vals=[E2 a]/\args=[WData.list<|ns.map WData.int]/\h.get? a=some {cls:=.type "list",data:=.seq vs.toArray}/\IntsAre vs ns/\ns.length<=n:=by
 have hsh:WShape.hasAll [] args [.list .int]=true:=(pre_splitW hpre).1;have hc:l.pre.holds [] {args:=args}=true:=(pre_splitW hpre).2;obtain⟨d,r,rfl,h1,h2⟩:=hasAllW_cons hsh;obtain rfl:=hasAllW_nil h2;obtain⟨xs,rfl,h3⟩:=hasW_list h1;obtain⟨ns,rfl⟩:=items_int h3;have hlen:ns.length<=n:=by
  unfold OpenLaw.pre at hc;have h4:(WTm.not<|.lt (.lit<|.int (n:Int))<|.len<|.arg 0).holds [] {args:=[.list<|ns.map .int]}=true:=by have h4:=(holds_andW hc).1;rw[hn]at h4;exact h4
  have h5:=condW_of h4<|w_not<|w_lt w_lit<|w_len_list<|w_arg rfl;rw[B0]at h5;refine o8 λq=>?_;have q':(n:Int)<((ns.length:Nat):Int):=by lia
  first
   |(rw[decide_eq_true q']at h5;exact absurd h5<|by decide)
   |(simp at h5;lia)
 cases hwl with
 |cons w1 w2 =>
  cases w2;cases w1 with
  |list ho hall=>exact⟨_,_,ns,rfl,rfl,ho,wW ns _ hall,hlen⟩
theorem Dz(l:OpenLaw)(args:List WData):l.row.toRowW.claim.post args (.bool true) args=true :=
 postW_of (r:=l.row.toRowW) (X:=(true==true))
  (show WShape.has [] (.bool true) .bool=true by first|rfl|decide|simp[WShape.has,WShape.arms,WShape.armsAll])
  (show (WTm.eq .res<|.lit<|.bool true).value [] {args:=args,res:=some (.bool true),after:=args}=some (.bool<|true==true) from w_eq_bool (w_res rfl) w_lit) rfl
theorem attach_call{l:OpenLaw}(hn:l.most=some n) (hdf:d.params.defaults=[])(call:∀(w:World) (s₀ s₁:Shared) (mg mb:Str->Option Value) (fa:Addr) (o:Obj) (pm cd doc:Value) (a:Addr) (vs:List Value) (ns:Qa), Ground q loose [] XP w s₀ mg mb s₁.heap->YP w s₁.heap -> s₁.heap.get? fa=some o->o.data=.func (docDef d.name d.params d.body d.scope pm cd doc)->s₁.heap.CodeRec cd d.name->mg d.name=some (.ref fa) -> s₁.heap.get? a=some {cls:=.type "list",data:=.seq vs.toArray}->IntsAre vs ns->ns.length<=n->s₁.gens=#[] -> codeAny (model l.prog w) callerA (.call (.ref fa) ⟨[.ref a],[]⟩) (λr s'=>r=.ok (.ret<|.bool true)/\OldK s₁.heap s'.heap/\s'.os=s₁.os/\AllBare s'.gens) s₁):WalkO q loose XP YP l.row.toRowW d [] (λf vs=>PySem.call f vs):=by
 intro w s₀ s₁ mg mb G Y fa o pm cd doc dV kV ho hd hcd hD hmg hg args vals as hpre hlay hrd hwl hlo;obtain rfl:dV=.none:=Dflts.none hD hdf;obtain rfl:kV=.none:=Dflts.noKw hD;obtain⟨a,vs,ns,rfl,rfl,hobj,hints,hlen⟩:=Cz hn hpre hwl;refine enter_call<|codeAny_mono (call w s₀ s₁ mg mb fa o pm cd doc a vs ns G Y ho (fd_plain hd) hcd hmg hobj hints hlen hg) λr s' hq=>?_;obtain⟨rfl,h2,h3,h4⟩:=hq;exact⟨.inl ⟨.bool true,.bool true,[],rfl,λ_=>rfl,.bool true,Dz l _,λ_=>⟨List.Pairwise.nil,λ_ hm=>(nomatch hm)⟩⟩,h2,h3,h4⟩
section
variable {w:World}{K:Frag}
end
end Att
namespace L2
theorem tU:∀{vs:List Value}{ns:Qa},IntsAre vs ns->Vals (ns.map V.int) vs
 |_,_,.nil=>.nil
 |_,_,.cons n t h=>.cons ⟨t,rfl⟩<|tU h
noncomputable def UZ(s:Stmt):Arguments:=match s with
 | .FunctionDef _ a _ _ _ _ _ _ _ _=>a
 |_=>{posonlyargs:=[],args:=[],vararg:=none,kwonlyargs:=[],kw_defaults:=[],kwarg:=none,defaults:=[]}
noncomputable def cX(s:Stmt):List Stmt:=match s with
 | .FunctionDef _ _ b _ _ _ _ _ _ _=>b
 |_=>[]
noncomputable def aQ(s:Stmt):Scope:=match s with
 | .FunctionDef _ _ _ _ _ _ sc _ _ _=>sc
 |_=>{kind:=.function,names:=[],isGenerator:=false,isCoroutine:=false}
noncomputable abbrev OX:aF:=λ_ _ _ _ _ _=>False
noncomputable abbrev E0:XK:=λ_ _ _=>False
theorem Ix:QU OX X E0:=λ_ _ _ _ _ _ _ h=>h.elim
structure Fun(K:G0)(x qual:Str)(st:Stmt)(f:Addr)(fd:FuncData):Prop where
 ex:∃(oc:Value) (od:Option Addr) (kV doc pm:Value) (an:Option Addr) (cdv ct:Value) (osl:Array (Option Value)),
  fd=V4 x qual (UZ st) (cX st) (aQ st) .none kV doc pm an cdv ct/\K.lookup f=some ⟨oc,od,.func fd,osl⟩/\K7 K cdv qual=true
 kp:O3 K (.ref f)=true
section
variable {P:Program}{w:World}{K:G0}{mg:Str->Option Value}{base:Heap}
theorem Fun.ok{st:Stmt}(F:Fun K x qual st f fd)(S:FnScope N ps (aQ st))(len:∀vs H Q E,sp vs H Q E->vs.length=ps.length)(hbody:∀(cdv:Value) (A:Around) (outer:List Env) (s:Shared) (H:Hp) (vs:List V) (Q:VK) (E:XK),Room k (A.deeper<|envOfC qual (aQ st) s.heap.objs.size f cdv)->sp vs H Q E -> ∃t,PSs (NY OX P w K mg base N qual (aQ st) f cdv A outer s H E).nox (cX st) t/\t {nx:=λ_ H'=>Q .non H',rt:=Q} (start N vs) H):FnOk P w K mg base OX (k+1) f fd ps sp:=by
 obtain⟨oc,od,kV,doc,pm,an,cdv,ct,osl,rfl,lk,hcd⟩:=F.ex;refine JD lk hcd S len λA outer s H vs Q E hr hsp=>?_;obtain⟨t,h,q⟩:=hbody cdv A outer s H vs Q E hr hsp;exact⟨t,h.nox,q⟩
theorem Fun.binds{st:Stmt}(F:Fun K x qual st f fd)(h:∀(kV doc pm:Value) (an:Option Addr) (cdv ct:Value) (us:List Value),us.length=ps.length->bindArgs (V4 x qual (UZ st) (cX st) (aQ st) .none kV doc pm an cdv ct) ⟨us,[]⟩=pure (ps.zip us)):Binds K fd ps []:=by
 obtain⟨oc,od,kV,doc,pm,an,cdv,ct,osl,rfl,lk,hcd⟩:=F.ex;exact .all<|h kV doc pm an cdv ct
theorem FI{st:Stmt}{kV:Value}(l:K.lookup f=some ⟨oc,od,.func<|V4 x qual (UZ st) (cX st) (aQ st) .none kV doc pm an cdv ct,osl⟩)(c:K7 K cdv qual=true) (k:O3 K (.ref f)=true):Fun K x qual st f (V4 x qual (UZ st) (cX st) (aQ st) .none kV doc pm an cdv ct):=⟨⟨oc,od,kV,doc,pm,an,cdv,ct,osl,rfl,l,c⟩,k⟩
end
theorem mW(hr:Room k A):A.units+1<cLine:=X2 (o9 (by decide:1<=64) _) hr.units
theorem pv(i:Nat){x:Str}{pos:Pos}(hN:X.N[i]?=some x:=by rfl)(hv:qy X.env.scope x:=by first|exact Or.inl rfl|exact Or.inr (Or.inl rfl)|exact Or.inr<|Or.inr rfl)(hd:(x==("__debug__":Str))=false:=by decide)
  (hcd:(x==("__classdict__":Str))=false:=by decide):PE X (.Name x pos) (uJ i):=NU hN hv hd hcd
theorem UX{A B:Prop}[Decidable c](h1:c->A)(h2:¬c->B):if c then A else B:=by
 by_cases h:c
 .rw[if_pos h];exact h1 h
 .rw[if_neg h];exact h2 h
section
variable {κ:Type}[DecidableEq κ]
end
noncomputable def BJ(cells:List (Str×Addr)):List (Str×NameKind)->List (Str×Addr)->List (Str×Addr)
 |[],acc=>acc
 |(n,k)::r,acc=>BJ cells r (if k==.free then (n,(cells.lookup n).getD 0)::acc else acc)
theorem UW(h:∀y∈sc.names,y.2=.free->∃c,env.cells.lookup y.1=some c):closureFor sc env=pure (BJ env.cells sc.names []):=by
 have go:∀(l:List (Str×NameKind)) (acc:List (Str×Addr)),(∀y∈l,y.2=.free->∃c,env.cells.lookup y.1=some c) ->
   (forIn l acc λ(x:Str×NameKind) r=>(if (x.2==NameKind.free)=true then (do let a<-cellOf env x.1;pure (ForInStep.yield ((x.1,a)::r))) else pure (ForInStep.yield r):Sem (ForInStep<|List<|Str×Addr)))=pure (BJ env.cells l acc):=by
  intro l;induction l with
  |nil=>intro acc _;rfl
  |cons y r ih =>
   intro acc hl;obtain⟨n,k⟩:=y;rw[J6];by_cases hk:(k==NameKind.free)=true
   .obtain⟨c,hc⟩:=hl (n,k) L0 (by simpa using hk);have hc:env.cells.lookup n=some c:=hc;simp only[hk,if_true,cellOf,hc,pure_bind,BJ,n4];exact ih _ λy hy=>hl y<|K0 _ hy
   .simp only[hk,if_false,pure_bind,BJ];exact ih _ λy hy=>hl y<|K0 _ hy
 have e:=go sc.names [] h;unfold closureFor;show (forIn sc.names [] _ >>= λcs=>pure cs)=_;rw[show (forIn sc.names ([]:List (Str×Addr)) λ(x:Str×NameKind) r=>(match x with|(name,kind)=>if (kind==NameKind.free)=true then (do let a<-cellOf env name;pure (ForInStep.yield ((name,a)::r))) else pure (ForInStep.yield r):Sem (ForInStep<|List<|Str×Addr)))=pure (BJ env.cells sc.names []) from e];rfl
theorem kK{cells:List (Str×Addr)}{x:Str}{c:Addr}:∀{l:List (Str×NameKind)}{acc:List (Str×Addr)},(∀y∈l,y.2=.free->∃c,cells.lookup y.1=some c)->(BJ cells l acc).lookup x=some c -> acc.lookup x=some c\/cells.lookup x=some c
 |[],acc,_,h=>.inl h
 |(n,k)::r,acc,hl,h=>by
  have ih:=kK (l:=r) (λy hy=>hl y<|K0 _ hy) h;rcases ih with ih|ih
  .by_cases hk:(k==NameKind.free)=true
   .rw[if_pos hk,P2]at ih;obtain⟨c',hc⟩:=hl (n,k) L0 (by simpa using hk);have hc:cells.lookup n=some c':=hc;cases e:x==n with
    |true =>
     rw[e]at ih;have:x=n:=by simpa using e
     subst this;simp only[hc,n4,Option.some.injEq]at ih;subst ih;exact .inr hc
    |false=>rw[e]at ih;exact .inl ih
   .rw[if_neg hk]at ih;exact .inl ih
  .exact .inr ih
theorem VW{cells:List (Str×Addr)}{x:Str}:∀{l:List (Str×NameKind)}{acc:List (Str×Addr)},((∃c,acc.lookup x=some c)\/l.lookup x=some .free)->∃c,(BJ cells l acc).lookup x=some c
 |[],acc,h=>by
  rcases h with h|h
  .exact h
  .simp at h
 |(n,k)::r,acc,h=>by
  refine VW (l:=r) ?_;rcases h with⟨c,h⟩|h
  .left;by_cases hk:(k==NameKind.free)=true
   .rw[if_pos hk,P2];cases x==n with
    |true=>exact⟨_,rfl⟩
    |false=>exact⟨c,h⟩
   .rw[if_neg hk];exact⟨c,h⟩
  .rw[P2]at h;cases e:x==n with
   |true=>rw[e]at h;have hk:k=.free:=W1 h;left;subst hk;rw[if_pos<|by decide,P2,e];exact⟨_,rfl⟩
   |false=>rw[e]at h;exact .inr h
theorem lK{env:Env}{x:Str}:∀{names:List (Str×NameKind)}, (names.map λ(n,k)=>if (k==NameKind.free&&env.scope.kind==.function&&env.kindOf n==some .cell) then (n,NameKind.cell) else (n,k)).lookup x = (names.lookup x).map λk=>if (k==NameKind.free&&env.scope.kind==.function&&env.kindOf x==some .cell) then .cell else k
 |[]=>rfl
 |(n,k)::r=>by
  have ih:=@lK env x r;rw[K1];show S7 x ((if (k==NameKind.free&&env.scope.kind==.function&&env.kindOf n==some .cell)=true then (n,NameKind.cell) else (n,k))::_)=_;cases hx:x==n with
  |true =>
   have e:x=n:=by simpa using hx
   subst e;by_cases hc:(k==NameKind.free&&env.scope.kind==.function&&env.kindOf x==some .cell)=true
   .rw[if_pos hc];simp only[P2,hx,Q4];rw[if_pos hc]
   .rw[if_neg hc];simp only[P2,hx,Q4];rw[if_neg hc]
  |false =>
   by_cases hc:(k==NameKind.free&&env.scope.kind==.function&&env.kindOf n==some .cell)=true
   .rw[if_pos hc];simp only[P2,hx];exact ih
   .rw[if_neg hc];simp only[P2,hx];exact ih
theorem mK(sc:Scope)(env:Env)(x:Str):(relabel sc env).names.lookup x=(sc.names.lookup x).map λk=>if (k==NameKind.free&&env.scope.kind==.function&&env.kindOf x==some .cell) then .cell else k:=lK
theorem CJ:∀(names:List (Str×NameKind)) (n:Nat) (acc:List (Str×Addr)),cellsFrom n names acc=cellsFrom n names []++acc
 |[],_,_=>rfl
 |(x,k)::r,n,acc=>by
  unfold cellsFrom;split
  .rw[CJ r (n+1) ((x,n)::acc),CJ r (n+1) [(x,n)],L4];rfl
  .exact CJ r n acc
theorem XW{x:Str}{c:Addr}:∀(names:List (Str×NameKind)) (n:Nat),(x,c)∈cellsFrom n names []->(x,NameKind.cell)∈names/\n<=c
 |[],_,h=>by cases h
 |(y,k)::r,n,h=>by
  unfold cellsFrom at h;split at h
  .rename_i hk;have hk:k=.cell:=by simpa using hk
   rw[CJ,S1]at h;rcases h with h|h
   .have:=XW r (n+1) h;exact⟨K0 _ this.1,by lia⟩
   .have h:(x,c)=(y,n):=by simpa using h
    cases h;subst hk;exact⟨L0,O0 _⟩
  .have:=XW r n h;exact⟨K0 _ this.1,this.2⟩
theorem qZ{x:Str}:∀{l m:List (Str×α)},(l++m).lookup x=(l.lookup x).or (m.lookup x)
 |[],_=>rfl
 |(y,v)::l,m=>by
  rw[o4,P2,P2];cases x==y with
  |true=>rfl
  |false=>exact qZ
theorem QY{Q:Env->Shared->Prop}(hQ:Q (newEnv scope s.heap.objs.size globals (cellsFrom (s.heap.objs.size+1) scope.names closure) qual none .none (some env) builtinsNs) {s with heap:=pushCells (s.heap.push {cls:=.type "dict",data:=.dict #[]}) scope.names}):wpAny M A (newFunctionEnv scope globals closure [] qual none .none<|some env) Q E s:=by
 simp only[newFunctionEnv,K9,if_true];refine wpAny_bind<|wpAny_alloc ?_;refine wpAny_bind<|wpAny_layCells _ (λname kind cells=>by cases hkc:kind==NameKind.cell<;>simp[hkc]) _ _ _ _ ?_;rw[show ({s with heap:=s.heap.push {cls:=.type "dict",data:=.dict #[]}}:Shared).heap.objs.size=s.heap.objs.size+1 from O2 ..];refine wpAny_bind ?_;rw[P6];exact wpAny_pure<|wpAny_pure hQ
noncomputable def PN(N:List Str)(fr:List Nat):List Str:=fr.map λi=>N.getD i Str.empty
noncomputable def GI(σ:St)(fr:List Nat):St:=fr.map λi=>(σ[i]?).getD none
noncomputable def vQ(X:Cx)(own:List Str)(fr:List Nat)(sc:Scope)(C:Addr)(s:Shared)(H:Hp)(ex:List Addr):Cx where
 prog:=X.prog
 w:=X.w
 K:=X.K
 mg:=X.mg
 base:=X.base
 A:=X.A
 N:=own++PN X.N fr
 s₀:=s
 H₀:=H
 env:=compEnvC sc (cellsFrom (C+1) sc.names<|BJ X.env.cells sc.names []) C X.env
 outer:=X.stack
 stack:=X.stack
 ex:=ex
 fn:=λx=>sc.names.lookup x==some .cell
 calm:=X.calm
 pn:=[]
 xe:=λ_ _=>False
noncomputable def Py(own:List Str)(σ:St)(fr:List Nat):St:=own.map (λ_=>none)++GI σ fr
structure CompSc(X:Cx)(own:List Str)(fr:List Nat)(sc:Scope):Prop where
 kind:sc.kind=.function
 cells:∀y∈sc.names,y.2=.cell->sc.names.lookup y.1=some .cell
 loc:∀y∈sc.names,y.2=.local->sc.names.lookup y.1=some .local
 free:∀y∈sc.names,y.2=.free->X.env.kindOf y.1=some .cell\/X.env.kindOf y.1=some .free
 fr:∀i∈fr,∃x,X.N[i]?=some x/\sc.names.lookup x=some .free
theorem iF{C D:Addr}(S:CompSc X own fr sc) (I:Inv X pins σ H s) (hf:∀b∈fp,uW X pins H b) (hfo:∀b∈fp,∃o,s.heap.get? b=some o) (hC:s.heap.objs.size<=C) (hD:s.heap.objs.size<=D) (hDC:D≠C) (hn:h1.Ns C λx=>([]:List (Str×Value)).reverse.lookup x)(hk:∀b o,s.heap.get? b=some o->h1.get? b=some o) (hcl:∀x c,(x,c)∈cellsFrom (C+1) sc.names []->h1.IsCell c none) (hap:(cellsFrom (C+1) sc.names []).Pairwise λx y=>x.2≠y.2) (hoD:h1.get? D=some oD) (hdD:∀v,oD.data≠.cell v):Inv (vQ X own fr sc C s H fp) [(D,oD)] (Py own σ fr) H {s with heap:=h1,toks:=tk}:=by
 have hfree:∀y∈sc.names,y.2=.free->∃c,X.env.cells.lookup y.1=some c:=λy hy e=>I.ok.has y.1<|S.free y hy e;have cl1:∀x c,(BJ X.env.cells sc.names []).lookup x=some c->X.env.cells.lookup x=some c:=λx c e=>by
  rcases kK hfree e with z|z
  .simp at z
  .exact z
 have cl2:∀x c,(cellsFrom (C+1) sc.names<|BJ X.env.cells sc.names []).lookup x=some c->(x,c)∈cellsFrom (C+1) sc.names []\/X.env.cells.lookup x=some c:=λx c e=>by
  rw[CJ,qZ]at e;cases q:(cellsFrom (C+1) sc.names []).lookup x with
  |none=>rw[q]at e;exact .inr<|cl1 x c e
  |some c'=>rw[q]at e;cases e;exact .inl<|PySem.mem_of_lookup q
 have new:∀x c,(x,c)∈cellsFrom (C+1) sc.names []->C+1<=c:=λx c h=>(XW _ _ h).2;have oldc:∀x c,X.env.cells.lookup x=some c->c<s.heap.objs.size:=λx c e=>by obtain⟨v,q⟩:=I.cell x c e;exact q.lt
 have kin:∀x k,(relabel sc X.env).names.lookup x=some k->k=.cell\/k=.free->sc.names.lookup x=some .free\/sc.names.lookup x=some .cell:=λx k e hk=>by
  rw[mK]at e;cases q:sc.names.lookup x with
  |none=>rw[q]at e;cases e
  |some j =>
   rw[q,Q4,Option.some.injEq]at e;by_cases hj:j=.free
   .rw[hj];exact .inl rfl
   .have hne:(j==NameKind.free)=false:=by simpa using hj
    rw[hne,W8,W8,if_neg<|by simp]at e;subst e;rcases hk with z|z
    .rw[z];exact .inr rfl
    .exact absurd z hj
 have kout:∀x,sc.names.lookup x=some .free->((relabel sc X.env).names.lookup x=some .cell\/(relabel sc X.env).names.lookup x=some .free):=λx e=>by
  rw[mK,e,Q4];by_cases h:(NameKind.free==NameKind.free&&X.env.scope.kind==.function&&X.env.kindOf x==some .cell)=true
  .rw[if_pos h];exact .inl rfl
  .rw[if_neg h];exact .inr rfl
 have okc:∀b∈fp,b<s.heap.objs.size:=λb hb=>by obtain⟨o,e⟩:=hfo b hb;exact U0 e
 have fresh:∀{a:Addr},s.heap.objs.size<=a->H a=none:=λh=>I.hok.fresh h;have ok:(vQ X own fr sc C s H fp).Ok:={
   mod:=I.ok.mod
   kind:=S.kind
   glob:=I.ok.glob
   blt:=I.ok.blt
   above:=hC
   inj:=λx y c h1 h2=>by
     have hC:s.heap.objs.size<=C:=hC;rcases cl2 x c h1 with a|a<;>rcases cl2 y c h2 with b|b
     . exact name_of_addr hap a b
     . have:=new x c a;have:=oldc y c b;exact absurd (Q0 (oldc y c b)<|T1 hC<|A5<|new x c a)<|T2 _
     . exact absurd (Q0 (oldc x c a)<|T1 hC<|A5<|new y c b)<|T2 _
     . exact I.ok.inj x y c a b
   has:=λx hx=>by
     have hx:sc.names.lookup x=some .free\/sc.names.lookup x=some .cell:=by
       rcases hx with hx|hx
       . exact kin x _ hx<|.inl rfl
       . exact kin x _ hx<|.inr rfl
     show ∃c,(cellsFrom (C+1) sc.names<|BJ X.env.cells sc.names []).lookup x=some c;rw[CJ,qZ];rcases hx with hx|hx
     . obtain⟨c,e⟩:=VW (cells:=X.env.cells) (x:=x) (l:=sc.names) (acc:=[])<|.inr hx;rw[e];cases (cellsFrom (C+1) sc.names []).lookup x with
       |none=>exact⟨c,rfl⟩
       |some c'=>exact⟨c',rfl⟩
     . obtain⟨c,e⟩:=sY (n:=C+1) hx;rw[e];exact⟨c,rfl⟩
   cab:=λx c h e=>by
     have h:sc.names.lookup x=some .cell:=by simpa [vQ]using h
     have e:(cellsFrom (C+1) sc.names<|BJ X.env.cells sc.names []).lookup x=some c:=e;obtain⟨c',q⟩:=sY (n:=C+1) h;rw[CJ,qZ,q]at e;cases e;exact T1 hC (A5<|new x _<|PySem.mem_of_lookup q)
   hd:=I.ok.hd
   frames:=I.ok.frames
   stk:=.inl rfl
   exf:=λb hb=>⟨V0<|Q0 (okc b hb) hC,λx c e=>by
     rcases cl2 x c e with z|z
     . exact v3<|Q0 (okc b hb)<|T1 hC<|A5<|new x c z
     . exact(hf b hb).2.2.2.2.1 x c z⟩
   bs:=I.bs
   bsz:=T1 I.ok.bsz I.sz
   noex:=λb o e hb=>by
     rcases (hf b hb).2.2.2.1 with z|z
     . exact I.ok.noex b o e z
     . exact absurd (Q0 (U0 e)<|T1 I.ok.bsz z) (T2 _)
   exfs:=λb hb hm=>by
     rcases P0.mp (I.stkSub b hm) with z|z
     . exact(hf b hb).2.1 z
     . exact(hf b hb).2.2.1 z
   funs:=I.stack
   frf:=I.stkFree};refine⟨ok,rfl,I.bare,Un.kept hk,⟨_,hn,λi x v e1 e2 e3=>?_⟩,λx c e=>?_,fresh hC,λx c e=>?_,λp hp=>?_,I.hok.kept hk,?_⟩
 .have e1:(own++PN X.N fr)[i]?=some x:=e1;have e2:(own.map (λ_=>(none:Option V))++GI σ fr)[i]?=some (some v):=e2;by_cases hi:i<own.length
  .rw[E3 (by simpa using hi),E1]at e2;cases q:own[i]? with
   |none=>rw[q]at e2;cases e2
   |some z=>rw[q]at e2;cases e2
  .rw[Q2<|by lia]at e1;rw[Q2 (by simpa using hi),B0]at e2;unfold PN at e1;unfold GI at e2;rw[E1]at e1 e2;cases q:fr[i-own.length]? with
   |none=>rw[q]at e1;cases e1
   |some j =>
    rw[q,Q4,Option.some.injEq]at e1 e2;obtain⟨y,hy,hyf⟩:=S.fr j<|U1 q;rw[i6,hy,n4]at e1;subst e1;have e2':σ[j]?=some (some v):=by
     cases r:σ[j]? with
     |none=>rw[r]at e2;cases e2
     |some z=>rw[r,n4]at e2;rw[e2]
    have hkf:X.env.kindOf y=some .cell\/X.env.kindOf y=some .free:=S.free (y,.free) (PySem.mem_of_lookup hyf) rfl;obtain⟨m,hm,hl⟩:=I.loc;have vis:qy X.env.scope y:=by
     rcases hkf with z|z
     .exact .inr (.inl z)
     .exact .inr (.inr z)
    obtain⟨u,r,l⟩:=hl j y v hy e2' vis;refine⟨u,r,?_⟩;rcases l with⟨k,_⟩|⟨k,c,hc,z⟩
    .rcases hkf with k'|k'<;>rw[k]at k'<;>cases k'
    .refine .inr ⟨kout y hyf,?_⟩;obtain⟨c',hc'⟩:∃c',(BJ X.env.cells sc.names []).lookup y=some c':=VW<|.inr hyf;have:c'=c:=W1<|(cl1 y c' hc').symm.trans hc;subst this;obtain⟨o,ho,hd⟩:=z;refine⟨c',?_,o,hk _ _ ho,hd⟩;show (cellsFrom (C+1) sc.names<|BJ X.env.cells sc.names []).lookup y=some c';rw[CJ,qZ,hc'];cases q:(cellsFrom (C+1) sc.names []).lookup y with
     |none=>rfl
     |some c2=>have:=S.cells _ (XW _ _<|PySem.mem_of_lookup q).1 rfl;rw[hyf]at this;cases this
 .rcases cl2 x c e with z|z
  .exact⟨_,hcl x c z⟩
  .obtain⟨v,o,ho,hd⟩:=I.cell x c z;exact⟨v,o,hk _ _ ho,hd⟩
 .rcases cl2 x c e with z|z
  .exact fresh (T1 hC<|A5<|new x c z)
  .exact I.freeC x c z
 .have e:p=(D,oD):=by
   have:p∈([]:List (Addr×Obj))++[(D,oD)]:=hp;simpa using this
  subst e;refine⟨hoD,fresh hD,hDC,λhm=>?_,hdD⟩;have hm:D∈TZ X.stack:=hm;obtain⟨_,o,ho,_⟩:=I.stack.mem hm;exact absurd (Q0 (U0 ho) hD)<|T2 _
 .show (own.map (λ_=>(none:Option V))++GI σ fr).length=(own++PN X.N fr).length;simp[GI,PN]
theorem Jx{σ':St}{C D:Addr}{ys:List V}(I:Inv X pins σ H s) (hf:∀b∈fp,uW X pins H b) (hC:s.heap.objs.size<=C) (hD:s.heap.objs.size<=D) (hDC:D≠C)(J:Inv (vQ X own fr sc C s H fp) [(D,oD)] σ' H' s') (ho:oD={cls:=.type "list",data:=.seq us.toArray n}) (r:Vals ys us) (hz:ys.length<=sizeLine):Inv X pins σ (upd H' D<|.lst ys) s'/\(∃m,s'.heap.Ns C m)/\uW X pins (upd H' D<|.lst ys) C:=by
 have pD:=J.pin (D,oD) (by simp[vQ]);have hHD:H' D=none:=pD.2.1;have u:Un (TZ X.stack) fp H H' s.heap s'.heap:=J.base;have lt:∀b o,s.heap.get? b=some o->b≠D:=λb o e=>V0<|Q0 (U0 e) hD;have u2:Un (TZ X.stack) fp H (upd H' D<|.lst ys) s.heap s'.heap :=
  ⟨u.keep,u.slot,λb o e n hx=>by rw[iQ<|lt b o e];exact u.free b o e n hx,u.there,λb xs e=>by rw[iQ<|qQ (u.tups b xs e) hHD];exact u.tups b xs e,
    λb o x e=>by rw[iQ<|qQ (u.frzs b o x e) hHD];exact u.frzs b o x e,λb ps e=>by obtain⟨more,q⟩:=u.tbls b ps e;exact⟨more,by rw[iQ<|qQ q hHD];exact q⟩⟩;have hok:HOk X.prog X.w (upd H' D<|.lst ys) s'.heap:=λb o e=>by
  by_cases hb:b=D
  .subst hb;rw[uQ]at e;cases e;exact⟨hz,us,n,r,by rw[<-ho];exact pD.1⟩
  .rw[iQ hb]at e;exact(J.hok b o e).stay (λ_ _ _ q=>q) (λc q=>by rw[iQ<|qQ q hHD];exact q) λc xs q=>by rw[iQ<|qQ q hHD];exact q
 refine⟨I.call' (ch:=fp) J.os u2 hok J.bare λb hb=>?_,?_,?_⟩
 .obtain⟨f0,f1,f2,f3,f4,f5⟩:=hf b hb;exact⟨f3,f1,f4,f5⟩
 .obtain⟨m,hm,_⟩:=J.loc;exact⟨m,hm⟩
 .have hfree:H' C=none:=J.free;refine⟨by rw[iQ<|S2 hDC];exact hfree,?_⟩;exact(I.fpOk hC<|I.hok.fresh hC).2
theorem nK{it:Value}(I:Nat->Shared->Prop)
  (turn:∀n s,I n s->wpAny (model prog w) A (pyNext it) (λr s₁=>match r with
    |none=>R (.ok .next) s₁
    | some v=>wpAny (model prog w) A (letOwnedTupleGo target it v) (λ_ s₁'=>wpAny (model prog w) A (assign target env v) (λ_ s₂ =>
        wpAny (model prog w) A (forIn ifs true λc r=>if r=true then do let ok<-isTrue c env (eval c env);pure (ForInStep.yield ok) else pure (ForInStep.yield r)) (λok s₃ =>
          if ok=true then wpAny (model prog w) A (eval elt env) (λx s₄=>wpAny (model prog w) A (call (.builtin "list.append") [acc,x]) (λ_ s₅=>∃m,m<n/\I m s₅) (λ_ _=>False) s₄) (λ_ _=>False) s₃
          else ∃m,m<n/\I m s₃) (λ_ _=>False) s₂) (λ_ _=>False) s₁') (λ_ _=>False) s₁) (λ_ _=>False) s)
  (n:Nat) (h:I n s) :
  codeAny (model prog w) A (.compLoop (.ListComp elt [⟨target,iter,ifs,0⟩] scope pos) 0 it acc env) R s:=by
 refine codeAny_loop rfl I (λn s hI=>?_) n h;show wpAny _ A ((compTurn (.ListComp elt [⟨target,iter,ifs,0⟩] scope pos) 0 it acc env).onRaise<|λx=>do noteFrame x env;theTreesLotGoes x) _ _ s;refine wpAny_noted ?_;rw[compTurn_list];refine wpAny_bind<|wpAny_standAt<|wpAny_bind<|wpAny_mono (turn n s hI) (λr s₁ h₁=>?_) λ_ _ h'=>h'.elim;cases r with
 |none=>exact wpAny_pure h₁
 |some v =>
  refine wpAny_bind<|wpAny_mono h₁ (λ_ s₁' h₁'=>?_) λ_ _ h'=>h'.elim;refine wpAny_bind<|wpAny_mono h₁' (λ_ s₂ h₂=>wpAny_bind<|wpAny_mono h₂ (λok s₃ h₃=>?_) λ_ _ h'=>h'.elim) λ_ _ h'=>h'.elim;cases ok with
  |false=>exact wpAny_pure ⟨rfl,h₃⟩
  |true=>exact wpAny_bind<|wpAny_bind<|wpAny_mono h₃ (λx s₄ h₄=>wpAny_bind<|wpAny_mono h₄ (λ_ s₅ h₅=>wpAny_pure<|wpAny_pure ⟨rfl,h₅⟩) λ_ _ h'=>h'.elim) λ_ _ h'=>h'.elim
def Kx(X:Cx)(ifs:List Expr)(t:TT):Prop :=
 ∀(pins:List (Addr×Obj)) (s:Shared) (σ:St) (H:Hp) (Q:Bool->Hp->Prop),Inv X pins σ H s->t σ H Q ->
  wpAny (model X.prog X.w) X.A (forIn ifs true λc r=>if r=true then do let ok<-isTrue c X.env (eval c X.env);pure (ForInStep.yield ok) else pure (ForInStep.yield r)) (TP X pins σ Q) X.xe s
def QN:TT:=λ_ H Q=>Q true H
theorem HI:Kx X [] QN:=λ_ _ _ H _ I h=>wpAny_tests_nil ⟨H,I,h⟩
theorem II(h:PT X c t):Kx X [c] t:=λpins s σ H Q I hw=>wpAny_tests_one<|h pins s σ H Q I hw
def KC(wi:TI)(own:List Str)(fr:List Nat)(g:TG)(tc:TT)(te:TE):TE:=λσ H Q=>wi σ H λJ H1=>∃W:Nat->Nat->List V->St->Hp->Prop,(∃m,W 0 m [] (Py own σ fr) H1)/\∀i m ys τ H,W i m ys τ H ->
 (J.stop i H/\∀D,H D=none->Q (.ref D) (upd H D<|.lst ys)) \/
 (J.go i H/\ys.length<sizeLine/\∃N:List V->St->Hp->Prop,(∀ys' τ' H',N ys' τ' H'->∃m',m'<m/\W (i+1) m' ys' τ' H')/\∀x H',J.yld i H x H'->g x τ H' λτ2 H2=>tc τ2 H2 λb H3=>if b=true then te τ2 H3 λy H4=>N (ys++[y]) τ2 H4 else N ys τ2 H3)
theorem Ez{D:Addr}(I:Inv X ([(D,{cls:=.type "list",data:=.seq us.toArray k})]++pl) σ H s) (h1:X.s₀.heap.objs.size<=D) (h2:∀x c,X.env.cells.lookup x=some c->c≠D) (h3:∀p∈X.pn++pl,p.1≠D) (hz:us.length<sizeLine)(h:∀k' s',Inv X ([(D,{cls:=.type "list",data:=.seq (us++[u]).toArray k'})]++pl) σ H s'->Q .none s'):wpAny (model X.prog X.w) X.A (call (.builtin "list.append") [.ref D,u]) Q E s:=by
 obtain⟨e,hn,hL,hF,_⟩:=I.pin (D,{cls:=.type "list",data:=.seq us.toArray k})<|A1 _<|Z5 _<|Y0.mpr rfl;dsimp only at e hn hL hF;have I0:Inv X pl σ H s:=I.pins_of λp hp=>I.pin p<|A1 _<|A1 _ hp;refine call_meets F.slot_list_append ⟨_,e,rfl⟩ F.entry_list_append (F.args_list_append_2 _ _) (PySem.list_append D us.toArray k u<|by rw[X0];lia) ⟨e,?_⟩;have q:=PySem.IsL.update e λxs=>xs.push u;rw[show us.toArray.push u=(us++[u]).toArray by simp]at q;have I1:Inv X pl σ H {s with heap:=s.heap.update D (J2 λxs=>xs.push u),toks:=s.toks}:=I0.turned (it:=D) (λb o hb ho=>(W6 s.heap (J2 λxs=>xs.push u)<|S2 hb).trans ho) hn hL (.inr h1) h2 h3;obtain⟨k',q⟩:∃k',(s.heap.update D<|J2 λxs=>xs.push u).get? D=some {cls:=.type "list",data:=.seq (us++[u]).toArray k'}:=⟨_,q⟩;refine h k' _<|I1.pins_of (pins':=[(D,{cls:=.type "list",data:=.seq (us++[u]).toArray k'})]++pl) λp hp=>?_;rcases S1.mp hp with z|z
 .have z:p=_:=Y0.mp z;subst z;exact⟨q,hn,hL,hF,λv z=>by cases z⟩
 .exact I1.pin p (A1 _ z)
theorem YW{g:TG}{Q:VK}{RR:Value->Addr->Result->Shared->Prop}(hc:X.calm=true) (S:CompSc X own fr sc) (I2:Inv X pins σ H2 s2) (T:Turn X.prog X.w X.K tg J fp it tn) (st2:tn 0 s2.heap) (f2:∀b∈fp,uW X pins H2 b)(hg:∀C ex,PG (vQ X own fr sc C s2 H2 ex) tg g) (hif:∀C ex,Kx (vQ X own fr sc C s2 H2 ex) ifs tc) (he:∀C ex,PE (vQ X own fr sc C s2 H2 ex) elt te)(W:Nat->Nat->List V->St->Hp->Prop) (m0:Nat) (w0:W 0 m0 [] (Py own σ fr) H2)(turn:∀i m ys τ H,W i m ys τ H->(J.stop i H/\∀D,H D=none->Q (.ref D) (upd H D<|.lst ys)) \/(J.go i H/\ys.length<sizeLine/\∃N:List V->St->Hp->Prop,(∀ys' τ' H',N ys' τ' H'->∃m',m'<m/\W (i+1) m' ys' τ' H')/\∀x H',J.yld i H x H'->g x τ H' λτ2 H2=>tc τ2 H2 λb H3=>if b=true then te τ2 H3 λy H4=>N (ys++[y]) τ2 H4 else N ys τ2 H3))(hRR:∀D C H s',Inv X pins σ H s'->Q (.ref D) H->(∃m,s'.heap.Ns C m)->uW X pins H C->RR (.ref D) C (.ok .next) s'):wpAny (model X.prog X.w) X.A (newList []) (λacc s₃=>wpAny (model X.prog X.w) X.A (newFunctionEnv sc X.env.globals (BJ X.env.cells sc.names []) [] X.env.qual none .none<|some X.env) (λcenv s₄=>codeAny (model X.prog X.w) X.A (.compStart (.ListComp elt [⟨tg,iter,ifs,0⟩] sc pos) 0 (.ref it) acc {cenv with scope:=relabel sc X.env}) (RR acc cenv.locals) s₄) E s₃) E s2:=by
 refine wpAny_newObj_type<|QY ?_;dsimp only;generalize hH2:s2.heap.push {cls:=.type "list",dict:=none,data:=.seq ([]:List Value).toArray}=G;generalize hh1:pushCells (G.push {cls:=.type "dict",data:=.dict #[]}) sc.names=h₁;have kp:∀b o,(G.push {cls:=.type "dict",data:=.dict #[]}).get? b=some o->h₁.get? b=some o:=λb o e=>hh1 ▸ pushCells_keeps _ _ b o e;have hns₁:h₁.Ns G.objs.size λx=>([]:List (Str×Value)).reverse.lookup x:=(Heap.Ns.new G<|.type "dict").keeps kp;have cok:CellsOk h₁ (G.objs.size+1) (cellsFrom (G.objs.size+1) sc.names []):=by have:=cellsFrom_ok sc.names (G.push {cls:=.type "dict",data:=.dict #[]}) (G.objs.size+1) [] ⟨λ_ _ hm=>(nomatch hm),List.Pairwise.nil⟩ (by rw[O2];exact O0 _);rw[O2,hh1]at this;exact this
 have hC:G.objs.size=s2.heap.objs.size+1:=by rw[<-hH2,O2]
 have hCle:s2.heap.objs.size<=G.objs.size:=by rw[hC];exact B4 _
 have hDC:s2.heap.objs.size≠G.objs.size:=by rw[hC];exact V0<|V3 _
 have old:∀b o,s2.heap.get? b=some o->h₁.get? b=some o:=λb o e=>kp b o<|u0 _<|hH2 ▸ u0 _ e;have hacc:h₁.get? s2.heap.objs.size=some {cls:=.type "list",data:=.seq ([]:List Value).toArray}:=kp _ _<|u0 _<|hH2 ▸ T0 _ rfl;have st0':tn 0 h₁:=T.keep _ _ _ st2 λb hb o e=>old b o e;have fo:∀b∈fp,∃o,s2.heap.get? b=some o:=λb hb=>let ⟨o,e,_⟩:=T.obj _ _ st2 b hb;⟨o,e⟩;have flt:∀b∈fp,b<s2.heap.objs.size:=λb hb=>by obtain⟨o,e⟩:=fo b hb;exact U0 e
 have clb:∀x c,(BJ X.env.cells sc.names []).lookup x=some c->X.env.cells.lookup x=some c:=λx c e=>by
  rcases kK (λy hy e=>I2.ok.has y.1<|S.free y hy e) e with z|z
  .simp at z
  .exact z
 have clb2:∀(C':Addr) x c,(cellsFrom (C'+1) sc.names<|BJ X.env.cells sc.names []).lookup x=some c->C'+1<=c\/X.env.cells.lookup x=some c:=λC' x c e=>by
  rw[CJ,qZ]at e;cases q:(cellsFrom (C'+1) sc.names []).lookup x with
  |none=>rw[q]at e;exact .inr<|clb x c e
  |some c'=>rw[q]at e;cases e;exact .inl (XW _ _<|PySem.mem_of_lookup q).2
 have stt:∀C':Addr,s2.heap.objs.size<=C'->∀{H':Hp}{pl:List (Addr×Obj)},(∀b∈fp,H' b=none)->(∀p∈pl,s2.heap.objs.size<=p.1)->∀b∈fp,uW (vQ X own fr sc C' s2 H2 fp) pl H' b:=λC' hC' H' pl hn hp b hb=>by
  have I0:=f2 b hb;refine⟨hn b hb,V0<|Q0 (flt b hb) hC',λhm=>?_,.inl hb,λx c e=>by
      rcases clb2 C' x c e with z|z
      . exact v3<|Q0 (flt b hb)<|T1 hC'<|A5 z
      . exact I0.2.2.2.2.1 x c z,λp hp'=>?_⟩
  .rcases P0.mp (I2.stkSub b hm) with z|z
   .exact I0.2.1 z
   .exact I0.2.2.1 z
  .have hp':p∈pl:=by
    have:p∈([]:List (Addr×Obj))++pl:=hp';simpa using this
   exact v3<|Q0 (flt b hb)<|hp p hp'
 have loop:∀s₃:Shared,s₃={s2 with heap:=h₁,toks:=s2.toks} ->
   codeAny (model X.prog X.w) X.A (.compLoop (.ListComp elt [⟨tg,iter,ifs,0⟩] sc pos) 0 (.ref it) (.ref s2.heap.objs.size)<|compEnvC sc (cellsFrom (G.objs.size+1) sc.names<|BJ X.env.cells sc.names []) G.objs.size X.env)
    (RR (.ref s2.heap.objs.size) G.objs.size) s₃:=by
  rintro s₃ rfl;have I3:=iF (own:=own) (fr:=fr) (tk:=s2.toks) S I2 f2 fo hCle (O0 _) hDC hns₁ old (λx c h=>(cok.empty x c h).1) cok.apart hacc (λv z=>by cases z);refine nK (λn s'=>∃i H' ys us k τ,Inv (vQ X own fr sc G.objs.size s2 H2 fp) [(s2.heap.objs.size,{cls:=.type "list",data:=.seq us.toArray k})] τ H' s'/\tn i s'.heap/\(∀b∈fp,H' b=none)/\Vals ys us/\ys.length<=sizeLine/\W i n ys τ H') ?_ m0
   ⟨0,H2,[],[],0,_,I3,st0',λb hb=>(f2 b hb).1,.nil,W2 _,w0⟩;rintro n s4 ⟨i,H4,ys,us,k,τ,I4,st4,fr4,rv4,hz4,w4⟩;have hp4:∀p∈[(s2.heap.objs.size,({cls:=.type "list",data:=.seq us.toArray k}:Obj))],s2.heap.objs.size<=p.1:=λp hp=>by
   rw[Y0.mp hp];exact O0 _
  rcases turn i n ys τ H4 w4 with⟨stop,qn⟩|⟨go,hlt,N,hN,step⟩
  .refine vX (T.done (vQ X own fr sc G.objs.size s2 H2 fp) rfl rfl rfl hc i _ s4 _ H4 (λ_ _=>False) I4 (stt _ hCle fr4 hp4) st4 stop) λr s5 ⟨hr,I5⟩=>?_;subst hr;obtain⟨a1,a2,a3⟩:=Jx I2 f2 hCle (O0 _) hDC I5 rfl rv4 hz4;exact hRR _ _ _ s5 a1 (qn _ (I5.pin _<|A1 _<|Y0.mpr rfl).2.1) a2 a3
  .refine vX (T.item (vQ X own fr sc G.objs.size s2 H2 fp) rfl rfl rfl hc i _ s4 _ H4 (λ_ _=>False) I4 (stt _ hCle fr4 hp4) st4 go) λr s5 ⟨u,hr,h5⟩=>?_;subst hr;refine vX h5 λ_ s6 ⟨x,H6,I6,r6,y6,st6,fr6⟩=>?_;have I6':=I6.pinned (stt _ hCle fr6 hp4)<|T.obj _ _ st6;refine vX (hg G.objs.size fp _ s6 _ H6 x u _ I6' r6<|step x H6 y6) λ_ s7 ⟨σ7,H7,I7,q7⟩=>?_;refine vX (hif G.objs.size fp _ s7 σ7 H7 _ I7 q7) λb s8 ⟨H8,I8,q8⟩=>?_;have again:∀{s9:Shared}{H9:Hp}{ys':List V}{us':List Value}{k':Nat},Inv (vQ X own fr sc G.objs.size s2 H2 fp) ([(s2.heap.objs.size,{cls:=.type "list",data:=.seq us'.toArray k'})]++LY fp s6.heap) σ7 H9 s9->Vals ys' us'->ys'.length<=sizeLine->N ys' σ7 H9 ->
     ∃m,m<n/\∃i H' ys us k τ,Inv (vQ X own fr sc G.objs.size s2 H2 fp) [(s2.heap.objs.size,{cls:=.type "list",data:=.seq us.toArray k})] τ H' s9/\tn i s9.heap/\(∀b∈fp,H' b=none)/\Vals ys us/\ys.length<=sizeLine/\W i m ys τ H':=λ{s9 H9 ys' us' k'} I9 rv9 hz9 n9=>by
    obtain⟨m',hm,w9⟩:=hN ys' σ7 H9 n9;refine⟨m',hm,i+1,H9,ys',us',k',σ7,I9.unpinned,T.keep _ _ _ st6 λb hb o e=>(I9.pin (b,o)<|A1 _<|A1 _<|wJ hb e).1,λb hb=>?_,rv9,hz9,w9⟩;obtain⟨o,e,d⟩:=T.obj _ _ st6 b hb;exact(I9.pin (b,o)<|A1 _<|A1 _<|wJ hb e).2.1
   cases b with
   |false=>rw[if_neg W0]at q8 ⊢;exact again I8 rv4 hz4 q8
   |true =>
    rw[if_pos rfl]at q8 ⊢;refine vX (he G.objs.size fp _ s8 σ7 H8 _ I8 q8) λy s9 ⟨yv,H9,I9,r9,n9⟩=>?_;refine Ez (X:=vQ X own fr sc G.objs.size s2 H2 fp) I9 (O0 _) (λx c e z=>?_) (λp hp z=>?_) (by rw[<-rv4.length];exact hlt) λk' s10 I10=>?_
    .rcases clb2 _ x c e with y|y
     .rw[z]at y;exact absurd (Q0 (Nat.lt_succ_of_le hCle) y)<|T2 _
     .obtain⟨v,q⟩:=I2.cell x c y;exact absurd (Q0 q.lt<|by rw[z];exact O0 _)<|T2 _
    .have hp:p∈([]:List (Addr×Obj))++LY fp s6.heap:=hp;rw[E6]at hp;have:=flt _ (kU hp).1;rw[z]at this;exact absurd this<|T2 _
    .exact again I10 (rv4.append<|.cons r9 .nil) (by rw[M0,M3];lia) n9
 exact codeAny_compStart_list (loop _ rfl)<|T.self _ 0 _ _ _ st0'<|loop _ rfl
theorem Qy{pos:Pos}{own:List Str}{wi:TI}{g:TG}{tc:TT}{te:TE}(hc:X.calm=true)(S:CompSc X own fr sc)(hi:PI X tg iter wi)
  (hg:∀C s H ex,PG (vQ X own fr sc C s H ex) tg g) (hif:∀C s H ex,Kx (vQ X own fr sc C s H ex) ifs tc) (he:∀C s H ex,PE (vQ X own fr sc C s H ex) elt te)
  (hs:∀x,foldedSetIterable iter X.env x=pure x:=by intro _;rfl):PE X (.ListComp elt [⟨tg,iter,ifs,0⟩] sc pos) (KC wi own fr g tc te):=by
 intro pins s σ H Q I h;rw[eval_ListComp];refine wpAny_comprehension_free (use:=none) rfl hs (UW λy hy e=>I.ok.has y.1<|S.free y hy e) S.kind S.loc<|vX (hi pins s σ H _ I h) λv s1 h1=>vX h1 λitv s2 h2=>?_;obtain⟨it,fp,tn,J,H2,e,I2,T,st2,f2,W,⟨m0,w0⟩,turn⟩:=h2;subst e;refine YW (Q:=Q) (RR:=λacc C=>compPost (model X.prog X.w) X.A X.xe none (EP X pins σ Q) acc C) hc S I2 T st2 f2 (λC ex=>hg C s2 H2 ex) (λC ex=>hif C s2 H2 ex) (λC ex=>he C s2 H2 ex) W m0 w0 turn ?_;intro D C H' s' I' q ⟨m,hm⟩ fC;refine⟨m,hm,λh' sb=>⟨.ref D,H',?_,rfl,q⟩⟩;obtain⟨f0,f1,f2,f3,f4,f5⟩:=fC;exact I'.turned (t':=s'.toks) (λb o hb e=>(sb.2 b hb).trans e) f0 f1 f3 f4 f5
theorem jF{pos spos py:Pos}{i:Nat}{own:List Str}{wi:TI}{g:TG}{tc:TT}{te:TE}(hN:X.N.Nodup)(hy:X.N[i]?=some y)(hl:X.env.scope.names.lookup y=some .local)(hc:X.calm=true)(S:CompSc X own fr sc)(hi:PI X tg iter wi)
  (hg:∀C s H ex,PG (vQ X own fr sc C s H ex) tg g) (hif:∀C s H ex,Kx (vQ X own fr sc C s H ex) ifs tc) (he:∀C s H ex,PE (vQ X own fr sc C s H ex) elt te)
  (hsw:swapsWith (.ListComp elt [⟨tg,iter,ifs,0⟩] sc pos) (some<|.Name y py) spos.line X.env=pure true:=by rfl)
  (hs:∀x,foldedSetIterable iter X.env x=pure x:=by intro _;rfl):PS X (.Assign [.Name y py] (.ListComp elt [⟨tg,iter,ifs,0⟩] sc pos) spos) (KW (KC wi own fr g tc te)<|eK i):=by
 intro pins s σ H D I h;rw[exec_Assign_Name_used _ _ _ _ hsw];refine wpAny_bind<|wpAny_standAt ?_;show wpAny _ _ (evalThenUse (.ListComp elt [⟨tg,iter,ifs,0⟩] sc pos) X.env _ >>= _) _ _ s;refine wpAny_bind ?_;unfold evalThenUse;refine wpAny_bind ?_;refine wpAny_comprehension_free rfl hs (UW λy hy e=>I.ok.has y.1<|S.free y hy e) S.kind S.loc<|vX (hi pins s σ H _ I h) λv s1 h1=>vX h1 λitv s2 h2=>?_;obtain⟨it,fp,tn,J,H2,e,I2,T,st2,f2,W,⟨m0,w0⟩,turn⟩:=h2;subst e;refine YW (Q:=λv H1=>D.nx (σ.set i<|some v) H1) hc S I2 T st2 f2 (λC ex=>hg C s2 H2 ex) (λC ex=>hif C s2 H2 ex) (λC ex=>he C s2 H2 ex) W m0 w0 turn ?_;intro D' C H' s' I' q ⟨m,hm⟩ fC;obtain⟨f0,f1,f2,f3,f4,f5⟩:=fC;show wpAny (model X.prog X.w) X.A (assign (.Name y py) X.env<|.ref D') (λ_ s''=>∃m,s''.heap.Ns C m/\∀h',u3 C s''.heap h'->_) X.xe s';refine wpAny_assign_Name<|jU I' hN hy (.inl hl) (v:=.ref D') rfl (λs'' I'' hsb=>?_)<|.inr hl;obtain⟨a,hsb,ha⟩:=hsb;have hCa:C≠a:=by
  rcases ha with z|z
  .rw[z];exact f1
  .exact λe=>f4 y a z e.symm
 obtain⟨m',hm'⟩:∃m',s''.heap.Ns C m':=⟨m,hm.sameBut hsb hCa⟩;refine⟨m',hm',λh' sb=>wpAny_pure<|wpAny_pure ⟨_,H',?_,q⟩⟩;exact I''.turned (t':=s''.toks) (λb o hb e=>(sb.2 b hb).trans e) f0 f1 f3 f4 f5
inductive Kd where|l|t
def ItAt(k:Kd)(h:Heap)(it a:Addr)(i:Nat):Prop:=match k with | .l=>h.IsListIter it a i | .t=>h.IsTupleIter it a i
def SqAt(k:Kd)(h:Heap)(a:Addr)(xs:Array Value):Prop:=match k with | .l=>h.IsList a xs | .t=>h.IsTuple a xs
noncomputable def eY(k:Kd)(a:Addr):Obj:=match k with | .l=>{cls:=.type "list_iterator",data:=.fields #[.ref a,.int 0 0]} | .t=>{cls:=.type "tuple_iterator",data:=.fields #[.ref a,.int 0 0]}
theorem ItAt.at(x:ItAt k h it a i)(f:∀o,h.get? it=some o->h'.get? it=some o):ItAt k h' it a i:=by
 cases k with
 |l=>exact Heap.IsListIter.at x f
 |t=>exact Heap.IsTupleIter.at x f
theorem SqAt.at(x:SqAt k h a xs)(f:∀o,h.get? a=some o->h'.get? a=some o):SqAt k h' a xs:=by
 cases k with
 |l=>exact Heap.IsList.at x f
 |t=>obtain⟨o,e,r⟩:=x;exact⟨o,f o e,r⟩
theorem ItAt.obj(x:ItAt k h it a i):∃o,h.get? it=some o/\∀v,o.data≠.cell v:=by
 cases k with
 |l=>obtain⟨o,e,c,d⟩:=x;exact⟨o,e,λv z=>by rw[d]at z;cases z⟩
 |t=>obtain⟨o,e,c,d⟩:=x;exact⟨o,e,λv z=>by rw[d]at z;cases z⟩
theorem ItAt.new(k:Kd){h:Heap}{it a:Addr}(e:h.get? it=some (eY k a)):ItAt k h it a 0:=by
 cases k with
 |l=>exact⟨_,e,rfl,rfl⟩
 |t=>exact⟨_,e,rfl,rfl⟩
section
variable {w:World}
theorem SD(hl:SqAt k s.heap a xs)(h:Q (.ref s.heap.objs.size) {s with heap:=s.heap.push<|eY k a}):wpAny (model prog w) A (pyIter<|.ref a) Q E s:=by
 cases k with
 |l=>exact wpAny_pyIter_list hl h
 |t=>exact wpAny_pyIter_tuple hl h
theorem wY(hit:s.heap.IsTupleIter it t i)(ht:s.heap.IsTuple t items)(hx:items[i]?=some x)(hQ:∀h',h'.IsTupleIter it t (i+1)->u3 it s.heap h'->Q x {s with heap:=h'}):wpAny (model prog w) A (B2<|.ref it) Q E s:=by
 obtain⟨o,ho,hc,hd⟩:=id hit;obtain⟨ol,hol,_,nl,hdl⟩:=ht;unfold B2;refine wpAny_bind<|wpAny_callSpecial?_slot (name:=Str.ofString "__next__") hit.typeIs F.slot_tuple_iterator_next
   (wpAny_call_entry F.slot_tuple_iterator_next hit.typeIs F.entry_tuple_iterator_next ?_<|F.args_tuple_iterator_next_1 _);show wpAny _ _ (field (.ref it) 0 >>= _) _ _ s;refine wpAny_bind<|wpAny_field ho hd (x:=.ref t) rfl ?_;show wpAny _ _ (if (E2 t==U3)=true then _ else _) _ _ s;rw[if_neg<|show ¬((E2 t==U3)=true) from W0];show wpAny _ _ (field (.ref it) 1 >>= _) _ _ s;refine wpAny_bind<|wpAny_field ho hd (x:=.int i 0) rfl ?_;show wpAny _ _ (seqItems? (.ref t) >>= _) _ _ s;refine wpAny_bind<|wpAny_seqItems hol hdl ?_;simp only[S6,hx];refine wpAny_bind<|wpAny_setField ho hd (by simp)<|wpAny_pure ⟨x,rfl,wpAny_pure<|hQ _ ?_<|J3 ..⟩;exact⟨_,V2 _ ho<|m5<|Z4 hd _,(Obj.cls_mapFields ..).trans hc,by
   rw[Z4 hd];simp[rawInt]⟩
theorem RY{l:Addr}(hh:A.handled=none)(hit:s.heap.IsTupleIter it l i) (hl:s.heap.IsTuple l items) (hx:items[i]?=none)(hE:∀h' e,Heap.ExtBut it s.heap h'->(∃o,h'.get? e=some o/\o.cls=.type "StopIteration")->E (.ref e) {s with heap:=h'}):wpAny (model prog w) A (B2<|.ref it) Q E s:=by
 obtain⟨o,ho,hc,hd⟩:=id hit;obtain⟨ol,hol,_,nl,hdl⟩:=hl;unfold B2;refine wpAny_bind<|wpAny_callSpecial?_slot (name:=Str.ofString "__next__") hit.typeIs F.slot_tuple_iterator_next
   (wpAny_call_entry F.slot_tuple_iterator_next hit.typeIs F.entry_tuple_iterator_next ?_<|F.args_tuple_iterator_next_1 _);show wpAny _ _ (field (.ref it) 0 >>= _) _ _ s;refine wpAny_bind<|wpAny_field ho hd (x:=.ref l) rfl ?_;show wpAny _ _ (if (E2 l==U3)=true then _ else _) _ _ s;rw[if_neg<|show ¬((E2 l==U3)=true) from W0];show wpAny _ _ (field (.ref it) 1 >>= _) _ _ s;refine wpAny_bind<|wpAny_field ho hd (x:=.int i 0) rfl ?_;show wpAny _ _ (seqItems? (.ref l) >>= _) _ _ s;refine wpAny_bind<|wpAny_seqItems hol hdl ?_;simp only[S6,hx];refine wpAny_bind<|wpAny_rule<|wpAny_bind<|wpAny_setField ho hd (by simp) ?_;show wpAny _ _ (newExc (.type "StopIteration") [] >>= _) _ _ _;refine wpAny_bind ?_;simp only[newExc,newTuple];refine wpAny_bind (wpAny_newObj_type ?_<|by size_fits);refine wpAny_bind (m:=firstArgMember _ _)<|wpAny_of_eq (a:=U3) (by first|rfl|(simp only[firstArgMember];rfl)) ?_;refine wpAny_newObj_type ?_ (by size_fits);simp only[raiseNew];refine wpAny_bind<|wpAny_handled ?_;first|rw[show A.in1.handled=none from hh]|rw[hh]
 refine wpAny_bind<|wpAny_pure<|wpAny_throw ?_;exact hE _ _ (((J3 ..).extBut.push _).push _) ⟨_,T0 _ rfl,rfl⟩
theorem oK(hit:ItAt k s.heap it a i)(hl:SqAt k s.heap a xs)(hx:xs[i]?=some x)(hQ:∀h',ItAt k h' it a (i+1)->u3 it s.heap h'->Q x {s with heap:=h'}):wpAny (model prog w) A (B2<|.ref it) Q E s:=by
 cases k with
 |l=>exact wpAny_nextOf_list_item hit hl hx hQ
 |t=>exact wY hit hl hx hQ
theorem ZW(hh:A.handled=none)(hit:ItAt k s.heap it a i)(hl:SqAt k s.heap a xs)(hx:xs[i]?=none)(hE:∀h' e,Heap.ExtBut it s.heap h'->(∃o,h'.get? e=some o/\o.cls=.type "StopIteration")->E (.ref e) {s with heap:=h'}):wpAny (model prog w) A (B2<|.ref it) Q E s:=by
 cases k with
 |l=>exact wpAny_nextOf_list_end hh hit hl hx hE
 |t=>exact RY hh hit hl hx hE
end
abbrev UQ(h:Heap)(T:Addr)(a1 a2:Value):Prop:=h.get? T=some {cls:=.type "tuple",data:=.seq #[a1,a2]}
structure ZAp2(z TI TO i1 i2 l1 l2:Addr):Prop where
 TIz:TI≠z
 TOz:TO≠z
 i1z:i1≠z
 i2z:i2≠z
 TOTI:TO≠TI
 i1TI:i1≠TI
 i2TI:i2≠TI
 i1TO:i1≠TO
 i2TO:i2≠TO
 i2i1:i2≠i1
 l1z:l1≠z
 l1TO:l1≠TO
 l1i1:l1≠i1
 l1i2:l1≠i2
 l2z:l2≠z
 l2TO:l2≠TO
 l2i1:l2≠i1
 l2i2:l2≠i2
theorem jR(n l1 l2:Nat)(h1:l1<n)(h2:l2<n):ZAp2 (n+4) (n+2) (n+3) n (n+1) l1 l2:=by constructor<;>(show ¬(@Eq Nat _ _))<;>lia
section
variable {w:World}
theorem kF{Q:Unit->Shared->Prop}(hT:UQ s.heap T a1 a2)(h:∀h',h'.get? T=some {cls:=.type "tuple",data:=.seq<|(#[a1,a2]:Array Value).setIfInBounds k x}->u3 T s.heap h'->Q () {s with heap:=h'}):wpAny (model prog w) A (updateSeq T (·.setIfInBounds k x)) Q E s:=by
 refine wpAny_updateSeq hT rfl<|h _ ?_<|J3 ..;rw[V2 _ hT rfl];simp[J2]
theorem lF{TI TO:Addr}(D:ZAp2 z TI TO i1 i2 l1 l2)(hz:IsZip s.heap z TI TO .none) (hTI:UQ s.heap TI (.ref i1) (.ref i2)) (hTO:UQ s.heap TO a1 a2)(h1:ItAt k1 s.heap i1 l1 k) (h2:ItAt k2 s.heap i2 l2 k) (hl1:SqAt k1 s.heap l1 xs1) (hl2:SqAt k2 s.heap l2 xs2) (hx1:xs1[k]?=some x1) (hx2:xs2[k]?=some x2)(hQ:∀h',IsZip h' z TI TO (rawInt s.heap.objs.size)->UQ h' TO x1 x2->ItAt k1 h' i1 l1 (k+1)->ItAt k2 h' i2 l2 (k+1)->UQ h' s.heap.objs.size x1 x2->h'.objs.size=s.heap.objs.size+1 ->(∀c o,c≠z->c≠TO->c≠i1->c≠i2->s.heap.get? c=some o->h'.get? c=some o)->Q (.ref s.heap.objs.size) {s with heap:=h'}):wpAny (model prog w) A (Builtin.«zip.__next__» ⟨[.ref z],[]⟩) (λfin s'=>∃v,fin=.done (.ret v)/\Q v s') E s:=by
 show wpAny _ _ (field (.ref z) 2 >>= _) _ _ _;refine wpAny_bind<|wpAny_field hz rfl (x:=.bool false) rfl ?_;show wpAny _ _ (field (.ref z) 3 >>= _) _ _ _;refine wpAny_bind<|wpAny_field hz rfl (x:=.ref TI) rfl ?_;refine wpAny_bind<|wpAny_seqItems hTI rfl ?_;show wpAny _ _ (Q3 (.ref z) >>= _) _ _ _;refine wpAny_bind ?_;unfold Q3;refine wpAny_bind<|wpAny_field hz rfl (x:=.none) rfl<|wpAny_pure ?_;simp only[if_true];refine wpAny_bind<|wpAny_rule ?_;refine wpAny_bind<|wpAny_field hz rfl (x:=.ref TO) rfl ?_;refine wpAny_bind<|wpAny_setField_rec hz (by simp) λh₁ hz₁ hs₁=>?_
 replace hz₁:IsZip h₁ z TI TO .ellipsis:=hz₁
 refine wpAny_bind ?_;simp only[List.zipIdx_cons,List.zipIdx_nil,J6,P6];have up₁:∀c o,c≠z->s.heap.get? c=some o->h₁.get? c=some o:=λc o c1 e=>hs₁.extBut _ _ c1 e;refine wpAny_bind<|wpAny_bind<|wpAny_onRaise ?_;show wpAny _ _ (B2 (.ref i1) >>= _) _ _ _;refine wpAny_bind<|oK (h1.at λo e=>hs₁.extBut _ o D.i1z e) (hl1.at λo e=>hs₁.extBut _ o D.l1z e) hx1 λha1 hi1 hsa1=>wpAny_pure ?_;have hTOa1:UQ ha1 TO a1 a2:=hsa1.extBut _ _ D.i1TO.symm<|hs₁.extBut _ _ D.TOz hTO;refine wpAny_bind<|wpAny_seqItems hTOa1 rfl ?_;refine wpAny_bind<|kF hTOa1 λhb1 hTOb1 hsb1=>?_
 replace hTOb1:UQ hb1 TO x1 a2:=hTOb1
 refine wpAny_bind<|wpAny_letGo<|wpAny_pure ?_;refine wpAny_bind<|wpAny_bind<|wpAny_onRaise ?_;show wpAny _ _ (B2 (.ref i2) >>= _) _ _ _;refine wpAny_bind<|oK (((h2.at λo e=>hs₁.extBut _ o D.i2z e).at λo e=>hsa1.extBut _ o D.i2i1 e).at λo e=>hsb1.extBut _ o D.i2TO e) (((hl2.at λo e=>hs₁.extBut _ o D.l2z e).at λo e=>hsa1.extBut _ o D.l2i1 e).at λo e=>hsb1.extBut _ o D.l2TO e) hx2 λha2 hi2 hsa2=>wpAny_pure ?_;have hTOa2:UQ ha2 TO x1 a2:=hsa2.extBut _ _ D.i2TO.symm hTOb1;refine wpAny_bind<|wpAny_seqItems hTOa2 rfl ?_;refine wpAny_bind<|kF hTOa2 λhb2 hTOb2 hsb2=>?_
 replace hTOb2:UQ hb2 TO x1 x2:=hTOb2
 refine wpAny_bind<|wpAny_letGo<|wpAny_pure<|wpAny_pure ?_;refine wpAny_bind<|wpAny_seqItems hTOb2 rfl ?_;refine wpAny_bind<|wpAny_newTuple ?_;have hsz:hb2.objs.size=s.heap.objs.size:=by rw[hsb2.1,hsa2.1,hsb1.1,hsa1.1,hs₁.1]
 have hzG:IsZip hb2 z TI TO .ellipsis:=(hsb2.extBut _ _ D.TOz.symm<|hsa2.extBut _ _ D.i2z.symm<|hsb1.extBut _ _ D.TOz.symm<|hsa1.extBut _ _ D.i1z.symm hz₁);have hkG:∀c o,c≠z->c≠TO->c≠i1->c≠i2->s.heap.get? c=some o->hb2.get? c=some o:=λc o c1 c2 d1 d2 e=>(hsb2.extBut _ _ c2<|hsa2.extBut _ _ d2<|hsb1.extBut _ _ c2<|hsa1.extBut _ _ d1<|hs₁.extBut _ _ c1 e);have hiG1:ItAt k1 hb2 i1 l1 (k+1):=(((hi1.at λo e=>hsb1.extBut _ o D.i1TO e).at λo e=>hsa2.extBut _ o D.i2i1.symm e).at λo e=>hsb2.extBut _ o D.i1TO e);have hiG2:ItAt k2 hb2 i2 l2 (k+1):=(hi2.at λo e=>hsb2.extBut _ o D.i2TO e);have hzlt:z<hb2.objs.size:=U0 hzG;show wpAny _ _ (u6 (.ref z) (.ref hb2.objs.size) >>= _) _ _ _;refine wpAny_bind ?_;unfold u6;have hz₆:IsZip (hb2.push {cls:=.type "tuple",data:=.seq #[x1,x2]}) z TI TO .ellipsis:=u0 _ hzG;refine wpAny_bind<|wpAny_setField_rec hz₆ (by simp) λh₇ hz₇ hs₇=>?_
 replace hz₇:IsZip h₇ z TI TO (rawInt hb2.objs.size):=hz₇
 refine wpAny_setField_rec hz₇ (by simp) λh₈ hz₈ hs₈=>?_
 replace hz₈:IsZip h₈ z TI TO (rawInt hb2.objs.size):=hz₈
 have up:∀c o,c≠z->hb2.get? c=some o->h₈.get? c=some o:=λc o c1 e=>hs₈.extBut _ _ c1<|hs₇.extBut _ _ c1<|u0 _ e;have hT₈:UQ h₈ hb2.objs.size x1 x2:=hs₈.extBut _ _ (v3 hzlt)<|hs₇.extBut _ _ (v3 hzlt)<|T0 _ rfl;have hz8:h₈.objs.size=hb2.objs.size+1:=by rw[hs₈.1,hs₇.1,O2]
 rw[hsz]at hz₈ hT₈ hz8;refine wpAny_pure ⟨_,rfl,?_⟩;show Q (.ref hb2.objs.size) _;rw[hsz];exact hQ h₈ hz₈ (up _ _ D.TOz hTOb2) (hiG1.at λo e=>up _ o D.i1z e) (hiG2.at λo e=>up _ o D.i2z e) hT₈ hz8 λc o c1 c2 d1 d2 e=>up c o c1<|hkG c o c1 c2 d1 d2 e
theorem Fz{TI TO:Addr}{Q:Fin->Shared->Prop}(hh:A.handled=none)(D:ZAp2 z TI TO i1 i2 l1 l2)(hz:IsZip s.heap z TI TO .none) (hTI:UQ s.heap TI (.ref i1) (.ref i2)) (hTO:UQ s.heap TO a1 a2)(h1:ItAt k1 s.heap i1 l1 k) (h2:ItAt k2 s.heap i2 l2 k) (hl1:SqAt k1 s.heap l1 xs1) (hl2:SqAt k2 s.heap l2 xs2) (hend:xs1[k]?=none\/xs2[k]?=none)(hE:∀h' e,(∀c o,c≠z->c≠TO->c≠i1->c≠i2->s.heap.get? c=some o->h'.get? c=some o)->(∃o,h'.get? e=some o/\o.cls=.type "StopIteration")->E (.ref e) {s with heap:=h'}):wpAny (model prog w) A (Builtin.«zip.__next__» ⟨[.ref z],[]⟩) Q E s:=by
 show wpAny _ _ (field (.ref z) 2 >>= _) _ _ _;refine wpAny_bind<|wpAny_field hz rfl (x:=.bool false) rfl ?_;show wpAny _ _ (field (.ref z) 3 >>= _) _ _ _;refine wpAny_bind<|wpAny_field hz rfl (x:=.ref TI) rfl ?_;refine wpAny_bind<|wpAny_seqItems hTI rfl ?_;show wpAny _ _ (Q3 (.ref z) >>= _) _ _ _;refine wpAny_bind ?_;unfold Q3;refine wpAny_bind<|wpAny_field hz rfl (x:=.none) rfl<|wpAny_pure ?_;simp only[if_true];refine wpAny_bind<|wpAny_rule ?_;refine wpAny_bind<|wpAny_field hz rfl (x:=.ref TO) rfl ?_;refine wpAny_bind<|wpAny_setField_rec hz (by simp) λh₁ hz₁ hs₁=>?_
 replace hz₁:IsZip h₁ z TI TO .ellipsis:=hz₁
 refine wpAny_bind ?_;simp only[List.zipIdx_cons,List.zipIdx_nil,J6,P6];refine wpAny_bind<|wpAny_bind<|wpAny_onRaise ?_;show wpAny _ _ (B2 (.ref i1) >>= _) _ _ _;cases hx1:xs1[k]? with
 |none =>
  refine wpAny_bind<|ZW hh (h1.at λo e=>hs₁.extBut _ o D.i1z e) (hl1.at λo e=>hs₁.extBut _ o D.l1z e) hx1 λhq e hsq he=>?_;obtain⟨oe,hoe,hce⟩:=he;have hzq:IsZip hq z TI TO .ellipsis:=hsq _ _ D.i1z.symm hz₁;have hez:e≠z:=λx=>by subst x;rw[hzq]at hoe;cases hoe;simp at hce
  refine wpAny_setField_rec hzq (by simp) λh₉ _ hs₉=>hE h₉ e (λc o c1 c2 d1 d2 x=>hs₉.extBut _ _ c1<|hsq _ _ d1<|hs₁.extBut _ _ c1 x) ⟨oe,hs₉.extBut _ _ hez hoe,hce⟩
 |some x1 =>
  refine wpAny_bind<|oK (h1.at λo e=>hs₁.extBut _ o D.i1z e) (hl1.at λo e=>hs₁.extBut _ o D.l1z e) hx1 λha1 hi1 hsa1=>wpAny_pure ?_;have hTOa1:UQ ha1 TO a1 a2:=hsa1.extBut _ _ D.i1TO.symm<|hs₁.extBut _ _ D.TOz hTO;refine wpAny_bind<|wpAny_seqItems hTOa1 rfl ?_;refine wpAny_bind<|kF hTOa1 λhb1 hTOb1 hsb1=>?_
  replace hTOb1:UQ hb1 TO x1 a2:=hTOb1
  refine wpAny_bind<|wpAny_letGo<|wpAny_pure ?_;refine wpAny_bind<|wpAny_bind<|wpAny_onRaise ?_;show wpAny _ _ (B2 (.ref i2) >>= _) _ _ _;have hx2:xs2[k]?=none:=by
   rcases hend with h|h
   .rw[hx1]at h;cases h
   .exact h
  refine wpAny_bind<|ZW hh (((h2.at λo e=>hs₁.extBut _ o D.i2z e).at λo e=>hsa1.extBut _ o D.i2i1 e).at λo e=>hsb1.extBut _ o D.i2TO e) (((hl2.at λo e=>hs₁.extBut _ o D.l2z e).at λo e=>hsa1.extBut _ o D.l2i1 e).at λo e=>hsb1.extBut _ o D.l2TO e) hx2 λhq e hsq he=>?_;obtain⟨oe,hoe,hce⟩:=he;have hzq:IsZip hq z TI TO .ellipsis:=hsq _ _ D.i2z.symm<|hsb1.extBut _ _ D.TOz.symm<|hsa1.extBut _ _ D.i1z.symm hz₁;have hez:e≠z:=λx=>by subst x;rw[hzq]at hoe;cases hoe;simp at hce
  refine wpAny_setField_rec hzq (by simp) λh₉ _ hs₉=>hE h₉ e (λc o c1 c2 d1 d2 x=>hs₉.extBut _ _ c1<|hsq _ _ d2<|hsb1.extBut _ _ c2<|hsa1.extBut _ _ d1<|hs₁.extBut _ _ c1 x) ⟨oe,hs₉.extBut _ _ hez hoe,hce⟩
theorem aV{TI TO:Addr}{Q:Option Value->Shared->Prop}(D:ZAp2 z TI TO i1 i2 l1 l2)(hz:IsZip s.heap z TI TO .none) (hTI:UQ s.heap TI (.ref i1) (.ref i2)) (hTO:UQ s.heap TO a1 a2)(h1:ItAt k1 s.heap i1 l1 k) (h2:ItAt k2 s.heap i2 l2 k) (hl1:SqAt k1 s.heap l1 xs1) (hl2:SqAt k2 s.heap l2 xs2) (hx1:xs1[k]?=some x1) (hx2:xs2[k]?=some x2)(hQ:∀h',IsZip h' z TI TO (rawInt s.heap.objs.size)->UQ h' TO x1 x2->ItAt k1 h' i1 l1 (k+1)->ItAt k2 h' i2 l2 (k+1)->UQ h' s.heap.objs.size x1 x2->h'.objs.size=s.heap.objs.size+1 ->(∀c o,c≠z->c≠TO->c≠i1->c≠i2->s.heap.get? c=some o->h'.get? c=some o)->Q (some<|.ref s.heap.objs.size) {s with heap:=h'}):wpAny (model prog w) A (pyNext<|.ref z) Q E s:=by
 have hT:s.TypeIs (.ref z) "zip":=⟨_,hz,rfl⟩;unfold pyNext;exact wpAny_bind<|wpAny_attempt<|wpAny_callSpecial?_slot (name:=Str.ofString "__next__") hT F.slot_zip_next
   (wpAny_call_entry F.slot_zip_next hT F.entry_zip_next
     (lF D hz hTI hTO h1 h2 hl1 hl2 hx1 hx2 λh' a1 a2 b1 b2 a5 a6 a7=>wpAny_pure<|hQ h' a1 a2 b1 b2 a5 a6 a7) (F.args_zip_next_1 _))
theorem XV{TI TO:Addr}{Q:Option Value->Shared->Prop}(hh:A.handled=none)(D:ZAp2 z TI TO i1 i2 l1 l2)(hz:IsZip s.heap z TI TO .none) (hTI:UQ s.heap TI (.ref i1) (.ref i2)) (hTO:UQ s.heap TO a1 a2)(h1:ItAt k1 s.heap i1 l1 k) (h2:ItAt k2 s.heap i2 l2 k) (hl1:SqAt k1 s.heap l1 xs1) (hl2:SqAt k2 s.heap l2 xs2) (hend:xs1[k]?=none\/xs2[k]?=none)(hQ:∀h',(∀c o,c≠z->c≠TO->c≠i1->c≠i2->s.heap.get? c=some o->h'.get? c=some o)->Q none {s with heap:=h'}):wpAny (model prog w) A (pyNext<|.ref z) Q E s:=by
 have hT:s.TypeIs (.ref z) "zip":=⟨_,hz,rfl⟩;unfold pyNext;refine wpAny_bind<|wpAny_attempt<|wpAny_callSpecial?_slot (name:=Str.ofString "__next__") hT F.slot_zip_next
   (wpAny_call_entry F.slot_zip_next hT F.entry_zip_next (Fz hh D hz hTI hTO h1 h2 hl1 hl2 hend λh' e hk he=>?_)<|F.args_zip_next_1 _);obtain⟨o,ho,hc⟩:=he;refine wpAny_bind<|wpAny_isInstance (T:="StopIteration") (b:=true) ⟨o,ho,hc⟩ isSubtype_stop ?_;exact wpAny_pure<|hQ _ hk
end
noncomputable abbrev Ry(h:Heap)(k1:Kd)(k2:Kd)(l1 l2:Addr):Heap:=((h.push<|eY k1 l1).push<|eY k2 l2)
noncomputable abbrev Sy(h:Heap)(k1:Kd)(k2:Kd)(l1 l2:Addr):Heap:=(Ry h k1 k2 l1 l2).push {cls:=.type "tuple",data:=.seq #[.ref h.objs.size,.ref (h.push<|eY k1 l1).objs.size]}
noncomputable abbrev Ty(h:Heap)(k1:Kd)(k2:Kd)(l1 l2:Addr):Heap:=(Sy h k1 k2 l1 l2).push {cls:=.type "tuple",data:=.seq #[.none,.none]}
noncomputable abbrev IH(h:Heap)(k1:Kd)(k2:Kd)(l1 l2:Addr):Heap:=(Ty h k1 k2 l1 l2).push {cls:=.type "zip",data:=.fields #[.none,.bool false,.bool false,.ref (Ry h k1 k2 l1 l2).objs.size,.ref (Sy h k1 k2 l1 l2).objs.size]}
theorem Lx(k1:Kd)(k2:Kd)(l1 l2:Addr)(xs1 xs2:Array Value):Meets (Builtin.«zip.__new__» ⟨[.type "zip",.ref l1,.ref l2],[]⟩) (λ_ R s=>SqAt k1 s.heap l1 xs1/\SqAt k2 s.heap l2 xs2 /\ R (.ok<|.ret<|.ref (Ty s.heap k1 k2 l1 l2).objs.size) {s with heap:=IH s.heap k1 k2 l1 l2}):=
 .of_wp λprog w A R s h=>by
  obtain⟨hp,g,d,tk,os⟩:=s;obtain⟨hl1,hl2,h⟩:=h;have hsub:=sub_zip;have hL1:SqAt k1 (Shared.heap ⟨hp,g,d,tk,os⟩) l1 xs1:=hl1;have hL2:SqAt k2 (Shared.heap ⟨(hp.push<|eY k1 l1),g,d,tk,os⟩) l2 xs2:=(SqAt.at hl2 λo e=>u0 _ e)
  wp_walk using SD hL1,SD hL2
  exact⟨_,rfl,h⟩
structure ZAp3(z TI TO i1 i2 i3 l1 l2 l3:Addr):Prop where
 TIz:TI≠z
 TOz:TO≠z
 i1z:i1≠z
 i2z:i2≠z
 i3z:i3≠z
 TOTI:TO≠TI
 i1TI:i1≠TI
 i2TI:i2≠TI
 i3TI:i3≠TI
 i1TO:i1≠TO
 i2TO:i2≠TO
 i3TO:i3≠TO
 i2i1:i2≠i1
 i3i1:i3≠i1
 i3i2:i3≠i2
 l1z:l1≠z
 l1TO:l1≠TO
 l1i1:l1≠i1
 l1i2:l1≠i2
 l1i3:l1≠i3
 l2z:l2≠z
 l2TO:l2≠TO
 l2i1:l2≠i1
 l2i2:l2≠i2
 l2i3:l2≠i3
 l3z:l3≠z
 l3TO:l3≠TO
 l3i1:l3≠i1
 l3i2:l3≠i2
 l3i3:l3≠i3
section
variable {w:World}
end
inductive Ki where|non|bl|int|str|lst|tup|dct
 deriving DecidableEq
noncomputable def Ki.nm:Ki->String
 | .non=>"NoneType" | .bl=>"bool" | .int=>"int" | .str=>"str" | .lst=>"list" | .tup=>"tuple" | .dct=>"dict"
noncomputable def KiOf(K:G0)(H:Hp):V->Ki->Prop
 | .non,k=>k=.non
 | .bl _,k=>k=.bl
 | .int _,k=>k=.int
 | .str _,k=>k=.str
 | .ref a,k=>(k=.lst/\∃xs,SqL K H a xs)\/(k=.tup/\∃xs,SqT K H a xs)\/(k=.dct/\((∃kvs,H a=some (.dK kvs))\/∃kvs,H a=some (.dT kvs)))
 |_,_=>False
noncomputable def Ki.sub:Ki->Ki->Bool
 | .bl,.int=>true
 |a,b=>decide<|a=b
theorem KiOf.typeIs(I:Inv X pins σ H s)(h:KiOf X.K H x k)(r:RelV x u):s.TypeIs u k.nm:=by
 cases x with
 |non=>cases h;cases r;rfl
 |bl b=>cases h;cases r;rfl
 |int i=>cases h;obtain⟨t,rfl⟩:=r;rfl
 |str i=>cases h;obtain⟨t,rfl⟩:=r;rfl
 |ref a =>
  cases r;rcases h with⟨rfl,xs,hq⟩|⟨rfl,xs,hq⟩|⟨rfl,⟨kvs,hq⟩|⟨kvs,hq⟩⟩
  .obtain⟨its,_,⟨o,n,e,c,_⟩,_⟩:=I.list hq;exact⟨o,e,c⟩
  .obtain⟨its,_,⟨o,e,c,_⟩,_⟩:=I.tuple hq;exact⟨o,e,c⟩
  .obtain⟨_,_,_,_,o,es,ep,e,c,_⟩:=I.hok a _ hq;exact⟨o,e,c.1⟩
  .obtain⟨_,_,_,_,o,es,ep,e,c,_⟩:=I.hok a _ hq;exact⟨o,e,c.1⟩
 |byt _=>cases h
 |flt _=>cases h
 |ty _=>cases h
theorem wZ(T:Ki):typeOf (.type T.nm)=pure (.type "type"):=by
 cases T
 .exact F.isi_meta_NoneType
 .exact F.isi_meta_bool
 .exact F.isi_meta_int
 .exact F.isi_meta_str
 .exact F.isi_meta_list
 .exact F.isi_meta_tuple
 .exact F.isi_meta_dict
theorem WU(k T:Ki):isSubtype (.type k.nm) (.type T.nm)=pure (k.sub T):=by cases k<;>cases T<;>(show isSubtype (.type _) (.type _)=pure _;rw[isSubtype_type];kernel_rfl)
theorem LC(k T:Ki)(h:k.sub T=false):(P4 k.nm==P4 T.nm)=false:=by cases k<;>cases T<;>first|(exfalso;revert h;decide)|decide +kernel
def Gz(K:G0):List V->Hp->VK->Prop:=λxs H Q=>∃(x:V) (k:Ki) (T:Ki),xs=[x,.ty T.nm]/\KiOf K H x k/\Q (.bl<|k.sub T) H
theorem JH:ZQ X (.builtin "isinstance") (Gz X.K):=by
 intro pins s σ H xs us Q I r h;obtain⟨x,k,T,rfl,hk,q⟩:=h;obtain⟨u,w',rfl,ru,rw'⟩:=bY r;obtain rfl:w'=.type T.nm:=rw';have ht:=hk.typeIs I ru;cases hs:k.sub T with
 |true=>rw[hs]at q;exact call_isinstance (isinstance_true (Tx:=k.nm) (wZ T)<|by rw[WU,hs]) ⟨ht,.bl true,H,I,rfl,q⟩
 |false =>
  rw[hs]at q;have hsub:isSubtype (.type k.nm) (.type T.nm)=pure false:=by rw[WU,hs]
  have hne:=LC k T hs;have fin:EP X pins σ Q (.bool false) {s with toks:=s.toks+1}:=⟨.bl false,H,I.tok _,rfl,q⟩;cases x with
  |non=>cases hk;cases ru;exact call_isinstance (isinstance_false_none hne (wZ T) hsub) fin
  |bl b=>cases hk;cases ru;exact call_isinstance (isinstance_false_bool hne (wZ T) hsub) fin
  |int i=>cases hk;obtain⟨t,rfl⟩:=ru;exact call_isinstance (isinstance_false_int hne (wZ T) hsub) fin
  |str i=>cases hk;obtain⟨t,rfl⟩:=ru;exact call_isinstance (isinstance_false_str hne (wZ T) hsub) fin
  |ref a =>
   cases ru;rcases hk with⟨rfl,_⟩|⟨rfl,_⟩|⟨rfl,_⟩
   .exact call_isinstance (isinstance_false_list hne (wZ T) hsub) ⟨ht,fin⟩
   .exact call_isinstance (isinstance_false_tuple hne (wZ T) hsub) ⟨ht,fin⟩
   .exact call_isinstance (isinstance_false_dict hne (wZ T) hsub) ⟨ht,fin⟩
  |byt _=>cases hk
  |flt _=>cases hk
  |ty _=>cases hk
def JI(K:G0):List V->Hp->VK->Prop:=λxs H Q=>∃(a:Addr) (bs:List Bool),xs=[.ref a]/\SqL K H a (bs.map V.bl)/\Q (.bl<|bs.all id) H
theorem KH{bs:List Bool}(r:Vals (bs.map V.bl) us)(i:Nat)(v:Value)(h:us[i]?=some v):∃b,bs[i]?=some b/\v=.bool b:=by
 cases e:bs[i]? with
 |none =>
  have h1:(bs.map V.bl)[i]?=none:=by rw[E1,e];rfl
  rw[r.none_of h1]at h;cases h
 |some b=>obtain⟨u,hu,ru⟩:=r.get (i:=i) (x:=.bl b) (by rw[E1,e];rfl);rw[hu]at h;cases h;exact⟨b,rfl,ru⟩
theorem XU(bs:List Bool):((Z1 bs.length).all λi=>(bs[i]?).getD true)=bs.all id:=by
 rw[P5,K2,K2];constructor
 .intro h b hb;obtain⟨i,hi,e⟩:=A7.mp hb;have:=h i<|E4.mpr hi;rw[R0 hi,n4,e]at this;exact this
 .intro h i hi;have hi:=E4.mp hi;rw[R0 hi,n4];exact h _<|u4 hi
theorem Mx(hc:X.calm=true):ZQ X (.builtin "all") (JI X.K):=by
 intro pins s σ H xs us Q I r h;obtain⟨a,bs,rfl,hq,q⟩:=h;obtain⟨u,rfl,ru⟩:=EZ r;cases ru;obtain⟨its,rv,p,hz⟩:=I.list hq;have hl:=p.isList;have hlt:a<s.heap.objs.size:=by obtain⟨_,e,_⟩:=hl;exact U0 e
 refine call_all_walk<|wpAny_pyIter_list hl ?_;refine⟨s.heap.objs.size,[s.heap.objs.size,a],[s.heap.objs.size],its.toArray.size,_,_,λi=>(bs[i]?).getD true,rfl,Walks.list (A:=X.A.in1) (I.ok.hd hc) _ a (V0 hlt) its.toArray,
   ⟨⟨_,T0 _ rfl,rfl,rfl⟩,hl.push _⟩,λi v s' Q' E' hP hQ=>?_,λh' tk hk=>?_⟩
 .obtain⟨b,e,rfl⟩:=KH rv i v (by simpa using hP);simp only[e,n4]at hQ;exact wpAny_truthy_bool hQ
 .have e:((Z1 its.toArray.size).all λi=>(bs[i]?).getD true)=bs.all id:=by
   have hl2:=rv.length;rw[B0]at hl2;rw[X0,<-hl2];exact XU bs
  rw[e];refine⟨.bl<|bs.all id,H,I.kept (h':=h') (t':=tk) λb o eo=>hk b o (λhm=>?_)<|u0 _ eo,rfl,q⟩;rw[Y0.mp hm]at eo;exact T2 _<|U0 eo
def Sq(k:Kd)(K:G0)(H:Hp)(a:Addr)(xs:List V):Prop:=match k with | .l=>SqL K H a xs | .t=>SqT K H a xs
theorem Inv.sq(I:Inv X pins σ H s)(h:Sq k X.K H a xs):∃its:List Value,Vals xs its/\SqAt k s.heap a its.toArray/\xs.length<=sizeLine:=by
 cases k with
 |l=>obtain⟨its,r,p,z⟩:=I.list h;exact⟨its,r,p.isList,z⟩
 |t=>obtain⟨its,r,p,z⟩:=I.tuple h;exact⟨its,r,p,z⟩
theorem Inv.sq_inj{ys:List V}(I:Inv X pins σ H s)(h:Sq k X.K H a xs)(h':Sq k X.K H a ys):xs=ys:=by
 cases k with
 |l=>exact I.list_inj h h'
 |t=>exact I.tuple_inj h h'
noncomputable def KI(K:G0)(k1:Kd)(k2:Kd)(l1 l2:Addr):It :=
 ⟨λi H=>∃ys1 x1 ys2 x2,Sq k1 K H l1 ys1/\Sq k2 K H l2 ys2/\ys1[i]?=some x1/\ys2[i]?=some x2,
  λi H x H'=>∃T x1 x2,H T=none/\x=.ref T/\H'=upd H T (.tup [x1,x2])/\(∀ys,Sq k1 K H l1 ys->ys[i]?=some x1)/\(∀ys,Sq k2 K H l2 ys->ys[i]?=some x2),
  λi H=>∃ys1 ys2,Sq k1 K H l1 ys1/\Sq k2 K H l2 ys2/\(ys1.length<=i\/ys2.length<=i)⟩
theorem Hz{K:G0}(k1:Kd)(k2:Kd)(z TI TO i1 i2 l1 l2:Addr)(D:ZAp2 z TI TO i1 i2 l1 l2):Turn P w K (.Tuple es kk pos) (KI K k1 k2 l1 l2) [z,TI,TO,i1,i2] z (λi h=>IsZip h z TI TO .none/\UQ h TI (.ref i1) (.ref i2)/\(∃a1 a2,UQ h TO a1 a2)/\ItAt k1 h i1 l1 i/\ItAt k2 h i2 l2 i) where
 mem:=by simp
 obj:=λi h st b hb=>by
  obtain⟨hz,hTI,⟨a1,a2,hTO⟩,t1,t2⟩:=st;have hb:b=z\/b=TI\/b=TO\/b=i1\/b=i2:=by simpa using hb
  rcases hb with rfl|rfl|rfl|rfl|rfl
  .exact⟨_,hz,λv e=>by cases e⟩
  .exact⟨_,hTI,λv e=>by cases e⟩
  .exact⟨_,hTO,λv e=>by cases e⟩
  .exact t1.obj
  .exact t2.obj
 keep:=λi h h' st k=>by obtain⟨hz,hTI,⟨a1,a2,hTO⟩,t1,t2⟩:=st;exact⟨k _ (by simp) _ hz,k _ (by simp) _ hTI,⟨a1,a2,k _ (by simp) _ hTO⟩,t1.at λo e=>k _ (by simp) _ e,t2.at λo e=>k _ (by simp) _ e⟩
 item:=by
  intro X hP hw hK hc i pins s σ H E I hf st hg;subst hP hw hK;obtain⟨hz,hTI,⟨a1,a2,hTO⟩,t1,t2⟩:=st;obtain⟨ys1,x1,ys2,x2,q1,q2,e1,e2⟩:=hg;obtain⟨its1,rv1,p1,z1⟩:=I.sq q1;obtain⟨u1,hu1,ru1⟩:=rv1.get e1;obtain⟨its2,rv2,p2,z2⟩:=I.sq q2;obtain⟨u2,hu2,ru2⟩:=rv2.get e2;refine aV D hz hTI hTO t1 t2 p1 p2 (show its1.toArray[i]?=some u1 by simpa using hu1) (show its2.toArray[i]?=some u2 by simpa using hu2) λh' b1 b2 c1 c2 b5 b6 b7=>?_;have hTn:s.heap.objs.size≠z:=v3<|U0 hz;refine⟨_,rfl,wpAny_letOwnedTupleGo_zip (s:={s with heap:=h'}) b1 λh2 hz2 hs2=>?_⟩;have kp:∀b o,b∉[z,TI,TO,i1,i2]->s.heap.get? b=some o->h2.get? b=some o:=λb o hb e=>by
   have hb:b≠z/\b≠TI/\b≠TO/\b≠i1/\b≠i2:=by simpa using hb
   obtain⟨g1,g2,g3,f1,f2⟩:=hb;exact hs2.extBut _ _ g1<|b7 b o g1 g3 f1 f2 e
  have hTI2:UQ h2 TI (.ref i1) (.ref i2):=hs2.extBut _ _ D.TIz<|b7 TI _ D.TIz (S2 D.TOTI) (S2 D.i1TI) (S2 D.i2TI) hTI;have hT2:UQ h2 s.heap.objs.size u1 u2:=hs2.extBut _ _ hTn b5;have hfr:H s.heap.objs.size=none:=I.hok.fresh<|O0 _;have I2:Inv X pins σ (upd H s.heap.objs.size<|.tup [x1,x2]) {s with heap:=h2}:=by
   have nfp:∀b u,H b=some u->b∉[z,TI,TO,i1,i2]:=λb u e hb=>by have:=(hf b hb).1;rw[e]at this;cases this
   refine I.step (g':=s.gens) (d':=s.drawn) (ch:=[z,TI,TO,i1,i2]) (λb hb=>?_) (λb o _ _ hc' e _=>kp b o hc' e) (λb o _ _ hc' e _=>⟨o.slots,kp b o hc' e⟩) (λb o _ e n=>?_)
    (λb o hc' e=>⟨o,kp b o hc' e⟩) (λb xs e=>?_) (λb o xs e=>?_) (λb ps e=>⟨#[],?_⟩) (λm hm=>?_) (λb o e=>?_) I.bare
   .obtain⟨f0,f1,f2,f3,f4,f5⟩:=hf b hb;exact⟨f3,f1,f4,f5⟩
   .rw[iQ<|V0<|U0 e];exact n
   .rw[iQ<|qQ e hfr];exact e
   .rw[iQ<|qQ e hfr];exact e
   .rw[iQ<|qQ e hfr,e];simp
   .obtain⟨o,es',ep,ho,r⟩:=hm;exact⟨o,es',ep,kp _ o (λhb=>(hf _ hb).2.1 rfl) ho,r⟩
   .by_cases hb:b=s.heap.objs.size
    .subst hb;rw[uQ]at e;cases e;exact⟨by show 2<=sizeLine;decide,[u1,u2],.cons ru1<|.cons ru2 .nil,_,hT2,rfl,_,rfl,rfl⟩
    .rw[iQ hb]at e;refine(I.hok b o e).stay (λc v hc' q=>kp c v ?_ q) (λc q=>by rw[iQ<|qQ q hfr];exact q) λc xs q=>by rw[iQ<|qQ q hfr];exact q
     rcases hc' with rfl|hc'
     .exact nfp _ _ e
     .exact nfp _ _ hc'
  refine⟨.ref s.heap.objs.size,_,I2,rfl,⟨_,x1,x2,hfr,rfl,rfl,(λys hy=>by rw[I.sq_inj hy q1];exact e1),(λys hy=>by rw[I.sq_inj hy q2];exact e2)⟩,⟨hz2,hTI2,⟨u1,u2,hs2.extBut _ _ D.TOz b2⟩,c1.at λo e=>hs2.extBut _ _ D.i1z e,c2.at λo e=>hs2.extBut _ _ D.i2z e⟩,λb hb=>?_⟩;rw[iQ ?_]
  .exact(hf b hb).1
  .intro e;subst e;have hb:s.heap.objs.size=z\/s.heap.objs.size=TI\/s.heap.objs.size=TO\/s.heap.objs.size=i1\/s.heap.objs.size=i2:=by simpa using hb
   rcases hb with e|e|e|e|e
   .exact hTn e
   .exact v3 (U0 hTI) e
   .exact v3 (U0 hTO) e
   .obtain⟨o,eo,_⟩:=t1.obj;exact v3 (U0 eo) e
   .obtain⟨o,eo,_⟩:=t2.obj;exact v3 (U0 eo) e
 done:=by
  intro X hP hw hK hc i pins s σ H E I hf st hg;subst hP hw hK;obtain⟨hz,hTI,⟨a1,a2,hTO⟩,t1,t2⟩:=st;obtain⟨ys1,ys2,q1,q2,hend⟩:=hg;obtain⟨its1,rv1,p1,z1⟩:=I.sq q1;have len1:=rv1.length;obtain⟨its2,rv2,p2,z2⟩:=I.sq q2;have len2:=rv2.length;refine XV (I.ok.hd hc) D hz hTI hTO t1 t2 p1 p2 ?_ λh' kp=>⟨rfl,?_⟩
  .rcases hend with h|h
   .exact .inl (by simp;lia)
   .exact .inr (by simp;lia)
  .have nfp:∀b u,H b=some u->b∉[z,TI,TO,i1,i2]:=λb u e hb=>by have:=(hf b hb).1;rw[e]at this;cases this
   have kp':∀b o,b∉[z,TI,TO,i1,i2]->s.heap.get? b=some o->h'.get? b=some o:=λb o hb e=>by
    have hb:b≠z/\b≠TI/\b≠TO/\b≠i1/\b≠i2:=by simpa using hb
    obtain⟨g1,g2,g3,f1,f2⟩:=hb;exact kp b o g1 g3 f1 f2 e
   refine I.step (g':=s.gens) (d':=s.drawn) (ch:=[z,TI,TO,i1,i2]) (λb hb=>?_) (λb o _ _ hc' e _=>kp' b o hc' e) (λb o _ _ hc' e _=>⟨o.slots,kp' b o hc' e⟩) (λb o _ e n=>n)
    (λb o hc' e=>⟨o,kp' b o hc' e⟩) (λb xs e=>e) (λb o xs e=>e) (λb ps e=>⟨#[],by rw[e];simp⟩) (λm hm=>?_) (λb o e=>?_) I.bare
   .obtain⟨f0,f1,f2,f3,f4,f5⟩:=hf b hb;exact⟨f3,f1,f4,f5⟩
   .obtain⟨o,es',ep,ho,r⟩:=hm;exact⟨o,es',ep,kp' _ o (λhb=>(hf _ hb).2.1 rfl) ho,r⟩
   .refine(I.hok b o e).stay (λc v hc' q=>kp' c v ?_ q) (λ_ q=>q) λ_ _ q=>q;rcases hc' with rfl|hc'
    .exact nfp _ _ e
    .exact nfp _ _ hc'
 self:=λ_ _ _ _ _ st h=>wpAny_pyIter_zip st.1 h
def UD(K:G0)(ta:TA):TI:=λσ H R=>ta σ H λvs H1=>∃(k1:Kd) (l1:Addr) (ys1:List V) (k2:Kd) (l2:Addr) (ys2:List V),vs=[.ref l1,.ref l2]/\Sq k1 K H1 l1 ys1/\Sq k2 K H1 l2 ys2/\R (KI K k1 k2 l1 l2) H1
theorem Uy{es:List Expr}{kk:Nat}{tpos:Pos}{a b:Expr}{ta:TA}{p pos:Pos}(hg:Gl X "zip")(hm:X.mg "zip"=none)(ha:PA X [a,b] ta)(hs:starEach [a,b] X.env=(false,eval a X.env)::starEach [b] X.env:=by rfl)(hpl:(backTo pos<|starEach [b] X.env).any (·.1)=false:=by rfl) :
  PI X (.Tuple es kk tpos) (.Call (.Name "zip" p) [a,b] [] pos) (UD X.K ta):=by
 intro pins s σ H R I h;refine Call_<|KY I hg hm boot_zip<|W4 (vX (ha pos pins s σ H _ I h) λus s1 ⟨vs,H1,I1,r1,q1⟩=>?_) hs hpl;obtain⟨k1,l1,ys1,k2,l2,ys2,e,q1,q2,q⟩:=q1;subst e;obtain rfl:us=[.ref l1,.ref l2]:=by cases r1 with|cons r rr=>cases r;cases rr with|cons r rr=>cases r;cases rr;rfl
 obtain⟨its1,rv1,p1,z1⟩:=I1.sq q1;obtain⟨its2,rv2,p2,z2⟩:=I1.sq q2;have lt:∀{k:Kd}{l:Addr}{xs:Array Value},SqAt k s1.heap l xs->l<s1.heap.objs.size:=λ{k l xs} p=>by
  cases k with
  |l=>obtain⟨o,e,_⟩:=p;exact U0 e
  |t=>obtain⟨o,e,_⟩:=p;exact U0 e
 refine callType_new F.called_zip (by decide) (F.typeCall_zip_2 _ _) (F.newCall_zip_2 _ _) (λobj=>F.args_object_init_3 obj _ _) F.entry_zip_new (Lx k1 k2 l1 l2 its1.toArray its2.toArray) ⟨p1,p2,?_⟩;have zI:(Ry s1.heap k1 k2 l1 l2).objs.size=s1.heap.objs.size+2:=by simp[O2]
 have zT:(Sy s1.heap k1 k2 l1 l2).objs.size=s1.heap.objs.size+3:=by simp[O2]
 have zO:(Ty s1.heap k1 k2 l1 l2).objs.size=s1.heap.objs.size+4:=by simp[O2]
 have gZ:(IH s1.heap k1 k2 l1 l2).get? (Ty s1.heap k1 k2 l1 l2).objs.size=some _:=T0 _ rfl;have gO:(IH s1.heap k1 k2 l1 l2).get? (Sy s1.heap k1 k2 l1 l2).objs.size=some _:=u0 _<|T0 _ rfl;have gT:(IH s1.heap k1 k2 l1 l2).get? (Ry s1.heap k1 k2 l1 l2).objs.size=some _:=u0 _<|u0 _<|T0 _ rfl;have g1:(IH s1.heap k1 k2 l1 l2).get? s1.heap.objs.size=some (eY k1 l1):=u0 _ (u0 _<|u0 _<|u0 _<|T0 _<|by cases k1<;>rfl);have g2:(IH s1.heap k1 k2 l1 l2).get? (s1.heap.push<|eY k1 l1).objs.size=some (eY k2 l2):=u0 _ (u0 _<|u0 _<|T0 _<|by cases k2<;>rfl);have zz2:(s1.heap.push<|eY k1 l1).objs.size=s1.heap.objs.size+1:=by simp[O2]
 rw[zO,zT,zI]at gZ;rw[zI,zz2]at gT;rw[zT]at gO;rw[zz2]at g2;show _/\_;rw[zO];have kp:∀b o,s1.heap.get? b=some o->(IH s1.heap k1 k2 l1 l2).get? b=some o:=λb o e=>u0 _<|u0 _<|u0 _<|u0 _<|u0 _<|e;refine⟨⟨_,gZ,rfl⟩,wpAny_pyIter_zip (s:={s1 with heap:=IH s1.heap k1 k2 l1 l2}) gZ ?_⟩;refine⟨_,[s1.heap.objs.size+4,s1.heap.objs.size+2,s1.heap.objs.size+3,s1.heap.objs.size,s1.heap.objs.size+1],_,_,H1,rfl,I1.kept (t':=s1.toks) kp,Hz k1 k2 _ _ _ _ _ l1 l2<|jR _ l1 l2 (lt p1)<|lt p2,⟨gZ,gT,⟨_,_,gO⟩,ItAt.new k1 g1,ItAt.new k2 g2⟩,λb hb=>?_,q⟩;have hb:s1.heap.objs.size<=b:=by
  have hb:b=s1.heap.objs.size+4\/b=s1.heap.objs.size+2\/b=s1.heap.objs.size+3\/b=s1.heap.objs.size\/b=s1.heap.objs.size+1:=by simpa using hb
  rcases hb with rfl|rfl|rfl|rfl|rfl;all_goals first|exact r8 _ _|exact O0 _
 exact I1.fpOk hb<|I1.hok.fresh hb
def VD:V->List V->Hp->VK->Prop:=λx vs H Q=>∃(l:Addr) (xs:List V) (i:Int) (y:V),x=.ref l/\vs=[.int i,y]/\H l=some (.lst xs)/\xs.length<sizeLine/\0<=i/\i<=xs.length/\Q .non (upd H l<|.lst (xs.take i.toNat++y::xs.drop i.toNat))
theorem Iz:KP X "list.insert" VD:=by
 intro pins s σ H x vs v us Q I rx rv h;obtain⟨l,xs,i,y,rfl,rfl,hH,hz,h0,h1,q⟩:=h;cases rx;obtain⟨u,w',rfl,ru,rw'⟩:=bY rv;obtain⟨t,rfl⟩:=ru;obtain⟨z,its,n,r,hl,e⟩:=I.lstM hH;have hs:xs.length<=16777216:=z;have hf:¬(!Builtin.List.listFitsIndex i)=true:=by
  have:P7 i=true:=by unfold P7;simp only[decide_eq_true_eq,A2];constructor<;>lia
  rw[this];decide
 refine call_meets F.slot_list_insert ⟨_,e,rfl⟩ F.entry_list_insert (F.args_list_insert_3 _ _ _) (AutoSeq1.list_insert_list_int_val_1 l its.toArray n i t w' hf<|by rw[X0];lia) ⟨e,?_⟩;refine⟨.non,_,I.lset (its':=its.take i.toNat++w'::its.drop i.toNat) hH e ?_ ((r.take _).append<|.cons rw'<|r.drop _) ?_,rfl,q⟩
 .have hi:¬i<0:=by lia
  have hm:min i.toNat its.length=i.toNat:=by lia
  simp only[hi,if_false,X0,hm];apply Array.ext';simp[List.extract_eq_take_drop];rw[Z3<|by simp]
 .rw[M0,Y1,j2,U2]
  lia
mutual
inductive Is (K:G0) (H:Hp):V->PyData->Prop
 |non:Is K H .non .none
 |bl (b):Is K H (.bl b) (.bool b)
 |int (i):Is K H (.int i) (.int i)
 |str (x):Is K H (.str x) (.str x)
 |lst {a xs ds}:SqL K H a xs->IsAll K H xs ds->Is K H (.ref a) (.list ds)
 |tup {a xs ds}:SqT K H a xs->IsAll K H xs ds->Is K H (.ref a) (.tuple ds)
inductive IsAll (K:G0) (H:Hp):List V->List PyData->Prop
 |nil:IsAll K H [] []
 |cons {x xs d ds}:Is K H x d->IsAll K H xs ds->IsAll K H (x::xs) (d::ds)
end
theorem Is.reads(I:Inv X pins σ H s){x:V}{d:PyData}{u:Value}(h:Is X.K H x d)(r:RelV x u):∃as,Reads s.heap u d as:=by
 refine Is.rec (motive_1:=λx d _=>∀u,RelV x u->∃as,Reads s.heap u d as) (motive_2:=λxs ds _=>∀us,Vals xs us->∃as,ReadsAll s.heap us ds as) (λu r=>?_) (λb u r=>?_) (λi u r=>?_) (λx u r=>?_) (λhq _ ha u r=>?_) (λhq _ ha u r=>?_) (λus r=>?_) (λ_ _ ha ht us r=>?_) h u r
 .cases r;exact⟨_,.none⟩
 .cases r;exact⟨_,.bool b⟩
 .obtain⟨t,rfl⟩:=r;exact⟨_,.int i t⟩
 .obtain⟨t,rfl⟩:=r;exact⟨_,.str x t⟩
 .cases r;obtain⟨its,rv,⟨o,n,e,c,d,q⟩,z⟩:=I.list hq;obtain⟨as,hr⟩:=ha _ rv;exact⟨_,.list e c q<|by simpa using hr⟩
 .cases r;obtain⟨its,rv,⟨o,e,c,n,q⟩,z⟩:=I.tuple hq;obtain⟨as,hr⟩:=ha _ rv;exact⟨_,.tuple e c q<|by simpa using hr⟩
 .cases r;exact⟨_,.nil⟩
 .cases r with
  |cons r rr=>obtain⟨as,a⟩:=ha _ r;obtain⟨bs,b⟩:=ht _ rr;exact⟨_,.cons a b⟩
open PySem.SeqAt in
def YV(K:G0)(neg:Bool):R2:=λx y H Q=>∃d e:PyData,Is K H x d/\Is K H y e/\shaped d=true/\shaped e=true/\noMix d e=true/\Q (.bl<|if neg then !same d e else same d e) H
theorem LI(hu:X.A.units+64<cLine):OpR X (compareOp .Eq) (YV X.K false):=by intro pins s σ H x y v u Q I r1 r2 h;obtain⟨d,e,i1,i2,s1,s2,nm,q⟩:=h;obtain⟨as,a⟩:=i1.reads I r1;obtain⟨bs,b⟩:=i2.reads I r2;exact eq_dataH_same a b s1 s2 hu nm ⟨.bl _,H,I,rfl,q⟩
theorem MI(hu:X.A.units+64<cLine):OpR X (compareOp .NotEq) (YV X.K true):=by intro pins s σ H x y v u Q I r1 r2 h;obtain⟨d,e,i1,i2,s1,s2,nm,q⟩:=h;obtain⟨as,a⟩:=i1.reads I r1;obtain⟨bs,b⟩:=i2.reads I r2;exact ne_dataH_same a b s1 s2 hu nm ⟨.bl _,H,I,rfl,q⟩
structure Cal(P:Program)(w:World)(K:G0)(mg:Str->Option Value)(base:Heap)(k:Nat)(x:Str)(ps:List Str)(sp:Sp):Prop where
 ex:∃(f:Addr) (fd:FuncData),FnOk P w K mg base OX k f fd ps sp/\mg x=some (.ref f)/\O3 K (.ref f)=true/\Binds K fd ps []
theorem Nx{k:Nat}{x:Str}{ps:List Str}{sp:Sp}{p pos:Pos}{e:Expr}{es:List Expr}{t:TA}(C:Cal X.prog X.w X.K X.mg X.base k x ps sp)(hr:Room k X.A)(ha:PA X (e::es) t)(hg:Gl X x:=by rfl)
  (hdb:(x==("__debug__":Str))=false:=by decide) (he:starEach (e::es) X.env=(false,eval e X.env)::starEach es X.env:=by rfl) (hpl:(backTo pos<|starEach es X.env).any (·.1)=false:=by rfl) :
  PE X (.Call (.Name x p) (e::es) [] pos) (cY sp [] E0 t):=by
 obtain⟨f,fd,F,hm,hk,hb⟩:=C.ex;exact Cy F hr hg hm hk hb .nil Ix ha hdb he hpl
noncomputable def pK(ds:Scope)(N:List Str)(fr:List Nat)(sc:Scope):Bool :=
 decide (sc.kind=.function)&&(sc.names.all λy=>!decide (y.2=.cell)||decide (sc.names.lookup y.1=some .cell))&&(sc.names.all λy=>!decide (y.2=.local)||decide (sc.names.lookup y.1=some .local)) &&
 (sc.names.all λy=>!decide (y.2=.free)||(decide (ds.names.lookup y.1=some .cell)||decide (ds.names.lookup y.1=some .free))) &&
 (fr.all λi=>match N[i]? with|some x=>decide (sc.names.lookup x=some .free)|none=>false)
theorem SY(h:pK X.env.scope X.N fr sc=true):CompSc X own fr sc:=by
 unfold pK at h;simp only[A2,decide_eq_true_eq,K2,Bool.or_eq_true,Bool.not_eq_true',decide_eq_false_iff_not]at h;obtain⟨⟨⟨⟨h1,h2⟩,h3⟩,h4⟩,h5⟩:=h;refine⟨h1,λy hy e=>?_,λy hy e=>?_,λy hy e=>?_,λi hi=>?_⟩
 .rcases h2 y hy with z|z
  .exact absurd e z
  .exact z
 .rcases h3 y hy with z|z
  .exact absurd e z
  .exact z
 .rcases h4 y hy with z|z
  .exact absurd e z
  .exact z
 .have:=h5 i hi;cases q:X.N[i]? with
  |none=>rw[q]at this;cases this
  |some x=>rw[q]at this;exact⟨x,rfl,of_decide_eq_true this⟩
def RN(J:It)(own:List Str)(fr:List Nat)(g:TG)(tc:TT)(te:TE)(σ:St)(H:Hp)(Q:VK):Prop :=
 ∃W:Nat->Nat->List V->St->Hp->Prop,(∃m,W 0 m [] (Py own σ fr) H)/\∀i m ys τ H,W i m ys τ H ->
   (J.stop i H/\∀D,H D=none->Q (.ref D) (upd H D<|.lst ys)) \/
   (J.go i H/\ys.length<sizeLine/\∃N:List V->St->Hp->Prop,(∀ys' τ' H',N ys' τ' H'->∃m',m'<m/\W (i+1) m' ys' τ' H')/\∀x H',J.yld i H x H'->g x τ H' λτ2 H2=>tc τ2 H2 λb H3=>if b=true then te τ2 H3 λy H4=>N (ys++[y]) τ2 H4 else N ys τ2 H3)
def TY(wi:TI)(own:List Str)(fr:List Nat)(g:TG)(tc:TT)(te:TE):TE:=λσ H Q=>wi σ H λJ H1=>RN J own fr g tc te σ H1 Q
theorem LH{pos:Pos}{own:List Str}{wi:TI}{g:TG}{tc:TT}{te:TE}(hc:X.calm=true)(S:CompSc X own fr sc)(hi:PI X tg iter wi)
  (hg:∀C s H ex,PG (vQ X own fr sc C s H ex) tg g) (hif:∀C s H ex,Kx (vQ X own fr sc C s H ex) ifs tc) (he:∀C s H ex,PE (vQ X own fr sc C s H ex) elt te)
  (hs:∀x,foldedSetIterable iter X.env x=pure x:=by intro _;rfl):PE X (.ListComp elt [⟨tg,iter,ifs,0⟩] sc pos) (TY wi own fr g tc te):=Qy hc S hi hg hif he hs
theorem MH{pos spos py:Pos}{i:Nat}{own:List Str}{wi:TI}{g:TG}{tc:TT}{te:TE}(hN:X.N.Nodup)(hy:X.N[i]?=some y)(hl:X.env.scope.names.lookup y=some .local)(hc:X.calm=true)(S:CompSc X own fr sc)(hi:PI X tg iter wi)
  (hg:∀C s H ex,PG (vQ X own fr sc C s H ex) tg g) (hif:∀C s H ex,Kx (vQ X own fr sc C s H ex) ifs tc) (he:∀C s H ex,PE (vQ X own fr sc C s H ex) elt te)
  (hsw:swapsWith (.ListComp elt [⟨tg,iter,ifs,0⟩] sc pos) (some<|.Name y py) spos.line X.env=pure true:=by rfl)
  (hs:∀x,foldedSetIterable iter X.env x=pure x:=by intro _;rfl):PS X (.Assign [.Name y py] (.ListComp elt [⟨tg,iter,ifs,0⟩] sc pos) spos) (KW (TY wi own fr g tc te)<|eK i):=jF hN hy hl hc S hi hg hif he hsw hs
section
variable {K:G0}
theorem Ox(h:X.K=K):IxR X (Gy K):=by subst h;exact Iy
theorem Vy(h:X.K=K):IxR X (Hy K):=by subst h;exact uI
def SN(K:G0):List V->Hp->VK->Prop:=λxs H Q=>∃(p:Addr) (ys:List V),xs=[.ref p]/\(SqL K H p ys\/SqT K H p ys)/\Q (.int ys.length) H
theorem UY(h:X.K=K):ZQ X (.builtin "len") (SN K):=by subst h;exact TU
def WD(K:G0):List V->Hp->VK->Prop:=λxs H Q=>∃(p:Addr) (ys:List V),xs=[.ref p]/\(SqL K H p ys\/SqT K H p ys)/\∀l,H l=none->Q (.ref l) (upd H l<|.lst ys)
theorem rZ(h:X.K=K):ZQ X (.type "list") (WD K):=by subst h;exact UU
def NH(K:G0):List V->Hp->VK->Prop:=λxs H Q=>∃(p:Addr) (ys:List V),xs=[.ref p]/\((SqL K H p ys/\∀l,H l=none->Q (.ref l) (upd H l<|.tup ys))\/(SqT K H p ys/\Q (.ref p) H))
theorem OH(h:X.K=K):ZQ X (.type "tuple") (NH K):=by subst h;exact WV
theorem Jz(h:X.K=K):ZQ X (.builtin "isinstance") (Gz K):=by subst h;exact JH
theorem lJ(h:X.K=K)(hc:X.calm=true):ZQ X (.builtin "all") (JI K):=by subst h;exact Mx hc
theorem Wy(h:X.K=K)(hu:X.A.units+64<cLine):OpR X (compareOp .Eq) (YV K false):=by subst h;exact LI hu
theorem Xy(h:X.K=K)(hu:X.A.units+64<cLine):OpR X (compareOp .NotEq) (YV K true):=by subst h;exact MI hu
theorem Px{es:List Expr}{kk:Nat}{tpos:Pos}{a b:Expr}{ta:TA}{p pos:Pos}(h:X.K=K)(hg:Gl X "zip")(hm:X.mg "zip"=none)(ha:PA X [a,b] ta)(hs:starEach [a,b] X.env=(false,eval a X.env)::starEach [b] X.env:=by rfl)(hpl:(backTo pos<|starEach [b] X.env).any (·.1)=false:=by rfl) :
  PI X (.Tuple es kk tpos) (.Call (.Name "zip" p) [a,b] [] pos) (UD K ta):=by subst h;exact Uy hg hm ha hs hpl
theorem Yy{es:List Expr}{k:Nat}{t:iy}{pos:Pos}(h:X.K=K)(hc:X.calm=true)(hh:BC X es t)(hn:(assignEach es X.env).length=n:=by rfl)(hst:(assignEach es X.env).findIdx? (·.1)=none:=by rfl):PG X (.Tuple es k pos) (yy K n t):=by subst h;exact bI hc hh hn hst
end
theorem Qx{ws:List Value}(ht:IsTup s.heap t ([]:List Value).toArray)(hb:IsTup s.heap b ws.toArray)(h:Q (.ref b) s):wpAny (model prog w) A (binaryOp .Add (.ref t)<|.ref b) Q E s:=by obtain⟨⟨cls,dd,data,sl⟩,ho,hc,n,hd⟩:=id ht;obtain⟨⟨cls2,dd2,data2,sl2⟩,ho2,hc2,n2,hd2⟩:=id hb;simp only at hc hd hc2 hd2;subst hc hd hc2 hd2;exact concat_meets ⟨_,ho,rfl⟩ ⟨_,ho2,rfl⟩ noFill_tuple_add seq_tuple_add PySem.F.slot_tuple_add PySem.F.entry_tuple_add (PySem.F.args_tuple_add_2 _ _) (tuple_addW0 t b _ ws.toArray n n2 dd dd2 sl sl2 rfl) ⟨ho,ho2,h⟩
noncomputable abbrev kR(a:Addr):HO:=.ext λh=>∃o es ep,h.get? a=some o/\o.ExactDict/\o.data=.dict es ep
noncomputable def hL(k:Qa):Int:=reduceHash<|R7<|k.map hashInt
noncomputable def hB(k:Qa×Qa):Int:=reduceHash<|R7 [hL k.1,hL k.2]
noncomputable abbrev Kz{κ:Type}(hs:κ->Int)(a:Addr)(ep:Nat)(xs:List (κ×Addr×V)):HO:=.ext λh=>(∃vs:List (κ×Addr×Value),Paired (λx v=>x.1=v.1/\x.2.1=v.2.1/\RelV x.2.2 v.2.2) xs vs /\
  ∃o es,h.get? a=some o/\o.ExactDict/\o.data=.dict es ep/\es.toList=vs.map λx=>⟨hs x.1,.ref x.2.1,x.2.2⟩)/\(xs.map (·.1)).Nodup/\xs.length<=sizeLine/\(a==sysModules)=false
noncomputable abbrev xY(a C:Addr):HO:=.ext λh=>∃o vs,h.get? a=some o/\o.cls=.ref C/\o.data=.fields vs
noncomputable abbrev ZJ(f c:Addr)(qual:Str)(ar:Arguments)(body:Expr)(sc:Scope)(cl:List (Str×Addr)):HO:=.ext λh=>∃pm ctv,h.get? f=some (Q5 "<lambda>" qual ar body sc cl pm c ctv)
noncomputable abbrev VX(c:Addr)(o:Obj):HO:=.frz o (.ext λh=>∃o,h.get? c=some o)
def Rx(x:Str)(o:Obj):Prop:=∃vs t,o.data=.fields vs/\vs[1]?=some (.str (x ++ ".<locals>.<lambda>") t)
end L2
namespace L3
open L2
noncomputable abbrev D:=PyData
noncomputable abbrev Fg:=G0
def Sub(F H:Hp):Prop:=∀a o,F a=some o->H a=some o
theorem Sub.refl(H:Hp):Sub H H:=λ_ _ h=>h
theorem Sub.trans{A B:Hp}(h:Sub A B)(k:Sub B C):Sub A C:=λa o e=>k a o<|h a o e
theorem Sub.new{o:HO}(h:F a=none):Sub F (upd F a o):=λb u e=>by rw[iQ<|qQ e h];exact e
theorem Sub.rd{F:Hp}{a:Addr}{u:HO}(s:Sub F H):Rd F a u->Rd H a u
 | .inl h=>.inl<|s _ _ h
 | .inr ⟨o,h⟩=>.inr ⟨o,s _ _ h⟩
theorem Sub.sql{K:Fg}{F:Hp}{a:Addr}{xs:List V}(s:Sub F H):SqL K F a xs->SqL K H a xs
 | .inl h=>.inl<|s.rd h
 | .inr h=>.inr h
noncomputable def DJ:EQ->D
 | .inl i=>.int i
 | .inr x=>.str x
noncomputable abbrev SZ(ns:Qa):D:=.dict [(.none,.list<|ns.map p0)]
noncomputable abbrev Lz(C:Addr):D:=.dict [(.bool true,.int (C:Nat))]
noncomputable abbrev lR:D:=.dict [(.bool false,.none)]
noncomputable abbrev aS(ps:List (Qa×D)):D:=.dict [(.bool false,.list<|ps.map λp=>.tuple [.tuple<|p.1.map p0,p.2])]
noncomputable abbrev bS(ps:List ((Qa×Qa)×D)):D:=.dict [(.bool false,.tuple<|ps.map λp=>.tuple [.tuple [.tuple<|p.1.1.map p0,.tuple<|p.1.2.map p0],p.2])]
noncomputable def Zy:List Stmt->Option (Arguments×Expr×Scope)
 |[]=>none
 |[.Return (some<|.Call _ es _ _) _]=>match es.getLast? with
  |some (.Lambda ar b sc _)=>some (ar,b,sc)
  |_=>none
 |_::r=>Zy r
noncomputable def uU(K:Fg)(x:Str):Option (Arguments×Expr×Scope):=match B1 K mainGlobals x with
 | some (some<|.ref f)=>(match K.lookup f with
   | some ⟨_,_,.func fd,_⟩=>(match fd.body with
     | .stmts b=>Zy b
     |_=>none)
   |_=>none)
 |_=>none
noncomputable abbrev mF(x:Str)(ds:List D):D:=.dict [(.bool true,.list (.str x::ds))]
noncomputable abbrev nW(a:Addr):D:=.dict [(.bool true,.tuple [.int (a:Nat)])]
noncomputable def au(sc:Scope):List Str:=((sc.names.filter λy=>y.2==.free).map (·.1)).reverse
def CelAt(F:Hp)(p:Str×Addr)(v:V):Prop:=∃o u,F p.2=some (VX p.2 o)/\o.data=.cell (some u)/\RelV v u
def LamAt(K:Fg)(F:Hp)(f:Addr)(x:Str)(vs:List V):Prop:=∃(c:Addr) (o:Obj) (ar:Arguments) (body:Expr) (sc:Scope) (cl:List (Str×Addr)),uU K x=some (ar,body,sc) /\
 F f=some (ZJ f c (x ++ ".<locals>.<lambda>") ar body sc cl)/\F c=some (VX c o)/\Rx x o/\cl.map (·.1)=au sc/\(cl.map (·.2)).Nodup/\Paired (CelAt F) cl vs
theorem CelAt.mono(s:Sub F F'){p:Str×Addr}{v:V}:CelAt F p v->CelAt F' p v:=λ⟨o,u,e,h⟩=>⟨o,u,s _ _ e,h⟩
theorem LamAt.mono{K:Fg}(s:Sub F F'){f:Addr}{x:Str}{vs:List V}:LamAt K F f x vs->LamAt K F' f x vs:=λ⟨c,o,ar,body,sc,cl,h1,h2,h3,h4,h0,h5,h6⟩=>⟨c,o,ar,body,sc,cl,h1,s _ _ h2,s _ _ h3,h4,h0,h5,Paired.mapP h6 λ_ _ h=>h.mono s⟩
mutual
inductive Da (K:Fg) (F:Hp):V->D->Prop
 |non:Da K F .non .none
 |bl (b):Da K F (.bl b) (.bool b)
 |int (i):Da K F (.int i) (.int i)
 |str (x):Da K F (.str x) (.str x)
 |lst {a xs ds}:F a=some (.lst xs)->DaAll K F xs ds->Da K F (.ref a) (.list ds)
 |tup {a xs ds}:F a=some (.tup xs)->DaAll K F xs ds->Da K F (.ref a) (.tuple ds)
 |dk {a kvs es}:Rd F a (.dK kvs)->DaKV K F kvs es->Da K F (.ref a) (.dict es)
 |dt {a kvs es}:Rd F a (.dT kvs)->DaKT K F kvs es->Da K F (.ref a) (.dict es)
 |scr {a ns}:SqL K F a (ns.map V.int)->Da K F (.ref a) (SZ ns)
 |exc {a C}:F a=some (xY a C)->Da K F (.ref a) (Lz C)
 |opq {a}:F a=some (kR a)->Da K F (.ref a) lR
 |pd {a a' ep xs ps}:F a=some (Kz hL a' ep xs)->DaPd K F xs ps->Da K F (.ref a) (aS ps)
 |bd {a a' ep xs ps}:F a=some (Kz hB a' ep xs)->DaBd K F xs ps->Da K F (.ref a) (bS ps)
 |lam {f x vs ds}:LamAt K F f x vs->DaAll K F vs ds->Da K F (.ref f) (mF x ds)
 |fn {a:Addr}:Da K F (.ref a) (nW a)
inductive DaAll (K:Fg) (F:Hp):List V->List D->Prop
 |nil:DaAll K F [] []
 |cons {x xs d ds}:Da K F x d->DaAll K F xs ds->DaAll K F (x::xs) (d::ds)
inductive DaKV (K:Fg) (F:Hp):List (EQ×V)->List (D×D)->Prop
 |nil:DaKV K F [] []
 |cons {k v d kvs es}:Da K F v d->DaKV K F kvs es->DaKV K F ((k,v)::kvs) ((DJ k,d)::es)
inductive DaKT (K:Fg) (F:Hp):List (List EQ×V)->List (D×D)->Prop
 |nil:DaKT K F [] []
 |cons {ks v d kvs es}:Da K F v d->DaKT K F kvs es->DaKT K F ((ks,v)::kvs) ((.tuple<|ks.map DJ,d)::es)
inductive DaPd (K:Fg) (F:Hp):List (Qa×Addr×V)->List (Qa×D)->Prop
 |nil:DaPd K F [] []
 |cons {k b v d xs ps}:F b=some (.tup<|k.map V.int)->Da K F v d->DaPd K F xs ps->DaPd K F ((k,b,v)::xs) ((k,d)::ps)
inductive DaBd (K:Fg) (F:Hp):List ((Qa×Qa)×Addr×V)->List ((Qa×Qa)×D)->Prop
 |nil:DaBd K F [] []
 |cons {k b c e v d xs ps}:F b=some (.tup [.ref c,.ref e])->F c=some (.tup<|k.1.map V.int)->F e=some (.tup<|k.2.map V.int)->Da K F v d->DaBd K F xs ps->DaBd K F ((k,b,v)::xs) ((k,d)::ps)
end
section
variable {K:Fg}{F F':Hp}
theorem Da.mono(s:Sub F F'){v:V}{d:D}(h:Da K F v d):Da K F' v d:=by refine Da.rec (motive_1:=λv d _=>Da K F' v d) (motive_2:=λv d _=>DaAll K F' v d) (motive_3:=λv d _=>DaKV K F' v d) (motive_4:=λv d _=>DaKT K F' v d) (motive_5:=λv d _=>DaPd K F' v d) (motive_6:=λv d _=>DaBd K F' v d) .non .bl .int .str (λh _=>.lst<|s _ _ h) (λh _=>.tup<|s _ _ h) (λh _=>.dk<|s.rd h) (λh _=>.dt<|s.rd h) (λh=>.scr<|s.sql h) (λh=>.exc<|s _ _ h) (λh=>.opq<|s _ _ h) (λh _=>.pd<|s _ _ h) (λh _=>.bd<|s _ _ h) (λh _=>.lam<|h.mono s) .fn .nil (λ_ _=>.cons) .nil (λ_ _=>.cons) .nil (λ_ _=>.cons) .nil (λh _ _=>.cons<|s _ _ h) .nil (λh h1 h2 _ _=>.cons (s _ _ h) (s _ _ h1)<|s _ _ h2) h
theorem DaAll.mono(s:Sub F F'){xs:List V}{ps:List D}(h:DaAll K F xs ps):DaAll K F' xs ps:=by refine DaAll.rec (motive_1:=λ_ _ _=>True) (motive_2:=λv d _=>DaAll K F' v d) (motive_3:=λ_ _ _=>True) (motive_4:=λ_ _ _=>True) (motive_5:=λ_ _ _=>True) (motive_6:=λ_ _ _=>True) ?_ ?_ ?_ ?_ ?_ ?_ ?_ ?_ ?_ ?_ ?_ ?_ ?_ ?_ ?_ .nil (λh _ _=>.cons<|h.mono s) ?_ ?_ ?_ ?_ ?_ ?_ ?_ ?_ h<;>intros<;>trivial
theorem DaKV.mono(s:Sub F F'){xs:List (EQ×V)}{ps:List (D×D)}(h:DaKV K F xs ps):DaKV K F' xs ps:=by refine DaKV.rec (motive_1:=λ_ _ _=>True) (motive_2:=λ_ _ _=>True) (motive_3:=λv d _=>DaKV K F' v d) (motive_4:=λ_ _ _=>True) (motive_5:=λ_ _ _=>True) (motive_6:=λ_ _ _=>True) ?_ ?_ ?_ ?_ ?_ ?_ ?_ ?_ ?_ ?_ ?_ ?_ ?_ ?_ ?_ ?_ ?_ .nil (λh _ _=>.cons<|h.mono s) ?_ ?_ ?_ ?_ ?_ ?_ h<;>intros<;>trivial
theorem DaKT.mono(s:Sub F F'){xs:List (List EQ×V)}{ps:List (D×D)}(h:DaKT K F xs ps):DaKT K F' xs ps:=by refine DaKT.rec (motive_1:=λ_ _ _=>True) (motive_2:=λ_ _ _=>True) (motive_3:=λ_ _ _=>True) (motive_4:=λv d _=>DaKT K F' v d) (motive_5:=λ_ _ _=>True) (motive_6:=λ_ _ _=>True) ?_ ?_ ?_ ?_ ?_ ?_ ?_ ?_ ?_ ?_ ?_ ?_ ?_ ?_ ?_ ?_ ?_ ?_ ?_ .nil (λh _ _=>.cons<|h.mono s) ?_ ?_ ?_ ?_ h<;>intros<;>trivial
theorem DaPd.mono(s:Sub F F'){xs:List (Qa×Addr×V)}{ps:List (Qa×D)}(h:DaPd K F xs ps):DaPd K F' xs ps:=by refine DaPd.rec (motive_1:=λ_ _ _=>True) (motive_2:=λ_ _ _=>True) (motive_3:=λ_ _ _=>True) (motive_4:=λ_ _ _=>True) (motive_5:=λv d _=>DaPd K F' v d) (motive_6:=λ_ _ _=>True) ?_ ?_ ?_ ?_ ?_ ?_ ?_ ?_ ?_ ?_ ?_ ?_ ?_ ?_ ?_ ?_ ?_ ?_ ?_ ?_ ?_ .nil (λh v _ _=>.cons (s _ _ h)<|v.mono s) ?_ ?_ h<;>intros<;>trivial
theorem DaBd.mono(s:Sub F F'){xs:List ((Qa×Qa)×Addr×V)}{ps:List ((Qa×Qa)×D)}(h:DaBd K F xs ps):DaBd K F' xs ps:=by refine DaBd.rec (motive_1:=λ_ _ _=>True) (motive_2:=λ_ _ _=>True) (motive_3:=λ_ _ _=>True) (motive_4:=λ_ _ _=>True) (motive_5:=λ_ _ _=>True) (motive_6:=λv d _=>DaBd K F' v d) ?_ ?_ ?_ ?_ ?_ ?_ ?_ ?_ ?_ ?_ ?_ ?_ ?_ ?_ ?_ ?_ ?_ ?_ ?_ ?_ ?_ ?_ ?_ .nil (λh h1 h2 v _ _=>.cons (s _ _ h) (s _ _ h1) (s _ _ h2)<|v.mono s) h<;>intros<;>trivial
theorem DaAll.length:∀{xs:List V}{ds:List D},DaAll K F xs ds->xs.length=ds.length
 |_,_,.nil=>rfl
 |_,_,.cons _ t=>by simp[DaAll.length t]
theorem DaAll.get:∀{xs:List V}{ds:List D}{i:Nat}{d:D},DaAll K F xs ds->ds[i]?=some d->∃v,xs[i]?=some v/\Da K F v d
 |_,_,_,_,.nil,e=>by simp at e
 |_,_,0,_,.cons h _,e=>by simp at e;subst e;exact⟨_,rfl,h⟩
 |_,_,i+1,_,.cons _ t,e=>by obtain⟨v,a,b⟩:=DaAll.get (i:=i) t (by simpa using e);exact⟨v,by simpa using a,b⟩
theorem DaAll.append:∀{xs ys:List V}{ds es:List D},DaAll K F xs ds->DaAll K F ys es->DaAll K F (xs++ys) (ds++es)
 |_,_,_,_,.nil,s=>s
 |_,_,_,_,.cons h t,s=>.cons h<|DaAll.append t s
theorem DaAll.take:∀{xs:List V}{ds:List D} (n:Nat),DaAll K F xs ds->DaAll K F (xs.take n) (ds.take n)
 |_,_,0,_=>.nil
 |_,_,_+1,.nil=>.nil
 |_,_,n+1,.cons h t=>.cons h<|DaAll.take n t
theorem DaAll.drop:∀{xs:List V}{ds:List D} (n:Nat),DaAll K F xs ds->DaAll K F (xs.drop n) (ds.drop n)
 |_,_,0,r=>r
 |_,_,_+1,.nil=>.nil
 |_,_,n+1,.cons _ t=>DaAll.drop n t
theorem DaAll.reverse(h:DaAll K F xs ds):DaAll K F xs.reverse ds.reverse:=by
 induction xs generalizing ds with
 |nil=>cases h;exact .nil
 |cons x xs ih =>
  cases h with
  |cons h t=>rw[U5,U5];exact(ih t).append<|.cons h .nil
theorem DaAll.rep{xs:List V}{ds:List D}(h:DaAll K F xs ds):∀k:Nat,DaAll K F (A0 k xs).flatten (A0 k ds).flatten
 |0=>.nil
 |k+1=>by rw[G2,G2,K4,K4];exact h.append<|DaAll.rep h k
theorem DaAll.ints:∀ns:Qa,DaAll K F (ns.map V.int) (ns.map p0)
 |[]=>.nil
 |n::ns=>.cons (.int n)<|DaAll.ints ns
end
inductive Sl where
 |fz (d:D)|ow (d:D)|io (d:D)
noncomputable def Sl.d:Sl->D
 | .fz d=>d
 | .ow d=>d
 | .io d=>d
noncomputable def YQ:Sl->Bool
 | .fz _=>false
 | .ow _=>true
 | .io _=>true
noncomputable abbrev Ev:=List<|Option Sl
noncomputable def Own1(K:Fg)(F:Hp):HO->D->Prop
 | .lst xs,.list ds=>DaAll K F xs ds
 | .dK kvs,.dict es=>DaKV K F kvs es
 | .dT kvs,.dict es=>DaKT K F kvs es
 | .ext φ,.dict [(.bool false,.list L)]=>∃(a':Addr) (ep:Nat) (xs:List (Qa×Addr×V)) (ps:List (Qa×D)),HO.ext φ=Kz hL a' ep xs/\L=ps.map (λp=>.tuple [.tuple<|p.1.map p0,p.2])/\DaPd K F xs ps
 | .ext φ,.dict [(.bool false,.tuple L)]=>∃(a':Addr) (ep:Nat) (xs:List ((Qa×Qa)×Addr×V)) (ps:List ((Qa×Qa)×D)),HO.ext φ=Kz hB a' ep xs/\L=ps.map (λp=>.tuple [.tuple [.tuple<|p.1.1.map p0,.tuple<|p.1.2.map p0],p.2])/\DaBd K F xs ps
 |_,_=>False
section
variable {K:Fg}{F F':Hp}{o:HO}{d:D}{a:Addr}
theorem Own1.ext(h:Own1 K F (.ext φ) d):(∃(a':Addr) (ep:Nat) (xs:List (Qa×Addr×V)) (ps:List (Qa×D)),HO.ext φ=Kz hL a' ep xs/\d=aS ps/\DaPd K F xs ps) \/ ∃(a':Addr) (ep:Nat) (xs:List ((Qa×Qa)×Addr×V)) (ps:List ((Qa×Qa)×D)),HO.ext φ=Kz hB a' ep xs/\d=bS ps/\DaBd K F xs ps:=by
 unfold Own1 at h;split at h
 .rename_i z;cases z
 .rename_i z;cases z
 .rename_i z;cases z
 .rename_i z;obtain⟨a',ep,xs,ps,e,rfl,t⟩:=h;exact .inl ⟨a',ep,xs,ps,z.trans e,rfl,t⟩
 .rename_i z;obtain⟨a',ep,xs,ps,e,rfl,t⟩:=h;exact .inr ⟨a',ep,xs,ps,z.trans e,rfl,t⟩
 .exact h.elim
theorem Own1.mono(s:Sub F F')(h:Own1 K F o d):Own1 K F' o d:=by
 cases o with
 |ext φ =>
  rcases h.ext with⟨a',ep,xs,ps,e,rfl,t⟩|⟨a',ep,xs,ps,e,rfl,t⟩
  .exact⟨a',ep,xs,ps,e,rfl,t.mono s⟩
  .exact⟨a',ep,xs,ps,e,rfl,t.mono s⟩
 |_=>cases d<;>first|exact DaAll.mono s h|exact DaKV.mono s h|exact DaKT.mono s h|exact h.elim
theorem Own1.da(h:Own1 K F o d)(e:F a=some o):Da K F (.ref a) d:=by
 cases o with
 |ext φ =>
  rcases h.ext with⟨a',ep,xs,ps,z,rfl,t⟩|⟨a',ep,xs,ps,z,rfl,t⟩
  .rw[z]at e;exact .pd e t
  .rw[z]at e;exact .bd e t
 |_=>cases d<;>first|exact .lst e h|exact .dk (.inl e) h|exact .dt (.inl e) h|exact h.elim
end
noncomputable def lamN:List Str:=["all_around","_law_made","_law_settle","exchanged","mirrored","stretched","cut"]
noncomputable def TB(K:Fg):List (Addr×Str):=lamN.filterMap λx=>(F9 K x).map λz=>(z.2,x)
noncomputable def stk:HO->Bool
 | .tbl _=>true
 | .frz _ _=>true
 |_=>false
def TabOk(K:Fg)(F H:Hp):Prop:=∀z∈TB K,F z.1=none/\∃ps,H z.1=some (.tbl ps)/\PySem.TriplesOk ps.toList/\∀pos v,codeAmong pos ps.toList=some v->∃c o,v=.ref c/\H c=some (VX c o)/\Rx z.2 o
theorem TabOk.up{K:Fg}(T:TabOk K F H)(kp:∀a o,stk o=true->H a=some o->H' a=some o)(hF:∀z∈TB K,F' z.1=none):TabOk K F' H':=λz hz=>by obtain⟨_,ps,e,t,q⟩:=T z hz;refine⟨hF z hz,ps,kp _ _ rfl e,t,λpos v ev=>?_⟩;obtain⟨c,o,e1,e2,e3⟩:=q pos v ev;exact⟨c,o,e1,kp _ _ rfl e2,e3⟩
theorem TabOk.put{K:Fg}{o:HO}(T:TabOk K F H)(n:∀u,H a=some u->stk u=false):TabOk K F (upd H a o):=T.up (λb u s e=>by rw[iQ λz=>by subst z;rw[n u e]at s;cases s];exact e) λz hz=>(T z hz).1
theorem TabOk.ne{K:Fg}(T:TabOk K F H)(n:∀u,H a=some u->stk u=false):∀z∈TB K,z.1≠a:=λz hz e=>by obtain⟨_,ps,e1,_⟩:=T z hz;rw[e]at e1;cases n _ e1
theorem TabOk.F{K:Fg}{F:Hp}{o:HO}(T:TabOk K F H)(n:∀u,H a=some u->stk u=false):TabOk K (upd F a o) H:=T.up (λ_ _ _ e=>e) λz hz=>by rw[iQ<|T.ne n z hz];exact(T z hz).1
theorem Own1.stk{K:Fg}{F:Hp}{o:HO}{d:D}(h:Own1 K F o d):stk o=false:=by cases o<;>first|rfl|(cases d<;>exact h.elim)
structure Gh where
 H0:Hp
 F0:Hp
 io:Nat->Option Addr
structure Rel(K:Fg)(G:Gh)(F:Hp)(σ:L2.St)(H:Hp)(ρ:Ev):Prop where
 len:σ.length=ρ.length
 sub:Sub F H
 sub0:Sub G.F0 F
 fn:∀a o,F a=some o->G.F0 a=some o\/G.H0 a=none
 keep:∀a o,G.H0 a=some o->(∀i,G.io i≠some a)->(∀z∈TB K,z.1≠a)->H a=some o
 tb:TabOk K F H
 fz:∀(i:Nat) (d:D),ρ[i]?=some (some<|Sl.fz d)->∃v,σ[i]?=some (some v)/\Da K F v d
 ow:∀(i:Nat) (s:Sl),ρ[i]?=some (some s)->YQ s=true->∃a o,σ[i]?=some (some<|V.ref a)/\F a=none/\H a=some o/\Own1 K F o s.d
 new:∀(i:Nat) (d:D) (a:Addr),ρ[i]?=some (some<|Sl.ow d)->σ[i]?=some (some<|V.ref a)->G.H0 a=none
 io:∀(i:Nat) (a:Addr),G.io i=some a->∃d,ρ[i]?=some (some<|Sl.io d)/\σ[i]?=some (some<|V.ref a)
 ioi:∀(i:Nat) (d:D),ρ[i]?=some (some<|Sl.io d)->∃a,G.io i=some a
 ap:∀(i j:Nat) (s t:Sl) (a:Addr),ρ[i]?=some (some s)->YQ s=true->ρ[j]?=some (some t)->YQ t=true->σ[i]?=some (some<|V.ref a)->σ[j]?=some (some<|V.ref a)->i=j
noncomputable def Res(K:Fg)(G:Gh)(F H:Hp)(σ:L2.St)(ρ:Ev)(v:V):Sl->Prop
 | .fz d=>Da K F v d
 | .ow d=>∃a o,v=.ref a/\F a=none/\H a=some o/\Own1 K F o d/\G.H0 a=none/\∀(i:Nat) (s:Sl),ρ[i]?=some (some s)->YQ s=true->σ[i]?≠some (some<|V.ref a)
 | .io _=>False
section
variable {K:Fg}{G:Gh}{F F':Hp}{σ:L2.St}{ρ:Ev}{a:Addr}{o:HO}{d:D}{v:V}{s:Sl}
theorem Rel.bound(R:Rel K G F σ H ρ){i:Nat}(h:ρ[i]?=some (some s)):∃v,σ[i]?=some (some v):=by
 cases s with
 |fz d=>obtain⟨v,e,_⟩:=R.fz i d h;exact⟨v,e⟩
 |ow d=>obtain⟨a,o,e,_⟩:=R.ow i _ h rfl;exact⟨_,e⟩
 |io d=>obtain⟨a,o,e,_⟩:=R.ow i _ h rfl;exact⟨_,e⟩
theorem Rel.h0(R:Rel K G F σ H ρ)(h:H a=none):G.H0 a=none:=by
 cases e:G.H0 a with
 |none=>rfl
 |some o =>
  by_cases q:∃i,G.io i=some a
  .obtain⟨i,q⟩:=q;obtain⟨d,h1,h2⟩:=R.io i a q;obtain⟨a',o',h3,_,h4,_⟩:=R.ow i _ h1 rfl;rw[h2]at h3;cases h3;rw[h]at h4;cases h4
  .have:=R.keep a o e (λi z=>q ⟨i,z⟩) (R.tb.ne λu z=>by rw[h]at z;cases z);rw[h]at this;cases this
theorem Rel.f0(R:Rel K G F σ H ρ)(h:H a=none):F a=none:=by
 cases e:F a with
 |none=>rfl
 |some o=>rw[R.sub a o e]at h;cases h
theorem Rel.laid(R:Rel K G F σ H ρ)(h:H a=none):Rel K G F σ (upd H a o) ρ where
 len:=R.len
 sub:=λb u e=>by rw[iQ<|qQ (R.sub b u e) h];exact R.sub b u e
 sub0:=R.sub0
 fn:=R.fn
 keep:=λb u e n t=>by rw[iQ<|qQ (R.keep b u e n t) h];exact R.keep b u e n t
 tb:=R.tb.put λu z=>by rw[h]at z;cases z
 fz:=R.fz
 ow:=λi s e w=>by obtain⟨a',o',h1,h2,h3,h4⟩:=R.ow i s e w;exact⟨a',o',h1,h2,by rw[iQ<|qQ h3 h];exact h3,h4⟩
 new:=R.new
 io:=R.io
 ioi:=R.ioi
 ap:=R.ap
theorem Rel.grow(R:Rel K G F σ H ρ)(h0:G.H0 a=none)(h:H a=some o)(hn:∀(i:Nat) (s:Sl),ρ[i]?=some (some s)->YQ s=true->σ[i]?≠some (some<|V.ref a))(hk:stk o=false:=by rfl):Sub F (upd F a o)/\Rel K G (upd F a o) σ H ρ:=by
 have sb:Sub F (upd F a o):=λb u e=>by
  by_cases z:b=a
  .subst z;rw[uQ,<-h];exact R.sub _ _ e
  .rw[iQ z];exact e
 refine⟨sb,R.len,λb u e=>?_,R.sub0.trans sb,λb u e=>?_,R.keep,R.tb.F λu z=>by rw[h]at z;cases z;exact hk,λi d e=>?_,λi s e w=>?_,R.new,R.io,R.ioi,R.ap⟩
 .by_cases z:b=a
  .subst z;rw[uQ]at e;rw[h];exact e
  .rw[iQ z]at e;exact R.sub _ _ e
 .by_cases z:b=a
  .subst z;exact .inr h0
  .rw[iQ z]at e;exact R.fn _ _ e
 .obtain⟨v,h1,h2⟩:=R.fz i d e;exact⟨v,h1,h2.mono sb⟩
 .obtain⟨a',o',h1,h2,h3,h4⟩:=R.ow i s e w;have z:a'≠a:=λz=>hn i s e w (by rw[h1,z]);exact⟨a',o',h1,by rw[iQ z];exact h2,h3,h4.mono sb⟩
theorem Res.frz(R:Rel K G F σ H ρ)(r:Res K G F H σ ρ v s):∃F',Sub F F'/\Rel K G F' σ H ρ/\Da K F' v s.d:=by
 cases s with
 |fz d=>exact⟨F,Sub.refl _,R,r⟩
 |ow d=>obtain⟨a,o,rfl,h1,h2,h3,h4,h5⟩:=r;obtain⟨sb,R'⟩:=R.grow h4 h2 h5 h3.stk;exact⟨_,sb,R',(h3.mono sb).da uQ⟩
 |io d=>exact r.elim
theorem Rel.newOw(R:Rel K G F σ H ρ)(h:H a=none)(w:Own1 K F o d):Rel K G F σ (upd H a o) ρ/\Res K G F (upd H a o) σ ρ (.ref a) (.ow d):=by refine⟨R.laid h,a,o,rfl,R.f0 h,uQ,w,R.h0 h,λi s e w z=>?_⟩;obtain⟨a',o',h1,h2,h3,h4⟩:=R.ow i s e w;rw[z]at h1;cases h1;rw[h]at h3;cases h3
theorem Rel.newTup(R:Rel K G F σ H ρ){xs:List V}{ds:List D}(h:H a=none)(w:DaAll K F xs ds):Sub F (upd F a<|.tup xs)/\Rel K G (upd F a<|.tup xs) σ (upd H a<|.tup xs) ρ/\Da K (upd F a<|.tup xs) (.ref a) (.tuple ds):=by
 have R1:Rel K G F σ (upd H a<|.tup xs) ρ:=R.laid h;obtain⟨sb,R2⟩:=R1.grow (a:=a) (o:=.tup xs) (R.h0 h) uQ λi s e w z=>by obtain⟨a',o',h1,h2,h3,h4⟩:=R.ow i s e w;rw[z]at h1;cases h1;rw[h]at h3;cases h3
 exact⟨sb,R2,.tup uQ<|w.mono sb⟩
noncomputable def Sl.put:Sl->D->Sl
 | .fz _,d=>.fz d
 | .ow _,d=>.ow d
 | .io _,d=>.io d
theorem tQ{l:List α}{x y:α}(h:(l.set i x)[j]?=some y):(j=i/\y=x)\/(j≠i/\l[j]?=some y):=by
 by_cases z:i=j
 .subst z;rw[V5]at h;simp at h;exact .inl ⟨rfl,h.2.symm⟩
 .rw[Z0 z]at h;exact .inr ⟨λq=>z q.symm,h⟩
theorem EJ{l:List α}{x:α}(h:i<l.length):(l.set i x)[i]?=some x:=by simp[h]
theorem sX{l:List α}{x:α}(h:l[i]?=some x):i<l.length:=(Q1.mp h).1
theorem Rel.change(R:Rel K G F σ H ρ){i:Nat}{o':HO}{d':D}(h:ρ[i]?=some (some s))(w:YQ s=true)(ha:σ[i]?=some (some<|V.ref a))(q:Own1 K F o' d'):Rel K G F σ (upd H a o') (ρ.set i<|some<|s.put d'):=by
 obtain⟨a0,o0,h1,h2,h3,h4⟩:=R.ow i s h w;rw[ha]at h1;cases h1;have sw:YQ (s.put d')=true:=by cases s<;>first|rfl|cases w
 have hl:=sX h;refine⟨by rw[v5];exact R.len,λb u e=>?_,R.sub0,R.fn,λb u e n t=>?_,R.tb.put λu z=>by rw[h3]at z;cases z;exact h4.stk,λj d e=>?_,λj t e wt=>?_,λj d b e eb=>?_,λj b e=>?_,λj d e=>?_,λj k t u b e1 w1 e2 w2 e3 e4=>?_⟩
 .have z:b≠a:=λz=>by subst z;rw[h2]at e;cases e
  rw[iQ z];exact R.sub _ _ e
 .by_cases z:b=a
  .subst z;cases s with
   |fz d=>cases w
   |ow d=>rw[R.new i d b h ha]at e;cases e
   |io d=>obtain⟨a',e'⟩:=R.ioi i d h;obtain⟨d',_,e2⟩:=R.io i a' e';rw[ha]at e2;cases e2;exact absurd e'<|n i
  .rw[iQ z];exact R.keep _ _ e n t
 .rcases tQ e with⟨rfl,z⟩|⟨n,z⟩
  .cases s<;>simp[Sl.put,YQ]at z w
  .exact R.fz j d z
 .rcases tQ e with⟨rfl,z⟩|⟨n,z⟩
  .cases z;exact⟨a,o',ha,h2,uQ,by cases s<;>first|exact q|cases w⟩
  .obtain⟨b,u,g1,g2,g3,g4⟩:=R.ow j t z wt;have nb:b≠a:=λx=>n<|R.ap j i t s a z wt h w (by rw[g1,x]) ha;exact⟨b,u,g1,g2,by rw[iQ nb];exact g3,g4⟩
 .rcases tQ e with⟨rfl,z⟩|⟨n,z⟩
  .cases s with
   |fz d=>cases w
   |ow d0=>exact R.new j d0 b h eb
   |io d=>cases z
  .exact R.new j d b z eb
 .obtain⟨d,e1,e2⟩:=R.io j b e;by_cases z:j=i
  .subst z;rw[h]at e1;cases e1;exact⟨d',by rw[EJ hl];rfl,e2⟩
  .exact⟨d,by rw[Z0<|S2 z];exact e1,e2⟩
 .rcases tQ e with⟨rfl,z⟩|⟨n,z⟩
  .cases s with
   |fz d=>cases w
   |ow d0=>cases z
   |io d0=>exact R.ioi j d0 h
  .exact R.ioi j d z
 .have f:∀(j:Nat) (t:Sl),(ρ.set i<|some<|s.put d')[j]?=some (some t)->YQ t=true->∃t',ρ[j]?=some (some t')/\YQ t'=true:=λj t e wt=>by
   rcases tQ e with⟨rfl,z⟩|⟨n,z⟩
   .exact⟨s,h,w⟩
   .exact⟨t,z,wt⟩
  obtain⟨t',e1',w1'⟩:=f j t e1 w1;obtain⟨u',e2',w2'⟩:=f k u e2 w2;exact R.ap j k t' u' b e1' w1' e2' w2' e3 e4
theorem Rel.forget(R:Rel K G F σ H ρ){i:Nat}(h:ρ[i]?=some (some<|Sl.ow d)):Rel K G F σ H (ρ.set i none):=by
 refine⟨by rw[v5];exact R.len,R.sub,R.sub0,R.fn,R.keep,R.tb,λj d e=>?_,λj t e wt=>?_,λj d b e eb=>?_,λj b e=>?_,λj d e=>?_,λj k t u b e1 w1 e2 w2 e3 e4=>?_⟩
 .rcases tQ e with⟨rfl,z⟩|⟨n,z⟩
  .cases z
  .exact R.fz j d z
 .rcases tQ e with⟨rfl,z⟩|⟨n,z⟩
  .cases z
  .exact R.ow j t z wt
 .rcases tQ e with⟨rfl,z⟩|⟨n,z⟩
  .cases z
  .exact R.new j d b z eb
 .obtain⟨d',e1,e2⟩:=R.io j b e;have n:i≠j:=λz=>by subst z;rw[h]at e1;cases e1
  exact⟨d',by rw[Z0 n];exact e1,e2⟩
 .rcases tQ e with⟨rfl,z⟩|⟨n,z⟩
  .cases z
  .exact R.ioi j d z
 .rcases tQ e1 with⟨rfl,z⟩|⟨n,z⟩
  .cases z
  .rcases tQ e2 with⟨rfl,z'⟩|⟨n',z'⟩
   .cases z'
   .exact R.ap j k t u b z w1 z' w2 e3 e4
theorem Rel.freeze(R:Rel K G F σ H ρ){i:Nat}(h:ρ[i]?=some (some<|Sl.ow d)):∃F' v,Sub F F'/\Rel K G F' σ H (ρ.set i<|some<|Sl.fz d)/\σ[i]?=some (some v)/\Da K F' v d:=by
 obtain⟨a,o,h1,h2,h3,h4⟩:=R.ow i _ h rfl;have hl:=sX h;have R1:=R.forget h;have hn:∀(j:Nat) (s:Sl),(ρ.set i none)[j]?=some (some s)->YQ s=true->σ[j]?≠some (some<|V.ref a):=λj s e w z=>by
  rcases tQ e with⟨rfl,q⟩|⟨n,q⟩
  .cases q
  .exact n (R.ap j i s _ a q w h rfl z h1)
 obtain⟨sb,R2⟩:=R1.grow (R.new i d a h h1) h3 hn h4.stk;have dd:Da K (upd F a o) (.ref a) d:=(h4.mono sb).da uQ;refine⟨_,_,sb,?_,h1,dd⟩;refine⟨by rw[v5];exact R.len,R2.sub,R2.sub0,R2.fn,R2.keep,R2.tb,λj d' e=>?_,λj t e wt=>?_,λj d b e eb=>?_,λj b e=>?_,λj d e=>?_,λj k t u b e1 w1 e2 w2 e3 e4=>?_⟩
 .rcases tQ e with⟨rfl,z⟩|⟨n,z⟩
  .cases z;exact⟨_,h1,dd⟩
  .exact R2.fz j d' (by rw[Z0<|S2 n];exact z)
 .rcases tQ e with⟨rfl,z⟩|⟨n,z⟩
  .cases z;cases wt
  .exact R2.ow j t (by rw[Z0<|S2 n];exact z) wt
 .rcases tQ e with⟨rfl,z⟩|⟨n,z⟩
  .cases z
  .exact R.new j d b z eb
 .obtain⟨d',e1,e2⟩:=R.io j b e;have n:i≠j:=λz=>by subst z;rw[h]at e1;cases e1
  exact⟨d',by rw[Z0 n];exact e1,e2⟩
 .rcases tQ e with⟨rfl,z⟩|⟨n,z⟩
  .cases z
  .exact R.ioi j d z
 .rcases tQ e1 with⟨rfl,z⟩|⟨n,z⟩
  .cases z;cases w1
  .rcases tQ e2 with⟨rfl,z'⟩|⟨n',z'⟩
   .cases z';cases w2
   .exact R.ap j k t u b z w1 z' w2 e3 e4
theorem Rel.forgetRes(R:Rel K G F σ H ρ){i:Nat}(h:ρ[i]?=some (some<|Sl.ow d)):∃v,σ[i]?=some (some v)/\Res K G F H σ (ρ.set i none) v (.ow d):=by
 obtain⟨a,o,h1,h2,h3,h4⟩:=R.ow i _ h rfl;refine⟨_,h1,a,o,rfl,h2,h3,h4,R.new i d a h h1,λj s e w z=>?_⟩;rcases tQ e with⟨rfl,q⟩|⟨n,q⟩
 .cases q
 .exact n (R.ap j i s _ a q w h rfl z h1)
def Mz(ρ:Ev)(i:Nat):Prop:=match ρ[i]? with
 |some (some<|Sl.io _)=>False
 |some _=>True
 |none=>False
theorem Rel.asg(R:Rel K G F σ H ρ){i:Nat}(hi:Mz ρ i)(r:Res K G F H σ ρ v s):Rel K G F (σ.set i<|some v) H (ρ.set i<|some s):=by
 have hl:i<ρ.length:=by
  cases e:ρ[i]? with
  |none=>unfold Mz at hi;rw[e]at hi;exact hi.elim
  |some x=>exact sX e
 have hl':i<σ.length:=by rw[R.len];exact hl
 have ni:∀d,ρ[i]?≠some (some<|Sl.io d):=λd e=>by unfold Mz at hi;rw[e]at hi;exact hi
 refine⟨by rw[v5,v5];exact R.len,R.sub,R.sub0,R.fn,R.keep,R.tb,λj d e=>?_,λj t e wt=>?_,λj d b e eb=>?_,λj b e=>?_,λj d e=>?_,λj k t u b e1 w1 e2 w2 e3 e4=>?_⟩
 .rcases tQ e with⟨rfl,z⟩|⟨n,z⟩
  .cases z;exact⟨v,EJ hl',r⟩
  .rw[Z0<|S2 n];exact R.fz j d z
 .rcases tQ e with⟨rfl,z⟩|⟨n,z⟩
  .cases z;cases s with
   |fz d=>cases wt
   |ow d=>obtain⟨a,o,rfl,h1,h2,h3,_⟩:=r;exact⟨a,o,EJ hl',h1,h2,h3⟩
   |io d=>exact r.elim
  .rw[Z0<|S2 n];exact R.ow j t z wt
 .rcases tQ e with⟨rfl,z⟩|⟨n,z⟩
  .cases z;obtain⟨a,o,rfl,h1,h2,h3,h4,_⟩:=r;rw[EJ hl']at eb;cases eb;exact h4
  .rw[Z0<|S2 n]at eb;exact R.new j d b z eb
 .obtain⟨d,e1,e2⟩:=R.io j b e;have n:i≠j:=λz=>by subst z;exact ni d e1
  exact⟨d,by rw[Z0 n];exact e1,by rw[Z0 n];exact e2⟩
 .rcases tQ e with⟨rfl,z⟩|⟨n,z⟩
  .cases z;exact r.elim
  .exact R.ioi j d z
 .have own:∀(j:Nat) (t:Sl),j≠i->ρ[j]?=some (some t)->YQ t=true->(σ.set i<|some v)[j]?=some (some<|V.ref b)->s.d=s.d->YQ s=true->v=.ref b->False:=λj t n e w eb _ ws ev=>by
   subst ev;cases s with
   |fz d=>cases ws
   |io d=>exact r
   |ow d=>obtain⟨a,o,z,h1,h2,h3,h4,h5⟩:=r;cases z;rw[Z0<|S2 n]at eb;exact h5 j t e w eb
  rcases tQ e1 with⟨rfl,z⟩|⟨n,z⟩
  .rcases tQ e2 with⟨rfl,z'⟩|⟨n',z'⟩
   .rfl
   .rw[EJ hl']at e3;cases e3;cases z;exact(own k u n' z' w2 e4 rfl w1 rfl).elim
  .rcases tQ e2 with⟨rfl,z'⟩|⟨n',z'⟩
   .rw[EJ hl']at e4;cases e4;cases z';exact(own j t n z w1 e3 rfl w2 rfl).elim
   .rw[Z0<|S2 n]at e3;rw[Z0<|S2 n']at e4;exact R.ap j k t u b z w1 z' w2 e3 e4
end
noncomputable abbrev TD:=Ev->(Sl->Ev->Prop)->Prop
noncomputable abbrev jY:=Ev->(Bool->Ev->Prop)->Prop
noncomputable abbrev vU:=Sum Nat D
noncomputable abbrev AD:=Sum Nat TD
def lift(K:Fg)(td:TD):TE:=λσ H Q=>∃(G:Gh) (F:Hp) (ρ:Ev) (Qd:Sl->Ev->Prop),Rel K G F σ H ρ/\td ρ Qd /\
 ∀v H' F' r ρ',Sub F F'->Rel K G F' σ H' ρ'->Res K G F' H' σ ρ' v r->Qd r ρ'->Q v H'
def xQ(K:Fg)(tc:jY):TT:=λσ H Q=>∃(G:Gh) (F:Hp) (ρ:Ev) (Qd:Bool->Ev->Prop),Rel K G F σ H ρ/\tc ρ Qd /\
 ∀b H' F' ρ',Sub F F'->Rel K G F' σ H' ρ'->Qd b ρ'->Q b H'
noncomputable def kQ(K:Fg):AD->TE
 | .inl i=>uJ i
 | .inr td=>lift K td
noncomputable def rQ:List TE->TA
 |[]=>wz
 |t::ts=>MW t<|rQ ts
theorem MK{K:Fg}{Q:VK}(m:∀v H,Q v H->Q' v H)(h:kQ K a σ H Q):kQ K a σ H Q':=by
 cases a with
 |inl i=>obtain⟨v,e,q⟩:=h;exact⟨v,e,m _ _ q⟩
 |inr td=>obtain⟨G,F,ρ,Qd,R,w,k⟩:=h;exact⟨G,F,ρ,Qd,R,w,λv H' F' r ρ' s R' r' q=>m _ _<|k v H' F' r ρ' s R' r' q⟩
theorem PH{K:Fg}(h:rQ ([a].map (kQ K)) σ H λvs H2=>∃x,vs=[x]/\P x H2):kQ K a σ H P:=MK (λv H q=>by obtain⟨x,e,q⟩:=q;cases e;exact q) h
theorem QH{K:Fg}{P:V->V->Hp->Prop}(h:rQ ([a,b].map (kQ K)) σ H λvs H2=>∃x y,vs=[x,y]/\P x y H2):kQ K a σ H λx H1=>kQ K b σ H1 λy H2=>P x y H2:=MK (λv H q=>MK (λu H q=>by obtain⟨x,y,e,q⟩:=q;cases e;exact q) q) h
def bu(i:Nat):TD:=λρ Q=>match ρ[i]? with
 |some (some<|.fz d)=>Q (.fz d) ρ
 |some (some<|.ow d)=>Q (.fz d)<|ρ.set i<|some<|.fz d
 |_=>False
def dC(d:D):TD:=λρ Q=>Q (.fz d) ρ
section
variable {K:Fg}{σ:L2.St}{Q:VK}
theorem TN(h:lift K (bu i) σ H Q):uJ i σ H Q:=by
 obtain⟨G,F,ρ,Qd,R,w,k⟩:=h;unfold bu at w;split at w
 .rename_i d e;obtain⟨v,e1,h1⟩:=R.fz i d e;exact⟨v,e1,k v H F (.fz d) ρ (Sub.refl _) R h1 w⟩
 .rename_i d e;obtain⟨F',v,sb,R',e1,h1⟩:=R.freeze e;exact⟨v,e1,k v H F' (.fz d) _ sb R' h1 w⟩
 .exact w.elim
theorem cS(hv:∀F,Da K F v d)(h:lift K (dC d) σ H Q):tC v σ H Q:=by obtain⟨G,F,ρ,Qd,R,w,k⟩:=h;exact k v H F (.fz d) ρ (Sub.refl _) R (hv F) w
end
noncomputable def UN(K:Fg)(F:Hp)(σ:L2.St)(v:V):vU->Prop
 | .inl i=>σ[i]?=some (some v)
 | .inr d=>Da K F v d
inductive OpdsAt (K:Fg) (F:Hp) (σ:L2.St):List V->List vU->Prop
 |nil:OpdsAt K F σ [] []
 |cons {v x vs xs}:UN K F σ v x->OpdsAt K F σ vs xs->OpdsAt K F σ (v::vs) (x::xs)
noncomputable def JX:List AD->Ev->(List vU->Ev->Prop)->Prop
 |[],ρ,Q=>Q [] ρ
 | .inl i::as,ρ,Q=>match ρ[i]? with
  |some (some _)=>JX as ρ λxs ρ'=>Q (.inl i::xs) ρ'
  |_=>False
 | .inr td::as,ρ,Q=>td ρ λr ρ1=>JX as ρ1 λxs ρ2=>Q (.inr r.d::xs) ρ2
theorem qK{K:Fg}{G:Gh}{σ:L2.St}:∀{as:List AD}{F H:Hp}{ρ:Ev}{Qd:List vU->Ev->Prop}{Qv:List V->Hp->Prop},Rel K G F σ H ρ->JX as ρ Qd -> (∀vs H' F' xs ρ',Sub F F'->Rel K G F' σ H' ρ'->OpdsAt K F' σ vs xs->vs.length=as.length->Qd xs ρ'->Qv vs H')->rQ (as.map<|kQ K) σ H Qv
 |[],F,H,ρ,Qd,Qv,R,w,k=>k [] H F [] ρ (Sub.refl _) R .nil rfl w
 | .inl i::as,F,H,ρ,Qd,Qv,R,w,k=>by
  unfold JX at w;split at w
  .rename_i s e;obtain⟨v,ev⟩:=R.bound e;refine⟨v,ev,qK (as:=as) R w λvs H' F' xs ρ' sb R' o hl q=>?_⟩;exact k (v::vs) H' F' (.inl i::xs) ρ' sb R' (.cons ev o) (by simp[hl]) q
  .exact w.elim
 | .inr td::as,F,H,ρ,Qd,Qv,R,w,k=>by refine⟨G,F,ρ,_,R,w,λv H1 F1 r ρ1 s1 R1 r1 w1=>?_⟩;obtain⟨F2,s2,R2,d2⟩:=r1.frz R1;refine qK (as:=as) R2 w1 λvs H' F' xs ρ' sb R' o hl q=>?_;exact k (v::vs) H' F' (.inr r.d::xs) ρ' (s1.trans<|s2.trans sb) R' (.cons (d2.mono sb) o) (by simp[hl]) q
theorem wX{K:Fg}(R:Rel K G F σ H ρ)(w:JX as ρ Qd)(k:∀vs H' F' xs ρ',Sub F F'->Rel K G F' σ H' ρ'->OpdsAt K F' σ vs xs->Qd xs ρ'->Qv vs H'):rQ (as.map<|kQ K) σ H Qv:=qK R w λvs H' F' xs ρ' s R' o _ q=>k vs H' F' xs ρ' s R' o q
def At(K:Fg)(F H:Hp)(v:V)(d:D):Prop:=Da K F v d\/∃a o,v=.ref a/\F a=none/\H a=some o/\Own1 K F o d
inductive AtAll (K:Fg) (F H:Hp):List V->List D->Prop
 |nil:AtAll K F H [] []
 |cons {v d vs ds}:At K F H v d->AtAll K F H vs ds->AtAll K F H (v::vs) (d::ds)
noncomputable def look(ρ:Ev):vU->Option D
 | .inl i=>match ρ[i]? with
  |some (some s)=>some s.d
  |_=>none
 | .inr d=>some d
noncomputable def TQ(ρ:Ev):List vU->(List D->Prop)->Prop
 |[],k=>k []
 | .inr d::xs,k=>TQ ρ xs λds=>k (d::ds)
 | .inl i::xs,k=>match ρ[i]? with
  |some (some s)=>TQ ρ xs λds=>k (s.d::ds)
  |_=>False
section
variable {K:Fg}{G:Gh}{F:Hp}{σ:L2.St}{ρ:Ev}
theorem Rel.at(R:Rel K G F σ H ρ){i:Nat}{s:Sl}{v:V}(e:ρ[i]?=some (some s))(ev:σ[i]?=some (some v)):At K F H v s.d:=by
 cases s with
 |fz d=>obtain⟨v',e1,h1⟩:=R.fz i d e;rw[ev]at e1;cases e1;exact .inl h1
 |ow d=>obtain⟨a,o,h1,h2,h3,h4⟩:=R.ow i _ e rfl;rw[ev]at h1;cases h1;exact .inr ⟨a,o,rfl,h2,h3,h4⟩
 |io d=>obtain⟨a,o,h1,h2,h3,h4⟩:=R.ow i _ e rfl;rw[ev]at h1;cases h1;exact .inr ⟨a,o,rfl,h2,h3,h4⟩
theorem mJ(R:Rel K G F σ H ρ){xs:List vU}{vs:List V}{k:List D->Prop}(o:OpdsAt K F σ vs xs)(h:TQ ρ xs k):∃ds,AtAll K F H vs ds/\k ds:=by
 induction o generalizing k with
 |nil=>exact⟨[],.nil,h⟩
 |@cons v x vs xs o t ih =>
  cases x with
  |inr d=>obtain⟨ds,a,q⟩:=ih (k:=λds=>k (d::ds)) h;exact⟨d::ds,.cons (.inl o) a,q⟩
  |inl i =>
   unfold TQ at h;split at h
   .rename_i s e;obtain⟨ds,a,q⟩:=ih (k:=λds=>k (s.d::ds)) h;exact⟨s.d::ds,.cons (R.at e o) a,q⟩
   .exact h.elim
end
def FJ(as:List AD)(f:List D->(Sl->Prop)->Prop):TD:=λρ Q=>JX as ρ λxs ρ1=>TQ ρ1 xs λds=>f ds λr=>Q r ρ1
def OQ(K:Fg)(r:List V->Hp->VK->Prop)(f:List D->(Sl->Prop)->Prop):Prop :=
 ∀(G:Gh) (F:Hp) (σ:L2.St) (H:Hp) (ρ:Ev) (vs:List V) (ds:List D) (Q:VK) (Qd:Sl->Prop),Rel K G F σ H ρ->AtAll K F H vs ds->f ds Qd ->
  (∀v H' F' s,Sub F F'->Rel K G F' σ H' ρ->Res K G F' H' σ ρ v s->Qd s->Q v H')->r vs H Q
theorem rK{K:Fg}{r:List V->Hp->VK->Prop}(ok:OQ K r f){σ:L2.St}{H:Hp}{Q:VK}(h:lift K (FJ as f) σ H Q):rQ (as.map<|kQ K) σ H λvs H1=>r vs H1 Q:=by obtain⟨G,F,ρ,Qd,R,w,k⟩:=h;refine wX R w λvs H' F' xs ρ' sb R' o q=>?_;obtain⟨ds,ha,q⟩:=mJ R' o q;exact ok G F' σ H' ρ' vs ds Q _ R' ha q λv H2 F2 s s2 R2 r2 q2=>k v H2 F2 s ρ' (sb.trans s2) R2 r2 q2
noncomputable def o1(f:D->(Sl->Prop)->Prop):List D->(Sl->Prop)->Prop
 |[x],Q=>f x Q
 |_,_=>False
noncomputable def o2(f:D->D->(Sl->Prop)->Prop):List D->(Sl->Prop)->Prop
 |[x,y],Q=>f x y Q
 |_,_=>False
noncomputable def o3(f:D->D->D->(Sl->Prop)->Prop):List D->(Sl->Prop)->Prop
 |[x,y,z],Q=>f x y z Q
 |_,_=>False
noncomputable def RH(td:TD):jY:=λρ Q=>td ρ λr ρ'=>match r with
 | .fz (.bool b)=>Q b ρ'
 |_=>False
noncomputable def NI(c:jY):jY:=λρ Q=>c ρ λb ρ'=>Q (!b) ρ'
noncomputable def OI(c e:jY):jY:=λρ Q=>c ρ λb ρ'=>if b=true then e ρ' Q else Q false ρ'
noncomputable def mR(c e:jY):jY:=λρ Q=>c ρ λb ρ'=>if b=true then Q true ρ' else e ρ' Q
noncomputable def SH:jY:=λρ Q=>Q true ρ
section
variable {K:Fg}{σ:L2.St}
theorem MC(ht:∀{σ H Q},lift K td σ H Q->t σ H Q){Q:Bool->Hp->Prop}(h:xQ K (RH td) σ H Q):mx t σ H Q:=by
 obtain⟨G,F,ρ,Qd,R,w,k⟩:=h;refine ht ⟨G,F,ρ,_,R,w,λv H' F' r ρ' sb R' r' q=>?_⟩;split at q
 .rename_i b;cases r';exact⟨b,rfl,k b H' F' ρ' sb R' q⟩
 .exact q.elim
theorem VN{Q:Bool->Hp->Prop}(h:xQ K (NI c) σ H Q):RE (xQ K c) σ H Q:=by obtain⟨G,F,ρ,Qd,R,w,k⟩:=h;exact⟨G,F,ρ,_,R,w,λb H' F' ρ' sb R' q=>k (!b) H' F' ρ' sb R' q⟩
theorem WN{Q:Bool->Hp->Prop}(h:xQ K (OI c e) σ H Q):QE (xQ K c) (xQ K e) σ H Q:=by
 obtain⟨G,F,ρ,Qd,R,w,k⟩:=h;refine⟨G,F,ρ,_,R,w,λb H' F' ρ' sb R' q=>?_⟩;cases b with
 |true=>exact⟨G,F',ρ',Qd,R',q,λb H2 F2 ρ2 s2 R2 q2=>k b H2 F2 ρ2 (sb.trans s2) R2 q2⟩
 |false=>exact k false H' F' ρ' sb R' q
theorem nR{Q:Bool->Hp->Prop}(h:xQ K (mR c e) σ H Q):aR (xQ K c) (xQ K e) σ H Q:=by
 obtain⟨G,F,ρ,Qd,R,w,k⟩:=h;refine⟨G,F,ρ,_,R,w,λb H' F' ρ' sb R' q=>?_⟩;cases b with
 |true=>exact k true H' F' ρ' sb R' q
 |false=>exact⟨G,F',ρ',Qd,R',q,λb H2 F2 ρ2 s2 R2 q2=>k b H2 F2 ρ2 (sb.trans s2) R2 q2⟩
theorem XN{Q:Bool->Hp->Prop}(h:xQ K SH σ H Q):QN σ H Q:=by obtain⟨G,F,ρ,Qd,R,w,k⟩:=h;exact k true H F ρ (Sub.refl _) R w
end
def Sx(a b:TD):TD:=λρ Q=>a ρ λr ρ'=>match r with
 | .fz (.bool c)=>if c=true then b ρ' Q else Q (.fz<|.bool false) ρ'
 |_=>False
def Ux(a:TD):TD:=λρ Q=>a ρ λr ρ'=>match r with
 | .fz (.bool c)=>Q (.fz<|.bool<|!c) ρ'
 |_=>False
section
variable {K:Fg}{σ:L2.St}{Q:VK}{a b:TD}{c:jY}
theorem QI(h:lift K (Sx a b) σ H Q):Uj (lift K a) (lift K b) σ H Q:=by
 obtain⟨G,F,ρ,Qd,R,w,k⟩:=h;refine⟨G,F,ρ,_,R,w,λv H' F' r ρ' sb R' r' q=>?_⟩;split at q
 .rename_i c;cases r';refine⟨c,rfl,?_⟩;cases c with
  |true=>exact⟨G,F',ρ',Qd,R',q,λv H2 F2 r ρ2 s2 R2 r2 q2=>k v H2 F2 r ρ2 (sb.trans s2) R2 r2 q2⟩
  |false=>exact k _ H' F' (.fz<|.bool false) ρ' sb R' (Da.bl false) q
 .exact q.elim
theorem RI(h:lift K (Ux a) σ H Q):Vj (lift K a) σ H Q:=by
 obtain⟨G,F,ρ,Qd,R,w,k⟩:=h;refine⟨G,F,ρ,_,R,w,λv H' F' r ρ' sb R' r' q=>?_⟩;split at q
 .rename_i c;cases r';exact⟨c,rfl,k _ H' F' (.fz<|.bool<|!c) ρ' sb R' (Da.bl<|!c) q⟩
 .exact q.elim
end
theorem NK{ρ:Ev}{i:Nat}(h:match ρ[i]? with|some (some<|.io _)=>False|some _=>P|none=>False):Mz ρ i/\P:=by
 unfold Mz;cases e:ρ[i]? with
 |none=>rw[e]at h;exact h.elim
 |some x =>
  rw[e]at h;cases x with
  |none=>exact⟨trivial,h⟩
  |some s=>cases s with
   |fz d=>exact⟨trivial,h⟩
   |ow d=>exact⟨trivial,h⟩
   |io d=>exact h.elim
structure DE where
 nx:Ev->Prop
 rt:Sl->Ev->Prop
 bk:Ev->Prop
 ct:Ev->Prop
noncomputable abbrev LZ:=DE->Ev->Prop
def oQ(K:Fg)(ts:LZ):TS:=λD σ H=>∃(G:Gh) (F:Hp) (ρ:Ev) (E:DE),Rel K G F σ H ρ/\ts E ρ /\
 (∀σ' H' F' ρ',Sub F F'->Rel K G F' σ' H' ρ'->E.nx ρ'->D.nx σ' H') /\
 (∀v σ' H' F' r ρ',Sub F F'->Rel K G F' σ' H' ρ'->Res K G F' H' σ' ρ' v r->E.rt r ρ'->D.rt v H') /\
 (∀σ' H' F' ρ',Sub F F'->Rel K G F' σ' H' ρ'->E.bk ρ'->D.bk σ' H') /\
 (∀σ' H' F' ρ',Sub F F'->Rel K G F' σ' H' ρ'->E.ct ρ'->D.ct σ' H')
noncomputable def Vx:LZ:=λE ρ=>E.nx ρ
noncomputable def Nz(t u:LZ):LZ:=λE ρ=>t {nx:=λρ'=>u E ρ',rt:=E.rt,bk:=E.bk,ct:=E.ct} ρ
noncomputable def cu(a:TD):LZ:=λE ρ=>a ρ E.rt
noncomputable def Wx(a:TD):LZ:=λE ρ=>a ρ λ_ ρ'=>E.nx ρ'
noncomputable def du(c:jY)(t u:LZ):LZ:=λE ρ=>c ρ λb ρ'=>if b=true then t E ρ' else u E ρ'
noncomputable def oF(i:Nat)(a:TD):LZ:=λE ρ=>a ρ λr ρ'=>match ρ'[i]? with
 |some (some<|.io _)=>False
 |some _=>E.nx<|ρ'.set i<|some r
 |none=>False
section
variable {K:Fg}{σ:L2.St}{E:Ends}{t u:LZ}{a:TD}{c:jY}
theorem SI(h:oQ K Vx E σ H):Wj E σ H:=by obtain⟨G,F,ρ,D,R,w,n,r,b,c⟩:=h;exact n σ H F ρ (Sub.refl _) R w
theorem later{D:DE}{ts:LZ}(s:Sub F F1)(R:Rel K G F1 σ1 H1 ρ1)(w:ts D ρ1)(n:∀σ' H' F' ρ',Sub F F'->Rel K G F' σ' H' ρ'->D.nx ρ'->E.nx σ' H')(r:∀v σ' H' F' r ρ',Sub F F'->Rel K G F' σ' H' ρ'->Res K G F' H' σ' ρ' v r->D.rt r ρ'->E.rt v H')(b:∀σ' H' F' ρ',Sub F F'->Rel K G F' σ' H' ρ'->D.bk ρ'->E.bk σ' H')(c:∀σ' H' F' ρ',Sub F F'->Rel K G F' σ' H' ρ'->D.ct ρ'->E.ct σ' H'):oQ K ts E σ1 H1:=
 ⟨G,F1,ρ1,D,R,w,λ_ _ _ _ s' R' q=>n _ _ _ _ (s.trans s') R' q,λ_ _ _ _ _ _ s' R' r' q=>r _ _ _ _ _ _ (s.trans s') R' r' q,
   λ_ _ _ _ s' R' q=>b _ _ _ _ (s.trans s') R' q,λ_ _ _ _ s' R' q=>c _ _ _ _ (s.trans s') R' q⟩
theorem NC(h:oQ K (Nz t u) E σ H):uy (oQ K t) (oQ K u) E σ H:=by obtain⟨G,F,ρ,D,R,w,n,r,b,c⟩:=h;exact⟨G,F,ρ,_,R,w,λσ' H' F' ρ' s R' q=>later s R' q n r b c,r,b,c⟩
theorem YN(h:oQ K (cu a) E σ H):Zj (lift K a) E σ H:=by obtain⟨G,F,ρ,D,R,w,n,r,b,c⟩:=h;exact⟨G,F,ρ,_,R,w,λv H' F' x ρ' s R' r' q=>r v σ H' F' x ρ' s R' r' q⟩
theorem UI(h:oQ K (Wx a) E σ H):Yj (lift K a) E σ H:=by obtain⟨G,F,ρ,D,R,w,n,r,b,c⟩:=h;exact⟨G,F,ρ,_,R,w,λv H' F' x ρ' s R' r' q=>n σ H' F' ρ' s R' q⟩
theorem OC(h:oQ K (du c t u) E σ H):aI (xQ K c) (oQ K t) (oQ K u) E σ H:=by
 obtain⟨G,F,ρ,D,R,w,n,r,b,c⟩:=h;refine⟨G,F,ρ,_,R,w,λx H' F' ρ' s R' q=>?_⟩;cases x with
 |true=>exact later s R' q n r b c
 |false=>exact later s R' q n r b c
theorem PC(h:oQ K (oF i a) E σ H):KW (lift K a) (eK i) E σ H:=by obtain⟨G,F,ρ,D,R,w,n,r,b,c⟩:=h;refine⟨G,F,ρ,_,R,w,λv H' F' x ρ' s R' r' q=>?_⟩;have hn:=NK q;exact n _ H' F' _ s (R'.asg hn.1 r') hn.2
end
noncomputable def TH(i:Nat):LZ:=λE ρ=>match ρ[i]? with
 |some (some<|.fz d)=>E.rt (.fz d) ρ
 |some (some<|.ow d)=>E.rt (.ow d)<|ρ.set i none
 |_=>False
noncomputable def XD(i j:Nat):LZ:=λE ρ=>match ρ[j]? with
 | some (some<|.fz d)=>(match ρ[i]? with
   |some (some<|.io _)=>False
   |some _=>E.nx<|ρ.set i<|some<|.fz d
   |none=>False)
 | some (some<|.ow d)=>(match (ρ.set j none)[i]? with
   |some (some<|.io _)=>False
   |some _=>E.nx<|(ρ.set j none).set i<|some<|.ow d
   |none=>False)
 |_=>False
section
variable {K:Fg}{σ:L2.St}{E:Ends}
theorem VI(h:oQ K (TH i) E σ H):Zj (uJ i) E σ H:=by
 obtain⟨G,F,ρ,D,R,w,n,r,b,c⟩:=h;unfold TH at w;split at w
 .rename_i d e;obtain⟨v,e1,h1⟩:=R.fz i d e;exact⟨v,e1,r v σ H F (.fz d) ρ (Sub.refl _) R h1 w⟩
 .rename_i d e;obtain⟨v,e1,h1⟩:=R.forgetRes e;exact⟨v,e1,r v σ H F (.ow d) _ (Sub.refl _) (R.forget e) h1 w⟩
 .exact w.elim
theorem XI(h:oQ K (XD i j) E σ H):KW (uJ j) (eK i) E σ H:=by
 obtain⟨G,F,ρ,D,R,w,n,r,b,c⟩:=h;unfold XD at w;split at w
 .rename_i d e;obtain⟨v,e1,h1⟩:=R.fz j d e;obtain⟨hn,w⟩:=NK w;exact⟨v,e1,n _ H F _ (Sub.refl _) (R.asg (s:=.fz d) hn h1) w⟩
 .rename_i d e;obtain⟨v,e1,h1⟩:=R.forgetRes e;obtain⟨hn,w⟩:=NK w;exact⟨v,e1,n _ H F _ (Sub.refl _) ((R.forget e).asg (s:=.ow d) hn h1) w⟩
 .exact w.elim
end
noncomputable abbrev nJ:=D->Ev->(Ev->Prop)->Prop
def PQ(K:Fg)(g:nJ):TG:=λv σ H Q=>∃(G:Gh) (F:Hp) (ρ:Ev) (d:D) (Qd:Ev->Prop),Rel K G F σ H ρ/\Da K F v d/\g d ρ Qd/\∀σ' ρ',Rel K G F σ' H ρ'->Qd ρ'->Q σ' H
noncomputable def jy(i:Nat):nJ:=λd ρ Q=>match ρ[i]? with
 |some (some<|.io _)=>False
 |some _=>Q<|ρ.set i<|some<|.fz d
 |none=>False
noncomputable def ZN:List nJ->List D->Ev->(Ev->Prop)->Prop
 |[],[],ρ,Q=>Q ρ
 |g::gs,d::ds,ρ,Q=>g d ρ λρ'=>ZN gs ds ρ' Q
 |_,_,_,_=>False
noncomputable def LP(gs:List nJ):nJ:=λd ρ Q=>match d with
 | .tuple ds=>ds.length=gs.length/\ZN gs ds ρ Q
 |_=>False
noncomputable def ZV:List TG->iy
 |[]=>zN
 |g::gs=>CC g<|ZV gs
section
variable {K:Fg}{σ:L2.St}{v:V}{Q:L2.St->Hp->Prop}
theorem oR(h:PQ K (jy i) v σ H Q):eK i v σ H Q:=by obtain⟨G,F,ρ,d,Qd,R,hd,w,k⟩:=h;obtain⟨hn,w⟩:=NK w;exact k _ _ (R.asg (s:=.fz d) hn hd) w
theorem aO{G:Gh}{F:Hp}:∀{gs:List nJ}{ds:List D}{vs:List V}{σ:L2.St}{ρ:Ev}{Qd:Ev->Prop},Rel K G F σ H ρ->DaAll K F vs ds->ZN gs ds ρ Qd->(∀σ' ρ',Rel K G F σ' H ρ'->Qd ρ'->Q σ' H)->ZV (gs.map<|PQ K) vs σ H Q
 |[],[],_,σ,ρ,Qd,R,.nil,w,k=>⟨rfl,k σ ρ R w⟩
 |g::gs,d::ds,_,σ,ρ,Qd,R,.cons h t,w,k=>⟨_,_,rfl,G,F,ρ,d,_,R,h,w,λσ' ρ' R' w'=>aO (gs:=gs) R' t w' k⟩
 |[],_::_,_,σ,ρ,Qd,R,_,w,k=>by exact w.elim
 |_::_,[],_,σ,ρ,Qd,R,_,w,k=>by exact w.elim
theorem pR(hn:gs.length=n)(h:PQ K (LP gs) v σ H Q):yy K n (ZV<|gs.map<|PQ K) v σ H Q:=by
 obtain⟨G,F,ρ,d,Qd,R,hd,w,k⟩:=h;unfold LP at w;split at w
 .cases hd with
  |tup e t=>exact⟨_,_,rfl,SqT.of<|R.sub _ _ e,by rw[t.length,w.1,hn],aO R t w.2 k⟩
 .exact w.elim
end
def Walks(K:Fg)(J:It)(F:Hp)(ds:List D):Prop:=∀(i:Nat) (H F1:Hp),Sub F F1->Sub F1 H ->
 (∀d,ds[i]?=some d->J.go i H/\∀x H',J.yld i H x H'->∃F2,Sub F1 F2/\(∀b o,F2 b=some o->F1 b=some o\/H b=none)/\Sub F2 H'/\Sub H H'/\Da K F2 x d)/\(ds.length=i->J.stop i H)
noncomputable abbrev OG:=Ev->(List D->Ev->Prop)->Prop
def GX(K:Fg)(ti:OG):TI:=λσ H R=>∃(G:Gh) (F:Hp) (ρ:Ev) (Qd:List D->Ev->Prop),Rel K G F σ H ρ/\ti ρ Qd /\
 ∀J H' F' ds ρ',Sub F F'->Rel K G F' σ H' ρ'->Walks K J F' ds->Qd ds ρ'->R J H'
theorem Rel.turn{K:Fg}(R:Rel K G F σ H ρ)(s:Sub F F2)(n:∀b o,F2 b=some o->F b=some o\/H b=none)(s2:Sub F2 H')(s3:Sub H H'):Rel K G F2 σ H' ρ where
 len:=R.len
 sub:=s2
 sub0:=R.sub0.trans s
 fn:=λb o e=>by
  rcases n b o e with q|q
  .exact R.fn b o q
  .exact .inr (R.h0 q)
 keep:=λa o e m t=>s3 _ _ (R.keep a o e m t)
 tb:=R.tb.up (λ_ _ _ e=>s3 _ _ e) λz hz=>by
  obtain⟨e1,ps,e2,_⟩:=R.tb z hz;cases q:F2 z.1 with
  |none=>rfl
  |some u =>
   rcases n _ u q with y|y
   .rw[e1]at y;cases y
   .rw[e2]at y;cases y
 fz:=λi d e=>by obtain⟨v,h1,h2⟩:=R.fz i d e;exact⟨v,h1,h2.mono s⟩
 ow:=λi t e w=>by
  obtain⟨a,o,h1,h2,h3,h4⟩:=R.ow i t e w;refine⟨a,o,h1,?_,s3 _ _ h3,h4.mono s⟩;cases q:F2 a with
  |none=>rfl
  |some u =>
   rcases n a u q with z|z
   .rw[h2]at z;cases z
   .rw[h3]at z;cases z
 new:=R.new
 io:=R.io
 ioi:=R.ioi
 ap:=R.ap
theorem bV{l:List α}{x:α}(h:l[i]?=some x):l.drop i=x::l.drop (i+1):=by obtain⟨hl,rfl⟩:=Q1.mp h;exact List.drop_eq_getElem_cons hl
noncomputable def fu:Option Sl->Option Sl
 |some (.ow d)=>some<|.io d
 |x=>x
noncomputable def GJ(own:List Str)(fr:List Nat)(ρ:Ev):Ev:=own.map (λ_=>none)++fr.map λi=>fu<|(ρ[i]?).getD none
noncomputable def gu:Option Sl->Option (Option Sl)->Option Sl
 |some (.ow d),some (some<|.io d')=>some<|.ow d'
 |some (.io d),some (some<|.io d')=>some<|.io d'
 |x,_=>x
noncomputable def VY(fr:List Nat)(τ:Ev):Nat->Ev->Ev
 |_,[]=>[]
 |j,x::ρ=>gu x ((fr.zip τ).lookup j)::VY fr τ (j+1) ρ
theorem cV(fr:List Nat)(τ:Ev):∀(ρ:Ev) (j i:Nat),(VY fr τ j ρ)[i]?=(ρ[i]?).map λx=>gu x<|(fr.zip τ).lookup<|j+i
 |[],j,i=>by simp[VY]
 |x::ρ,j,0=>by simp[VY]
 |x::ρ,j,i+1=>by have:=cV fr τ ρ (j+1) i;simp only[VY,N4];rw[this,show j+1+i=j+(i+1) by lia]
theorem UH(fr:List Nat)(τ:Ev):∀(ρ:Ev) (j:Nat),(VY fr τ j ρ).length=ρ.length
 |[],_=>rfl
 |x::ρ,j=>by simp[VY,UH fr τ ρ<|j+1]
theorem eV:∀{fr:List Nat}{τ:Ev}{k i:Nat}{x:Option Sl},fr.Nodup->fr[k]?=some i->τ[k]?=some x->(fr.zip τ).lookup i=some x
 |[],_,_,_,_,_,e,_=>by simp at e
 |j::fr,[],_,_,_,_,_,e=>by simp at e
 |j::fr,y::τ,0,i,x,_,e,e'=>by simp at e e';subst e e';simp[S7]
 |j::fr,y::τ,k+1,i,x,nd,e,e'=>by
  have nd':=S3.mp nd;simp at e e';have hm:i∈fr:=U1 e;have ne:(i==j)=false:=by simp;intro z;subst z;exact nd'.1 hm
  simp[S7,ne];exact eV nd'.2 e e'
theorem sK:∀{fr:List Nat}{τ:Ev}{i:Nat}{x:Option Sl},(fr.zip τ).lookup i=some x->∃k:Nat,fr[k]?=some i/\τ[k]?=some x
 |[],_,_,_,e=>by simp at e
 |j::fr,[],_,_,e=>by simp at e
 |j::fr,y::τ,i,x,e=>by
  by_cases z:i=j
  .subst z;simp[S7]at e;subst e;exact⟨0,by simp,by simp⟩
  .have ne:(i==j)=false:=by simp[z]
   simp[S7,ne]at e;obtain⟨k,h1,h2⟩:=sK e;exact⟨k+1,by simpa using h1,by simpa using h2⟩
noncomputable def Xx(σ:L2.St)(ρ:Ev)(i:Nat):Option Addr:=match ρ[i]?,σ[i]? with
 |some (some s),some (some<|.ref a)=>if YQ s=true then some a else none
 |_,_=>none
theorem Oz(h:Xx σ ρ i=some a):∃s,ρ[i]?=some (some s)/\YQ s=true/\σ[i]?=some (some<|V.ref a):=by
 unfold Xx at h;split at h
 .rename_i s b e1 e2;split at h
  .rename_i w;cases h;exact⟨s,e1,w,e2⟩
  .cases h
 .cases h
theorem iu{s:Sl}(h1:ρ[i]?=some (some s))(h2:YQ s=true)(h3:σ[i]?=some (some<|V.ref a)):Xx σ ρ i=some a:=by unfold Xx;rw[h1,h3];simp[h2]
noncomputable def ky(own:List Str)(fr:List Nat)(F H:Hp)(σ:L2.St)(ρ:Ev):Gh:=⟨H,F,λj=>if own.length<=j then (match fr[j-own.length]? with|some i=>Xx σ ρ i|none=>none) else none⟩
theorem pF(h:(ky own fr F H σ ρ).io j=some a):∃k i s,j=own.length+k/\fr[k]?=some i/\ρ[i]?=some (some s)/\YQ s=true/\σ[i]?=some (some<|V.ref a):=by
 unfold ky at h;simp only at h;split at h
 .rename_i hl;split at h
  .rename_i i e;obtain⟨s,h1,h2,h3⟩:=Oz h;exact⟨j-own.length,i,s,by lia,e,h1,h2,h3⟩
  .cases h
 .cases h
theorem qF{s:Sl}(h0:fr[k]?=some i)(h1:ρ[i]?=some (some s))(h2:YQ s=true)(h3:σ[i]?=some (some<|V.ref a)):(ky own fr F H σ ρ).io (own.length+k)=some a:=by unfold ky;simp only;rw[if_pos<|r8 _ _,Nat.add_sub_cancel_left,h0];exact iu h1 h2 h3
theorem Pz{own:List Str}(h:(own.map (λ_=>(none:Option α))++fr.map f)[j]?=some (some x)):∃k i,j=own.length+k/\fr[k]?=some i/\f i=some x:=by
 by_cases hl:j<own.length
 .rw[E3<|by simpa using hl]at h;simp at h
 .rw[Q2<|by simpa using o8 hl]at h;simp at h;obtain⟨i,h1,h2⟩:=h;exact⟨j-own.length,i,by lia,h1,h2⟩
theorem VH{own:List Str}(h:fr[k]?=some i):(own.map (λ_=>(none:Option α))++fr.map f)[own.length+k]?=some (f i):=by rw[Q2<|by simp];simp[h]
theorem Yx{s:Sl}(h:fu x=some s):∃s0,x=some s0/\((∃d,s0=.fz d/\s=.fz d)\/(YQ s0=true/\s=.io s0.d)):=by
 cases x with
 |none=>cases h
 |some s0 =>
  cases s0 with
  |fz d=>cases h;exact⟨_,rfl,.inl ⟨d,rfl,rfl⟩⟩
  |ow d=>cases h;exact⟨_,rfl,.inr ⟨rfl,rfl⟩⟩
  |io d=>cases h;exact⟨_,rfl,.inr ⟨rfl,rfl⟩⟩
theorem getD_some{o:Option (Option α)}{x:α}(h:o.getD none=some x):o=some (some x):=by
 cases o with
 |none=>cases h
 |some y=>simp at h;rw[h]
section
variable {K:Fg}{G:Gh}{F F':Hp}{σ τ:L2.St}{ρ μ:Ev}{own:List Str}
theorem XX{s:Sl}(h:(GJ own fr ρ)[j]?=some (some s)):∃k i s0,j=own.length+k/\fr[k]?=some i/\ρ[i]?=some (some s0)/\((∃d,s0=.fz d/\s=.fz d)\/(YQ s0=true/\s=.io s0.d)):=by obtain⟨k,i,h1,h2,h3⟩:=Pz h;obtain⟨s0,h4,h5⟩:=Yx h3;exact⟨k,i,s0,h1,h2,getD_some h4,h5⟩
theorem XY(h:fr[k]?=some i):(Py own σ fr)[own.length+k]?=some ((σ[i]?).getD none):=VH (f:=λi=>(σ[i]?).getD none) h
theorem Qz(h:fr[k]?=some i):(GJ own fr ρ)[own.length+k]?=some (fu<|(ρ[i]?).getD none):=VH (f:=λi=>fu<|(ρ[i]?).getD none) h
theorem Zx(nd:fr.Nodup){k l i:Nat}(a:fr[k]?=some i)(b:fr[l]?=some i):k=l:=by obtain⟨h1,e1⟩:=Q1.mp a;obtain⟨h2,e2⟩:=Q1.mp b;exact(List.getElem_inj nd).mp<|e1.trans e2.symm
theorem Rel.inner(R:Rel K G F σ H ρ)(nd:fr.Nodup):Rel K (ky own fr F H σ ρ) F (Py own σ fr) H (GJ own fr ρ) where
 len:=by simp[Py,GI,GJ]
 sub:=R.sub
 sub0:=Sub.refl _
 fn:=λ_ _ e=>.inl e
 keep:=λ_ _ e _ _=>e
 tb:=R.tb
 fz:=λj d e=>by
  obtain⟨k,i,s0,rfl,h2,h3,h4⟩:=XX e;rcases h4 with⟨d0,rfl,z⟩|⟨_,z⟩
  .cases z;obtain⟨v,e1,e2⟩:=R.fz i d h3;exact⟨v,by rw[XY h2,e1];rfl,e2⟩
  .cases z
 ow:=λj s e w=>by
  obtain⟨k,i,s0,rfl,h2,h3,h4⟩:=XX e;rcases h4 with⟨d0,rfl,z⟩|⟨w0,z⟩
  .cases z;cases w
  .cases z;obtain⟨a,o,e1,e2,e3,e4⟩:=R.ow i s0 h3 w0;exact⟨a,o,by rw[XY h2,e1];rfl,e2,e3,e4⟩
 new:=λj d a e _=>by obtain⟨k,i,s0,rfl,h2,h3,h4⟩:=XX e;rcases h4 with⟨d0,rfl,z⟩|⟨w0,z⟩<;>cases z
 io:=λj a e=>by obtain⟨k,i,s,rfl,h1,h2,h3,h4⟩:=pF e;refine⟨s.d,?_,by rw[XY h1,h4];rfl⟩;rw[Qz h1,h2];cases s<;>first|rfl|cases h3
 ioi:=λj d e=>by
  obtain⟨k,i,s0,rfl,h2,h3,h4⟩:=XX e;rcases h4 with⟨d0,rfl,z⟩|⟨w0,z⟩
  .cases z
  .obtain⟨a,o,e1,_⟩:=R.ow i s0 h3 w0;exact⟨a,qF h2 h3 w0 e1⟩
 ap:=λj l s t a e1 w1 e2 w2 e3 e4=>by
  obtain⟨k,i,s0,rfl,h2,h3,h4⟩:=XX e1;obtain⟨k',i',s0',rfl,h2',h3',h4'⟩:=XX e2;have p1:YQ s0=true:=by
   rcases h4 with⟨d0,rfl,z⟩|⟨w0,z⟩
   .subst z;cases w1
   .exact w0
  have p2:YQ s0'=true:=by
   rcases h4' with⟨d0,rfl,z⟩|⟨w0,z⟩
   .subst z;cases w2
   .exact w0
  rw[XY h2]at e3;rw[XY h2']at e4;have q:=R.ap i i' s0 s0' a h3 p1 h3' p2 (getD_some<|W1 e3)<|getD_some<|W1 e4;subst q;rw[Zx nd h2 h2']
theorem tK(R:Rel K G F σ H ρ)(R':Rel K (ky own fr F H σ ρ) F' τ H' μ)(nd:fr.Nodup){i:Nat}{s:Sl}(h:(VY fr (μ.drop own.length) 0 ρ)[i]?=some (some s)):∃s0,ρ[i]?=some (some s0)/\((s=s0/\(YQ s0=true->i∉fr))\/(YQ s0=true/\∃k d',fr[k]?=some i/\μ[own.length+k]?=some (some<|Sl.io d')/\s=s0.put d')):=by
 rw[cV]at h;cases e:ρ[i]? with
 |none=>rw[e]at h;cases h
 |some x =>
  rw[e]at h;simp only[Q4,E8]at h;have h:=W1 h;cases x with
  |none=>simp[gu]at h
  |some s0 =>
   refine⟨s0,rfl,?_⟩;by_cases w0:YQ s0=true
   .by_cases hm:i∈fr
    .obtain⟨k,hk⟩:=List.mem_iff_getElem?.mp hm;obtain⟨a,o,e1,_⟩:=R.ow i s0 e w0;obtain⟨d',g1,g2⟩:=R'.io _ _<|qF (own:=own) (F:=F) (H:=H) hk e w0 e1;have z:=eV (τ:=μ.drop own.length) nd hk (by rw[List.getElem?_drop];exact g1);rw[z]at h;refine .inr ⟨w0,k,d',hk,g1,?_⟩;cases s0 with
     |fz d=>cases w0
     |ow d=>simp[gu]at h;exact h.symm
     |io d=>simp[gu]at h;exact h.symm
    .refine .inl ⟨?_,λ_=>hm⟩;have z:(fr.zip<|μ.drop own.length).lookup i=none:=by
      cases q:(fr.zip<|μ.drop own.length).lookup i with
      |none=>rfl
      |some y=>obtain⟨k,h1,_⟩:=sK q;exact(hm<|U1 h1).elim
     rw[z]at h;cases s0 with
     |fz d=>cases w0
     |ow d=>simp[gu]at h;exact h.symm
     |io d=>simp[gu]at h;exact h.symm
   .refine .inl ⟨?_,λz=>(w0 z).elim⟩;cases s0 with
    |fz d=>simp[gu]at h;exact h.symm
    |ow d=>exact(w0 rfl).elim
    |io d=>exact(w0 rfl).elim
theorem YI(x:Option (Option Sl)):∃d',gu (some<|.io d) x=some (.io d'):=by
 rcases x with _|_|(d'|d'|d')
 .exact⟨d,rfl⟩
 .exact⟨d,rfl⟩
 .exact⟨d,rfl⟩
 .exact⟨d,rfl⟩
 .exact⟨d',rfl⟩
theorem Rel.outer(R:Rel K G F σ H ρ)(R':Rel K (ky own fr F H σ ρ) F' τ H' μ)(nd:fr.Nodup):Rel K G F' σ H' (VY fr (μ.drop own.length) 0 ρ):=by
 have sb:Sub F F':=R'.sub0;have owns:∀{i:Nat}{s:Sl},(VY fr (μ.drop own.length) 0 ρ)[i]?=some (some s)->YQ s=true->∃s0,ρ[i]?=some (some s0)/\YQ s0=true:=λ{i s} e w=>by
  obtain⟨s0,h1,h2⟩:=tK R R' nd e;rcases h2 with⟨rfl,_⟩|⟨w0,_⟩
  .exact⟨s,h1,w⟩
  .exact⟨s0,h1,w0⟩
 refine⟨by rw[UH];exact R.len,R'.sub,R.sub0.trans sb,λa o e=>?_,λa o e n t=>?_,R'.tb,λi d e=>?_,λi s e w=>?_,λi d a e ea=>?_,λi a e=>?_,λi d e=>?_,λi j s t a e1 w1 e2 w2 e3 e4=>?_⟩
 .rcases R'.fn a o e with q|q
  .exact R.fn a o q
  .exact .inr (R.h0 q)
 .refine R'.keep a o (R.keep a o e n t) (λj z=>?_) t;obtain⟨k,i,s,rfl,h1,h2,h3,h4⟩:=pF z;cases s with
  |fz d=>cases h3
  |ow d=>rw[R.new i d a h2 h4]at e;cases e
  |io d=>obtain⟨a',g⟩:=R.ioi i d h2;obtain⟨_,_,g2⟩:=R.io i a' g;rw[h4]at g2;cases g2;exact n i g
 .obtain⟨s0,h1,h2⟩:=tK R R' nd e;rcases h2 with⟨rfl,_⟩|⟨w0,k,d',_,_,z⟩
  .obtain⟨v,g1,g2⟩:=R.fz i d h1;exact⟨v,g1,g2.mono sb⟩
  .cases s0<;>simp[Sl.put,YQ]at z w0
 .obtain⟨s0,h1,h2⟩:=tK R R' nd e;rcases h2 with⟨rfl,hm⟩|⟨w0,k,d',hk,hd,rfl⟩
  .obtain⟨a,o,g1,g2,g3,g4⟩:=R.ow i s h1 w;have nio:∀j,(ky own fr F H σ ρ).io j≠some a:=λj z=>by
    obtain⟨k,i',s',rfl,q1,q2,q3,q4⟩:=pF z;have:=R.ap i i' s s' a h1 w q2 q3 g1 q4;subst this;exact hm w<|U1 q1
   refine⟨a,o,g1,?_,R'.keep a o g3 nio (R.tb.ne λu z=>by rw[g3]at z;cases z;exact g4.stk),g4.mono sb⟩;cases q:F' a with
   |none=>rfl
   |some u =>
    rcases R'.fn a u q with z|z
    .have z:F a=some u:=z;rw[g2]at z;cases z
    .have z:H a=none:=z;rw[g3]at z;cases z
  .obtain⟨a,o,g1,g2,g3,g4⟩:=R.ow i s0 h1 w0;obtain⟨d2,q1,q2⟩:=R'.io _ _<|qF (own:=own) (F:=F) (H:=H) hk h1 w0 g1;obtain⟨a',o',p1,p2,p3,p4⟩:=R'.ow _ _ hd rfl;rw[q2]at p1;cases p1;exact⟨a,o',g1,p2,p3,by cases s0<;>first|exact p4|cases w0⟩
 .obtain⟨s0,h1,h2⟩:=tK R R' nd e;rcases h2 with⟨rfl,_⟩|⟨w0,k,d',_,_,z⟩
  .exact R.new i d a h1 ea
  .cases s0 with
   |fz d=>cases w0
   |ow d0=>exact R.new i d0 a h1 ea
   |io d0=>cases z
 .obtain⟨d,h1,h2⟩:=R.io i a e;obtain⟨d',hd⟩:=YI (d:=d)<|(fr.zip<|μ.drop own.length).lookup i;exact⟨d',by rw[cV,h1];simp only[Q4,E8];rw[hd],h2⟩
 .obtain⟨s0,h1,h2⟩:=tK R R' nd e;rcases h2 with⟨rfl,_⟩|⟨w0,k,d',_,_,z⟩
  .exact R.ioi i d h1
  .cases s0 with
   |fz d=>cases w0
   |ow d0=>cases z
   |io d0=>exact R.ioi i d0 h1
 .obtain⟨s0,g1,g2⟩:=owns e1 w1;obtain⟨t0,g3,g4⟩:=owns e2 w2;exact R.ap i j s0 t0 a g1 g2 g3 g4 e3 e4
end
noncomputable abbrev Con:=List Sl->(Sl->Ev->Prop)->Prop
noncomputable def dQ(K:Fg)(con:Con):Sp:=λvs H Q _=>∃(G:Gh) (F:Hp) (args:List Sl) (Qd:Sl->Ev->Prop),Rel K G F (vs.map some) H (args.map some)/\con args Qd /\
 ∀v H' F' r ρ',Sub F F'->Rel K G F' (vs.map some) H' ρ'->Res K G F' H' (vs.map some) ρ' v r->Qd r ρ'->Q v H'
mutual
noncomputable def noMut:D->Bool
 | .none=>true
 | .bool _=>true
 | .int _=>true
 | .str _=>true
 | .tuple xs=>noMutAll xs
 | .list _=>false
 | .dict _=>false
noncomputable def noMutAll:List D->Bool
 |[]=>true
 |x::xs=>noMut x&&noMutAll xs
end
theorem oX:∀ns:Qa,noMutAll (ns.map p0)=true
 |[]=>rfl
 |n::ns=>by simp[noMutAll,noMut,oX ns]
section
variable {K:Fg}{F F':Hp}
theorem Da.noMut(h:∀b xs,F b=some (.tup xs)->F' b=some (.tup xs)){v:V}{d:D}(q:Da K F v d):L3.noMut d=true->Da K F' v d:=by refine Da.rec (motive_1:=λv d _=>L3.noMut d=true->Da K F' v d) (motive_2:=λv d _=>noMutAll d=true->DaAll K F' v d) (motive_3:=λ_ _ _=>True) (motive_4:=λ_ _ _=>True) (motive_5:=λ_ _ _=>True) (motive_6:=λ_ _ _=>True) (λ_=>.non) (λb _=>.bl b) (λi _=>.int i) (λx _=>.str x) (λ_ _ _ z=>nomatch z) (λe _ t z=>.tup (h _ _ e)<|t z) (λ_ _ _ z=>nomatch z) (λ_ _ _ z=>nomatch z) (λ_ z=>nomatch z) (λ_ z=>nomatch z) (λ_ z=>nomatch z) (λ_ _ _ z=>nomatch z) (λ_ _ _ z=>nomatch z) (λ_ _ _ z=>nomatch z) (λz=>nomatch z) (λ_=>.nil) (λ_ _ a t z=>.cons (a (Z2.mp z).1)<|t (Z2.mp z).2) ?_ ?_ ?_ ?_ ?_ ?_ ?_ ?_ q<;>intros<;>trivial
theorem DaAll.noMut(h:∀b xs,F b=some (.tup xs)->F' b=some (.tup xs)){xs:List V}{ds:List D}(q:DaAll K F xs ds):noMutAll ds=true->DaAll K F' xs ds:=by refine DaAll.rec (motive_1:=λ_ _ _=>True) (motive_2:=λv d _=>noMutAll d=true->DaAll K F' v d) (motive_3:=λ_ _ _=>True) (motive_4:=λ_ _ _=>True) (motive_5:=λ_ _ _=>True) (motive_6:=λ_ _ _=>True) ?_ ?_ ?_ ?_ ?_ ?_ ?_ ?_ ?_ ?_ ?_ ?_ ?_ ?_ ?_ (λ_=>.nil) (λa _ _ t z=>.cons (a.noMut h (Z2.mp z).1)<|t (Z2.mp z).2) ?_ ?_ ?_ ?_ ?_ ?_ ?_ ?_ q<;>intros<;>trivial
end
noncomputable def kX(ρ:Ev):List vU->Bool
 |[]=>false
 | .inr _::xs=>kX ρ xs
 | .inl i::xs=>(match ρ[i]? with|some (some s)=>YQ s|_=>false)||kX ρ xs
def oW(con:Con)(as:List AD):TD:=λρ Q=>JX as ρ λxs ρ1=>TQ ρ1 xs λds=>con (ds.map Sl.fz) λr _=>match kX ρ1 xs with
 |false=>Q r ρ1
 |true=>noMut r.d=true/\Q r ρ1
def ck(con:Con)(i:Nat)(xs:List vU)(ρ1:Ev)(Q:Sl->Ev->Prop):Prop:=match ρ1[i]? with
 |some (some s)=>match YQ s,kX ρ1 xs with
  |true,false=>TQ ρ1 xs λds=>con (.io s.d::ds.map Sl.fz) λr outs=>match outs with
   |some (.io d')::_=>Q r<|ρ1.set i<|some<|s.put d'
   |_=>False
  |_,_=>False
 |_=>False
def YU(con:Con)(i:Nat)(as:List AD):TD:=λρ Q=>JX (.inl i::as) ρ λxs ρ1=>ck con i xs.tail ρ1 Q
def LentA(σ:L2.St)(ρ:Ev)(xs:List vU)(a:Addr):Prop:=∃(i:Nat) (s:Sl),Sum.inl i∈xs/\ρ[i]?=some (some s)/\YQ s=true/\σ[i]?=some (some<|V.ref a)
theorem MZ{σ:L2.St}{ρ:Ev}:∀{xs:List vU}{a:Addr},LentA σ ρ xs a->kX ρ xs=true
 |[],a,⟨i,s,h,_⟩=>by cases h
 | .inr d::xs,a,⟨i,s,h,h1,h2,h3⟩=>by
  rcases P0.mp h with h|h
  .cases h
  .exact MZ (xs:=xs) ⟨i,s,h,h1,h2,h3⟩
 | .inl j::xs,a,⟨i,s,h,h1,h2,h3⟩=>by
  unfold kX;rcases P0.mp h with h|h
  .cases h;rw[h1];simp[h2]
  .rw[MZ (xs:=xs) ⟨i,s,h,h1,h2,h3⟩];simp
open Classical in
noncomputable def YX(σ:L2.St)(ρ:Ev)(xs:List vU)(F H:Hp):Hp:=λb=>if LentA σ ρ xs b then H b else F b
open Classical in
noncomputable def SX(σ:L2.St)(ρ:Ev)(xs:List vU)(F:Hp):Hp:=λb=>if LentA σ ρ xs b then none else F b
section
variable {K:Fg}{G:Gh}{F F':Hp}{σ:L2.St}{ρ:Ev}{xs:List vU}
theorem xZ(h:¬LentA σ ρ xs b):YX σ ρ xs F H b=F b:=by unfold YX;rw[if_neg h]
theorem OK(h:LentA σ ρ xs b):YX σ ρ xs F H b=H b:=by unfold YX;rw[if_pos h]
theorem ZX(h:¬LentA σ ρ xs b):SX σ ρ xs F b=F b:=by unfold SX;rw[if_neg h]
theorem Rz(h:LentA σ ρ xs b):SX σ ρ xs F b=none:=by unfold SX;rw[if_pos h]
theorem LentA.own(R:Rel K G F σ H ρ){b:Addr}(h:LentA σ ρ xs b):∃(i:Nat) (s:Sl) (o:HO),ρ[i]?=some (some s)/\YQ s=true/\σ[i]?=some (some<|V.ref b)/\F b=none/\H b=some o/\Own1 K F o s.d:=by obtain⟨i,s,_,h1,h2,h3⟩:=h;obtain⟨a,o,g1,g2,g3,g4⟩:=R.ow i s h1 h2;rw[h3]at g1;cases g1;exact⟨i,s,o,h1,h2,h3,g2,g3,g4⟩
theorem yZ(R:Rel K G F σ H ρ):Sub F (YX σ ρ xs F H):=λb o e=>by
 have n:¬LentA σ ρ xs b:=λz=>by obtain⟨_,_,_,_,_,_,h,_⟩:=z.own R;rw[h]at e;cases e
 rw[xZ n];exact e
theorem PK(R:Rel K G F σ H ρ):Sub (YX σ ρ xs F H) H:=λb o e=>by
 by_cases z:LentA σ ρ xs b
 .rw[OK z]at e;exact e
 .rw[xZ z]at e;exact R.sub _ _ e
theorem yY(R:Rel K G F σ H ρ):TabOk K (YX σ ρ xs F H) H:=R.tb.up (λ_ _ _ e=>e) λz hz=>by
 obtain⟨e1,ps,e2,_⟩:=R.tb z hz;have n:¬LentA σ ρ xs z.1:=λy=>by obtain⟨_,_,o,_,_,_,_,h,w⟩:=y.own R;rw[e2]at h;cases h;exact w
 rw[xZ n];exact e1
theorem sZ(R:Rel K G F σ H ρ){ys:List vU}{vs:List V}{k:List D->Prop}(m:∀y∈ys,y∈xs)(o:OpdsAt K F σ vs ys)(h:TQ ρ ys k):∃ds,DaAll K (YX σ ρ xs F H) vs ds/\k ds:=by
 induction o generalizing k with
 |nil=>exact⟨[],.nil,h⟩
 |@cons v x vs ys o t ih =>
  cases x with
  |inr d=>obtain⟨ds,a,q⟩:=ih (k:=λds=>k (d::ds)) (λy hy=>m y<|K0 _ hy) h;exact⟨d::ds,.cons (Da.mono (yZ R) o) a,q⟩
  |inl i =>
   unfold TQ at h;split at h
   .rename_i s e;obtain⟨ds,a,q⟩:=ih (k:=λds=>k (s.d::ds)) (λy hy=>m y<|K0 _ hy) h;refine⟨s.d::ds,.cons ?_ a,q⟩;have o:σ[i]?=some (some v):=o;have own:YQ s=true->Da K (YX σ ρ xs F H) v s.d:=λw=>by
     obtain⟨b,u,h1,h2,h3,h4⟩:=R.ow i s e w;rw[o]at h1;cases h1;have l:LentA σ ρ xs b:=⟨i,s,m _ L0,e,w,o⟩;exact(h4.mono<|yZ R).da (by rw[OK l];exact h3)
    cases s with
    |fz d=>obtain⟨v,e1,e2⟩:=R.fz i d e;rw[o]at e1;cases e1;exact e2.mono<|yZ R
    |ow d=>exact own rfl
    |io d=>exact own rfl
   .exact h.elim
theorem YY{o:HO}(h:Own1 K F o d):noMut d=false:=by
 cases o with
 |ext φ=>rcases h.ext with⟨a',ep,xs,ps,z,rfl,t⟩|⟨a',ep,xs,ps,z,rfl,t⟩<;>rfl
 |_=>cases d<;>first|rfl|exact h.elim
theorem cJ{ds:List D}{i:Nat}{s:Sl}(h:((ds.map Sl.fz).map some)[i]?=some (some s)):∃d,ds[i]?=some d/\s=.fz d:=by
 rw[v1,E1]at h;cases e:ds[i]? with
 |none=>rw[e]at h;cases h
 |some d=>rw[e]at h;cases h;exact⟨d,rfl,rfl⟩
theorem ZI{vs:List V}{i:Nat}(h:vs[i]?=some v):(vs.map some)[i]?=some (some v):=by rw[E1,h];rfl
theorem zZ(s:Sub F H)(tb:TabOk K F H)(da:DaAll K F vs ds):Rel K ⟨H,F,λ_=>none⟩ F (vs.map some) H ((ds.map Sl.fz).map some) where
 len:=by simp[da.length]
 sub:=s
 sub0:=Sub.refl _
 fn:=λ_ _ e=>.inl e
 keep:=λ_ _ e _ _=>e
 tb:=tb
 fz:=λi d e=>by obtain⟨d',e1,e2⟩:=cJ e;cases e2;obtain⟨v,h1,h2⟩:=da.get e1;exact⟨v,ZI h1,h2⟩
 ow:=λi s e w=>by obtain⟨d',e1,rfl⟩:=cJ e;cases w
 new:=λi d a e _=>by obtain⟨d',e1,e2⟩:=cJ e;cases e2
 io:=λi a e=>by cases e
 ioi:=λi d e=>by obtain⟨d',e1,e2⟩:=cJ e;cases e2
 ap:=λi j s t a e w _ _ _ _=>by obtain⟨d',e1,rfl⟩:=cJ e;cases w
theorem Rel.called(R:Rel K G F σ H ρ){σ1:L2.St}{ρ1:Ev}(R':Rel K ⟨H,YX σ ρ xs F H,λ_=>none⟩ F' σ1 H' ρ1):Sub F (SX σ ρ xs F')/\Rel K G (SX σ ρ xs F') σ H' ρ:=by
 have nl:∀{b:Addr}{o:HO},F b=some o->¬LentA σ ρ xs b:=λ{b o} e z=>by obtain⟨_,_,_,_,_,_,h,_⟩:=z.own R;rw[h]at e;cases e
 have sb:Sub F (SX σ ρ xs F'):=λb o e=>by rw[ZX<|nl e];exact R'.sub0 _ _<|yZ R _ _ e
 have ul:∀{b:Addr}{o:HO},SX σ ρ xs F' b=some o->¬LentA σ ρ xs b/\F' b=some o:=λ{b o} e=>by
  by_cases z:LentA σ ρ xs b
  .rw[Rz z]at e;cases e
  .rw[ZX z]at e;exact⟨z,e⟩
 have kp:∀{b:Addr}{o:HO},(∀z∈TB K,z.1≠b)->H b=some o->H' b=some o:=λ{b o} t e=>R'.keep b o e (λi z=>by cases z) t;refine⟨sb,R.len,λb o e=>R'.sub _ _ (ul e).2,R.sub0.trans sb,λb o e=>?_,λa o e n t=>kp t<|R.keep a o e n t,R'.tb.up (λ_ _ _ e=>e) λz hz=>?_,λi d e=>?_,λi s e w=>?_,R.new,R.io,R.ioi,R.ap⟩
 .obtain⟨n,e⟩:=ul e;rcases R'.fn b o e with q|q
  .have q:YX σ ρ xs F H b=some o:=q;rw[xZ n]at q;exact R.fn b o q
  .exact .inr (R.h0 q)
 .cases q:SX σ ρ xs F' z.1 with
  |none=>rfl
  |some u=>have:=(ul q).2;rw[(R'.tb z hz).1]at this;cases this
 .obtain⟨v,h1,h2⟩:=R.fz i d e;exact⟨v,h1,h2.mono sb⟩
 .obtain⟨a,o,h1,h2,h3,h4⟩:=R.ow i s e w;refine⟨a,o,h1,?_,kp (R.tb.ne λu z=>by rw[h3]at z;cases z;exact h4.stk) h3,h4.mono sb⟩;cases q:SX σ ρ xs F' a with
  |none=>rfl
  |some u =>
   obtain⟨n,q⟩:=ul q;rcases R'.fn a u q with z|z
   .have z:YX σ ρ xs F H a=some u:=z;rw[xZ n,h2]at z;cases z
   .have z:H a=none:=z;rw[h3]at z;cases z
theorem Res.called(R:Rel K G F σ H ρ){σ1:L2.St}{ρ1:Ev}{v:V}{r:Sl}(R':Rel K ⟨H,YX σ ρ xs F H,λ_=>none⟩ F' σ1 H' ρ1)(q:Res K ⟨H,YX σ ρ xs F H,λ_=>none⟩ F' H' σ1 ρ1 v r)(hl:kX ρ xs=true->noMut r.d=true):Res K G (SX σ ρ xs F') H' σ ρ v r:=by
 have tp:∀b ys,F' b=some (.tup ys)->SX σ ρ xs F' b=some (.tup ys):=λb ys e=>by
  have n:¬LentA σ ρ xs b:=λz=>by obtain⟨_,_,o,_,_,_,_,h,w⟩:=z.own R;have e2:=R'.sub0 b o (by show YX σ ρ xs F H b=some o;rw[OK z];exact h);rw[e]at e2;cases e2;exact w
  rw[ZX n];exact e
 by_cases l:kX ρ xs=true
 .cases r with
  |fz d=>exact Da.noMut tp q<|hl l
  |ow d=>obtain⟨a,o,_,_,_,w,_⟩:=q;have:=hl l;rw[show (Sl.ow d).d=d from rfl,YY w]at this;cases this
  |io d=>exact q.elim
 .have e:SX σ ρ xs F'=F':=funext λb=>ZX λz=>l<|MZ z;rw[e];cases r with
  |fz d=>exact q
  |io d=>exact q.elim
  |ow d=>obtain⟨a,o,h1,h2,h3,h4,h5,_⟩:=q;refine⟨a,o,h1,h2,h3,h4,R.h0 h5,λi s es w z=>?_⟩;obtain⟨a',o',g1,_,g3,_⟩:=R.ow i s es w;rw[z]at g1;cases g1;have h5:H a=none:=h5;rw[h5]at g3;cases g3
theorem fk{E:XK}{Q:VK}(h:lift K (oW con as) σ H Q):cY (dQ K con) [] E (rQ<|as.map<|kQ K) σ H Q:=by
 obtain⟨G,F,ρ,Qd,R,w,k⟩:=h;refine wX R w λvs H1 F1 xs ρ1 s1 R1 o w1=>?_;obtain⟨ds,da,w1⟩:=sZ (xs:=xs) R1 (λy hy=>hy) o w1;rw[L1];refine⟨_,_,ds.map Sl.fz,_,zZ (PK R1) (yY R1) da,w1,λv H' F' r ρ' s' R' r' q=>?_⟩;obtain⟨sb,R2⟩:=R1.called R';have hq:(kX ρ1 xs=true->noMut r.d=true)/\Qd r ρ1:=by
  split at q
  .rename_i e;exact⟨λz=>(by rw[e]at z;cases z),q⟩
  .exact⟨λ_=>q.1,q.2⟩
 exact k v H' _ r ρ1 (s1.trans sb) R2 (Res.called R1 R' r' hq.1) hq.2
end
section
variable {K:Fg}{G:Gh}{F F':Hp}{σ:L2.St}{ρ:Ev}{xs:List vU}
noncomputable def MP(a:Addr):Nat->Option Addr:=λj=>if j=0 then some a else none
theorem WH(h:MP a j=some b):j=0/\b=a:=by
 unfold MP at h;split at h
 .rename_i z;cases h;exact⟨z,rfl⟩
 .cases h
theorem Sz{o:HO}(s:Sub F H)(h1:F a=none)(h2:H a=some o)(h3:Own1 K F o d)(tb:TabOk K F H)(da:DaAll K F vs ds):Rel K ⟨H,F,MP a⟩ F ((V.ref a::vs).map some) H ((Sl.io d::ds.map Sl.fz).map some) where
 len:=by simp[da.length]
 sub:=s
 sub0:=Sub.refl _
 fn:=λ_ _ e=>.inl e
 keep:=λ_ _ e _ _=>e
 tb:=tb
 fz:=λi d' e=>by
  cases i with
  |zero=>simp at e
  |succ i =>
   have e:((ds.map Sl.fz).map some)[i]?=some (some<|Sl.fz d'):=by simpa using e
   obtain⟨d2,e1,e2⟩:=cJ e;cases e2;obtain⟨v,g1,g2⟩:=da.get e1;exact⟨v,by simpa using g1,g2⟩
 ow:=λi s e w=>by
  cases i with
  |zero=>simp at e;subst e;exact⟨a,o,by simp,h1,h2,h3⟩
  |succ i =>
   have e:((ds.map Sl.fz).map some)[i]?=some (some s):=by simpa using e
   obtain⟨d2,e1,rfl⟩:=cJ e;cases w
 new:=λi d' b e _=>by
  cases i with
  |zero=>simp at e
  |succ i =>
   have e:((ds.map Sl.fz).map some)[i]?=some (some<|Sl.ow d'):=by simpa using e
   obtain⟨d2,e1,e2⟩:=cJ e;cases e2
 io:=λi b e=>by obtain⟨rfl,rfl⟩:=WH e;exact⟨d,by simp,by simp⟩
 ioi:=λi d' e=>by
  cases i with
  |zero=>exact⟨a,rfl⟩
  |succ i =>
   have e:((ds.map Sl.fz).map some)[i]?=some (some<|Sl.io d'):=by simpa using e
   obtain⟨d2,e1,e2⟩:=cJ e;cases e2
 ap:=λi j s t b e1 w1 e2 w2 _ _=>by
  have f:∀{i:Nat}{s:Sl},((Sl.io d::ds.map Sl.fz).map some)[i]?=some (some s)->YQ s=true->i=0:=λ{i s} e w=>by
   cases i with
   |zero=>rfl
   |succ i =>
    have e:((ds.map Sl.fz).map some)[i]?=some (some s):=by simpa using e
    obtain⟨d2,e1,rfl⟩:=cJ e;cases w
  rw[f e1 w1,f e2 w2]
theorem Rel.calledI(R:Rel K G F σ H ρ){i:Nat}{s:Sl}{a:Addr}{d':D}{σ1:L2.St}{ρ1:Ev}(e:ρ[i]?=some (some s))(w:YQ s=true)(ea:σ[i]?=some (some<|V.ref a))(R':Rel K ⟨H,F,MP a⟩ F' (some (V.ref a)::σ1) H' (some (Sl.io d')::ρ1)):Rel K G F' σ H' (ρ.set i<|some<|s.put d'):=by
 obtain⟨a0,o0,g1,g2,g3,g4⟩:=R.ow i s e w;rw[ea]at g1;cases g1;have sb:Sub F F':=R'.sub0;have hl:=sX e;have kp:∀{b:Addr}{o:HO},b≠a->(∀z∈TB K,z.1≠b)->H b=some o->H' b=some o:=λ{b o} n t q=>R'.keep b o q (λj z=>n (WH z).2) t;have ow':∀{j:Nat}{t:Sl},j≠i->ρ[j]?=some (some t)->YQ t=true->∃b o,σ[j]?=some (some<|V.ref b)/\F' b=none/\H' b=some o/\Own1 K F' o t.d:=λ{j t} n q wt=>by
  obtain⟨b,o,q1,q2,q3,q4⟩:=R.ow j t q wt;have nb:b≠a:=λz=>n<|R.ap j i t s a q wt e w (by rw[q1,z]) ea;refine⟨b,o,q1,?_,kp nb (R.tb.ne λu z=>by rw[q3]at z;cases z;exact q4.stk) q3,q4.mono sb⟩;cases z:F' b with
  |none=>rfl
  |some u =>
   rcases R'.fn b u z with y|y
   .have y:F b=some u:=y;rw[q2]at y;cases y
   .have y:H b=none:=y;rw[q3]at y;cases y
 refine⟨by rw[v5];exact R.len,R'.sub,R.sub0.trans sb,λb o q=>?_,λb o q n t=>?_,R'.tb,λj d q=>?_,λj t q wt=>?_,λj d b q eb=>?_,λj b q=>?_,λj d q=>?_,λj k t u b e1 w1 e2 w2 e3 e4=>?_⟩
 .rcases R'.fn b o q with y|y
  .exact R.fn b o y
  .exact .inr (R.h0 y)
 .refine kp (λz=>?_) t (R.keep b o q n t);subst z;cases s with
  |fz d=>cases w
  |ow d=>rw[R.new i d b e ea]at q;cases q
  |io d=>obtain⟨a',y⟩:=R.ioi i d e;obtain⟨_,_,y2⟩:=R.io i a' y;rw[ea]at y2;cases y2;exact n i y
 .rcases tQ q with⟨rfl,z⟩|⟨n,z⟩
  .cases s<;>simp[Sl.put,YQ]at z w
  .obtain⟨v,y1,y2⟩:=R.fz j d z;exact⟨v,y1,y2.mono sb⟩
 .rcases tQ q with⟨rfl,z⟩|⟨n,z⟩
  .cases z;obtain⟨b,o,y1,y2,y3,y4⟩:=R'.ow 0 (.io d') (by simp) rfl;simp at y1;subst y1;exact⟨a,o,ea,y2,y3,by cases s<;>first|exact y4|cases w⟩
  .exact ow' n z wt
 .rcases tQ q with⟨rfl,z⟩|⟨n,z⟩
  .cases s with
   |fz d=>cases w
   |ow d0=>exact R.new j d0 b e eb
   |io d0=>cases z
  .exact R.new j d b z eb
 .obtain⟨d,y1,y2⟩:=R.io j b q;by_cases z:j=i
  .subst z;rw[e]at y1;cases y1;exact⟨d',by rw[EJ hl];rfl,y2⟩
  .exact⟨d,by rw[Z0<|S2 z];exact y1,y2⟩
 .rcases tQ q with⟨rfl,z⟩|⟨n,z⟩
  .cases s with
   |fz d=>cases w
   |ow d0=>cases z
   |io d0=>exact R.ioi j d0 e
  .exact R.ioi j d z
 .have f:∀(j:Nat) (t:Sl),(ρ.set i<|some<|s.put d')[j]?=some (some t)->YQ t=true->∃t',ρ[j]?=some (some t')/\YQ t'=true:=λj t q wt=>by
   rcases tQ q with⟨rfl,z⟩|⟨n,z⟩
   .exact⟨s,e,w⟩
   .exact⟨t,z,wt⟩
  obtain⟨t',e1',w1'⟩:=f j t e1 w1;obtain⟨u',e2',w2'⟩:=f k u e2 w2;exact R.ap j k t' u' b e1' w1' e2' w2' e3 e4
theorem fZ(R:Rel K G F σ H ρ){ys:List vU}{vs:List V}{k:List D->Prop}(m:kX ρ ys=false)(o:OpdsAt K F σ vs ys)(h:TQ ρ ys k):∃ds,DaAll K F vs ds/\k ds:=by
 induction o generalizing k with
 |nil=>exact⟨[],.nil,h⟩
 |@cons v x vs ys o t ih =>
  cases x with
  |inr d=>obtain⟨ds,a,q⟩:=ih (k:=λds=>k (d::ds)) m h;exact⟨d::ds,.cons o a,q⟩
  |inl i =>
   unfold TQ at h;unfold kX at m;simp only[Bool.or_eq_false_iff]at m;split at h
   .rename_i s e;obtain⟨ds,a,q⟩:=ih (k:=λds=>k (s.d::ds)) m.2 h;refine⟨s.d::ds,.cons ?_ a,q⟩;have m1:=m.1;rw[e]at m1;cases s with
    |fz d=>obtain⟨v',e1,e2⟩:=R.fz i d e;have o:σ[i]?=some (some v):=o;rw[o]at e1;cases e1;exact e2
    |ow d=>cases m1
    |io d=>cases m1
   .exact h.elim
theorem ju{E:XK}{Q:VK}(h:lift K (YU con i as) σ H Q):cY (dQ K con) [] E (rQ<|(.inl i::as).map<|kQ K) σ H Q:=by
 obtain⟨G,F,ρ,Qd,R,w,k⟩:=h;unfold YU JX at w;split at w
 .rename_i s0 e0;obtain⟨v,ev⟩:=R.bound e0;refine⟨v,ev,wX R w λvs H1 F1 xs ρ1 s1 R1 o w1=>?_⟩;show dQ K con (v::vs++[]) H1 Q E;rw[L1];have w1:ck con i xs ρ1 Qd:=w1;unfold ck at w1;split at w1
  .rename_i s e;split at w1
   .rename_i p1 p2;obtain⟨a,o',g1,g2,g3,g4⟩:=R1.ow i s e p1;rw[ev]at g1;cases g1;obtain⟨ds,da,w1⟩:=fZ R1 p2 o w1;refine⟨_,F1,.io s.d::ds.map Sl.fz,_,Sz R1.sub g2 g3 g4 R1.tb da,w1,λv H' F' r ρ' s' R' r' q=>?_⟩;split at q
    .rename_i d' ρ2;have R2:=R1.calledI e p1 ev R';refine k v H' F' r _ (s1.trans s') R2 ?_ q;cases r with
     |fz d=>exact r'
     |io d=>exact r'.elim
     |ow d =>
      obtain⟨b,u,h1,h2,h3,h4,h5,_⟩:=r';have h5:H1 b=none:=h5;refine⟨b,u,h1,h2,h3,h4,R1.h0 h5,λj t es w z=>?_⟩;have own:∃t',ρ1[j]?=some (some t')/\YQ t'=true:=by
       rcases tQ es with⟨rfl,y⟩|⟨n,y⟩
       .exact⟨s,e,p1⟩
       .exact⟨t,y,w⟩
      obtain⟨t',y1,y2⟩:=own;obtain⟨a',o',q1,_,q3,_⟩:=R1.ow j t' y1 y2;rw[z]at q1;cases q1;rw[h5]at q3;cases q3
    .exact q.elim
   .exact w1.elim
  .exact w1.elim
 .exact w.elim
noncomputable def dJ(n:Nat)(args:List Sl):Ev:=args.map some++A0 (n-args.length) none
noncomputable def outs:List Sl->Ev->Ev
 |[],_=>[]
 | .io _::as,ρ=>(ρ.headD none)::outs as ρ.tail
 | .fz d::as,ρ=>some (.fz d)::outs as ρ.tail
 | .ow d::as,ρ=>some (.ow d)::outs as ρ.tail
theorem hZ{l:List (Option α)}{i:Nat}{x:α}(h:(l++A0 n none)[i]?=some (some x)):l[i]?=some (some x):=by
 by_cases z:i<l.length
 .rw[E3 z]at h;exact h
 .rw[Q2<|o8 z,v8]at h;split at h<;>cases h
theorem zY{l m:List α}{i:Nat}{x:α}(h:l[i]?=some x):(l++m)[i]?=some x:=by rw[E3<|sX h];exact h
theorem Rel.start(R:Rel K G F (vs.map some) H (args.map some)):Rel K G F (L2.start N vs) H (dJ N.length args) where
 len:=by have:=R.len;simp[L2.start,dJ]at this ⊢;lia
 sub:=R.sub
 sub0:=R.sub0
 fn:=R.fn
 keep:=R.keep
 tb:=R.tb
 fz:=λi d e=>by obtain⟨v,h1,h2⟩:=R.fz i d<|hZ e;exact⟨v,zY h1,h2⟩
 ow:=λi s e w=>by obtain⟨a,o,h1,h2⟩:=R.ow i s (hZ e) w;exact⟨a,o,zY h1,h2⟩
 new:=λi d a e ea=>R.new i d a (hZ e) (hZ ea)
 io:=λi a e=>by obtain⟨d,h1,h2⟩:=R.io i a e;exact⟨d,zY h1,zY h2⟩
 ioi:=λi d e=>R.ioi i d (hZ e)
 ap:=λi j s t a e1 w1 e2 w2 e3 e4=>R.ap i j s t a (hZ e1) w1 (hZ e2) w2 (hZ e3)<|hZ e4
theorem oJ:∀{args:List Sl}{ρ:Ev}{i:Nat}{s:Sl},(outs args ρ)[i]?=some (some s)->(∃d,args[i]?=some (.io d)/\ρ[i]?=some (some s))\/(args[i]?=some s/\∀d,s≠.io d)
 |[],ρ,i,s,h=>by simp[outs]at h
 | .io d::as,ρ,0,s,h=>by
  simp[outs]at h;cases ρ with
  |nil=>simp at h
  |cons x ρ=>simp at h;exact .inl ⟨d,by simp,by simp[h]⟩
 | .fz d::as,ρ,0,s,h=>by simp[outs]at h;subst h;exact .inr ⟨by simp,λd z=>by cases z⟩
 | .ow d::as,ρ,0,s,h=>by simp[outs]at h;subst h;exact .inr ⟨by simp,λd z=>by cases z⟩
 | .io d::as,ρ,i+1,s,h=>by
  simp only[outs,N4]at h;rcases oJ h with⟨d,h1,h2⟩|⟨h1,h2⟩
  .exact .inl ⟨d,by simpa using h1,by cases ρ with|nil=>simp at h2|cons x ρ=>simpa using h2⟩
  .exact .inr ⟨by simpa using h1,h2⟩
 | .fz d::as,ρ,i+1,s,h=>by
  simp only[outs,N4]at h;rcases oJ h with⟨d,h1,h2⟩|⟨h1,h2⟩
  .exact .inl ⟨d,by simpa using h1,by cases ρ with|nil=>simp at h2|cons x ρ=>simpa using h2⟩
  .exact .inr ⟨by simpa using h1,h2⟩
 | .ow d::as,ρ,i+1,s,h=>by
  simp only[outs,N4]at h;rcases oJ h with⟨d,h1,h2⟩|⟨h1,h2⟩
  .exact .inl ⟨d,by simpa using h1,by cases ρ with|nil=>simp at h2|cons x ρ=>simpa using h2⟩
  .exact .inr ⟨by simpa using h1,h2⟩
theorem YD:∀{args:List Sl}{ρ:Ev}{i:Nat}{d:D}{x:Option Sl},args[i]?=some (.io d)->ρ[i]?=some x->(outs args ρ)[i]?=some x
 |[],_,_,_,_,h,_=>by simp at h
 |_::_,[],_,_,_,_,h=>by simp at h
 |s::as,y::ρ,0,d,x,h,h'=>by simp at h h';subst h h';simp[outs]
 |s::as,y::ρ,i+1,d,x,h,h'=>by have:=YD (args:=as) (ρ:=ρ) (i:=i) (by simpa using h) (by simpa using h');cases s<;>simpa [outs]using this
theorem XH:∀(args:List Sl) (ρ:Ev),(outs args ρ).length=args.length
 |[],_=>rfl
 |s::as,ρ=>by cases s<;>simp[outs,XH as]
theorem gk{args:List Sl}{i:Nat}{s:Sl}(h:(args.map some)[i]?=some (some s)):args[i]?=some s:=by
 rw[E1]at h;cases e:args[i]? with
 |none=>rw[e]at h;cases h
 |some x=>rw[e]at h;cases h;rfl
theorem AY{args:List Sl}{i:Nat}{s:Sl}(h:args[i]?=some s):(args.map some)[i]?=some (some s):=by rw[E1,h];rfl
theorem Rel.ret{vs:List V}(hn:∀s∈args,∀d,s≠.ow d)(R:Rel K G F (vs.map some) H (args.map some))(sb:Sub F F')(R':Rel K G F' σ' H' ρ'):Rel K G F' (vs.map some) H' (outs args ρ'):=by
 have own:∀{i:Nat}{s:Sl},(outs args ρ')[i]?=some (some s)->YQ s=true->∃d a,args[i]?=some (.io d)/\ρ'[i]?=some (some s)/\G.io i=some a/\(vs.map some)[i]?=some (some<|V.ref a)/\σ'[i]?=some (some<|V.ref a):=λ{i s} e w=>by
  rcases oJ e with⟨d,h1,h2⟩|⟨h1,h2⟩
  .obtain⟨a,h3⟩:=R.ioi i d<|AY h1;obtain⟨_,_,h4⟩:=R.io i a h3;obtain⟨_,_,h5⟩:=R'.io i a h3;exact⟨d,a,h1,h2,h3,h4,h5⟩
  .cases s with
   |fz d=>cases w
   |ow d=>exact(hn _ (U1 h1) d rfl).elim
   |io d=>exact(h2 d rfl).elim
 refine⟨by rw[XH];simpa using R.len,R'.sub,R'.sub0,R'.fn,R'.keep,R'.tb,λi d e=>?_,λi s e w=>?_,λi d a e ea=>?_,λi a e=>?_,λi d e=>?_,λi j s t a e1 w1 e2 w2 e3 e4=>?_⟩
 .rcases oJ e with⟨d',h1,h2⟩|⟨h1,h2⟩
  .obtain⟨a,h3⟩:=R.ioi i d'<|AY h1;obtain⟨d2,h4,_⟩:=R'.io i a h3;rw[h2]at h4;cases h4
  .obtain⟨v,h3,h4⟩:=R.fz i d<|AY h1;exact⟨v,h3,h4.mono sb⟩
 .obtain⟨d,a,h1,h2,h3,h4,h5⟩:=own e w;obtain⟨b,o,g1,g2⟩:=R'.ow i s h2 w;rw[h5]at g1;cases g1;exact⟨a,o,h4,g2⟩
 .obtain⟨d',b,h1,h2,h3,h4,h5⟩:=own e rfl;rw[h4]at ea;cases ea;exact R'.new i d _ h2 h5
 .obtain⟨d,h1,h2⟩:=R.io i a e;obtain⟨d',h3,h4⟩:=R'.io i a e;exact⟨d',YD (gk h1) h3,h2⟩
 .obtain⟨d',a,h1,h2,h3,h4,h5⟩:=own e rfl;exact⟨a,h3⟩
 .obtain⟨_,a1,_,h2,_,h4,h5⟩:=own e1 w1;obtain⟨_,a2,_,g2,_,g4,g5⟩:=own e2 w2;rw[h4]at e3;cases e3;rw[g4]at e4;cases e4;exact R'.ap i j s t a h2 w1 g2 w2 h5 g5
theorem Res.ret{vs:List V}{r:Sl}(hn:∀s∈args,∀d,s≠.ow d)(R:Rel K G F (vs.map some) H (args.map some))(R':Rel K G F' σ' H' ρ')(q:Res K G F' H' σ' ρ' v r):Res K G F' H' (vs.map some) (outs args ρ') v r:=by
 cases r with
 |fz d=>exact q
 |io d=>exact q.elim
 |ow d =>
  obtain⟨a,o,h1,h2,h3,h4,h5,h6⟩:=q;refine⟨a,o,h1,h2,h3,h4,h5,λi s e w z=>?_⟩;rcases oJ e with⟨d',g1,g2⟩|⟨g1,g2⟩
  .obtain⟨b,g3⟩:=R.ioi i d'<|AY g1;obtain⟨_,_,g4⟩:=R.io i b g3;obtain⟨_,_,g5⟩:=R'.io i b g3;rw[g4]at z;cases z;exact h6 i s g2 w g5
  .cases s with
   |fz d=>cases w
   |ow d=>exact(hn _ (U1 g1) d rfl).elim
   |io d=>exact(g2 d rfl).elim
noncomputable def ZY(args:List Sl)(Qd:Sl->Ev->Prop):DE:={nx:=λρ=>Qd (.fz .none) (outs args ρ),rt:=λr ρ=>Qd r (outs args ρ),bk:=λ_=>False,ct:=λ_=>False}
theorem QC{ts:LZ}{Q:VK}{E:XK}(hc:∀args Qd,con args Qd->(∀s∈args,∀d,s≠.ow d)/\ts (ZY args Qd) (dJ N.length args))(h:dQ K con vs H Q E):oQ K ts {nx:=λ_ H'=>Q .non H',rt:=Q} (L2.start N vs) H:=by
 obtain⟨G,F,args,Qd,R,w,k⟩:=h;obtain⟨hn,w⟩:=hc args Qd w;refine⟨G,F,_,_,R.start,w,λσ' H' F' ρ' s R' q=>?_,λv σ' H' F' r ρ' s R' r' q=>?_,λ_ _ _ _ _ _ q=>q.elim,λ_ _ _ _ _ _ q=>q.elim⟩
 .exact k .non H' F' (.fz .none) _ s (R.ret hn s R') Da.non q
 .exact k v H' F' r _ s (R.ret hn s R') (r'.ret hn R R') q
end
section
variable {K:Fg}{F:Hp}{v:V}
theorem At.int(h:At K F H v (.int i)):v=.int i:=by
 rcases h with h|⟨a,o,rfl,_,_,h⟩
 .cases h;rfl
 .cases o<;>exact h.elim
theorem At.bool(h:At K F H v (.bool b)):v=.bl b:=by
 rcases h with h|⟨a,o,rfl,_,_,h⟩
 .cases h;rfl
 .cases o<;>exact h.elim
theorem At.str(h:At K F H v (.str x)):v=.str x:=by
 rcases h with h|⟨a,o,rfl,_,_,h⟩
 .cases h;rfl
 .cases o<;>exact h.elim
theorem At.none(h:At K F H v .none):v=.non:=by
 rcases h with h|⟨a,o,rfl,_,_,h⟩
 .cases h;rfl
 .cases o<;>exact h.elim
theorem At.list{ds:List D}(s:Sub F H)(h:At K F H v (.list ds)):∃a xs,v=.ref a/\H a=some (.lst xs)/\DaAll K F xs ds:=by
 rcases h with h|⟨a,o,rfl,_,e,h⟩
 .cases h with
  |lst e t=>exact⟨_,_,rfl,s _ _ e,t⟩
 .cases o<;>first|exact h.elim|exact⟨_,_,rfl,e,h⟩
theorem At.tuple{ds:List D}(s:Sub F H)(h:At K F H v (.tuple ds)):∃a xs,v=.ref a/\F a=some (.tup xs)/\H a=some (.tup xs)/\DaAll K F xs ds:=by
 rcases h with h|⟨a,o,rfl,_,e,h⟩
 .cases h with
  |tup e t=>exact⟨_,_,rfl,e,s _ _ e,t⟩
 .cases o<;>exact h.elim
theorem ZD(k:EQ):DJ k≠.none:=by cases k<;>(intro z;cases z)
theorem Da.scr_inv{ns:Qa}:∀{d:D},Da K F v d->d=SZ ns->∃a,v=.ref a/\SqL K F a (ns.map V.int)
 |_,.non,e=>by cases e
 |_,.bl _,e=>by cases e
 |_,.int _,e=>by cases e
 |_,.str _,e=>by cases e
 |_,.lst _ _,e=>by cases e
 |_,.tup _ _,e=>by cases e
 |_,.lam _ _,e=>by injection e with e;injection e with e _;injection e with e _;cases e
 |_,.fn,e=>by injection e with e;injection e with e _;injection e with e _;cases e
 |_,.dk _ t,e=>by
  cases t with
  |nil=>injection e with e;cases e
  |cons _ _=>injection e with e;injection e with e _;injection e with e _;exact(ZD _ e).elim
 |_,.dt _ t,e=>by
  cases t with
  |nil=>injection e with e;cases e
  |cons _ _=>injection e with e;injection e with e _;injection e with e _;cases e
 |_,.scr (ns:=ns') q,e=>by
  injection e with e;injection e with e _;injection e with _ e;injection e with e2;have:∀(l m:Qa),l.map p0=m.map p0->l=m:=by
   intro l;induction l with
   |nil=>intro m e;cases m with|nil=>rfl|cons=>simp at e
   |cons a l ih=>intro m e;cases m with|nil=>simp at e|cons b m=>simp at e;rw[e.1,ih m e.2]
  rw[<-this _ _ e2];exact⟨_,rfl,q⟩
theorem At.scr(s:Sub F H)(h:At K F H v (SZ ns)):∃a,v=.ref a/\SqL K H a (ns.map V.int):=by
 rcases h with h|⟨a,o,rfl,_,e,h⟩
 .obtain⟨a,h1,h2⟩:=h.scr_inv rfl;exact⟨a,h1,s.sql h2⟩
 .exfalso;cases o<;>first|exact h.elim|skip
  .rename_i kvs;have h:DaKV K F kvs [(.none,.list<|ns.map p0)]:=h;generalize q:[(X5,M5<|ns.map p0)]=es at h;cases h with
   |nil=>cases q
   |cons _ _=>injection q with q _;injection q with q _;exact ZD _ q.symm
  .rename_i kvs;have h:DaKT K F kvs [(.none,.list<|ns.map p0)]:=h;cases h
theorem AtAll.one(h:AtAll K F H vs [d]):∃v,vs=[v]/\At K F H v d:=by cases h with|cons a t=>cases t;exact⟨_,rfl,a⟩
theorem AtAll.two(h:AtAll K F H vs [d,e]):∃v u,vs=[v,u]/\At K F H v d/\At K F H u e:=by cases h with|cons a t=>cases t with|cons b t=>cases t;exact⟨_,_,rfl,a,b⟩
end
def kY(r:R2):List V->Hp->VK->Prop:=λvs H Q=>∃x y,vs=[x,y]/\r x y H Q
def dS(r:V->Hp->VK->Prop):List V->Hp->VK->Prop:=λvs H Q=>∃x,vs=[x]/\r x H Q
theorem YH{K:Fg}{r:R2}(h:∀(G:Gh) (F:Hp) (σ:L2.St) (H:Hp) (ρ:Ev) (x y:V) (d e:D) (Q:VK) (Qd:Sl->Prop),Rel K G F σ H ρ->At K F H x d->At K F H y e->f d e Qd ->(∀v H' F' s,Sub F F'->Rel K G F' σ H' ρ->Res K G F' H' σ ρ v s->Qd s->Q v H')->r x y H Q):OQ K (kY r) (o2 f):=by
 intro G F σ H ρ vs ds Q Qd R a w k;match ds,a,w with
 |[d,e],a,w=>obtain⟨v,u,rfl,h1,h2⟩:=a.two;exact⟨v,u,rfl,h G F σ H ρ v u d e Q Qd R h1 h2 w k⟩
theorem ZH{K:Fg}{r:List V->Hp->VK->Prop}(h:∀(G:Gh) (F:Hp) (σ:L2.St) (H:Hp) (ρ:Ev) (x:V) (d:D) (Q:VK) (Qd:Sl->Prop),Rel K G F σ H ρ->At K F H x d->f d Qd ->(∀v H' F' s,Sub F F'->Rel K G F' σ H' ρ->Res K G F' H' σ ρ v s->Qd s->Q v H')->r [x] H Q):OQ K r (o1 f):=by
 intro G F σ H ρ vs ds Q Qd R a w k;match ds,a,w with
 |[d],a,w=>obtain⟨v,rfl,h1⟩:=a.one;exact h G F σ H ρ v d Q Qd R h1 w k
noncomputable def fI(C:Int->Int->Prop)(g:Int->Int->D):D->D->(Sl->Prop)->Prop
 | .int i,.int j,Q=>C i j/\Q (.fz<|g i j)
 |_,_,_=>False
noncomputable def ly(g:Int->Int->D):D->D->(Sl->Prop)->Prop
 | .int i,.int j,Q=>Q<|.fz<|g i j
 |_,_,_=>False
theorem aL{K:Fg}{g:Int->Int->V}(hg:∀F i j,Da K F (g i j)<|g' i j):OQ K (kY<|rI C g) (o2<|fI C g'):=YH λG F σ H ρ x y d e Q Qd R h1 h2 w k=>by
 cases d<;>first|exact w.elim|skip
 cases e<;>first|exact w.elim|skip
 case int.int i j=>cases h1.int;cases h2.int;exact⟨i,j,rfl,rfl,w.1,k _ H F (.fz _) (Sub.refl _) R (hg F i j) w.2⟩
theorem aG{K:Fg}{g:Int->Int->V}(hg:∀F i j,Da K F (g i j)<|g' i j):OQ K (kY<|vW g) (o2<|ly g'):=YH λG F σ H ρ x y d e Q Qd R h1 h2 w k=>by
 cases d<;>first|exact w.elim|skip
 cases e<;>first|exact w.elim|skip
 case int.int i j=>cases h1.int;cases h2.int;exact⟨i,j,rfl,rfl,k _ H F (.fz _) (Sub.refl _) R (hg F i j) w⟩
def rAny(r r':R2):R2:=λx y H Q=>r x y H Q\/r' x y H Q
def ik:R2:=λx y H Q=>∃(a b:Addr) (xs ys:List V),x=.ref a/\y=.ref b/\H a=some (.tup xs)/\H b=some (.tup ys)/\xs.length+ys.length<=sizeLine /\
 (xs=[]->Q (.ref b) H)/\(xs≠[]->ys=[]->Q (.ref a) H)/\(xs≠[]->ys≠[]->∀p,H p=none->Q (.ref p) (upd H p<|.tup<|xs++ys))
noncomputable def bO:D->D->(Sl->Prop)->Prop
 | .int i,.int j,Q=>Q<|.fz<|.int<|i+j
 | .tuple xs,.tuple ys,Q=>xs.length+ys.length<=sizeLine/\Q (.fz<|.tuple<|xs++ys)
 | .list xs,.list ys,Q=>xs.length+ys.length<=sizeLine/\Q (.ow<|.list<|xs++ys)
 |_,_,_=>False
theorem DaAll.nil_of{K:Fg}(h:DaAll K F [] ds):ds=[]:=by cases h;rfl
theorem bL{K:Fg}:OQ K (kY<|rAny (vW λi j=>.int<|i+j)<|rAny ik xI) (o2 bO):=YH λG F σ H ρ x y d e Q Qd R h1 h2 w k=>by
 cases d<;>first|exact w.elim|(cases e<;>first|exact w.elim|skip)
 case int.int i j=>cases h1.int;cases h2.int;exact .inl ⟨i,j,rfl,rfl,k _ H F (.fz _) (Sub.refl _) R (Da.int _) w⟩
 case tuple.tuple xs ys =>
  obtain⟨a,us,rfl,f1,e1,d1⟩:=h1.tuple R.sub;obtain⟨b,ws,rfl,f2,e2,d2⟩:=h2.tuple R.sub;refine .inr<|.inl ⟨a,b,us,ws,rfl,rfl,e1,e2,by rw[d1.length,d2.length];exact w.1,λz=>?_,λ_ z=>?_,λ_ _ p hp=>?_⟩
  .subst z;have:=d1.nil_of;subst this;exact k _ H F (.fz _) (Sub.refl _) R (Da.tup f2 d2) w.2
  .subst z;have:=d2.nil_of;subst this;refine k _ H F (.fz _) (Sub.refl _) R (Da.tup f1 d1) ?_;have:=w.2;rw[L1]at this;exact this
  .obtain⟨sb,R',dd⟩:=R.newTup hp<|d1.append d2;exact k _ _ _ (.fz _) sb R' dd w.2
 case list.list xs ys=>obtain⟨a,us,rfl,e1,d1⟩:=h1.list R.sub;obtain⟨b,ws,rfl,e2,d2⟩:=h2.list R.sub;refine .inr<|.inr ⟨a,b,us,ws,rfl,rfl,e1,e2,by rw[d1.length,d2.length];exact w.1,λp hp=>?_⟩;obtain⟨R',r'⟩:=R.newOw (o:=.lst<|us++ws) (d:=.list<|xs++ys) hp<|d1.append d2;exact k _ _ F _ (Sub.refl _) R' r' w.2
noncomputable def cO:D->D->(Sl->Prop)->Prop
 | .int i,.int j,Q=>CMul i j/\Q (.fz<|.int<|i*j)
 | .list xs,.int k,Q=>-(2 ^ 63)<=k/\k<2 ^ 63/\xs.length*k.toNat<=sizeLine/\Q (.ow<|.list (A0 k.toNat xs).flatten)
 |_,_,_=>False
theorem cL{K:Fg}:OQ K (kY<|rAny (rI CMul λi j=>.int<|i*j) AI) (o2 cO):=YH λG F σ H ρ x y d e Q Qd R h1 h2 w k=>by
 cases d<;>first|exact w.elim|(cases e<;>first|exact w.elim|skip)
 case int.int i j=>cases h1.int;cases h2.int;exact .inl ⟨i,j,rfl,rfl,w.1,k _ H F (.fz _) (Sub.refl _) R (Da.int _) w.2⟩
 case list.int xs j=>cases h2.int;obtain⟨a,us,rfl,e1,d1⟩:=h1.list R.sub;refine .inr ⟨a,j,us,rfl,rfl,e1,w.1,w.2.1,by rw[d1.length];exact w.2.2.1,λp hp=>?_⟩;obtain⟨R',r'⟩:=R.newOw (o:=.lst (A0 j.toNat us).flatten) (d:=.list (A0 j.toNat xs).flatten) hp<|d1.rep _;exact k _ _ F _ (Sub.refl _) R' r' w.2.2.2
noncomputable def dO:D->(Sl->Prop)->Prop
 | .list ds,Q=>Q<|.fz<|.int ds.length
 | .tuple ds,Q=>Q<|.fz<|.int ds.length
 | .dict [(.none,.list ds)],Q=>∃ns:Qa,ds=ns.map p0/\Q (.fz<|.int ns.length)
 |_,_=>False
theorem rF{K:Fg}:OQ K (SN K) (o1 dO):=ZH λG F σ H ρ x d Q Qd R h1 w k=>by
 cases d<;>first|exact w.elim|skip
 case list ds=>obtain⟨a,us,rfl,e1,d1⟩:=h1.list R.sub;exact⟨a,us,rfl,.inl<|SqL.of e1,k _ H F (.fz _) (Sub.refl _) R (Da.int _)<|by rw[d1.length];exact w⟩
 case tuple ds=>obtain⟨a,us,rfl,_,e1,d1⟩:=h1.tuple R.sub;exact⟨a,us,rfl,.inr<|SqT.of e1,k _ H F (.fz _) (Sub.refl _) R (Da.int _)<|by rw[d1.length];exact w⟩
 case dict es =>
  rcases es with _|⟨⟨c1,c2⟩,_|⟨c3,c4⟩⟩
  .exact w.elim
  .cases c1<;>first|exact w.elim|skip
   cases c2<;>first|exact w.elim|skip
   obtain⟨ns,rfl,w⟩:=w;obtain⟨a,rfl,q⟩:=h1.scr R.sub;exact⟨a,_,rfl,.inl q,k _ H F (.fz _) (Sub.refl _) R (Da.int _)<|by rw[B0];exact w⟩
  .cases c1<;>first|exact w.elim|(cases c2<;>exact w.elim)
noncomputable def qR:D->D->(Sl->Prop)->Prop
 | .list ds,.int i,Q=>∃d,gK ds i=some d/\Q (.fz d)
 | .tuple ds,.int i,Q=>∃d,gK ds i=some d/\Q (.fz d)
 | .dict [(.none,.list ds)],.int i,Q=>∃(ns:Qa) (n:Int),ds=ns.map p0/\gK ns i=some n/\Q (.fz<|.int n)
 |_,_,_=>False
theorem DaAll.at{K:Fg}(h:DaAll K F xs ds)(e:gK ds i=some d):∃v,gK xs i=some v/\Da K F v d:=by
 unfold gK at e ⊢;rw[h.length];cases q:GC ds.length i with
 |none=>rw[q]at e;cases e
 |some j=>rw[q]at e;exact h.get e
theorem CW(f:α->β){l:List α}{i:Int}{x:α}(h:gK l i=some x):gK (l.map f) i=some (f x):=by
 unfold gK at h ⊢;rw[B0];cases q:GC l.length i with
 |none=>rw[q]at h;cases h
 |some j=>rw[q]at h;simp at h ⊢;exact⟨x,h,rfl⟩
theorem eO{K:Fg}:OQ K (kY<|rAny (Gy K)<|Hy K) (o2 qR):=YH λG F σ H ρ x y d e Q Qd R h1 h2 w k=>by
 cases d<;>first|exact w.elim|skip
 case list ds =>
  cases e<;>first|exact w.elim|skip
  rename_i i;obtain⟨d,w1,w2⟩:=w;cases h2.int;obtain⟨a,us,rfl,e1,d1⟩:=h1.list R.sub;obtain⟨v,g1,g2⟩:=d1.at w1;exact .inl ⟨a,us,i,v,rfl,rfl,SqL.of e1,g1,k _ H F (.fz _) (Sub.refl _) R g2 w2⟩
 case tuple ds =>
  cases e<;>first|exact w.elim|skip
  rename_i i;obtain⟨d,w1,w2⟩:=w;cases h2.int;obtain⟨a,us,rfl,_,e1,d1⟩:=h1.tuple R.sub;obtain⟨v,g1,g2⟩:=d1.at w1;exact .inr ⟨a,us,i,v,rfl,rfl,SqT.of e1,g1,k _ H F (.fz _) (Sub.refl _) R g2 w2⟩
 case dict es =>
  rcases es with _|⟨⟨c1,c2⟩,_|⟨c3,c4⟩⟩
  .exact w.elim
  .cases c1<;>first|exact w.elim|skip
   cases c2<;>first|exact w.elim|skip
   cases e<;>first|exact w.elim|skip
   rename_i i;obtain⟨ns,n,e,w1,w2⟩:=w;subst e;cases h2.int;obtain⟨a,rfl,q⟩:=h1.scr R.sub;exact .inl ⟨a,_,i,_,rfl,rfl,q,CW V.int w1,k _ H F (.fz _) (Sub.refl _) R (Da.int _) w2⟩
  .cases c1<;>first|exact w.elim|(cases c2<;>exact w.elim)
noncomputable def fO:D->(Sl->Prop)->Prop
 | .list ds,Q=>Q<|.ow<|.list ds
 | .tuple ds,Q=>Q<|.ow<|.list ds
 |_,_=>False
theorem QK{K:Fg}:OQ K (WD K) (o1 fO):=ZH λG F σ H ρ x d Q Qd R h1 w k=>by
 match d,h1,w with
 | .list ds,h1,w=>obtain⟨a,us,rfl,e1,d1⟩:=h1.list R.sub;refine⟨a,us,rfl,.inl<|SqL.of e1,λp hp=>?_⟩;obtain⟨R',r'⟩:=R.newOw (o:=.lst us) (d:=.list ds) hp d1;exact k _ _ F _ (Sub.refl _) R' r' w
 | .tuple ds,h1,w=>obtain⟨a,us,rfl,_,e1,d1⟩:=h1.tuple R.sub;refine⟨a,us,rfl,.inr<|SqT.of e1,λp hp=>?_⟩;obtain⟨R',r'⟩:=R.newOw (o:=.lst us) (d:=.list ds) hp d1;exact k _ _ F _ (Sub.refl _) R' r' w
noncomputable def jk:D->(Sl->Prop)->Prop
 | .list ds,Q=>Q<|.fz<|.tuple ds
 | .tuple ds,Q=>Q<|.fz<|.tuple ds
 |_,_=>False
theorem nk{K:Fg}:OQ K (NH K) (o1 jk):=ZH λG F σ H ρ x d Q Qd R h1 w k=>by
 match d,h1,w with
 | .list ds,h1,w=>obtain⟨a,us,rfl,e1,d1⟩:=h1.list R.sub;refine⟨a,us,rfl,.inl ⟨SqL.of e1,λp hp=>?_⟩⟩;obtain⟨sb,R',dd⟩:=R.newTup hp d1;exact k _ _ _ (.fz _) sb R' dd w
 | .tuple ds,h1,w=>obtain⟨a,us,rfl,f1,e1,d1⟩:=h1.tuple R.sub;exact⟨a,us,rfl,.inr ⟨SqT.of e1,k _ H F (.fz _) (Sub.refl _) R (Da.tup f1 d1) w⟩⟩
noncomputable def rR:D->(Sl->Prop)->Prop
 | .list ds,Q=>∃bs:List Bool,ds=bs.map PyData.bool/\Q (.fz<|.bool<|bs.all id)
 |_,_=>False
theorem DaAll.bools{K:Fg}{F:Hp}:∀{xs:List V}{bs:List Bool},DaAll K F xs (bs.map PyData.bool)->xs=bs.map V.bl
 |[],[],_=>rfl
 |x::xs,b::bs,.cons h t=>by cases h;simp[DaAll.bools t]
theorem fV{K:Fg}:OQ K (JI K) (o1 rR):=ZH λG F σ H ρ x d Q Qd R h1 w k=>by
 match d,h1,w with
 | .list ds,h1,⟨bs,e,w⟩=>subst e;obtain⟨a,us,rfl,e1,d1⟩:=h1.list R.sub;have:=d1.bools;subst this;exact⟨a,bs,rfl,SqL.of e1,k _ H F (.fz _) (Sub.refl _) R (Da.bl _) w⟩
noncomputable def eS:D->Ki
 | .none=>.non
 | .bool _=>.bl
 | .int _=>.int
 | .str _=>.str
 | .list _=>.lst
 | .tuple _=>.tup
 | .dict ((.none,_)::_)=>.lst
 | .dict _=>.dct
noncomputable def dL(T:Ki):D->(Sl->Prop)->Prop
 | .dict _,_=>False
 |d,Q=>Q<|.fz<|.bool<|(eS d).sub T
theorem eL{K:Fg}{T:Ki}:OQ K (λvs H Q=>∃x,vs=[x]/\Gz K [x,.ty T.nm] H Q) (o1<|dL T):=ZH λG F σ H ρ x d Q Qd R h1 w k=>by
 have go:∀(ki:Ki),KiOf K H x ki->Qd (.fz<|.bool<|ki.sub T)->∃x',[x]=[x']/\Gz K [x',.ty T.nm] H Q:=λki h w=>⟨x,rfl,x,ki,T,rfl,h,k _ H F (.fz _) (Sub.refl _) R (Da.bl _) w⟩;match d,h1,w with
 | .none,h1,w=>cases h1.none;exact go .non rfl w
 | .bool b,h1,w=>cases h1.bool;exact go .bl rfl w
 | .int i,h1,w=>cases h1.int;exact go .int rfl w
 | .str z,h1,w=>cases h1.str;exact go .str rfl w
 | .list ds,h1,w=>obtain⟨a,us,rfl,e1,d1⟩:=h1.list R.sub;exact go .lst (.inl ⟨rfl,us,SqL.of e1⟩) w
 | .tuple ds,h1,w=>obtain⟨a,us,rfl,_,e1,d1⟩:=h1.tuple R.sub;exact go .tup (.inr<|.inl ⟨rfl,us,SqT.of e1⟩) w
noncomputable def sR:D->(Sl->Prop)->Prop
 | .int i,Q=>Q<|.fz<|.int<|if i<0 then -i else i
 |_,_=>False
theorem sF{K:Fg}:OQ K (λxs H Q=>∃i,xs=[V.int i]/\Q (V.int<|if i<0 then -i else i) H) (o1 sR):=ZH λG F σ H ρ x d Q Qd R h1 w k=>by
 match d,h1,w with
 | .int i,h1,w=>cases h1.int;exact⟨i,rfl,k _ H F (.fz _) (Sub.refl _) R (Da.int _) w⟩
theorem qk{K:Fg}:OQ K (λxs H Q=>∃i j,xs=[V.int i,V.int j]/\Q (V.int<|g i j) H) (o2<|ly λi j=>.int<|g i j):=by
 intro G F σ H ρ vs ds Q Qd R a w k;match ds,a,w with
 |[d,e],a,w =>
  obtain⟨v,u,rfl,h1,h2⟩:=a.two;have w:ly (λi j=>.int<|g i j) d e Qd:=w;unfold ly at w;split at w
  rotate_left
  .exact w.elim
  rename_i i j w;cases h1.int;cases h2.int;exact⟨i,j,rfl,k _ H F (.fz _) (Sub.refl _) R (Da.int _) w⟩
noncomputable def tR:D->(Sl->Prop)->Prop
 | .int i,Q=>Q<|.fz<|.int i
 | .bool b,Q=>Q<|.fz<|.int<|if b then 1 else 0
 |_,_=>False
theorem tF{K:Fg}:OQ K (λxs H Q=>(∃i,xs=[V.int i]/\Q (V.int i) H)\/∃k,xs=[V.bl k]/\Q (V.int<|if k then 1 else 0) H) (o1 tR):=ZH λG F σ H ρ x d Q Qd R h1 w k=>by
 match d,h1,w with
 | .int i,h1,w=>cases h1.int;exact .inl ⟨i,rfl,k _ H F (.fz _) (Sub.refl _) R (Da.int _) w⟩
 | .bool b,h1,w=>cases h1.bool;exact .inr ⟨b,rfl,k _ H F (.fz _) (Sub.refl _) R (Da.int _) w⟩
noncomputable def iO:D->(Sl->Prop)->Prop
 | .int i,Q=>Q<|.fz<|.int<|-i
 |_,_=>False
theorem fL{K:Fg}:OQ K (dS<|rU λi=>.int<|-i) (o1 iO):=ZH λG F σ H ρ x d Q Qd R h1 w k=>by
 match d,h1,w with
 | .int i,h1,w=>cases h1.int;exact⟨_,rfl,i,rfl,k _ H F (.fz _) (Sub.refl _) R (Da.int _) w⟩
def Tz(as:List AD)(f:List D->(Sl->Prop)->Prop):TD:=λρ Q=>JX as ρ λxs ρ1=>match kX ρ1 xs with
 |false=>TQ ρ1 xs λds=>f ds λr=>Q r ρ1
 |true=>False
def sk(ds:List D)(Q:Sl->Prop):Prop:=Q<|.fz<|.tuple ds
def uk(ds:List D)(Q:Sl->Prop):Prop:=Q<|.ow<|.list ds
theorem fQ(h:n<=1000):n<=sizeLine:=T1 h (by decide)
theorem jO{K:Fg}(hl:as.length<=1000){σ:L2.St}{H:Hp}{Q:VK}(h:lift K (Tz as sk) σ H Q):oI (rQ<|as.map<|kQ K) σ H Q:=by
 obtain⟨G,F,ρ,Qd,R,w,k⟩:=h;refine qK R w λvs H' F' xs ρ' sb R' o hn q=>?_;split at q
 .rename_i e;obtain⟨ds,da,q⟩:=fZ R' e o q;refine⟨fQ<|by lia,λp hp=>?_⟩;obtain⟨s2,R2,dd⟩:=R'.newTup hp da;exact k _ _ _ (.fz _) _ (sb.trans s2) R2 dd q
 .exact q.elim
theorem kO{K:Fg}(hl:as.length<=1000){σ:L2.St}{H:Hp}{Q:VK}(h:lift K (Tz as uk) σ H Q):pI (rQ<|as.map<|kQ K) σ H Q:=by
 obtain⟨G,F,ρ,Qd,R,w,k⟩:=h;refine qK R w λvs H' F' xs ρ' sb R' o hn q=>?_;split at q
 .rename_i e;obtain⟨ds,da,q⟩:=fZ R' e o q;refine⟨fQ<|by lia,λp hp=>?_⟩;obtain⟨R2,r2⟩:=R'.newOw (o:=.lst vs) (d:=.list ds) hp da;exact k _ _ _ _ _ sb R2 r2 q
 .exact q.elim
def uF(p q:Int->Int->Bool)(a b c:AD):TD:=λρ Q=>JX [a,b] ρ λxs ρ1=>TQ ρ1 xs λds=>match ds with
 | [.int i,.int j]=>if p i j=true then JX [c] ρ1 λys ρ2=>TQ ρ2 ys λes=>match es with
   |[.int k]=>Q (.fz<|.bool<|q j k) ρ2
   |_=>False
  else Q (.fz<|.bool false) ρ1
 |_=>False
theorem ku{K:Fg}{p:Int->Int->Bool}{Q:VK}(h:lift K (uF p q a b c) σ H Q):YG (vW λi j=>.bl<|p i j) (vW λi j=>.bl<|q i j) (kQ K a) (kQ K b) (kQ K c) σ H Q:=by
 obtain⟨G,F,ρ,Qd,R,w,k⟩:=h;have main:rQ ([a,b].map (kQ K)) σ H λvs H2=>∃x y,vs=[x,y]/\(vW λi j=>V.bl<|p i j) x y H2 λz H3=>∃k,z=.bl k /\
   (if k=true then kQ K c σ H3 λw' H4=>(vW λi j=>V.bl<|q i j) y w' H4 Q else Q (.bl false) H3):=by
  refine wX R w λvs H' F' xs ρ' sb R' o w1=>?_;obtain⟨ds,ha,w1⟩:=mJ R' o w1;split at w1
  .rename_i i j;obtain⟨v,u,rfl,h1,h2⟩:=ha.two;cases h1.int;cases h2.int;refine⟨_,_,rfl,i,j,rfl,rfl,p i j,rfl,?_⟩;by_cases e:p i j=true
   .rw[if_pos e]at w1 ⊢;have:=wX (as:=[c]) (Qv:=λvs H4=>∃w',vs=[w']/\(vW λi j=>V.bl<|q i j) (V.int j) w' H4 Q) R' w1 λvs H2 F2 ys ρ2 s2 R2 o2 w2=>by
     obtain⟨es,hb,w2⟩:=mJ R2 o2 w2;split at w2
     .rename_i k';obtain⟨v,rfl,h3⟩:=hb.one;cases h3.int;exact⟨_,rfl,j,k',rfl,rfl,k _ H2 F2 (.fz _) ρ2 (sb.trans s2) R2 (Da.bl _) w2⟩
     .exact w2.elim
    exact PH this
   .rw[if_neg e]at w1 ⊢;exact k _ H' F' (.fz _) ρ' sb R' (Da.bl _) w1
  .exact w1.elim
 exact QH main
def wU(i:Nat)(as:List AD)(f:List D->List D->(D->D->Prop)->Prop):TD:=λρ Q=>match ρ[i]? with
 |some (some s0)=>match s0.d,YQ s0 with
  | .list _,true=>JX as ρ λxs ρ1=>match ρ1[i]?,kX ρ1 xs with
   |some (some s),false=>match s.d,YQ s with
    | .list es,true=>TQ ρ1 xs λds=>f es ds λd' r=>Q (.fz r)<|ρ1.set i<|some<|s.put d'
    |_,_=>False
   |_,_=>False
  |_,_=>False
 |_=>False
def lu(K:Fg)(r:V->List V->Hp->VK->Prop)(f:List D->List D->(D->D->Prop)->Prop):Prop :=
 ∀(F H:Hp) (a:Addr) (xs:List V) (es:List D) (vs:List V) (ds:List D) (Q:VK) (k:D->D->Prop),Sub F H->H a=some (.lst xs)->DaAll K F xs es->DaAll K F vs ds->f es ds k ->
  (∀v o' d' res,Own1 K F o' d'->Da K F v res->k d' res->Q v (upd H a o'))->r (.ref a) vs H Q
theorem xk{K:Fg}(ok:lu K r f){σ:L2.St}{H:Hp}{Q:VK}(h:lift K (wU i as f) σ H Q):∃a xs,σ[i]?=some (some<|V.ref a)/\SqL K H a xs/\rQ (as.map<|kQ K) σ H λvs H2=>r (.ref a) vs H2 Q:=by
 obtain⟨G,F,ρ,Qd,R,w,k⟩:=h;unfold wU at w;split at w
 .rename_i s0 e0;split at w
  .rename_i es0 p1 p2;obtain⟨a,o,g1,g2,g3,g4⟩:=R.ow i s0 e0 p2;have gl:∃xs,H a=some (.lst xs):=by
    rw[p1]at g4;cases o<;>first|exact g4.elim|exact⟨_,g3⟩
   obtain⟨xs0,gl⟩:=gl;refine⟨a,xs0,g1,SqL.of gl,wX R w λvs H1 F1 xs ρ1 s1 R1 o1 w1=>?_⟩;split at w1
   .rename_i s e en;split at w1
    .rename_i es q1 q2;obtain⟨ds,da,w1⟩:=fZ R1 en o1 w1;obtain⟨a',o',h1,h2,h3,h4⟩:=R1.ow i s e q2;rw[g1]at h1;cases h1;rw[q1]at h4;have hl:∃us,o'=.lst us/\DaAll K F1 us es:=by cases o'<;>first|exact h4.elim|exact⟨_,rfl,h4⟩
     obtain⟨us,rfl,h4⟩:=hl;refine ok F1 H1 a us es vs ds Q _ R1.sub h3 h4 da w1 λv o2 d2 res ho hv hk=>?_;have R2:=R1.change (o':=o2) (d':=d2) e q2 g1 ho;exact k v _ F1 (.fz res) _ s1 R2 hv hk
    .exact w1.elim
   .exact w1.elim
  .exact w.elim
 .exact w.elim
noncomputable def nu:List D->List D->(D->D->Prop)->Prop
 |es,[x],k=>es.length<sizeLine/\k (.list<|es++[x]) .none
 |_,_,_=>False
theorem BX{K:Fg}:lu K MD nu:=by
 intro F H a xs es vs ds Q k s e d1 d2 w q;match ds,d2,w with
 |[x],.cons h .nil,w=>exact⟨a,xs,_,rfl,rfl,e,by rw[d1.length];exact w.1,q _ (.lst<|xs++[_]) (.list<|es++[x]) _ (d1.append<|.cons h .nil) .non w.2⟩
noncomputable def ou:List D->List D->(D->D->Prop)->Prop
 |es,[.list ys],k=>es.length+ys.length<=sizeLine/\k (.list<|es++ys) .none
 |_,_,_=>False
theorem Uz{K:Fg}:lu K ND ou:=by
 intro F H a xs es vs ds Q k s e d1 d2 w q;match ds,d2,w with
 |[.list ys],.cons h .nil,w =>
  cases h with
  |lst e2 t=>exact⟨a,_,xs,_,rfl,rfl,e,s _ _ e2,by rw[d1.length,t.length];exact w.1,q _ (.lst<|xs++_) (.list<|es++ys) _ (d1.append t) .non w.2⟩
noncomputable def wS:List D->List D->(D->D->Prop)->Prop
 |es,[],k=>∃d,es[es.length-1]?=some d/\k (.list es.dropLast) d
 |_,_,_=>False
noncomputable def yk:List D->List D->(D->D->Prop)->Prop
 |es,[],k=>k (.list es.reverse) .none
 |_,_,_=>False
theorem vF{K:Fg}:lu K EH yk:=by
 intro F H a xs es vs ds Q k s e d1 d2 w q;match ds,d2,w with
 |[],.nil,w=>exact⟨a,xs,rfl,rfl,e,q .non (.lst xs.reverse) (.list es.reverse) .none d1.reverse .non w⟩
noncomputable def qu:List D->List D->(D->D->Prop)->Prop
 |es,[.int i,x],k=>es.length<sizeLine/\0<=i/\i<=es.length/\k (.list (es.take i.toNat++x::es.drop i.toNat)) .none
 |_,_,_=>False
theorem Vz{K:Fg}:lu K VD qu:=by
 intro F H a xs es vs ds Q k s e d1 d2 w q;rcases ds with _|⟨d,_|⟨x,_|⟨e3,ds⟩⟩⟩<;>first|exact w.elim|(cases d<;>first|exact w.elim|skip)
 .rename_i i;cases d2 with|cons h t=>?_
  cases t with|cons h' t=>?_
  cases t;cases h;exact⟨a,xs,i,_,rfl,rfl,e,by rw[d1.length];exact w.1,w.2.1,by rw[d1.length];exact w.2.2.1,q .non (.lst (xs.take i.toNat++_::xs.drop i.toNat)) (.list _) .none ((d1.take _).append<|.cons h'<|d1.drop _) .non w.2.2.2⟩
def gL(K:Fg)(tl:TE):TI:=λσ H R=>tl σ H λx H1=>∃a,x=.ref a/\(((∃xs,SqL K H1 a xs)/\R (cR K a) H1)\/((∃xs,SqT K H1 a xs)/\R (dR K a) H1))
noncomputable def zk(a:TD):OG:=λρ Q=>a ρ λr ρ1=>match r.d with
 | .list ds=>Q ds ρ1
 | .tuple ds=>Q ds ρ1
 |_=>False
theorem hV{K:Fg}(e:F a=some (.lst xs))(h:DaAll K F xs ds):Walks K (cR K a) F ds:=λi H F1 s1 s2=>by have q:=SqL.of (K:=K)<|s2 _ _<|s1 _ _ e;refine⟨λd ed=>?_,λhl=>⟨xs,q,by rw[h.length];lia⟩⟩;obtain⟨v,h1,h2⟩:=h.get ed;refine⟨⟨xs,v,q,h1⟩,λx H' ⟨e1,e2⟩=>?_⟩;subst e1;have:=e2 xs q;rw[h1]at this;cases this;exact⟨F1,Sub.refl _,λ_ _ z=>.inl z,s2,Sub.refl _,h2.mono s1⟩
theorem Wz{K:Fg}(e:F a=some (.tup xs))(h:DaAll K F xs ds):Walks K (dR K a) F ds:=λi H F1 s1 s2=>by have q:=SqT.of (K:=K)<|s2 _ _<|s1 _ _ e;refine⟨λd ed=>?_,λhl=>⟨xs,q,by rw[h.length];lia⟩⟩;obtain⟨v,h1,h2⟩:=h.get ed;refine⟨⟨xs,v,q,h1⟩,λx H' ⟨e1,e2⟩=>?_⟩;subst e1;have:=e2 xs q;rw[h1]at this;cases this;exact⟨F1,Sub.refl _,λ_ _ z=>.inl z,s2,Sub.refl _,h2.mono s1⟩
theorem iL{K:Fg}(h:GX K (zk a) σ H R):gL K (lift K a) σ H R:=by
 obtain⟨G,F,ρ,Qd,Rl,w,k⟩:=h;refine⟨G,F,ρ,_,Rl,w,λv H1 F1 r ρ1 s1 R1 r1 w1=>?_⟩;obtain⟨F2,s2,R2,d2⟩:=r1.frz R1;split at w1
 .rename_i ds e;rw[e]at d2;cases d2 with
  |lst q t=>exact⟨_,rfl,.inl ⟨⟨_,SqL.of<|R2.sub _ _ q⟩,k _ H1 F2 ds ρ1 (s1.trans s2) R2 (hV q t) w1⟩⟩
 .rename_i ds e;rw[e]at d2;cases d2 with
  |tup q t=>exact⟨_,rfl,.inr ⟨⟨_,SqT.of<|R2.sub _ _ q⟩,k _ H1 F2 ds ρ1 (s1.trans s2) R2 (Wz q t) w1⟩⟩
 .exact w1.elim
noncomputable def BQ(lo:Int)(n:Nat):List D:=(Z1 n).map λ(i:Nat)=>p0<|lo+i
theorem pW{K:Fg}{lo:Int}:Walks K (BN lo n) F (BQ lo n):=λi H F1 s1 s2=>by
 have hl:(BQ lo n).length=n:=by simp[BQ]
 refine⟨λd ed=>?_,λh=>by rw[hl]at h;exact Nat.le_of_eq h⟩;have hi:i<n:=by have:=sX ed;rw[hl]at this;exact this
 have e:(BQ lo n)[i]?=some (.int<|lo+i):=by simp[BQ,hi]
 rw[e]at ed;cases ed;refine⟨hi,λx H' ⟨e1,e2⟩=>?_⟩;subst e1 e2;exact⟨F1,Sub.refl _,λ_ _ z=>.inl z,s2,Sub.refl _,.int _⟩
noncomputable def wF(a:AD):OG:=λρ Q=>JX [a] ρ λxs ρ1=>TQ ρ1 xs λds=>match ds with
 |[.int j]=>-(2 ^ 62)<=j/\j<2 ^ 62/\Q (BQ 0 j.toNat) ρ1
 |_=>False
noncomputable def xF(a b:AD):OG:=λρ Q=>JX [a,b] ρ λxs ρ1=>TQ ρ1 xs λds=>match ds with
 |[.int i,.int j]=>(-(2 ^ 62)<=i/\i<2 ^ 62/\-(2 ^ 62)<=j/\j<2 ^ 62)/\Q (BQ i (j-i).toNat) ρ1
 |_=>False
theorem jL{K:Fg}(h:GX K (wF a) σ H R):gx (rQ<|[a].map (kQ K)) σ H R:=by
 obtain⟨G,F,ρ,Qd,Rl,w,k⟩:=h;refine wX Rl w λvs H' F' xs ρ' sb R' o w1=>?_;obtain⟨ds,ha,w1⟩:=mJ R' o w1;split at w1
 .rename_i j;obtain⟨v,rfl,h1⟩:=ha.one;cases h1.int;exact⟨j,rfl,w1.1,w1.2.1,k _ H' F' _ ρ' sb R' pW w1.2.2⟩
 .exact w1.elim
theorem kL{K:Fg}(h:GX K (xF a b) σ H R):ix (rQ<|[a,b].map (kQ K)) σ H R:=by
 obtain⟨G,F,ρ,Qd,Rl,w,k⟩:=h;refine wX Rl w λvs H' F' xs ρ' sb R' o w1=>?_;obtain⟨ds,ha,w1⟩:=mJ R' o w1;split at w1
 .rename_i i j;obtain⟨v,u,rfl,h1,h2⟩:=ha.two;cases h1.int;cases h2.int;exact⟨i,j,rfl,w1.1,k _ H' F' _ ρ' sb R' pW w1.2⟩
 .exact w1.elim
def xS(K:Fg)(F:Hp)(v:V)(ds:List D):Prop:=∃k a xs,v=.ref a/\(F a=some (match k with|Kd.l=>HO.lst xs|Kd.t=>HO.tup xs))/\DaAll K F xs ds
theorem aq{K:Fg}(e:H a=some (match k with|Kd.l=>HO.lst xs|Kd.t=>HO.tup xs)):Sq k K H a xs:=by
 cases k with
 |l=>exact SqL.of e
 |t=>exact SqT.of e
noncomputable def aU:D->Option (List D)
 | .list ds=>some ds
 | .tuple ds=>some ds
 |_=>none
theorem bq{K:Fg}(h:Da K F v d)(e:aU d=some ds):∃k a xs,v=.ref a/\(F a=some (match k with|Kd.l=>HO.lst xs|Kd.t=>HO.tup xs))/\DaAll K F xs ds:=by
 cases h with
 |lst q t=>cases e;exact⟨.l,_,_,rfl,q,t⟩
 |tup q t=>cases e;exact⟨.t,_,_,rfl,q,t⟩
 |non=>cases e
 |bl=>cases e
 |int=>cases e
 |str=>cases e
 |dk _ _=>cases e
 |dt _ _=>cases e
 |scr _=>cases e
 |exc _=>cases e
 |lam _ _=>cases e
 |fn=>cases e
 |opq _=>cases e
 |pd _ _=>cases e
 |bd _ _=>cases e
noncomputable def aK(ds es:List D):List D:=(ds.zip es).map λp=>G1 [p.1,p.2]
noncomputable def aW(a b:AD):OG:=λρ Q=>JX [a,b] ρ λxs ρ1=>match kX ρ1 xs with
 |false=>TQ ρ1 xs λds=>match ds with
  |[x,y]=>match aU x,aU y with
   |some us,some ws=>Q (aK us ws) ρ1
   |_,_=>False
  |_=>False
 |true=>False
theorem yF{K:Fg}{ys:List V}(e1:F a=some (match k1 with|Kd.l=>HO.lst xs|Kd.t=>HO.tup xs))(h1:DaAll K F xs ds)
  (e2:F b=some (match k2 with|Kd.l=>HO.lst ys|Kd.t=>HO.tup ys)) (h2:DaAll K F ys es):Walks K (KI K k1 k2 a b) F (aK ds es):=λi H F1 s1 s2=>by
 have q1:Sq k1 K H a xs:=aq<|s2 _ _<|s1 _ _ e1;have q2:Sq k2 K H b ys:=aq<|s2 _ _<|s1 _ _ e2;refine⟨λd ed=>?_,λhl=>⟨xs,ys,q1,q2,?_⟩⟩
 .simp only[aK,E1,K8]at ed;obtain⟨⟨x,y⟩,ez,rfl⟩:=ed;rw[List.getElem?_zip_eq_some]at ez;obtain⟨v,g1,g2⟩:=h1.get ez.1;obtain⟨u,g3,g4⟩:=h2.get ez.2;refine⟨⟨xs,v,ys,u,q1,q2,g1,g3⟩,λz H' ⟨T,x1,x2,hT,ex,eH,f1,f2⟩=>?_⟩;subst ex eH;have f1:=f1 xs q1;have f2:=f2 ys q2;rw[g1]at f1;cases f1;rw[g3]at f2;cases f2;have fT:F1 T=none:=by
   cases z:F1 T with
   |none=>rfl
   |some o=>rw[s2 _ _ z]at hT;cases hT
  refine⟨upd F1 T<|.tup [v,u],Sub.new fT,λc o ec=>?_,λc o ec=>?_,Sub.new hT,.tup uQ<|.cons (g2.mono<|s1.trans<|Sub.new fT)<|.cons (g4.mono<|s1.trans<|Sub.new fT) .nil⟩
  .by_cases z:c=T
   .subst z;exact .inr hT
   .rw[iQ z]at ec;exact .inl ec
  .by_cases z:c=T
   .subst z;rw[uQ]at ec ⊢;exact ec
   .rw[iQ z]at ec ⊢;exact s2 _ _ ec
 .simp only[aK,B0,S4]at hl;rw[h1.length,h2.length]
  lia
theorem lL{K:Fg}(h:GX K (aW a b) σ H R):UD K (rQ<|[a,b].map (kQ K)) σ H R:=by
 obtain⟨G,F,ρ,Qd,Rl,w,k⟩:=h;refine wX Rl w λvs H' F' xs ρ' sb R' o w1=>?_;split at w1
 .rename_i e;obtain⟨ds,da,w1⟩:=fZ R' e o w1;split at w1
  .rename_i x y;split at w1
   .rename_i us ws p1 p2;cases da with
    |cons d1 t =>
     cases t with
     |cons d2 t=>cases t;obtain⟨k1,a1,us',rfl,e1,g1⟩:=bq d1 p1;obtain⟨k2,a2,ws',rfl,e2,g2⟩:=bq d2 p2;exact⟨k1,a1,us',k2,a2,ws',rfl,aq<|R'.sub _ _ e1,aq<|R'.sub _ _ e2,k _ H' F' _ ρ' sb R' (yF e1 g1 e2 g2) w1⟩
   .exact w1.elim
  .exact w1.elim
 .exact w1.elim
noncomputable def QG:D->Option EQ
 | .int i=>some<|.inl i
 | .str x=>some<|.inr x
 |_=>none
theorem DW(k:EQ):QG (DJ k)=some k:=by cases k<;>rfl
theorem cq(h:QG d=some k):d=DJ k:=by cases d<;>first|(cases h;rfl)|cases h
noncomputable def Xz:List D->Option (List EQ)
 |[]=>some []
 |d::ds=>match QG d,Xz ds with
  |some k,some ks=>some (k::ks)
  |_,_=>none
theorem bG:∀ks:List EQ,Xz (ks.map DJ)=some ks
 |[]=>rfl
 |k::ks=>by simp[Xz,DW,bG ks]
theorem cG:∀{ds:List D}{ks:List EQ},Xz ds=some ks->ds=ks.map DJ
 |[],ks,h=>by cases h;rfl
 |d::ds,ks,h=>by
  unfold Xz at h;split at h
  .rename_i k ks' e1 e2;cases h;rw[cq e1,cG e2];rfl
  .cases h
noncomputable def bW(es:List (D×D))(k:EQ):Option D:=(es.find? λe=>decide<|QG e.1=some k).map (·.2)
noncomputable def dG:D->Option (List EQ)
 | .tuple ds=>Xz ds
 |_=>none
noncomputable def ZU(es:List (D×D))(k:List EQ):Option D:=(es.find? λe=>decide<|dG e.1=some k).map (·.2)
noncomputable def dq(es:List (D×D))(k:EQ)(d:D):List (D×D):=if (es.any λe=>decide<|QG e.1=some k)=true then es.map (λe=>if QG e.1=some k then (e.1,d) else e) else es++[(DJ k,d)]
section
variable {K:Fg}{F:Hp}
theorem DaKV.val(k:EQ):∀{kvs:List (EQ×V)}{es:List (D×D)},DaKV K F kvs es->match bW es k,AJ kvs k with|some d,some v=>Da K F v d|none,none=>True|_,_=>False
 |_,_,.nil=>trivial
 |_,_,.cons (k:=k') (v:=v) (d:=d) (kvs:=kvs) (es:=es) h t=>by
  have ih:=DaKV.val k t;unfold bW AJ at ih ⊢;simp only[T3,DW,Option.some.injEq];by_cases e:k'=k
  .subst e;simp;exact h
  .have e':decide (k'=k)=false:=decide_eq_false e;simp only[e'];exact ih
theorem DaKT.val(k:List EQ):∀{kvs:List (List EQ×V)}{es:List (D×D)},DaKT K F kvs es->match ZU es k,AJ kvs k with|some d,some v=>Da K F v d|none,none=>True|_,_=>False
 |_,_,.nil=>trivial
 |_,_,.cons (ks:=k') (v:=v) (d:=d) (kvs:=kvs) (es:=es) h t=>by
  have ih:=DaKT.val k t;unfold ZU AJ at ih ⊢;simp only[T3,dG,bG,Option.some.injEq];by_cases e:k'=k
  .subst e;simp;exact h
  .have e':decide (k'=k)=false:=decide_eq_false e;simp only[e'];exact ih
theorem DaKV.repl{k:EQ}{v:V}{d:D}(hv:Da K F v d):∀{kvs:List (EQ×V)}{es:List (D×D)},DaKV K F kvs es->DaKV K F (kvs.map λkv=>if kv.1=k then (kv.1,v) else kv) (es.map λe=>if QG e.1=some k then (e.1,d) else e)
 |_,_,.nil=>.nil
 |_,_,.cons (k:=k') h t=>by
  simp only[K1,DW,Option.some.injEq];by_cases e:k'=k
  .rw[if_pos e,if_pos e];exact .cons hv<|DaKV.repl hv t
  .rw[if_neg e,if_neg e];exact .cons h<|DaKV.repl hv t
theorem DaKV.snoc{k:EQ}{v:V}{d:D}(hv:Da K F v d):∀{kvs:List (EQ×V)}{es:List (D×D)},DaKV K F kvs es->DaKV K F (kvs++[(k,v)]) (es++[(DJ k,d)])
 |_,_,.nil=>.cons hv .nil
 |_,_,.cons h t=>.cons h<|DaKV.snoc hv t
theorem DaKV.any(k:EQ):∀{kvs:List (EQ×V)}{es:List (D×D)},DaKV K F kvs es->(kvs.any λkv=>decide<|kv.1=k)=es.any λe=>decide<|QG e.1=some k
 |_,_,.nil=>rfl
 |_,_,.cons (k:=k') h t=>by simp only[v4,DW,Option.some.injEq];rw[DaKV.any k t]
theorem DaKV.put(h:DaKV K F kvs es)(hv:Da K F v d):DaKV K F (IX kvs k v) (dq es k d):=by
 unfold IX dq;rw[h.any k];split
 .exact h.repl hv
 .exact h.snoc hv
theorem DaKV.length:∀{kvs:List (EQ×V)}{es:List (D×D)},DaKV K F kvs es->kvs.length=es.length
 |_,_,.nil=>rfl
 |_,_,.cons _ t=>by simp[DaKV.length t]
theorem At.dict{es:List (D×D)}(s:Sub F H)(h:At K F H v (.dict es)):∃a,v=.ref a/\((∃kvs,Rd H a (.dK kvs)/\DaKV K F kvs es)\/(∃kvs,Rd H a (.dT kvs)/\DaKT K F kvs es)\/∃k0 d0,es=[(k0,d0)]/\QG k0=Option.none/\dG k0=Option.none):=by
 rcases h with h|⟨a,o,rfl,_,e,h⟩
 .cases h with
  |dk q t=>exact⟨_,rfl,.inl ⟨_,s.rd q,t⟩⟩
  |dt q t=>exact⟨_,rfl,.inr<|.inl ⟨_,s.rd q,t⟩⟩
  |scr q=>exact⟨_,rfl,.inr<|.inr ⟨_,_,rfl,rfl,rfl⟩⟩
  |exc q=>exact⟨_,rfl,.inr<|.inr ⟨_,_,rfl,rfl,rfl⟩⟩
  |lam q _=>exact⟨_,rfl,.inr<|.inr ⟨_,_,rfl,rfl,rfl⟩⟩
  |fn=>exact⟨_,rfl,.inr<|.inr ⟨_,_,rfl,rfl,rfl⟩⟩
  |opq q=>exact⟨_,rfl,.inr<|.inr ⟨_,_,rfl,rfl,rfl⟩⟩
  |pd q t=>exact⟨_,rfl,.inr<|.inr ⟨_,_,rfl,rfl,rfl⟩⟩
  |bd q t=>exact⟨_,rfl,.inr<|.inr ⟨_,_,rfl,rfl,rfl⟩⟩
 .cases o with
  |ext φ=>rcases h.ext with⟨a',ep,xs,ps,z,z2,t⟩|⟨a',ep,xs,ps,z,z2,t⟩<;>(injection z2 with z2;exact⟨_,rfl,.inr<|.inr ⟨_,_,z2,rfl,rfl⟩⟩)
  |_=>first|exact h.elim|exact⟨_,rfl,.inl ⟨_,.inl e,h⟩⟩|exact⟨_,rfl,.inr<|.inl ⟨_,.inl e,h⟩⟩
theorem DaAll.keys:∀{xs:List V}{ks:List EQ},DaAll K F xs (ks.map DJ)->xs=ks.map kV
 |[],[],_=>rfl
 |x::xs,k::ks,.cons h t=>by
  have e:x=kV k:=by cases k<;>(cases h;rfl)
  rw[e,DaAll.keys t];rfl
theorem At.key(h:At K F H v d)(e:QG d=some k):v=kV k:=by
 have:=cq e;subst this;cases k with
 |inl i=>exact h.int
 |inr x=>exact h.str
theorem At.keyTup(s:Sub F H)(h:At K F H v d)(e:dG d=some k):∃b,v=.ref b/\H b=some (.tup<|k.map kV):=by
 cases d<;>first|cases e|skip
 rename_i ds;have:=cG e;subst this;obtain⟨a,xs,rfl,_,e1,d1⟩:=h.tuple s;have:=d1.keys;subst this;exact⟨a,rfl,e1⟩
theorem tu(e:∃d0,es=[(k0,d0)]/\QG k0=none/\dG k0=none)(k:EQ):bW es k=none:=by obtain⟨d0,rfl,e,_⟩:=e;simp[bW,e]
theorem uu(e:∃d0,es=[(k0,d0)]/\QG k0=none/\dG k0=none)(k:List EQ):ZU es k=none:=by obtain⟨d0,rfl,_,e⟩:=e;simp[ZU,e]
theorem Yz(e:D×D)(es:List (D×D))(k:EQ)(h:QG e.1=none):bW (e::es) k=bW es k:=by simp[bW,T3,h]
theorem Zz(e:D×D)(es:List (D×D))(k:List EQ)(h:dG e.1=none):ZU (e::es) k=ZU es k:=by simp[ZU,T3,h]
theorem zF(k:EQ):∀{kvs:List (List EQ×V)}{es:List (D×D)},DaKT K F kvs es->bW es k=none
 |_,_,.nil=>rfl
 |_,_,.cons h t=>by rw[Yz _ _ _ rfl];exact zF k t
theorem Ak(k:List EQ):∀{kvs:List (EQ×V)}{es:List (D×D)},DaKV K F kvs es->ZU es k=none
 |_,_,.nil=>rfl
 |_,_,.cons (k:=k') h t=>by rw[Zz _ _ _<|by cases k'<;>rfl];exact Ak k t
end
noncomputable def aj(es:List (D×D))(k:D):Option D:=match QG k with
 |some k=>bW es k
 |none=>match dG k with
  |some ks=>ZU es ks
  |none=>none
noncomputable def RC:D->D->(Sl->Prop)->Prop
 | .dict es,k,Q=>∃d,aj es k=some d/\Q (.fz d)
 |_,_,_=>False
theorem bj{K:Fg}{y:V}{es:List (D×D)}(s:Sub F H)(h1:At K F H x (.dict es))(h2:At K F H y k)(e:aj es k=some d):∃a v,x=.ref a/\zx H a y (some v)/\Da K F v d:=by
 obtain⟨a,rfl,h⟩:=h1.dict s;unfold aj at e;split at e
 .rename_i k' ek;have hy:=h2.key ek;subst hy;rcases h with⟨kvs,q,t⟩|⟨kvs,q,t⟩|⟨ns,q⟩
  .have:=t.val k';rw[e]at this;cases ev:AJ kvs k' with
   |none=>rw[ev]at this;exact this.elim
   |some v=>rw[ev]at this;exact⟨a,v,rfl,.inl ⟨kvs,k',q,rfl,ev.symm⟩,this⟩
  .rw[zF _ t]at e;cases e
  .rw[tu q]at e;cases e
 .split at e
  .rename_i ks ek;obtain⟨b,rfl,hb⟩:=h2.keyTup s ek;rcases h with⟨kvs,q,t⟩|⟨kvs,q,t⟩|⟨ns,q⟩
   .rw[Ak _ t]at e;cases e
   .have:=t.val ks;rw[e]at this;cases ev:AJ kvs ks with
    |none=>rw[ev]at this;exact this.elim
    |some v=>rw[ev]at this;exact⟨a,v,rfl,.inr ⟨kvs,ks,b,q,rfl,hb,ev.symm⟩,this⟩
   .rw[uu q]at e;cases e
  .cases e
def lO:R2:=λx y H Q=>∃a v,x=.ref a/\zx H a y (some v)/\Q v H
theorem wu{K:Fg}:OQ K (kY lO) (o2 RC):=YH λG F σ H ρ x y d e Q Qd R h1 h2 w k=>by
 match d,h1,w with
 | .dict es,h1,⟨d',w1,w2⟩=>obtain⟨a,v,rfl,g,dv⟩:=bj R.sub h1 h2 w1;exact⟨a,v,rfl,g,k _ H F (.fz _) (Sub.refl _) R dv w2⟩
noncomputable def aH(j:Nat)(ak:AD)(te:TD):LZ:=λE ρ=>te ρ λr ρ1=>match ρ1[j]? with
 |some (some _)=>JX [ak] ρ1 λxs ρ2=>TQ ρ2 xs λds=>match ds,ρ2[j]? with
  |[kd],some (some s)=>match s.d,YQ s,QG kd with
   | .dict es,true,some k=>es.length<sizeLine/\(bW es k).isSome=true/\E.nx (ρ2.set j<|some<|s.put<|.dict<|dq es k r.d)
   |_,_,_=>False
  |_,_=>False
 |_=>False
theorem Bk{K:Fg}{E:Ends}(h:oQ K (aH j ak te) E σ H):Dx (uJ j) (kQ K ak) (lift K te) E σ H:=by
 obtain⟨G,F,ρ,D,R,w,n,r,b,c⟩:=h;refine⟨G,F,ρ,_,R,w,λv H1 F1 x ρ1 s1 R1 r1 w1=>?_⟩;obtain⟨F2,s2,R2,d2⟩:=r1.frz R1;split at w1
 .rename_i s0 e0;obtain⟨u,eu⟩:=R2.bound e0;refine⟨u,eu,PH (P:=λy H3=>∃a H4,u=.ref a/\CI H3 a y v H4/\E.nx σ H4)<|wX R2 w1 λvs H3 F3 xs ρ3 s3 R3 o3 w3=>?_⟩;obtain⟨ds,ha,w3⟩:=mJ R3 o3 w3;split at w3
  .rename_i kd s e;obtain⟨kv,rfl,hk⟩:=ha.one;split at w3
   .rename_i es k p1 p2 p3;obtain⟨a,o,g1,g2,g3,g4⟩:=R3.ow j s e p2;rw[eu]at g1;cases g1;rw[p1]at g4;have:=hk.key p3;subst this;refine⟨_,rfl,a,?_⟩;cases o with
    |dK kvs=>have g4:DaKV K F3 kvs es:=g4;refine⟨_,rfl,.inl ⟨kvs,k,g3,rfl,by rw[g4.length];exact w3.1,rfl⟩,?_⟩;have R4:=R3.change (o':=.dK<|IX kvs k v) (d':=.dict<|dq es k x.d) e p2 eu<|g4.put<|d2.mono s3;exact n σ _ F3 _ (s1.trans<|s2.trans s3) R4 w3.2.2
    |dT kvs=>have g4:DaKT K F3 kvs es:=g4;rw[zF _ g4]at w3;exact absurd w3.2.1 (by simp)
    |ext φ=>rcases g4.ext with⟨a',ep,xs,ps,z,z2,t⟩|⟨a',ep,xs,ps,z,z2,t⟩<;>(injection z2 with z2;rw[z2]at w3;exact absurd w3.2.1<|by simp[bW,QG])
    |_=>exact g4.elim
   .exact w3.elim
  .exact w3.elim
 .exact w1.elim
open L2
noncomputable def lQ:Expr->Bool
 | .Starred _ _=>false
 |_=>true
theorem starEach_of(h:lQ e=true):starEach (e::es) env=(false,eval e env)::starEach es env:=by cases e<;>first|rfl|cases h
theorem zQ:∀{es:List Expr},es.all lQ=true->(backTo pos<|starEach es env).any (·.1)=false:=by
 intro es;induction es with
 |nil=>intro _;rfl
 |cons e es ih=>intro h;simp only[E9,A2]at h;rw[starEach_of h.1];have:=ih h.2;simp[backTo]at this ⊢;exact this
noncomputable def HJ:Expr->Bool
 | .Set _ _ _=>false
 |_=>true
theorem RK(h:HJ e=true)(x:Value):foldedSetIterable e env x=pure x:=by cases e<;>first|rfl|cases h
noncomputable def VZ:Expr->Bool
 | .ListComp _ _ _ _=>false
 | .SetComp _ _ _ _=>false
 | .DictComp _ _ _ _ _=>false
 |_=>true
theorem uK(h:VZ e=true):swapsWith e t n env=pure false:=by cases e<;>first|rfl|cases h
section
variable {K:Fg}
theorem WK{t':TE}(h:PE X e t)(m:∀{σ H Q},t' σ H Q->t σ H Q):PE X e t':=λpins s σ H Q I w=>h pins s σ H Q I<|m w
theorem uR{t':TT}(h:PT X e t)(m:∀{σ H Q},t' σ H Q->t σ H Q):PT X e t':=λpins s σ H Q I w=>h pins s σ H Q I<|m w
theorem fS{t':TT}(h:PW X e t)(m:∀{σ H Q},t' σ H Q->t σ H Q):PW X e t':=λwh pins s σ H Q I w=>h wh pins s σ H Q I<|m w
theorem Ck{t':TS}(h:PS X e t)(m:∀{D σ H},t' D σ H->t D σ H):PS X e t':=λpins s σ H D I w=>h pins s σ H D I<|m w
theorem mO{t':TS}(h:PSs X e t)(m:∀{D σ H},t' D σ H->t D σ H):PSs X e t':=λpins s σ H D I w=>h pins s σ H D I<|m w
theorem gS{t':TG}(h:PG X e t)(m:∀{v σ H Q},t' v σ H Q->t v σ H Q):PG X e t':=by
 unfold PG at h ⊢
 intros
 exact h _ _ _ _ _ _ _ (by assumption) (by assumption) (m<|by assumption)
theorem NP{g:Expr}{t':TI}(h:PI X g e t)(m:∀{σ H R},t' σ H R->t σ H R):PI X g e t':=λpins s σ H R I w=>h pins s σ H R I<|m w
theorem vR{t':TT}(h:Kx X es t)(m:∀{σ H Q},t' σ H Q->t σ H Q):Kx X es t':=λpins s σ H Q I w=>h pins s σ H Q I<|m w
theorem xu{e:Expr}{es:List Expr}{a:AD}{as:List AD}(ha:PE X e (kQ K a))(hr:PA X es (rQ<|as.map<|kQ K))(hs:starEach (e::es) X.env=(false,eval e X.env)::starEach es X.env:=by exact starEach_of rfl):PA X (e::es) (rQ<|(a::as).map<|kQ K):=NQ ha hr hs
variable {e:Expr}{a b c:AD}{as:List AD}{td te:TD}{tc td':jY}
theorem mL(h:PE X e (uJ i)):PE X e (lift K<|bu i):=WK h TN
theorem Dk(hv:∀F,Da K F v d)(h:PE X e (tC v)):PE X e (lift K<|dC d):=WK h<|cS hv
theorem OP{r:R2}(ok:OQ K (kY r) (o2 f))(h:PE X e (sN r (kQ K a)<|kQ K b)):PE X e (lift K<|FJ [a,b]<|o2 f):=WK h λq=>QH<|rK ok q
theorem yS{r:V->Hp->VK->Prop}(ok:OQ K (dS r) (o1 f))(h:PE X e (YR r<|kQ K a)):PE X e (lift K<|FJ [a]<|o1 f):=WK h λq=>PH<|rK ok q
theorem iS{r:List V->Hp->VK->Prop}(ok:OQ K r f)(h:PE X e (FC r<|rQ<|as.map<|kQ K)):PE X e (lift K<|FJ as f):=WK h λq=>rK ok q
theorem nL(T:Ki)(h:PE X e (FC (Gz K)<|MW (kQ K a)<|MW (tC<|.ty T.nm) wz)):PE X e (lift K<|FJ [a]<|o1<|dL T):=WK h λq=>PH (P:=λx H1=>Gz K [x,.ty T.nm] H1 _)<|rK eL q
theorem pL(hl:as.length<=1000)(h:PE X e (oI<|rQ<|as.map<|kQ K)):PE X e (lift K<|Tz as sk):=WK h<|jO hl
theorem qL(hl:as.length<=1000)(h:PE X e (pI<|rQ<|as.map<|kQ K)):PE X e (lift K<|Tz as uk):=WK h<|kO hl
theorem Ek{p:Int->Int->Bool}(h:PE X e (YG (vW λi j=>.bl<|p i j) (vW λi j=>.bl<|q i j) (kQ K a) (kQ K b)<|kQ K c)):PE X e (lift K<|uF p q a b c):=WK h ku
theorem rL(h:PE X e (Uj (lift K td)<|lift K te)):PE X e (lift K<|Sx td te):=WK h QI
theorem sL(h:PE X e (Vj<|lift K td)):PE X e (lift K<|Ux td):=WK h RI
theorem Fk{E:XK}(h:PE X e (cY (dQ K con) [] E<|rQ<|as.map<|kQ K)):PE X e (lift K<|oW con as):=WK h fk
theorem tL{E:XK}(h:PE X e (cY (dQ K con) [] E<|rQ<|(Sum.inl i::as).map<|kQ K)):PE X e (lift K<|YU con i as):=WK h ju
theorem wR(ok:lu K r f)(h:PE X e (ZR K "list" r (uJ i)<|rQ<|as.map<|kQ K)):PE X e (lift K<|wU i as f):=WK h λq=>by obtain⟨a,xs,e1,sq,w⟩:=xk ok q;exact⟨_,e1,.inl ⟨rfl,xs,sq⟩,w⟩
theorem nO(ok:lu K r f)(h:PE X e (LN K "list" r<|uJ i)):PE X e (lift K<|wU i [] f):=WK h λq=>by obtain⟨a,xs,e1,sq,w⟩:=xk ok q;exact⟨_,e1,.inl ⟨rfl,xs,sq⟩,w⟩
theorem jS{r:R2}(ok:OQ K (kY r) (o2 f))(h:PT X e (mx<|sN r (kQ K a)<|kQ K b)):PT X e (xQ K<|RH<|FJ [a,b]<|o2 f):=uR h λq=>MC (λz=>QH<|rK ok z) q
theorem uL(h:PT X e (tB<|lift K td)):PT X e (xQ K<|RH td):=uR h λq=>MC (λz=>z) q
theorem vL(h:PT X e (RE<|xQ K tc)):PT X e (xQ K<|NI tc):=uR h VN
theorem wL(h:PW X e (QE (xQ K tc)<|xQ K td')):PW X e (xQ K<|OI tc td'):=fS h WN
theorem oO(h:PW X e (aR (xQ K tc)<|xQ K td')):PW X e (xQ K<|mR tc td'):=fS h nR
variable {st:Stmt}{sts:List Stmt}{t u:LZ}
theorem yu(h:PSs X sts Wj):PSs X sts (oQ K Vx):=mO h SI
theorem xL(h:PSs X sts (uy (oQ K t)<|oQ K u)):PSs X sts (oQ K<|Nz t u):=mO h NC
theorem yL(h:PS X st (Zj<|lift K td)):PS X st (oQ K<|cu td):=Ck h YN
theorem zu(h:PS X st (Zj<|uJ i)):PS X st (oQ K<|TH i):=Ck h VI
theorem Au(h:PS X st (KW (uJ j)<|eK i)):PS X st (oQ K<|XD i j):=Ck h XI
theorem Bu(h:PS X st (Yj<|lift K td)):PS X st (oQ K<|Wx td):=Ck h UI
theorem pO(h:PS X st (aI (xQ K tc) (oQ K t)<|oQ K u)):PS X st (oQ K<|du tc t u):=Ck h OC
theorem zL(h:PS X st (KW (lift K td)<|eK i)):PS X st (oQ K<|oF i td):=Ck h PC
theorem AL(h:PS X st (Dx (uJ j) (kQ K a)<|lift K td)):PS X st (oQ K<|aH j a td):=Ck h Bk
noncomputable def Gk(g:nJ)(a:TD):LZ:=λE ρ=>a ρ λr ρ'=>g r.d ρ' E.nx
theorem BL{g:nJ}{E:Ends}(h:oQ K (Gk g td) E σ H):KW (lift K td) (PQ K g) E σ H:=by obtain⟨G,F,ρ,D,R,w,n,r,b,c⟩:=h;refine⟨G,F,ρ,_,R,w,λv H' F' x ρ' s R' r' q=>?_⟩;obtain⟨F2,s2,R2,d2⟩:=r'.frz R';exact⟨G,F2,ρ',x.d,_,R2,d2,q,λσ3 ρ3 R3 w3=>n σ3 H' F2 ρ3 (s.trans s2) R3 w3⟩
theorem Cu{g:nJ}(h:PS X st (KW (lift K td)<|PQ K g)):PS X st (oQ K<|Gk g td):=Ck h BL
theorem Du(h:PG X e (eK i)):PG X e (PQ K<|jy i):=gS h oR
theorem CL{gs:List nJ}(h:PG X e (yy K n<|ZV<|gs.map<|PQ K))(hn:gs.length=n:=by rfl):PG X e (PQ K<|LP gs):=gS h<|pR hn
theorem Hk{es:List Expr}{g:nJ}{gs:List nJ}(h1:PG X e (PQ K g))(h2:BC X es (ZV<|gs.map<|PQ K))(hs:(assignEach (e::es) X.env).map (·.2)=assign e X.env::(assignEach es X.env).map (·.2):=by rfl):BC X (e::es) (ZV<|(g::gs).map<|PQ K):=bx h1 h2 hs
theorem Eu:Kx X [] (xQ K SH):=vR HI XN
theorem fq{l:Expr}(hK:X.K=K)(hl:PE X l tl):PI X tg l (gL K tl):=by
 subst hK;intro pins s σ H R I h;refine vX (hl pins s σ H _ I h) λv s1 ⟨x,H1,I1,r1,q1⟩=>?_;obtain⟨a,e,q1⟩:=q1;subst e;cases r1;rcases q1 with⟨⟨xs,hq⟩,q⟩|⟨⟨xs,hq⟩,q⟩
 .obtain⟨its,rv,p,hz⟩:=I1.list hq;refine wpAny_pyIter_list p.isList ?_;refine⟨s1.heap.objs.size,[s1.heap.objs.size],_,_,H1,rfl,I1.kept (t':=s1.toks) λb o e=>u0 _ e,rz a _,⟨_,T0 _ rfl,rfl,rfl⟩,λb hb=>?_,q⟩;have e:b=s1.heap.objs.size:=by simpa using hb
  subst e;exact I1.fpOk (O0 _)<|I1.hok.fresh<|O0 _
 .obtain⟨its,rv,p,hz⟩:=I1.tuple hq;refine wpAny_pyIter_tuple (show s1.heap.IsTuple a its.toArray from p) ?_;refine⟨s1.heap.objs.size,[s1.heap.objs.size],_,_,H1,rfl,I1.kept (t':=s1.toks) λb o e=>u0 _ e,VG a _,⟨_,T0 _ rfl,rfl,rfl⟩,λb hb=>?_,q⟩;have e:b=s1.heap.objs.size:=by simpa using hb
  subst e;exact I1.fpOk (O0 _)<|I1.hok.fresh<|O0 _
theorem DL{l:Expr}(hK:X.K=K)(hl:PE X l (lift K td)):PI X tg l (GX K<|zk td):=NP (fq hK hl) iL
theorem Fu{l:Expr}(h:PI X tg l (gx<|rQ<|[a].map (kQ K))):PI X tg l (GX K<|wF a):=NP h jL
theorem Gu{l:Expr}(h:PI X tg l (ix<|rQ<|[a,b].map (kQ K))):PI X tg l (GX K<|xF a b):=NP h kL
theorem Hu{l:Expr}(h:PI X tg l (UD K<|rQ<|[a,b].map (kQ K))):PI X tg l (GX K<|aW a b):=NP h lL
def qO(_ j:Int):Prop:=0<j
theorem op_catB:OpR X (binaryOp .Add) ik:=by
 intro pins s σ H x y v u Q I rx ry h;obtain⟨a,b,xs,ys,rfl,rfl,ha,hb,hz,q1,q2,q3⟩:=h;have ha':SqT X.K H a xs:=SqT.of ha;have hb':SqT X.K H b ys:=SqT.of hb;by_cases hx:xs=[]
 .subst hx;cases rx;cases ry;obtain⟨its,r1,p1,_⟩:=I.tuple ha';obtain⟨its2,r2,p2,_⟩:=I.tuple hb';cases r1;exact Qx p1 p2 ⟨.ref b,H,I,rfl,q1 rfl⟩
 .exact Ey pins s σ H (.ref a) (.ref b) v u Q I rx ry ⟨a,b,xs,ys,rfl,rfl,ha',hb',hx,hz,λe=>q2 hx e,λe p hp=>q3 hx e p hp⟩
theorem Iu:OpR X (binaryOp .Add) (rAny (vW λi j=>.int<|i+j)<|rAny ik xI):=op_add.or<|op_catB.or yI
theorem Ju:OpR X (binaryOp .Mult) (rAny (rI CMul λi j=>.int<|i*j) AI):=op_mul.or BI
theorem EL:OQ K (kY<|vW λi j=>.int<|i-j) (o2<|ly λi j=>.int<|i-j):=aG λ_ _ _=>.int _
theorem SK:OQ K (kY<|rI kI λi j=>.int<|i / j) (o2<|fI kI λi j=>.int<|i / j):=aL λ_ _ _=>.int _
theorem IJ:OQ K (kY<|rI (λ_ j=>0<j) λi j=>.int<|i % j) (o2<|fI qO λi j=>.int<|i % j):=aL (C:=qO) λ_ _ _=>.int _
theorem JJ:OQ K (kY<|rI Ay λi j=>.int<|i ^ j.toNat) (o2<|fI Ay λi j=>.int<|i ^ j.toNat):=aL λ_ _ _=>.int _
theorem iV:OQ K (kY<|vW λi j=>.bl<|decide<|i<j) (o2<|ly λi j=>.bool<|decide<|i<j):=aG λ_ _ _=>.bl _
theorem rO:OQ K (kY<|vW λi j=>.bl<|decide<|i<=j) (o2<|ly λi j=>.bool<|decide<|i<=j):=aG λ_ _ _=>.bl _
theorem xU:OQ K (kY<|vW λi j=>.bl<|decide<|j<i) (o2<|ly λi j=>.bool<|decide<|j<i):=aG λ_ _ _=>.bl _
theorem gq:OQ K (kY<|vW λi j=>.bl<|decide<|j<=i) (o2<|ly λi j=>.bool<|decide<|j<=i):=aG λ_ _ _=>.bl _
theorem Ku(hK:X.K=K):IxR X (rAny (Gy K)<|Hy K):=(Ox hK).or<|Vy hK
end
mutual
noncomputable def LX:D->Bool
 | .none=>true
 | .bool _=>true
 | .int _=>true
 | .str _=>true
 | .list xs=>plainAll xs
 | .tuple xs=>plainAll xs
 | .dict _=>false
noncomputable def plainAll:List D->Bool
 |[]=>true
 |x::xs=>LX x&&plainAll xs
end
section
variable {K:Fg}{F:Hp}
theorem Da.is(s:Sub F H){v:V}{d:D}(q:Da K F v d):LX d=true->Is K H v d:=by refine Da.rec (motive_1:=λv d _=>LX d=true->Is K H v d) (motive_2:=λv d _=>plainAll d=true->IsAll K H v d) (motive_3:=λ_ _ _=>True) (motive_4:=λ_ _ _=>True) (motive_5:=λ_ _ _=>True) (motive_6:=λ_ _ _=>True) (λ_=>.non) (λb _=>.bl b) (λi _=>.int i) (λx _=>.str x) (λe _ t z=>.lst (SqL.of<|s _ _ e)<|t z) (λe _ t z=>.tup (SqT.of<|s _ _ e)<|t z) (λ_ _ _ z=>nomatch z) (λ_ _ _ z=>nomatch z) (λ_ z=>nomatch z) (λ_ z=>nomatch z) (λ_ z=>nomatch z) (λ_ _ _ z=>nomatch z) (λ_ _ _ z=>nomatch z) (λ_ _ _ z=>nomatch z) (λz=>nomatch z) (λ_=>.nil) (λ_ _ a t z=>.cons (a (Z2.mp z).1)<|t (Z2.mp z).2) ?_ ?_ ?_ ?_ ?_ ?_ ?_ ?_ q<;>intros<;>trivial
theorem DaAll.is(s:Sub F H){xs:List V}{ds:List D}(q:DaAll K F xs ds):plainAll ds=true->IsAll K H xs ds:=by refine DaAll.rec (motive_1:=λ_ _ _=>True) (motive_2:=λv d _=>plainAll d=true->IsAll K H v d) (motive_3:=λ_ _ _=>True) (motive_4:=λ_ _ _=>True) (motive_5:=λ_ _ _=>True) (motive_6:=λ_ _ _=>True) ?_ ?_ ?_ ?_ ?_ ?_ ?_ ?_ ?_ ?_ ?_ ?_ ?_ ?_ ?_ (λ_=>.nil) (λa _ _ t z=>.cons (a.is s (Z2.mp z).1)<|t (Z2.mp z).2) ?_ ?_ ?_ ?_ ?_ ?_ ?_ ?_ q<;>intros<;>trivial
theorem At.is(s:Sub F H)(h:At K F H v d)(p:LX d=true):Is K H v d:=by
 rcases h with h|⟨a,o,rfl,_,e,h⟩
 .exact h.is s p
 .cases o<;>cases d<;>first|exact h.elim|(simp[LX]at p)|skip
  .rename_i xs ds;exact .lst (SqL.of e) (DaAll.is s h<|by simpa [LX]using p)
end
def Lu(x y:D)(Q:Sl->Prop):Prop:=LX x=true/\LX y=true/\SeqAt.shaped x=true/\SeqAt.shaped y=true/\SeqAt.noMix x y=true/\Q (.fz<|.bool<|same x y)
def Mu(x y:D)(Q:Sl->Prop):Prop:=LX x=true/\LX y=true/\SeqAt.shaped x=true/\SeqAt.shaped y=true/\SeqAt.noMix x y=true/\Q (.fz<|.bool<|!same x y)
noncomputable def xR:D->D->(Sl->Prop)->Prop
 | .int i,.int j,Q=>Q<|.fz<|.bool<|decide<|i=j
 | .list xs,y,Q=>Lu (.list xs) y Q
 | .tuple xs,y,Q=>Lu (.tuple xs) y Q
 | .str x,.str y,Q=>Q<|.fz<|.bool<|decide<|x=y
 |x,y,Q=>Lu x y Q
noncomputable def yR:D->D->(Sl->Prop)->Prop
 | .int i,.int j,Q=>Q<|.fz<|.bool<|!decide (i=j)
 | .list xs,y,Q=>Mu (.list xs) y Q
 | .tuple xs,y,Q=>Mu (.tuple xs) y Q
 | .str x,.str y,Q=>Q<|.fz<|.bool<|!decide (x=y)
 |x,y,Q=>Mu x y Q
theorem yU{K:Fg}:OQ K (kY<|rAny GP<|YV K false) (o2 xR):=YH λG F σ H ρ x y d e Q Qd R h1 h2 w k=>by
 have gen:Lu d e Qd->rAny GP (YV K false) x y H Q:=λ⟨p1,p2,p3,p4,p5,w⟩=>.inr ⟨d,e,h1.is R.sub p1,h2.is R.sub p2,p3,p4,p5,k _ H F (.fz _) (Sub.refl _) R (Da.bl _) w⟩;unfold xR at w;split at w
 .rename_i i j;cases h1.int;cases h2.int;refine .inl ⟨rfl,k _ H F (.fz _) (Sub.refl _) R (Da.bl _) ?_⟩;have e:decide (V.int i=V.int j)=decide (i=j):=by rw[zW,S5]
  rw[e];exact w
 .exact gen w
 .exact gen w
 .rename_i i j;cases h1.str;cases h2.str;refine .inl ⟨rfl,k _ H F (.fz _) (Sub.refl _) R (Da.bl _) ?_⟩;have e:decide (V.str i=V.str j)=decide (i=j):=by rw[AW,S5]
  rw[e];exact w
 .exact gen w
theorem sO{K:Fg}:OQ K (kY<|rAny HP<|YV K true) (o2 yR):=YH λG F σ H ρ x y d e Q Qd R h1 h2 w k=>by
 have gen:Mu d e Qd->rAny HP (YV K true) x y H Q:=λ⟨p1,p2,p3,p4,p5,w⟩=>.inr ⟨d,e,h1.is R.sub p1,h2.is R.sub p2,p3,p4,p5,k _ H F (.fz _) (Sub.refl _) R (Da.bl _) w⟩;unfold yR at w;split at w
 .rename_i i j;cases h1.int;cases h2.int;refine .inl ⟨rfl,k _ H F (.fz _) (Sub.refl _) R (Da.bl _) ?_⟩;have e:decide (V.int i=V.int j)=decide (i=j):=by rw[zW,S5]
  rw[e];exact w
 .exact gen w
 .exact gen w
 .rename_i i j;cases h1.str;cases h2.str;refine .inl ⟨rfl,k _ H F (.fz _) (Sub.refl _) R (Da.bl _) ?_⟩;have e:decide (V.str i=V.str j)=decide (i=j):=by rw[AW,S5]
  rw[e];exact w
 .exact gen w
theorem cW{K:Fg}(hK:X.K=K)(hu:X.A.units+64<cLine):OpR X (compareOp .Eq) (rAny GP<|YV K false):=op_eq.or<|Wy hK hu
theorem FL{K:Fg}(hK:X.K=K)(hu:X.A.units+64<cLine):OpR X (compareOp .NotEq) (rAny HP<|YV K true):=op_ne.or<|Xy hK hu
section
variable {P:Program}{w:World}{K:Fg}{mg:Str->Option Value}{base:Heap}
theorem zS{st:Stmt}{ts:LZ}(F:Fun K x qual st f fd)(S:FnScope N ps (aQ st))(hb:∀(cdv:Value) (A:Around) (outer:List Env) (s:Shared) (H:Hp) (E:XK),Room k (A.deeper<|envOfC qual (aQ st) s.heap.objs.size f cdv)->PSs (NY OX P w K mg base N qual (aQ st) f cdv A outer s H E).nox (cX st) (oQ K ts))(hl:∀args Qd,con args Qd->args.length=ps.length) (hc:∀args Qd,con args Qd->(∀s∈args,∀d,s≠.ow d)/\ts (ZY args Qd) (dJ N.length args)):FnOk P w K mg base OX (k+1) f fd ps (dQ K con):=by
 refine F.ok S (λvs H Q E h=>?_)<|λcdv A outer s H vs Q E hr h=>⟨_,hb cdv A outer s H E hr,QC hc h⟩;obtain⟨G,F',args,Qd,R,w',_⟩:=h;have h1:=hl args Qd w';have h2:=R.len;rw[B0,B0]at h2;rw[h2,h1]
end
noncomputable def tO:List Sl->Bool
 |[]=>true
 | .ow _::_=>false
 |_::as=>tO as
theorem IQ:∀{as:List Sl},tO as=true->∀s∈as,∀d,s≠.ow d
 | .fz _::as,h,s,hs,d,z=>by
  rcases P0.mp hs with e|e
  .subst e;cases z
  .exact IQ (as:=as) h s e d z
 | .io _::as,h,s,hs,d,z=>by
  rcases P0.mp hs with e|e
  .subst e;cases z
  .exact IQ (as:=as) h s e d z
theorem DaAll.intsV{K:Fg}{F:Hp}:∀{xs:List V}{ns:Qa},DaAll K F xs (ns.map p0)->xs=ns.map V.int
 |[],[],_=>rfl
 |x::xs,b::bs,.cons h t=>by cases h;simp[DaAll.intsV t]
def GL(i j:Int):Prop:=-(2 ^ 62)<=i/\i<2 ^ 62/\-(2 ^ 62)<=j/\j<2 ^ 62
def cj:List V->Hp->VK->Prop:=λxs H Q=>∃i j:Int,(xs=[.int i,.int j]\/(xs=[.int j]/\i=0))/\∀p,H p=none->Q (.ref p) (upd H p<|.rng i j)
theorem eG:ZQ X (.type "range") cj:=by
 intro pins s σ H xs us Q I r h;obtain⟨i,j,hx,q⟩:=h;have lay:∀(t u v:Tok) (tk:Nat),EP X pins σ Q (.ref s.heap.objs.size) {s with heap:=s.heap.push {cls:=.type "range",data:=.fields #[.int i t,.int j u,.int 1 v]},toks:=tk}:=λt u v tk=>⟨.ref s.heap.objs.size,_,I.laid (t':=tk) (o:=.rng i j) (λb o e=>u0 _ e) (O0 _) ⟨t,u,v,T0 _ rfl⟩,rfl,q _<|I.hok.fresh<|O0 _⟩;rcases hx with rfl|⟨rfl,rfl⟩
 .obtain⟨u,w,rfl,ru,rw'⟩:=bY r;obtain⟨t,rfl⟩:=ru;obtain⟨t',rfl⟩:=rw';exact call_range_2<|lay _ _ _ _
 .obtain⟨u,rfl,ru⟩:=EZ r;obtain⟨t,rfl⟩:=ru;exact call_range_1<|lay _ _ _ _
def TK:List V->Hp->VK->Prop:=λxs H Q=>∃(p:Addr) (i j:Int),xs=[.ref p]/\H p=some (.rng i j)/\GL i j/\(j-i).toNat<=2 ^ 24/\∀l,H l=none->Q (.ref l) (upd H l<|.lst<|(Z1 (j-i).toNat).map λ(n:Nat)=>V.int<|i+n)
theorem qW(hc:X.calm=true):ZQ X (.type "list") TK:=by
 intro pins s σ H xs us Q I r h;obtain⟨p,i,j,rfl,hp,⟨b1,b2,b3,b4⟩,hz,q⟩:=h;obtain⟨u,rfl,ru⟩:=EZ r;cases ru;obtain⟨t,u,v,e⟩:=I.hok p _ hp;have hn:u8 i j 1=((j-i).toNat:Int):=by rw[rangeSize_one];split<;>lia
 refine call_list_range (I.ok.hd hc) e (small_one b1 b2 b3 b4) hn hz λh' tk acc' c' hk hS hacc=>?_;refine⟨.ref s.heap.objs.size,_,I.laid (t':=tk) (o:=.lst<|(Z1 (j-i).toNat).map λ(n:Nat)=>V.int<|i+n) hk (O0 _) ?_,rfl,q _<|I.hok.fresh<|O0 _⟩;refine⟨by rw[B0,W7];exact hz,acc'.toList,c',?_,by simpa using hS⟩;have gen:∀(n:Nat) (ys:List Value),ys.length=n->(∀(k:Nat) (y:Value),ys[k]?=some y->∃t,y=.int (i+k*1) t)->Vals ((Z1 n).map λ(n:Nat)=>V.int<|i+n) ys:=by
  intro n;induction n with
  |zero=>intro ys hl _;cases ys with|nil=>exact .nil|cons=>simp at hl
  |succ n ih =>
   intro ys hl hy;rcases List.eq_nil_or_concat ys with rfl|⟨zs,z,rfl⟩
   .simp at hl
   .rw[List.concat_eq_append]at hl hy ⊢;have hl':zs.length=n:=by simpa using hl
    rw[List.range_succ,N1];refine Vals.append (ih zs hl' λk y e=>hy k y<|by rw[E3<|sX e];exact e) ?_;obtain⟨t,rfl⟩:=hy n z (by rw[<-hl'];simp);exact .cons ⟨t,by simp⟩ .nil
 refine gen _ _ (by rw[G3];exact hacc.1) λk y e=>?_;exact hacc.2 k y (by simpa using e)
noncomputable def uO:D->D->(Sl->Prop)->Prop
 | .int i,.int j,Q=>GL i j/\(j-i).toNat<=2 ^ 24/\Q (.ow<|.list<|BQ i (j-i).toNat)
 |_,_,_=>False
theorem vO{K:Fg}:OQ K (λvs H Q=>cj vs H λv H1=>TK [v] H1 Q) (o2 uO):=by
 intro G F σ H ρ vs ds Q Qd R a w k;match ds,a,w with
 |[d,e],a,w =>
  obtain⟨v,u,rfl,h1,h2⟩:=a.two;have w:uO d e Qd:=w;unfold uO at w;split at w
  rotate_left
  .exact w.elim
  rename_i i j w;cases h1.int;cases h2.int;refine⟨i,j,.inl rfl,λp hp=>⟨p,i,j,rfl,uQ,w.1,w.2.1,λl hl=>?_⟩⟩;have R1:Rel K G F σ (upd H p<|.rng i j) ρ:=R.laid hp;have da:DaAll K F ((Z1 (j-i).toNat).map λ(n:Nat)=>V.int<|i+n) (BQ i (j-i).toNat):=by have:=DaAll.ints (K:=K) (F:=F)<|(Z1 (j-i).toNat).map λ(n:Nat)=>i+(n:Int);simpa [BQ,v1,Function.comp_def]using this
  obtain⟨R',r'⟩:=R1.newOw (o:=.lst _) (d:=.list<|BQ i (j-i).toNat) hl da;exact k _ _ F _ (Sub.refl _) R' r' w.2.2
section
variable {K:Fg}{e:Expr}{a b:AD}
theorem wO(h:PE X e (FC TK<|MW (FC cj<|rQ<|[a,b].map (kQ K)) wz)):PE X e (lift K<|FJ [a,b]<|o2 uO):=WK h λq=>rK vO q
end
noncomputable def jV(ρ:Ev):List (EQ×Sum Nat D)->(List (D×D)->Prop)->Prop
 |[],k=>k []
 |(c,.inr d)::r,k=>jV ρ r λes=>k ((DJ c,d)::es)
 |(c,.inl i)::r,k=>match ρ[i]? with
  |some (some<|.fz d)=>jV ρ r λes=>k ((DJ c,d)::es)
  |_=>False
def SC(its:List (EQ×Sum Nat D)):TD:=λρ Q=>jV ρ its λes=>Q (.ow<|.dict es) ρ
noncomputable def zR:Sum Nat D->TE
 | .inl i=>uJ i
 | .inr (.int n)=>tC<|.int n
 | .inr _=>λ_ _ _=>False
theorem bH{K:Fg}{G:Gh}{F H1:Hp}{σ:L2.St}{ρ:Ev}(R:Rel K G F σ H ρ):∀{its:List (EQ×Sum Nat D)}{kk:List (D×D)->Prop}{Qp:List (V×V)->Hp->Prop},(∀p∈its,∀d,p.2=.inr d->∃n,d=.int n)->jV ρ its kk -> (∀kvs es,DaKV K F kvs es->kvs.map (·.1)=its.map (·.1)->kk es->Qp (kvs.map λkv=>(kV kv.1,kv.2)) H1)->PY (its.map λp=>(tC<|kV p.1,zR p.2)) σ H1 Qp
 |[],kk,Qp,_,w,k=>k [] [] .nil rfl w
 |(c,.inr d)::r,kk,Qp,hc,w,k=>by obtain⟨n,rfl⟩:=hc (c,.inr d) L0 d rfl;refine bH R (its:=r) (λp hp=>hc p<|K0 _ hp) w λkvs es da e q=>?_;exact k ((c,.int n)::kvs) _ (.cons (.int n) da) (by simp[e]) q
 |(c,.inl i)::r,kk,Qp,hc,w,k=>by
  unfold jV at w;split at w
  .rename_i d ed;obtain⟨v,ev,dv⟩:=R.fz i d ed;refine⟨v,ev,bH R (its:=r) (λp hp=>hc p<|K0 _ hp) w λkvs es da e q=>?_⟩;exact k ((c,v)::kvs) _ (.cons dv da) (by simp[e]) q
  .exact w.elim
theorem BY:∀(kvs acc:List (EQ×V)),((acc++kvs).map (·.1)).Nodup->jK acc kvs=acc++kvs
 |[],acc,_=>by simp[jK]
 |(c,v)::r,acc,h=>by
  have hn:AJ acc c=none:=by unfold AJ;rw[List.find?_eq_none.mpr ?_];rfl;intro x hx;simp only[decide_eq_true_eq];intro z;simp only[N1,K1,T6]at h;exact h.2.2 x.1 (F7 hx) c L0 z
  have e:IX acc c v=acc++[(c,v)]:=yx v hn;show jK (IX acc c v) r=_;rw[e,BY r (acc++[(c,v)])<|by simpa using h];simp
theorem Nu{K:Fg}(its:List (EQ×Sum Nat D))(hn:(its.map (·.1)).Nodup)(hl:its.length<=15)(hc:∀p∈its,∀d,p.2=.inr d->∃n,d=.int n)(h:PE X e (Hx<|its.map λp=>(tC<|kV p.1,zR p.2))):PE X e (lift K<|SC its):=WK h λ{σ H Q} q=>by
 obtain⟨G,F,ρ,Qd,R,w,k⟩:=q;intro p hp;refine bH R hc w λkvs es da ek q=>⟨uQ,kvs,rfl,?_,?_⟩
 .have:=congrArg A4 ek;simp at this;lia
 .rw[BY kvs [] (by simpa [ek]using hn),LU];obtain⟨R',r'⟩:=R.newOw (o:=.dK<|[]++kvs) (d:=.dict es) hp (by rw[E6];exact da);exact k _ _ F _ ρ (Sub.refl _) R' r' q
noncomputable def clean1(ρ:Ev)(i:Nat):Ev:=match ρ[i]? with
 |some (some<|.io _)=>ρ
 |some _=>ρ.set i none
 |none=>ρ
noncomputable def clean(ks:List Nat)(ρ:Ev):Ev:=match ks with
 |[]=>ρ
 |i::r=>clean r<|clean1 ρ i
section
variable {K:Fg}{G:Gh}{F:Hp}{σ:L2.St}{ρ:Ev}
theorem Rel.drop(R:Rel K G F σ H ρ){i:Nat}(hn:∀d,ρ[i]?≠some (some<|Sl.io d)):Rel K G F σ H (ρ.set i none):=by
 refine⟨by rw[v5];exact R.len,R.sub,R.sub0,R.fn,R.keep,R.tb,λj d e=>?_,λj t e wt=>?_,λj d b e eb=>?_,λj b e=>?_,λj d e=>?_,λj k t u b e1 w1 e2 w2 e3 e4=>?_⟩
 .rcases tQ e with⟨rfl,z⟩|⟨n,z⟩
  .cases z
  .exact R.fz j d z
 .rcases tQ e with⟨rfl,z⟩|⟨n,z⟩
  .cases z
  .exact R.ow j t z wt
 .rcases tQ e with⟨rfl,z⟩|⟨n,z⟩
  .cases z
  .exact R.new j d b z eb
 .obtain⟨d',e1,e2⟩:=R.io j b e;have n:i≠j:=λz=>by subst z;exact hn _ e1
  exact⟨d',by rw[Z0 n];exact e1,e2⟩
 .rcases tQ e with⟨rfl,z⟩|⟨n,z⟩
  .cases z
  .exact R.ioi j d z
 .rcases tQ e1 with⟨rfl,z⟩|⟨n,z⟩
  .cases z
  .rcases tQ e2 with⟨rfl,z'⟩|⟨n',z'⟩
   .cases z'
   .exact R.ap j k t u b z w1 z' w2 e3 e4
theorem Rel.clean1(R:Rel K G F σ H ρ)(i:Nat):Rel K G F σ H (clean1 ρ i):=by
 unfold L3.clean1;split
 .exact R
 .rename_i e1 e2;exact R.drop λd z=>by rw[e2]at z;cases z;exact e1 _ rfl
 .exact R
theorem Rel.clean(ks:List Nat):∀{ρ:Ev},Rel K G F σ H ρ->Rel K G F σ H (clean ks ρ):=by
 induction ks with
 |nil=>intro ρ R;exact R
 |cons i r ih=>intro ρ R;exact ih<|R.clean1 i
end
noncomputable def NZ(ks:List Nat)(g:nJ)(tb:LZ)(E:DE):List D->Ev->Prop
 |[],ρ=>E.nx ρ
 |d::ds,ρ=>g d ρ λρ'=>tb {nx:=λρ2=>NZ ks g tb E ds (clean ks ρ2),rt:=E.rt,bk:=λρ2=>E.nx (clean ks ρ2),ct:=λρ2=>NZ ks g tb E ds<|clean ks ρ2} ρ'
noncomputable def zU(ks:List Nat)(ti:OG)(g:nJ)(tb:LZ):LZ:=λE ρ=>ti ρ λds ρ'=>NZ ks g tb E ds<|clean ks ρ'
theorem HL{K:Fg}{g:nJ}{E:Ends}(h:oQ K (zU ks ti g tb) E σ H):eI (GX K ti) (PQ K g) (oQ K tb) E σ H:=by
 obtain⟨G,F,ρ,D,R,w,n,r,b,c⟩:=h;refine⟨G,F,ρ,_,R,w,λJ H1 F1 ds ρ1 s1 R1 wk w1=>?_⟩;refine⟨λi m σ H=>m=ds.length-i/\i<=ds.length/\∃F' ρ',Sub F1 F'/\Rel K G F' σ H ρ'/\NZ ks g tb D (ds.drop i) ρ',⟨ds.length,rfl,W2 _,F1,_,Sub.refl _,R1.clean ks,w1⟩,?_⟩;rintro i m σ H ⟨rfl,hi,F',ρ',s',R',w'⟩;obtain⟨hgo,hst⟩:=wk i H F' s' R'.sub;cases e:ds[i]? with
 |none=>have hl:ds.length<=i:=B3.mp e;refine .inl ⟨hst<|by lia,?_⟩;rw[A3 hl]at w';exact n σ H F' ρ' (s1.trans s') R' w'
 |some d =>
  obtain⟨go,yl⟩:=hgo d e;have hl:=sX e;rw[bV e]at w';refine .inr ⟨go,λσ2 H2=>∃F2 ρ2,Sub F1 F2/\Rel K G F2 σ2 H2 ρ2/\NZ ks g tb D (ds.drop<|i+1) ρ2,λσ2 H2 ⟨F2,ρ2,z1,z2,z3⟩=>⟨ds.length-(i+1),by lia,rfl,hl,F2,ρ2,z1,z2,z3⟩,λx H2 y=>?_⟩;obtain⟨F2,t1,t2,t3,t4,t5⟩:=yl x H2 y;have R2:=R'.turn t1 t2 t3 t4;refine⟨G,F2,ρ',d,_,R2,t5,w',λσ3 ρ3 R3 w3=>?_⟩;refine⟨G,F2,ρ3,_,R3,w3,λσ4 H4 F4 ρ4 s4 R4 q=>?_,λv σ4 H4 F4 x4 ρ4 s4 R4 r4 q=>?_,λσ4 H4 F4 ρ4 s4 R4 q=>?_,λσ4 H4 F4 ρ4 s4 R4 q=>?_⟩
  .exact⟨F4,_,s'.trans<|t1.trans s4,R4.clean ks,q⟩
  .exact r v σ4 H4 F4 x4 ρ4 (s1.trans<|s'.trans<|t1.trans s4) R4 r4 q
  .exact n σ4 H4 F4 _ (s1.trans<|s'.trans<|t1.trans s4) (R4.clean ks) q
  .exact⟨F4,_,s'.trans<|t1.trans s4,R4.clean ks,q⟩
theorem Ou{K:Fg}{st:Stmt}(ks:List Nat){ti:OG}{g:nJ}(h:PS X st (eI (GX K ti) (PQ K g)<|oQ K t)):PS X st (oQ K<|zU ks ti g t):=Ck h HL
theorem bZ{ks:List Nat}{g:nJ}{tb:LZ}{E:DE}(J:List D->Ev->Prop)(hs:∀d ds ρ,J (d::ds) ρ->∀N:Ev->Prop,(∀ρ2,J ds ρ2->N ρ2)->g d ρ λρ'=>tb {nx:=λρ2=>N (clean ks ρ2),rt:=E.rt,bk:=λρ2=>E.nx (clean ks ρ2),ct:=λρ2=>N<|clean ks ρ2} ρ')(hd:∀ρ,J [] ρ->E.nx ρ):∀{ds:List D}{ρ:Ev},J ds ρ->NZ ks g tb E ds ρ
 |[],ρ,h=>hd ρ h
 |d::ds,ρ,h=>hs d ds ρ h _ λρ2 h2=>bZ J hs hd h2
noncomputable def TX(n:Nat)(g:nJ)(tc:jY)(te:TD):List D->List D->Ev->(List D->Ev->Prop)->Prop
 |[],acc,τ,Q=>Q acc τ
 |d::ds,acc,τ,Q=>g d τ λτ1=>tc τ1 λb τ2=>if b=true then te τ2 λr τ3=>TX n g tc te ds (acc++[r.d]) (clean (Z1 n) τ3) Q else TX n g tc te ds acc (clean (Z1 n) τ2) Q
def vK(ti:OG)(own:List Str)(fr:List Nat)(g:nJ)(tc:jY)(te:TD):TD:=λρ Q=>ti ρ λds ρ1=>ds.length<=sizeLine/\TX own.length g tc te ds [] (GJ own fr ρ1) λys τ=>Q (.ow<|.list ys)<|VY fr (τ.drop own.length) 0 ρ1
theorem iq{K:Fg}{g:nJ}(nd:fr.Nodup){σ:L2.St}{H:Hp}{Q:VK}(h:lift K (vK ti own fr g tc te) σ H Q):TY (GX K ti) own fr (PQ K g) (xQ K tc) (lift K te) σ H Q:=by
 obtain⟨G,F,ρ,Qd,R,w,k⟩:=h;refine⟨G,F,ρ,_,R,w,λJ H1 F1 ds ρ1 s1 R1 wk ⟨hz,w1⟩=>?_⟩;have Ri:=R1.inner (own:=own) nd;refine⟨λi m ys τ H=>m=ds.length-i/\i<=ds.length/\∃F' ρ' acc,Rel K (ky own fr F1 H1 σ ρ1) F' τ H ρ'/\DaAll K F' ys acc/\acc.length<=i/\TX own.length g tc te (ds.drop i) acc ρ' (λys τ=>Qd (.ow<|.list ys)<|VY fr (τ.drop own.length) 0 ρ1),
   ⟨ds.length,rfl,W2 _,F1,_,[],Ri,.nil,W2 _,w1⟩,?_⟩;rintro i m ys τ H' ⟨rfl,hi,F',ρ',acc,R',da,hl,w'⟩;obtain⟨hgo,hst⟩:=wk i H' F' R'.sub0 R'.sub;cases e:ds[i]? with
 |none=>have hl':ds.length<=i:=B3.mp e;refine .inl ⟨hst<|by lia,λDd hD=>?_⟩;rw[A3 hl']at w';have Ro:=R1.outer R' nd;obtain⟨Rn,rn⟩:=Ro.newOw (o:=.lst ys) (d:=.list acc) hD da;exact k _ _ F' _ _ (s1.trans R'.sub0) Rn rn w'
 |some d =>
  obtain⟨go,yl⟩:=hgo d e;have hlt:=sX e;rw[bV e]at w';refine .inr ⟨go,by rw[da.length];lia,λys2 τ2 H2=>∃F2 ρ2 acc2,Rel K (ky own fr F1 H1 σ ρ1) F2 τ2 H2 ρ2/\DaAll K F2 ys2 acc2/\acc2.length<=i+1/\TX own.length g tc te (ds.drop<|i+1) acc2 ρ2 (λys τ=>Qd (.ow<|.list ys)<|VY fr (τ.drop own.length) 0 ρ1),
    λys2 τ2 H2 ⟨F2,ρ2,acc2,z1,z2,z3,z4⟩=>⟨ds.length-(i+1),by lia,rfl,hlt,F2,ρ2,acc2,z1,z2,z3,z4⟩,λx H2 y=>?_⟩;obtain⟨F2,t1,t2,t3,t4,t5⟩:=yl x H2 y;have R2:=R'.turn t1 t2 t3 t4;refine⟨_,F2,ρ',d,_,R2,t5,w',λτ3 ρ3 R3 w3=>?_⟩;refine⟨_,F2,ρ3,_,R3,w3,λb H4 F4 ρ4 s4 R4 w4=>?_⟩;cases b with
  |false=>exact⟨F4,_,acc,R4.clean _,da.mono<|t1.trans s4,by lia,w4⟩
  |true=>refine⟨_,F4,ρ4,_,R4,w4,λv H5 F5 r ρ5 s5 R5 r5 w5=>?_⟩;obtain⟨F6,s6,R6,d6⟩:=r5.frz R5;exact⟨F6,_,acc++[r.d],R6.clean _,(da.mono<|t1.trans<|s4.trans<|s5.trans s6).append<|.cons d6 .nil,by simp;lia,w5⟩
section
variable {K:Fg}{e:Expr}{st:Stmt}{ti:OG}{own:List Str}{g:nJ}{tc:jY}{te:TD}
theorem Ik(nd:fr.Nodup)(h:PE X e (TY (GX K ti) own fr (PQ K g) (xQ K tc)<|lift K te)):PE X e (lift K<|vK ti own fr g tc te):=WK h<|iq nd
theorem Jk(nd:fr.Nodup)(h:PS X st (KW (TY (GX K ti) own fr (PQ K g) (xQ K tc)<|lift K te)<|eK i)):PS X st (oQ K<|oF i<|vK ti own fr g tc te):=Ck h λq=>iq nd<|PC q
end
theorem lV{g:nJ}{tc:jY}{te:TD}{Q:List D->Ev->Prop}(J:List D->List D->Ev->Prop)(hs:∀d ds acc τ,J (d::ds) acc τ->∀N:List D->Ev->Prop,(∀acc2 τ2,J ds acc2 τ2->N acc2 τ2)->g d τ λτ1=>tc τ1 λb τ2=>if b=true then te τ2 λr τ3=>N (acc++[r.d]) (clean (Z1 n) τ3) else N acc (clean (Z1 n) τ2))(hd:∀acc τ,J [] acc τ->Q acc τ):∀{ds acc:List D}{τ:Ev},J ds acc τ->TX n g tc te ds acc τ Q
 |[],acc,τ,h=>hd acc τ h
 |d::ds,acc,τ,h=>hs d ds acc τ h _ λacc2 τ2 h2=>lV J hs hd h2
theorem Kk{g:nJ}{Q:List D->Ev->Prop}(J:List D->List D->Ev->Prop)(hs:∀d ds acc τ,J (d::ds) acc τ->∀N:List D->Ev->Prop,(∀acc2 τ2,J ds acc2 τ2->N acc2 τ2)->g d τ λτ1=>te τ1 λr τ3=>N (acc++[r.d])<|clean (Z1 n) τ3)(hd:∀acc τ,J [] acc τ->Q acc τ) {ds acc:List D}{τ:Ev} (h:J ds acc τ):TX n g SH te ds acc τ Q:=
 lV J (λd ds acc τ h N hN=>by
   have q:=hs d ds acc τ h N hN;have e:(λτ1=>te τ1 λr τ3=>N (acc++[r.d])<|clean (Z1 n) τ3)=λτ1=>SH τ1 λb τ2=>if b=true then te τ2 (λr τ3=>N (acc++[r.d])<|clean (Z1 n) τ3) else N acc (clean (Z1 n) τ2):=by funext τ1;show _=(if true=true then te τ1 (λr τ3=>N (acc++[r.d])<|clean (Z1 n) τ3) else N acc (clean (Z1 n) τ1));rw[if_pos rfl]
   rw[<-e];exact q) hd h
theorem pJ{g:nJ}{Q:List D->Ev->Prop}(f:D->D){τ:Ev}{ds:List D}(hs:∀d∈ds,∀N:D->Ev->Prop,N (f d) τ->g d τ λτ1=>te τ1 λr τ3=>N r.d<|clean (Z1 n) τ3)(hd:Q (ds.map f) τ):TX n g SH te ds [] τ Q:=by
 refine Kk (λrest acc τ'=>τ'=τ/\∃pre,ds=pre++rest/\acc=pre.map f) ?_ ?_ ⟨rfl,[],rfl,rfl⟩
 .rintro d ds' acc τ' ⟨rfl,pre,e,rfl⟩ N hN;exact hs d (by rw[e];simp) (λx τ3=>N (pre.map f++[x]) τ3)<|hN _ _ ⟨rfl,pre++[d],by rw[e];simp,by simp⟩
 .rintro acc τ' ⟨rfl,pre,e,rfl⟩;rw[L1]at e;subst e;exact hd
theorem IL{g:nJ}{Q:List D->Ev->Prop}(p:D->Bool)(f:D->D){τ:Ev}{ds:List D}(hs:∀d∈ds,∀(N:D->Ev->Prop) (M:Ev->Prop),(p d=true->N (f d) τ)->(p d=false->M τ)->g d τ λτ1=>tc τ1 λb τ2=>if b=true then te τ2 λr τ3=>N r.d (clean (Z1 n) τ3) else M (clean (Z1 n) τ2))(hd:Q ((ds.filter p).map f) τ):TX n g tc te ds [] τ Q:=by
 refine lV (λrest acc τ'=>τ'=τ/\∃pre,ds=pre++rest/\acc=(pre.filter p).map f) ?_ ?_ ⟨rfl,[],rfl,rfl⟩
 .rintro d ds' acc τ' ⟨rfl,pre,e,rfl⟩ N hN;exact hs d (by rw[e];simp) (λx τ3=>N ((pre.filter p).map f++[x]) τ3) (λτ3=>N ((pre.filter p).map f) τ3) (λhp=>hN _ _ ⟨rfl,pre++[d],by rw[e];simp,by simp[hp]⟩)
   (λhp=>hN _ _ ⟨rfl,pre++[d],by rw[e];simp,by simp[hp]⟩)
 .rintro acc τ' ⟨rfl,pre,e,rfl⟩;rw[L1]at e;subst e;exact hd
structure WE(X:Cx)(e:Expr)(t:TE):Prop where
 h:PE X e t
structure WA(X:Cx)(es:List Expr)(t:TA):Prop where
 h:PA X es t
structure WT(X:Cx)(e:Expr)(t:TT):Prop where
 h:PT X e t
structure WW(X:Cx)(e:Expr)(t:TT):Prop where
 h:PW X e t
structure WS(X:Cx)(s:Stmt)(t:TS):Prop where
 h:PS X s t
structure WSs(X:Cx)(s:List Stmt)(t:TS):Prop where
 h:PSs X s t
structure WG(X:Cx)(e:Expr)(t:TG):Prop where
 h:PG X e t
structure WGs(X:Cx)(es:List Expr)(t:iy):Prop where
 h:BC X es t
structure WI(X:Cx)(g e:Expr)(t:TI):Prop where
 h:PI X g e t
structure WIf(X:Cx)(es:List Expr)(t:TT):Prop where
 h:Kx X es t
section
variable {K:Fg}{e e1 e2 e3:Expr}{es:List Expr}{a b c:AD}{as:List AD}{td te tf:TD}{tc tc':jY}{st:Stmt}{sts:List Stmt}{t u:LZ}{p pos pos' p2 apos cpos tpos:Pos}{x:Str}
theorem wn(i:Nat)(hN:X.N[i]?=some x:=by rfl)(hv:qy X.env.scope x:=by first|exact Or.inl rfl|exact Or.inr (Or.inl rfl)|exact Or.inr<|Or.inr rfl)(hd:(x==("__debug__":Str))=false:=by decide)
  (hcd:(x==("__classdict__":Str))=false:=by decide):WE X (.Name x pos) (kQ K<|.inl i):=⟨NU hN hv hd hcd⟩
theorem wv(i:Nat)(hN:X.N[i]?=some x:=by rfl)(hv:qy X.env.scope x:=by first|exact Or.inl rfl|exact Or.inr (Or.inl rfl)|exact Or.inr<|Or.inr rfl)(hd:(x==("__debug__":Str))=false:=by decide)
  (hcd:(x==("__classdict__":Str))=false:=by decide):WE X (.Name x pos) (lift K<|bu i):=⟨mL<|NU hN hv hd hcd⟩
theorem wx(h:WE X e (lift K td)):WE X e (kQ K<|.inr td):=⟨h.h⟩
theorem VQ:WA X [] (rQ<|([]:List AD).map<|kQ K):=⟨pZ⟩
theorem dX(ha:WE X e (kQ K a))(hr:WA X es (rQ<|as.map<|kQ K))(hs:lQ e=true:=by rfl):WA X (e::es) (rQ<|(a::as).map<|kQ K):=⟨xu ha.h hr.h<|starEach_of hs⟩
theorem gQ:WE X (.Constant (.int i) k pos) (lift K<|dC<|.int i):=⟨Dk (λ_=>.int _) IW⟩
theorem DZ{b:Bool}:WE X (.Constant (.bool b) k pos) (lift K<|dC<|.bool b):=⟨Dk (λ_=>.bl _) xN⟩
theorem wK:WE X (.Constant .none k pos) (lift K<|dC .none):=⟨Dk (λ_=>.non) ME⟩
theorem GQ{z:Str}:WE X (.Constant (.str z) k pos) (lift K<|dC<|.str z):=⟨Dk (λ_=>.str _) JW⟩
theorem DQ{r:R2}(ok:OQ K (kY r) (o2 f))(ho:OpR X (binaryOp op) r)(ha:WE X e1 (kQ K a))(hb:WE X e2 (kQ K b)):WE X (.BinOp e1 op e2 pos) (lift K<|FJ [a,b]<|o2 f):=⟨OP ok<|CN ho ha.h hb.h⟩
theorem xK(ha:WE X e1 (kQ K a)):WE X (.UnaryOp .USub e1 pos) (lift K<|FJ [a]<|o1 iO):=⟨yS fL<|DN mI ha.h⟩
theorem rW{op:CmpOp}{r:R2}{f:D->D->(Sl->Prop)->Prop}(ok:OQ K (kY r) (o2 f))(ho:OpR X (compareOp op) r)(ha:WE X e1 (kQ K a))(hb:WE X e2 (kQ K b))(hm:op≠.In:=by decide)(hm2:op≠.NotIn:=by decide):WE X (.Compare e1 [op] [e2] pos) (lift K<|FJ [a,b]<|o2 f):=⟨OP ok<|By ho ha.h hb.h<|lx _ hm hm2⟩
theorem Pu{op op':CmpOp}{p q:Int->Int->Bool}(ho:OpR X (compareOp op) (vW λi j=>.bl<|p i j))(ho':OpR X (compareOp op') (vW λi j=>.bl<|q i j))(ha:WE X e1 (kQ K a))(hb:WE X e2 (kQ K b))(hc:WE X e3 (kQ K c))
  (hm:lastMarks [op,op'] [e2,e3]=false:=by with_unfolding_all rfl):WE X (.Compare e1 [op,op'] [e2,e3] pos) (lift K<|uF p q a b c):=⟨Ek<|ox ho ho' ha.h hb.h hc.h hm⟩
theorem xO(h:WE X e tr):WE X (.BoolOp op [e] pos) tr:=⟨XE h.h⟩
theorem yO{rest:List Expr}(ha:WE X e1 (lift K td))(hb:WE X (.BoolOp .And (e2::rest) pos) (lift K te)):WE X (.BoolOp .And (e1::e2::rest) pos) (lift K<|Sx td te):=⟨rL<|YE ha.h hb.h⟩
theorem w_not(ha:WE X e1 (lift K td)):WE X (.UnaryOp .Not e1 pos) (lift K<|Ux td):=⟨sL<|ZE ha.h⟩
theorem QQ{k:Nat}{ps:List Str}{con:Con}(C:Cal X.prog X.w X.K X.mg X.base k x ps (dQ K con))(hr:Room k X.A)(ha:WA X (e::es) (rQ<|as.map<|kQ K))(hg:Gl X x:=by rfl)(hdb:(x==("__debug__":Str))=false:=by decide)
  (he:lQ e=true:=by rfl) (hpl:es.all lQ=true:=by rfl):WE X (.Call (.Name x p) (e::es) [] pos) (lift K<|oW con as):=⟨Fk<|Nx C hr ha.h hg hdb (starEach_of he)<|zQ hpl⟩
theorem WQ{k i:Nat}{ps:List Str}{con:Con}(C:Cal X.prog X.w X.K X.mg X.base k x ps (dQ K con))(hr:Room k X.A)(ha:WA X (e::es) (rQ<|(Sum.inl i::as).map<|kQ K))(hg:Gl X x:=by rfl)(hdb:(x==("__debug__":Str))=false:=by decide)
  (he:lQ e=true:=by rfl) (hpl:es.all lQ=true:=by rfl):WE X (.Call (.Name x p) (e::es) [] pos) (lift K<|YU con i as):=⟨tL<|Nx C hr ha.h hg hdb (starEach_of he)<|zQ hpl⟩
theorem eX{id:String}{r:List V->Hp->VK->Prop}{f:List D->(Sl->Prop)->Prop}(ok:OQ K r f)(hc:ZQ X (.builtin id) r)(hm:X.mg x=none)(hv:bootBuiltins x=some (.builtin id))(ha:WA X (e::es) (rQ<|as.map<|kQ K))(hg:Gl X x:=by rfl)(hn:x ≠ "__name__":=by decide)(hdb:(x==("__debug__":Str))=false:=by decide)
  (he:lQ e=true:=by rfl) (hpl:es.all lQ=true:=by rfl):WE X (.Call (.Name x p) (e::es) [] pos) (lift K<|FJ as f):=⟨iS ok<|KZ hc hg hm hv ha.h hn hdb (starEach_of he)<|zQ hpl⟩
theorem iZ{T:String}{r:List V->Hp->VK->Prop}{f:List D->(Sl->Prop)->Prop}(ok:OQ K r f)(hc:ZQ X (.type T) r)(hm:X.mg x=none)(hv:bootBuiltins x=some (.type T))(ha:WA X (e::es) (rQ<|as.map<|kQ K))(hg:Gl X x:=by rfl)(hn:x ≠ "__name__":=by decide)(hdb:(x==("__debug__":Str))=false:=by decide)
  (he:lQ e=true:=by rfl) (hpl:es.all lQ=true:=by rfl):WE X (.Call (.Name x p) (e::es) [] pos) (lift K<|FJ as f):=⟨iS ok<|JZ hc hg hm hv ha.h hn hdb (starEach_of he)<|zQ hpl⟩
theorem AO(T:Ki)(hK:X.K=K)(hm:X.mg "isinstance"=none){y:Str}(hm2:X.mg y=none)(hv2:bootBuiltins y=some (.type T.nm))(ha:WE X e1 (kQ K a))(hg:Gl X "isinstance":=by rfl)(hg2:Gl X y:=by rfl)(hy:y ≠ "__name__":=by decide)(hy2:(y==("__debug__":Str))=false:=by decide)(he:lQ e1=true:=by rfl) :
  WE X (.Call (.Name "isinstance" p) [e1,.Name y p2] [] pos) (lift K<|FJ [a]<|o1<|dL T):=⟨nL T<|KZ (Jz hK) hg hm boot_isinstance (NQ ha.h (NQ (OU hg2 hm2 hv2 (v:=.ty T.nm) rfl hy hy2) pZ<|starEach_of rfl)<|starEach_of he) (by decide) (by decide) (starEach_of he)<|zQ rfl⟩
theorem AR(hc:X.calm=true)(hm:X.mg "list"=none)(hm2:X.mg "range"=none)(ha:WA X [e1,e2] (rQ<|[a,b].map (kQ K)))(hg:Gl X "list":=by rfl)(hg2:Gl X "range":=by rfl)(he:lQ e1=true:=by rfl)(he2:lQ e2=true:=by rfl) :
  WE X (.Call (.Name "list" p) [.Call (.Name "range" p2) [e1,e2] [] pos'] [] pos) (lift K<|FJ [a,b]<|o2 uO) :=
 ⟨wO<|JZ (qW hc) hg hm boot_list (NQ (JZ eG hg2 hm2 boot_range ha.h (by decide) (by decide) (starEach_of he)<|zQ<|by simp[he2]) pZ<|starEach_of rfl) (by decide) (by decide) (starEach_of rfl)<|zQ rfl⟩
theorem JL(hK:X.K=K)(ha:WE X e1 (kQ K a))(hb:WE X e2 (kQ K b))(hs:RU e2:=by exact λ_ _=>rfl):WE X (.Subscript e1 e2 pos) (lift K<|FJ [a,b]<|o2 qR):=⟨OP eO<|JN (Ku hK) ha.h hb.h hs⟩
theorem mV(hu:X.A.units+1<cLine)(ha:WE X e1 (kQ K a))(hb:WE X e2 (kQ K b))(hs:DI e2:=by exact λ_ _=>rfl):WE X (.Subscript e1 e2 pos) (lift K<|FJ [a,b]<|o2 RC):=⟨OP wu<|My hu ha.h hb.h hs⟩
theorem jQ{k:Nat}(h:WA X es (rQ<|as.map<|kQ K))(hl:as.length<=1000:=by decide):WE X (.Tuple es k pos) (lift K<|Tz as sk):=⟨pL hl<|qx h.h⟩
theorem HQ(h:WA X es (rQ<|as.map<|kQ K))(hl:as.length<=1000:=by decide):WE X (.List es pos) (lift K<|Tz as uk):=⟨qL hl<|qI h.h⟩
theorem KL(its:List (EQ×Sum Nat D))(hn:(its.map (·.1)).Nodup)(hl:its.length<=15)(hc:∀p∈its,∀d,p.2=.inr d->∃n,d=.int n)(h:PE X e (Hx<|its.map λp=>(tC<|kV p.1,zR p.2))):WE X e (lift K<|SC its):=⟨Nu its hn hl hc h⟩
theorem AF{own:List Str}{ti:OG}{g:nJ}(hc:X.calm=true)(S:pK X.env.scope X.N fr sc=true)(hi:WI X tg iter (GX K ti))(hg:∀C s H ex,WG (vQ X own fr sc C s H ex) tg<|PQ K g)
  (hif:∀C s H ex,WIf (vQ X own fr sc C s H ex) ifs<|xQ K tc) (he:∀C s H ex,WE (vQ X own fr sc C s H ex) elt<|lift K te) (nd:fr.Nodup:=by decide) (hs:HJ iter=true:=by rfl):WE X (.ListComp elt [⟨tg,iter,ifs,0⟩] sc pos) (lift K<|vK ti own fr g tc te) :=
 ⟨Ik nd<|LH hc (SY S) hi.h (λC s H ex=>(hg C s H ex).h) (λC s H ex=>(hif C s H ex).h) (λC s H ex=>(he C s H ex).h)<|RK hs⟩
theorem Pj{id:String}{i:Nat}{f:List D->List D->(D->D->Prop)->Prop}(ok:lu K r f)(hK:X.K=K)(slot:Slot "list" name id)(hty:typeOf (.builtin id)=pure (.type "method_descriptor"))(hm:JP X id r)(ho:WE X (.Name x p) (kQ K<|.inl i))(ha:WA X (e::es) (rQ<|as.map<|kQ K))
  (hbase:attributeBase (.Name x p) name X.env (eval (.Name x p) X.env)=eval (.Name x p) X.env:=by rfl)
  (hfew:((backTo cpos<|starEach (e::es) X.env).all (λx=>!x.1)&&(backToKw cpos<|keywordEach [] X.env).all (λx=>x.1.isSome)&&decide ((e::es).length+([]:List Keyword).length+(if ([]:List Keyword).isEmpty then 0 else 1)<30))=true:=by rfl)
  (hline:(apos.endLine==cpos.line)=true:=by rfl) (he:lQ e=true:=by rfl) (hpl:es.all lQ=true:=by rfl):WE X (.Call (.Attribute (.Name x p) name apos) (e::es) [] cpos) (lift K<|wU i as f):=by
 subst hK;exact⟨wR ok<|MN PySem.F.plainAttrs_list slot hty hm ho.h ha.h hbase hfew hline (starEach_of he)<|zQ hpl⟩
theorem BR{id:String}{i:Nat}{f:List D->List D->(D->D->Prop)->Prop}(ok:lu K r f)(hK:X.K=K)(slot:Slot "list" name id)(hty:typeOf (.builtin id)=pure (.type "method_descriptor"))(hm:JP X id r)(ho:WE X (.Name x p) (kQ K<|.inl i))
  (hbase:attributeBase (.Name x p) name X.env (eval (.Name x p) X.env)=eval (.Name x p) X.env:=by rfl) (hline:(apos.endLine==cpos.line)=true:=by rfl):WE X (.Call (.Attribute (.Name x p) name apos) [] [] cpos) (lift K<|wU i [] f):=by
 subst hK;exact⟨nO ok<|wI PySem.F.plainAttrs_list slot hty hm ho.h hbase hline⟩
theorem jZ{op:CmpOp}{r:R2}{f:D->D->(Sl->Prop)->Prop}(ok:OQ K (kY r) (o2 f))(ho:OpR X (compareOp op) r)(ha:WE X e1 (kQ K a))(hb:WE X e2 (kQ K b))(hm:op≠.In:=by decide)(hm2:op≠.NotIn:=by decide):WT X (.Compare e1 [op] [e2] pos) (xQ K<|RH<|FJ [a,b]<|o2 f):=⟨jS ok<|ID ho ha.h hb.h<|lx _ hm hm2⟩
theorem xX(h:WT X e (xQ K tc)):WT X (.UnaryOp .Not e pos) (xQ K<|NI tc):=⟨vL<|VE h.h⟩
theorem LL(h:WT X e (xQ K tc)):WW X (.BoolOp .And [e] pos) (xQ K tc):=⟨sy h.h⟩
theorem AZ(h:WT X e (xQ K tc)):WW X (.BoolOp .Or [e] pos) (xQ K tc):=⟨SE h.h⟩
theorem BO{rest:List Expr}(ha:WT X e1 (xQ K tc))(hb:WW X (.BoolOp .And (e2::rest) pos) (xQ K tc')):WW X (.BoolOp .And (e1::e2::rest) pos) (xQ K<|OI tc tc'):=⟨wL<|UE ha.h hb.h⟩
theorem KJ{rest:List Expr}(ha:WT X e1 (xQ K tc))(hb:WW X (.BoolOp .Or (e2::rest) pos) (xQ K tc')):WW X (.BoolOp .Or (e1::e2::rest) pos) (xQ K<|mR tc tc'):=⟨oO<|yN ha.h hb.h⟩
theorem xH(h:WW X e tt):WT X e tt:=⟨h.h.pt⟩
theorem XQ(h:WE X e (lift K td))(he:∀whole,isTrue e X.env whole=(do let v<-whole;standAt e.pos;holding [v] (truthy v)):=by intro _;rfl):WT X e (xQ K<|RH td):=⟨uL<|OE h.h he⟩
theorem ML{i:Nat}(hN:X.N.Nodup)(hi:X.N[i]?=some x)(hx:gy X.env.scope x)(hf:X.fn x=true\/X.env.scope.names.lookup x=some .local:=by first|exact .inl rfl|exact .inr rfl|assumption):WG X (.Name x pos) (PQ K<|jy i):=⟨Du<|wy hN hi hx hf⟩
theorem OZ:WGs X [] (ZV<|([]:List nJ).map<|PQ K):=⟨xy⟩
theorem JQ{g:nJ}{gs:List nJ}(h1:WG X e (PQ K g))(h2:WGs X es (ZV<|gs.map<|PQ K))(hs:(assignEach (e::es) X.env).map (·.2)=assign e X.env::(assignEach es X.env).map (·.2):=by rfl):WGs X (e::es) (ZV<|(g::gs).map<|PQ K):=⟨Hk h1.h h2.h hs⟩
theorem yK{gs:List nJ}{k:Nat}(hK:X.K=K)(hc:X.calm=true)(hh:WGs X es (ZV<|gs.map<|PQ K))(hn:(assignEach es X.env).length=gs.length:=by rfl)(hst:(assignEach es X.env).findIdx? (·.1)=none:=by rfl):WG X (.Tuple es k pos) (PQ K<|LP gs):=⟨CL (Yy hK hc hh.h hn hst) rfl⟩
theorem PP:WIf X [] (xQ K SH):=⟨Eu⟩
theorem OL(h:WT X e (xQ K tc)):WIf X [e] (xQ K tc):=⟨II h.h⟩
theorem lX(hK:X.K=K)(hl:WE X e (lift K td)):WI X tg e (GX K<|zk td):=⟨DL hK hl.h⟩
theorem zK(hm:X.mg "range"=none)(ha:WA X [e1] (rQ<|[a].map (kQ K)))(hg:Gl X "range":=by rfl)(he:lQ e1=true:=by rfl):WI X tg (.Call (.Name "range" p) [e1] [] pos) (GX K<|wF a):=⟨Fu<|tz hg hm ha.h<|by rw[starEach_of he];rfl⟩
theorem PL(hm:X.mg "range"=none)(ha:WA X [e1,e2] (rQ<|[a,b].map (kQ K)))(hg:Gl X "range":=by rfl)(he:lQ e1=true:=by rfl)(he2:lQ e2=true:=by rfl):WI X tg (.Call (.Name "range" p) [e1,e2] [] pos) (GX K<|xF a b):=⟨Gu<|uz hg hm ha.h (by rw[starEach_of he,starEach_of he2];rfl)<|by rw[starEach_of he2];rfl⟩
theorem AK{ts:List Expr}{kk:Nat}(hK:X.K=K)(hm:X.mg "zip"=none)(ha:WA X [e1,e2] (rQ<|[a,b].map (kQ K)))(hg:Gl X "zip":=by rfl)(he:lQ e1=true:=by rfl)(hpl:[e2].all lQ=true:=by rfl):WI X (.Tuple ts kk tpos) (.Call (.Name "zip" p) [e1,e2] [] pos) (GX K<|aW a b):=⟨Hu<|Px hK hg hm ha.h (starEach_of he)<|zQ hpl⟩
theorem KQ:WSs X [] (oQ K Vx):=⟨yu FD⟩
theorem AQ(h:WS X st tr):WSs X [st] tr:=⟨PU h.h⟩
theorem bQ(h:WS X st (oQ K t))(h2:WSs X sts (oQ K u)):WSs X (st::sts) (oQ K<|Nz t u):=⟨xL<|Xj h.h h2.h⟩
theorem TC(h:WE X e (lift K td)):WS X (.Return (some e) pos) (oQ K<|cu td):=⟨yL<|ax h.h⟩
theorem QL(h:WE X e (kQ K<|.inl i)):WS X (.Return (some e) pos) (oQ K<|TH i):=⟨zu<|ax h.h⟩
theorem tX(h:WE X e (lift K td))(hs:VZ e=true:=by rfl):WS X (.Expr e pos) (oQ K<|Wx td):=⟨Bu<|vy h.h<|uK hs⟩
theorem qX(hc:WT X e (xQ K tc))(ha:WSs X sa (oQ K t))(hb:WSs X sb (oQ K u)):WS X (.If e sa sb pos) (oQ K<|du tc t u):=⟨pO<|AC hc.h ha.h hb.h⟩
theorem CO{body:List Stmt}(ks:List Nat){ti:OG}{g:nJ}(hp:PassesOwn (model X.prog X.w) X.A X.env X.xe)(hc:X.calm=true)(hi:WI X tg iter (GX K ti))(hg:WG X tg (PQ K g))(hb:WSs X body (oQ K t))(hs:HJ iter=true:=by rfl):WS X (.For tg iter body [] pos) (oQ K<|zU ks ti g t):=⟨Ou ks<|iI hp hc hi.h hg.h hb.h<|RK hs⟩
theorem UC{i:Nat}(hN:X.N.Nodup)(hi:X.N[i]?=some x)(hx:gy X.env.scope x)(he:WE X e (lift K td))(hs:VZ e=true:=by rfl)(hf:X.fn x=true\/X.env.scope.names.lookup x=some .local:=by first|exact .inl rfl|exact .inr rfl|assumption):WS X (.Assign [.Name x pos'] e pos) (oQ K<|oF i td):=⟨zL<|UG hN hi hx he.h (uK hs) hf⟩
theorem zs(i:Nat)(hN:X.N.Nodup)(he:WE X e (lift K td))(hi:X.N[i]?=some x:=by rfl)(hx:gy X.env.scope x:=by exact Or.inl rfl)(hs:VZ e=true:=by rfl)(hf:X.fn x=true\/X.env.scope.names.lookup x=some .local:=by first|exact .inl rfl|exact .inr rfl|assumption):WS X (.Assign [.Name x pos'] e pos) (oQ K<|oF i td):=UC hN hi hx he hs hf
theorem BF{i j:Nat}(hN:X.N.Nodup)(hi:X.N[i]?=some x)(hx:gy X.env.scope x)(he:WE X e (kQ K<|.inl j))(hs:VZ e=true:=by rfl)(hf:X.fn x=true\/X.env.scope.names.lookup x=some .local:=by first|exact .inl rfl|exact .inr rfl|assumption):WS X (.Assign [.Name x pos'] e pos) (oQ K<|XD i j):=⟨Au<|UG hN hi hx he.h (uK hs) hf⟩
theorem Lk{own:List Str}{ti:OG}{g:nJ}{i:Nat}(hN:X.N.Nodup)(hy:X.N[i]?=some x)(hl:X.env.scope.names.lookup x=some .local)(hc:X.calm=true)(S:pK X.env.scope X.N fr sc=true)(hi:WI X tg iter (GX K ti))(hg:∀C s H ex,WG (vQ X own fr sc C s H ex) tg<|PQ K g)
  (hif:∀C s H ex,WIf (vQ X own fr sc C s H ex) ifs<|xQ K tc) (he:∀C s H ex,WE (vQ X own fr sc C s H ex) elt<|lift K te) (nd:fr.Nodup:=by decide) (hs:HJ iter=true:=by rfl) (hsw:swapsWith (.ListComp elt [⟨tg,iter,ifs,0⟩] sc p) (some<|.Name x pos') pos.line X.env=pure true:=by rfl) :
  WS X (.Assign [.Name x pos'] (.ListComp elt [⟨tg,iter,ifs,0⟩] sc p) pos) (oQ K<|oF i<|vK ti own fr g tc te) :=
 ⟨Jk nd<|MH hN hy hl hc (SY S) hi.h (λC s H ex=>(hg C s H ex).h) (λC s H ex=>(hif C s H ex).h) (λC s H ex=>(he C s H ex).h) hsw<|RK hs⟩
theorem Nk{j:Nat}(hu:X.A.units+1<cLine)(ho:WE X e1 (kQ K<|.inl j))(hi:WE X e2 (kQ K a))(hv:WE X e (lift K td))(hs:VZ e=true:=by rfl):WS X (.Assign [.Subscript e1 e2 pos'] e pos) (oQ K<|aH j a td):=⟨AL<|Ny hu ho.h hi.h hv.h<|uK hs⟩
theorem RL{g:nJ}(he:WE X e (lift K td))(hg:WG X tg (PQ K g))(hs:swapsWithSole [tg] e pos.line X.env=pure false:=by rfl)(hw:swappedStores [tg] e X.env=pure none:=by rfl)(h1:(assignEach [tg] X.env).map (·.2)=[assign tg X.env]:=by rfl):WS X (.Assign [tg] e pos) (oQ K<|Gk g td):=⟨Cu<|cI he.h hg.h hs hw h1⟩
end
section
variable {P:Program}{w:World}{K:Fg}{mg:Str->Option Value}{base:Heap}
theorem DR{st:Stmt}{ts:LZ}(F:Fun K x qual st f fd)(S:FnScope N ps (aQ st))(hb:∀(cdv:Value) (A:Around) (outer:List Env) (s:Shared) (H:Hp) (E:XK),Room k (A.deeper<|envOfC qual (aQ st) s.heap.objs.size f cdv)->WSs (NY OX P w K mg base N qual (aQ st) f cdv A outer s H E).nox (cX st) (oQ K ts))(hl:∀args Qd,con args Qd->args.length=ps.length) (hc:∀args Qd,con args Qd->(∀s∈args,∀d,s≠.ow d)/\ts (ZY args Qd) (dJ N.length args)):FnOk P w K mg base OX (k+1) f fd ps (dQ K con):=
 zS F S (λcdv A outer s H E hr=>(hb cdv A outer s H E hr).h) hl hc
theorem bK{x:Str}{st:Stmt}{f:Addr}{ps:List Str}{k:Nat}{con:Con}{ts:LZ}(F:Fun K x qual st f fd)(S:FnScope N ps (aQ st))
  (hb:∀(cdv:Value) (A:Around) (outer:List Env) (s:Shared) (H:Hp) (E:XK),Room k (A.deeper<|envOfC qual (aQ st) s.heap.objs.size f cdv)->WSs (NY OX P w K mg base N qual (aQ st) f cdv A outer s H E).nox (cX st) (oQ K ts))
  (hc:∀args Qd,con args Qd->ts (ZY args Qd) (dJ N.length args)) (hn:∀args Qd,con args Qd->args.length=ps.length/\∀s∈args,∀d,s≠.ow d:=by intro a q h;repeat first|exact⟨rfl,IQ rfl⟩|(obtain⟨rfl,_⟩:=h)|(obtain⟨_,h⟩:=h)):FnOk P w K mg base OX (k+1) f fd ps (dQ K con):=DR F S hb (λa q h=>(hn a q h).1) λa q h=>⟨(hn a q h).2,hc a q h⟩
end
end L3
variable {ρ:L3.Ev}
namespace L2
theorem nV:typeLookup (.type "list") "keys"=pure none:=by rw[typeLookup_type,builtinLookup_eq_fast];kernel_rfl
theorem kZ:plainId "dict.update.loop"=true:=by decide +kernel
theorem BK:entryFor table "dict.update.loop"=some Builtin.«dict.update.loop»:=entryFor_of_tree (by kernel_rfl)
section
variable {w:World}
theorem dj{Q:Option Value->Shared->Prop}(hx:s.heap.get? a=some o)(hc:o.cls=.type "list")(hdat:o.data=.seq xs k)(hd:o.dict=none)(hA:A.handled=none)(h:∀h' tk,(∀b o,s.heap.get? b=some o->h'.get? b=some o)->Q none {s with heap:=h',toks:=tk}):wpAny (model prog w) A (getAttr? (.ref a) "keys") Q E s:=by
 obtain⟨c,dct,dat,sl⟩:=o;simp only at hc hdat hd;subst hc hdat hd;obtain⟨hp,g,d,tk,os⟩:=s;have hT:∀tk',(⟨hp,g,d,tk',os⟩:Shared).TypeIs (.ref a) "list":=λ_=>⟨_,hx,rfl⟩;have f1:=sub_AttributeError;have f3:=F.slot_list_getattribute.lookup;have f4:=F.slot_list_getattribute.bind<|.ref a;have f5:=am_list_getattr_none;unfold getAttr? getAttrBy? getAttrBy;repeat (any_goals (first|assumption|exact hT _|((with_reducible show wpAny _ _ (call (o7 "list.__getattribute__") _ _) _ _ _);refine call_meets F.slot_list_getattribute (hT _) am_entry_list_getattribute (F.args_list_getattribute_2 _ _) (meets_getattribute_miss_list a xs k sl "keys" _ nV (by decide +kernel)<|by decide +kernel) ⟨hx,hA,λh' tk' e hx'=>?_⟩)|wp_step))
 obtain⟨t',u',he⟩:=hx'.there;show wpAny _ _ (getattributeRaised _ _ _ _ _ _ _) _ _ _;unfold getattributeRaised;repeat (any_goals (first|assumption|wp_step))
 exact h _ _ hx'.keeps
end
section
variable {w:World}{R:Result->Shared->Prop}{wr:List Addr}{P:Nat->Value->Prop}{St:Nat->Heap->Prop}
theorem Pk(W:Walks prog w A.in1 I fp wr n P St)(d:Addr)(hdf:d∉fp)(J:Nat->Heap->Prop)(hfr:∀i h h',J i h->(∀b o,b∉wr->h.get? b=some o->h'.get? b=some o)->J i h')(step:∀(i:Nat) (v:Value) (s:Shared) (Q:Unit->Shared->Prop) (E:Value->Shared->Prop),i<n->P i v->J i s.heap ->(∀h' tk,J (i+1) h'->u3 d s.heap h'->Q () {s with heap:=h',toks:=tk}) -> ∃p x y,v=.ref p/\s.heap.IsTuple p #[x,y]/\wpAny (model prog w) A.in1 (dictSet d x y) Q E s):∀(k i:Nat) (s:Shared) (tA:Tok),n-i=k->i<=n->St i s.heap->J i s.heap -> (∀h' tk,J n h'->(∀b o,b∉wr->b≠d->s.heap.get? b=some o->h'.get? b=some o)->R (.ok<|.ret .none) {s with heap:=h',toks:=tk}) -> codeAny (model prog w) A (.builtin "dict.update.loop" ⟨[.ref d,.ref I,.int i tA,.none],[]⟩) R s:=by
 intro k;induction k with
 |zero =>
  intro i s tA hk hi hst hJ hR;have hin:i=n:=by lia
  subst hin;refine codeAny_builtin BK ?_;rw[Around.under_plainId kZ _];show wpAny _ A.in1 (pyNext (.ref I) >>= _) _ _ s;refine wpAny_bind<|W.done s _ _ hst λh' tk hk'=>?_;show wpAny _ _ (Builtin.Dict.addKeywords d [] >>= _) _ _ _;exact wpAny_bind<|wpAny_pure<|wpAny_pure<|hR h' tk (hfr _ _ _ hJ hk') λb o hbw _ e=>hk' b o hbw e
 |succ k ih =>
  intro i s tA hk hi hst hJ hR;have hlt:i<n:=by lia
  refine codeAny_builtin BK ?_;rw[Around.under_plainId kZ _];show wpAny _ A.in1 (pyNext (.ref I) >>= _) _ _ s;refine wpAny_bind<|W.item i s _ _ hlt hst λv h' tk hP hst' hk'=>?_;have hJ':=hfr _ _ _ hJ hk';obtain⟨p,x,y,rfl,⟨ob,ho,hc,m,hd⟩,hw⟩:=step i v {s with heap:=h',toks:=tk} (λ_ s''=>∃h'' tk',s''={s with heap:=h'',toks:=tk'}/\J (i+1) h''/\u3 d h' h'') (λ_ _=>False) hlt hP hJ' λh'' tk' j sb=>⟨h'',tk',rfl,j,sb⟩;show wpAny _ A.in1 (holding [.ref p] _ >>= _) _ _ _;refine wpAny_bind<|wpAny_holding ?_;refine wpAny_bind<|wpAny_tryCatch ?_;unfold Builtin.Dict.pairItems;refine wpAny_bind<|wpAny_typeOf (T:="tuple") ⟨_,ho,hc⟩ ?_;rw[if_pos<|by decide];refine wpAny_bind<|wpAny_seqItems ho hd<|wpAny_pure ?_;show wpAny _ A.in1 (holding [x,y]<|dictSet d x y) _ _ _;refine wpAny_holding<|wpAny_mono hw (λ_ s'' z=>?_) λ_ _ z=>z.elim;obtain⟨h'',tk',rfl,j,sb⟩:=z;refine wpAny_pure ⟨plainId_quiet kZ _,?_⟩;exact ih (i+1) {s with heap:=h'',toks:=tk'} 0 (by lia) hlt (W.frame _ _ _ hst' λb hb o e=>(sb.2 b λq=>hdf<|q ▸ hb).trans e) j λh3 tk3 j3 k3=>hR h3 tk3 j3 λb o hbw hbd e=>k3 b o hbw hbd<|(sb.2 b hbd).trans<|hk' b o hbw e
end
section
variable {w:World}
theorem xW(J:Nat->Heap->Prop)(hh:A.handled=none)(hx:s.heap.get? a=some o) (hc:o.cls=.type "list") (hdat:o.data=.seq xs k) (hd:o.dict=none)(h0:∀h',(∀b ob,s.heap.get? b=some ob->h'.get? b=some ob)->h'.get? s.heap.objs.size=some {cls:=.type "dict",data:=.dict #[]}->J 0 h')(hfr:∀i h h',J i h->(∀b ob,b<s.heap.objs.size+1->h.get? b=some ob->h'.get? b=some ob)->J i h')(step:∀(i:Nat) (v:Value) (s':Shared) (Q':Unit->Shared->Prop) (E':Value->Shared->Prop),xs[i]?=some v->J i s'.heap->(∀b ob,s.heap.get? b=some ob->s'.heap.get? b=some ob) ->(∀h' tk,J (i+1) h'->u3 s.heap.objs.size s'.heap h'->Q' () {s' with heap:=h',toks:=tk}) -> ∃p x y,v=.ref p/\s'.heap.IsTuple p #[x,y]/\wpAny (model prog w) A.in1.in1 (dictSet s.heap.objs.size x y) Q' E' s')(h:∀h' tk,J xs.size h'->(∀b ob,s.heap.get? b=some ob->h'.get? b=some ob)->Q (.ref s.heap.objs.size) {s with heap:=h',toks:=tk}):wpAny (model prog w) A (call (.type "dict") [.ref a]) Q E s:=by
 refine callType_codes (Q₁:=λobj s₁=>obj=.ref s.heap.objs.size/\s₁={s with heap:=s.heap.push {cls:=.type "dict",data:=.dict #[]}}) F.kt_called_dict (F.kt_typeCall_dict_1 _) F.entry_dict_init (kt_code_dict_new _ ⟨rfl,rfl⟩) ?_;rintro obj s₁ ⟨rfl,rfl⟩;have hnew:(s.heap.push {cls:=.type "dict",data:=.dict #[]}).get? s.heap.objs.size=some {cls:=.type "dict",data:=.dict #[]}:=T0 _ rfl;have hkp:∀b ob,s.heap.get? b=some ob->(s.heap.push {cls:=.type "dict",data:=.dict #[]}).get? b=some ob:=λb ob e=>u0 _ e;refine⟨⟨_,hnew,rfl⟩,F.args_dict_init_2 _ _,?_⟩;unfold Builtin.«dict.__init__»;refine wpAny_bind ?_;unfold Builtin.Dict.selfAndRest;refine wpAny_bind<|wpAny_notOrdered_dict ⟨_,hnew,rfl⟩ ?_;show wpAny _ _ (pure (s.heap.objs.size,[E2 a])) _ _ _;refine wpAny_pure ?_;show wpAny _ _ (w8 "dict.__init__" s.heap.objs.size (.ref a) [] .none) _ _ _;unfold w8;refine wpAny_bind<|wpAny_typeOf (T:="list") ⟨_,hkp _ _ hx,hc⟩ ?_;rw[if_pos<|by decide];refine wpAny_bind<|dj (hkp _ _ hx) hc hdat hd hh λh1 tk1 k1=>?_;simp only[Option.isNone_none,if_true];refine wpAny_bind<|wpAny_rule ?_;refine wpAny_bind<|wpAny_pyIter_list (s:={s with heap:=h1,toks:=tk1}) ⟨_,k1 _ _<|hkp _ _ hx,hc,k,hdat⟩ ?_;have hlt:s.heap.objs.size<h1.objs.size:=U0<|k1 _ _ hnew;have halt:a<s.heap.objs.size:=U0 hx;have hnf:s.heap.objs.size∉[h1.objs.size,a]:=λhm=>by
  rcases P0.mp hm with q|q
  .exact V0 hlt q
  .exact v3 halt (Y0.mp q)
 refine wpAny_pure ⟨plainId_quiet kZ _,Pk (Walks.list (A:=A.in1.in1) hh h1.objs.size a (V0<|B8 halt hlt) xs) s.heap.objs.size hnf (λi h'=>J i h'/\∀b ob,s.heap.get? b=some ob->h'.get? b=some ob) ?_ ?_ xs.size 0 _ 0 rfl (W2 _) ?_ ?_ ?_⟩
 .rintro i hp hp' ⟨j,kk⟩ kp;refine⟨hfr _ _ _ j λb ob hb e=>kp b ob (λhm=>V0 (X2 (Nat.le_of_lt_succ hb) hlt)<|Y0.mp hm) e,λb ob e=>kp b ob ?_<|kk b ob e⟩;exact λhm=>V0 (B8 (U0 e) hlt)<|Y0.mp hm
 .rintro i v s' Q' E' hi hP ⟨j,kk⟩ hq;refine step i v s' Q' E' hP j kk λh' tk j' sb=>hq h' tk ⟨j',λb ob e=>(sb.2 b ?_).trans<|kk b ob e⟩ sb;exact V0<|U0 e
 .exact⟨⟨_,T0 _ rfl,rfl,rfl⟩,⟨_,u0 _<|k1 _ _<|hkp _ _ hx,hc,k,hdat⟩⟩
 .exact⟨hfr _ _ _ (h0 h1 (λb ob e=>k1 b ob<|hkp b ob e)<|k1 _ _ hnew) λb ob _ e=>u0 _ e,λb ob e=>u0 _<|k1 b ob<|hkp b ob e⟩
 .rintro h' tk ⟨j,kk⟩ _;exact⟨rfl,h h' tk j kk⟩
end
noncomputable def lZ{κ:Type}[DecidableEq κ](kvs:List (κ×V)):List (κ×V):=kvs.foldl (λm kv=>IX m kv.1 kv.2) []
theorem fG[DecidableEq κ](kvs:List (κ×V))(kv:κ×V):lZ (kvs++[kv])=IX (lZ kvs) kv.1 kv.2:=by simp[lZ]
theorem gG[DecidableEq κ]{kvs:List (κ×V)}{kv:κ×V}{i:Nat}(h:kvs[i]?=some kv):lZ (kvs.take<|i+1)=IX (lZ<|kvs.take i) kv.1 kv.2:=by rw[<-fG,List.take_add_one,h];rfl
theorem oV[DecidableEq κ](kvs:List (κ×V)):(lZ kvs).length<=kvs.length:=by
 have gen:∀(l m:List (κ×V)),(l.foldl (λm kv=>IX m kv.1 kv.2) m).length<=m.length+l.length:=by
  intro l;induction l with
  |nil=>intro m;simp
  |cons x l ih =>
   intro m;have h1:=ih<|IX m x.1 x.2;have h2:=aZ m x.1 x.2;simp only[N8,Y1]
   lia
 simpa [lZ]using gen kvs []
theorem Vals.getV:∀{xs:List V}{us:List Value}{i:Nat}{u:Value},Vals xs us->us[i]?=some u->∃x,xs[i]?=some x/\RelV x u
 |_,_,0,_,.cons r _,e=>⟨_,rfl,by cases e;exact r⟩
 |_,_,i+1,_,.cons _ t,e=>Vals.getV (i:=i) t e
def VC(H:Hp)(y:V)(kv:EQ×V):Prop:=∃q,y=.ref q/\H q=some (.tup [kV kv.1,kv.2])
def Qk(K:G0):List V->Hp->VK->Prop:=λxs H Q=>∃(p:Addr) (ys:List V) (kvs:List (EQ×V)),xs=[.ref p]/\SqL K H p ys/\ys.length=kvs.length/\(∀(i:Nat) y,ys[i]?=some y->∃kv,kvs[i]?=some kv/\VC H y kv) /\
 ∀l,H l=none->Q (.ref l) (upd H l<|.dK<|lZ kvs)
theorem CF(hc:X.calm=true):ZQ X (.type "dict") (Qk X.K):=by
 intro pins s σ H xs us Q I r h;obtain⟨p,ys,kvs,rfl,hq,hl,hp,q⟩:=h;obtain⟨u,rfl,rx⟩:=EZ r;cases rx;obtain⟨its,r',⟨o,n,e1,e2,e3,e4⟩,hz⟩:=I.list hq;have hb:(s.heap.objs.size==sysModules)=false:=beq_eq_false_iff_ne.mpr<|S2<|V0 I.big;have hk:=oV kvs;have hlen:=r'.length;refine xW (λi h=>∃vs,KV (lZ<|kvs.take i) vs/\h.DictOf (bX X.prog X.w) s.heap.objs.size vs) (I.ok.hd hc) e1 e2 e4 e3 ?_ ?_ ?_ ?_
 .intro h' _ e;obtain⟨o',es,ep,ho,rest⟩:=U9 (knd:=bX X.prog X.w) s.heap;rw[T0 _ rfl]at ho;cases ho;exact⟨[],.nil,_,es,ep,e,rest⟩
 .rintro i h1 h2 ⟨vs,rel,o',es,ep,ho,rest⟩ kp;exact⟨vs,rel,o',es,ep,kp _ _ (V3 _) ho,rest⟩
 .rintro i v s' Q' E' hv ⟨vs,rel,dd⟩ kk hq';obtain⟨y,ey,ry⟩:=r'.getV (by simpa using hv);obtain⟨kv,ekv,qq,rfl,eq⟩:=hp i y ey;cases ry;obtain⟨_,its2,r2,ob,h1,h2,m,h3,_⟩:=(show ObjOk X.prog X.w H s.heap qq (.tup [kV kv.1,kv.2]) from I.hok qq _ eq);obtain⟨u1,u2,rfl,ru1,ru2⟩:=bY r2;have hz2:vs.length<=sizeLine:=by
   have a1:=rel.length;have a2:=oV<|kvs.take i;have a3:(kvs.take i).length<=kvs.length:=by simp only[j2];lia
   lia
  refine⟨qq,u1,u2,rfl,⟨ob,kk _ _ h1,h2,m,h3⟩,wpAny_dictSet_pairs (hsz:=hz2) (FH ru1) dd λh' dd' sb=>hq' h' _ ⟨_,?_,dd'⟩ sb⟩;rw[gG ekv];exact rel.put kv.1 ru2
 .rintro h' tk ⟨vs,rel,dd⟩ kp;have et:kvs.take its.toArray.size=kvs:=by rw[Z3];simp only[X0];lia
  rw[et]at rel;exact⟨.ref s.heap.objs.size,_,I.laid (t':=tk) kp (O0 _)<|show ObjOk X.prog X.w _ h' _ (.dK<|lZ kvs) from ⟨by lia,hb,vs,rel,dd⟩,rfl,q _<|I.hok.fresh<|O0 _⟩
end L2
namespace L3
open L2
noncomputable abbrev kS(p:EQ×D):D:=.tuple [DJ p.1,p.2]
noncomputable abbrev AS(p:EQ×D):D×D:=(DJ p.1,p.2)
section
variable {K:Fg}{F:Hp}
theorem Rk(s:Sub F H):∀{ps:List (EQ×D)}{xs:List V},DaAll K F xs (ps.map kS)->∃vk:List (EQ×V),vk.map (·.1)=ps.map (·.1)/\xs.length=vk.length/\(∀(i:Nat) y,xs[i]?=some y->∃kv,vk[i]?=some kv/\VC H y kv)/\DaKV K F vk (ps.map AS)
 |[],_,.nil=>⟨[],rfl,rfl,λ_ _ e=>by simp at e,.nil⟩
 |p::ps,_,.cons h t=>by
  obtain⟨vk,e1,e2,e3,e4⟩:=Rk s t;cases h with
  |tup q r =>
   cases r with
   |@cons x _ _ _ r1 r2 =>
    cases r2 with
    |cons r2 r3 =>
     cases r3;have hx:x=kV p.1:=by obtain⟨k,d⟩:=p;cases k<;>(cases r1;rfl)
     subst hx;refine⟨(p.1,_)::vk,by simp[e1],by simp[e2],λi y e=>?_,.cons r2 e4⟩;cases i with
     |zero=>cases e;exact⟨_,rfl,_,rfl,s _ _ q⟩
     |succ i=>exact e3 i y e
end
section
variable {K:Fg}{e1 e2:Expr}{a b:AD}{pos:Pos}
end
noncomputable def Sk(ρ:Ev)(fr:List Nat):Bool:=fr.all λj=>match ρ[j]? with|some (some t)=>!YQ t|_=>true
theorem fj(h:Sk ρ fr=true){k i:Nat}{s:Sl}(e:fr[k]?=some i)(e2:ρ[i]?=some (some s)):YQ s=false:=by have:=K2.mp h i<|U1 e;simpa [e2]using this
def DF(i:Nat)(own:List Str)(fr:List Nat)(g:nJ)(tc:jY)(te:TD):TD:=λρ Q=>match ρ[i]? with
 |some (some s)=>match s.d with
  | .list ds=>Sk ρ fr=true/\ds.length<=sizeLine/\TX own.length g tc te ds [] (GJ own fr ρ) λys _=>noMutAll ys=true/\Q (.ow<|.list ys) ρ
  |_=>False
 |_=>False
section
variable {K:Fg}{G:Gh}{F F':Hp}{σ τ:L2.St}{μ:Ev}{own:List Str}{xs:List vU}
theorem Rel.innerL(R:Rel K G F σ H ρ)(hn:Sk ρ fr=true):Rel K ⟨H,YX σ ρ xs F H,λ_=>none⟩ (YX σ ρ xs F H) (Py own σ fr) H (GJ own fr ρ):=by
 have no:∀{j:Nat}{s:Sl},(GJ own fr ρ)[j]?=some (some s)->∃k i d,j=own.length+k/\fr[k]?=some i/\ρ[i]?=some (some<|Sl.fz d)/\s=.fz d:=λ{j s} e=>by
  obtain⟨k,i,s0,rfl,h2,h3,h4⟩:=XX e;rcases h4 with⟨d0,rfl,z⟩|⟨w0,_⟩
  .exact⟨k,i,d0,rfl,h2,h3,z⟩
  .rw[fj hn h2 h3]at w0;cases w0
 exact {
   len:=by simp[Py,GI,GJ]
   sub:=PK R
   sub0:=Sub.refl _
   fn:=λ_ _ e=>.inl e
   keep:=λ_ _ e _ _=>e
   tb:=yY R
   fz:=λj d e=>by obtain⟨k,i,d0,rfl,h2,h3,z⟩:=no e;cases z;obtain⟨v,e1,e2⟩:=R.fz i d h3;exact⟨v,by rw[XY h2,e1];rfl,e2.mono<|yZ R⟩
   ow:=λj s e w=>by obtain⟨k,i,d0,rfl,h2,h3,z⟩:=no e;subst z;cases w
   new:=λj d a e _=>by obtain⟨k,i,d0,rfl,h2,h3,z⟩:=no e;cases z
   io:=λj a e=>by cases e
   ioi:=λj d e=>by obtain⟨k,i,d0,rfl,h2,h3,z⟩:=no e;cases z
   ap:=λj l s t a e1 w1 _ _ _ _=>by obtain⟨k,i,d0,rfl,h2,h3,z⟩:=no e1;subst z;cases w1}
theorem EF(R:Rel K G F σ H ρ){σ1:L2.St}{ρ1:Ev}(R':Rel K ⟨H,YX σ ρ xs F H,λ_=>none⟩ F' σ1 H' ρ1):∀b ys,F' b=some (.tup ys)->SX σ ρ xs F' b=some (.tup ys):=λb ys e=>by
 have n:¬LentA σ ρ xs b:=λz=>by obtain⟨_,_,o,_,_,_,_,h,w⟩:=z.own R;have e2:=R'.sub0 b o (by show YX σ ρ xs F H b=some o;rw[OK z];exact h);rw[e]at e2;cases e2;exact w
 rw[ZX n];exact e
end
theorem Qu{K:Fg}{g:nJ}{Q:VK}(h:lift K (DF i own fr g tc te) σ H Q):TY (gL K<|kQ K<|.inl i) own fr (PQ K g) (xQ K tc) (lift K te) σ H Q:=by
 obtain⟨G,F,ρ,Qd,R,w,k⟩:=h;unfold DF at w;split at w
 case h_2=>exact w.elim
 rename_i s es;split at w
 case h_2=>exact w.elim
 rename_i ds ed;obtain⟨hno,hz,w1⟩:=w;have hv:∃a xs,σ[i]?=some (some<|V.ref a)/\YX σ ρ [.inl i] F H a=some (.lst xs)/\DaAll K (YX σ ρ [.inl i] F H) xs ds:=by
  have own:YQ s=true->∃a xs,σ[i]?=some (some<|V.ref a)/\YX σ ρ [.inl i] F H a=some (.lst xs)/\DaAll K (YX σ ρ [.inl i] F H) xs ds:=λws=>by
   obtain⟨b,u,h1,h2,h3,h4⟩:=R.ow i s es ws;have l:LentA σ ρ [.inl i] b:=⟨i,s,Y0.mpr rfl,es,ws,h1⟩;rw[ed]at h4;cases u with
   |lst xs=>exact⟨b,xs,h1,by rw[OK l];exact h3,DaAll.mono (yZ R) h4⟩
   |_=>exact h4.elim
  cases s with
  |fz d =>
   obtain⟨v,e1,e2⟩:=R.fz i d es;have ed:d=.list ds:=ed;rw[ed]at e2;cases e2 with
   |lst q t=>exact⟨_,_,e1,yZ R _ _ q,t.mono<|yZ R⟩
  |ow d=>exact own rfl
  |io d=>exact own rfl
 obtain⟨a,xs,ha,hl,da0⟩:=hv;have wk:=hV (K:=K) hl da0;have Ri:=R.innerL (xs:=[.inl i]) (own:=own) hno;refine⟨_,ha,a,rfl,.inl ⟨⟨xs,SqL.of<|PK R _ _ hl⟩,?_⟩⟩;refine⟨λi' m ys τ H2=>m=ds.length-i'/\i'<=ds.length/\∃F' ρ' acc,Rel K ⟨H,YX σ ρ [.inl i] F H,λ_=>none⟩ F' τ H2 ρ'/\DaAll K F' ys acc/\acc.length<=i'/\TX own.length g tc te (ds.drop i') acc ρ' (λys _=>noMutAll ys=true/\Qd (.ow<|.list ys) ρ),
   ⟨ds.length,rfl,W2 _,_,_,[],Ri,.nil,W2 _,w1⟩,?_⟩;rintro j m ys τ H' ⟨rfl,hi,F',ρ',acc,R',da,hl,w'⟩;obtain⟨hgo,hst⟩:=wk j H' F' R'.sub0 R'.sub;cases e:ds[j]? with
 |none=>have hl':ds.length<=j:=B3.mp e;refine .inl ⟨hst<|by lia,λDd hD=>?_⟩;rw[A3 hl']at w';obtain⟨hm,w'⟩:=w';obtain⟨sb,Ro⟩:=R.called R';obtain⟨Rn,rn⟩:=Ro.newOw (o:=.lst ys) (d:=.list acc) hD<|DaAll.noMut (EF R R') da hm;exact k _ _ _ _ _ sb Rn rn w'
 |some d =>
  obtain⟨go,yl⟩:=hgo d e;have hlt:=sX e;rw[bV e]at w';refine .inr ⟨go,by rw[da.length];lia,λys2 τ2 H2=>∃F2 ρ2 acc2,Rel K ⟨H,YX σ ρ [.inl i] F H,λ_=>none⟩ F2 τ2 H2 ρ2/\DaAll K F2 ys2 acc2/\acc2.length<=j+1/\TX own.length g tc te (ds.drop<|j+1) acc2 ρ2 (λys _=>noMutAll ys=true/\Qd (.ow<|.list ys) ρ),
    λys2 τ2 H2 ⟨F2,ρ2,acc2,z1,z2,z3,z4⟩=>⟨ds.length-(j+1),by lia,rfl,hlt,F2,ρ2,acc2,z1,z2,z3,z4⟩,λx H2 y=>?_⟩;obtain⟨F2,t1,t2,t3,t4,t5⟩:=yl x H2 y;have R2:=R'.turn t1 t2 t3 t4;refine⟨_,F2,ρ',d,_,R2,t5,w',λτ3 ρ3 R3 w3=>?_⟩;refine⟨_,F2,ρ3,_,R3,w3,λb H4 F4 ρ4 s4 R4 w4=>?_⟩;cases b with
  |false=>exact⟨F4,_,acc,R4.clean _,da.mono<|t1.trans s4,by lia,w4⟩
  |true=>refine⟨_,F4,ρ4,_,R4,w4,λv H5 F5 r ρ5 s5 R5 r5 w5=>?_⟩;obtain⟨F6,s6,R6,d6⟩:=r5.frz R5;exact⟨F6,_,acc++[r.d],R6.clean _,(da.mono<|t1.trans<|s4.trans<|s5.trans s6).append<|.cons d6 .nil,by simp;lia,w5⟩
section
variable {K:Fg}{e:Expr}{pos:Pos}{tc:jY}{te:TD}
theorem Ru{own:List Str}{i:Nat}{g:nJ}(hK:X.K=K)(hc:X.calm=true)(S:pK X.env.scope X.N fr sc=true)(hi:WE X iter (kQ K<|.inl i))(hg:∀C s H ex,WG (vQ X own fr sc C s H ex) tg<|PQ K g)
  (hif:∀C s H ex,WIf (vQ X own fr sc C s H ex) ifs<|xQ K tc) (he:∀C s H ex,WE (vQ X own fr sc C s H ex) elt<|lift K te) (hs:HJ iter=true:=by rfl):WE X (.ListComp elt [⟨tg,iter,ifs,0⟩] sc pos) (lift K<|DF i own fr g tc te) :=
 ⟨WK (LH hc (SY S) (fq hK hi.h) (λC s H ex=>(hg C s H ex).h) (λC s H ex=>(hif C s H ex).h) (λC s H ex=>(he C s H ex).h)<|RK hs) Qu⟩
end
mutual
theorem lY:∀d:D,LX d=true->SeqAt.noMix d d=true
 | .none,_=>by simp[SeqAt.noMix]
 | .bool _,_=>by simp[SeqAt.noMix]
 | .int _,_=>by simp[SeqAt.noMix]
 | .str _,_=>by simp[SeqAt.noMix]
 | .list xs,h=>by simp[SeqAt.noMix];exact noMixAll_self xs (by simpa [LX]using h)
 | .tuple xs,h=>by simp[SeqAt.noMix];exact noMixAll_self xs (by simpa [LX]using h)
 | .dict _,h=>by simp[LX]at h
theorem noMixAll_self:∀xs:List D,plainAll xs=true->SeqAt.noMixAll xs xs=true
 |[],_=>by simp[SeqAt.noMixAll]
 |x::xs,h=>by simp[plainAll]at h;simp[SeqAt.noMixAll];exact⟨lY x h.1,noMixAll_self xs h.2⟩
end
structure Nice(n:Nat)(d:D):Prop where
 p:LX d=true
 c:d.canLay0=true
 d:d.depth<=n
theorem Nice.int(n:Nat)(i:Int):Nice n (.int i):=⟨rfl,by simp[Y8],by simp[O9]⟩
theorem pV{n:Nat}:∀{l:List D},(∀d∈l,Nice n d)->plainAll l=true/\X7 l=true/\O8 l<=n
 |[],_=>⟨rfl,by simp[X7],by simp[O8]⟩
 |x::l,h=>by
  have h1:=h x L0;have h2:=pV (l:=l) λd hd=>h d<|K0 _ hd;refine⟨by simp[plainAll,h1.p,h2.1],by simp[X7,h1.c,h2.2.1],?_⟩;have:=h1.d;have:=h2.2.2;simp[O8]
  lia
theorem Nice.list{l:List D}(h:∀d∈l,Nice n d):Nice (n+1) (.list l):=by obtain⟨a,b,c⟩:=pV h;exact⟨by simp[LX,a],by simp[Y8,b],by simp[O9];lia⟩
theorem Nice.tuple{l:List D}(h:∀d∈l,Nice n d):Nice (n+1) (.tuple l):=by obtain⟨a,b,c⟩:=pV h;exact⟨by simp[LX,a],by simp[Y8,b],by simp[O9];lia⟩
theorem Nice.sh{d:D}(h:Nice n d)(k:n<=64):SeqAt.shaped d=true:=by
 have:=h.d;unfold SeqAt.shaped;rw[h.c];simp
 lia
end L3
namespace L2
def jq(K:G0):List V->Hp->VK->Prop:=λxs H Q=>∃(x:V) (k:Ki) (T:Ki),xs=[x,.ty T.nm]/\(KiOf K H x k\/∃a,x=.ref a/\k=.dct/\iR H a)/\Q (.bl<|k.sub T) H
theorem gj:ZQ X (.builtin "isinstance") (jq X.K):=by
 intro pins s σ H xs us Q I r h;obtain⟨x,k,T,rfl,hk,q⟩:=h;rcases hk with hk|⟨a,rfl,rfl,hd⟩
 .exact JH pins s σ H _ us Q I r ⟨x,k,T,rfl,hk,q⟩
 .obtain⟨u,w',rfl,ru,rw'⟩:=bY r;obtain rfl:w'=.type T.nm:=rw';cases ru;have ht:s.TypeIs (.ref a) Ki.dct.nm:=(EI I hd).1;cases hs:Ki.dct.sub T with
  |true=>rw[hs]at q;exact call_isinstance (isinstance_true (Tx:=Ki.dct.nm) (wZ T)<|by rw[WU,hs]) ⟨ht,.bl true,H,I,rfl,q⟩
  |false =>
   rw[hs]at q;have hsub:isSubtype (.type Ki.dct.nm) (.type T.nm)=pure false:=by rw[WU,hs]
   have hne:=LC Ki.dct T hs;have fin:EP X pins σ Q (.bool false) {s with toks:=s.toks+1}:=⟨.bl false,H,I.tok _,rfl,q⟩;exact call_isinstance (isinstance_false_dict hne (wZ T) hsub) ⟨ht,fin⟩
inductive PrsT (H:Hp):List (V×V)->List (List EQ×V)->Prop
 |nil:PrsT H [] []
 |cons {b ks v ps kvs}:H b=some (.tup<|ks.map kV)->PrsT H ps kvs->PrsT H ((.ref b,v)::ps) ((ks,v)::kvs)
section
variable {a:Addr}
theorem GF{r:Value}{Q:Unit->Shared->Prop}(hu:A.units<cLine)(I:Inv X pins σ H s)(e:H a=some (.dT acc))(eb:H b=some (.tup<|k.map kV))(l:acc.length<sizeLine)(rv:RelV v r)(h:∀s',Inv X pins σ (upd H a<|.dT<|IX acc k v) s'->Q () s'):wpAny (model X.prog X.w) A (dictSet a (.ref b) r) Q E s:=by
 obtain⟨z,hd,xs,rel,dd⟩:=JC I.hok e;have hz:xs.length<=sizeLine:=by rw[<-Paired.length rel];exact z
 have hl:(IX acc k v).length<=sizeLine:=by have:=aZ acc k v;lia
 refine wpAny_dictSet_heap (hsz:=hz) (knd:=tupleKind<|bX X.prog X.w) hu (VU I.hok eb) dd λh' dd' hs=>h _ ?_;obtain⟨q,es,ep,hq,h2,h3,h4,_,h5⟩:=dd';refine BW I (by rw[e];exact True.intro) hs ⟨q,hq⟩ ⟨hl,hd,_,(rel.put k eb rv).keeps λc ys ec=>?_,q,es,ep,hq,h2,h3,h4,h5⟩;rw[iQ<|Sj ec e<|λz=>nomatch z];exact ec
theorem PrsT.upd{acc acc':List (List EQ×V)}(e:H a=some (.dT acc)):∀{ps:List (V×V)}{kvs:List (List EQ×V)},PrsT H ps kvs->PrsT (upd H a<|.dT acc') ps kvs
 |_,_,.nil=>.nil
 |_,_,.cons q t=>.cons (by rw[iQ<|Sj q e<|λz=>nomatch z];exact q)<|PrsT.upd e t
theorem AU(hu:A.units<cLine):∀{vs:List (Value×Value)}{ps:List (V×V)}{kvs acc:List (List EQ×V)}{H:Hp}{s:Shared}{Q:PUnit->Shared->Prop},Inv X pins σ H s->H a=some (.dT acc)->PrsT H ps kvs->VV ps vs->acc.length+kvs.length<sizeLine -> (∀s',Inv X pins σ (upd H a<|.dT<|kvs.foldl (λm kv=>IX m kv.1 kv.2) acc) s'->Q ⟨⟩ s')->wpAny (model X.prog X.w) A (storeAll a vs) Q E s
 |[],ps,kvs,acc,H,s,Q,I,e,pr,rel,hl,h=>by
  cases rel;cases pr;unfold storeAll;rw[P6];refine wpAny_pure<|h s ?_;have:upd H a (.dT acc)=H:=by funext c;unfold upd;split;(rename_i z;rw[z,e]);rfl
  simpa [this]using I
 |x::vs,ps,kvs,acc,H,s,Q,I,e,pr,rel,hl,h=>by
  cases rel with
  |cons r t =>
   cases pr with
   |@cons b ks v ps kvs q pr=>obtain⟨u,w'⟩:=x;obtain⟨r1,r2⟩:=r;cases (show u=E2 b from r1);rw[Y1]at hl;unfold storeAll;rw[J6];refine wpAny_bind<|wpAny_bind<|GF hu I e q (by lia) r2 λs1 I1=>wpAny_pure ?_;have hp:=aZ acc ks v;refine AU hu (vs:=vs) (acc:=IX acc ks v) I1 uQ (pr.upd e) t (by lia) λs' I'=>h s' ?_;rw[LU]at I';exact I'
def HF(trs:List (TE×TE)):TE:=λσ H Q=>∀p,H p=none->PY trs σ (upd H p<|.dT []) λps H2=>H2 p=some (.dT [])/\∃kvs:List (List EQ×V),PrsT H2 ps kvs/\kvs.length<=15/\Q (.ref p) (upd H2 p<|.dT<|lZ kvs)
theorem Tk(hu:X.A.units<cLine)(h:ON X pos keys values trs)(hall:keys.all (·.isSome)=true)(hl:keys.length=values.length)(h0:keys≠[])(h15:keys.length<=15):PE X (.Dict keys values pos) (HF trs):=by
 intro pins s σ H Q I q;have hn:=I.hok.fresh<|O0 s.heap.objs.size;have I1:=I.laid (a:=s.heap.objs.size) (o:=.dT []) (h':=s.heap.push {cls:=.type "dict",data:=.dict #[]}) (t':=s.toks) (λ_ _ q=>u0 _ q) (O0 _)<|HH s.heap I.big;refine wpAny_Dict_any hall hl h0 h15<|vX (h pins _ σ _ _ I1<|q _ hn) λws s2 ⟨ps,H2,I2,rel,e,kvs,hp,lk,q2⟩=>?_;exact AU hu I2 e hp rel (by simp;exact X2 lk<|by decide) λs' I'=>⟨.ref s.heap.objs.size,_,I',rfl,q2⟩
end
end L2
namespace L3
open L2
theorem SL(hr:Room k A):A.units<cLine:=X2 (r8 _ 64) hr.units
noncomputable def notScr:List (D×D)->Bool
 |(.none,_)::_=>false
 |(.bool _,_)::_=>false
 |_=>true
noncomputable def TL:LZ:=λ_ _=>False
noncomputable def XC(T:Ki):D->(Sl->Prop)->Prop
 | .dict es,Q=>notScr es=true/\Q (.fz<|.bool<|Ki.dct.sub T)
 |d,Q=>Q<|.fz<|.bool<|(eS d).sub T
theorem DaKV.notScr{K:Fg}(h:DaKV K F kvs es):L3.notScr es=true:=by
 cases h with
 |nil=>rfl
 |@cons k _ _ _ _ _ _=>cases k<;>rfl
theorem DaKT.notScr{K:Fg}(h:DaKT K F kvs es):L3.notScr es=true:=by cases h<;>rfl
theorem At.isD{K:Fg}{es:List (D×D)}(s:Sub F H)(h:At K F H v (.dict es))(hn:notScr es=true):∃a,v=.ref a/\iR H a:=by
 rcases h with h|⟨a,o,rfl,_,e,h⟩
 .cases h with
  |dk r t=>exact⟨_,rfl,.inl ⟨_,s.rd r⟩⟩
  |dt r t=>exact⟨_,rfl,.inr ⟨_,s.rd r⟩⟩
  |scr q=>simp[notScr]at hn
  |exc q=>simp[notScr]at hn
  |lam q _=>simp[notScr]at hn
  |fn=>simp[notScr]at hn
  |opq q=>simp[notScr]at hn
  |pd q t=>simp[notScr]at hn
  |bd q t=>simp[notScr]at hn
 .cases o with
  |ext φ=>rcases h.ext with⟨a',ep,xs,ps,z,z2,t⟩|⟨a',ep,xs,ps,z,z2,t⟩<;>(injection z2 with z2;rw[z2]at hn;simp[notScr]at hn)
  |_=>first|exact h.elim|exact⟨_,rfl,.inl ⟨_,.inl e⟩⟩|exact⟨_,rfl,.inr ⟨_,.inl e⟩⟩
theorem Su{K:Fg}{T:Ki}:OQ K (λvs H Q=>∃x,vs=[x]/\jq K [x,.ty T.nm] H Q) (o1<|XC T):=ZH λG F σ H ρ x d Q Qd R h1 w k=>by
 have go:∀(ki:Ki),KiOf K H x ki->Qd (.fz<|.bool<|ki.sub T)->∃x',[x]=[x']/\jq K [x',.ty T.nm] H Q:=λki h w=>⟨x,rfl,x,ki,T,rfl,.inl h,k _ H F (.fz _) (Sub.refl _) R (Da.bl _) w⟩;match d,h1,w with
 | .none,h1,w=>cases h1.none;exact go .non rfl w
 | .bool b,h1,w=>cases h1.bool;exact go .bl rfl w
 | .int i,h1,w=>cases h1.int;exact go .int rfl w
 | .str z,h1,w=>cases h1.str;exact go .str rfl w
 | .list ds,h1,w=>obtain⟨a,us,rfl,e1,d1⟩:=h1.list R.sub;exact go .lst (.inl ⟨rfl,us,SqL.of e1⟩) w
 | .tuple ds,h1,w=>obtain⟨a,us,rfl,_,e1,d1⟩:=h1.tuple R.sub;exact go .tup (.inr<|.inl ⟨rfl,us,SqT.of e1⟩) w
 | .dict es,h1,w=>obtain⟨a,rfl,hd⟩:=h1.isD R.sub w.1;exact⟨_,rfl,_,.dct,T,rfl,.inr ⟨a,rfl,rfl,hd⟩,k _ H F (.fz _) (Sub.refl _) R (Da.bl _) w.2⟩
def YC(K:Fg):R2:=λx y H Q=>∃j,y=.int j/\tI K x none (some j) H Q
def ZC(K:Fg):R2:=λx y H Q=>∃j,y=.int j/\tI K x (some j) none H Q
noncomputable def aE:D->D->(Sl->Prop)->Prop
 | .tuple ds,.int j,Q=>(if j<0 then 1<=ds.length else j<ds.length)/\Q (.fz<|.tuple<|ds.take<|if j<0 then (j+ds.length).toNat else j.toNat)
 |_,_,_=>False
noncomputable def bE:D->D->(Sl->Prop)->Prop
 | .tuple ds,.int j,Q=>0<j/\1<=ds.length/\Q (.fz<|.tuple<|ds.drop j.toNat)
 |_,_,_=>False
theorem Tu{K:Fg}:OQ K (kY<|YC K) (o2 aE):=YH λG F σ H ρ x y d e Q Qd R h1 h2 w k=>by
 match d,e,h1,h2,w with
 | .tuple ds,.int j,h1,h2,w =>
  cases h2.int;obtain⟨a,us,rfl,f1,e1,d1⟩:=h1.tuple R.sub;have hl:=d1.length;have hs:HT.sIx us.length us.length (some j)=if j<0 then (j+ds.length).toNat else j.toNat:=by show (if j<0 then (j+(us.length:Int)).toNat else min j.toNat us.length)=_;have:=w.1;split at this<;>split<;>lia
  refine⟨j,rfl,a,us,rfl,SqT.of e1,λz=>?_,λp hp=>?_⟩
  .have z2:=z.2;rw[hs]at z2;have:=w.1;split at this<;>split at z2<;>lia
  .have e3:YJ us none (some j)=us.take (if j<0 then (j+ds.length).toNat else j.toNat):=by
    unfold YJ;rw[hs];rfl
   rw[e3];obtain⟨sb,R',dd⟩:=R.newTup hp<|d1.take<|if j<0 then (j+ds.length).toNat else j.toNat;exact k _ _ _ (.fz _) sb R' dd w.2
theorem Uu{K:Fg}:OQ K (kY<|ZC K) (o2 bE):=YH λG F σ H ρ x y d e Q Qd R h1 h2 w k=>by
 match d,e,h1,h2,w with
 | .tuple ds,.int j,h1,h2,w =>
  cases h2.int;obtain⟨a,us,rfl,f1,e1,d1⟩:=h1.tuple R.sub;have hl:=d1.length;obtain⟨w1,w2,w3⟩:=w;have hs:HT.sIx us.length 0 (some j)=min j.toNat us.length:=by show (if j<0 then (j+(us.length:Int)).toNat else min j.toNat us.length)=_;rw[if_neg<|by lia]
  refine⟨j,rfl,a,us,rfl,SqT.of e1,λz=>?_,λp hp=>?_⟩
  .have z1:=z.1;rw[hs]at z1
   lia
  .have e3:YJ us (some j) none=us.drop j.toNat:=by
    unfold YJ;rw[hs];show (us.drop<|min j.toNat us.length).take (us.length-min j.toNat us.length)=_;rw[Z3<|by rw[U2];lia];by_cases h:j.toNat<=us.length
    .rw[P8 h]
    .rw[A3<|by lia,A3<|by lia]
   rw[e3];obtain⟨sb,R',dd⟩:=R.newTup hp<|d1.drop j.toNat;exact k _ _ _ (.fz _) sb R' dd w3
noncomputable def lq:D->(Sl->Prop)->Prop
 | .list ds,Q=>(∃ps:List (EQ×D),ds=ps.map kS)/\∀es,notScr es=true->Q (.ow<|.dict es)
 |_,_=>False
theorem BU{K:Fg}{F:Hp}:∀{l m:List (EQ×V)}{el em:List (D×D)},DaKV K F l el->DaKV K F m em->∃es,DaKV K F (l.foldl (λm kv=>IX m kv.1 kv.2) m) es
 |_,_,_,_,.nil,hm=>⟨_,hm⟩
 |_,_,_,_,.cons (kvs:=l) h t,hm=>BU (l:=l) t<|hm.put h
theorem ij{K:Fg}:OQ K (Qk K) (o1 lq):=ZH λG F σ H ρ x d Q Qd R h1 w k=>by
 match d,h1,w with
 | .list ds,h1,⟨⟨ps,e⟩,w⟩=>subst e;obtain⟨a,us,rfl,e1,d1⟩:=h1.list R.sub;obtain⟨vk,g1,g2,g3,g4⟩:=Rk R.sub d1;refine⟨a,us,vk,rfl,SqL.of e1,g2,g3,λp hp=>?_⟩;obtain⟨es,he⟩:=BU g4<|.nil (K:=K) (F:=F);obtain⟨R',r'⟩:=R.newOw (o:=.dK<|lZ vk) (d:=.dict es) hp he;exact k _ _ F _ (Sub.refl _) R' r'<|w es he.notScr
def Uk(its:List (Nat×Int)):TD:=λρ Q=>(∀p∈its,∃ks:List EQ,ρ[p.1]?=some (some<|.fz<|.tuple<|ks.map DJ))/\∀es,notScr es=true->Q (.ow<|.dict es) ρ
def intVals(kvs:List (List EQ×V)):Prop:=∀kv∈kvs,∃n,kv.2=.int n
theorem intVals.put{n:Int}(h:intVals m):intVals (IX m k<|.int n):=by
 intro kv hkv;unfold IX at hkv;split at hkv
 .obtain⟨x,hx,rfl⟩:=S0.mp hkv;split
  .exact⟨n,rfl⟩
  .exact h x hx
 .rcases S1.mp hkv with z|z
  .exact h kv z
  .rw[Y0.mp z];exact⟨n,rfl⟩
theorem intVals.all:∀{l m:List (List EQ×V)},intVals l->intVals m->intVals (l.foldl (λm kv=>IX m kv.1 kv.2) m)
 |[],m,_,hm=>hm
 |x::l,m,hl,hm=>by obtain⟨n,e⟩:=hl x L0;show intVals (l.foldl _<|IX m x.1 x.2);rw[e];exact intVals.all (λy hy=>hl y<|K0 _ hy) hm.put
theorem intVals.da{K:Fg}{F:Hp}:∀{kvs:List (List EQ×V)},intVals kvs->∃es,DaKT K F kvs es
 |[],_=>⟨[],.nil⟩
 |(k,v)::l,h=>by obtain⟨n,e⟩:=h (k,v) L0;obtain⟨es,he⟩:=intVals.da (K:=K) (F:=F) (kvs:=l) λy hy=>h y<|K0 _ hy;have e:v=.int n:=e;subst e;exact⟨_,.cons (.int n) he⟩
theorem Vu{K:Fg}{its:List (Nat×Int)}(hl:its.length<=15){σ:L2.St}{H:Hp}{Q:VK}(h:lift K (Uk its) σ H Q):HF (its.map λp=>(uJ p.1,tC<|.int p.2)) σ H Q:=by
 obtain⟨G,F,ρ,Qd,R,⟨w,k0⟩,k⟩:=h;intro p hp;have gen:∀(l:List (Nat×Int)) (Qp:List (V×V)->Hp->Prop),(∀q∈l,∃ks:List EQ,ρ[q.1]?=some (some<|Sl.fz<|.tuple<|ks.map DJ)) ->
   (∀ps kvs,PrsT (upd H p<|.dT []) ps kvs->kvs.length=l.length->intVals kvs->Qp ps (upd H p<|.dT []))->PY (l.map λp=>(uJ p.1,tC<|.int p.2)) σ (upd H p<|.dT []) Qp:=by
  intro l;induction l with
  |nil=>intro Qp _ kq;exact kq [] [] .nil rfl (λ_ h=>by cases h)
  |cons q l ih =>
   intro Qp hw kq;obtain⟨ks,ek⟩:=hw q L0;obtain⟨v,ev,dv⟩:=R.fz q.1 _ ek;refine⟨v,ev,ih _ (λr hr=>hw r<|K0 _ hr) λps kvs hps hlen hint=>?_⟩;cases dv with
   |tup e t =>
    have:=t.keys;subst this;have hb:=R.sub _ _ e;refine kq _ ((ks,.int q.2)::kvs) (.cons (by rw[iQ<|qQ hb hp];exact hb) hps) (by simp[hlen]) λkv hkv=>?_;rcases P0.mp hkv with z|z
    .rw[z];exact⟨q.2,rfl⟩
    .exact hint kv z
 refine gen its _ w λps kvs hps hlen hint=>⟨uQ,kvs,hps,by lia,?_⟩;rw[LU];obtain⟨es,he⟩:=intVals.da (K:=K) (F:=F) (intVals.all hint (λ_ h=>by cases h):intVals (lZ kvs));obtain⟨R',r'⟩:=R.newOw (o:=.dT<|lZ kvs) (d:=.dict es) hp he;exact k _ _ F _ ρ (Sub.refl _) R' r'<|k0 es he.notScr
def cE:TD:=λρ Q=>Q (.ow<|.dict []) ρ
theorem UL{K:Fg}{Q:VK}(h:lift K cE σ H Q):Fx σ H Q:=by obtain⟨G,F,ρ,Qd,R,w,k⟩:=h;intro p hp;obtain⟨R',r'⟩:=R.newOw (o:=.dT []) (d:=.dict []) hp DaKT.nil;exact k _ _ F _ ρ (Sub.refl _) R' r' w
noncomputable def DO(i j:Nat)(ta tb:TD):LZ:=λE ρ=>ta ρ λr ρ1=>tb ρ1 λq ρ2=>match ρ2[i]? with
 |some (some<|.io _)=>False
 | some _=>(match (ρ2.set i<|some<|.fz r.d)[j]? with
   |some (some<|.io _)=>False
   |some _=>E.nx<|(ρ2.set i<|some<|.fz r.d).set j<|some<|.fz q.d
   |none=>False)
 |none=>False
theorem EO{K:Fg}{E:Ends}(h:oQ K (DO i j ta tb) E σ H):AN i j (rQ<|[Sum.inr ta,Sum.inr tb].map (kQ K)) E σ H:=by obtain⟨G,F,ρ,D,R,w,n,_⟩:=h;refine⟨G,F,ρ,_,R,w,λv H1 F1 r ρ1 s1 R1 r1 w1=>?_⟩;obtain⟨F2,s2,R2,d2⟩:=r1.frz R1;refine⟨G,F2,ρ1,_,R2,w1,λu H3 F3 q ρ3 s3 R3 r3 w3=>?_⟩;obtain⟨F4,s4,R4,d4⟩:=r3.frz R3;obtain⟨hi,w3⟩:=NK w3;obtain⟨hj,w3⟩:=NK w3;have R5:=R4.asg (s:=.fz r.d) hi<|d2.mono<|s3.trans s4;have R6:=R5.asg (s:=.fz q.d) hj d4;exact⟨v,u,rfl,n _ H3 F4 _ (s1.trans<|s2.trans<|s3.trans s4) R6 w3⟩
section
variable {K:Fg}{e e1 e2:Expr}{a b:AD}{ta tb:TD}{st:Stmt}{p pos p2 pos' px py pt:Pos}{x:Str}
theorem LJ:WS X st (oQ K TL):=⟨λpins s σ H D I h=>by obtain⟨G,F,ρ,E,R,w,_⟩:=h;exact w.elim⟩
theorem eJ(T:Ki)(hK:X.K=K)(hm:X.mg "isinstance"=none){y:Str}(hm2:X.mg y=none)(hv2:bootBuiltins y=some (.type T.nm))(ha:WE X e1 (kQ K a))(hg:Gl X "isinstance":=by rfl)(hg2:Gl X y:=by rfl)(hy:y ≠ "__name__":=by decide)(hy2:(y==("__debug__":Str))=false:=by decide)(he:lQ e1=true:=by rfl) :
  WE X (.Call (.Name "isinstance" p) [e1,.Name y p2] [] pos) (lift K<|FJ [a]<|o1<|XC T):=by
 subst hK;exact⟨WK (KZ gj hg hm boot_isinstance (NQ ha.h (NQ (OU hg2 hm2 hv2 (v:=.ty T.nm) rfl hy hy2) pZ<|starEach_of rfl)<|starEach_of he) (by decide) (by decide) (starEach_of he)<|zQ rfl) λq=>PH (P:=λx H1=>jq X.K [x,.ty T.nm] H1 _)<|rK Su q⟩
theorem Vk(hK:X.K=K)(ha:WE X e1 (kQ K a))(hb:WE X e2 (kQ K b)):WE X (.Subscript e1 (.Slice none (some e2) none p2) pos) (lift K<|FJ [a,b]<|o2 aE):=by subst hK;exact⟨WK (fK fF ha.h tY<|uY hb.h) λq=>QH (P:=λx y H=>YC X.K x y H _)<|rK Tu q⟩
theorem VL(hK:X.K=K)(ha:WE X e1 (kQ K a))(hb:WE X e2 (kQ K b)):WE X (.Subscript e1 (.Slice (some e2) none none p2) pos) (lift K<|FJ [a,b]<|o2 bE):=by subst hK;exact⟨WK (fK fF ha.h (uY hb.h) tY) λq=>QH (P:=λx y H=>ZC X.K x y H _)<|rK Uu q⟩
theorem Xk(hK:X.K=K)(hc:X.calm=true)(hm:X.mg "dict"=none)(hv:bootBuiltins "dict"=some (.type "dict"))(ha:WA X [e] (rQ<|[a].map (kQ K)))(hg:Gl X "dict":=by rfl)(he:lQ e=true:=by rfl) :
  WE X (.Call (.Name "dict" p) [e] [] pos) (lift K<|FJ [a]<|o1 lq):=by
 subst hK;exact iZ ij (CF hc) hm hv ha hg (by decide) (by decide) he rfl
theorem Wu(its:List (Nat×Int))(hl:its.length<=15)(h:PE X e (HF<|its.map λp=>(uJ p.1,tC<|.int p.2))):WE X e (lift K<|Uk its):=⟨WK h λq=>Vu hl q⟩
theorem IF:WE X (.Dict [] [] pos) (lift K cE):=⟨WK Gx λq=>UL q⟩
theorem FO{i j:Nat}{kt k2 pt2}(hc:X.calm=true)(hN:X.N.Nodup)(hi:X.N[i]?=some x)(hj:X.N[j]?=some y)(hij:i≠j)
  (hx:X.env.scope.names.lookup x=some .local) (hy:X.env.scope.names.lookup y=some .local) (ha:WE X e1 (lift K ta)) (hb:WE X e2 (lift K tb))
  (hw:swappedStores [.Tuple [.Name x px,.Name y py] kt pt] (.Tuple [e1,e2] k2 pt2) X.env=pure (some [x,y]):=by rfl)
  (hs:swapsWithSole [.Tuple [.Name x px,.Name y py] kt pt] (.Tuple [e1,e2] k2 pt2) pos.line X.env=pure false:=by rfl) (h1:lQ e1=true:=by rfl) (h2:lQ e2=true:=by rfl) :
  WS X (.Assign [.Tuple [.Name x px,.Name y py] kt pt] (.Tuple [e1,e2] k2 pt2) pos) (oQ K<|DO i j ta tb) :=
 ⟨Ck (dI hc hN hi hj hij hx hy (dX (wx ha) (dX (wx hb) VQ h2) h1).h hw hs) EO⟩
end
end L3
namespace L2
end L2
namespace L3
open L2
section
variable {K:Fg}{x:Str}{pos:Pos}
theorem Yk{n:Int}(hm:∃t,X.mg x=some (.int n t))(hg:Gl X x:=by rfl)(hd:(x==("__debug__":Str))=false:=by decide):WE X (.Name x pos) (lift K<|dC<|.int n):=by obtain⟨t,hm⟩:=hm;exact⟨Dk (λ_=>.int _)<|yW hg hm ⟨t,rfl⟩ hd⟩
end
end L3
namespace L2
noncomputable def QP:V->Int
 | .int i=>i
 |_=>0
theorem hG(l:Qa):(l.map V.int).map QP=l:=by rw[v1];exact v7 l
noncomputable def FS(H:Hp)(p:Qa)(y:Value):Bool:=@decide (∃c,y=.ref c/\H c=some (.tup<|p.map V.int))<|Classical.propDecidable _
end L2
namespace L3
open L2
theorem DaAll.ints_of{K:Fg}{ys:List V}{p:Qa}(h:DaAll K F ys (p.map p0)):ys=p.map V.int:=by
 have e:p.map p0=(p.map λn=>(.inl n:EQ)).map DJ:=by rw[v1];rfl
 rw[e]at h;have:=h.keys;rw[this,v1];rfl
end L3
namespace L2
theorem MJ:∀{vs:List Value}{ns:Qa},IntsAre vs ns->Vals (ns.map V.int) vs
 |_,_,.nil=>.nil
 |_,_,.cons n t r=>.cons ⟨t,rfl⟩<|MJ r
end L2
namespace L3
open L2
open L2
section
variable {K:Fg}{G:Gh}{F F':Hp}{σ:L2.St}
theorem Rel.grown(R:Rel K G F σ H ρ)(sb:Sub F F')(su:Sub F' H')(fn:∀b o,F' b=some o->F b=some o\/H b=none)(kp:∀b o,(∀z∈TB K,z.1≠b)->H b=some o->H' b=some o)(tb:TabOk K F' H'):Rel K G F' σ H' ρ:=by
 refine⟨R.len,su,R.sub0.trans sb,λb o e=>?_,λa o e n t=>kp _ _ t<|R.keep a o e n t,tb,λi d e=>?_,λi s e w=>?_,R.new,R.io,R.ioi,R.ap⟩
 .rcases fn b o e with q|q
  .exact R.fn b o q
  .exact .inr (R.h0 q)
 .obtain⟨v,h1,h2⟩:=R.fz i d e;exact⟨v,h1,h2.mono sb⟩
 .obtain⟨a,o,h1,h2,h3,h4⟩:=R.ow i s e w;refine⟨a,o,h1,?_,kp _ _ (R.tb.ne λu z=>by rw[h3]at z;cases z;exact h4.stk) h3,h4.mono sb⟩;cases q:F' a with
  |none=>rfl
  |some u =>
   rcases fn a u q with z|z
   .rw[h2]at z;cases z
   .rw[h3]at z;cases z
noncomputable def dE:Sl->Bool
 | .fz d=>noMut d
 | .ow (.list ds)=>noMutAll ds
 |_=>false
def Zk(con:Con)(as:List AD):TD:=λρ Q=>JX as ρ λxs ρ1=>TQ ρ1 xs λds=>con (ds.map Sl.fz) λr _=>dE r=true/\Q r ρ1
theorem Res.calledL(R:Rel K G F σ H ρ){σ1:L2.St}{ρ1:Ev}{v:V}{r:Sl}(R':Rel K ⟨H,YX σ ρ xs F H,λ_=>none⟩ F' σ1 H' ρ1)(q:Res K ⟨H,YX σ ρ xs F H,λ_=>none⟩ F' H' σ1 ρ1 v r)(hl:dE r=true):Res K G (SX σ ρ xs F') H' σ ρ v r:=by
 have tp:∀b ys,F' b=some (.tup ys)->SX σ ρ xs F' b=some (.tup ys):=λb ys e=>by
  have n:¬LentA σ ρ xs b:=λz=>by obtain⟨_,_,o,_,_,_,_,h,w⟩:=z.own R;have e2:=R'.sub0 b o (by show YX σ ρ xs F H b=some o;rw[OK z];exact h);rw[e]at e2;cases e2;exact w
  rw[ZX n];exact e
 cases r with
 |fz d=>exact Da.noMut tp q hl
 |io d=>exact q.elim
 |ow d =>
  obtain⟨a,o,h1,h2,h3,h4,h5,_⟩:=q;have h5:H a=none:=h5;have nl:¬LentA σ ρ xs a:=λz=>by obtain⟨_,_,o,_,_,_,_,h,w⟩:=z.own R;rw[h5]at h;cases h
  refine⟨a,o,h1,by rw[ZX nl];exact h2,h3,?_,R.h0 h5,λi s es w z=>?_⟩
  .cases d with
   |list ds =>
    cases o with
    |lst ys=>exact DaAll.noMut tp h4 hl
    |_=>exact h4.elim
   |_=>cases hl
  .obtain⟨a',o',g1,_,g3,_⟩:=R.ow i s es w;rw[z]at g1;cases g1;rw[h5]at g3;cases g3
theorem Xu{E:XK}{Q:VK}(h:lift K (Zk con as) σ H Q):cY (dQ K con) [] E (rQ<|as.map<|kQ K) σ H Q:=by obtain⟨G,F,ρ,Qd,R,w,k⟩:=h;refine wX R w λvs H1 F1 xs ρ1 s1 R1 o w1=>?_;obtain⟨ds,da,w1⟩:=sZ (xs:=xs) R1 (λy hy=>hy) o w1;rw[L1];refine⟨_,_,ds.map Sl.fz,_,zZ (PK R1) (yY R1) da,w1,λv H' F' r ρ' s' R' r' q=>?_⟩;obtain⟨sb,R2⟩:=R1.called R';exact k v H' _ r ρ1 (s1.trans sb) R2 (Res.calledL R1 R' r' q.1) q.2
end
section
variable {K:Fg}{e:Expr}{es:List Expr}{as:List AD}{x:Str}{p pos:Pos}
theorem GO{k:Nat}{ps:List Str}{con:Con}(C:Cal X.prog X.w X.K X.mg X.base k x ps (dQ K con))(hr:Room k X.A)(ha:WA X (e::es) (rQ<|as.map<|kQ K))(hg:Gl X x:=by rfl)(hdb:(x==("__debug__":Str))=false:=by decide)
  (he:lQ e=true:=by rfl) (hpl:es.all lQ=true:=by rfl):WE X (.Call (.Name x p) (e::es) [] pos) (lift K<|Zk con as):=⟨WK (Nx C hr ha.h hg hdb (starEach_of he)<|zQ hpl) Xu⟩
end
end L3
namespace SG
section
variable {w:World}{κ:SortKind}{rk:Keyed->Nat}{S:Keyed->Prop}
def dH(prog:Program)(w:World)(A:Around)(s:Shared)(κ:SortKind)(rk:Keyed->Nat)(S:Keyed->Prop):Prop:=∀x y:Keyed,S x->S y->∀Q:Bool->Shared->Prop,Q (decide<|rk x<rk y) s->wpAny (model prog w) A (keyLt' κ x.1 y.1) Q (λ_ _=>False) s
theorem w_lt(q:dH prog w A s κ rk S){x y:Keyed}{st:SortSt}{Q:Option Bool->SortSt->Prop}(hk:kindOf st=κ)(hx:S x)(hy:S y)(h:Q (some<|decide<|rk x<rk y) st):wpS (model prog w) A E s (lt' x y) Q st:=by
 rw[lt'_eq];refine wpS_bind<|wpS_get ?_;rw[hk];refine wpS_bind<|wpS_lift<|wpAny_attempt<|wpAny_mono (q x y hx hy (λb s'=>b=decide (rk x<rk y)/\s'=s) ⟨rfl,rfl⟩) (λb s' e=>?_) λ_ _ e=>e.elim;obtain⟨rfl,rfl⟩:=e;exact⟨rfl,wpS_pure h⟩
theorem aw{st:SortSt}{Q:Keyed->SortSt->Prop}(hi:i<xs.size)(h:Q xs[i] st):wpS (model prog w) A E s (elem' xs i) Q st:=by rw[elem'_eq,getElem?_pos xs i hi];exact wpS_pure h
end
noncomputable def KR(rk:Keyed->Nat)(xs:Array Keyed)(i:Nat):Nat:=match xs[i]? with
 |some p=>rk p
 |none=>0
theorem KR_at(h:i<xs.size):KR rk xs i=rk xs[i]:=by unfold KR;rw[getElem?_pos xs i h]
theorem PZ{ys:Array Keyed}(h:xs[i]?=ys[j]?):KR rk xs i=KR rk ys j:=by unfold KR;rw[h]
theorem dW(hj:j<=xs.size)(k:Nat):KR rk (mirror xs i j<|(j-i) / 2) k=if i<=k/\k<j then KR rk xs (i+j-1-k) else KR rk xs k:=by
 have e:=getElem?_mirror_all (i:=i) hj k;split
 .rename_i h1;rw[if_pos h1]at e;exact PZ e
 .rename_i h1;rw[if_neg h1]at e;exact PZ e
theorem CU(hs:c<xs.size)(hd:d<=c)(k:Nat):KR rk (bubble xs c d) k=if k=c-d then KR rk xs c else if c-d<k/\k<=c then KR rk xs (k-1) else KR rk xs k:=by
 have e:=getElem?_bubble hs d hd k;split
 .rename_i h1;rw[if_pos h1]at e;exact PZ e
 .rename_i h1;rw[if_neg h1]at e;split
  .rename_i h2;rw[if_pos h2]at e;exact PZ e
  .rename_i h2;rw[if_neg h2]at e;exact PZ e
def Sg(rk:Keyed->Nat)(xs:Array Keyed)(lo n:Nat):Prop:=∀i j,lo<=i->i<=j->j<lo+n->KR rk xs i<=KR rk xs j
def Dg(rk:Keyed->Nat)(xs:Array Keyed)(lo n:Nat):Prop:=∀i j,lo<=i->i<=j->j<lo+n->KR rk xs j<=KR rk xs i
structure Bs(κ:SortKind)(st:SortSt)(lo n:Nat)(st':SortSt):Prop where
 perm:(arrOf st').Perm (arrOf st)
 kind:kindOf st'=κ
 failed:failedOf st'=none
 pend:pendingOf st'=pendingOf st
 keep:∀i,i<lo\/lo+n<=i->(arrOf st')[i]?=(arrOf st)[i]?
theorem Bs.size{κ:SortKind}{st:SortSt}(h:Bs κ st lo n st'):(arrOf st').size=(arrOf st).size:=h.perm.size_eq
theorem Bs.mir{κ:SortKind}{st:SortSt}(h:Bs κ st lo n st')(hj:j<=(arrOf st).size)(h1:lo<=i)(h2:j<=lo+n):Bs κ st lo n (setArr st'<|mirror (arrOf st') i j<|(j-i) / 2) :=
 ⟨(mirror_perm _ _ _ _).trans h.perm,h.kind,h.failed,h.pend,λk hk=>by show (mirror (arrOf st') i j<|(j-i) / 2)[k]?=_;rw[getElem?_mirror_all (by rw[h.size];exact hj),if_neg<|by lia];exact h.keep k hk⟩
section
variable {w:World}{κ:SortKind}{rk:Keyed->Nat}{S:Keyed->Prop}{st:SortSt}
abbrev AllS(S:Keyed->Prop)(xs:Array Keyed):Prop:=∀p,p∈xs.toList->S p
theorem Bs.inS(hS:AllS S (arrOf st))(h:Bs κ st lo n st'){i:Nat}(hi:i<(arrOf st').size):S (arrOf st')[i]:=hS _ ((j6.mp h.perm).mem_iff.mp<|by simp)
theorem qV(q:dH prog w A s κ rk S){st':SortSt}{lo n i j:Nat}{Q:Option Bool->SortSt->Prop}(hS:AllS S (arrOf st))(hB:Bs κ st lo n st')(hi:i<(arrOf st).size)(hj:j<(arrOf st).size)(h:Q (some<|decide<|KR rk (arrOf st') i<KR rk (arrOf st') j) st'):wpS (model prog w) A E s (ltAt' i j) Q st':=by
 have hi':i<(arrOf st').size:=by rw[hB.size];exact hi
 have hj':j<(arrOf st').size:=by rw[hB.size];exact hj
 rw[ltAt'_eq];refine wpS_bind<|wpS_get ?_;refine wpS_bind<|aw hi'<|wpS_bind<|aw hj' ?_;refine w_lt q hB.kind (hB.inS hS _) (hB.inS hS _) ?_;rw[KR_at hi',KR_at hj']at h;exact h
noncomputable def jj(lo a nrem:Nat):StateT SortSt Sem AscSt :=
 forIn [a:nrem] ((none,a):AscSt) λ_ z=>do
  let some sm<-ltAt' (lo+z.2) (lo+z.2-1)|pure (.done (some none,z.2))
  if sm=true then pure (.done (none,z.2)) else pure (.yield (none,z.2+1))
noncomputable def tN(lo n nrem:Nat):StateT SortSt Sem (Option Nat):=do
 reverseSlice' lo (lo+n)
 let z<-jj lo n nrem
 match z.1 with
 |some r=>pure r
 |none=>pure<|some z.2
noncomputable def mq(lo n nrem:Nat):StateT SortSt Sem DescSt :=
 forIn [n:nrem] ((none,n,0):DescSt) λ_ z=>do
  let some sm<-ltAt' (lo+z.2.1) (lo+z.2.1-1)|pure (.done (some none,z.2.1,z.2.2))
  if sm=true then
   if z.2.2 > 0 then do
    reverseSlice' (lo+z.2.1-(z.2.2+1)) (lo+z.2.1)
    pure (.yield (none,z.2.1+1,0))
   else pure (.yield (none,z.2.1+1,0))
  else do
   let some la<-ltAt' (lo+z.2.1-1) (lo+z.2.1)|pure (.done (some none,z.2.1,z.2.2))
   if la=true then pure (.done (none,z.2.1,z.2.2)) else pure (.yield (none,z.2.1+1,z.2.2+1))
noncomputable def JO(lo n nrem:Nat):StateT SortSt Sem (Option Nat):=do
 liftM (rule "list.sort.descending-run")
 let z<-mq lo (n+1) nrem
 match z.1 with
 |some r=>pure r
 |none =>
  if z.2.2 > 0 then do
   reverseSlice' (lo+z.2.1-(z.2.2+1)) (lo+z.2.1)
   tN lo z.2.1 nrem
  else tN lo z.2.1 nrem
theorem WL(lo nrem:Nat):countRun' lo nrem=(do
    let z<-jj lo 1 nrem
    match z.1 with
    |some r=>pure r
    | none =>
      if (z.2==nrem)=true then pure (some z.2)
      else if z.2 > 1 then do
        let some ro<-ltAt' lo (lo+z.2-1)|pure none
        if ro=true then pure (some z.2) else do
          reverseSlice' lo (lo+z.2)
          JO lo z.2 nrem
      else JO lo z.2 nrem):=by
 have te:∀m,(do
     reverseSlice' lo (lo+m)
     let z<-jj lo m nrem
     match z.1 with
     |some r=>pure r
     |none=>pure<|some z.2)=tN lo m nrem:=λm=>rfl;rw[countRun'_eq];unfold JO tN mq jj;refine congr (congrArg bind rfl)<|funext λz=>?_;obtain⟨r,n⟩:=z;cases r with
 |some r=>rfl
 |none =>
  dsimp only;have tl:∀z:AscSt,(match z.1 with|some r=>pure r|none=>pure (some z.2):StateT SortSt Sem (Option Nat))=match z.1 with|some r=>pure r|none=>pure (some z.2):=λz=>rfl
  split
  .rfl
  .split
   .congr 1;funext x;cases x with
    |none=>rfl
    |some ro =>
     dsimp only;split
     .rfl
     .congr 1;funext _;congr 1;funext _;congr 1;funext z;obtain⟨r,m,q⟩:=z;cases r with
      |some r=>rfl
      |none =>
       dsimp only;split
       .congr 1;funext _;congr 1;funext _;congr 1;funext z;obtain⟨r,k⟩:=z;cases r<;>rfl
       .congr 1;funext _;congr 1;funext z;obtain⟨r,k⟩:=z;cases r<;>rfl
   .congr 1;funext _;congr 1;funext z;obtain⟨r,m,q⟩:=z;cases r with
    |some r=>rfl
    |none =>
     dsimp only;split
     .congr 1;funext _;congr 1;funext _;congr 1;funext z;obtain⟨r,k⟩:=z;cases r<;>rfl
     .congr 1;funext _;congr 1;funext z;obtain⟨r,k⟩:=z;cases r<;>rfl
theorem oq{Q:Unit->SortSt->Prop}(h:Q () (setArr st'<|mirror (arrOf st') i j<|(j-i) / 2)):wpS (model prog w) A E s (reverseSlice' i j) Q st':=by rw[reverseSlice'_eq];exact wpS_modify h
theorem eE(q:dH prog w A s κ rk S){st':SortSt}{lo N a nrem:Nat}{Q:AscSt->SortSt->Prop}(hS:AllS S (arrOf st))(hn:lo+nrem<=(arrOf st).size)(ha:1<=a)(han:a<=nrem)(hB:Bs κ st lo N st')(hs:Sg rk (arrOf st') lo a)(h:∀n,a<=n->n<=nrem->Sg rk (arrOf st') lo n->(n=nrem\/KR rk (arrOf st') (lo+n)<KR rk (arrOf st') (lo+n-1))->Q (none,n) st'):wpS (model prog w) A E s (jj lo a nrem) Q st':=by
 unfold jj;refine wpS_forRange (I:=λx c z=>z=st'/\c=(none,x)/\Sg rk (arrOf st') lo x) ?step ?fin ⟨rfl,rfl,hs⟩
 case fin=>rintro c z ⟨rfl,rfl,h1⟩;rw[show max a nrem=nrem by lia]at h1 ⊢;exact h nrem han (O0 _) h1<|.inl rfl
 case step =>
  rintro x c z hax hxn ⟨rfl,rfl,h1⟩;dsimp only;refine wpS_bind<|qV q hS hB (by lia) (by lia) ?_;dsimp only;by_cases hl:KR rk (arrOf z) (lo+x)<KR rk (arrOf z) (lo+x-1)
  .rw[if_pos<|by simpa using hl];exact wpS_pure<|h x hax (by lia) h1<|.inr hl
  .rw[if_neg<|by simpa using hl];refine wpS_pure ⟨rfl,rfl,λi j hi hij hj=>?_⟩;by_cases hjx:j<lo+x
   .exact h1 i j hi hij hjx
   .have:j=lo+x:=by lia
    subst this;by_cases hi':i=lo+x
    .subst hi';exact O0 _
    .have:=h1 i (lo+x-1) hi (by lia) (by lia)
     lia
theorem KO(q:dH prog w A s κ rk S){st':SortSt}{lo n nrem:Nat}{Q:Option Nat->SortSt->Prop}(hS:AllS S (arrOf st))(hn:lo+nrem<=(arrOf st).size)(h1:1<=n)(hnn:n<=nrem)(hB:Bs κ st lo nrem st')(hs:Dg rk (arrOf st') lo n)(h:∀m z,Bs κ st lo nrem z->1<=m->m<=nrem->Sg rk (arrOf z) lo m->Q (some m) z):wpS (model prog w) A E s (tN lo n nrem) Q st':=by
 unfold tN;refine wpS_bind<|oq ?_;have hz:lo+n<=(arrOf st').size:=by rw[hB.size];lia
 have hB':=hB.mir (i:=lo) (j:=lo+n) (by lia) (O0 _) (by lia);refine wpS_bind<|eE q hS hn h1 hnn hB' (λi j hi hij hj=>?_) λm m1 m2 hm _=>wpS_pure<|h m _ hB' (by lia) m2 hm;show KR rk (mirror _ _ _ _) i<=KR rk (mirror _ _ _ _) j;rw[dW hz,dW hz,if_pos<|by lia,if_pos<|by lia];exact hs _ _ (by lia) (by lia) (by lia)
theorem CK(hj:j<=xs.size)(he:∀k,i<=k->k<j->KR rk xs k=KR rk xs (j-1))(k:Nat):KR rk (mirror xs i j<|(j-i) / 2) k=KR rk xs k:=by
 rw[dW hj];split
 .rw[he _ (by lia)<|by lia,he k (by lia)<|by lia]
 .rfl
theorem XL(q:dH prog w A s κ rk S){st':SortSt}{lo n nrem:Nat}{Q:DescSt->SortSt->Prop}(hS:AllS S (arrOf st))(hn:lo+nrem<=(arrOf st).size)(h1:1<=n)(hnn:n<=nrem)(hB:Bs κ st lo nrem st')(hs:Dg rk (arrOf st') lo n)(h:∀m e z,Bs κ st lo nrem z->n<=m->m<=nrem->Dg rk (arrOf z) lo m->e+1<=m->(∀i,lo+m-(e+1)<=i->i<lo+m->KR rk (arrOf z) i=KR rk (arrOf z) (lo+m-1))->Q (none,m,e) z):wpS (model prog w) A E s (mq lo n nrem) Q st':=by
 unfold mq;refine wpS_forRange (I:=λx c z=>∃e,c=(none,x,e)/\Bs κ st lo nrem z/\Dg rk (arrOf z) lo x/\e+1<=x/\∀i,lo+x-(e+1)<=i->i<lo+x->KR rk (arrOf z) i=KR rk (arrOf z) (lo+x-1)) ?step ?fin
  ⟨0,rfl,hB,hs,by lia,λi i1 i2=>by congr 1;lia⟩
 case fin=>rintro c z ⟨e,rfl,b,d,e1,e2⟩;rw[show max n nrem=nrem by lia]at d e1 e2 ⊢;exact h nrem e z b hnn (O0 _) d e1 e2
 case step =>
  rintro x c z hax hxn ⟨e,rfl,b,d,e1,e2⟩;dsimp only;have hz:lo+x<=(arrOf z).size:=by rw[b.size];lia
  refine wpS_bind<|qV q hS b (by lia) (by lia) ?_;dsimp only;by_cases hl:KR rk (arrOf z) (lo+x)<KR rk (arrOf z) (lo+x-1)
  .rw[if_pos<|by simpa using hl];have st1:∀xs:Array Keyed,(∀k,KR rk xs k=KR rk (arrOf z) k)->Dg rk xs lo (x+1):=λxs hk i j hi hij hj=>by
    rw[hk,hk];by_cases hjx:j<lo+x
    .exact d i j hi hij hjx
    .have:j=lo+x:=by lia
     subst this;by_cases hi':i=lo+x
     .subst hi';exact O0 _
     .have:=d i (lo+x-1) hi (by lia) (by lia)
      lia
   by_cases he:e > 0
   .rw[if_pos he];exact wpS_bind<|oq<|wpS_pure ⟨0,rfl,b.mir (by lia) (by lia)<|by lia,st1 _<|CK hz e2,by lia,λi i1 i2=>by congr 1;lia⟩
   .rw[if_neg he];exact wpS_pure ⟨0,rfl,b,st1 _<|λ_=>rfl,by lia,λi i1 i2=>by congr 1;lia⟩
  .rw[if_neg<|by simpa using hl];refine wpS_bind<|qV q hS b (by lia) (by lia) ?_;dsimp only;by_cases hg:KR rk (arrOf z) (lo+x-1)<KR rk (arrOf z) (lo+x)
   .rw[if_pos<|by simpa using hg];exact wpS_pure<|h x e z b hax (by lia) d e1 e2
   .rw[if_neg<|by simpa using hg];refine wpS_pure ⟨e+1,rfl,b,λi j hi hij hj=>?_,by lia,λi i1 i2=>?_⟩
    .by_cases hjx:j<lo+x
     .exact d i j hi hij hjx
     .have:j=lo+x:=by lia
      subst this;by_cases hi':i=lo+x
      .subst hi';exact O0 _
      .have:=d i (lo+x-1) hi (by lia) (by lia)
       lia
    .rw[show lo+(x+1)-1=lo+x by lia];by_cases hix:i=lo+x
     .subst hix;rfl
     .have:=e2 i (by lia) (by lia)
      lia
theorem LO(q:dH prog w A s κ rk S){st':SortSt}{lo n nrem:Nat}{Q:Option Nat->SortSt->Prop}(hS:AllS S (arrOf st))(hn:lo+nrem<=(arrOf st).size)(hnn:n+1<=nrem)(hB:Bs κ st lo nrem st')(hs:Dg rk (arrOf st') lo (n+1))(h:∀m z,Bs κ st lo nrem z->1<=m->m<=nrem->Sg rk (arrOf z) lo m->Q (some m) z):wpS (model prog w) A E s (JO lo n nrem) Q st':=by
 unfold JO;refine wpS_bind<|wpS_lift<|wpAny_rule ⟨rfl,?_⟩;refine wpS_bind<|XL q hS hn (by lia) hnn hB hs λm e z b m1 m2 d e1 e2=>?_;dsimp only;have hz:lo+m<=(arrOf z).size:=by rw[b.size];lia
 by_cases he:e > 0
 .rw[if_pos he];refine wpS_bind<|oq<|KO q hS hn (by lia) m2 (b.mir (by lia) (by lia)<|by lia) (λi j hi hij hj=>?_) h;show KR rk (mirror _ _ _ _) j<=KR rk (mirror _ _ _ _) i;rw[CK hz e2,CK hz e2];exact d i j hi hij hj
 .rw[if_neg he];exact KO q hS hn (by lia) m2 b d h
theorem ER(q:dH prog w A s κ rk S){lo nrem:Nat}{Q:Option Nat->SortSt->Prop}(hS:AllS S (arrOf st))(hn:lo+nrem<=(arrOf st).size)(h1:1<=nrem)(hB:Bs κ st lo nrem st)(h:∀m z,Bs κ st lo nrem z->1<=m->m<=nrem->Sg rk (arrOf z) lo m->Q (some m) z):wpS (model prog w) A E s (countRun' lo nrem) Q st:=by
 rw[WL];refine wpS_bind<|eE q hS hn (O0 1) h1 hB (λi j hi hij hj=>by have:i=j:=(by lia);subst this;exact O0 _) λn n1 n2 sn hor=>?_;dsimp only;by_cases hnn:n=nrem
 .rw[if_pos<|by simpa using hnn];exact wpS_pure<|h n st hB n1 n2 sn
 .rw[if_neg<|by simpa using hnn];have hlt:=hor.resolve_left hnn;by_cases hgt:n > 1
  .rw[if_pos hgt];refine wpS_bind<|qV q hS hB (by lia) (by lia) ?_;dsimp only;by_cases hr:KR rk (arrOf st) lo<KR rk (arrOf st) (lo+n-1)
   .rw[if_pos<|by simpa using hr];exact wpS_pure<|h n st hB n1 n2 sn
   .rw[if_neg<|by simpa using hr];have hz:lo+n<=(arrOf st).size:=by lia
    have all:∀k,lo<=k->k<lo+n->KR rk (arrOf st) k=KR rk (arrOf st) (lo+n-1):=λk k1 k2=>by
     have a1:=sn lo k (by lia) k1 k2;have a2:=sn k (lo+n-1) k1 (by lia) (by lia)
     lia
    refine wpS_bind<|oq<|LO q hS hn (by lia) (hB.mir (by lia) (by lia)<|by lia) (λi j hi hij hj=>?_) h;show KR rk (mirror _ _ _ _) j<=KR rk (mirror _ _ _ _) i;rw[CK hz all,CK hz all];by_cases hjn:j<lo+n
    .have:=all i hi (by lia);have:=all j (by lia) hjn
     lia
    .have:j=lo+n:=by lia
     subst this;by_cases hi':i=lo+n
     .subst hi';exact O0 _
     .have:=all i hi (by lia)
      lia
  .rw[if_neg hgt];have:n=1:=by lia
   subst this;refine LO q hS hn (by lia) hB (λi j hi hij hj=>?_) h;by_cases hi':i=j
   .subst hi';exact O0 _
   .have e1:i=lo:=by lia
    have e2:j=lo+1:=by lia
    subst e1;subst e2;exact U4 hlt
theorem YL(q:dH prog w A s κ rk S){st':SortSt}{lo N n ok:Nat}{Q:Bool->SortSt->Prop}(hS:AllS S (arrOf st))(hn:lo+n<=(arrOf st).size)(hnN:n<=N)(hok:ok<=n)(hB:Bs κ st lo N st')(hs:Sg rk (arrOf st') lo ok)(h:∀z,Bs κ st lo N z->Sg rk (arrOf z) lo n->Q true z):wpS (model prog w) A E s (binarySort' lo n ok) Q st':=by
 rw[binarySort'_eq];refine wpS_bind<|wpS_mono (wpS_forRange (I:=λk c z=>c=(none,())/\Bs κ st lo N z/\Sg rk (arrOf z) lo (min k n)) (Q:=λc z=>c=(none,())/\Bs κ st lo N z/\Sg rk (arrOf z) lo n) ?step ?fin ?init) ?post
 case post=>rintro c z ⟨rfl,b,hs'⟩;exact wpS_pure<|h z b hs'
 case init =>
  refine⟨rfl,hB,λi j hi hij hj=>?_⟩;by_cases h1:ok=0
  .have:i=j:=by lia
   subst this;exact O0 _
  .exact hs i j hi hij (by lia)
 case fin=>rintro c z ⟨hc,b,hs'⟩;refine⟨hc,b,?_⟩;rwa [show min (max (max ok 1) n) n=n by lia]at hs'
 case step =>
  rintro k c z hak hkn ⟨rfl,b,hs'⟩;rw[show min k n=k by lia]at hs';refine wpS_bind<|wpS_mono (wpS_forRange (I:=λx c z'=>z'=z/\∃l r,c=(none,l,r)/\l<=r/\r<=k/\r-l<=k-x/\(∀i,i<l->KR rk (arrOf z) (lo+i)<=KR rk (arrOf z) (lo+k))/\(∀i,r<=i->i<k->KR rk (arrOf z) (lo+k)<KR rk (arrOf z) (lo+i)))
    (Q:=λc z'=>z'=z/\∃l r,c=(none,l,r)/\l<=k/\(∀i,i<l->KR rk (arrOf z) (lo+i)<=KR rk (arrOf z) (lo+k))/\(∀i,l<=i->i<k->KR rk (arrOf z) (lo+k)<KR rk (arrOf z) (lo+i))) ?istep ?ifin ?iinit) ?ipost
  case iinit=>exact⟨rfl,0,k,rfl,by lia,by lia,by lia,λi hi=>by lia,λi h1 h2=>by lia⟩
  case ifin =>
   rintro c z' ⟨rfl,l,r,rfl,hlr,hrk,hm,hlo,hhi⟩;have:l=r:=by lia
   subst this;exact⟨rfl,l,l,rfl,hrk,hlo,hhi⟩
  case istep =>
   rintro x c z' _ hxk ⟨rfl,l,r,rfl,hlr,hrk,hm,hlo,hhi⟩;dsimp only;by_cases hge:l ≥ r
   .rw[if_pos hge];have:l=r:=by lia
    subst this;exact wpS_pure ⟨rfl,l,l,rfl,hrk,hlo,hhi⟩
   .rw[if_neg hge];refine wpS_bind<|qV q hS b (by lia) (by lia) ?_;dsimp only;by_cases hl:KR rk (arrOf z') (lo+k)<KR rk (arrOf z') (lo+(l+r) / 2)
    .rw[if_pos<|by simpa using hl];refine wpS_pure ⟨rfl,l,(l+r) / 2,rfl,by lia,by lia,by lia,hlo,λi h1 h2=>?_⟩;have:=hs' (lo+(l+r) / 2) (lo+i) (by lia) (by lia) (by lia)
     lia
    .rw[if_neg<|by simpa using hl];refine wpS_pure ⟨rfl,(l+r) / 2+1,r,rfl,by lia,by lia,by lia,λi h1=>?_,hhi⟩;have:=hs' (lo+i) (lo+(l+r) / 2) (by lia) (by lia) (by lia)
     lia
  case ipost =>
   rintro c z' ⟨rfl,l,r,rfl,hlk,hlo,hhi⟩;show wpS _ _ _ _ (do moveDown' (lo+k) (lo+l);pure (ForInStep.yield (none,()))) _ _;rw[moveDown'_eq];have hks:lo+k<(arrOf z').size:=by rw[b.size];lia
   refine wpS_bind<|wpS_modify<|wpS_pure ⟨rfl,⟨(bubble_perm _ _ _).trans b.perm,b.kind,b.failed,b.pend,λi hi=>?_⟩,?_⟩
   .show (bubble (arrOf z') _ _)[i]?=_;rw[getElem?_bubble hks _<|by lia,if_neg<|by lia,if_neg<|by lia];exact b.keep i hi
   .rw[show min (k+1) n=k+1 by lia];intro i j hi hij hj;show KR rk (bubble (arrOf z') (lo+k)<|lo+k-(lo+l)) i<=KR rk (bubble (arrOf z') (lo+k)<|lo+k-(lo+l)) j;rw[CU hks<|by lia,CU hks<|by lia,show lo+k-(lo+k-(lo+l))=lo+l by lia];have hlo':∀i,lo<=i->i<lo+l->KR rk (arrOf z') i<=KR rk (arrOf z') (lo+k):=λi h1 h2=>by
     have:=hlo (i-lo) (by lia);rwa [show lo+(i-lo)=i by lia]at this
    have hhi':∀i,lo+l<=i->i<lo+k->KR rk (arrOf z') (lo+k)<KR rk (arrOf z') i:=λi h1 h2=>by have:=hhi (i-lo) (by lia) (by lia);rwa [show lo+(i-lo)=i by lia]at this
    repeat' split
    all_goals first
     |(exfalso;lia)
     |exact O0 _
     |exact hlo' _ (by lia) (by lia)
     |exact U4 (hhi' _ (by lia)<|by lia)
     |exact hs' _ _ (by lia) (by lia) (by lia)
end
noncomputable def Ch(rk:Keyed->Nat)(xs:Array Keyed):List (Nat×Nat×Nat)->Nat->Nat->Prop
 |[],b,e=>b=e
 |p::l,b,e=>p.1=b/\1<=p.2.1/\Sg rk xs b p.2.1/\Ch rk xs l (b+p.2.1) e
theorem Ch.len{rk:Keyed->Nat}{xs:Array Keyed}:∀{l:List (Nat×Nat×Nat)}{b e:Nat},Ch rk xs l b e->b+l.length<=e
 |[],b,e,h=>by cases h;simp
 |p::l,b,e,h=>by
  have:=h.2.2.2.len;have:=h.2.1;rw[Y1]
  lia
theorem Ch.append{rk:Keyed->Nat}{xs:Array Keyed}:∀{l l':List (Nat×Nat×Nat)}{b e:Nat},Ch rk xs (l++l') b e ↔ ∃m,Ch rk xs l b m/\Ch rk xs l' m e
 |[],l',b,e=>⟨λh=>⟨b,rfl,h⟩,λ⟨m,h1,h2⟩=>by cases h1;exact h2⟩
 |p::l,l',b,e=>⟨λ⟨h1,h2,h3,h4⟩=>by obtain⟨m,h5,h6⟩:=Ch.append.mp h4;exact⟨m,⟨h1,h2,h3,h5⟩,h6⟩,λ⟨m,⟨h1,h2,h3,h5⟩,h6⟩=>⟨h1,h2,h3,Ch.append.mpr ⟨m,h5,h6⟩⟩⟩
theorem Ch.congr{rk:Keyed->Nat}{xs ys:Array Keyed}:∀{l:List (Nat×Nat×Nat)}{b e:Nat},(∀i,b<=i->i<e->ys[i]?=xs[i]?)->Ch rk xs l b e->Ch rk ys l b e
 |[],_,_,_,h=>h
 |p::l,b,e,k,⟨h1,h2,h3,h4⟩=>by have:=h4.len;refine⟨h1,h2,λi j hi hij hj=>?_,h4.congr λi hi he=>k i (by lia) he⟩;rw[PZ (k i hi<|by lia),PZ<|k j (by lia)<|by lia];exact h3 i j hi hij hj
structure In(κ:SortKind)(rk:Keyed->Nat)(st:SortSt)(lo:Nat)(st':SortSt):Prop where
 perm:(arrOf st').Perm (arrOf st)
 kind:kindOf st'=κ
 failed:failedOf st'=none
 ch:Ch rk (arrOf st') (pendingOf st').toList 0 lo
theorem In.size{κ:SortKind}{st:SortSt}(h:In κ rk st lo st'):(arrOf st').size=(arrOf st).size:=h.perm.size_eq
section
variable {w:World}{κ:SortKind}{rk:Keyed->Nat}{S:Keyed->Prop}{st:SortSt}
theorem AllS.perm{ys:Array Keyed}(h:AllS S xs)(p:ys.Perm xs):AllS S ys:=λq hq=>h q<|(j6.mp p).mem_iff.mp hq
theorem In.push{z:SortSt}(h:In κ rk st lo z)(hn:1<=n)(hs:Sg rk (arrOf z) lo n):In κ rk st (lo+n) (setPending z<|(pendingOf z).push (lo,n,0)) :=
 ⟨h.perm,h.kind,h.failed,by show Ch rk (arrOf z) ((pendingOf z).push (lo,n,0)).toList 0 (lo+n);rw[Y7];exact Ch.append.mpr ⟨lo,h.ch,rfl,hn,hs,rfl⟩⟩
theorem In.run{z:SortSt}(h:In κ rk st lo z)(b:Bs κ z lo n z'):In κ rk st lo z' :=
 ⟨b.perm.trans h.perm,b.kind,b.failed,by rw[b.pend];exact h.ch.congr λi _ hi=>b.keep i<|.inl hi⟩
end
end SG
namespace L2
open PySem.W
section
variable {w:World}{κ:SortKind}{vs:List Value}{rk:Value->Nat}
theorem DU{p:Keyed}(h:p∈(pairsOf vs).toList):p.1=p.2/\p.2∈vs:=by have h:p∈(vs.toArray.zip vs.toArray).toList:=h;rw[Array.toList_zip]at h;obtain⟨i,hi,e⟩:=t9 h;rw[List.getElem_zip]at e;subst e;exact⟨rfl,u4 _⟩
end
end L2
namespace SG
structure Wk{α:Type}(lt:α->α->Bool):Prop where
 irr:∀a,lt a a=false
 tr:∀a b c,lt a b=true->lt b c=true->lt a c=true
 nt:∀a b c,lt a b=false->lt b c=false->lt a c=false
theorem JF{α:Type}{p q:α->Bool}:∀{l:List α},(∀a∈l,p a=true->q a=true)->l.countP p<=l.countP q
 |[],_=>O0 _
 |a::l,h=>by
  have ih:=JF (l:=l) λx hx=>h x<|K0 _ hx;rw[Z6,Z6];have:=h a L0;cases hp:p a
  .simp;lia
  .rw[this hp];simp;lia
theorem bw{α:Type}{p q:α->Bool}:∀{l:List α},(∀a∈l,p a=true->q a=true)->(∃a∈l,p a=false/\q a=true)->l.countP p<l.countP q
 |[],_,⟨_,h,_⟩=>by simp at h
 |a::l,h,⟨x,hx,h1,h2⟩=>by
  rw[Z6,Z6];rcases P0.mp hx with rfl|hx
  .have:=JF (l:=l) λx hx=>h x<|K0 _ hx;rw[h1,h2];simp
   lia
  .have ih:=bw (l:=l) (λx hx=>h x<|K0 _ hx) ⟨x,hx,h1,h2⟩;have:=h a L0;cases hp:p a
   .simp;lia
   .rw[this hp];simp;lia
theorem rank(W:Wk lt){l:List α}{x y:α}(hx:x∈l)(hy:y∈l):decide (l.countP (λa=>lt a x)<l.countP (λa=>lt a y))=lt x y:=by
 cases h:lt x y
 .rw[decide_eq_false_iff_not,Nat.not_lt];refine JF λa _ ha=>?_;cases h2:lt a x
  .rw[W.nt a x y h2 h]at ha;cases ha
  .rfl
 .rw[decide_eq_true_eq];exact bw (λa _ ha=>W.tr a x y ha h) ⟨x,hx,W.irr x,h⟩
theorem lex_wk:Wk HT.lexLt:=by
 refine⟨λa=>?_,λa=>?_,λa=>?_⟩
 .induction a with
  |nil=>rfl
  |cons x a ih=>rw[HT.lexLt_cons,if_pos rfl];exact ih
 .induction a with
  |nil =>
   intro b c h1 h2;cases c with
   |nil=>cases b<;>cases h2
   |cons z c=>rfl
  |cons x a ih =>
   intro b c h1 h2;cases b with
   |nil=>cases h1
   |cons y b =>
    cases c with
    |nil=>cases h2
    |cons z c =>
     rw[HT.lexLt_cons]at h1 h2 ⊢;by_cases e1:x=y
     .subst e1;rw[if_pos rfl]at h1;by_cases e2:x=z
      .subst e2;rw[if_pos rfl]at h2 ⊢;exact ih b c h1 h2
      .rw[if_neg e2]at h2 ⊢;exact h2
     .rw[if_neg e1]at h1;have h1:=of_decide_eq_true h1;by_cases e2:y=z
      .subst e2;rw[if_neg e1];exact decide_eq_true h1
      .rw[if_neg e2]at h2;have h2:=of_decide_eq_true h2;rw[if_neg<|by lia];exact decide_eq_true (by lia)
 .induction a with
  |nil =>
   intro b c h1 h2;cases b with
   |nil=>exact h2
   |cons y b=>cases h1
  |cons x a ih =>
   intro b c h1 h2;cases c with
   |nil=>rfl
   |cons z c =>
    cases b with
    |nil=>cases h2
    |cons y b =>
     rw[HT.lexLt_cons]at h1 h2 ⊢;by_cases e1:x=y
     .subst e1;rw[if_pos rfl]at h1;by_cases e2:x=z
      .subst e2;rw[if_pos rfl]at h2 ⊢;exact ih b c h1 h2
      .rw[if_neg e2]at h2 ⊢;exact h2
     .rw[if_neg e1]at h1;have h1:=of_decide_eq_false h1;by_cases e2:y=z
      .subst e2;rw[if_neg e1];exact decide_eq_false h1
      .rw[if_neg e2]at h2;have h2:=of_decide_eq_false h2;rw[if_neg<|by lia];exact decide_eq_false (by lia)
theorem lex_eq:∀{a b:Qa},HT.lexLt a b=false->HT.lexLt b a=false->a=b
 |[],[],_,_=>rfl
 |[],_::_,h,_=>by cases h
 |_::_,[],_,h=>by cases h
 |x::a,y::b,h1,h2=>by
  rw[HT.lexLt_cons]at h1 h2;by_cases e:x=y
  .subst e;rw[if_pos rfl]at h1 h2;rw[lex_eq h1 h2]
  .rw[if_neg e]at h1;rw[if_neg<|λz=>e z.symm]at h2;have h1:=of_decide_eq_false h1;have h2:=of_decide_eq_false h2
   lia
theorem sorted_uniq{lt:α->α->Bool}(an:∀a b,lt a b=false->lt b a=false->a=b):∀{l m:List α},l.Perm m->l.Pairwise (λa b=>lt b a=false)->m.Pairwise (λa b=>lt b a=false)->l=m
 |[],m,p,_,_=>by rw[List.nil_perm.mp p]
 |x::l,[],p,_,_=>by simp at p
 |x::l,y::m,p,h1,h2=>by
  have e:x=y:=by
   have hx:x∈y::m:=p.mem_iff.mp L0;have hy:y∈x::l:=p.mem_iff.mpr L0;rcases P0.mp hx with e|hx
   .exact e
   .rcases P0.mp hy with e|hy
    .exact e.symm
    .exact an x y ((i5.mp h2).1 x hx) ((i5.mp h1).1 y hy)
  subst e;rw[sorted_uniq an (List.perm_cons x |>.mp p) (i5.mp h1).2 (i5.mp h2).2]
end SG
namespace L2
open PySem.W
section
variable {X:Cx}{α:Type}[Inhabited α]
theorem kj{us:List V}:∀{out:List Value},out.Perm its->Vals us its->∃us':List V,us'.Perm us/\Vals us' out:=by
 intro out p;induction p generalizing us with
 |nil=>intro h;exact⟨us,List.Perm.refl _,h⟩
 |cons x _ ih =>
  intro h;cases h with
  |cons h t=>obtain⟨us',p,r⟩:=ih t;exact⟨_,p.cons _,.cons h r⟩
 |swap x y l =>
  intro h;cases h with
  |cons h1 t=>cases t with|cons h2 t=>exact⟨_,List.Perm.swap _ _ _,.cons h2<|.cons h1 t⟩
 |trans _ _ ih1 ih2=>intro h;obtain⟨u2,p2,r2⟩:=ih2 h;obtain⟨u1,p1,r1⟩:=ih1 r2;exact⟨u1,p1.trans p2,r1⟩
end
end L2
namespace L3
open L2
theorem KF{pos:Pos}:∀(l:List Value),TriplesOk l->codeAmong pos' (l++[rawInt pos.line,rawInt pos.col,c])=some v->codeAmong pos' l=some v\/v=c:=by
 intro l h e
 fun_induction TriplesOk l with
 |case1 =>
  simp only[E6,codeAmong,rawInt]at e;split at e
  .exact .inr (W1 e).symm
  .cases e
 |case2 a t b u x rest ih =>
  simp only[o4,codeAmong]at e ⊢;split at e
  .rename_i hc;rw[if_pos hc];exact .inl e
  .rename_i hc;rw[if_neg hc];exact ih h e
 |case3 l h1 h2=>exact h.elim
structure Lm(K:Fg)(x:Str)(fd:FuncData):Prop where
 ex:∃c P,fd.code=.ref c/\W3 K c P=true/\(P,x)∈TB K/\∀z∈TB K,z.1=P->z.2=x
section
variable {K:Fg}{F:Hp}
end
section
variable {P:Program}{w:World}{K:Fg}{mg:Str->Option Value}{base:Heap}
theorem FR{st:Stmt}{ts:LZ}(F:Fun K x qual st f fd)(hcd:fd.code=.ref c)(S:FnScope N ps (aQ st))(hb:∀(A:Around) (outer:List Env) (s:Shared) (H:Hp) (E:XK),Room k (A.deeper<|envOfC qual (aQ st) s.heap.objs.size f<|.ref c)->WSs (NY OX P w K mg base N qual (aQ st) f (.ref c) A outer s H E).nox (cX st) (oQ K ts))(hl:∀args Qd,con args Qd->args.length=ps.length) (hc:∀args Qd,con args Qd->(∀s∈args,∀d,s≠.ow d)/\ts (ZY args Qd) (dJ N.length args)):FnOk P w K mg base OX (k+1) f fd ps (dQ K con):=by
 obtain⟨oc,od,kV,doc,pm,an,cdv,ct,osl,rfl,lk,hcd'⟩:=F.ex;have e:cdv=.ref c:=hcd;subst e;refine JD lk hcd' S (λvs H Q E h=>?_) λA outer s H vs Q E hr hsp=>⟨_,(hb A outer s H E hr).h.nox,QC hc hsp⟩;obtain⟨G,F',args,Qd,R,w',_⟩:=h;have h1:=hl args Qd w';have h2:=R.len;rw[B0,B0]at h2;rw[h2,h1]
theorem GR{x:Str}{st:Stmt}{f c:Addr}{ps:List Str}{k:Nat}{con:Con}{ts:LZ}(F:Fun K x qual st f fd)(hcd:fd.code=.ref c)(S:FnScope N ps (aQ st))
  (hb:∀(A:Around) (outer:List Env) (s:Shared) (H:Hp) (E:XK),Room k (A.deeper<|envOfC qual (aQ st) s.heap.objs.size f<|.ref c)->WSs (NY OX P w K mg base N qual (aQ st) f (.ref c) A outer s H E).nox (cX st) (oQ K ts))
  (hc:∀args Qd,con args Qd->ts (ZY args Qd) (dJ N.length args)) (hn:∀args Qd,con args Qd->args.length=ps.length/\∀s∈args,∀d,s≠.ow d:=by intro a q h;repeat first|exact⟨rfl,IQ rfl⟩|(obtain⟨rfl,_⟩:=h)|(obtain⟨_,h⟩:=h)):FnOk P w K mg base OX (k+1) f fd ps (dQ K con):=FR F hcd S hb (λa q h=>(hn a q h).1) λa q h=>⟨(hn a q h).2,hc a q h⟩
end
theorem Yu{K:Fg}(hS:SqL K H a (ns.map V.int))(hT:∀z∈TB K,H z.1=some (.tbl #[])):∃F:Hp,Rel K ⟨H,F,λ_=>none⟩ F [some<|.ref a] H [some<|.fz<|SZ ns]:=by
 refine⟨λb=>match H b with
   |some (.tbl ps)=>none
   |o=>o,?_⟩;have su:Sub (λb=>match H b with
   |some (.tbl ps)=>none
   |o=>o) H:=λb o e=>by
  dsimp only at e;split at e
  .cases e
  .exact e
 have back:∀b u,H b=some u->stk u=false\/(∃o x,u=.frz o x)->(match H b with
   |some (.tbl ps)=>none
   |o=>o)=some u:=λb u e s=>by
  rw[e];cases u<;>first|rfl|(rcases s with s|⟨_,_,s⟩<;>cases s)
 have hS':SqL K (λb=>match H b with
   |some (.tbl ps)=>none
   |o=>o) a (ns.map V.int):=by
  rcases hS with (h|⟨o,h⟩)|h
  .exact .inl (.inl<|back _ _ h<|.inl rfl)
  .exact .inl (.inr ⟨o,back _ _ h<|.inr ⟨_,_,rfl⟩⟩)
  .exact .inr h
 have tb:TabOk K (λb=>match H b with
   |some (.tbl ps)=>none
   |o=>o) H:=λz hz=>by
  have e:=hT z hz;refine⟨by dsimp only;rw[e],#[],e,trivial,λpos v q=>?_⟩;cases q
 exact zZ (vs:=[.ref a]) (ds:=[SZ ns]) su tb<|.cons (.scr hS') .nil
end L3
namespace L2
def cw(ts:List Addr)(H:Hp):Prop:=(∀b,H b=none\/(∃o xs,H b=some (.frz o<|.lst xs))\/b∈ts)/\∀P∈ts,H P=some (.tbl #[])
theorem lj{K:G0}(KX:K.In s₁.heap) (hts:∀P∈ts,s₁.heap.get? P=some (Q6 #[])) (hct:∀P∈ts,K.lookup P=none/\∃c,W3 K c P=true)(hns:s₁.heap.Ns mainGlobals mg) (hb:s₁.heap.Ns builtinsNs mb) (hbb:∀x:Str,x ≠ "__name__"->mb x=bootBuiltins x) (hlim:s₁.heap.NoLimit) (hbm:wN mg s₁.heap) (hg:s₁.gens=#[])(ha:s₁.heap.get? a=some {cls:=.type "list",data:=.seq vs.toArray}) (hi:IntsAre vs ns) (hl:ns.length<=sizeLine) (hr:Room k callerA)(F:∀base:Heap,K.In base->base.Ns mainGlobals mg->FnOk P w K mg base CX k fa fd [x] sp) (hbind:∀(s:Shared) (u:Value),BindsTo s fd ⟨[u],[]⟩ [(x,u)])(hsp:∀H:Hp,cw ts H->SqL K H a (ns.map V.int)->sp [.ref a] H (λv _=>v=.bl true) λ_ _ _=>False)(hCX:∀H e s',CX [] H s₁ (λ_ _ _=>False) e s'->False):codeAny (model P w) callerA (.call (.ref fa) ⟨[.ref a],[]⟩) (λr s'=>r=.ok (.ret<|.bool true)/\OldK s₁.heap s'.heap/\s'.os=s₁.os/\AllBare s'.gens) s₁:=by
 have rv:=tU hi;have lenV:=hi.length;have nat:a∉ts:=λz=>by have:=hts a z;rw[ha]at this;cases this
 have core:∀H:Hp,cw ts H->SqL K H a (ns.map V.int)->HOk P w H s₁.heap->(∀b,H b≠none->b=a\/b∈ts)->(H a≠none->K.lookup a=none) ->
   codeAny (model P w) callerA (.call (.ref fa) ⟨[.ref a],[]⟩) (λr s'=>r=.ok (.ret<|.bool true)/\OldK s₁.heap s'.heap/\s'.os=s₁.os/\AllBare s'.gens) s₁:=by
  intro H hO hS hok hA hK;have base_of:∀{b:Addr}{o:Obj},s₁.heap.get? b=some o->H b=none->(MU s₁.heap H).get? b=some o:=λe n=>Tj e n;have noA:∀{b:Addr}{o:Obj},s₁.heap.get? b=some o->o.cls≠.none->o.cls≠.type "list"->H b=none:=λ{b o} e d1 d2=>by
   cases q:H b with
   |none=>rfl
   |some u =>
    rcases hA b (by rw[q];simp) with e'|e'
    .subst e';rw[ha]at e;cases e;exact absurd rfl d2
    .rw[hts b e']at e;cases e;exact absurd rfl d1
  have noD:∀{b:Addr}{o:Obj}{es:Array DictEntry}{ep:Nat},s₁.heap.get? b=some o->o.data=.dict es ep->H b=none:=λ{b o es ep} e d=>by
   cases q:H b with
   |none=>rfl
   |some u =>
    rcases hA b (by rw[q];simp) with e'|e'
    .subst e';rw[ha]at e;cases e;have d':Data.seq vs.toArray _=Data.dict es ep:=d;cases d'
    .rw[hts b e']at e;cases e;cases d
  have nsK:∀{b:Addr}{m:Str->Option Value},s₁.heap.Ns b m->(MU s₁.heap H).Ns b m:=λ{b m} ⟨o,es,ep,e,d,r⟩=>⟨o,es,ep,base_of e<|noD e d,d,r⟩;have hKb:K.In (MU s₁.heap H):=λb o e=>base_of (KX b o e) (by
    cases q:H b with
    |none=>rfl
    | some u =>
      rcases hA b (by rw[q];simp) with e'|e'
      . subst e';rw[hK<|by rw[q];simp]at e;cases e
      . rw[(hct b e').1]at e;cases e);have hM:Mod K mg (MU s₁.heap H):=⟨hKb,nsK hns,⟨mb,nsK hb,hbb⟩,let ⟨mc,h1,h2⟩:=hlim;⟨mc,nsK h1,h2⟩,let ⟨bm,o,b1,b2,b3,b4,b5,b6⟩:=hbm;⟨bm,o,b1,b2,base_of b3 (noA b3 (by rw[b4];exact λz=>by cases z)<|by rw[b4];intro z;injection z with z;exact absurd z<|by decide),b4,b5,b6⟩⟩;have e0:Env0 P w K mg (MU s₁.heap H) callerA [] s₁ H:=⟨rfl,hM,λb o e=>my e,Nat.le_of_eq<|qz _ _,trivial,λb hb=>absurd (show b∈([]:List Addr) from hb)<|by simp,hok,.of_eq hg⟩;refine codeAny_mono ((F _ hKb<|nsK hns).run callerA [] s₁ H ⟨[.ref a],[]⟩ [.ref a] [.ref a] _ _ hr e0 (hbind s₁<|.ref a) (.cons rfl .nil)<|hsp H hO hS) λr s' h=>?_;cases r with
  |error e=>exact(hCX H e s' h).elim
  |ok fl =>
   cases fl with
   |next=>exact False.elim h
   |brk=>exact False.elim h
   |cont=>exact False.elim h
   |ret u =>
    obtain⟨v,H',os,bare,un,hok',r',q⟩:=h;have q':v=.bl true:=q;subst q';obtain rfl:u=Value.bool true:=r';have tabs:∀b∈ts,∃more,s'.heap.get? b=some (Q6<|#[]++more):=λb hb=>by obtain⟨more,e⟩:=un.tbls b _<|hO.2 b hb;exact⟨more,(show ObjOk P w H' s'.heap b (.tbl<|#[]++more) from hok' b _ e)⟩
    have others:∀b o,b∉ts->s₁.heap.get? b=some o->s'.heap.get? b=some o:=λb o hb e=>by
     cases q:H b with
     |none=>exact un.keep b o e q (by intro z;exact absurd (show b∈([]:List Addr) from z)<|by simp) (by simp)
     |some u =>
      rcases hO.1 b with z|⟨ob,xs,z⟩|z
      .rw[q]at z;cases z
      .have z2:=un.frzs b ob _ z;obtain⟨e1,_⟩:=hok b _ z;obtain⟨e2,_⟩:=hok' b _ z2;rw[e]at e1;cases e1;exact e2
      .exact absurd z hb
    refine⟨rfl,⟨λb o e=>?_,λb o e=>?_⟩,os,bare⟩
    .by_cases hb:b∈ts
     .obtain⟨more,e2⟩:=tabs b hb;obtain⟨_,c,hc⟩:=hct b hb;have e3:=hts b hb;rw[e]at e3;cases e3;exact .inr<|.inl ⟨((u9 KX hc).tab<|hts b hb).isCodeTable,rfl,#[],more,rfl,e2⟩
     .exact .inl (others b o hb e)
    .by_cases hb:b∈ts
     .obtain⟨more,e2⟩:=tabs b hb;exact⟨_,e2⟩
     .exact⟨_,others b o hb e⟩
 cases hk:K.lookup a with
 |some o =>
  have e:=KX a o hk;rw[ha]at e;cases e;refine core (λb=>if b∈ts then some (.tbl #[]) else none) ⟨λb=>?_,λP hP=>if_pos hP⟩ (.inr ⟨_,vs.toArray,_,hk,rfl,rfl,rfl,by rw[X0,lenV];exact hl,by simpa using rv⟩) (λb u z=>?_) (λb z=>?_) λz=>absurd (if_neg nat) z
  .by_cases hb:b∈ts
   .exact .inr (.inr hb)
   .exact .inl (if_neg hb)
  .by_cases hb:b∈ts
   .have z':=(if_pos hb).symm.trans z;cases z';exact hts b hb
   .have z':=(if_neg hb).symm.trans z;cases z'
  .by_cases hb:b∈ts
   .exact .inr hb
   .exact absurd (if_neg hb) z
 |none =>
  refine core (λb=>if b=a then some (.frz {cls:=.type "list",data:=.seq vs.toArray}<|.lst<|ns.map V.int) else if b∈ts then some (.tbl #[]) else none) ⟨λb=>?_,λP hP=>?_⟩ (.inl<|.inr ⟨{cls:=.type "list",data:=.seq vs.toArray},if_pos rfl⟩) (λb u z=>?_) (λb z=>?_) λ_=>hk
  .by_cases hb:b=a
   .exact .inr (.inl ⟨_,_,if_pos hb⟩)
   .by_cases hb2:b∈ts
    .exact .inr (.inr hb2)
    .exact .inl (by dsimp only;rw[if_neg hb,if_neg hb2])
  .have ne:P≠a:=λq=>nat<|q ▸ hP;show (if P=a then _ else if P∈ts then some (HO.tbl #[]) else none)=_;rw[if_neg ne,if_pos hP]
  .have z:(if b=a then some (HO.frz {cls:=.type "list",data:=.seq vs.toArray}<|.lst<|ns.map V.int) else if b∈ts then some (.tbl #[]) else none)=some u:=z;by_cases hb:b=a
   .rw[if_pos hb]at z;cases z;subst hb;exact⟨ha,by rw[B0];exact hl,vs,_,rv,ha⟩
   .rw[if_neg hb]at z;by_cases hb2:b∈ts
    .rw[if_pos hb2]at z;cases z;exact hts b hb2
    .rw[if_neg hb2]at z;cases z
  .have z:(if b=a then some (HO.frz {cls:=.type "list",data:=.seq vs.toArray}<|.lst<|ns.map V.int) else if b∈ts then some (.tbl #[]) else none)≠none:=z;by_cases hb:b=a
   .exact .inl hb
   .rw[if_neg hb]at z;by_cases hb2:b∈ts
    .exact .inr hb2
    .exact absurd (if_neg hb2) z
theorem walk_ofT{l:Q8}{K:Params->G0}{CX:World->aF}{sp:World->Sp}(hn:l.most=some n) (hn2:n<=sizeLine) (hdf:d.params.defaults=[]) (hr:Room k callerA)(hY:∀(w:World) (h:Heap),YP w h->(K w.params).In h/\∀P∈ts,h.get? P=some (Q6 #[]))(hct:∀w:World,∀P∈ts,(K w.params).lookup P=none/\∃c,W3 (K w.params) c P=true)(F:∀(w:World) (mg:Str->Option Value) (fa:Addr) (h:Heap),(K w.params).In h->h.Ns mainGlobals mg->mg d.name=some (.ref fa) -> ∃fd:FuncData,(∀(s:Shared) (u:Value),BindsTo s fd ⟨[u],[]⟩ [(x,u)]) /\ ∀base:Heap,(K w.params).In base->base.Ns mainGlobals mg->FnOk l.prog w (K w.params) mg base (CX w) k fa fd [x] (sp w))(hsp:∀(w:World) (H:Hp) (a:Addr) (ns:Qa),ns.length<=n->cw ts H->SqL (K w.params) H a (ns.map V.int)->sp w [.ref a] H (λv _=>v=.bl true) λ_ _ _=>False)(hCX:∀(w:World) (H:Hp) (s:Shared) (e:Value) (s':Shared),CX w [] H s (λ_ _ _=>False) e s'->False):PySem.W.WalkO q loose XP YP l.row.toRowW d [] (λf vs=>PySem.call f vs):=by
 refine Att.attach_call hn hdf λw s₀ s₁ mg mb fa o pm cd doc a vs ns G Y ho hd hcd hmg hobj hints hlen hg=>?_;obtain⟨KX,hts⟩:=hY w _ Y;obtain⟨fd,hb,hF⟩:=F w mg fa _ KX G.T.g hmg;exact lj KX hts (hct w) G.T.g G.T.b G.T.builtins G.T.nolimit G.T.bmain hg hobj hints (T1 hlen hn2) hr hF hb (λH hO hS=>hsp w H a ns hlen hO hS) λH e s'=>hCX w H s₁ e s'
noncomputable def del(C:List Addr)(H:Hp):Hp:=λb=>if b∈C then none else H b
noncomputable def put(C:List Addr)(H H':Hp):Hp:=λb=>if b∈C then H b else H' b
theorem mY(h:b∈C):del C H b=none:=if_pos h
theorem yQ(h:b∉C):del C H b=H b:=if_neg h
theorem DK(h:b∈C):put C H H' b=H b:=if_pos h
theorem mX(h:b∉C):put C H H' b=H' b:=if_neg h
theorem CY{o:HO}(h:del C H b=some o):b∉C/\H b=some o:=by
 by_cases z:b∈C
 .rw[mY z]at h;cases h
 .rw[yQ z]at h;exact⟨z,h⟩
def Cels(C:List Addr)(H:Hp):Prop:=∀c∈C,∃o,H c=some (VX c o)
section
variable {P:Program}{w:World}{C fs:List Addr}
theorem Cels.ne(hc:Cels C H){b:Addr}{u:HO}(e:H b=some u)(n:∀c o,u≠VX c o):b∉C:=λz=>by obtain⟨o,q⟩:=hc b z;rw[e]at q;exact n b o<|W1 q
theorem Cels.nn(hc:Cels C H){b:Addr}(e:H b=none):b∉C:=λz=>by obtain⟨o,q⟩:=hc b z;rw[e]at q;cases q
theorem HOk.del(x:HOk P w H h)(hc:Cels C H):HOk P w (del C H) h:=λb u e=>by
 obtain⟨nb,e⟩:=CY e;refine(x b u e).stay (λ_ _ _ q=>q) (λd q=>?_) λd xs q=>?_
 .rw[yQ<|hc.ne q λc o z=>by cases z];exact q
 .rw[yQ<|hc.ne q λc o z=>by cases z];exact q
theorem dw(x:HOk P w H h)(hc:Cels C H)(u:Un fs [] (L2.del C H) H' h h'):Un fs [] H (put C H H') h h':=by
 have nb:∀{b:Addr},H b=none->b∉C/\L2.del C H b=none:=λe=>⟨hc.nn e,by rw[yQ<|hc.nn e];exact e⟩;refine⟨λb o e n=>u.keep b o e (nb n).2,λb o e n=>u.slot b o e (nb n).2,λb o e n hx=>?_,u.there,λb xs e=>?_,λb o v e=>?_,λb ps e=>?_⟩
 .rw[mX (nb n).1];exact u.free b o e (nb n).2 hx
 .have z:=hc.ne e λc o z=>by cases z
  rw[mX z];exact u.tups b xs (by rw[yQ z];exact e)
 .by_cases z:b∈C
  .rw[DK z];exact e
  .rw[mX z];exact u.frzs b o v (by rw[yQ z];exact e)
 .have z:=hc.ne e λc o z=>by cases z
  rw[mX z];exact u.tbls b ps (by rw[yQ z];exact e)
theorem rV(x:HOk P w H h)(hc:Cels C H)(u:Un fs [] (L2.del C H) H' h h'):∀c∈C,H' c=none:=λc hm=>by obtain⟨o,e⟩:=hc c hm;obtain⟨ho,_⟩:=(show ObjOk P w H h c (VX c o) from x c _ e);exact u.free c o ho (mY hm) (by simp)
theorem pq(x:HOk P w H h)(hc:Cels C H)(hf:∀c∈C,c∉fs)(u:Un fs [] (L2.del C H) H' h h')(y:HOk P w H' h'):HOk P w (put C H H') h':=λb v e=>by
 have no:=rV x hc u;have nt:∀{d:Addr}{o:HO},H' d=some o->d∉C:=λ{d o} q z=>by rw[no d z]at q;cases q
 by_cases z:b∈C
 .rw[DK z]at e;obtain⟨o,q⟩:=hc b z;rw[q]at e;cases e;obtain⟨ho,_⟩:=(show ObjOk P w H h b (VX b o) from x b _ q);have h1:=u.keep b o ho (mY z) (hf b z) (by simp);exact⟨h1,⟨_,h1⟩,⟨_,h1⟩,λh1 h2 ⟨o,e1⟩ k=>⟨o,k _ e1⟩⟩
 .rw[mX z]at e;refine(y b v e).stay (λ_ _ _ q=>q) (λd q=>?_) λd xs q=>?_
  .rw[mX<|nt q];exact q
  .rw[mX<|nt q];exact q
noncomputable def fw(C:List Addr)(os:Addr->Obj)(H:Hp):Hp:=put C (λc=>some<|VX c<|os c) H
theorem sV{os:Addr->Obj}(h:b∈C):fw C os H b=some (VX b<|os b):=DK h
theorem fX{os:Addr->Obj}(h:b∉C):fw C os H b=H b:=mX h
theorem Zu{os:Addr->Obj}(x:HOk P w H h)(hn:∀c∈C,H c=none)(ho:∀c∈C,h.get? c=some (os c)):HOk P w (fw C os H) h:=λb v e=>by
 have nt:∀{d:Addr}{o:HO},H d=some o->d∉C:=λ{d o} q z=>by rw[hn d z]at q;cases q
 by_cases z:b∈C
 .rw[sV z]at e;cases e;have h1:=ho b z;exact⟨h1,⟨_,h1⟩,⟨_,h1⟩,λh1 h2 ⟨o,e1⟩ k=>⟨o,k _ e1⟩⟩
 .rw[fX z]at e;refine(x b v e).stay (λ_ _ _ q=>q) (λd q=>?_) λd xs q=>?_
  .rw[fX<|nt q];exact q
  .rw[fX<|nt q];exact q
theorem ZL{os:Addr->Obj}(hn:∀c∈C,H c=none)(ho:∀c∈C,h.get? c=some (os c))(hf:∀c∈C,c∉fs)(u:Un fs [] (fw C os H) H' h h')(y:HOk P w H' h'):Un fs [] H (L2.del C H') h h':=by
 have fz:∀c∈C,H' c=some (VX c<|os c):=λc hc=>u.frzs c _ _<|sV hc;have nt:∀{d:Addr}{o:HO},H d=some o->d∉C:=λ{d o} q z=>by rw[hn d z]at q;cases q
 refine⟨λb o e n hb hx=>?_,λb o e n hb hx=>?_,λb o e n hx=>?_,u.there,λb xs e=>?_,λb o v e=>?_,λb ps e=>?_⟩
 .by_cases z:b∈C
  .have:=ho b z;rw[e]at this;cases this;exact(show ObjOk P w H' h' b (VX b<|os b) from y b _<|fz b z).1
  .exact u.keep b o e (by rw[fX z];exact n) hb hx
 .exact u.slot b o e (by rw[fX λz=>hf b z hb];exact n) hb hx
 .by_cases z:b∈C
  .exact mY z
  .rw[yQ z];exact u.free b o e (by rw[fX z];exact n) hx
 .rw[yQ<|nt e];exact u.tups b xs (by rw[fX<|nt e];exact e)
 .rw[yQ<|nt e];exact u.frzs b o v (by rw[fX<|nt e];exact e)
 .rw[yQ<|nt e];exact u.tbls b ps (by rw[fX<|nt e];exact e)
end
theorem fH{F:α->β->Prop}:∀{l₁:List α}{l₂:List β},Paired F l₁ l₂->∀{i:Nat}{b:β},l₂[i]?=some b->∃a,l₁[i]?=some a/\F a b
 |_,_,.nil,i,b,e=>by simp at e
 |_,_,.cons r t,0,b,e=>by simp at e;subst e;exact⟨_,rfl,r⟩
 |_,_,.cons r t,i+1,b,e=>by obtain⟨a,h1,h2⟩:=fH t (i:=i) (by simpa using e);exact⟨a,by simpa using h1,h2⟩
theorem BZ{F:α->β->Prop}:∀{l₁:List α}{l₂:List β},Paired F l₁ l₂->∀{a:α},a∈l₁->∃b,F a b
 |_,_,.nil,_,e=>by cases e
 |_,_,.cons r t,a,e=>by
  rcases P0.mp e with rfl|e
  .exact⟨_,r⟩
  .exact BZ t e
theorem EK{x:Str}{c:Addr}:∀{cl:List (Str×Addr)},(cl.map (·.1)).Nodup->(x,c)∈cl->cl.lookup x=some c
 |(y,d)::cl,nd,h=>by
  rw[K1,S3]at nd;rcases P0.mp h with z|z
  .cases z;simp
  .have hne:x≠y:=λq=>nd.1<|S0.mpr ⟨(x,c),z,q⟩;rw[P2,show (x==y)=false from beq_eq_false_iff_ne.mpr hne];exact EK nd.2 z
theorem tV{x:Str}{c:Addr}:∀{cl:List (Str×Addr)},(cl.map (·.2)).Nodup->(x,c)∈cl->(y,c)∈cl->x=y
 |(z,d)::cl,nd,h1,h2=>by
  rw[K1,S3]at nd;rcases P0.mp h1 with e1|e1<;>rcases P0.mp h2 with e2|e2
  .cases e1;cases e2;rfl
  .cases e1;exact(nd.1<|S0.mpr ⟨_,e2,rfl⟩).elim
  .cases e2;exact(nd.1<|S0.mpr ⟨_,e1,rfl⟩).elim
  .exact tV nd.2 e1 e2
end L2
namespace L3
open L2
noncomputable abbrev mj(qual:Str)(sc:Scope)(cl:List (Str×Addr))(L f:Addr)(cd:Value):Env:=newEnv sc L mainGlobals cl (qual ++ ".<locals>.") (some f) cd none builtinsNs
noncomputable def MO(P:Program)(w:World)(K:Fg)(mg:Str->Option Value)(base:Heap)(N:List Str)(qual:Str)(sc:Scope)(cl:List (Str×Addr))(f:Addr)(cd:Value)(A:Around)(outer:List Env)(s:Shared)(H:Hp):Cx where
 prog:=P
 w:=w
 K:=K
 mg:=mg
 base:=base
 A:=A.deeper (mj qual sc cl s.heap.objs.size f cd)
 N:=N
 s₀:=s
 H₀:=H
 env:=mj qual sc cl s.heap.objs.size f cd
 outer:=outer
 stack:=mj qual sc cl s.heap.objs.size f cd::outer
 ex:=[]
 fn:=λ_=>false
 calm:=true
 pn:=[]
 xe:=λ_ _=>False
structure LamSc(y:Str)(fr:List Str)(sc:Scope):Prop where
 kind:sc.kind=.function
 co:sc.isCoroutine=false
 gen:sc.isGenerator=false
 nc:∀z∈sc.names,z.2≠.cell
 par:sc.names.lookup y=some .local
 has:∀z∈sc.names,z.2=.free->z.1∈fr
 fre:∀x∈fr,sc.names.lookup x=some .free
 nd:fr.Nodup
theorem gw{K:Fg}{fr:List Str}{Q:VK} (S:LamSc y fr sc) (hcl:cl.map (·.1)=fr) (ndc:(cl.map (·.2)).Nodup) (hr:Room (k+1) A) (e0:Env0 P w K mg base A outer s H) (hf:H f=some (ZJ f c qual ar body sc cl)) (hc:H c=some (VX c oc))(hq:∃vs t,oc.data=.fields vs/\vs[1]?=some (.str qual t)) (hcel:Paired (CelAt H) cl ws)(hb:∀(pm ctv u:Value),bindArgs (Z8 "<lambda>" qual ar body sc cl pm (.ref c) ctv) ⟨[u],[]⟩=pure [(y,u)]) (r:RelV v u)(hbody:Room k (A.deeper<|mj qual sc cl s.heap.objs.size f<|.ref c)->∃t:TE,PE (MO P w K mg base (y::fr) qual sc cl f (.ref c) A outer s (del (cl.map (·.2)) H)) body t /\ t ((v::ws).map some) (del (cl.map (·.2)) H) λv H'=>(∀c∈cl.map (·.2),H' c=none)->Q v (put (cl.map (·.2)) H H')):codeAny (model P w) A (.call (.ref f) ⟨[u],[]⟩) (CR OX outer P w H s Q E0) s:=by
 obtain⟨⟨pm,ctv,ho⟩,_⟩:=(show ObjOk P w H s.heap f (ZJ f c qual ar body sc cl) from e0.hok f _ hf);obtain⟨hoc,_⟩:=(show ObjOk P w H s.heap c (VX c oc) from e0.hok c _ hc);obtain⟨vs',t',hd,hv⟩:=hq;have lim:s.heap.NoLimit:=e0.mod.nolimit.keeps λb o e=>(e0.bs b o e).1;have hC:Cels (cl.map (·.2)) H:=λb hb=>by obtain⟨p,hp,rfl⟩:=S0.mp hb;obtain⟨v,o,u,e,_⟩:=BZ hcel hp;exact⟨o,e⟩
 have hfs:∀c∈cl.map (·.2),c∉TZ outer:=λc hc z=>by obtain⟨o,e⟩:=hC c hc;rw[e0.frf c z]at e;cases e
 have obj:∀{p:Str×Addr}{w:V},CelAt H p w->∃u,RelV w u/\s.heap.IsCell p.2 (some u):=λ{p w'} ⟨o,u,e,hd,r⟩=>by obtain⟨ho,_⟩:=(show ObjOk P w H s.heap p.2 (VX p.2 o) from e0.hok _ _ e);exact⟨u,r,o,ho,hd⟩
 refine b9 hr.depth ho rfl S.co S.gen rfl ⟨c,oc,vs',t',rfl,hoc,hd,hv⟩ ?_;rw[hb pm ctv u];refine wpAny_pure<|wpAny_newFunctionEnv S.nc (λx hx=>by rw[Y0.mp hx];exact S.par) (λh' hns hsb=>?_) S.kind;have kp:∀b o,s.heap.get? b=some o->h'.get? b=some o:=λb o e=>by rw[hsb.2 b<|V0<|U0 e];exact u0 _ e
 refine⟨lim.keeps kp,h9 ?_⟩;obtain⟨t,ht,hq⟩:=hbody<|hr.deeper _;have nd1:(cl.map (·.1)).Nodup:=by rw[hcl];exact S.nd
 have noA:∀b:Addr,b∉([]:List Addr):=λb z=>by cases z
 have I:Inv (MO P w K mg base (y::fr) qual sc cl f (.ref c) A outer s (del (cl.map (·.2)) H)) [] ((v::ws).map some) (del (cl.map (·.2)) H) {s with heap:=h',toks:=s.toks+[(y,u)].length}:=by
  refine⟨⟨e0.mod,S.kind,rfl,rfl,O0 _,λx z c h1 h2=>tV ndc (PySem.mem_of_lookup h1)<|PySem.mem_of_lookup h2,λx hx=>?_,λx c z _=>(by cases z),λ_=>hr.hd,Around.frames_deeper e0.frames,.inr ⟨rfl,rfl⟩,λb z=>absurd z<|noA b,λb o e=>⟨(e0.bs b o e).1,?_⟩,e0.bsz,λb _ _=>noA b,λb z=>absurd z<|noA b,e0.funs,λb hb=>?_⟩,
    rfl,e0.bare,Un.kept kp,⟨_,hns,λi x v' h1 h2 h3=>?_⟩,λx c h=>?_,?_,λx c h=>?_,λp hp=>absurd (show p∈([]:List (Addr×Obj)) from hp)<|by simp,(e0.hok.del hC).kept kp,?_⟩
  .have hx:sc.names.lookup x=some .cell\/sc.names.lookup x=some .free:=hx;rcases hx with hx|hx
   .exact absurd rfl (S.nc _<|PySem.mem_of_lookup hx)
   .have:=S.has _ (PySem.mem_of_lookup hx) rfl;rw[<-hcl]at this;obtain⟨p,hp,e⟩:=S0.mp this;have e:p.1=x:=e;exact⟨p.2,EK nd1<|by rw[<-e];exact hp⟩
  .show del _ H b=none;rw[yQ<|hC.nn (e0.bs b o e).2];exact(e0.bs b o e).2
  .show del _ H b=none;rw[yQ<|hC.nn<|e0.frf b hb];exact e0.frf b hb
  .cases i with
   |zero=>cases h1;cases h2;exact⟨u,r,.inl ⟨S.par,by simp⟩⟩
   |succ i =>
    have h1:fr[i]?=some x:=h1;have h2:(ws.map some)[i]?=some (some v'):=h2;have h2:ws[i]?=some v':=by
     rw[E1]at h2;cases e:ws[i]? with
     |none=>rw[e]at h2;cases h2
     |some a=>rw[e]at h2;cases h2;rfl
    obtain⟨p,hp,hce⟩:=fH hcel h2;rw[<-hcl,E1,hp]at h1;cases h1;obtain⟨u',ru,hi⟩:=obj hce;exact⟨u',ru,.inr ⟨.inr (S.fre p.1<|by rw[<-hcl];exact S0.mpr ⟨p,U1 hp,rfl⟩),p.2,EK nd1<|U1 hp,hi.keeps kp⟩⟩
  .obtain⟨w',hce⟩:=BZ hcel<|PySem.mem_of_lookup h;obtain⟨u',_,hi⟩:=obj hce;exact⟨_,hi.keeps kp⟩
  .exact(e0.hok.del hC).fresh (O0 _)
  .exact mY (S0.mpr ⟨(x,c),PySem.mem_of_lookup h,rfl⟩)
  .show (W5 some (v::ws)).length=(y::fr).length;have:=hcel.length;rw[B0,Y1,Y1,<-hcl,B0,this]
 refine wpAny_mono (ht [] _ _ _ _ I hq) (λu s' ⟨v,H',J,rv,q⟩=>?_) λe s' hs=>hs.elim;have un:Un (TZ outer) [] (del (cl.map (·.2)) H) H' s.heap s'.heap:=J.base;exact⟨v,put (cl.map (·.2)) H H',J.os,J.bare,dw e0.hok hC un,pq e0.hok hC hfs un J.hok,rv,q<|rV e0.hok hC un⟩
end L3
namespace L2
theorem rq(e:h.get? f=some (Q5 "<lambda>" qual ar body sc cl pm c ctv)):ObjOk P w H h f (ZJ f c qual ar body sc cl):=⟨⟨pm,ctv,e⟩,⟨_,e⟩,λh1 h2 ⟨pm,ctv,e1⟩ k=>⟨pm,ctv,k _ e1⟩⟩
end L2
namespace L3
open L2
def uV(P:Addr)(x:Str)(ar:Arguments)(body:Expr)(sc:Scope)(cl:List (Str×Addr)):TE:=λ_ H Q=>∃ps,H P=some (.tbl ps)/\TriplesOk ps.toList /\
 (∀pos v,codeAmong pos ps.toList=some v->∃c o,v=.ref c/\H c=some (VX c o)/\Rx x o) /\
 ∀(H':Hp) (ps':Array Value) (f c:Addr) (o:Obj),(∀b u,b≠P->H b=some u->H' b=some u)->H f=none->H' P=some (.tbl ps')->TriplesOk ps'.toList ->
  (∀pos v,codeAmong pos ps'.toList=some v->∃c o,v=.ref c/\H' c=some (VX c o)/\Rx x o)->H' c=some (VX c o)->Rx x o->H' f=some (ZJ f c (x ++ ".<locals>.<lambda>") ar body sc cl)->Q (.ref f) H'
theorem uq(hcode:X.env.code=.ref c0)(hqual:X.env.qual ++ "<lambda>"=x ++ ".<locals>.<lambda>")(hC:W3 X.K c0 P=true)(hcl:closureFor sc X.env=pure cl) (hdef:defaultsOf ar X.env=([],[])):PE X (.Lambda ar body sc pos) (uV P x ar body sc cl):=by
 intro pins s σ H Q I ⟨ps,eP,tP,cP,h⟩;have hP:s.heap.get? P=some (Q6 ps):=(show ObjOk X.prog X.w H s.heap P (.tbl ps) from I.hok P _ eP);have C:=u9 I.kIn hC;have hg:=I.ok.mod.glob.keeps I.bk;obtain⟨bm,ob,b1,b2,b3,b4,b5,b6⟩:=I.ok.mod.bm;have b3':=I.bk _ _ b3;have hgP:mainGlobals≠P:=λq=>by obtain⟨o,es,ep,e,hd,_⟩:=hg;rw[q,hP]at e;cases e;cases hd
 have hbP:bm≠P:=λq=>by rw[q,hP]at b3';cases b3';cases b4
 have hbG:bm≠mainGlobals:=λq=>by obtain⟨o,es,ep,e,hd,_⟩:=hg;rw[q,e]at b3';cases b3';rw[hd]at b6;cases b6
 have hB:s.heap.BuiltinsAt X.mg P:=⟨bm,ob,b1,b2,hbG,hbP,b3',b4,b5,b6⟩;refine PySem.W.kla_eval hdef ?_;rw[hqual];cases ec:codeAmong pos ps.toList with
 |some v =>
  obtain⟨c,o,rfl,hc,q⟩:=cP pos v ec;refine PySem.W.kla_makeFunctionHit (mg:=X.mg) hcl I.ok.glob hg hcode C hP tP ec hB λctv h' tk k hsz=>?_;have hf:H h'.objs.size=none:=I.hok.fresh hsz;have old:∀b u,H b=some u->upd H h'.objs.size (ZJ h'.objs.size c (x ++ ".<locals>.<lambda>") ar body sc cl) b=some u:=λb u e=>by rw[iQ<|qQ e hf];exact e
  refine⟨.ref _,_,I.laid (a:=h'.objs.size) (o:=ZJ h'.objs.size c (x ++ ".<locals>.<lambda>") ar body sc cl) (λb u e=>u0 _<|k b u e) hsz<|rq<|T0 _ rfl,rfl,?_⟩;refine h _ ps _ c o (λb u _ e=>old b u e) hf (old _ _ eP) tP (λpos v e=>?_) (old _ _ hc) q uQ;obtain⟨c,o,e1,e2,e3⟩:=cP pos v e;exact⟨c,o,e1,old _ _ e2,e3⟩
 |none =>
  refine PySem.W.kla_makeFunction (mg:=X.mg) hcl I.ok.glob hg hcode C hP tP ec hgP hB λc ctv h' tk hx hge hlt hrec htb=>?_;obtain⟨c₂,oc,vs,t,e2,hoc,hd,hv⟩:=hrec;cases e2;have hsz:s.heap.objs.size<=h'.objs.size:=U4<|X2 hge hlt;have hc:H c=none:=I.hok.fresh hge;have hf:H h'.objs.size=none:=I.hok.fresh hsz;have ePc:P≠c:=qQ eP hc;have ePf:P≠h'.objs.size:=qQ eP hf;have ecf:c≠h'.objs.size:=V0 hlt;have old:∀b u,b≠P->H b=some u->upd (upd (upd H P<|.tbl<|ps++#[rawInt pos.line,rawInt pos.col,.ref c]) c<|VX c oc) h'.objs.size (ZJ h'.objs.size c (x ++ ".<locals>.<lambda>") ar body sc cl) b=some u:=λb u n e=>by rw[iQ<|qQ e hf,iQ<|qQ e hc,iQ n];exact e
  have newP:upd (upd (upd H P<|.tbl<|ps++#[rawInt pos.line,rawInt pos.col,.ref c]) c<|VX c oc) h'.objs.size (ZJ h'.objs.size c (x ++ ".<locals>.<lambda>") ar body sc cl) P=some (.tbl<|ps++#[rawInt pos.line,rawInt pos.col,.ref c]):=by rw[iQ ePf,iQ ePc,uQ]
  have newC:upd (upd (upd H P<|.tbl<|ps++#[rawInt pos.line,rawInt pos.col,.ref c]) c<|VX c oc) h'.objs.size (ZJ h'.objs.size c (x ++ ".<locals>.<lambda>") ar body sc cl) c=some (VX c oc):=by rw[iQ ecf,uQ]
  generalize hH:upd (upd (upd H P<|.tbl<|ps++#[rawInt pos.line,rawInt pos.col,.ref c]) c<|VX c oc) h'.objs.size (ZJ h'.objs.size c (x ++ ".<locals>.<lambda>") ar body sc cl)=H' at old newP newC;have newF:H' h'.objs.size=some (ZJ h'.objs.size c (x ++ ".<locals>.<lambda>") ar body sc cl):=by rw[<-hH,uQ]
  have kp:∀b u,b≠P->s.heap.get? b=some u->(h'.push<|Q5 "<lambda>" (x ++ ".<locals>.<lambda>") ar body sc cl ((X.mg "__name__").getD .none) c ctv).get? b=some u:=λb u n e=>u0 _<|hx b u n e;have nP:∀b,H b=none->b≠P:=λb n e=>by rw[e,eP]at n;cases n
  have un:Un X.fs [] H H' s.heap (h'.push<|Q5 "<lambda>" (x ++ ".<locals>.<lambda>") ar body sc cl ((X.mg "__name__").getD .none) c ctv):=by
   refine⟨λb o e n _ _=>kp b o (nP b n) e,λb o e n _ _=>⟨o.slots,kp b o (nP b n) e⟩,λb o e n _=>?_,λb o e _=>?_,λb xs e=>old b _ (λz=>by rw[z,eP]at e;cases e) e,λb o u e=>old b _ (λz=>by rw[z,eP]at e;cases e) e,λb qs e=>?_⟩
   .have lt:=U0 e;rw[<-hH,iQ<|V0<|Q0 lt hsz,iQ<|V0<|Q0 lt hge,iQ<|nP b n];exact n
   .by_cases z:b=P
    .subst z;exact⟨_,u0 _ htb⟩
    .exact⟨_,kp b o z e⟩
   .by_cases z:b=P
    .subst z;rw[eP]at e;cases e;exact⟨_,newP⟩
    .exact⟨#[],by rw[old b _ z e];simp⟩
  have hok:HOk X.prog X.w H' (h'.push<|Q5 "<lambda>" (x ++ ".<locals>.<lambda>") ar body sc cl ((X.mg "__name__").getD .none) c ctv):=λb u e=>by
   by_cases zf:b=h'.objs.size
   .subst zf;rw[newF]at e;cases e;exact rq<|T0 _ rfl
   by_cases zc:b=c
   .subst zc;rw[newC]at e;cases e;have e1:=u0 (Q5 "<lambda>" (x ++ ".<locals>.<lambda>") ar body sc cl ((X.mg "__name__").getD .none) b ctv) hoc;exact⟨e1,⟨_,e1⟩,⟨_,e1⟩,λh1 h2 ⟨o,e1⟩ k=>⟨o,k _ e1⟩⟩
   by_cases zp:b=P
   .subst zp;rw[newP]at e;cases e;exact u0 _ htb
   have e:H b=some u:=by rw[<-hH,iQ zf,iQ zc,iQ zp]at e;exact e
   refine(I.hok b u e).stay (λd v hd q=>kp d v (λz=>?_) q) (λd q=>old d _ (λz=>by rw[z,eP]at q;cases q) q) λd xs q=>old d _ (λz=>by rw[z,eP]at q;cases q) q;rcases hd with hd|hd
   .exact zp (hd.symm.trans z)
   .rw[z,eP]at hd;cases hd
  refine⟨.ref _,H',I.un un hok,rfl,h H' _ _ c oc old hf newP (by rw[v9];exact TriplesOk_snoc _ _ _ _ tP) (λpos' v e=>?_) newC ⟨vs,t,hd,hv⟩ newF⟩;rw[v9]at e;rcases KF _ tP e with e|e
  .obtain⟨c1,o,e1,e2,e3⟩:=cP pos' v e;exact⟨c1,o,e1,old _ _ (λz=>by rw[z,eP]at e2;cases e2) e2,e3⟩
  .exact⟨c,oc,e,newC,⟨vs,t,hd,hv⟩⟩
def iw(sp:Sp)(cl:List (Str×Addr))(is:List Nat)(t:TA):TE:=λσ H Q=>∃ws:List V,(∀(j i:Nat) (v:V),is[j]?=some i->ws[j]?=some v->σ[i]?=some (some v))/\is.length=ws.length/\t σ H λvs H1=>(∀c∈cl.map (·.2),H1 c=none)->∀os:Addr->Obj,Paired (λp v=>∃u,(os p.2).data=.cell (some u)/\RelV v u) cl ws->sp vs (fw (cl.map (·.2)) os H1) (λv H2=>Q v (del (cl.map (·.2)) H2)) E0
theorem vq{F:α->β->Prop}:∀{l₁:List α}{l₂:List β},l₁.length=l₂.length->(∀(j:Nat) a b,l₁[j]?=some a->l₂[j]?=some b->F a b)->Paired F l₁ l₂
 |[],[],_,_=>.nil
 |a::l₁,b::l₂,hl,h=>.cons (h 0 a b rfl rfl) (vq (by simpa using hl) λj a b e1 e2=>h (j+1) a b (by simpa using e1)<|by simpa using e2)
theorem jw{k:Nat}{x:Str}{ps:List Str}{sp:Sp}{p pos:Pos}{e:Expr}{es:List Expr}{t:TA}{is:List Nat}(C:Cal X.prog X.w X.K X.mg X.base k x ps sp)(hr:Room k X.A)(ha:PA X (e::es) t)
  (hcl:∀q∈cl,X.env.cells.lookup q.1=some q.2) (hk:∀q∈cl,X.env.kindOf q.1=some .cell) (hfn:∀x,X.fn x=true) (hex:X.ex=[]) (hi:is.map (λi=>X.N[i]?)=cl.map λq=>some q.1) (hg:Gl X x:=by rfl)
  (hdb:(x==("__debug__":Str))=false:=by decide) (he:starEach (e::es) X.env=(false,eval e X.env)::starEach es X.env:=by rfl) (hpl:(backTo pos<|starEach es X.env).any (·.1)=false:=by rfl) :
  PE X (.Call (.Name x p) (e::es) [] pos) (iw sp cl is t):=by
 obtain⟨f,fd,F,hm,hkp,hb⟩:=C.ex;intro pins s σ H Q I ⟨ws,hws,hlen,h⟩;have hil:is.length=cl.length:=by have:=congrArg A4 hi;simpa using this
 refine wpAny_Call_Name_kw<|vJ I hg hm ?_ hdb;refine Y4 (h₀:=X.base) I.ok.mod.kin hkp (vX (ha pos pins s σ H _ I h) λus s1 ⟨vs,H1,I1,r,q⟩=>⟨I1.kIn,?_⟩) he hpl;have mem:∀c∈cl.map (·.2),∃x,X.env.cells.lookup x=some c/\X.env.kindOf x=some .cell:=λc hc=>by obtain⟨q,hq,rfl⟩:=S0.mp hc;exact⟨q.1,hcl q hq,hk q hq⟩
 have hn:∀c∈cl.map (·.2),H1 c=none:=λc hc=>by obtain⟨x,e,_⟩:=mem c hc;exact I1.freeC x c e
 have above:∀c∈cl.map (·.2),X.s₀.heap.objs.size<=c:=λc hc=>by obtain⟨x,e,_⟩:=mem c hc;exact I1.ok.cab x c (hfn x) e
 have hfs:∀c∈cl.map (·.2),c∉TZ X.stack:=λc hc z=>by
  obtain⟨x,e,_⟩:=mem c hc;rcases P0.mp (I1.stkSub c z) with z|z
  .exact I1.cne x c e z
  .obtain⟨_,o,ho,_⟩:=I1.ok.funs.mem z;exact absurd (Q0 (U0 ho)<|above c hc)<|T2 _
 have ho:∀c∈cl.map (·.2),s1.heap.get? c=some ((s1.heap.get? c).getD {cls:=.none,data:=.plain}):=λc hc=>by obtain⟨x,e,_⟩:=mem c hc;obtain⟨v,o,h1,_⟩:=I1.cell x c e;rw[h1];rfl
 have hp:Paired (λ(p:Str×Addr) v=>∃u,((s1.heap.get? p.2).getD {cls:=.none,data:=.plain}).data=.cell (some u)/\RelV v u) cl ws:=vq (by lia) λj q v h1 h2=>by
  have hq:=U1 h1;obtain⟨i,e1⟩:∃i,is[j]?=some i:=by
   have hj:j<is.length:=by rw[hil];exact(Q1.mp h1).1
   exact⟨_,R0 hj⟩
  have e2:X.N[i]?=some q.1:=by have:=congrArg (λl=>l[j]?) hi;simp only[E1,e1,h1,Q4]at this;exact W1 this
  obtain⟨m,_,hl⟩:=I1.loc;obtain⟨u,ru,lk⟩:=hl i q.1 v e2 (hws j i v e1 h2)<|.inr<|.inl<|hk q hq;rcases lk with⟨z,_⟩|⟨_,c,e3,o,e4,e5⟩
  .rw[hk q hq]at z;cases z
  .rw[hcl q hq]at e3;cases e3;exact⟨u,by rw[e4];exact e5,ru⟩
 have h2:=q hn (λc=>(s1.heap.get? c).getD {cls:=.none,data:=.plain}) hp;have e0:=I1.env0;have e1:Env0 X.prog X.w X.K X.mg X.base X.A X.stack s1 (fw (cl.map (·.2)) (λc=>(s1.heap.get? c).getD {cls:=.none,data:=.plain}) H1) :=
  ⟨e0.frames,e0.mod,λb o eb=>⟨(e0.bs b o eb).1,by
    have nb:b∉cl.map (·.2):=λz=>absurd (Q0 (U0 eb)<|T1 I1.ok.bsz<|above b z)<|T2 _;rw[fX nb];exact(e0.bs b o eb).2⟩,e0.bsz,e0.funs,λb hb=>by
    rw[fX λz=>hfs b z hb];exact e0.frf b hb,Zu e0.hok hn ho,e0.bare⟩;have hl:us.length=ps.length:=by rw[<-r.length];exact F.len _ _ _ _ h2
 refine wpAny_call<|codeAny_mono (F.run X.A X.stack s1 _ ⟨us,[]⟩ us vs _ E0 hr e1 (by have:=hb s1 us I1.kIn (by rw[L1];exact hl);rw[L1]at this;exact this) r h2) λr s' hq=>?_;cases r with
 |error e=>exact False.elim hq
 |ok fl =>
  cases fl with
  |ret u=>obtain⟨v,H',os,bare,un,hok,rv,q⟩:=(show CE X.stack X.prog X.w _ s1 _ u s' from hq);exact I1.after ⟨v,_,os,bare,ZL hn ho hfs un hok,hok.del<|λc hc=>⟨_,un.frzs c _ _<|sV hc⟩,rv,q⟩
  |next=>exact False.elim hq
  |brk=>exact False.elim hq
  |cont=>exact False.elim hq
structure VOk(P:Program)(w:World)(K:Fg)(mg:Str->Option Value)(base:Heap)(k:Nat)(sp:Sp):Prop where
 fn:∀v vs H Q,sp (v::vs) H Q E0->∃f c qual ar body sc cl,v=.ref f/\H f=some (ZJ f c qual ar body sc cl)
 run:∀(A:Around) (outer:List Env) (s:Shared) (H:Hp) (f:Addr) (us:List Value) (vs:List V) (Q:VK),Room k A->Env0 P w K mg base A outer s H->Vals vs us->sp (.ref f::vs) H Q E0 ->
  codeAny (model P w) A (.call (.ref f) ⟨us,[]⟩) (CR OX outer P w H s Q E0) s
theorem kw{k i:Nat}{x:Str}{sp:Sp}{p pos:Pos}{e:Expr}{es:List Expr}{t:TA}(V:VOk X.prog X.w X.K X.mg X.base k sp)(hr:Room k X.A)(hx:PE X (.Name x p) (uJ i))(ha:PA X (e::es) t)
  (he:starEach (e::es) X.env=(false,eval e X.env)::starEach es X.env:=by rfl) (hpl:(backTo pos<|starEach es X.env).any (·.1)=false:=by rfl) :
  PE X (.Call (.Name x p) (e::es) [] pos) (cY sp [] E0<|MW (uJ i) t):=by
 intro pins s σ H Q I h;obtain⟨v,hv,h⟩:=(show ∃v,σ[i]?=some (some v)/\t σ H λvs H1=>sp (v::vs++[]) H1 Q E0 from h);refine wpAny_Call_Name_kw<|vX (hx pins s σ H (λv' H1=>v'=v/\H1=H) I ⟨v,hv,rfl,rfl⟩) λu s1 ⟨v',H1,I1,ru,q⟩=>?_;obtain⟨rfl,rfl⟩:=q;show wpAny (model X.prog X.w) X.A (callWith pos u [] (backTo pos<|starEach (e::es) X.env) []) (EP X pins σ Q) X.xe s1;rw[he];refine PySem.W.callWith_of (P:=λh=>∃o fd f,u=.ref f/\h.get? f=some o/\o.data=.func fd) (by show ((false||(backTo pos<|starEach es X.env).any (·.1))||false)=false;rw[hpl];rfl) (λh ⟨o,fd,f,e1,e2,e3⟩=>?_)<|PySem.Calls.evalArgs_plain ?_
 .subst e1;refine⟨.frame,.inl rfl,(PySem.W.Looks.ld (part:=none) e2).andThen ?_⟩;rw[e3];exact .now
 .have ha:=ha pos pins s1 σ H1 _ I1 h;rw[he]at ha;refine vX ha λus s2 ⟨vs,H2,I2,r,q⟩=>?_;have q:sp (v'::vs++[]) H2 Q E0:=q;rw[L1]at q;obtain⟨f,c,qual,ar,body,sc,cl,rfl,hf⟩:=V.fn _ _ _ _ q;cases ru;obtain⟨⟨pm,ctv,ho⟩,_⟩:=(show ObjOk X.prog X.w H2 s2.heap f (ZJ f c qual ar body sc cl) from I2.hok f _ hf);refine⟨⟨_,_,f,rfl,ho,rfl⟩,?_⟩;refine wpAny_call<|codeAny_mono (V.run X.A X.stack s2 H2 f us vs Q hr I2.env0 r q) λr s' hq=>?_;cases r with
  |error e=>exact False.elim hq
  |ok fl =>
   cases fl with
   |ret u=>exact I2.after hq
   |next=>exact False.elim hq
   |brk=>exact False.elim hq
   |cont=>exact False.elim hq
def aM(ρ:Ev)(is:List Nat)(es:List D):Prop:=is.map (λi=>ρ[i]?)=es.map λd=>some<|some<|Sl.fz d
def lw(con:Con)(x:Str)(as:List AD)(is:List Nat):TD:=λρ Q=>∃es:List D,aM ρ is es/\JX as ρ λxs ρ1=>kX ρ1 xs=false/\TQ ρ1 xs λds=>con ((ds++[mF x es]).map Sl.fz) λr _=>noMut r.d=true/\Q r ρ1
section
variable {K:Fg}{G:Gh}{F F':Hp}{σ:L2.St}
theorem iG{F G:α->β->Prop}:∀{l₁:List α}{l₂:List β},Paired F l₁ l₂->(∀a b,a∈l₁->F a b->G a b)->Paired G l₁ l₂
 |_,_,.nil,_=>.nil
 |_,_,.cons r t,f=>.cons (f _ _ L0 r)<|iG t λa b h q=>f a b (K0 _ h) q
theorem jG(R:Rel K G F σ H ρ):∀{is:List Nat}{es:List D},aM ρ is es->∃ws:List V,(∀(j i:Nat) (v:V),is[j]?=some i->ws[j]?=some v->σ[i]?=some (some v))/\is.length=ws.length/\DaAll K F ws es
 |[],[],_=>⟨[],λj i v e=>by simp at e,rfl,.nil⟩
 |[],_::_,h=>by cases h
 |_::_,[],h=>by cases h
 |i::is,d::es,h=>by
  unfold aM at h;rw[K1,K1]at h;injection h with h1 h2;obtain⟨v,e1,h1⟩:=R.fz i d h1;obtain⟨ws,g1,g2,g3⟩:=jG R (is:=is) (es:=es) h2;refine⟨v::ws,λj i' v' e e'=>?_,by simp[g2],.cons h1 g3⟩;cases j with
  |zero=>simp at e e';subst e;subst e';exact e1
  |succ j=>exact g1 j i' v' (by simpa using e) (by simpa using e')
theorem eW{t:TE}:∀{as:List AD}{H:Hp}{Q:List V->Hp->Prop},(rQ (as.map<|kQ K) σ H λvs H1=>t σ H1 λv H2=>Q (vs++[v]) H2)->rQ (as.map (kQ K)++[t]) σ H Q
 |[],_,_,h=>h
 |a::as,H,Q,h=>by have h:kQ K a σ H λv H1=>rQ (as.map<|kQ K) σ H1 λvs H2=>t σ H2 λu H3=>Q (v::vs++[u]) H3:=h;exact MK (a:=a) (λv H1 q=>eW (Q:=λvs H2=>Q (v::vs) H2) q) h
theorem W9{Q:VK}(hlam:uU K x=some (ar,body,sc))(hP:(P,x)∈TB K)(hPx:∀z∈TB K,z.1=P->z.2=x)(hfr:cl.map (·.1)=au sc) (ndc:(cl.map (·.2)).Nodup) (h:lift K (lw con x as is) σ H Q):iw (dQ K con) cl is (rQ<|as.map (kQ K)++[uV P x ar body sc cl]) σ H Q:=by
 obtain⟨G,F,ρ,Qd,R,⟨es,hes,w⟩,k⟩:=h;obtain⟨ws,hws,hlen,dws⟩:=jG R hes;refine⟨ws,hws,hlen,eW ?_⟩;refine wX R w λvs H1 F1 xs ρ1 s1 R1 o w1=>?_;obtain⟨hl,w1⟩:=w1;obtain⟨ds,da,w1⟩:=sZ (xs:=xs) R1 (λy hy=>hy) o w1;have el:YX σ ρ1 xs F1 H1=F1:=funext λb=>xZ λz=>by have:=MZ z;rw[hl]at this;cases this
 rw[el]at da;obtain⟨_,ps0,eP,tP,cP⟩:=R1.tb (P,x) hP;refine⟨ps0,eP,tP,cP,λH2 ps' f c o kp hf nP nT nC nc nq nf=>?_⟩;intro hn os hp;generalize hC:cl.map (·.2)=C at hn ndc;have nin:∀{b:Addr}{u:HO},H2 b=some u->b∉C:=λ{b u} e z=>by rw[hn b z]at e;cases e
 have su:Sub F1 H2:=λb o e=>kp b o (λz=>by rw[z,(R1.tb (P,x) hP).1]at e;cases e)<|R1.sub b o e;have ncf:c≠f:=λz=>by rw[z,nf]at nc;cases nc
 have tb2:TabOk K F1 H2:=λz hz=>by
  refine⟨(R1.tb z hz).1,?_⟩;by_cases zp:z.1=P
  .rw[zp,hPx z hz zp];exact⟨ps',nP,nT,nC⟩
  .obtain⟨_,qs,g1,g2,g3⟩:=R1.tb z hz;refine⟨qs,kp _ _ zp g1,g2,λpos v e=>?_⟩;obtain⟨c',o',h1,h2,h3⟩:=g3 pos v e;exact⟨c',o',h1,kp _ _ (λq=>by rw[q,eP]at h2;cases h2) h2,h3⟩
 obtain⟨F3,hF3⟩:∃F3,F3=fw C os (upd (upd F1 c<|VX c o) f<|ZJ f c (x ++ ".<locals>.<lambda>") ar body sc cl):=⟨_,rfl⟩;have f3C:∀{b:Addr},b∈C->F3 b=some (VX b<|os b):=λz=>by rw[hF3];exact sV z
 have f3f:F3 f=some (ZJ f c (x ++ ".<locals>.<lambda>") ar body sc cl):=by rw[hF3,fX<|nin nf,uQ]
 have f3c:F3 c=some (VX c o):=by rw[hF3,fX<|nin nc,iQ ncf,uQ]
 have f3o:∀{b:Addr},b∉C->b≠f->b≠c->F3 b=F1 b:=λz1 z2 z3=>by rw[hF3,fX z1,iQ z2,iQ z3]
 have f1f:F1 f=none:=R1.f0 hf;have f1c:∀{u:HO},F1 c=some u->u=VX c o:=λe=>by have:=su _ _ e;rw[nc]at this;exact(W1 this).symm
 have sb3:Sub F1 F3:=λb u e=>by
  by_cases z:b=f
  .rw[z,f1f]at e;cases e
  by_cases z2:b=c
  .subst z2;rw[f1c e];exact f3c
  .rw[f3o (nin<|su _ _ e) z z2];exact e
 have su3:Sub F3 (fw C os H2):=λb u e=>by
  by_cases z1:b∈C
  .rw[f3C z1]at e;rw[sV z1];exact e
  rw[fX z1];by_cases z:b=f
  .subst z;rw[f3f]at e;rw[nf];exact e
  by_cases z2:b=c
  .subst z2;rw[f3c]at e;rw[nc];exact e
  .rw[f3o z1 z z2]at e;exact su _ _ e
 have tn:∀z∈TB K,z.1≠f/\z.1≠c/\z.1∉C:=λz hz=>by obtain⟨_,qs,e,_⟩:=tb2 z hz;exact⟨λq=>(by rw[q,nf]at e;cases e),λq=>(by rw[q,nc]at e;cases e),nin e⟩
 have tb3:TabOk K F3 (fw C os H2):=tb2.up (λa u _ e=>by rw[fX<|nin e];exact e) λz hz=>by obtain⟨n1,n2,n3⟩:=tn z hz;rw[f3o n3 n1 n2];exact(tb2 z hz).1
 have lam:LamAt K F3 f x ws:=⟨c,o,ar,body,sc,cl,hlam,f3f,f3c,nq,hfr,by rw[hC];exact ndc,by
   have mem:∀p∈cl,p.2∈C:=λp hp=>by rw[<-hC];exact S0.mpr ⟨p,hp,rfl⟩
   exact iG hp λp v hm ⟨u,h1,h2⟩=>⟨os p.2,u,f3C<|mem p hm,h1,h2⟩⟩;have daA:DaAll K F3 (vs++[.ref f]) (ds++[mF x es]):=(da.mono sb3).append<|.cons (.lam lam<|dws.mono<|s1.trans sb3) .nil;refine⟨_,F3,_,_,zZ su3 tb3 daA,w1,λv H4 F4 r ρ' s' R' r' q=>?_⟩;obtain⟨nm,q⟩:=q;have h4C:∀{b:Addr},b∈C->H4 b=some (VX b<|os b):=λ{b} z=>R'.sub _ _<|R'.sub0 _ _<|f3C z;have kpp:∀{b:Addr}{u:HO},H2 b=some u->(∀z∈TB K,z.1≠b)->del C H4 b=some u:=λ{b u} e t=>by
  rw[yQ<|nin e];exact R'.keep b u (by show fw C os H2 b=some u;rw[fX<|nin e];exact e) (λi z=>by cases z) t
 have h12:∀{b:Addr},H2 b=none->H1 b=none:=λ{b} e=>by
  cases q:H1 b with
  |none=>rfl
  |some u =>
   by_cases z:b=P
   .rw[z,nP]at e;cases e
   .rw[kp b u z q]at e;cases e
 obtain⟨D,hD⟩:∃D:List Addr,D=if F1 c=none then c::C else C:=⟨_,rfl⟩;have inD:∀{b:Addr},b∈D->b∈C\/(b=c/\F1 c=none):=λ{b} z=>by
  rw[hD]at z;split at z
  .rename_i e;rcases P0.mp z with z|z
   .exact .inr ⟨z,e⟩
   .exact .inl z
  .exact .inl z
 have CD:∀{b:Addr},b∉D->b∉C/\(b=c->F1 c≠none):=λ{b} z=>by
  rw[hD]at z;split at z
  .exact⟨λy=>z<|K0 _ y,λy=>by rw[y]at z;exact(z L0).elim⟩
  .rename_i e;exact⟨z,λ_=>e⟩
 have sb:Sub F1 (del D F4):=λb u e=>by
  have nb:b∉D:=λz=>by
   rcases inD z with z|⟨z,z2⟩
   .exact nin (su _ _ e) z
   .rw[z,z2]at e;cases e
  rw[yQ nb];exact R'.sub0 _ _<|sb3 _ _ e
 refine k v (del C H4) (del D F4) r ρ1 (s1.trans sb) (R1.grown sb (λb u e=>?_) (λb u e=>?_) (λb u t e=>?_) λz hz=>?_) ?_ q
 .obtain⟨nb,e⟩:=CY e;rw[yQ (CD nb).1];exact R'.sub _ _ e
 .obtain⟨nb,e⟩:=CY e;obtain⟨n1,n2⟩:=CD nb;rcases R'.fn b u e with z|z
  .have z:F3 b=some u:=z;by_cases zf:b=f
   .exact .inr (by rw[zf];exact hf)
   by_cases zc:b=c
   .subst zc;cases e1:F1 b with
    |none=>exact(n2 rfl e1).elim
    |some u'=>rw[f3c]at z;rw[f1c e1];exact .inl z
   .rw[f3o n1 zf zc]at z;exact .inl z
  .have z:fw C os H2 b=none:=z;rw[fX n1]at z;exact .inr<|h12 z
 .exact kpp (kp b u (S2<|t (P,x) hP) e) t
 .obtain⟨g0,qs,g1,g2,g3⟩:=R'.tb z hz;obtain⟨n1,n2,n3⟩:=tn z hz;refine⟨?_,qs,by rw[yQ n3];exact g1,g2,λpos v e=>?_⟩
  .by_cases y:z.1∈D
   .exact mY y
   .rw[yQ y];exact g0
  .obtain⟨c',o',h1,h2,h3⟩:=g3 pos v e;have nc':c'∉C:=λy=>by
    have y2:=y;rw[<-hC]at y2;obtain⟨p,hpm,rfl⟩:=S0.mp y2;obtain⟨v',u',e1,_⟩:=BZ hp hpm;rw[h4C y]at h2;have:os p.2=o':=by injection h2 with h2;injection h2
    obtain⟨vs',t',e2,_⟩:=h3;rw[<-this,e1]at e2;cases e2
   exact⟨c',o',h1,by rw[yQ nc'];exact h2,h3⟩
 .cases r with
  |io d=>exact r'.elim
  |ow d=>obtain⟨a,u,_,_,_,y,_⟩:=r';rw[show (Sl.ow d).d=d from rfl,YY y]at nm;cases nm
  |fz d =>
   refine Da.noMut (F:=F4) (λb ys e=>?_) r' nm;have nb:b∉D:=λz=>by
    rcases inD z with z|⟨z,_⟩
    .have:=R'.sub0 _ _<|f3C z;rw[e]at this;cases this
    .have:=R'.sub0 _ _ f3c;rw[<-z,e]at this;cases this
   rw[yQ nb];exact e
end
end L3
namespace L2
theorem MF{code:Value}{Q:Env->Shared->Prop}(hk:sc.kind=.function) (hy:sc.names.lookup y=some .cell) (hcf:∀n acc,cellsFrom n sc.names acc=(y,n)::acc) (hpc:∀h,pushCells h sc.names=h.push {cls:=.type "cell",data:=.cell none})(hQ:∀h' tk,h'.Ns s.heap.objs.size (λ_=>none)->h'.IsCell (s.heap.objs.size+1) (some u)->(∀b o,s.heap.get? b=some o->h'.get? b=some o) -> Q (newEnv sc s.heap.objs.size globals ((y,s.heap.objs.size+1)::cl) qual func code none builtins) {s with heap:=h',toks:=tk}):wpAny M A (newFunctionEnv sc globals cl [(y,u)] qual func code none builtins) Q E s:=by
 simp only[newFunctionEnv,Option.isSome_none,j5,if_false];refine wpAny_bind<|wpAny_alloc ?_;refine wpAny_bind<|wpAny_layCells _ (λname kind cells=>by cases hkc:kind==NameKind.cell<;>simp[hkc]) _ _ _ _ ?_;rw[hcf,hpc];have e1:(s.heap.push {cls:=.type "frame",data:=.dict #[]}).objs.size=s.heap.objs.size+1:=O2 ..;have hn:((s.heap.push {cls:=.type "frame",data:=.dict #[]}).push {cls:=.type "cell",data:=.cell none}).Ns s.heap.objs.size (λ_=>none):=(Heap.Ns.new s.heap<|.type "frame").keeps λb o e=>u0 _ e;have hc:((s.heap.push {cls:=.type "frame",data:=.dict #[]}).push {cls:=.type "cell",data:=.cell none}).IsCell (s.heap.objs.size+1) none:=⟨_,by rw[<-e1];exact T0 _ rfl,rfl⟩;have kp:∀b o,s.heap.get? b=some o->((s.heap.push {cls:=.type "frame",data:=.dict #[]}).push {cls:=.type "cell",data:=.cell none}).get? b=some o:=λb o e=>u0 _<|u0 _ e;rw[J6];refine wpAny_bind<|wpAny_bind<|wpAny_bind<|wpAny_storeName_cell (c:=s.heap.objs.size+1) hk (show (newEnv sc s.heap.objs.size globals ((y,(s.heap.push {cls:=.type "frame",data:=.dict #[]}).objs.size)::cl) qual func code none builtins).kindOf y=some .cell from hy) (by rw[e1];simp) hc λh' hc' hs'=>?_;refine wpAny_pure ?_;dsimp only;rw[P6];refine wpAny_pure<|wpAny_pure ?_;rw[e1];exact hQ h' _ (hn.sameBut hs'<|V0<|V3 _) hc' λb o e=>by rw[hs'.2 b<|V0<|B8 (U0 e)<|V3 _];exact kp b o e
end L2
namespace L3
open L2
structure LamSd(y:Str)(fr:List Str)(sc:Scope):Prop where
 kind:sc.kind=.function
 co:sc.isCoroutine=false
 gen:sc.isGenerator=false
 cell:sc.names.lookup y=some .cell
 only:∀z∈sc.names,z.2=.cell->z.1=y
 has:∀z∈sc.names,z.2=.free->z.1∈fr
 fre:∀x∈fr,sc.names.lookup x=some .free
 nd:fr.Nodup
 ny:y∉fr
 cf:∀n acc,cellsFrom n sc.names acc=(y,n)::acc
 pc:∀h,pushCells h sc.names=h.push {cls:=.type "cell",data:=.cell none}
theorem mw{K:Fg}{fr:List Str}{Q:VK} (S:LamSd y fr sc) (hcl:cl.map (·.1)=fr) (ndc:(cl.map (·.2)).Nodup) (hr:Room (k+1) A) (e0:Env0 P w K mg base A outer s H) (hf:H f=some (ZJ f c qual ar body sc cl)) (hc:H c=some (VX c oc))(hq:∃vs t,oc.data=.fields vs/\vs[1]?=some (.str qual t)) (hcel:Paired (CelAt H) cl ws)(hb:∀(pm ctv u:Value),bindArgs (Z8 "<lambda>" qual ar body sc cl pm (.ref c) ctv) ⟨[u],[]⟩=pure [(y,u)]) (r:RelV v u)(hbody:Room k (A.deeper<|mj qual sc ((y,s.heap.objs.size+1)::cl) s.heap.objs.size f<|.ref c)->∃t:TE,PE (MO P w K mg base (y::fr) qual sc ((y,s.heap.objs.size+1)::cl) f (.ref c) A outer s (del (cl.map (·.2)) H)) body t /\ t ((v::ws).map some) (del (cl.map (·.2)) H) λv H'=>(∀c∈cl.map (·.2),H' c=none)->Q v (put (cl.map (·.2)) H H')):codeAny (model P w) A (.call (.ref f) ⟨[u],[]⟩) (CR OX outer P w H s Q E0) s:=by
 obtain⟨⟨pm,ctv,ho⟩,_⟩:=(show ObjOk P w H s.heap f (ZJ f c qual ar body sc cl) from e0.hok f _ hf);obtain⟨hoc,_⟩:=(show ObjOk P w H s.heap c (VX c oc) from e0.hok c _ hc);obtain⟨vs',t',hd,hv⟩:=hq;have lim:s.heap.NoLimit:=e0.mod.nolimit.keeps λb o e=>(e0.bs b o e).1;have hC:Cels (cl.map (·.2)) H:=λb hb=>by obtain⟨p,hp,rfl⟩:=S0.mp hb;obtain⟨v,o,u,e,_⟩:=BZ hcel hp;exact⟨o,e⟩
 have hfs:∀c∈cl.map (·.2),c∉TZ outer:=λc hc z=>by obtain⟨o,e⟩:=hC c hc;rw[e0.frf c z]at e;cases e
 have obj:∀{p:Str×Addr}{w:V},CelAt H p w->∃u,RelV w u/\s.heap.IsCell p.2 (some u):=λ{p w'} ⟨o,u,e,hd,r⟩=>by obtain⟨ho,_⟩:=(show ObjOk P w H s.heap p.2 (VX p.2 o) from e0.hok _ _ e);exact⟨u,r,o,ho,hd⟩
 refine b9 hr.depth ho rfl S.co S.gen rfl ⟨c,oc,vs',t',rfl,hoc,hd,hv⟩ ?_;rw[hb pm ctv u];refine wpAny_pure<|MF S.kind S.cell S.cf S.pc λh' tk hns hce kp=>?_;refine⟨lim.keeps kp,h9 ?_⟩;obtain⟨t,ht,hq⟩:=hbody<|hr.deeper _;have nd1:(cl.map (·.1)).Nodup:=by rw[hcl];exact S.nd
 have lk:∀{x:Str}{c:Addr},x∈fr->cl.lookup x=some c->((y,s.heap.objs.size+1)::cl).lookup x=some c:=λ{x c} hx h=>by rw[P2,show (x==y)=false from beq_eq_false_iff_ne.mpr λe=>S.ny<|by rw[<-e];exact hx];exact h
 have small:∀c∈cl.map (·.2),c<s.heap.objs.size:=λc hc=>by obtain⟨o,e⟩:=hC c hc;exact e0.hok.lt e
 have ndc':(((y,s.heap.objs.size+1)::cl).map (·.2)).Nodup:=by rw[K1,S3];exact⟨λz=>absurd (small _ z)<|Nat.not_lt_of_le<|B4 _,ndc⟩
 have noA:∀b:Addr,b∉([]:List Addr):=λb z=>by cases z
 have I:Inv (MO P w K mg base (y::fr) qual sc ((y,s.heap.objs.size+1)::cl) f (.ref c) A outer s (del (cl.map (·.2)) H)) [] ((v::ws).map some) (del (cl.map (·.2)) H) {s with heap:=h',toks:=tk}:=by
  refine⟨⟨e0.mod,S.kind,rfl,rfl,O0 _,λx z c h1 h2=>tV ndc' (PySem.mem_of_lookup h1)<|PySem.mem_of_lookup h2,λx hx=>?_,λx c z _=>(by cases z),λ_=>hr.hd,Around.frames_deeper e0.frames,.inr ⟨rfl,rfl⟩,λb z=>absurd z<|noA b,λb o e=>⟨(e0.bs b o e).1,?_⟩,e0.bsz,λb _ _=>noA b,λb z=>absurd z<|noA b,e0.funs,λb hb=>?_⟩,
    rfl,e0.bare,Un.kept kp,⟨_,hns,λi x v' h1 h2 h3=>?_⟩,λx c h=>?_,?_,λx c h=>?_,λp hp=>absurd (show p∈([]:List (Addr×Obj)) from hp)<|by simp,(e0.hok.del hC).kept kp,?_⟩
  .have hx:sc.names.lookup x=some .cell\/sc.names.lookup x=some .free:=hx;rcases hx with hx|hx
   .have e:x=y:=S.only _ (PySem.mem_of_lookup hx) rfl;exact⟨s.heap.objs.size+1,by show ((y,s.heap.objs.size+1)::cl).lookup x=_;rw[e];simp⟩
   .have:=S.has _ (PySem.mem_of_lookup hx) rfl;have hxf:=this;rw[<-hcl]at this;obtain⟨p,hp,e⟩:=S0.mp this;have e:p.1=x:=e;exact⟨p.2,lk hxf<|EK nd1<|by rw[<-e];exact hp⟩
  .show del _ H b=none;rw[yQ<|hC.nn (e0.bs b o e).2];exact(e0.bs b o e).2
  .show del _ H b=none;rw[yQ<|hC.nn<|e0.frf b hb];exact e0.frf b hb
  .cases i with
   |zero=>cases h1;cases h2;exact⟨u,r,.inr ⟨.inl S.cell,s.heap.objs.size+1,by show ((y,s.heap.objs.size+1)::cl).lookup y=_;simp,hce⟩⟩
   |succ i =>
    have h1:fr[i]?=some x:=h1;have h2:(ws.map some)[i]?=some (some v'):=h2;have h2:ws[i]?=some v':=by
     rw[E1]at h2;cases e:ws[i]? with
     |none=>rw[e]at h2;cases h2
     |some a=>rw[e]at h2;cases h2;rfl
    obtain⟨p,hp,hce⟩:=fH hcel h2;rw[<-hcl,E1,hp]at h1;cases h1;obtain⟨u',ru,hi⟩:=obj hce;exact⟨u',ru,.inr ⟨.inr (S.fre p.1<|by rw[<-hcl];exact S0.mpr ⟨p,U1 hp,rfl⟩),p.2,lk (by rw[<-hcl];exact S0.mpr ⟨p,U1 hp,rfl⟩)<|EK nd1<|U1 hp,hi.keeps kp⟩⟩
  .rcases P0.mp (PySem.mem_of_lookup<|show ((y,s.heap.objs.size+1)::cl).lookup x=some c from h) with z|z
   .cases z;exact⟨_,hce⟩
   .obtain⟨w',hce'⟩:=BZ hcel z;obtain⟨u',_,hi⟩:=obj hce';exact⟨_,hi.keeps kp⟩
  .exact(e0.hok.del hC).fresh (O0 _)
  .rcases P0.mp (PySem.mem_of_lookup<|show ((y,s.heap.objs.size+1)::cl).lookup x=some c from h) with z|z
   .cases z;exact(e0.hok.del hC).fresh<|B4 _
   .exact mY (S0.mpr ⟨(x,c),z,rfl⟩)
  .show (W5 some (v::ws)).length=(y::fr).length;have:=hcel.length;rw[B0,Y1,Y1,<-hcl,B0,this]
 refine wpAny_mono (ht [] _ _ _ _ I hq) (λu s' ⟨v,H',J,rv,q⟩=>?_) λe s' hs=>hs.elim;have un:Un (TZ outer) [] (del (cl.map (·.2)) H) H' s.heap s'.heap:=J.base;exact⟨v,put (cl.map (·.2)) H H',J.os,J.bare,dw e0.hok hC un,pq e0.hok hC hfs un J.hok,rv,q<|rV e0.hok hC un⟩
theorem wq(k:EQ)(b:Bool):DJ k≠.bool b:=by cases k<;>(intro z;cases z)
theorem Da.lam_inv{K:Fg}{F:Hp}{v:V}{x:Str}{es:List D}:∀{d:D},Da K F v d->d=mF x es->∃f ws,v=.ref f/\LamAt K F f x ws/\DaAll K F ws es
 |_,.non,e=>by cases e
 |_,.bl _,e=>by cases e
 |_,.int _,e=>by cases e
 |_,.str _,e=>by cases e
 |_,.lst _ _,e=>by cases e
 |_,.tup _ _,e=>by cases e
 |_,.dk _ t,e=>by
  cases t with
  |nil=>injection e with e;cases e
  |cons _ _=>injection e with e;injection e with e _;injection e with e _;exact(wq _ _ e).elim
 |_,.dt _ t,e=>by
  cases t with
  |nil=>injection e with e;cases e
  |cons _ _=>injection e with e;injection e with e _;injection e with e _;cases e
 |_,.scr _,e=>by injection e with e;injection e with e _;injection e with e _;cases e
 |_,.exc _,e=>by injection e with e;injection e with e _;injection e with _ e;cases e
 |_,.opq _,e=>by injection e with e;injection e with e _;injection e with e _;cases e
 |_,.pd _ _,e=>by injection e with e;injection e with e _;injection e with e _;cases e
 |_,.bd _ _,e=>by injection e with e;injection e with e _;injection e with e _;cases e
 |_,.fn,e=>by injection e with e;injection e with e _;injection e with _ e;cases e
 |_,.lam h t,e=>by injection e with e;injection e with e _;injection e with _ e;injection e with e;injection e with e1 e2;injection e1 with e1;subst e1;subst e2;exact⟨_,_,rfl,h,t⟩
def bM(tab:Str->Option TD):Con:=λargs Q=>∃x es d tb,args=[.fz<|mF x es,.fz d]/\tab x=some tb/\noMut d=true/\noMutAll es=true/\tb (((d::es).map Sl.fz).map some) λr _=>noMut r.d=true/\∀o,Q r o
structure LamK(P:Program)(w:World)(K:Fg)(mg:Str->Option Value)(base:Heap)(k:Nat)(x:Str)(tb:TD):Prop where
 ex:∃y fr ar body sc,uU K x=some (ar,body,sc)/\au sc=fr/\(LamSc y fr sc\/LamSd y fr sc) /\
  (∀(cl:List (Str×Addr)) (pm ctv:Value) (c:Addr) (u:Value),bindArgs (Z8 "<lambda>" (x ++ ".<locals>.<lambda>") ar body sc cl pm (.ref c) ctv) ⟨[u],[]⟩=pure [(y,u)]) /\
  ∀(cl:List (Str×Addr)) (f c:Addr) (A:Around) (outer:List Env) (s:Shared) (H:Hp),Room k (A.deeper<|mj (x ++ ".<locals>.<lambda>") sc cl s.heap.objs.size f<|.ref c) ->
   WE (MO P w K mg base (y::fr) (x ++ ".<locals>.<lambda>") sc cl f (.ref c) A outer s H) body (lift K tb)
theorem HR{K:Fg}(h:∀x tb,tab x=some tb->LamK P w K mg base k x tb):VOk P w K mg base (k+1) (dQ K<|bM tab):=by
 refine⟨λv vs H Q ⟨G,F,args,Qd,R,⟨x,es,d,tb,ha,_⟩,_⟩=>?_,λA outer s H f us vs Q hr e0 rv hsp=>?_⟩
 .subst ha;obtain⟨v',e,da⟩:=R.fz 0 _ rfl;cases e;obtain⟨f,ws,rfl,⟨c,o,ar,body,sc,cl,_,h2,_⟩,_⟩:=da.lam_inv rfl;exact⟨f,c,_,ar,body,sc,cl,rfl,R.sub _ _ h2⟩
 .obtain⟨G,F,args,Qd,R,⟨x,es,d,tb,ha,htab,nd,nes,wt⟩,kk⟩:=hsp;subst ha;obtain⟨v,rfl⟩:∃v,vs=[v]:=by
   have:=R.len;simp at this;match vs,this with
   |[v],_=>exact⟨v,rfl⟩
  obtain⟨_,e,da⟩:=R.fz 0 _ rfl;cases e;obtain⟨_,e,dav⟩:=R.fz 1 _ rfl;cases e;obtain⟨f',ws,e,⟨c,o,ar,body,sc,cl,h1,h2,h3,h4,h0,h5,h6⟩,dws⟩:=da.lam_inv rfl;cases e;obtain⟨y,fr,ar',body',sc',e1,hfr,S,hba,hb⟩:=(h x tb htab).ex;rw[h1]at e1;cases e1;obtain⟨u,rfl,ru⟩:=EZ rv;have cF:Cels (cl.map (·.2)) F:=λb hb=>by obtain⟨p,hp,rfl⟩:=S0.mp hb;obtain⟨v,o,u,e,_⟩:=BZ h6 hp;exact⟨o,e⟩
  have cH:Cels (cl.map (·.2)) H:=λb hb=>by obtain⟨o,e⟩:=cF b hb;exact⟨o,R.sub _ _ e⟩
  have cD:∀b∈cl.map (·.2),∀o,H b=some (VX b o)->∀vs,o.data≠.fields vs:=λb hb o' e' vs' z=>by obtain⟨p,hp,rfl⟩:=S0.mp hb;obtain⟨v,o,u,e,e2,_⟩:=BZ h6 hp;have e:=R.sub _ _ e;rw[e']at e;injection e with e;injection e with e;rw[e,e2]at z;cases z
  have go:lift K tb ((v::ws).map some) (del (cl.map (·.2)) H) λv H'=>(∀c∈cl.map (·.2),H' c=none)->Q v (put (cl.map (·.2)) H H'):=?_
  .rcases S with S|S
   .exact gw (k:=k) (ws:=ws) S (h0.trans hfr) h5 hr e0 (R.sub _ _ h2) (R.sub _ _ h3) h4 (Paired.mapP h6 λp v h=>h.mono R.sub) (λpm ctv u=>hba cl pm ctv c u) ru (λhr'=>⟨_,(hb cl f c A outer s _ hr').h,go⟩)
   .exact mw (k:=k) (ws:=ws) S (h0.trans hfr) h5 hr e0 (R.sub _ _ h2) (R.sub _ _ h3) h4 (Paired.mapP h6 λp v h=>h.mono R.sub) (λpm ctv u=>hba cl pm ctv c u) ru (λhr'=>⟨_,(hb ((y,s.heap.objs.size+1)::cl) f c A outer s _ hr').h,go⟩)
  generalize cl.map (·.2)=C at cF cH cD;have tp:∀b xs,F b=some (.tup xs)->del C F b=some (.tup xs):=λb xs e=>by rw[yQ<|cF.ne e λc o z=>by cases z];exact e
  have sub2:Sub (del C F) (del C H):=λb u e=>by obtain⟨nb,e⟩:=CY e;rw[yQ nb];exact R.sub _ _ e
  have tn:∀z∈TB K,z.1∉C:=λz hz=>by obtain⟨_,qs,e,_⟩:=R.tb z hz;exact cH.ne e λc o z=>by cases z
  have tb2:TabOk K (del C F) (del C H):=λz hz=>by
   obtain⟨g0,qs,g1,g2,g3⟩:=R.tb z hz;refine⟨by rw[yQ<|tn z hz];exact g0,qs,by rw[yQ<|tn z hz];exact g1,g2,λpos v e=>?_⟩;obtain⟨c',o',k1,k2,k3⟩:=g3 pos v e;refine⟨c',o',k1,?_,k3⟩;have nc:c'∉C:=λz=>by obtain⟨vs',t',k4,_⟩:=k3;exact cD c' z o' k2 vs' k4
   rw[yQ nc];exact k2
  refine⟨_,del C F,_,_,zZ sub2 tb2<|.cons (Da.noMut tp dav nd)<|DaAll.noMut tp dws nes,wt,λv' H5 F5 r ρ' s5 R5 r5 q no=>?_⟩;obtain⟨nm,q⟩:=q;have nF:∀{b:Addr}{u:HO},F5 b=some u->b∉C:=λ{b u} e z=>by have:=R5.sub _ _ e;rw[no b z]at this;cases this
  have s5':Sub F5 (put C F F5):=λb u e=>by rw[mX<|nF e];exact e
  refine kk v' (put C H H5) (put C F F5) r _ ?_ (R.grown ?_ (λb u e=>?_) (λb u e=>?_) (λb u t e=>?_) λz hz=>?_) ?_<|q _
  .intro b u e;by_cases z:b∈C
   .rw[DK z];exact e
   .rw[mX z];exact s5 _ _ (by rw[yQ z];exact e)
  .intro b u e;by_cases z:b∈C
   .rw[DK z];exact e
   .rw[mX z];exact s5 _ _ (by rw[yQ z];exact e)
  .by_cases z:b∈C
   .rw[DK z]at e ⊢;exact R.sub _ _ e
   .rw[mX z]at e ⊢;exact R5.sub _ _ e
  .by_cases z:b∈C
   .rw[DK z]at e;exact .inl e
   .rw[mX z]at e;rcases R5.fn b u e with y|y
    .have y:del C F b=some u:=y;rw[yQ z]at y;exact .inl y
    .have y:del C H b=none:=y;rw[yQ z]at y;exact .inr y
  .by_cases z:b∈C
   .rw[DK z];exact e
   .rw[mX z];exact R5.keep b u (by show del C H b=some u;rw[yQ z];exact e) (λi z=>by cases z) t
  .obtain⟨g0,qs,g1,g2,g3⟩:=R5.tb z hz;refine⟨by rw[mX<|tn z hz];exact g0,qs,by rw[mX<|tn z hz];exact g1,g2,λpos v e=>?_⟩;obtain⟨c',o',k1,k2,k3⟩:=g3 pos v e;refine⟨c',o',k1,?_,k3⟩;rw[mX λz=>by rw[no c' z]at k2;cases k2];exact k2
  .cases r with
   |io d=>exact r5.elim
   |ow d=>obtain⟨a,u,_,_,_,y,_⟩:=r5;rw[show (Sl.ow d).d=d from rfl,YY y]at nm;cases nm
   |fz d=>exact Da.mono s5' r5
section
variable {K:Fg}{e e1 e2:Expr}{es:List Expr}{a b:AD}{as:List AD}{p pos:Pos}{x:Str}
theorem X9{k i:Nat}{con:Con}(V:VOk X.prog X.w X.K X.mg X.base k (dQ K con))(hr:Room k X.A)(hx:WE X (.Name x p) (kQ K<|.inl i))(ha:WA X (e::es) (rQ<|as.map<|kQ K))(he:lQ e=true:=by rfl)(hpl:es.all lQ=true:=by rfl) :
  WE X (.Call (.Name x p) (e::es) [] pos) (lift K<|oW con (.inl i::as)):=⟨Fk (as:=.inl i::as)<|kw V hr hx.h ha.h (starEach_of he)<|zQ hpl⟩
theorem Y9{k i:Nat}{g z:Str}{ps:List Str}{con:Con}{c0 P cz:Addr}{ar:Arguments}{lp:Pos}(hK:X.K=K)(C:Cal X.prog X.w X.K X.mg X.base k g ps (dQ K con))(hr:Room k X.A)
  (ha:WE X e1 (kQ K a)) (hb:WE X e2 (kQ K b)) (hcode:X.env.code=.ref c0) (hqual:X.env.qual ++ "<lambda>"=x ++ ".<locals>.<lambda>") (hC:W3 K c0 P=true) (hP:(P,x)∈TB K) (hPx:∀z∈TB K,z.1=P->z.2=x)
  (hlam:uU K x=some (ar,body,sc)) (hcl:closureFor sc X.env=pure [(z,cz)]:=by rfl) (hcz:X.env.cells.lookup z=some cz:=by rfl) (hkz:X.env.kindOf z=some .cell:=by rfl) (hfn:∀x,X.fn x=true:=by intro;rfl) (hex:X.ex=[]:=by rfl)
  (hi:X.N[i]?=some z:=by rfl) (hfr:au sc=[z]:=by rfl) (hdef:defaultsOf ar X.env=([],[]):=by rfl) (hg:Gl X g:=by rfl) (hdb:(g==("__debug__":Str))=false:=by decide) (he:lQ e1=true:=by rfl) (he2:lQ e2=true:=by rfl) :
  WE X (.Call (.Name g p) [e1,e2,.Lambda ar body sc lp] [] pos) (lift K<|lw con x [a,b] [i]):=by
 subst hK;have L:PE X (.Lambda ar body sc lp) (uV P x ar body sc [(z,cz)]):=uq hcode hqual hC hcl hdef;have A:PA X [e1,e2,.Lambda ar body sc lp] (rQ<|[a,b].map (kQ X.K)++[uV P x ar body sc [(z,cz)]]):=NQ ha.h (NQ hb.h (NQ L pZ<|starEach_of rfl)<|starEach_of he2)<|starEach_of he;have W:=jw (cl:=[(z,cz)]) (is:=[i]) (p:=p) (pos:=pos) C hr A (λq hq=>by rw[Y0.mp hq];exact hcz) (λq hq=>by rw[Y0.mp hq];exact hkz) hfn hex (by simp[hi]) hg hdb (starEach_of he) (zQ<|by simp[he2];rfl);exact⟨λpins s σ H Q I h=>W pins s σ H Q I<|W9 hlam hP hPx (by rw[hfr];rfl) (by simp) h⟩
end
end L3
namespace L2
open PySem.W
section
variable {X:Cx}{α:Type}[Inhabited α]{Rep:Hp->Addr->α->Prop}{fn:Hp->V->α}{lt:α->α->Bool}{κ:SortKind}
theorem kG(h:RelV (.ref c) u):u=.ref c:=h
noncomputable def FK(fn:Hp->V->α)(H:Hp):Value->α
 | .ref c=>fn H<|.ref c
 |_=>default
end
section
variable {w:World}
theorem Z9(b:Bool){n m:Int}{t u:Tok}{Q:Bool->Shared->Prop}{E:Value->Shared->Prop}(h:Q (decide<|n<m) s):wpAny (model prog w) A (oneLt' b (.int n t)<|.int m u) Q E s:=by
 cases b with
 |true=>exact oneLt_int h
 |false=>exact kat_one _ _<|lt_int h
theorem lG{b:Bool}{Q:Bool->Shared->Prop}:∀{ns ms:Qa}{xs ys:List Value} (i:Nat),IntsAre xs ns->IntsAre ys ms->Q (HT.lexLt ns ms) s->KatLex prog w A b (decide<|xs.length<ys.length) Q (xs.zip ys) i s
 |_,_,_,_,i,.nil,.nil,h=>h
 |_,_,_,_,i,.nil,.cons m u r,h=>h
 |_,_,_,_,i,.cons n t r,.nil,h=>h
 |_,_,_,_,i,.cons (vs:=xs) (ns:=ns) n t r,.cons (vs:=ys) (ns:=ms) m u r',h=>by
  have e:decide ((M6 n t::xs).length<(M6 m u::ys).length)=decide (xs.length<ys.length):=by simp
  rw[e];rw[HT.lexLt_cons]at h;show KatLex prog w A b _ Q ((M6 n t,M6 m u)::xs.zip ys) i s;refine kat_cons<|SeqAt.EqAt.int_int n t m u _ _ _ _ ?_;refine kat_go (λq=>kat_yes ?_)<|λq=>kat_no ?_
  .rw[if_pos<|by simpa using q]at h;exact lG (i+1) r r' h
  .rw[if_neg<|by simpa using q]at h;exact Z9 _ h
end
def nj(H:Hp)(c:Addr)(r:Qa):Prop:=H c=some (.tup<|r.map V.int)/\r≠[]
noncomputable def pw(H:Hp):V->Qa
 | .ref c=>match H c with
  |some (.tup xs)=>xs.map QP
  |_=>[]
 |_=>[]
theorem gH(H:Hp)(c:Addr)(r:Qa)(h:nj H c r):pw H (.ref c)=r:=by show (match H c with|some (.tup xs)=>xs.map QP|_=>[])=r;rw[h.1];exact hG r
end L2
namespace L3
open L2
theorem DaAll.mem{K:Fg}{F:Hp}:∀{us:List V}{ds:List D},DaAll K F us ds->∀v∈us,∃d∈ds,Da K F v d
 |_,_,.nil,v,h=>by simp at h
 |_,_,.cons a t,v,h=>by
  rcases P0.mp h with rfl|h
  .exact⟨_,L0,a⟩
  .obtain⟨d,h1,h2⟩:=DaAll.mem t v h;exact⟨d,K0 _ h1,h2⟩
theorem DaAll.map_of{K:Fg}{F:Hp}{f:V->D}:∀{us:List V},(∀v∈us,Da K F v<|f v)->DaAll K F us (us.map f)
 |[],_=>.nil
 |v::us,h=>.cons (h v L0)<|DaAll.map_of λx hx=>h x<|K0 _ hx
theorem DaAll.map_eq{K:Fg}{F:Hp}{g:α->D}{f:V->α}(hg:∀v a,Da K F v (g a)->f v=a):∀{us:List V}{as:List α},DaAll K F us (as.map g)->us.map f=as
 |[],[],_=>rfl
 |_::_,[],h=>by cases h
 |[],_::_,h=>by cases h
 |v::us,a::as,h=>by
  cases h with
  |cons h t=>rw[K1,hg v a h,DaAll.map_eq hg t]
theorem qw{K:Fg}{r:Qa}(h:Da K F v (.tuple<|r.map p0)):∃c,v=.ref c/\F c=some (.tup<|r.map V.int):=by
 cases h with
 |tup h t=>have:=t.ints_of;subst this;exact⟨_,rfl,h⟩
noncomputable def NO(neg:Bool):D->D->(Sl->Prop)->Prop
 | .int i,y,Q=>∃ns:Qa,aU y=some (ns.map p0)/\Q (.fz<|.bool<|if neg then !decide (i∈ns) else decide (i∈ns))
 |_,_,_=>False
theorem vV(i:Int):∀ns:Qa,KN (.int i) (ns.map V.int)=decide (i∈ns)
 |[]=>by simp[KN]
 |n::ns=>by
  have:=vV i ns;simp only[KN,K1,v4]at this ⊢;rw[this,P5];simp[Jy];constructor
  .rintro (rfl|h)
   .exact .inl rfl
   .exact .inr h
  .rintro (rfl|h)
   .exact .inl rfl
   .exact .inr h
theorem EU(ns:Qa):(ns.map V.int).all vY=true:=by rw[K2];intro x hx;obtain⟨n,_,rfl⟩:=S0.mp hx;rfl
theorem cM{K:Fg}(neg:Bool):OQ K (kY<|fR K neg) (o2<|NO neg):=YH λG F σ H ρ x y d e Q Qd R h1 h2 w k=>by
 cases d<;>first|exact w.elim|skip
 rename_i i;obtain⟨ns,p1,w⟩:=w;cases h1.int;have fin:∀b,b=decide (i∈ns)->Q (.bl<|if neg then !b else b) H:=λb hb=>by subst hb;exact k _ H F (.fz _) (Sub.refl _) R (Da.bl _) w
 cases e<;>first|cases p1|skip
 .obtain⟨a,us,rfl,e1,d1⟩:=h2.list R.sub;have:=d1.intsV;subst this;exact⟨a,_,rfl,.inl<|SqL.of e1,rfl,EU ns,fin _<|vV i ns⟩
 .obtain⟨a,us,rfl,_,e1,d1⟩:=h2.tuple R.sub;have:=d1.intsV;subst this;exact⟨a,_,rfl,.inr<|SqT.of e1,rfl,EU ns,fin _<|vV i ns⟩
section
variable {K:Fg}{e1 e2:Expr}{a b:AD}{pos:Pos}
theorem dM(hK:X.K=K):OpR X (compareOp .In) (fR K false):=by subst hK;exact yz
theorem fE(hK:X.K=K)(ha:WE X e1 (kQ K a))(hb:WE X e2 (kQ K b))(hm:behindInMarks .In e2=false:=by rfl):WT X (.Compare e1 [.In] [e2] pos) (xQ K<|RH<|FJ [a,b]<|o2<|NO false):=⟨jS (cM false)<|ID (dM hK) ha.h hb.h hm⟩
end
end L3
namespace L2
noncomputable abbrev oj:List Value:=[.type "ValueError",.type "Exception",.type "BaseException",.type "object"]
abbrev NJ(K:G0)(C:Addr):Prop:=PySem.W.excIn K C oj "ValueError.__new__"=true
theorem FZ{K:G0}(X:K.In h)(q:NJ K C):∃bm N nm qn bs hd sn sub ab col dd k0 k1 k2 k3 k5 mN,K.lookup C=some (excClassObj nm qn C N bs bm hd sn sub ab col dd k0 k1 k2 k3 k5 "ValueError.__new__")/\h.Ns N mN/\mN "__init__"=none/\OwnTail h oj bm:=by
 unfold NJ PySem.W.excIn at q;split at q
 .rename_i dd cd sl ho;split at q
  .rename_i C' bm k0 k1 k2 k3 i k5 e1 e2;simp only[A2,beq_iff_eq,Bool.not_eq_true']at q;obtain⟨⟨⟨⟨⟨z1,z2⟩,z3⟩,z4⟩,z5⟩,z6⟩:=q;cases cd with
   |mk nm bs mro ns qn hd sn sub ab col del =>
    simp only at e1 z3 z5 z6;subst e1 z1 z2 z3;cases sl with
    |mk l=>simp only at e2;subst e2;exact⟨bm,ns,nm,qn,bs,hd,sn,sub,ab,col,dd,k0,k1,k2,k3,k5,_,ho,.of_isNs<|L7 X z5,A6 X z5 z6,PySem.W.tail_of_in X z4⟩
  .cases q
 .cases q
section
variable {P:Program}{w:World}{a:Addr}{o:HO}
theorem ObjOk.ob(x:ObjOk P w H h a o):∃u,h.get? a=some u:=by
 cases o with
 |lst xs=>obtain⟨_,_,_,_,e⟩:=x;exact⟨_,e⟩
 |tup xs=>obtain⟨_,_,_,_,e,_⟩:=x;exact⟨_,e⟩
 |dK kvs=>obtain⟨_,_,_,_,o,_,_,e,_⟩:=x;exact⟨_,e⟩
 |dT kvs=>obtain⟨_,_,_,_,o,_,_,e,_⟩:=x;exact⟨_,e⟩
 |set S n=>obtain⟨o,_,_,_,e,_⟩:=x;exact⟨_,e⟩
 |ins C dx fs=>obtain⟨_,_,_,e,_⟩:=x;exact⟨_,e⟩
 |own y=>exact x
 |xd fs=>obtain⟨_,⟨_,_,_,e,_⟩,_⟩:=x;exact⟨_,e⟩
 |rng lo hi=>obtain⟨_,_,_,e⟩:=x;exact⟨_,e⟩
 |frz ob u=>obtain⟨e,_⟩:=x;exact⟨_,e⟩
 |tbl ps=>exact⟨_,(show h.get? a=some _ from x)⟩
 |met f y=>exact⟨_,(show h.get? a=some _ from x)⟩
 |ext φ=>exact x.2.1
theorem HOk.gone(x:HOk P w H h)(e:h.get? a=none):H a=none:=by
 cases q:H a with
 |none=>rfl
 |some u=>obtain⟨ob,z⟩:=(x a u q).ob;rw[e]at z;cases z
end
def eM(h:Heap)(a T:Addr)(C:Value):Prop:=∃oe vs oT ts a0,h.get? a=some oe/\(oe.cls=C/\vs[0]?=some a0)/\oe.data=.fields vs/\vs[1]?=some (.ref T)/\T≠a/\h.get? T=some oT/\oT.data=.fields ts/\ts[3]?=some .none
noncomputable def QZ(P:Program)(w:World):aF:=λouter H s E e s'=>∃(a T:Addr) (C:Value) (H':Hp),e=.ref a/\s'.os=s.os/\AllBare s'.gens/\Un (TZ outer) [] H H' s.heap s'.heap/\HOk P w H' s'.heap /\
 s.heap.get? a=none/\s.heap.get? T=none/\H' a=none/\H' T=none/\eM s'.heap a T C/\E C none H'
theorem NF(I:Inv X pins σ H s)(hst:X.stack=X.env::X.outer)(hfr:X.env.frame=some X.env.locals)(hex:X.ex=[]){h3:Heap}{e:Addr}{C:Value}{args:List Value}(hx:Heap.MadeExcOf s.heap h3 e C args){E:XK} (q:E C none H) {M:Model}{E':Value->Shared->Prop}:wpAny M X.A (leaving X.env<|.ref e) (λ_ s2=>QZ X.prog X.w X.outer X.H₀ X.s₀ E (.ref e) s2) E' {s with heap:=h3}:=by
 have hF:=I.stack;have nex:∀b,b∉X.ex:=λb z=>by rw[hex]at z;cases z
 have sub:∀b,b∈X.fs->b∈TZ X.stack:=λb z=>by rw[hst];unfold TZ;rw[t6,hfr];exact K0 _ z
 have hin:∀env∈X.env::X.outer,∀b,env.frame=some b->b∈TZ X.stack:=λenv he b hb=>by rw[hst];exact N5.mpr ⟨env,he,hb⟩
 refine wpAny_leaves_madeW (base:=B6 s.heap<|TZ X.stack) (h:=s.heap) (by rw[I.ok.frames,hst]) hfr (λb o z=>L6 _ z) (X6 (hst ▸ hF) hin) hx λh' t fl tup tn up=>?_;obtain⟨k1,k2,k3,oe,vs,T,oT,ts,g1,g2,g3,g4,g5,g6,g7,g8,g9⟩:=fl;have kept:∀b o,s.heap.get? b=some o->b∉TZ X.stack->h'.get? b=some o:=λb o z nb=>k1 b o<|T4 _ z nb;have slot:∀b o,s.heap.get? b=some o->b∈TZ X.stack->(∃sl,h'.get? b=some {o with slots:=sl})/\∀vs,o.data≠.fields vs:=λb o z hb=>by obtain⟨_,o',z',nf⟩:=hF.mem hb;rw[z]at z';cases z';exact⟨up b o (hx.keeps b o z) nf,nf⟩
 have fT:s.heap.get? T=none:=by
  cases z:s.heap.get? T with
  |none=>rfl
  |some o =>
   exfalso;by_cases hb:T∈TZ X.stack
   .obtain⟨⟨sl,y⟩,nf⟩:=slot T o z hb;rw[g7]at y;cases y;exact nf ts g8
   .have:=T4 (TZ X.stack) z hb;rw[g5]at this;cases this
 have old:∀b,s.heap.get? b=none->X.s₀.heap.get? b=none:=λb z=>by
  cases y:X.s₀.heap.get? b with
  |none=>rfl
  |some o=>obtain⟨o',y'⟩:=I.base.there b o y<|nex b;rw[z]at y';cases y'
 have neL:∀b o,X.s₀.heap.get? b=some o->b∉X.fs->b∉TZ X.stack:=λb o y nb z=>by
  rcases P0.mp (I.stkSub b z) with z|z
  .exact V0 (Q0 (U0 y) I.ok.above) z
  .exact nb z
 refine⟨e,T,C,H,rfl,I.os,I.bare,⟨λb o y n nb _=>?_,λb o y n hb _=>?_,λb o y n _=>I.base.free b o y n<|nex b,λb o y _=>?_,I.base.tups,I.base.frzs,I.base.tbls⟩,λb u y=>?_,old e hx.new,old T fT,I.hok.gone hx.new,I.hok.gone fT,⟨oe,vs,oT,ts,_,g1,g2,g3,g4,g6,g7,g8,g9⟩,q⟩
 .exact kept b o (I.base.keep b o y n nb<|nex b) (neL b o y nb)
 .obtain⟨sl,y1⟩:=I.base.slot b o y n hb<|nex b;obtain⟨⟨sl2,y2⟩,_⟩:=slot b _ y1<|sub b hb;exact⟨sl2,y2⟩
 .obtain⟨o',y1⟩:=I.base.there b o y<|nex b;by_cases hb:b∈TZ X.stack
  .obtain⟨⟨sl2,y2⟩,_⟩:=slot b _ y1 hb;exact⟨_,y2⟩
  .exact⟨_,kept b _ y1 hb⟩
 .refine(I.hok b u y).stay (λc v hc z=>kept c v z λhb=>?_) (λ_ z=>z) λ_ _ z=>z;have fr:=I.stkFree c hb;rcases hc with rfl|hc
  .rw[y]at fr;cases fr
  .rw[hc]at fr;cases fr
def fM(C:Addr)(E:XK):TS:=λ_ _ H=>E (.ref C) none H
theorem tw{x t:Str}{C:Addr}{E:XK}{k:Nat}{np cpos pos p2:Pos}(hxe:∀e s',wpAny (model X.prog X.w) X.A (leaving X.env e) (λ_ s2=>QZ X.prog X.w X.outer X.H₀ X.s₀ E e s2) (λe2 s2=>QZ X.prog X.w X.outer X.H₀ X.s₀ E e2 s2) s'->X.xe e s')
  (hst:X.stack=X.env::X.outer) (hfr:X.env.frame=some X.env.locals) (hex:X.ex=[]) (hc:X.calm=true) (hg:Gl X x) (hm:X.mg x=some (.ref C)) (hC:NJ X.K C) (hdb:(x==("__debug__":Str))=false:=by decide) :
  PS X (.Raise (some<|.Call (.Name x np) [.Constant (.str t) k p2] [] cpos) none pos) (fM C E):=by
 intro pins s σ H D I h;obtain⟨bm,N,nm,qn,bs,hd,sn,sub,ab,col,dd,k0,k1,k2,k3,k5,mN,g1,g2,g3,g4⟩:=FZ I.mod.kin hC;refine wpAny_Raise_call_subT (C:=C) (N:=N) (nm:=nm) (q:=qn) (bs:=bs) (hdct:=hd) (sn:=sn) (sub:=sub) (ab:=ab) (col:=col) (dd:=dd) (k0:=k0) (k1:=k1) (k2:=k2) (k3:=k3) (k5:=k5) PySem.F.excBase_ValueError (g4.hasType<|by decide) (I.ok.hd hc) rfl g3<|vJ I hg hm ⟨rfl,?_⟩ hdb;have hA:=(NQ (X:=X) (e:=.Constant (.str t) k p2) JW pZ<|L3.starEach_of rfl) cpos pins s σ H (λxs H2=>xs=[.str t]/\H2=H) I ⟨rfl,rfl⟩;have hs:starEach [Expr.Constant (.str t) k p2] X.env=[(false,eval (.Constant (.str t) k p2) X.env)]:=L3.starEach_of rfl;rw[hs]at hA ⊢;refine Calls.evalArgs_plain<|vX hA λus s2 ⟨vs,H2,I2,r2,q2⟩=>?_;obtain⟨rfl,rfl⟩:=q2;obtain⟨u,rfl,_⟩:=EZ r2;refine⟨rfl,by show 1<=sizeLine;decide,I2.kIn _ _ g1,g2.keeps I2.bk,g4.keeps I2.bk,λh' e hm2=>hxe _ _<|NF I2 hst hfr hex hm2 h⟩
section
variable {M:Model}
variable {nm q:Str}{C N:Addr}{bs bm:List Value}{hdct:Bool}{sn:List Str}{sub:List Value}{ab:Bool}{col:Option Bool}{dd:Option Addr}{k0 k1 k2 k3 k5:Option Value}{newId:String}
variable {nm' q':Str}{N':Addr}{bs' bm':List Value}{hdct':Bool}{sn':List Str}{sub':List Value}{ab':Bool}{col':Option Bool}{dd':Option Addr}{l0 l1 l2 l3 l5:Option Value}{newId':String}
theorem wV{g:Array GenState}{os:OsState}{Q:Bool->Shared->Prop}(hC:h.get? C=some (excClassObj nm q C N bs bm hdct sn sub ab col dd k0 k1 k2 k3 k5 newId)) (hB:h.get? B=some (excClassObj nm' q' B N' bs' bm' hdct' sn' sub' ab' col' dd' l0 l1 l2 l3 l5 newId'))(he:h.get? e=some oe) (hcls:oe.cls=.ref C) (hbase:bm'.contains (.type "BaseException")=true) (hb:(E2 C::bm).contains (.ref B)=b)(hq:Q b ⟨h,g,d,t,os⟩):wpAny M A (excMatches (.ref e)<|.ref B) Q E ⟨h,g,d,t,os⟩:=by
 have hcB:(E2 B::bm').contains (.type "BaseException")=true:=by rw[O5,hbase,Bool.or_true]
 have f:=tc_notTuple;unfold excMatches;repeat (first|(with_reducible refine wpAny_loadPart_at he ?_;rw[hcls])|with_reducible refine wpAny_loadPart_at hB ?_|(with_reducible refine wpAny_isSubtype_exc hB ?_;rw[hcB])|(with_reducible refine wpAny_isSubtype_exc hC ?_;rw[hb])|wp_step)
 cases b<;>(wp_walk;exact hq)
end
noncomputable def sQ(K:G0)(C B:Addr):Bool:=match K.lookup C with
 |some ⟨_,_,.cls cd,_⟩=>cd.mro.contains<|.ref B
 |_=>false
section
variable {a:Addr}
theorem Inv.back(I:Inv X pins σ H s)(un:Un (TZ X.stack) [] H H' s.heap s'.heap)(hok:HOk X.prog X.w H' s'.heap)(bare:AllBare s'.gens)(os:s'.os=s.os)(fa:s.heap.get? a=none)(fT:s.heap.get? T=none)(na:H' a=none)(nT:H' T=none){h5:Heap}(k:∀b o,s'.heap.get? b=some o->b≠a->b≠T->b∉TZ X.stack->h5.get? b=some o) (up:∀b o,s'.heap.get? b=some o->b∈TZ X.stack->∃sl,h5.get? b=some {o with slots:=sl}):Inv X pins σ H' {s' with heap:=h5}:=by
 have ne:∀{b o},s.heap.get? b=some o->b≠a/\b≠T:=λ{b o} e=>⟨λz=>(by rw[z,fa]at e;cases e),λz=>(by rw[z,fT]at e;cases e)⟩;have frf:∀b∈TZ X.stack,H' b=none:=λb hb=>by obtain⟨_,o,e,_⟩:=I.stack.mem hb;exact un.free b o e (I.stkFree b hb) (by simp)
 refine I.call' (s':={s' with heap:=h5}) (ch:=[]) os ⟨λb o e n nb _=>?_,λb o e n hb _=>?_,un.free,λb o e _=>?_,un.tups,un.frzs,un.tbls⟩ (λb u y=>?_) bare<|λb z=>(by cases z)
 .exact k b o (un.keep b o e n nb<|by simp) (ne e).1 (ne e).2 nb
 .obtain⟨sl,e1⟩:=un.slot b o e n hb (by simp);obtain⟨sl2,e2⟩:=up b _ e1 hb;exact⟨sl2,e2⟩
 .obtain⟨o1,e1⟩:=un.there b o e (by simp);by_cases hb:b∈TZ X.stack
  .obtain⟨sl2,e2⟩:=up b _ e1 hb;exact⟨_,e2⟩
  .exact⟨_,k b _ e1 (ne e).1 (ne e).2 hb⟩
 .have good:∀c v,H' c=some v->c≠a/\c≠T/\c∉TZ X.stack:=λc v q=>⟨λz=>(by rw[z,na]at q;cases q),λz=>(by rw[z,nT]at q;cases q),λz=>(by rw[frf c z]at q;cases q)⟩;refine(hok b u y).stay (λc v hc z=>?_) (λ_ z=>z) λ_ _ z=>z;obtain⟨g1,g2,g3⟩:c≠a/\c≠T/\c∉TZ X.stack:=by
   rcases hc with rfl|hc
   .exact good c u y
   .exact good c _ hc
  exact k c v z g1 g2 g3
noncomputable abbrev Cx.mk2(X:Cx)(v:Option Value):Cx:={X with A:=X.A.mark v,calm:=false,xe:=λ_ _=>False}
theorem Inv.mk2(I:Inv X pins σ H s)(v:Option Value):Inv (X.mk2 v) pins σ H s:=⟨⟨I.ok.mod,I.ok.kind,I.ok.glob,I.ok.blt,I.ok.above,I.ok.inj,I.ok.has,I.ok.cab,λz=>(by cases z),I.ok.frames,I.ok.stk,I.ok.exf,I.ok.bs,I.ok.bsz,I.ok.noex,I.ok.exfs,I.ok.funs,I.ok.frf⟩,I.os,I.bare,I.base,I.loc,I.cell,I.free,I.freeC,I.pin,I.hok,I.len⟩
theorem Inv.un2(hd:X.calm=true->X.A.handled=none)(I:Inv (X.mk2 v) pins σ H s):Inv X pins σ H s:=⟨⟨I.ok.mod,I.ok.kind,I.ok.glob,I.ok.blt,I.ok.above,I.ok.inj,I.ok.has,I.ok.cab,hd,I.ok.frames,I.ok.stk,I.ok.exf,I.ok.bs,I.ok.bsz,I.ok.noex,I.ok.exfs,I.ok.funs,I.ok.frf⟩,I.os,I.bare,I.base,I.loc,I.cell,I.free,I.freeC,I.pin,I.hok,I.len⟩
theorem Inv.goes{n:Str}{Q:Unit->Shared->Prop}(I:Inv X pins σ H s)(hN:X.N.Nodup)(hi:X.N[i]?=some n)(hl:X.env.kindOf n=some .local)
  (q:∀s',Inv X pins (σ.set i none) H s'->Q () s'):wpAny M A (do bindName X.env n .none;unbindBehindTheSuite X.env n pos) Q E s:=by
 obtain⟨m,hn,hL⟩:=id I.loc;obtain⟨oL,_,_,hoL,_⟩:=id hn;have hcls:(X.env.scope.kind==.class||(X.env.scope.kind==.module&&X.env.locals != X.env.globals))=false:=by rw[I.ok.kind];rfl
 refine wpAny_nameGoes_keeps hl hn hcls λh' v hn' hs=>q _ ?_;have neL:∀b o,X.s₀.heap.get? b=some o->b≠X.env.locals:=λb o e=>V0<|Q0 (U0 e) I.ok.above;refine⟨I.ok,I.os,I.bare,⟨λb o e n hb hx=>(hs.2 b<|neL b o e).trans<|I.base.keep b o e n hb hx,λb o e n hb hx=>?_,I.base.free,λb o e hx=>?_,I.base.tups,I.base.frzs,I.base.tbls⟩,⟨_,hn',λj y v' e1 e2 e3=>?_⟩,λy c e=>?_,I.free,I.freeC,λp hp=>?_,λb u e=>?_,by simpa using I.len⟩
 .obtain⟨sl,e1⟩:=I.base.slot b o e n hb hx;exact⟨sl,(hs.2 b<|neL b o e).trans e1⟩
 .obtain⟨o',e1⟩:=I.base.there b o e hx;exact⟨o',(hs.2 b<|neL b o e).trans e1⟩
 .by_cases hj:j=i
  .subst hj;rw[V5]at e2;split at e2
   .split at e2<;>cases e2
   .contradiction
  .rw[Z0<|S2 hj]at e2;obtain⟨u',r',z⟩:=hL j y v' e1 e2 e3;refine⟨u',r',?_⟩;rcases z with⟨k,e⟩|⟨k,c,e,z⟩
   .refine .inl ⟨k,?_⟩;have:y≠n:=λe=>hj<|HW hN e1<|e ▸ hi;simp[this,e]
   .exact .inr ⟨k,c,e,z.sameBut hs<|I.cne y c e⟩
 .obtain⟨w',z⟩:=I.cell y c e;exact⟨w',z.sameBut hs<|I.cne y c e⟩
 .obtain⟨e,n,ne,nf,d⟩:=I.pin p hp;exact⟨(hs.2 p.1 ne).trans e,n,ne,nf,d⟩
 .refine(I.hok b u e).stay (λc w' hc z=>(hs.2 c ?_).trans z) (λ_ z=>z) λ_ _ z=>z;rintro rfl;rcases hc with rfl|hc
  .rw[I.free]at e;cases e
  .rw[I.free]at hc;cases hc
theorem Inv.track{o:HO}(I:Inv X pins σ H s)(na:H a=none)(f0:X.s₀.heap.get? a=none)(nl:a≠X.env.locals)(nc:∀x c,X.env.cells.lookup x=some c->c≠a)(np:∀p∈X.pn++pins,p.1≠a)(new:ObjOk X.prog X.w (upd H a o) s.heap a o):Inv X pins σ (upd H a o) s:=by
 have ne:∀{b u},H b=some u->b≠a:=λe=>qQ e na;refine⟨I.ok,I.os,I.bare,⟨I.base.keep,I.base.slot,λb u e n hx=>?_,I.base.there,λb xs e=>?_,λb u v e=>?_,λb ps e=>?_⟩,I.loc,I.cell,by rw[iQ<|S2 nl];exact I.free,λx c e=>by rw[iQ<|nc x c e];exact I.freeC x c e,λp hp=>?_,λb u e=>?_,I.len⟩
 .rw[iQ λz=>(by rw[z,f0]at e;cases e)];exact I.base.free b u e n hx
 .have:=I.base.tups b xs e;rw[iQ<|ne this];exact this
 .have:=I.base.frzs b u v e;rw[iQ<|ne this];exact this
 .obtain⟨more,this⟩:=I.base.tbls b ps e;exact⟨more,by rw[iQ<|ne this];exact this⟩
 .obtain⟨e,n,r⟩:=I.pin p hp;exact⟨e,by rw[iQ<|np p hp];exact n,r⟩
 .by_cases hb:b=a
  .subst hb;rw[uQ]at e;cases e;exact new
  .rw[iQ hb]at e;exact(I.hok b u e).stay (λ_ _ _ z=>z) (λc z=>by rw[iQ<|ne z];exact z) λc xs z=>by rw[iQ<|ne z];exact z
theorem uw{K:G0}{C N:Addr}{nm qn:Str}{bs bm:List Value}{hd:Bool}{sn:List Str}{sub:List Value}{ab:Bool}{col:Option Bool}{dd:Option Addr}{k0 k1 k2 k3 k5:Option Value}{i:String}(h:K.lookup C=some (excClassObj nm qn C N bs bm hd sn sub ab col dd k0 k1 k2 k3 k5 i)):(E2 C::bm).contains (.ref B)=sQ K C B:=by unfold sQ;rw[h]
theorem vw{n b c:Str}{pb pn pc p3 hpos:Pos}{iE iC:Nat}{E:XK}{D:Ends}{Eo:Value->Shared->Prop}{e:Value}(I:Inv X pins σ H s)(hst:X.stack=X.env::X.outer)(hfr:X.env.frame=some X.env.locals)(hex:X.ex=[])(hN:X.N.Nodup)
  (hiE:X.N[iE]?=some n) (hlE:X.env.scope.names.lookup n=some .local) (hiC:X.N[iC]?=some c) (hlC:X.env.scope.names.lookup c=some .local) (hgb:Gl X b) (hmb:X.mg b=some (.ref B)) (hB:NJ X.K B) (hcx:QZ X.prog X.w X.stack H s E e s')
  (hE:∀Cv o H',E Cv o H'->∃C,Cv=.ref C/\NJ X.K C/\sQ X.K C B=true/\∀a,H' a=none->D.nx (((σ.set iE<|some<|.ref a).set iC<|some<|.ref a).set iE none) (upd H' a<|xY a C))
  (hs3:swapsWith (.Name n pn) (some<|.Name c pc) p3.line X.env=pure false:=by rfl) (hdb:(b==("__debug__":Str))=false:=by decide) (hd1:(n==("__debug__":Str))=false:=by decide) (hd2:(n==("__classdict__":Str))=false:=by decide) :
  wpAny (model X.prog X.w) X.A (noteFrame e X.env) (λ_ s2=>wpAny (model X.prog X.w) X.A (setFlight e none) (λ_ s3=>wpAny (model X.prog X.w) X.A (handleBy e X.env [.ExceptHandler (some<|.Name b pb) (some n) [.Assign [.Name c pc] (.Name n pn) p3] hpos]) (SP X pins D) Eo s3) Eo s2) Eo s':=by
 obtain⟨a,T,Cv,H',rfl,os,bare,un,hok,fa,fT,na,nT,⟨oe,vs,oT,ts,a0,g1,g2,g3,g4,g5,g6,g7,g8⟩,hEE⟩:=hcx;obtain⟨C,rfl,hC,hsub,q⟩:=hE _ _ _ hEE;have I':Inv X pins σ H' s':=I.call' os un hok bare (ch:=[])<|λb z=>(by cases z);have FF:=I'.stack;have ha:a∈a::T::TZ X.stack:=L0;have hT:T∈a::T::TZ X.stack:=K0 _ L0;have fly:Heap.FlyingW (B6 s'.heap (a::T::TZ X.stack)) X.stack a (.ref C) a0 s'.heap :=
  ⟨λb o z=>L6 _ z,E5 _ ha,X6 FF λenv he b hb=>K0 _<|K0 _<|N5.mpr ⟨env,he,hb⟩,oe,vs,T,oT,ts,g1,g2,g3,g4,E5 _ hT,g5,g6,g7,g8⟩;have mkI:∀h5:Heap,(B6 s'.heap (a::T::TZ X.stack)).StaysIn h5->s'.heap.UpToSlots h5->Inv X pins σ H' {s' with heap:=h5}:=λh5 st up=>by
  refine I.back un hok bare os fa fT na nT (λb o z n1 n2 n3=>st b o<|T4 _ z λy=>?_) λb o z hb=>?_
  .rcases P0.mp y with y|y
   .exact n1 y
   .rcases P0.mp y with y|y
    .exact n2 y
    .exact n3 y
  .obtain⟨_,o',z',nf⟩:=FF.mem hb;rw[z]at z';cases z';exact up b o z nf
 rw[hst]at fly;refine wpAny_looks_onW (by rw[I.ok.frames,hst]) hfr fly λh4 held4 up4=>?_;refine wpAny_landsW held4 λh5 fly5 up5=>?_;have I5:=mkI h5 (by rw[hst];exact fly5.1)<|up4.trans up5;obtain⟨ob,hob,hobc⟩:=fly5.there;refine wpAny_handleBy_cons (codeAny_handlers_test<|Calls.Name_function_global I5.ok.kind hgb (Calls.loadGlobal_global (by rw[I5.ok.glob];exact I5.mod.glob.keeps I5.bk) hmb ?_) hdb) (by intro z;cases z);obtain⟨bm,N,nm,qn,bs,hd,sn,sub,ab,col,dd,k0,k1,k2,k3,k5,mN,e1,e2,e3,e4⟩:=FZ I5.kIn hC;obtain⟨bm',N',nm',qn',bs',hd',sn',sub',ab',col',dd',l0,l1,l2,l3,l5,mN',f1,f2,f3,f4⟩:=FZ I5.kIn hB;refine wV (I5.kIn _ _ e1) (I5.kIn _ _ f1) hob hobc (f4.hasType<|by decide) ((uw e1).trans hsub) ?_;refine codeAny_handlers_suite_as ?_;refine lands_againW fly5 λh6 fly6 up6=>?_;have I6:=mkI h6 (by rw[hst];exact fly6.1)<|(up4.trans up5).trans up6;have old:X.s₀.heap.get? a=none:=by
  cases y:X.s₀.heap.get? a with
  |none=>rfl
  |some o=>obtain⟨o',y'⟩:=I.base.there a o y (by rw[hex];simp);rw[fa]at y';cases y'
 obtain⟨o6,v6,z1,z2,z3,_⟩:=fly6.first;have I7:Inv X pins σ (upd H' a<|xY a C) {s' with heap:=h6}:=by
  refine I6.track na old (λz=>?_) (λx c y z=>?_) (λp hp z=>?_) ⟨⟨o6,v6,z1,z2,z3⟩,⟨o6,z1⟩,λh1 h2 ⟨o,v,y1,y2,y3⟩ k=>⟨o,v,k o y1,y2,y3⟩⟩
  .obtain⟨m,⟨o,_,_,y,_⟩,_⟩:=I.loc;rw[<-z,fa]at y;cases y
  .obtain⟨v,o,y1,_⟩:=I.cell x c y;rw[z,fa]at y1;cases y1
  .have:=(I.pin p hp).1;rw[z,fa]at this;cases this
 refine cK I7 hN hiE (.inl hlE) (v:=.ref a) rfl (λs8 I8=>?_)<|.inr hlE;have hi8:(σ.set iE<|some<|V.ref a)[iE]?=some (some<|V.ref a):=V6 (by rw[I.len];exact(Q1.mp hiE).1);have P9:=(PU<|UG (X:=X.mk2<|some<|.ref a) (pos:=p3) (pos':=pc) hN hiC (.inl hlC) (NU (pos:=pn) hiE (.inl hlE) hd1 hd2) hs3<|.inr hlC) pins s8 _ _ {nx:=λσ9 H9=>σ9=(σ.set iE<|some<|V.ref a).set iC (some<|V.ref a)/\H9=upd H' a (xY a C),rt:=λ_ _=>False} (I8.mk2 _) ⟨_,hi8,rfl,rfl⟩;refine wpAny_mono P9 (λf s9 q9=>?_)<|λ_ _ z=>z.elim;cases f with
 |next=>obtain⟨σ9,H9,I9,rfl,rfl⟩:=q9;exact(I9.un2 I.ok.hd).goes hN hiE hlE λs10 I10=>⟨_,_,I10,q a na⟩
 |ret v=>obtain⟨_,_,_,_,_,z⟩:=q9;exact z.elim
 |brk=>obtain⟨_,_,_,z⟩:=q9;exact z.elim
 |cont=>obtain⟨_,_,_,z⟩:=q9;exact z.elim
end
noncomputable def xq(K:G0)(n:Str):List Value->Bool
 |[]=>oj==[]
 |v::r=>(v::r)==oj||match v with
  | .ref A=>(match K.lookup A with
    |some ⟨_,_,.cls cd,_⟩=>PySem.W.nsOkIn K cd.ns&&(B1 K cd.ns n==some none)&&xq K n r
    |_=>false)
  |_=>false
noncomputable def yq(K:G0)(C:Addr)(n:Str):Bool:=match K.lookup C with
 | some ⟨_,_,.cls cd,_⟩=>(match cd.mro with
   |_::bm=>xq K n bm&&PySem.W.nsOkIn K cd.ns&&(B1 K cd.ns n==some none)
   |_=>false)
 |_=>false
structure ExcQ(K:G0)(C:Addr):Prop where
 c:NJ K C
 q1:yq K C "__getattribute__"=true
 q2:yq K C "__getattr__"=true
 q3:yq K C "__class__"=true
section
variable {M:Model}{g:Array GenState}{d:Drawn}{t:Nat}{os:OsState}{K:G0}
theorem zq{n:Str}{y:Option Value}{Q:Option Value->Shared->Prop}(X:K.In h)(hv:lookupAlong oj n=pure y)(q:Q y ⟨h,g,d,t,os⟩):∀{l:List Value},xq K n l=true->wpAny M A (lookupAlong l n) Q E ⟨h,g,d,t,os⟩
 |[],e=>by cases e
 |v::r,e=>by
  unfold xq at e;rcases Bool.or_eq_true_iff.mp e with z|z
  .rw[beq_iff_eq.mp z,hv];exact wpAny_pure q
  .split at z
   .split at z
    .rename_i ho;simp only[A2,beq_iff_eq]at z;rw[lookupAlong_cons];refine wpAny_bind<|wpAny_classOwn_cls (X _ _ ho) (.of_isNs<|L7 X z.1.1) ?_;rw[A6 X z.1.1 z.1.2];exact zq X hv q z.2
    .cases z
   .cases z
theorem OF{n:Str}{y:Option Value}{Q:Option Value->Shared->Prop}(X:K.In h)(hC:NJ K C)(hq:yq K C n=true)(hB:typeLookup (.type "ValueError") n=pure y)(q:Q y ⟨h,g,d,t,os⟩):wpAny M A (typeLookup (.ref C) n) Q E ⟨h,g,d,t,os⟩:=by
 have hv:lookupAlong oj n=pure y:=by rw[typeLookup_eq,PySem.F.excBase_ValueError.mroIs]at hB;exact hB
 obtain⟨bm,N,nm,qn,bs,hd,sn,sub,ab,col,dd,k0,k1,k2,k3,k5,mN,e1,e2,e3,e4⟩:=FZ X hC;unfold yq at hq;rw[e1]at hq;simp only[A2,beq_iff_eq]at hq;rw[typeLookup_eq];refine wpAny_bind<|wpAny_mroOf_exc (X _ _ e1) ?_;rw[lookupAlong_cons];refine wpAny_bind<|wpAny_classOwn_cls (X _ _ e1) (.of_isNs<|L7 X hq.1.2) ?_;rw[A6 X hq.1.2 hq.2];exact zq X hv q hq.1.1
theorem mG{Q:Bool->Shared->Prop}(X:K.In h){N:Addr}{nm qn:Str}{bs bm:List Value}{hd:Bool}{sn:List Str}{sub:List Value}{ab:Bool}{col:Option Bool}{dd:Option Addr}{k0 k1 k2 k3 k5:Option Value}{i:String}(e1:K.lookup C=some (excClassObj nm qn C N bs bm hd sn sub ab col dd k0 k1 k2 k3 k5 i))(hb:(E2 C::bm).contains v=b)(q:Q b ⟨h,g,d,t,os⟩):wpAny M A (isSubtype (.ref C) v) Q E ⟨h,g,d,t,os⟩:=wpAny_isSubtype_exc (X _ _ e1) (by rw[hb];exact q)
end
theorem qj:typeLookup (.type "ValueError") "__class__"=pure (some<|.builtin "object.__class__"):=by rw[typeLookup_type,builtinLookup_eq_fast];kernel_rfl
section
variable {w:World}{g:Array GenState}{d:Drawn}{t:Nat}{os:OsState}{K:G0}{a C:Addr}
theorem ww(X:K.In h)(hC:ExcQ K C)(hx:h.get? a=some o)(hc:o.cls=.ref C)(q:R (.ok<|.ret<|.ref C) ⟨h,g,d,t,os⟩):codeAny (model prog w) A (.call (.builtin "getset_descriptor.__get__") ⟨[.builtin "object.__class__",.ref a,.ref C],[]⟩) R ⟨h,g,d,t,os⟩:=by
 have tq:(⟨h,g,d,t,os⟩:Shared).TypeIs (.builtin "object.__class__") "getset_descriptor":=PySem.F.typeOf_object_class;obtain⟨bm,N,nm,qn,bs,hd,sn,sub,ab,col,dd,k0,k1,k2,k3,k5,mN,e1,e2,e3,e4⟩:=FZ X hC.c;have cb:(E2 C::bm).contains (.type<|".".intercalate ("object.__class__".cutAt '.').dropLast)=true:=by rw[PySem.F.owner_object_class,O5,e4.hasType (b:=true)<|by decide];rfl
 refine codeAny_call_builtin PySem.F.slot_gs_get.plain PySem.F.entry_gs_get<|PySem.F.slot_gs_get.check _ _ _ _ _ _ _ _ tq (PySem.F.args_gs_get _ _ _) ?_;repeat (any_goals (first|assumption|(with_reducible refine wpAny_loadPart_at hx ?_;rw[hc])|(with_reducible refine mG X e1 cb ?_)|wp_step))
 refine⟨Code.quiet_builtin _ (by decide +kernel),codeAny_builtin PySem.F.entry_object_class ?_⟩;repeat (any_goals (first|assumption|(with_reducible refine wpAny_loadPart_at hx ?_;rw[hc])|wp_step))
theorem PF{Q:Fin->Shared->Prop}(X:K.In h)(hC:ExcQ K C)(hx:h.get? a=some o)(hc:o.cls=.ref C)(q:Q (.done<|.ret<|.ref C) ⟨h,g,d,t,os⟩):wpAny (model prog w) A (Builtin.«object.__getattribute__» ⟨[.ref a,.str "__class__" tk],[]⟩) Q E ⟨h,g,d,t,os⟩:=by
 have tq:(⟨h,g,d,t,os⟩:Shared).TypeIs (.builtin "object.__class__") "getset_descriptor":=PySem.F.typeOf_object_class;have r1:=PySem.F.typeOf_object_class;have r2:=PySem.F.slot_gs_get.lookup;have r3:=PySem.F.slot_gs_set.lookup;repeat (any_goals (first|assumption|(with_reducible refine wpAny_loadPart_at hx ?_;rw[hc])|with_reducible refine OF X hC.c hC.q3 qj ?_|wp_step))
 refine ww X hC hx hc ?_;repeat (any_goals (first|assumption|wp_step))
theorem QF{Q:Unit->Shared->Prop}(X:K.In h)(hC:ExcQ K C)(hx:h.get? a=some o)(hc:o.cls=.ref C)(q:Q () ⟨h,g,d,t,os⟩):wpAny M A (checkBuiltinCall "BaseException.__getattribute__" ⟨[.ref a,v],[]⟩) Q E ⟨h,g,d,t,os⟩:=by
 obtain⟨bm,N,nm,qn,bs,hd,sn,sub,ab,col,dd,k0,k1,k2,k3,k5,mN,e1,e2,e3,e4⟩:=FZ X hC.c;have y1:builtinKind "BaseException.__getattribute__"=some .slot:=by decide +kernel
 have y2:splitId "BaseException.__getattribute__"=some ("BaseException","__getattribute__"):=by decide +kernel
 have cb:(E2 C::bm).contains (.type "BaseException")=true:=by rw[O5,e4.hasType (b:=true)<|by decide];rfl
 have y3:=PySem.F.args_bexc_ga (.ref a) v;simp only[checkBuiltinCall,y1,y2];refine wpAny_bind ?_;unfold isInstance;repeat (first|(with_reducible refine wpAny_loadPart_at hx ?_;rw[hc])|(with_reducible refine mG X e1 cb ?_)|wp_step)
 exact q
theorem aB{fill:Bool}(X:K.In h)(hC:ExcQ K C)(hx:h.get? a=some o)(hc:o.cls=.ref C)(q:Q (.ref C) ⟨h,g,d,t,os⟩):wpAny (model prog w) A (getAttrBy (.ref a) (.str "__class__" tk) fill) Q E ⟨h,g,d,t,os⟩:=by
 have y1:=PySem.F.attrBase_ValueError.ga.bind<|.ref a;have y2:(o7 "BaseException.__getattribute__"==o7 "object.__getattribute__")=false:=by decide +kernel
 have y3:(onTheHeap (E2 C)&&o7 "BaseException.__getattribute__"==o7 "object.__getattribute__")=false:=by rw[y2];rfl
 repeat (any_goals (first|assumption|(with_reducible refine wpAny_loadPart_at hx ?_;rw[hc])|with_reducible refine OF X hC.c hC.q1 PySem.F.attrBase_ValueError.ga.lookup ?_|with_reducible refine OF X hC.c hC.q2 PySem.F.attrBase_ValueError.noGetattr ?_|wp_step))
 refine codeAny_call_builtin PySem.F.attrBase_ValueError.ga.plain PySem.F.entry_bexc_ga<|QF X hC hx hc<|PF X hC hx hc ?_;repeat (any_goals (first|assumption|wp_step))
theorem rj{Q:Option Value->Shared->Prop}(X:K.In h)(hC:ExcQ K C)(hx:h.get? a=some o)(hc:o.cls=.ref C)(q:Q (some<|.ref C) ⟨h,g,d,t+1,os⟩):wpAny (model prog w) A (getAttr? (.ref a) "__class__") Q E ⟨h,g,d,t,os⟩:=by unfold getAttr? getAttrBy?;repeat (any_goals (first|assumption|with_reducible apply aB X hC hx hc|wp_step))
end
noncomputable def QX(K:G0)(D:Addr):Bool:=match K.lookup D with
 |some ⟨.type "type",_,.cls _,_⟩=>true
 |_=>false
theorem bB{K:G0}(q:QX K D=true):∃dd cd sl,K.lookup D=some ⟨.type "type",dd,.cls cd,sl⟩:=by
 unfold QX at q;split at q
 .rename_i ho;exact⟨_,_,_,ho⟩
 .cases q
theorem xw:isSubtype (.type "type") (.type "type")=pure true:=by rw[isSubtype_type];kernel_rfl
theorem yw:typeOf (.type "ValueError")=pure (.type "type"):=by kernel_rfl
section
variable {w:World}{g:Array GenState}{d:Drawn}{t:Nat}{os:OsState}{K:G0}{a C D:Addr}{b:Bool}
theorem gE{Q:Fin->Shared->Prop}(X:K.In h)(hC:ExcQ K C)(hD:QX K D=true)(hb:sQ K C D=b)(hx:h.get? a=some o)(hc:o.cls=.ref C)(q:∀tk',Q (.done<|.ret<|.bool b) ⟨h,g,d,tk',os⟩):wpAny (model prog w) A (Builtin.«isinstance.nested» ⟨[.ref a,.ref D,.int dep tk],[]⟩) Q E ⟨h,g,d,t,os⟩:=by
 obtain⟨bm,N,nm,qn,bs,hd,sn,sub,ab,col,dd,k0,k1,k2,k3,k5,mN,e1,e2,e3,e4⟩:=FZ X hC.c;obtain⟨dD,cD,sD,f1⟩:=bB hD;have cb:(E2 C::bm).contains (.ref D)=b:=(uw e1).trans hb;have hD2:=X _ _ f1;have hC2:=X _ _ e1;have r1:=xw;by_cases z:C=D
 .subst z;have:b=true:=by rw[<-cb,O5];simp
  subst this;have ee:(E2 C==E2 C)=true:=by simp
  have q1:=q t;repeat (any_goals (first|assumption|(with_reducible refine wpAny_loadPart_at hx ?_;rw[hc])|wp_step))
 .have ee:(E2 C==E2 D)=false:=by simp[z]
  have q1:=q t;have q2:=q<|t+1;cases b with
  |true=>repeat (any_goals (first|assumption|(with_reducible refine wpAny_loadPart_at hx ?_;rw[hc])|with_reducible refine wpAny_loadPart_at hD2 ?_|(with_reducible refine mG X e1 cb ?_)|wp_step))
  |false=>repeat (any_goals (first|assumption|(with_reducible refine wpAny_loadPart_at hx ?_;rw[hc])|with_reducible refine wpAny_loadPart_at hD2 ?_|(with_reducible refine wpAny_loadPart_at hC2 ?_)|(with_reducible refine mG X e1 cb ?_)|with_reducible refine rj X hC hx hc ?_|wp_step))
end
section
variable {w:World}{g:Array GenState}{d:Drawn}{t:Nat}{os:OsState}{K:G0}{a C D:Addr}{b:Bool}
theorem OO{Q:Fin->Shared->Prop}(X:K.In h)(hC:ExcQ K C)(hx:h.get? a=some o)(hc:o.cls=.ref C)(q:∀tk',Q (.done<|.ret<|.bool true) ⟨h,g,d,tk',os⟩):wpAny (model prog w) A (Builtin.«isinstance.nested» ⟨[.ref a,.type "ValueError",.int dep tk],[]⟩) Q E ⟨h,g,d,t,os⟩:=by
 obtain⟨bm,N,nm,qn,bs,hd,sn,sub,ab,col,dd,k0,k1,k2,k3,k5,mN,e1,e2,e3,e4⟩:=FZ X hC.c;have cb:(E2 C::bm).contains (.type "ValueError")=true:=by rw[O5,e4.hasType (b:=true)<|by decide];rfl
 have r1:=yw;have ee:(E2 C==P4 "ValueError")=false:=by rfl
 have q1:=q t;repeat (any_goals (first|assumption|(with_reducible refine wpAny_loadPart_at hx ?_;rw[hc])|(with_reducible refine mG X e1 cb ?_)|wp_step))
theorem QO(hP:∀s tk,P s->P {s with toks:=tk}){Q:Fin->Shared->Prop}(hx:h.get? a=some o)(hc:o.cls=.ref C)(ne:C≠tp)(hT:h.get? tp=some oT) (hTc:oT.cls=.type "tuple") (hTd:oT.data=.seq cs.toArray n) (ha:AnswersAll P (.ref a) cs vs) (hs:P ⟨h,g,d,t,os⟩) (q:∀tk',Q (.done<|.ret<|.bool<|vs.any id) ⟨h,g,d,tk',os⟩):wpAny (model prog w) A (Builtin.«isinstance.nested» ⟨[.ref a,.ref tp,.int 0 tk],[]⟩) Q E ⟨h,g,d,t,os⟩:=by
 have tt:(⟨h,g,d,t,os⟩:Shared).TypeIs (.ref tp) "tuple":=⟨_,hT,hTc⟩;have r1:=PySem.F.isi_sub_tuple;have ee:(E2 C==E2 tp)=false:=by simp[ne]
 obtain⟨c0,d0,data0,sl0⟩:=oT;simp only at hTc hTd;subst hTc hTd;repeat (any_goals (first|assumption|(with_reducible refine wpAny_loadPart_at hx ?_;rw[hc])|wp_step))
 refine wpAny_arrayLoop ?_;simp only[n4,List.toList_toArray];refine isinstance_items (dep:=0) hP cs vs _ _ ha hs λtk'=>?_;cases hv:vs.any id with
 |true=>rw[if_pos rfl];have:=q tk';rw[hv]at this;repeat (any_goals (first|assumption|wp_step))
 |false=>rw[if_neg<|by decide];have:=q tk';rw[hv]at this;repeat (any_goals (first|assumption|wp_step))
end
def zw(K:G0):List V->Hp->VK->Prop:=λxs H Q=>∃a C D:Addr,xs=[.ref a,.ref D]/\H a=some (xY a C)/\ExcQ K C/\QX K D=true/\Q (.bl<|sQ K C D) H
def RF(K:G0):List V->Hp->VK->Prop:=λxs H Q=>∃a C:Addr,xs=[.ref a,.ty "ValueError"]/\H a=some (xY a C)/\ExcQ K C/\Q (.bl true) H
def SF(K:G0):List V->Hp->VK->Prop:=λxs H Q=>∃(a C p:Addr) (Ds:List Addr),xs=[.ref a,.ref p]/\H a=some (xY a C)/\H p=some (.tup<|Ds.map V.ref)/\ExcQ K C/\(∀D∈Ds,QX K D=true)/\Q (.bl<|Ds.any<|sQ K C) H
theorem TF(I:Inv X pins σ H s)(h:H a=some (xY a C)):∃o,s.heap.get? a=some o/\o.cls=.ref C:=by obtain⟨⟨o,vs,e1,e2,_⟩,_⟩:=(show ObjOk X.prog X.w H s.heap a (xY a C) from I.hok a _ h);exact⟨o,e1,e2⟩
theorem sj:ZQ X (.builtin "isinstance") (zw X.K):=by intro pins s σ H xs us Q I r h;obtain⟨a,C,D,rfl,hH,hC,hD,q⟩:=h;obtain⟨u1,u2,rfl,r1,r2⟩:=bY r;cases r1;cases r2;obtain⟨o,e1,e2⟩:=TF I hH;obtain⟨h,g,d,t,os⟩:=s;exact call_isinstance_of<|gE I.kIn hC hD rfl e1 e2 λtk'=>⟨.bl _,H,I.tok tk',rfl,q⟩
theorem UF:ZQ X (.builtin "isinstance") (RF X.K):=by intro pins s σ H xs us Q I r h;obtain⟨a,C,rfl,hH,hC,q⟩:=h;obtain⟨u1,u2,rfl,r1,r2⟩:=bY r;cases r1;cases r2;obtain⟨o,e1,e2⟩:=TF I hH;obtain⟨h,g,d,t,os⟩:=s;exact call_isinstance_of<|OO I.kIn hC e1 e2 λtk'=>⟨.bl _,H,I.tok tk',rfl,q⟩
theorem Aq:∀{Ds:List Addr}{us:List Value},Vals (Ds.map V.ref) us->us=Ds.map E2
 |[],_,r=>by cases r;rfl
 |D::Ds,_,r=>by
  cases r with
  |cons r1 r2=>cases r1;rw[Aq r2];rfl
theorem Bq{K:G0}{a C:Addr}(hC:ExcQ K C)(hc:o.cls=.ref C):∀{Ds:List Addr},(∀D∈Ds,QX K D=true)->AnswersAll (λs=>K.In s.heap/\s.heap.get? a=some o) (.ref a) (Ds.map E2) (Ds.map<|sQ K C)
 |[],_=>trivial
 |D::Ds,h=>by refine⟨λ_ _ _ _ _ _ s hs=>?_,Bq hC hc λD hD=>h D<|K0 _ hD⟩;obtain⟨hh,g,d,t,os⟩:=s;exact gE hs.1.1 hC (h D L0) rfl hs.1.2 hc λtk'=>hs.2 tk'
theorem VF:ZQ X (.builtin "isinstance") (SF X.K):=by
 intro pins s σ H xs us Q I r h;obtain⟨a,C,p,Ds,rfl,hH,hp,hC,hD,q⟩:=h;obtain⟨u1,u2,rfl,r1,r2⟩:=bY r;cases r1;cases r2;obtain⟨o,e1,e2⟩:=TF I hH;obtain⟨_,its,rv,oT,f1,f2,n,f3,_⟩:=(show ObjOk X.prog X.w H s.heap p (.tup<|Ds.map V.ref) from I.hok p _ hp);have:=Aq rv;subst this;have ne:C≠p:=λz=>by obtain⟨bm,N,nm,qn,bs,hd,sn,sub,ab,col,dd,k0,k1,k2,k3,k5,mN,g1,_⟩:=FZ I.kIn hC.c;have:=I.kIn _ _ g1;rw[z,f1]at this;cases this;exact absurd (Value.type.inj f2) (by decide)
 have hv:(Ds.map<|sQ X.K C).any id=Ds.any (sQ X.K C):=by rw[List.any_map];rfl
 obtain⟨h,g,d,t,os⟩:=s;refine call_isinstance_of<|QO (vs:=Ds.map<|sQ X.K C) (P:=λs=>X.K.In s.heap/\s.heap.get? a=some o) (λ_ _ z=>z) e1 e2 ne f1 f2 f3 (Bq hC e2 hD) ⟨I.kIn,e1⟩ λtk'=>⟨.bl _,H,I.tok tk',rfl,?_⟩;rw[hv];exact q
structure CalX(P:Program)(w:World)(K:G0)(mg:Str->Option Value)(base:Heap)(k:Nat)(x:Str)(ps:List Str)(sp:Sp):Prop where
 ex:∃(f:Addr) (fd:FuncData),FnOk P w K mg base (QZ P w) k f fd ps sp/\mg x=some (.ref f)/\O3 K (.ref f)=true/\Binds K fd ps []
noncomputable def IR(K:G0)(iE iC:Nat)(B:Addr)(D:Ends)(σ:St):XK:=λCv _ H2=>∃C,Cv=.ref C/\NJ K C/\sQ K C B=true/\∀a,H2 a=none->D.nx (((σ.set iE<|some<|.ref a).set iC<|some<|.ref a).set iE none) (upd H2 a<|xY a C)
def Aw(K:G0)(iE iC:Nat)(B:Addr)(sp:Sp)(t:TA):TS:=λD σ H=>t σ H λvs H1=>sp vs H1 (λ_ _=>False)<|IR K iE iC B D σ
section
variable {k iE iC:Nat}{f n b c:Str}{ps:List Str}{sp:Sp}{t:TA}{e1:Expr}{es:List Expr}{p cpos pb pn pc p3 hpos apos pos py:Pos}
noncomputable abbrev hdl(b n c:Str)(pb pn pc p3 hpos:Pos):ExceptHandler:=.ExceptHandler (some<|.Name b pb) (some n) [.Assign [.Name c pc] (.Name n pn) p3] hpos
structure Tr(X:Cx)(b n c:Str)(pn pc p3:Pos)(iE iC:Nat)(B:Addr):Prop where
 hst:X.stack=X.env::X.outer
 hfr:X.env.frame=some X.env.locals
 hex:X.ex=[]
 hN:X.N.Nodup
 hiE:X.N[iE]?=some n
 hlE:X.env.scope.names.lookup n=some .local
 hiC:X.N[iC]?=some c
 hlC:X.env.scope.names.lookup c=some .local
 hgb:Gl X b
 hmb:X.mg b=some (.ref B)
 hB:NJ X.K B
 hs3:swapsWith (.Name n pn) (some<|.Name c pc) p3.line X.env=pure false
 hdb:(b==("__debug__":Str))=false
 hd1:(n==("__debug__":Str))=false
 hd2:(n==("__classdict__":Str))=false
theorem nG(T:Tr X b n c pn pc p3 iE iC B)(C:CalX X.prog X.w X.K X.mg X.base k f ps sp)(hr:Room k X.A)(ha:PA X.nox (e1::es) t)(hg:Gl X f)(hdf:(f==("__debug__":Str))=false)(he:starEach (e1::es) X.env=(false,eval e1 X.env)::starEach es X.env) (hpl:(backTo cpos<|starEach es X.env).any (·.1)=false) (I:Inv X pins σ H s) (h:Aw X.K iE iC B sp t D σ H):wpAny (model X.prog X.w) X.A (eval (.Call (.Name f p) (e1::es) [] cpos) X.env) Qv (λe s1=>wpAny (model X.prog X.w) X.A (noteFrame e X.env) (λ_ s2=>wpAny (model X.prog X.w) X.A (setFlight e none) (λ_ s3=>wpAny (model X.prog X.w) X.A (handleBy e X.env [hdl b n c pb pn pc p3 hpos]) (SP X pins D) Eo s3) Eo s2) Eo s1) s:=by
 obtain⟨fa,fd,F,hm,hk,hb⟩:=C.ex;refine wpAny_Call_Name_kw<|vJ I hg hm ?_ hdf;refine Y4 (h₀:=X.base) I.ok.mod.kin hk (wpAny_mono (ha cpos pins s σ H _ (I.wish _) h) (λus s1 ⟨vs,H1,I1,r,q⟩=>⟨I1.kIn,?_⟩) λ_ _ z=>z.elim) he hpl;have J1:=I1.unwish;have hl:us.length=ps.length:=by rw[<-r.length];exact F.len _ _ _ _ q
 have hbb:=hb s1 us J1.kIn (by rw[L1];exact hl);rw[L1]at hbb;refine wpAny_call<|codeAny_mono (F.run X.A X.stack s1 H1 ⟨us,[]⟩ us vs _ _ hr J1.env0 hbb r q) λrr s' hq=>?_;cases rr with
 |error e=>have hq:QZ X.prog X.w X.stack H1 s1 (IR X.K iE iC B D σ) e s':=hq;exact vw J1 T.hst T.hfr T.hex T.hN T.hiE T.hlE T.hiC T.hlC T.hgb T.hmb T.hB hq (λCv o H2 z=>z) T.hs3 T.hdb T.hd1 T.hd2
 |ok fl =>
  cases fl with
  |ret u=>obtain⟨_,_,_,_,_,_,_,z⟩:=hq;exact z.elim
  |next=>exact False.elim hq
  |brk=>exact False.elim hq
  |cont=>exact False.elim hq
theorem cB{body:List Stmt}(hb:PSs X.nox body tb):PS X (.Try body (h0::hs) [] [] pos) tb:=by
 intro pins s σ H D I h;refine wpAny_Try_except<|wpAny_mono (hb pins s σ H D (I.wish _) h) (λfl s1 q=>?_) λ_ _ z=>z.elim;cases fl with
 |next=>exact wpAny_execs_nil q.unwish
 |ret v=>exact q.unwish
 |brk=>exact q.unwish
 |cont=>exact q.unwish
end
def PR(X:Cx)(sts:List Stmt)(E:XK)(C:Addr)(t:TS):Prop:=∀(pins:List (Addr×Obj)) (s:Shared) (σ:St) (H:Hp) (D D':Ends),Inv X pins σ H s->t D σ H->(∀σ H,D.nx σ H->E (.ref C) none H)->(∀v H,¬D.rt v H)->(∀σ H,¬D.bk σ H)->(∀σ H,¬D.ct σ H) ->
 wpAny (model X.prog X.w) X.A (execs sts X.env) (SP X pins D') X.xe s
theorem dB{st:Stmt}{rest:List Stmt}{E:XK}{u:TS}(h1:PS X.nox st t)(h2:PR X rest E C u):PR X (st::rest) E C (uy t u):=by
 intro pins s σ H D D' I h n r b c;refine wpAny_execs_cons<|wpAny_mono (h1 pins s σ H {D with nx:=u D} (I.wish _) h) (λf s1 q=>?_) λ_ _ z=>z.elim;cases f with
 |next=>obtain⟨σ',H',I',q⟩:=q;exact h2 pins s1 σ' H' D D' I'.unwish q n r b c
 |ret v=>obtain⟨v,σ',H',I',_,q⟩:=q;exact(r _ _ q).elim
 |brk=>obtain⟨σ',H',I',q⟩:=q;exact(b _ _ q).elim
 |cont=>obtain⟨σ',H',I',q⟩:=q;exact(c _ _ q).elim
end L2
namespace L3
open L2
noncomputable abbrev EX:=List Sl->Addr->Prop
noncomputable def nQ(K:Fg)(con:EX):Sp:=λvs H _ E=>∃(G:Gh) (F:Hp) (args:List Sl) (C:Addr),Rel K G F (vs.map some) H (args.map some)/\con args C/\∀σ' H' F' ρ',Sub F F'->Rel K G F' σ' H' ρ'->E (.ref C) none H'
theorem Rel.off{K:Fg}{i:Nat}(R:Rel K G F σ H ρ)(h:ρ[i]?=some none)(hl:σ'.length=σ.length)(hs:∀j,j≠i->σ'[j]?=σ[j]?):Rel K G F σ' H ρ:=by
 have ne:∀{j s},ρ[j]?=some (some s)->j≠i:=λ{j s} e z=>by rw[z,h]at e;cases e
 refine⟨by rw[hl];exact R.len,R.sub,R.sub0,R.fn,R.keep,R.tb,λj d e=>?_,λj s e w=>?_,λj d a e eb=>?_,λj a e=>?_,R.ioi,λj k s t a e1 w1 e2 w2 e3 e4=>?_⟩
 .rw[hs j<|ne e];exact R.fz j d e
 .rw[hs j<|ne e];exact R.ow j s e w
 .rw[hs j<|ne e]at eb;exact R.new j d a e eb
 .obtain⟨d,e1,e2⟩:=R.io j a e;exact⟨d,e1,by rw[hs j<|ne e1];exact e2⟩
 .rw[hs j<|ne e1]at e3;rw[hs k<|ne e2]at e4;exact R.ap j k s t a e1 w1 e2 w2 e3 e4
noncomputable def Bw(K:Fg)(iE iC:Nat)(B:Addr)(con:EX)(as:List AD):LZ:=λE ρ=>JX as ρ λxs ρ1=>TQ ρ1 xs λds=>∃C,con (ds.map Sl.fz) C/\NJ K C/\sQ K C B=true/\ρ1[iE]?=some none/\iE≠iC/\Mz ρ1 iC/\E.nx (ρ1.set iC<|some<|.fz<|Lz C)
theorem Cw{K:Fg}{D:Ends}(h:oQ K (Bw K iE iC B con as) D σ H):Aw K iE iC B (nQ K con) (rQ<|as.map<|kQ K) D σ H:=by
 obtain⟨G,F,ρ,Ed,R,w,n,r,b,c⟩:=h;refine wX R w λvs H1 F1 xs ρ1 s1 R1 o w1=>?_;obtain⟨ds,da,C,w2,hC,hsub,hE,hne,hio,w3⟩:=sZ (xs:=xs) R1 (λy hy=>hy) o w1;refine⟨_,_,ds.map Sl.fz,C,zZ (PK R1) (yY R1) da,w2,λσ' H' F' ρ' s' R'=>⟨C,rfl,hC,hsub,λa na=>?_⟩⟩;obtain⟨sb,R2⟩:=R1.called R';have R3:=R2.laid (o:=xY a C) na;obtain⟨sb3,R4⟩:=R3.grow (a:=a) (o:=xY a C) (R2.h0 na) uQ λi s e w z=>by obtain⟨a',o',g1,g2,g3,g4⟩:=R2.ow i s e w;rw[z]at g1;cases g1;rw[na]at g3;cases g3
 have R5:=R4.asg (s:=.fz<|Lz C) (v:=.ref a) hio<|Da.exc uQ;have hi:iE<σ.length:=by rw[R1.len];exact sX hE
 refine n _ _ _ _ (s1.trans<|sb.trans sb3) (R5.off (i:=iE) (by rw[Z0<|S2 hne];exact hE) (by simp) λj hj=>?_) w3;rw[Z0<|S2 hj];by_cases z:j=iC
 .subst z;rw[V5,V5];simp[V5]
 .rw[Z0<|S2 z,Z0<|S2 hj,Z0<|S2 z]
noncomputable def BS(tc:jY):LZ:=λE ρ=>tc ρ λb ρ'=>b=true/\E.nx ρ'
structure WR(X:Cx)(sts:List Stmt)(E:XK)(C:Addr)(t:TS):Prop where
 h:PR X sts E C t
section
variable {K:Fg}{st:Stmt}{rest:List Stmt}{E:XK}{C:Addr}{t u:LZ}{tc:jY}{c:Expr}{x tx:Str}{k:Nat}{np cpos rpos pos p2:Pos}
theorem OJ(h1:WS X.nox st (oQ K t))(h2:WR X rest E C (oQ K u)):WR X (st::rest) E C (oQ K<|Nz t u):=⟨λpins s σ H D D' I h n r b c=>dB h1.h h2.h pins s σ H D D' I (NC h) n r b c⟩
theorem tj(hxe:∀e s',wpAny (model X.prog X.w) X.A (leaving X.env e) (λ_ s2=>QZ X.prog X.w X.outer X.H₀ X.s₀ E e s2) (λe2 s2=>QZ X.prog X.w X.outer X.H₀ X.s₀ E e2 s2) s'->X.xe e s')(hc:WT X.nox c (xQ K tc))(hm:X.mg x=some (.ref C))(hC:NJ X.K C)
  (hst:X.stack=X.env::X.outer:=by rfl) (hfr:X.env.frame=some X.env.locals:=by rfl) (hex:X.ex=[]:=by rfl) (hca:X.calm=true:=by rfl) (hg:Gl X x:=by rfl) (hdb:(x==("__debug__":Str))=false:=by decide) :
  WR X (.If c [.Raise (some<|.Call (.Name x np) [.Constant (.str tx) k p2] [] cpos) none rpos] [] pos::rest) E C (oQ K<|BS tc):=by
 refine⟨λpins s σ H D D' I h n r b cc=>?_⟩;obtain⟨G,F,ρ,Ed,R,w,dn,dr,db,dc⟩:=h;have P1:=AC (pos:=pos) (X:=X) (PT.nox hc.h) (PU<|tw (E:=E) (t:=tx) (k:=k) (np:=np) (cpos:=cpos) (pos:=rpos) (p2:=p2) hxe hst hfr hex hca hg hm hC hdb) (FD (X:=X)) pins s σ H {nx:=λ_ _=>False,rt:=λ_ _=>False} I
  ⟨G,F,ρ,_,R,w,λbb H' F' ρ' sb R' q=>by obtain⟨rfl,q⟩:=q;exact n σ H'<|dn σ H' F' ρ' sb R' q⟩;refine wpAny_execs_cons<|vX P1 λf s1 q=>?_;cases f with
 |next=>obtain⟨_,_,_,z⟩:=q;exact z.elim
 |ret v=>obtain⟨_,_,_,_,_,z⟩:=q;exact z.elim
 |brk=>obtain⟨_,_,_,z⟩:=q;exact z.elim
 |cont=>obtain⟨_,_,_,z⟩:=q;exact z.elim
end
section
variable {P:Program}{w:World}{K:G0}{mg:Str->Option Value}{base:Heap}
theorem YK{st:Stmt}{ts:LZ}(F:Fun K x qual st f fd)(S:FnScope N ps (aQ st))(hb:∀(cdv:Value) (A:Around) (outer:List Env) (s:Shared) (H:Hp) (E:XK),Room k (A.deeper<|envOfC qual (aQ st) s.heap.objs.size f cdv)->WR (NY (QZ P w) P w K mg base N qual (aQ st) f cdv A outer s H E) (cX st) E C (oQ K ts))(hl:∀args C',con args C'->args.length=ps.length) (hc:∀args C',con args C'->C'=C/\(∀s∈args,∀d,s≠.ow d)/\ts {nx:=λ_=>True,rt:=λ_ _=>False,bk:=λ_=>False,ct:=λ_=>False} (dJ N.length args)):FnOk P w K mg base (QZ P w) (k+1) f fd ps (nQ K con):=by
 obtain⟨oc,od,kV,doc,pm,an,cdv,ct,osl,rfl,lk,hcd⟩:=F.ex;refine JD lk hcd S (λvs H Q E h=>?_) λA outer s H vs Q E hr hsp=>?_
 .obtain⟨G,F',args,C',R,w',_⟩:=h;have h1:=hl args C' w';have h2:=R.len;rw[B0,B0]at h2;rw[h2,h1]
 .refine⟨λD σ H=>∃D0:Ends,oQ K ts D0 σ H/\(∀σ H,D0.nx σ H->E (.ref C) none H)/\(∀v H,¬D0.rt v H)/\(∀σ H,¬D0.bk σ H)/\∀σ H,¬D0.ct σ H,λpins s1 σ H1 D I h=>?_,?_⟩
  .obtain⟨D0,h,n,r,b,c⟩:=h;exact(hb cdv A outer s H E hr).h pins s1 σ H1 D0 D I h n r b c
  .obtain⟨G,F',args,C',R,w',q⟩:=hsp;obtain⟨rfl,hn,w2⟩:=hc args C' w';refine⟨{nx:=λ_ H'=>E (.ref C') none H',rt:=λ_ _=>False},⟨G,F',_,_,R.start,w2,λσ' H' F2 ρ' s' R' _=>q σ' H' F2 ρ' s' R',λ_ _ _ _ _ _ _ _ _ z=>z,λ_ _ _ _ _ _ z=>z,λ_ _ _ _ _ _ z=>z⟩,λ_ _ z=>z,λ_ _ z=>z,λ_ _ z=>z,λ_ _ z=>z⟩
end
noncomputable def cA(mg:Str->Option Value)(x:Str):Addr:=match mg x with
 |some (.ref a)=>a
 |_=>0
theorem cA_of(h:mg x=some (.ref a)):cA mg x=a:=by unfold cA;rw[h]
theorem WZ{mg:Str->Option Value}(h:mg x=some (.ref a)):mg x=some (.ref<|cA mg x):=by rw[cA_of h];exact h
theorem jE{K:Fg}(h:DaKV K F kvs es){b:Bool}{d:D}{r:List (D×D)}(e:es=(.bool b,d)::r):False:=by
 cases h with
 |nil=>cases e
 |@cons k _ _ _ _ _ _=>cases k<;>cases e
theorem kE{K:Fg}(h:DaKT K F kvs es){b:Bool}{d:D}{r:List (D×D)}(e:es=(.bool b,d)::r):False:=by cases h<;>cases e
theorem At.exc{K:Fg}(s:Sub F H)(h:At K F H v (Lz C)):∃a,v=.ref a/\H a=some (xY a C):=by
 rcases h with h|⟨a,o,rfl,_,e,h⟩
 .have gen:∀{d:D},Da K F v d->d=Lz C->∃a,v=.ref a/\H a=some (xY a C):=λ{d} h e=>by
   cases h with
   |dk q t=>injection e with e;exact(jE t e).elim
   |dt q t=>injection e with e;exact(kE t e).elim
   |scr q=>cases e
   |@exc a C' q=>injection e with e;injection e with e _;injection e with _ e;injection e with e;have:C'=C:=V9 e;subst this;exact⟨a,rfl,s _ _ q⟩
   |_=>cases e
  exact gen h rfl
 .cases o with
  |dK kvs=>exact(jE (show DaKV K F kvs [(.bool true,.int (C:Nat))] from h) rfl).elim
  |dT kvs=>exact(kE (show DaKT K F kvs [(.bool true,.int (C:Nat))] from h) rfl).elim
  |_=>exact h.elim
noncomputable def gM(K:Fg)(B:Addr):D->(Sl->Prop)->Prop
 | .dict [(.bool true,.int c)],Q=>∃C:Addr,c=((C:Nat):Int)/\ExcQ K C/\QX K B=true/\Q (.fz<|.bool<|sQ K C B)
 |_,_=>False
noncomputable def Dw(K:Fg)(Bs:List Addr):D->(Sl->Prop)->Prop
 | .dict [(.bool true,.int c)],Q=>∃C:Addr,c=((C:Nat):Int)/\ExcQ K C/\(∀B∈Bs,QX K B=true)/\Q (.fz<|.bool<|Bs.any<|sQ K C)
 |_,_=>False
noncomputable def Ew(K:Fg):D->(Sl->Prop)->Prop
 | .dict [(.bool true,.int c)],Q=>∃C:Addr,c=((C:Nat):Int)/\ExcQ K C/\Q (.fz<|.bool true)
 |_,_=>False
theorem iM{K:Fg}:OQ K (λvs H Q=>∃x,vs=[x]/\zw K [x,.ref B] H Q) (o1<|gM K B):=ZH λG F σ H ρ x d Q Qd R h1 w k=>by
 unfold gM at w;split at w
 .obtain⟨C,rfl,hC,hB,w⟩:=w;obtain⟨a,rfl,e⟩:=At.exc R.sub h1;exact⟨_,rfl,a,C,B,rfl,e,hC,hB,k _ H F (.fz _) (Sub.refl _) R (Da.bl _) w⟩
 .exact w.elim
theorem eB{K:Fg}:OQ K (λvs H Q=>∃x,vs=[x]/\RF K [x,.ty "ValueError"] H Q) (o1<|Ew K):=ZH λG F σ H ρ x d Q Qd R h1 w k=>by
 unfold Ew at w;split at w
 .obtain⟨C,rfl,hC,w⟩:=w;obtain⟨a,rfl,e⟩:=At.exc R.sub h1;exact⟨_,rfl,a,C,rfl,e,hC,k _ H F (.fz _) (Sub.refl _) R (Da.bl _) w⟩
 .exact w.elim
theorem fB{K:Fg}:OQ K (λvs H Q=>∃x,vs=[x]/\(Bs.map V.ref).length<=sizeLine/\∀p,H p=none->SF K [x,.ref p] (upd H p<|.tup<|Bs.map V.ref) Q) (o1 λd Q=>Bs.length<=1000/\Dw K Bs d Q):=ZH λG F σ H ρ x d Q Qd R h1 w k=>by
 obtain⟨hl,w⟩:=w;unfold Dw at w;split at w
 .obtain⟨C,rfl,hC,hB,w⟩:=w;obtain⟨a,rfl,e⟩:=At.exc R.sub h1;exact⟨_,rfl,by rw[B0];exact fQ hl,λp hp=>⟨a,C,p,Bs,rfl,by rw[iQ<|qQ e hp];exact e,uQ,hC,hB,k _ _ F (.fz _) (Sub.refl _) (R.laid hp) (Da.bl _) w⟩⟩
 .exact w.elim
noncomputable def RP:D->Bool
 | .none=>true
 |_=>false
noncomputable def JR(neg:Bool):D->D->(Sl->Prop)->Prop
 |x,.none,Q=>Q<|.fz<|.bool<|if neg then !RP x else RP x
 |_,_,_=>False
theorem jM{K:Fg}(s:Sub F H)(h:At K F H v d):decide (v=.non)=RP d:=by
 cases d with
 |none=>cases h.none;rfl
 |bool b=>cases h.bool;rfl
 |int i=>cases h.int;rfl
 |str x=>cases h.str;rfl
 |list ds=>obtain⟨a,_,rfl,_⟩:=h.list s;rfl
 |tuple ds=>obtain⟨a,_,rfl,_⟩:=h.tuple s;rfl
 |dict es=>obtain⟨a,rfl,_⟩:=h.dict s;rfl
theorem Fw{K:Fg}:OQ K (kY λx y H Q=>y=.non/\Q (.bl<|decide<|x=.non) H) (o2<|JR false):=YH λG F σ H ρ x y d e Q Qd R h1 h2 w k=>by
 cases e<;>first|exact w.elim|skip
 cases h2.none;have w:Qd (.fz<|.bool<|RP d):=w;rw[<-jM R.sub h1]at w;exact⟨rfl,k _ H F (.fz _) (Sub.refl _) R (Da.bl _) w⟩
structure WC(X:Cx)(es:List Expr)(Bs:List Addr):Prop where
 h:PA X es (λ_ H Q=>Q (Bs.map V.ref) H)
section
variable {K:Fg}{e1:Expr}{es:List Expr}{a:AD}{as:List AD}{Bs:List Addr}{f n b c:Str}{p pos p2 p3 p4 pb pn pc hpos cpos apos py:Pos}{k iE iC:Nat}{ps:List Str}{con:EX}{t:LZ}
theorem kM:WC X [] []:=⟨pZ⟩
theorem EW(hm:X.mg y=some (.ref B))(h:WC X es Bs)(hg:Gl X y:=by rfl)(hd:(y==("__debug__":Str))=false:=by decide):WC X (.Name y p::es) (B::Bs):=⟨NQ (yW hg hm (v:=.ref B) rfl hd) h.h<|starEach_of rfl⟩
theorem Gw(hK:X.K=K)(hm:X.mg "isinstance"=none)(hm2:X.mg y=some (.ref B))(ha:WE X e1 (kQ K a))(hg:Gl X "isinstance":=by rfl)(hg2:Gl X y:=by rfl)(hd:(y==("__debug__":Str))=false:=by decide)(he:lQ e1=true:=by rfl) :
  WE X (.Call (.Name "isinstance" p) [e1,.Name y p2] [] pos) (lift K<|FJ [a]<|o1<|gM K B):=by
 subst hK;exact⟨WK (KZ sj hg hm boot_isinstance (NQ ha.h (NQ (yW hg2 hm2 (v:=.ref B) rfl hd) pZ<|starEach_of rfl)<|starEach_of he) (by decide) (by decide) (starEach_of he)<|zQ rfl) λq=>PH (P:=λx H1=>zw X.K [x,.ref B] H1 _)<|rK iM q⟩
theorem lM(hK:X.K=K)(hm:X.mg "isinstance"=none)(hm2:X.mg "ValueError"=none)(ha:WE X e1 (kQ K a))(hg:Gl X "isinstance":=by rfl)(hg2:Gl X "ValueError":=by rfl)(he:lQ e1=true:=by rfl) :
  WE X (.Call (.Name "isinstance" p) [e1,.Name "ValueError" p2] [] pos) (lift K<|FJ [a]<|o1<|Ew K):=by
 subst hK;exact⟨WK (KZ UF hg hm boot_isinstance (NQ ha.h (NQ (OU hg2 hm2 (u:=.type "ValueError") (by decide +kernel) (v:=.ty "ValueError") rfl) pZ<|starEach_of rfl)<|starEach_of he) (by decide) (by decide) (starEach_of he)<|zQ rfl) λq=>PH (P:=λx H1=>RF X.K [x,.ty "ValueError"] H1 _)<|rK eB q⟩
theorem mM(hK:X.K=K)(hm:X.mg "isinstance"=none)(ht:WC X es Bs)(ha:WE X e1 (kQ K a))(hg:Gl X "isinstance":=by rfl)(he:lQ e1=true:=by rfl) :
  WE X (.Call (.Name "isinstance" p) [e1,.Tuple es k p2] [] pos) (lift K<|FJ [a]<|o1 λd Q=>Bs.length<=1000/\Dw K Bs d Q):=by
 subst hK;exact⟨WK (KZ VF hg hm boot_isinstance (NQ ha.h (NQ (qx ht.h) pZ<|starEach_of rfl)<|starEach_of he) (by decide) (by decide) (starEach_of he)<|zQ rfl) λq=>PH (P:=λx H1=>(Bs.map V.ref).length<=sizeLine/\∀p,H1 p=none->SF X.K [x,.ref p] (upd H1 p<|.tup<|Bs.map V.ref) _)<|rK fB q⟩
theorem nM{body:List Stmt}(hb:WSs X.nox body (oQ K t)):WS X (.Try body (h0::hs) [] [] pos) (oQ K t):=⟨cB hb.h⟩
end
end L3
namespace L2
theorem gB:OpR X (binaryOp .Mult) (rI IntMulOk λi j=>.int<|i*j):=EN λ_ _ _ _ _ _ _ hc q=>mul_int q hc
end L2
namespace L3
open L2
noncomputable def RO:D->D->(Sl->Prop)->Prop
 | .int i,.int j,Q=>IntMulOk i j/\Q (.fz<|.int<|i*j)
 |_,_,_=>False
theorem iB{K:Fg}:OQ K (kY<|rI IntMulOk λi j=>.int<|i*j) (o2 RO):=YH λG F σ H ρ x y d e Q Qd R h1 h2 w k=>by
 cases d<;>first|exact w.elim|(cases e<;>first|exact w.elim|skip)
 rename_i i j;cases h1.int;cases h2.int;exact⟨i,j,rfl,rfl,w.1,k _ H F (.fz _) (Sub.refl _) R (Da.int _) w.2⟩
section
variable {K:Fg}{e1:Expr}{a:AD}{p pos p2 p3 p4:Pos}
end
theorem FnOk.orX{K:G0}(h:∀a C,c a C->c1 a C\/c2 a C)(h1:FnOk P w K mg base CX k f fd ps (nQ K c1))(h2:FnOk P w K mg base CX k f fd ps (nQ K c2)):FnOk P w K mg base CX k f fd ps (nQ K c):=by
 constructor
 .rintro vs H Q E ⟨G,F,args,C,R,w,q⟩;rcases h _ _ w with w|w
  .exact h1.1 vs H Q E ⟨G,F,args,C,R,w,q⟩
  .exact h2.1 vs H Q E ⟨G,F,args,C,R,w,q⟩
 .intro x1 x2 x3 x4 x5 x6 x7 x8 x9 x10 x11 x12 x13 ⟨G,F,args,C,R,w,q⟩;rcases h _ _ w with w|w
  .exact h1.2 x1 x2 x3 x4 x5 x6 x7 x8 x9 x10 x11 x12 x13 ⟨G,F,args,C,R,w,q⟩
  .exact h2.2 x1 x2 x3 x4 x5 x6 x7 x8 x9 x10 x11 x12 x13 ⟨G,F,args,C,R,w,q⟩
end L3
namespace L2
theorem oG(I:Inv X pins σ H s)(hst:X.stack=X.env::X.outer)(hfr:X.env.frame=some X.env.locals)(hex:X.ex=[]){E:XK}{e:Value}(hcx:QZ X.prog X.w X.stack H s E e s'){M:Model}{E':Value->Shared->Prop}:wpAny M X.A (leaving X.env e) (λ_ s2=>QZ X.prog X.w X.outer X.H₀ X.s₀ E e s2) E' s':=by
 obtain⟨a,T,Cv,H',rfl,os,bare,un,hok,fa,fT,na,nT,⟨oe,vs,oT,ts,a0,g1,g2,g3,g4,g5,g6,g7,g8⟩,hEE⟩:=hcx;have I':Inv X pins σ H' s':=I.call' os un hok bare (ch:=[])<|λb z=>(by cases z);have FF:=I'.stack;have nex:∀b,b∉X.ex:=λb z=>by rw[hex]at z;cases z
 have old:∀b,s.heap.get? b=none->X.s₀.heap.get? b=none:=λb z=>by
  cases y:X.s₀.heap.get? b with
  |none=>rfl
  |some o=>obtain⟨o',y'⟩:=I.base.there b o y<|nex b;rw[z]at y';cases y'
 have fly:Heap.FlyingW (B6 s'.heap (a::T::TZ X.stack)) (X.env::X.outer) a Cv a0 s'.heap :=
  ⟨λb o z=>L6 _ z,E5 _ L0,X6 (hst ▸ FF) λenv he b hb=>K0 _<|K0 _<|N5.mpr ⟨env,hst ▸ he,hb⟩,oe,vs,T,oT,ts,g1,g2,g3,g4,E5 _<|K0 _ L0,g5,g6,g7,g8⟩;refine wpAny_leaves_onW (by rw[I.ok.frames,hst]) hfr fly λh5 fly5 up5=>?_;obtain⟨k1,k2,k3,oe',vs',T',oT',ts',q1,q2,q3,q4,q5,q6,q7,q8,q9⟩:=fly5;have I5:Inv X pins σ H' {s' with heap:=h5}:=by
  refine I.back un hok bare os fa fT na nT (λb o z n1 n2 n3=>k1 b o<|T4 _ z λy=>?_) λb o z hb=>?_
  .rcases P0.mp y with y|y
   .exact n1 y
   .rcases P0.mp y with y|y
    .exact n2 y
    .exact n3 y
  .obtain⟨_,o',z',nf⟩:=FF.mem hb;rw[z]at z';cases z';exact up5 b o z nf
 have newT:X.s₀.heap.get? T'=none/\H' T'=none:=by
  by_cases hTT:T'=T
  .rw[hTT];exact⟨old T fT,nT⟩
  cases z:s'.heap.get? T' with
  |none =>
   refine⟨?_,hok.gone z⟩;cases y:X.s₀.heap.get? T' with
   |none=>rfl
   |some o=>obtain⟨o',y'⟩:=I'.base.there T' o y<|nex T';rw[z]at y';cases y'
  |some o =>
   exfalso;by_cases hb:T'∈TZ X.stack
   .obtain⟨_,o',z',nf⟩:=FF.mem hb;rw[z]at z';cases z';obtain⟨sl,y⟩:=up5 T' o z nf;rw[q7]at y;cases y;exact nf ts' q8
   .have:=T4 (a::T::TZ X.stack) z λy=>by
     rcases P0.mp y with y|y
     .exact q6 y
     .rcases P0.mp y with y|y
      .exact hTT y
      .exact hb y
    rw[q5]at this;cases this
 have ub:=I5.base;rw[hex]at ub;exact⟨a,T',Cv,H',rfl,I5.os,bare,ub,I5.hok,old a fa,newT.1,na,newT.2,⟨oe',vs',oT',ts',a0,q1,q2,q3,q4,q6,q7,q8,q9⟩,hEE⟩
def PX(X:Cx)(e:Expr)(EC:List (Addr×Obj)->Value->Shared->Prop)(t:St->Hp->Prop):Prop:=∀(pins:List (Addr×Obj)) (s:Shared) (σ:St) (H:Hp),Inv X pins σ H s->t σ H->∀Qv,wpAny (model X.prog X.w) X.A (eval e X.env) Qv (EC pins) s
section
variable {k iE iC:Nat}{f n b c x:Str}{ps:List Str}{sp:Sp}{t:TA}{tt:St->Hp->Prop}{C:Addr}{e1 e:Expr}{es:List Expr}{rest:List Stmt}{E:XK}{EC:List (Addr×Obj)->Value->Shared->Prop}{p cpos pb pn pc p3 hpos apos pos py:Pos}
theorem Cq(hxe:∀e s',wpAny (model X.prog X.w) X.A (leaving X.env e) (λ_ s2=>QZ X.prog X.w X.outer X.H₀ X.s₀ E e s2) (λe2 s2=>QZ X.prog X.w X.outer X.H₀ X.s₀ E e2 s2) s'->X.xe e s')(hst:X.stack=X.env::X.outer) (hfr:X.env.frame=some X.env.locals) (hex:X.ex=[]) (C:CalX X.prog X.w X.K X.mg X.base k f ps sp) (hr:Room k X.A) (ha:PA X.nox (e1::es) t) (hg:Gl X f) (hdf:(f==("__debug__":Str))=false)(he:starEach (e1::es) X.env=(false,eval e1 X.env)::starEach es X.env) (hpl:(backTo cpos<|starEach es X.env).any (·.1)=false):PX X (.Call (.Name f p) (e1::es) [] cpos) (λ_=>X.xe) (λσ H=>t σ H λvs H1=>sp vs H1 (λ_ _=>False) E):=by
 intro pins s σ H I h Qv;obtain⟨fa,fd,F,hm,hk,hb⟩:=C.ex;refine wpAny_Call_Name_kw<|vJ I hg hm ?_ hdf;refine Y4 (h₀:=X.base) I.ok.mod.kin hk (wpAny_mono (ha cpos pins s σ H _ (I.wish _) h) (λus s1 ⟨vs,H1,I1,r,q⟩=>⟨I1.kIn,?_⟩) λ_ _ z=>z.elim) he hpl;have J1:=I1.unwish;have hl:us.length=ps.length:=by rw[<-r.length];exact F.len _ _ _ _ q
 have hbb:=hb s1 us J1.kIn (by rw[L1];exact hl);rw[L1]at hbb;refine wpAny_call<|codeAny_mono (F.run X.A X.stack s1 H1 ⟨us,[]⟩ us vs _ _ hr J1.env0 hbb r q) λrr s' hq=>?_;cases rr with
 |error e=>have hq:QZ X.prog X.w X.stack H1 s1 E e s':=hq;exact hxe _ _<|oG J1 hst hfr hex hq
 |ok fl =>
  cases fl with
  |ret u=>obtain⟨_,_,_,_,_,_,_,z⟩:=hq;exact z.elim
  |next=>exact False.elim hq
  |brk=>exact False.elim hq
  |cont=>exact False.elim hq
def LR(X:Cx)(sts:List Stmt)(EC:List (Addr×Obj)->Value->Shared->Prop)(t:St->Hp->Prop):Prop:=∀(pins:List (Addr×Obj)) (s:Shared) (σ:St) (H:Hp),Inv X pins σ H s->t σ H->∀Qf,wpAny (model X.prog X.w) X.A (execs sts X.env) Qf (EC pins) s
theorem Hw(hx:PX X e EC tt)(hs:swapsWith e none pos.line X.env=pure false):LR X (.Expr e pos::rest) EC tt:=λpins s σ H I h Qf=>wpAny_execs_cons<|wpAny_Expr_any (hx pins s σ H I h _) I.quiet hs
theorem jB(hx:PX X e EC tt):LR X (.Return (some e) pos::rest) EC tt:=λpins s σ H I h Qf=>wpAny_execs_cons<|wpAny_Return_some<|hx pins s σ H I h _
theorem Iw(h:LR X rest (λ_=>X.xe) tt){t:TS}(ht:∀(D:Ends) σ H,t D σ H->(∀σ H,D.nx σ H->E (.ref C) none H)->tt σ H):PR X rest E C t:=λpins s σ H D D' I w n _ _ _=>h pins s σ H I (ht D σ H w n) _
end
end L2
namespace L3
open L2
noncomputable def lE(con:EX)(C:Addr)(as:List AD):LZ:=λE ρ=>JX as ρ λxs ρ1=>TQ ρ1 xs λds=>con (ds.map Sl.fz) C/\E.nx ρ1
theorem oM{K:Fg}{D:Ends}{E:XK}(h:oQ K (lE con C as) D σ H)(hE:∀σ H,D.nx σ H->E (.ref C) none H):rQ (as.map<|kQ K) σ H λvs H1=>nQ K con vs H1 (λ_ _=>False) E:=by obtain⟨G,F,ρ,Ed,R,w,n,r,b,c⟩:=h;refine wX R w λvs H1 F1 xs ρ1 s1 R1 o w1=>?_;obtain⟨ds,da,w2,w3⟩:=sZ (xs:=xs) R1 (λy hy=>hy) o w1;refine⟨_,_,ds.map Sl.fz,C,zZ (PK R1) (yY R1) da,w2,λσ' H' F' ρ' s' R'=>?_⟩;obtain⟨sb,R2⟩:=R1.called R';exact hE _ _<|n _ _ _ _ (s1.trans sb) R2 w3
structure WX(X:Cx)(K:Fg)(e:Expr)(E:XK)(C:Addr)(t:LZ):Prop where
 h:PX X e (λ_=>X.xe) (λσ H=>∃D:Ends,oQ K t D σ H/\∀σ H,D.nx σ H->E (.ref C) none H)
section
variable {K:Fg}{k iE iC:Nat}{f n b c x:Str}{ps:List Str}{con:EX}{as:List AD}{t u:LZ}{tc:jY}{C:Addr}{e1 e:Expr}{es:List Expr}{rest:List Stmt}{E:XK}{p cpos pb pn pc p3 hpos apos pos py:Pos}
theorem fJ(hxe:∀e s',wpAny (model X.prog X.w) X.A (leaving X.env e) (λ_ s2=>QZ X.prog X.w X.outer X.H₀ X.s₀ E e s2) (λe2 s2=>QZ X.prog X.w X.outer X.H₀ X.s₀ E e2 s2) s'->X.xe e s')(hK:X.K=K)(cal:CalX X.prog X.w X.K X.mg X.base k f ps (nQ K con))(hr:Room k X.A)(ha:WA X.nox (e1::es) (rQ<|as.map<|kQ K))
  (hst:X.stack=X.env::X.outer:=by rfl) (hfr:X.env.frame=some X.env.locals:=by rfl) (hex:X.ex=[]:=by rfl) (hg:Gl X f:=by rfl) (hdf:(f==("__debug__":Str))=false:=by decide) (he:lQ e1=true:=by rfl) (hpl:es.all lQ=true:=by rfl) :
  WX X K (.Call (.Name f p) (e1::es) [] cpos) E C (lE con C as):=by
 subst hK;refine⟨λpins s σ H I h Qv=>?_⟩;obtain⟨D,h,n⟩:=h;exact Cq hxe hst hfr hex cal hr ha.h hg hdf (starEach_of he) (zQ hpl) pins s σ H I (oM h n) Qv
theorem gJ(hx:WX X K e E C t)(hs:VZ e=true:=by rfl):WR X (.Expr e pos::rest) E C (oQ K t):=⟨Iw (Hw hx.h<|uK hs) λD _ _ w n=>⟨D,w,n⟩⟩
theorem SO(hx:WX X K e E C t):WR X (.Return (some e) pos::rest) E C (oQ K t):=⟨Iw (jB hx.h) λD _ _ w n=>⟨D,w,n⟩⟩
structure WY(X:Cx)(K:Fg)(sts:List Stmt)(b n c:Str)(pb pn pc p3 hpos:Pos)(t:LZ):Prop where
 h:∀(pins:List (Addr×Obj)) (s:Shared) (σ:L2.St) (H:Hp) (D:Ends) (Eo:Value->Shared->Prop),Inv X pins σ H s->oQ K t D σ H->∀Qf,wpAny (model X.prog X.w) X.A (execs sts X.env) Qf (λe s1=>wpAny (model X.prog X.w) X.A (noteFrame e X.env) (λ_ s2=>wpAny (model X.prog X.w) X.A (setFlight e none) (λ_ s3=>wpAny (model X.prog X.w) X.A (handleBy e X.env [hdl b n c pb pn pc p3 hpos]) (SP X pins D) Eo s3) Eo s2) Eo s1) s
theorem UO(hc:WT X.nox e (xQ K tc))(ha:WY X K sa b n c pb pn pc p3 hpos t)(hb:WY X K sb b n c pb pn pc p3 hpos u):WY X K [.If e sa sb pos] b n c pb pn pc p3 hpos (du tc t u):=by
 refine⟨λpins s σ H D Eo I h Qf=>wpAny_execs_cons<|wpAny_If<|wpAny_mono (hc.h pins s σ H _ (I.wish _)<|OC h) (λd s1 ⟨H1,I1,q1⟩=>?_) λ_ _ z=>z.elim⟩;cases d with
 |true=>exact ha.h pins s1 σ H1 D Eo I1.unwish q1 _
 |false=>exact hb.h pins s1 σ H1 D Eo I1.unwish q1 _
theorem pM{body:List Stmt}(hb:WY X K body b n c pb pn pc p3 hpos t):WS X (.Try body [hdl b n c pb pn pc p3 hpos] [] [] pos) (oQ K t):=⟨λpins s σ H D I h=>wpAny_Try_except<|hb.h pins s σ H D _ I h _⟩
end
end L3
namespace L2
structure FnAt(P:Program)(w:World)(K:G0)(mg:Str->Option Value)(base:Heap)(CX:aF)(k:Nat)(f:Addr)(sp:Sp):Prop where
 ex:∃(ps:List Str) (fd:FuncData),FnOk P w K mg base CX k f fd ps sp/\O3 K (.ref f)=true/\Binds K fd ps []
theorem cA_of(h:mg x=some (.ref f)):L3.cA mg x=f:=by unfold L3.cA;rw[h]
theorem Cal.at{K:G0}(C:Cal P w K mg base k x ps sp):FnAt P w K mg base OX k (L3.cA mg x) sp:=by obtain⟨f,fd,F,hm,hk,hb⟩:=C.ex;rw[cA_of hm];exact⟨ps,fd,F,hk,hb⟩
theorem CalX.at{K:G0}(C:CalX P w K mg base k x ps sp):FnAt P w K mg base (QZ P w) k (L3.cA mg x) sp:=by obtain⟨f,fd,F,hm,hk,hb⟩:=C.ex;rw[cA_of hm];exact⟨ps,fd,F,hk,hb⟩
theorem FnAt.mono{K:G0}(F:FnAt P w K mg base CX j f sp)(h:j<=k):FnAt P w K mg base CX k f sp:=by obtain⟨ps,fd,F,hk,hb⟩:=F.ex;exact⟨ps,fd,F.mono h,hk,hb⟩
section
variable {k iE iC:Nat}{n b c:Str}{t:TA}{t0:TE}{e0 e1:Expr}{es:List Expr}{cpos pb pn pc p3 hpos:Pos}
theorem Jw(he0:PE X e0 t0)(ha:PA X (e1::es) t)(hr:Room k X.A)(he:starEach (e1::es) X.env=(false,eval e1 X.env)::starEach es X.env)(hpl:(backTo cpos<|starEach es X.env).any (·.1)=false)
  (hev:eval (.Call e0 (e1::es) [] cpos) X.env=(do callWith cpos (<-eval e0 X.env) [] (backTo cpos<|starEach (e1::es) X.env) [])) :
  PE X (.Call e0 (e1::es) [] cpos) (λσ H Q=>t0 σ H λv H0=>∃f sp,v=.ref f/\FnAt X.prog X.w X.K X.mg X.base OX k f sp/\cY sp [] E0 t σ H0 Q):=by
 intro pins s σ H Q I h;rw[hev];refine wpAny_bind<|vX (he0 pins s σ H _ I h) λu s1 ⟨v,H1,I1,ru,q⟩=>?_;obtain⟨f,sp,rfl,F,q⟩:=q;cases ru;obtain⟨ps,fd,F,hk,hb⟩:=F.ex;refine Y4 (h₀:=X.base) I.ok.mod.kin hk (vX (ha cpos pins s1 σ H1 _ I1 q) λus s2 ⟨vs,H2,I2,r,q⟩=>⟨I2.kIn,?_⟩) he hpl;exact bF F hr hb .nil Ix I2 r q
theorem iH(T:Tr X b n c pn pc p3 iE iC B)(he0:PE X.nox e0 t0)(ha:PA X.nox (e1::es) t)(hr:Room k X.A)
  (he:starEach (e1::es) X.env=(false,eval e1 X.env)::starEach es X.env) (hpl:(backTo cpos<|starEach es X.env).any (·.1)=false)
  (hev:eval (.Call e0 (e1::es) [] cpos) X.env=(do callWith cpos (<-eval e0 X.env) [] (backTo cpos<|starEach (e1::es) X.env) [])) (I:Inv X pins σ H s)
  (h:t0 σ H λv H0=>∃f sp,v=.ref f/\FnAt X.prog X.w X.K X.mg X.base (QZ X.prog X.w) k f sp/\Aw X.K iE iC B sp t D σ H0) :
  wpAny (model X.prog X.w) X.A (eval (.Call e0 (e1::es) [] cpos) X.env) Qv (λe s1=>wpAny (model X.prog X.w) X.A (noteFrame e X.env) (λ_ s2=>wpAny (model X.prog X.w) X.A (setFlight e none) (λ_ s3=>wpAny (model X.prog X.w) X.A (handleBy e X.env [hdl b n c pb pn pc p3 hpos]) (SP X pins D) Eo s3) Eo s2) Eo s1) s:=by
 rw[hev];refine wpAny_bind<|wpAny_mono (he0 pins s σ H _ (I.wish _) h) (λu s0 ⟨v,H0,I0,ru,q⟩=>?_) λ_ _ z=>z.elim;obtain⟨f,sp,rfl,F,q⟩:=q;cases ru;obtain⟨ps,fd,F,hk,hb⟩:=F.ex;have J0:=I0.unwish;refine Y4 (h₀:=X.base) J0.ok.mod.kin hk (wpAny_mono (ha cpos pins s0 σ H0 _ I0 q) (λus s1 ⟨vs,H1,I1,r,q⟩=>⟨I1.kIn,?_⟩) λ_ _ z=>z.elim) he hpl;have J1:=I1.unwish;have hl:us.length=ps.length:=by rw[<-r.length];exact F.len _ _ _ _ q
 have hbb:=hb s1 us J1.kIn (by rw[L1];exact hl);rw[L1]at hbb;refine wpAny_call<|codeAny_mono (F.run X.A X.stack s1 H1 ⟨us,[]⟩ us vs _ _ hr J1.env0 hbb r q) λrr s' hq=>?_;cases rr with
 |error e=>have hq:QZ X.prog X.w X.stack H1 s1 (IR X.K iE iC B D σ) e s':=hq;exact vw J1 T.hst T.hfr T.hex T.hN T.hiE T.hlE T.hiC T.hlC T.hgb T.hmb T.hB hq (λCv o H2 z=>z) T.hs3 T.hdb T.hd1 T.hd2
 |ok fl =>
  cases fl with
  |ret u=>obtain⟨_,_,_,_,_,_,_,z⟩:=hq;exact z.elim
  |next=>exact False.elim hq
  |brk=>exact False.elim hq
  |cont=>exact False.elim hq
end
end L2
namespace L3
open L2
theorem Da.fn_inv{K:Fg}{F:Hp}{v:V}{a:Addr}:∀{d:D},Da K F v d->d=nW a->v=.ref a
 |_,.non,e=>by cases e
 |_,.bl _,e=>by cases e
 |_,.int _,e=>by cases e
 |_,.str _,e=>by cases e
 |_,.lst _ _,e=>by cases e
 |_,.tup _ _,e=>by cases e
 |_,.dk _ t,e=>by
  cases t with
  |nil=>injection e with e;cases e
  |cons _ _=>injection e with e;injection e with e _;injection e with e _;exact(wq _ _ e).elim
 |_,.dt _ t,e=>by
  cases t with
  |nil=>injection e with e;cases e
  |cons _ _=>injection e with e;injection e with e _;injection e with e _;cases e
 |_,.scr _,e=>by injection e with e;injection e with e _;injection e with e _;cases e
 |_,.exc _,e=>by injection e with e;injection e with e _;injection e with _ e;cases e
 |_,.opq _,e=>by injection e with e;injection e with e _;injection e with e _;cases e
 |_,.pd _ _,e=>by injection e with e;injection e with e _;injection e with e _;cases e
 |_,.bd _ _,e=>by injection e with e;injection e with e _;injection e with e _;cases e
 |_,.lam _ _,e=>by injection e with e;injection e with e _;injection e with _ e;cases e
 |_,.fn,e=>by injection e with e;injection e with e _;injection e with _ e;injection e with e;injection e with e _;injection e with e;rw[V9 e]
def qM(tab:List (Addr×Con))(td0:TD)(as:List AD):TD:=λρ Q=>td0 ρ λr ρ0=>∃z∈tab,r=.fz (nW z.1)/\oW z.2 as ρ0 Q
noncomputable def VO(K:Fg)(iE iC:Nat)(B:Addr)(tab:List (Addr×EX))(td0:TD)(as:List AD):LZ:=λE ρ=>td0 ρ λr ρ0=>∃z∈tab,r=.fz (nW z.1)/\Bw K iE iC B z.2 as E ρ0
theorem pG{K:Fg}:∀z∈([]:List (Addr×Con)),FnAt P w K mg base OX k z.1 (dQ K z.2):=λz h=>by cases h
theorem qG{K:Fg}:∀z∈([]:List (Addr×EX)),FnAt P w K mg base (QZ P w) k z.1 (nQ K z.2):=λz h=>by cases h
theorem uj{K:Fg}(C:Cal P w K mg base j x ps (dQ K con))(h:j<=k)(t:∀z∈tab,FnAt P w K mg base OX k z.1<|dQ K z.2):∀z∈(cA mg x,con)::tab,FnAt P w K mg base OX k z.1 (dQ K z.2):=λz hz=>by
 rcases P0.mp hz with rfl|hz
 .exact C.at.mono h
 .exact t z hz
theorem DX{K:Fg}(C:CalX P w K mg base j x ps (nQ K con))(h:j<=k)(t:∀z∈tab,FnAt P w K mg base (QZ P w) k z.1<|nQ K z.2):∀z∈(cA mg x,con)::tab,FnAt P w K mg base (QZ P w) k z.1 (nQ K z.2):=λz hz=>by
 rcases P0.mp hz with rfl|hz
 .exact C.at.mono h
 .exact t z hz
section
variable {K:Fg}{k iE iC:Nat}{n b c x:Str}{as:List AD}{td0:TD}{e0 e1:Expr}{es:List Expr}{p cpos pb pn pc p3 hpos apos:Pos}
theorem XJ{a:Addr}(hm:X.mg x=some (.ref a))(hg:Gl X x:=by rfl)(hd:(x==("__debug__":Str))=false:=by decide):WE X (.Name x p) (lift K<|dC<|nW a):=⟨λpins s σ H Q I h=>yW (v:=.ref a) hg hm rfl hd pins s σ H Q I<|cS (λF=>.fn) h⟩
theorem Dq{tab:List (Addr×Con)}(hK:X.K=K)(hC:∀z∈tab,FnAt X.prog X.w X.K X.mg X.base OX k z.1<|dQ K z.2)(hr:Room k X.A)(h0:WE X e0 (lift K td0))(ha:WA X (e1::es) (rQ<|as.map<|kQ K))(he:lQ e1=true:=by rfl)(hpl:es.all lQ=true:=by rfl)
  (hev:eval (.Call e0 (e1::es) [] cpos) X.env=(do callWith cpos (<-eval e0 X.env) [] (backTo cpos<|starEach (e1::es) X.env) []):=by rfl):WE X (.Call e0 (e1::es) [] cpos) (lift K<|qM tab td0 as):=by
 subst hK;refine⟨λpins s σ H Q I h=>Jw h0.h ha.h hr (starEach_of he) (zQ hpl) hev pins s σ H Q I ?_⟩;obtain⟨G,F,ρ,Qd,R,w,k2⟩:=h;refine⟨G,F,ρ,_,R,w,λv H' F' s ρ' sb R' r' q=>?_⟩;obtain⟨z,hz,rfl,w2⟩:=q;refine⟨z.1,_,Da.fn_inv r' rfl,hC z hz,?_⟩;exact fk ⟨G,F',ρ',Qd,R',w2,λv H2 F2 r ρ2 s2 R2 r2 q2=>k2 v H2 F2 r ρ2 (sb.trans s2) R2 r2 q2⟩
theorem Fq{tab:List (Addr×EX)}(hK:X.K=K)(T:Tr X b n c pn pc p3 iE iC B)(hC:∀z∈tab,FnAt X.prog X.w X.K X.mg X.base (QZ X.prog X.w) k z.1<|nQ K z.2)(hr:Room k X.A)(h0:WE X.nox e0 (lift K td0))(ha:WA X.nox (e1::es) (rQ<|as.map<|kQ K))(he:lQ e1=true:=by rfl)(hpl:es.all lQ=true:=by rfl)
  (hev:eval (.Call e0 (e1::es) [] cpos) X.env=(do callWith cpos (<-eval e0 X.env) [] (backTo cpos<|starEach (e1::es) X.env) []):=by rfl) (hs:swapsWith (.Call e0 (e1::es) [] cpos) none apos.line X.env=pure false:=by rfl) :
  WY X K [.Expr (.Call e0 (e1::es) [] cpos) apos] b n c pb pn pc p3 hpos (VO K iE iC B tab td0 as):=by
 subst hK;refine⟨λpins s σ H D Eo I h Qf=>wpAny_execs_cons<|wpAny_Expr_any (iH T h0.h ha.h hr (starEach_of he) (zQ hpl) hev I ?_) I.quiet hs⟩;obtain⟨G,F,ρ,Ed,R,w,n1,r1,b1,c1⟩:=h;refine⟨G,F,ρ,_,R,w,λv H' F' s ρ' sb R' r' q=>?_⟩;obtain⟨z,hz,rfl,w2⟩:=q;refine⟨z.1,_,Da.fn_inv r' rfl,hC z hz,Cw ⟨G,F',ρ',Ed,R',w2,λσ' H2 F2 ρ2 s2=>n1 σ' H2 F2 ρ2<|sb.trans s2,λv σ' H2 F2 r ρ2 s2=>r1 v σ' H2 F2 r ρ2<|sb.trans s2,λσ' H2 F2 ρ2 s2=>b1 σ' H2 F2 ρ2<|sb.trans s2,λσ' H2 F2 ρ2 s2=>c1 σ' H2 F2 ρ2<|sb.trans s2⟩⟩
theorem rM{f:Str}{ps:List Str}{con:EX}(hK:X.K=K)(T:Tr X b n c pn pc p3 iE iC B)(C:CalX X.prog X.w X.K X.mg X.base k f ps (nQ K con))(hr:Room k X.A)(ha:WA X.nox (e1::es) (rQ<|as.map<|kQ K))(hg:Gl X f:=by rfl)(hdf:(f==("__debug__":Str))=false:=by decide)(he:lQ e1=true:=by rfl)(hpl:es.all lQ=true:=by rfl)
  (hs:swapsWith (.Call (.Name f p) (e1::es) [] cpos) none apos.line X.env=pure false:=by rfl):WY X K [.Expr (.Call (.Name f p) (e1::es) [] cpos) apos] b n c pb pn pc p3 hpos (Bw K iE iC B con as):=by
 subst hK;exact⟨λpins s σ H D Eo I h Qf=>wpAny_execs_cons<|wpAny_Expr_any (nG T C hr ha.h hg hdf (starEach_of he) (zQ hpl) I<|Cw h) I.quiet hs⟩
end
noncomputable def Kw(con:EX)(C:Addr)(as:List AD):LZ:=λE ρ=>JX as ρ λxs ρ1=>kX ρ1 xs=false/\TQ ρ1 xs λds=>(∀f:Addr,con ((ds++[nW f]).map Sl.fz) C)/\E.nx ρ1
theorem kB{K:Fg}{D:Ends}{E:XK}(hP:(P,x)∈TB K)(hPx:∀z∈TB K,z.1=P->z.2=x)(h:oQ K (Kw con C as) D σ H) (hE:∀σ H,D.nx σ H->E (.ref C) none H):rQ (as.map (kQ K)++[uV P x ar body sc cl]) σ H λvs H1=>nQ K con vs H1 (λ_ _=>False) E:=by
 obtain⟨G,F,ρ,Ed,R,w,n,r,b,c⟩:=h;refine eW<|wX R w λvs H1 F1 xs ρ1 s1 R1 o w1=>?_;obtain⟨hl,w1⟩:=w1;obtain⟨ds,da,wc,wn⟩:=sZ (xs:=xs) R1 (λy hy=>hy) o w1;have el:YX σ ρ1 xs F1 H1=F1:=funext λb=>xZ λz=>by have:=MZ z;rw[hl]at this;cases this
 rw[el]at da;obtain⟨_,ps0,eP,tP,cP⟩:=R1.tb (P,x) hP;refine⟨ps0,eP,tP,cP,λH2 ps' f c o kp hf nP nT nC nc nq nf=>?_⟩;have su:Sub F1 H2:=λb o e=>kp b o (λz=>by rw[z,(R1.tb (P,x) hP).1]at e;cases e)<|R1.sub b o e;have tb2:TabOk K F1 H2:=λz hz=>by
  refine⟨(R1.tb z hz).1,?_⟩;by_cases zp:z.1=P
  .rw[zp,hPx z hz zp];exact⟨ps',nP,nT,nC⟩
  .obtain⟨_,qs,g1,g2,g3⟩:=R1.tb z hz;refine⟨qs,kp _ _ zp g1,g2,λpos v e=>?_⟩;obtain⟨c',o',h1,h2,h3⟩:=g3 pos v e;exact⟨c',o',h1,kp _ _ (λq=>by rw[q,eP]at h2;cases h2) h2,h3⟩
 have R2:Rel K G F1 σ H2 ρ1:=⟨R1.len,su,R1.sub0,R1.fn,λa u e n t=>kp a u (λz=>t (P,x) hP z.symm)<|R1.keep a u e n t,tb2,R1.fz,λi s e w=>by obtain⟨a,u,h1,h2,h3,h4⟩:=R1.ow i s e w;exact⟨a,u,h1,h2,kp a u (λz=>by rw[z,eP]at h3;cases h3;exact h4) h3,h4⟩,R1.new,R1.io,R1.ioi,R1.ap⟩;have el2:YX σ ρ1 [] F1 H2=F1:=funext λb=>xZ λ⟨i,s,z,_⟩=>by cases z
 refine⟨_,F1,(ds++[nW f]).map Sl.fz,C,zZ su tb2<|da.append<|.cons .fn .nil,wc f,λσ' H' F' ρ' s' R'=>?_⟩;obtain⟨sb,R3⟩:=R2.called (xs:=[]) (by rw[el2];exact R');exact hE _ _<|n _ _ _ _ (s1.trans sb) R3 wn
section
variable {K:Fg}{k:Nat}{g x:Str}{ps:List Str}{con:EX}{a b:AD}{C:Addr}{e1 e2:Expr}{E:XK}{p cpos:Pos}
theorem lB{c0 P:Addr}{ar:Arguments}{body:Expr}{lp:Pos}(hxe:∀e s',wpAny (model X.prog X.w) X.A (leaving X.env e) (λ_ s2=>QZ X.prog X.w X.outer X.H₀ X.s₀ E e s2) (λe2 s2=>QZ X.prog X.w X.outer X.H₀ X.s₀ E e2 s2) s'->X.xe e s')(hK:X.K=K)(cal:CalX X.prog X.w X.K X.mg X.base k g ps (nQ K con))(hr:Room k X.A)
  (ha:WE X.nox e1 (kQ K a)) (hb:WE X.nox e2 (kQ K b)) (hcode:X.env.code=.ref c0) (hqual:X.env.qual ++ "<lambda>"=x ++ ".<locals>.<lambda>") (hC:W3 K c0 P=true) (hP:(P,x)∈TB K) (hPx:∀z∈TB K,z.1=P->z.2=x)
  (hcl:closureFor sc X.env=pure cl:=by rfl) (hst:X.stack=X.env::X.outer:=by rfl) (hfr:X.env.frame=some X.env.locals:=by rfl) (hex:X.ex=[]:=by rfl) (hdef:defaultsOf ar X.env=([],[]):=by rfl) (hg:Gl X g:=by rfl) (hdb:(g==("__debug__":Str))=false:=by decide) (he:lQ e1=true:=by rfl) (he2:lQ e2=true:=by rfl) :
  WX X K (.Call (.Name g p) [e1,e2,.Lambda ar body sc lp] [] cpos) E C (Kw con C [a,b]):=by
 subst hK;have L:PE X.nox (.Lambda ar body sc lp) (uV P x ar body sc cl):=uq (X:=X.nox) hcode hqual hC hcl hdef;have A:PA X.nox [e1,e2,.Lambda ar body sc lp] (rQ<|[a,b].map (kQ X.K)++[uV P x ar body sc cl]):=NQ ha.h (NQ hb.h (NQ L pZ<|starEach_of rfl)<|starEach_of he2)<|starEach_of he;refine⟨λpins s σ H I h Qv=>?_⟩;obtain⟨D,h,n⟩:=h;exact Cq hxe hst hfr hex cal hr A hg hdb (starEach_of he) (zQ<|by simp[he2];rfl) pins s σ H I (kB hP hPx h n) Qv
end
section
variable {P:Program}{w:World}{K:Fg}{mg:Str->Option Value}{base:Heap}
theorem WO{st:Stmt}{ts:LZ}(F:Fun K x qual st f fd)(hcd:fd.code=.ref c)(S:FnScope N ps (aQ st))(hb:∀(A:Around) (outer:List Env) (s:Shared) (H:Hp) (E:XK),Room k (A.deeper<|envOfC qual (aQ st) s.heap.objs.size f<|.ref c)->WR (NY (QZ P w) P w K mg base N qual (aQ st) f (.ref c) A outer s H E) (cX st) E C (oQ K ts))(hl:∀args C',con args C'->args.length=ps.length) (hc:∀args C',con args C'->C'=C/\(∀s∈args,∀d,s≠.ow d)/\ts {nx:=λ_=>True,rt:=λ_ _=>False,bk:=λ_=>False,ct:=λ_=>False} (dJ N.length args)):FnOk P w K mg base (QZ P w) (k+1) f fd ps (nQ K con):=by
 obtain⟨oc,od,kV,doc,pm,an,cdv,ct,osl,rfl,lk,hcd'⟩:=F.ex;have e:cdv=.ref c:=hcd;subst e;refine JD lk hcd' S (λvs H Q E h=>?_) λA outer s H vs Q E hr hsp=>?_
 .obtain⟨G,F',args,C',R,w',_⟩:=h;have h1:=hl args C' w';have h2:=R.len;rw[B0,B0]at h2;rw[h2,h1]
 .refine⟨λD σ H=>∃D0:Ends,oQ K ts D0 σ H/\(∀σ H,D0.nx σ H->E (.ref C) none H)/\(∀v H,¬D0.rt v H)/\(∀σ H,¬D0.bk σ H)/\∀σ H,¬D0.ct σ H,λpins s1 σ H1 D I h=>?_,?_⟩
  .obtain⟨D0,h,n,r,b,c⟩:=h;exact(hb A outer s H E hr).h pins s1 σ H1 D0 D I h n r b c
  .obtain⟨G,F',args,C',R,w',q⟩:=hsp;obtain⟨rfl,hn,w2⟩:=hc args C' w';refine⟨{nx:=λ_ H'=>E (.ref C') none H',rt:=λ_ _=>False},⟨G,F',_,_,R.start,w2,λσ' H' F2 ρ' s' R' _=>q σ' H' F2 ρ' s' R',λ_ _ _ _ _ _ _ _ _ z=>z,λ_ _ _ _ _ _ z=>z,λ_ _ _ _ _ _ z=>z⟩,λ_ _ z=>z,λ_ _ z=>z,λ_ _ z=>z,λ_ _ z=>z⟩
end
end L3
namespace L2
def yH(xs:Array Nat):Prop:=∀a b,a<b->b<xs.size->∀d,xs.getD a d<xs.getD b d
theorem Gq{xs:Array Nat}(h:i<xs.size):xs.getD i d=xs.getD i d':=by simp[K6,h]
theorem jH(xs:Array Nat)(j:Nat)(R:yH xs):∀(fuel lo hi:Nat),hi-lo<=fuel->lo<=hi->hi<=xs.size->(∀i,i<lo->xs.getD i j<j)->(∀i,hi<=i->i<xs.size->¬xs.getD i j<j) -> SetTable.below.go xs j fuel lo hi<=xs.size/\(∀i,i<SetTable.below.go xs j fuel lo hi->xs.getD i j<j)/\∀i,SetTable.below.go xs j fuel lo hi<=i->i<xs.size->¬xs.getD i j<j
 |0,lo,hi,hf,hl,hh,h1,h2=>by
  have:lo=hi:=by lia
  subst this;exact⟨hh,h1,h2⟩
 |fuel+1,lo,hi,hf,hl,hh,h1,h2=>by
  unfold SetTable.below.go;by_cases hlt:lo<hi
  .rw[if_pos hlt];dsimp only;by_cases hm:xs.getD ((lo+hi) / 2) j<j
   .rw[if_pos hm];refine jH xs j R fuel _ hi (by lia) (by lia) hh (λi hi'=>?_) h2;by_cases e:i=(lo+hi) / 2
    .rw[e];exact hm
    .have:=R i ((lo+hi) / 2) (by lia) (by lia) j
     lia
   .rw[if_neg hm];refine jH xs j R fuel lo _ (by lia) (by lia) (by lia) h1<|λi hi' hs=>?_;by_cases e:i=(lo+hi) / 2
    .rw[e];exact hm
    .have:=R ((lo+hi) / 2) i (by lia) hs j
     lia
  .rw[if_neg hlt];have:lo=hi:=by lia
   subst this;exact⟨hh,h1,h2⟩
theorem nY(R:yH xs)(j:Nat):SetTable.below xs j<=xs.size/\(∀i,i<SetTable.below xs j->xs.getD i j<j)/\∀i,SetTable.below xs j<=i->i<xs.size->¬xs.getD i j<j:=jH xs j R xs.size 0 xs.size (by lia) (W2 _) (O0 _) (λi h=>absurd h<|R8 _) (λi h1 h2=>absurd h2<|by lia)
theorem WF(R:yH xs){i:Nat}(h:i<xs.size):SetTable.below xs (xs.getD i 0+1)=i+1:=by
 obtain⟨h1,h2,h3⟩:=nY R<|xs.getD i 0+1;have a1:¬SetTable.below xs (xs.getD i 0+1)<=i:=λz=>by
  have:=h3 i z h;rw[Gq (d':=0) h]at this
  lia
 by_cases z:i+1<SetTable.below xs (xs.getD i 0+1)
 .have b1:=h2 (i+1) z;have b2:=R i (i+1) (by lia) (by lia) 0;rw[Gq (d':=0)<|by lia]at b1
  lia
 .lia
theorem XF(R:yH xs):SetTable.below xs 0=0:=by
 obtain⟨h1,h2,h3⟩:=nY R 0;by_cases z:0<SetTable.below xs 0
 .exact absurd (h2 0 z) (R8 _)
 .lia
theorem ris_iff:yH xs↔xs.toList.Pairwise (· < ·):=by
 rw[o5];constructor
 .intro R i j hi hj hij;have:=R i j hij (by simpa using hj) 0;simpa [K6,show i<xs.size by simpa using hi,show j<xs.size by simpa using hj]using this
 .intro P a b hab hb d;have ha:a<xs.size:=by lia
  have:=P a b (by simpa using ha) (by simpa using hb) hab;simpa [K6,ha,hb]using this
theorem YF(R:yH xs){j:Nat}(hj:xs[SetTable.below xs j]?≠some j):yH (SetTable.insertAt xs (SetTable.below xs j) j):=by
 obtain⟨h1,h2,h3⟩:=nY R j;have P:=ris_iff.mp R;rw[ris_iff,SetTable.toList_insertAt];have e:xs.toList.take (SetTable.below xs j)++xs.toList.drop (SetTable.below xs j)=xs.toList:=U8 _ _;rw[<-e,i9]at P;obtain⟨p1,p2,p3⟩:=P;have lo:∀a∈xs.toList.take (SetTable.below xs j),a<j:=λa ha=>by obtain⟨i,hi,rfl⟩:=A7.mp ha;rw[j2]at hi;have:=h2 i (by lia);rw[List.getElem_take];simpa [K6,show i<xs.size by simp at hi;lia]using this
 have hi':∀a∈xs.toList.drop (SetTable.below xs j),j<a:=λa ha=>by
  obtain⟨i,hi,rfl⟩:=A7.mp ha;rw[U2]at hi;have hs:SetTable.below xs j+i<xs.size:=by simp at hi;lia
  have:=h3 (SetTable.below xs j+i) (by lia) hs;rw[List.getElem_drop];have g:xs.getD (SetTable.below xs j+i) j=xs.toList[SetTable.below xs j+i]'(by simpa using hs):=by simp[K6,hs]
  rw[g]at this;by_cases z:xs.toList[SetTable.below xs j+i]'(by simpa using hs)=j
  .exfalso;by_cases i0:i=0
   .subst i0;apply hj;rw[m4<|by simpa using hs];simpa using z
   .have r:=R (SetTable.below xs j) (SetTable.below xs j+i) (by lia) hs j;have:=h3 (SetTable.below xs j) (O0 _) (by lia);rw[g,z]at r;exact this r
  .omega
 rw[i9];refine⟨p1,i5.mpr ⟨hi',p2⟩,λa ha b hb=>?_⟩;rcases P0.mp hb with rfl|hb
 .exact lo a ha
 .exact p3 a ha b hb
def NL(t:SetTable)(j:Nat):Prop:=t.place[SetTable.below t.place j]?≠some j
theorem Hq(h:∀i,t.slot j≠.live i):NL t j:=λz=>by unfold SetTable.slot at h;dsimp only at h;rw[if_pos<|by rw[z];simp]at h;exact h _ rfl
theorem fY(t:SetTable)(p:SetTable.Probe):(t.advance p).dummy=p.dummy:=by unfold SetTable.advance;split<;>rfl
theorem xV(t:SetTable)(ha:Nat->Int)(h:Int):∀(fuel:Nat) (p:SetTable.Probe),(∀d,p.dummy=some d->NL t d)->∀j dm,SetTable.probe.go t ha h fuel p=some (.empty j dm)->NL t j/\∀d,dm=some d->NL t d
 |0,p,_,j,dm,e=>by cases e
 |fuel+1,p,hp,j,dm,e=>by
  unfold SetTable.probe.go at e;cases hs:t.slot p.j with
  |empty=>rw[hs]at e;cases e;exact⟨Hq (λi z=>by rw[hs]at z;cases z),hp⟩
  |dummy=>rw[hs]at e;refine xV t ha h fuel _ (λd hd=>?_) j dm e;rw[fY]at hd;cases hd;exact Hq λi z=>by rw[hs]at z;cases z
  |live i =>
   rw[hs]at e;dsimp only at e;split at e
   .cases e
   .exact xV t ha h fuel _ (λd hd=>by rw[fY]at hd;exact hp d hd) j dm e
theorem mB{h:Int}(e:t.freeSlot h=some (j,wd)):NL t j:=by
 unfold SetTable.freeSlot at e;split at e
 .rename_i j' dm hp;have:=xV t _ h _ _ (λd hd=>by cases hd) j' dm hp;cases e;cases dm with
  |none=>exact this.1
  |some d=>exact this.2 d rfl
 .cases e
theorem XZ(t:SetTable)(n:Nat):yH (t.standIn n).place:=by show yH (Array.range n);rw[ris_iff,Array.toList_range];exact L8
theorem bU{t:SetTable}(R:yH t.place):yH (t.orStandIn n).place:=by
 unfold SetTable.orStandIn;split
 .exact R
 .exact XZ t n
theorem ZF{h:Int}(R:yH t.place):yH (layNew t es h x).2.1.place:=by
 unfold layNew;cases e:t.freeSlot h with
 |none=>exact XZ t _
 |some p=>obtain⟨j,wd⟩:=p;exact bU<|YF R<|mB e
theorem Lw{plain:Bool}{o:Array Nat}(e:SetTable.laid mask finger moves led plain hs=some (t,o)):yH t.place:=by
 unfold SetTable.laid at e;cases ho:SetTable.layClean mask hs with
 |none=>rw[ho]at e;cases e
 |some owner =>
  rw[ho]at e;cases e;rw[ris_iff];dsimp only;have gen:∀(g:Nat->Option Nat) (l:List Nat),(l.filterMap λj=>(g j).map (j,·)).map (·.1)=l.filter λj=>(g j).isSome:=by
   intro g l;induction l with
   |nil=>rfl
   |cons a l ih =>
    cases hg:g a with
    |none=>simp[hg,ih]
    |some b=>simp[hg,ih]
  rw[gen];exact List.Pairwise.sublist List.filter_sublist L8
theorem kH:yH (relayAll t es wanted).2.1.place:=by
 unfold relayAll;cases e:t.relaid (es.map (·.1)) wanted with
 |none=>exact XZ t _
 |some p =>
  obtain⟨t',o⟩:=p;dsimp only;split
  .exact Lw e
  .exact XZ t _
theorem aD(t:SetTable)(es:Array (Int×Value))(h:Int)(x:Value):(layNew t es h x).2.1.led=t.led:=by
 unfold layNew;cases e:t.freeSlot h with
 |none=>rfl
 |some p=>obtain⟨j,wd⟩:=p;show (SetTable.orStandIn _ _).led=t.led;unfold SetTable.orStandIn;split<;>rfl
theorem lH(t:SetTable)(es:Array (Int×Value))(wanted:Nat):(relayAll t es wanted).2.1.led=t.led:=by
 unfold relayAll;cases e:t.relaid (es.map (·.1)) wanted with
 |none=>rfl
 |some p =>
  obtain⟨t',o⟩:=p;dsimp only;split
  .show t'.led=t.led;unfold SetTable.relaid SetTable.laid at e;cases ho:SetTable.layClean (SetTable.sizeAbove wanted-1) (es.map (·.1)) with
   |none=>rw[ho]at e;cases e
   |some owner=>rw[ho]at e;cases e;rfl
  .rfl
noncomputable def ZK:Value->Int
 | .int n _=>n
 |_=>0
def IS(P:Program)(w:World)(ld:Bool)(h:Heap)(a:Addr)(σ:Qa):Prop:=∃o es ep t,h.get? a=some o/\o.ExactSet/\o.data=.set es ep t/\ElemsOf (intKind P w) es.toList/\(es.toList.map λe=>ZK e.2).Perm σ/\es.size<scanBound/\t.fits es.size=true/\yH t.place/\t.led=ld
section
variable {P:Program}{w:World}{a:Addr}{σ:Qa}{ld:Bool}
theorem rG(h:ElemsOf (intKind P w) l){e:Int×Value}(he:e∈l):∃tk,e.2=.int (ZK e.2) tk:=by obtain⟨⟨k,hk,_⟩,_⟩:=h e he;obtain⟨tk,z⟩:=U7 hk;rw[z];exact⟨tk,rfl⟩
theorem vj(hl:ElemsOf (intKind P w) l)(hp:(l.map λe=>ZK e.2).Perm σ)(hf:l.findIdx? (λe=>(intKind P w).is k e.2)=none):σ.any (·==k)=false:=by
 rw[B5];intro z;obtain⟨m,hm,hk⟩:=X3.mp z;obtain rfl:m=k:=by simpa using hk
 obtain⟨e,he,rfl⟩:=S0.mp<|hp.mem_iff.mpr hm;have:=List.findIdx?_eq_none_iff.mp hf e he;obtain⟨tk,q⟩:=rG hl he;rw[q]at this;rw[show ZK (M6 (ZK e.2) tk)=ZK e.2 from rfl,intKind_is]at this;cases this
theorem wj(hp:(l.map λe=>ZK e.2).Perm σ)(hf:l.findIdx? (λe=>(intKind P w).is k e.2)=some j):σ.any (·==k)=true:=by obtain⟨hj,hk,_⟩:=List.findIdx?_eq_some_iff_getElem.mp hf;obtain⟨tk,q⟩:=U7 hk;refine X3.mpr ⟨k,hp.mem_iff.mp<|S0.mpr ⟨_,u4 hj,?_⟩,by simp⟩;rw[q];rfl
theorem sG(q1:h.get? a=some o)(q2:o.ExactSet)(q3:o.data=.set es ep t){fs:Array (Int×Value)}{u:SetTable}{τ:Qa}(r1:ElemsOf (intKind P w) fs.toList) (r2:(fs.toList.map λe=>ZK e.2).Perm τ) (r3:fs.size<scanBound) (r4:u.fits fs.size=true) (r5:yH u.place) (r6:u.led=ld):(h.update a<|Obj.putSet fs u).get? a=some {o with data:=.set fs (ep+1) u}/\IS P w ld (h.update a<|Obj.putSet fs u) a τ:=by
 have g:=(SetOf_store (knd:=intKind P w) (S':=λk=>decide (∃e∈fs.toList,(intKind P w).is k e.2=true)) q1 q2 q3 r1 (λk=>by rw[decide_eq_true_eq]) r3 r4).1;exact⟨g,_,fs,ep+1,u,g,q2,rfl,r1,r2,r3,r4,r5,r6⟩
end
section
variable {P:Program}{w:World}{a:Addr}{σ:Qa}{ld:Bool}
theorem yV(b:Bool){s₁:Shared}{R:Unit->Shared->Prop}(r:R () s₁):wpAny (model P w) A (match b with|true=>rule "set.scan.the-table-gave-way" | false=>pure ()) R E s₁:=by
 cases b
 .exact wpAny_pure r
 .exact wpAny_rule r
theorem Iq{g:Bool->Sem Unit}(hg:∀(b:Bool) (s₁:Shared) (R:Unit->Shared->Prop),R () s₁->wpAny (model P w) A (g b) R E s₁){o:Obj}{es:Array (Int×Value)}{ep:Nat}{t:SetTable}
  (q1:s.heap.get? a=some o) (q2:o.ExactSet) (q3:o.data=.set es ep t) {fs:Array (Int×Value)}{u:SetTable}{τ:Qa} (r1:ElemsOf (intKind P w) fs.toList) (r2:(fs.toList.map λe=>ZK e.2).Perm τ)
  (r3:fs.size<scanBound) (r4:u.fits fs.size=true) (r5:yH u.place) (r6:u.led=ld) {wd:Bool}{R:Option Bool->Shared->Prop} (k:∀h',u3 a s.heap h'->IS P w ld h' a τ->R (some true) {s with heap:=h'}) :
  wpAny (model P w) A (do
    storeSet a fs u
    if (!wd&&u.tooFull)=true then do
      g (relayAll u fs<|SetTable.grown fs.size).2.2
      storeSet a (relayAll u fs<|SetTable.grown fs.size).1 (relayAll u fs<|SetTable.grown fs.size).2.1
      pure (some true)
    else pure (some true)) R E s:=by
 obtain⟨g1,g2⟩:=sG q1 q2 q3 r1 r2 r3 r4 r5 r6;have sb:=J3 s.heap a<|Obj.putSet fs u;refine wpAny_bind<|wpAny_storeSet_of q1 q3 ?_<|fits_of_scanBound r3;by_cases hb:(!wd&&u.tooFull)=true
 .rw[if_pos hb];have pm:=relayAll_perm u fs<|SetTable.grown fs.size;have ft:=relayAll_fits u fs<|SetTable.grown fs.size;have rs:=kH (t:=u) (es:=fs) (wanted:=SetTable.grown fs.size);have lr:=lH u fs<|SetTable.grown fs.size;revert pm ft rs lr;generalize relayAll u fs (SetTable.grown fs.size)=L;intro pm ft rs lr;have sz:L.1.size=fs.size:=by have:=pm.length_eq;simpa using this
  refine wpAny_bind<|hg _ _ _ ?_;refine wpAny_bind (wpAny_storeSet_of g1 rfl ?_<|fits_of_scanBound<|by rw[sz];exact r3);obtain⟨_,z⟩:=sG (P:=P) (w:=w) g1 q2 rfl (r1.perm pm) ((pm.map _).trans r2) (by rw[sz];exact r3) ft rs<|lr.trans r6;exact wpAny_pure<|k _ (sb.trans<|J3 _ a _) z
 .rw[if_neg hb];exact wpAny_pure<|k _ sb g2
theorem sM{Q:Bool->Shared->Prop}(hS:IS P w ld s.heap a σ)(hroom:σ.length+1<scanBound)(hQ:∀h' b,u3 a s.heap h'->IS P w ld h' a (step_dedup σ k)->Q b {s with heap:=h'}):wpAny (model P w) A (setAddHashed a (.int k tk)<|(intKind P w).hash k) Q E s:=by
 have hS0:=hS;obtain⟨o,es,ep,t,q1,q2,q3,q4,q5,q6,q7,q8,q9⟩:=hS;have hsz:es.size=σ.length:=by have:=q5.length_eq;simpa using this
 unfold setAddHashed setAddHashedIn;refine wpAny_holding<|wpAny_bind<|wpAny_setState_of q1 q3 q7 ?_;dsimp only;rw[byScan_of (knd:=intKind P w) (x:=.int k tk) rfl q6 q4];simp only[↓reduceIte];unfold setAddByScan;refine wpAny_bind<|wpAny_bind<|wpAny_rule ?_;refine wpAny_bind<|wpAny_setScan_of (knd:=intKind P w) (intKind_is P w k tk) q1 q3 q7 q4 ?_;cases hr:es.toList.findIdx? (λe=>(intKind P w).is k e.2) with
 |some j =>
  dsimp only;refine wpAny_pure<|wpAny_pure ?_;have e:step_dedup σ k=σ:=by unfold step_dedup;rw[if_pos<|wj q5 hr]
  have z:=hQ s.heap false (u3.refl a s.heap) (by rw[e];exact hS0);cases s;exact z
 |none =>
  dsimp only;have e:step_dedup σ k=σ++[k]:=by unfold step_dedup;rw[vj q4 q5 hr];rfl
  rw[e]at hQ;have pm:=layNew_perm t es ((intKind P w).hash k)<|.int k tk;have ft:=layNew_fits t es ((intKind P w).hash k)<|.int k tk;have rs:=ZF (es:=es) (h:=(intKind P w).hash k) (x:=.int k tk) q8;have lr:=(aD t es ((intKind P w).hash k)<|.int k tk).trans q9;revert pm ft rs lr;generalize layNew t es ((intKind P w).hash k) (.int k tk)=L;intro pm ft rs lr;obtain⟨fs,u,wd,gv⟩:=L;dsimp only at pm ft rs lr ⊢;rw[Y7]at pm;have r1:ElemsOf (intKind P w) fs.toList:=(q4.push (intKind_is P w k tk) rfl).perm pm;have r2:(fs.toList.map λe=>ZK e.2).Perm (σ++[k]):=(pm.map _).trans (by rw[N1];exact q5.append_right _);have r3:fs.size<scanBound:=by have:=r2.length_eq;simp at this;lia
  refine wpAny_bind<|yV _ ?_;by_cases hp:u.plain=true
  .rw[if_pos hp,hashByValue_scannable 8 rfl];refine wpAny_bind<|wpAny_pure ?_;refine Iq (λb s₁ R r=>yV b r) q1 q2 q3 r1 r2 r3 ?_ ?_ ?_ λh' sb z=>wpAny_pure<|hQ h' _ sb z
   .split
    .exact ft
    .exact SetTable.fits_plain_off ft
   .split
    .exact rs
    .exact rs
   .split
    .exact lr
    .exact lr
  .rw[if_neg hp];refine wpAny_bind<|wpAny_pure ?_;simp only[↓reduceIte];exact Iq (λb s₁ R r=>yV b r) q1 q2 q3 r1 r2 r3 ft rs lr λh' sb z=>wpAny_pure<|hQ h' _ sb z
end
theorem IS.keeps{ld:Bool}{σ:Qa}(x:IS P w ld h a σ)(k:∀o,h.get? a=some o->h'.get? a=some o):IS P w ld h' a σ:=by obtain⟨o,es,ep,t,q1,r⟩:=x;exact⟨o,es,ep,t,k o q1,r⟩
section
variable {P:Program}{w:World}{R:Result->Shared->Prop}{wr:List Addr}{G:Array GenState->Array GenState->Prop}{Pv:Nat->Value->Prop}{St:Nat->Shared->Prop}{ld:Bool}
theorem nB(W:WalksS P w A.in1 I fp wr G n Pv St){S:Addr}(nS:S∉fp){val:Nat->Int}(hv:∀i v,Pv i v->∃tk,v=.int (val i) tk)(hb:n+1<scanBound):∀(m i:Nat) (s:Shared),i+m=n->St i s->IS P w ld s.heap S (firstMet val i)->(∀s',Moved (S::wr) G s s'->IS P w ld s'.heap S (firstMet val n)->R (.ok<|.ret .none) s') -> codeAny (model P w) A (.builtin "set.update.loop" ⟨[.ref S,.ref I],[]⟩) R s:=by
 have nw:S∉wr:=λz=>nS<|W.sub _ z;have up:∀b∈wr,b∈S::wr:=λb z=>K0 _ z;intro m;induction m with
 |zero =>
  intro i s e st x k;obtain rfl:i=n:=by lia
  refine codeAny_builtin F.entry_set_update_loop ?_;rw[Around.under_plainId F.plain_set_update_loop _];show wpAny _ A.in1 (pyNext (.ref I) >>= _) _ _ s;refine wpAny_bind<|W.done s _ _ st λs' mv=>?_;show wpAny _ A.in1 (ret U3) _ _ s';exact wpAny_pure<|k s' (mv.mono up)<|x.keeps λo q=>mv.heap S o nw q
 |succ m ih =>
  intro i s e st x k;refine codeAny_builtin F.entry_set_update_loop ?_;rw[Around.under_plainId F.plain_set_update_loop _];show wpAny _ A.in1 (pyNext (.ref I) >>= _) _ _ s;refine wpAny_bind<|W.item i s _ _ (by lia) st λv s1 hp st1 mv=>?_;obtain⟨tk,rfl⟩:=hv i v hp;have x1:IS P w ld s1.heap S (firstMet val i):=x.keeps λo q=>mv.heap S o nw q;show wpAny _ A.in1 (holding [M6 (val i) tk] (setAdd S<|.int (val i) tk) >>= _) _ _ s1;refine wpAny_bind<|wpAny_holding ?_;unfold setAdd;refine wpAny_holding<|wpAny_bind<|(intKind P w).pyHash (k:=val i) (intKind_is _ _ _ _) ?_;have rm:(firstMet val i).length+1<scanBound:=by have:=firstMet_length_le val i;lia
  refine sM (s:={s1 with toks:=s1.toks+1}) x1 rm λh' b sb x2=>?_;rw[<-firstMet_succ]at x2;have oth:∀b o,b≠S->s1.heap.get? b=some o->h'.get? b=some o:=λb o nb q=>(sb.2 b nb).trans q;refine wpAny_pure ⟨plainId_quiet F.plain_set_update_loop _,ih (i+1) _ (by lia) (W.frame _ s1 h' _ st1 (B4 _) λb z o q=>oth b o (λy=>nS<|y ▸ z) q) x2 λs2 mv2 x3=>?_⟩;exact k s2 (((mv.mono up).then_heap (B4 _) λb o nb q=>oth b o (λy=>nb<|y ▸ L0) q).trans W.gtrans mv2) x3
end
noncomputable abbrev fW(led:Bool):Obj:={cls:=.type "set",dict:=none,data:=.set #[] 0 (.fresh 0 0 led)}
theorem tM(e:h.get? a=some (fW led)):IS P w led h a []:=⟨_,#[],0,_,e,⟨rfl,rfl,rfl⟩,rfl,(λx z=>by simp at z),List.Perm.refl _,by decide,rfl,λa b _ z=>absurd z<|R8 _,rfl⟩
section
variable {P:Program}{w:World}
theorem uM(a:Value){Q:Value->Shared->Prop}(k:Q (.ref s.heap.objs.size) {s with heap:=s.heap.push<|fW<|!w.params.followText "set-order"}):codeAny (model P w) A (.call (.builtin "set.__new__") ⟨[.type "set",a],[]⟩) (wants Q E) s:=by
 refine codeAny_of_tree ?_;show wpAny _ A.in1 (do checkBuiltinCall "set.__new__" ⟨[.type "set",a],[]⟩;again (.builtin "set.__new__" ⟨[.type "set",a],[]⟩)) _ _ s;refine wpAny_bind<|wpAny_of_eq (F.newCall_set_1 a)<|wpAny_pure ⟨plainId_quiet F.plain_set_new _,codeAny_builtin F.entry_set_new ?_⟩;rw[Around.under_plainId F.plain_set_new _];unfold Builtin.«set.__new__» Builtin.Frozenset.newClass;have y:=sub_set_self;cases s;dsimp only
 wp_walk
 refine wpAny_askSetting<|wpAny_pure ?_;dsimp only;simp only[newObj];exact wpAny_bind<|wpAny_alloc<|wpAny_pure<|wpAny_pure k
end
theorem oY:∀(l:List α) (i:Nat) (h:i<l.length),(l[i]::l.eraseIdx i).Perm l
 |a::l,0,h=>List.Perm.refl _
 |a::l,i+1,h=>by rw[List.eraseIdx_cons_succ,List.getElem_cons_succ];exact(List.Perm.swap a _ _).trans<|(oY l i<|by simpa using h).cons a
theorem Jq(next:Nat->Nat):∀(fuel k:Nat) (left:List α) (out:Array α),left.length=fuel->(pickOrder.go next fuel k left out).toList.Perm (out.toList++left)
 |0,k,left,out,e=>by have:left=[]:=O4.mp e;subst this;rw[L1];exact List.Perm.refl _
 |fuel+1,k,left,out,e=>by
  have hlt:next k % left.length<left.length:=Nat.mod_lt _ (by lia)
  unfold pickOrder.go;rw[R0 hlt];dsimp only;refine(Jq next fuel (k+1) _ _ (by rw[Q7 hlt];lia)).trans ?_;rw[Y7,L4];refine List.Perm.append_left _ ?_;exact oY left _ hlt
theorem FU(next:Nat->Nat)(xs:Array α):(pickOrder next xs).toList.Perm xs.toList:=by
 have z:=Jq next xs.size 0 xs.toList #[] (by simp)
 exact z
section
variable {M:Model}
theorem bD{Q:Nat->Shared->Prop}(hn:n≠0)(h:∀i d,i<n->Q i {s with drawn:=d}):wpAny M A (choose src n) Q E s:=λΓ p hΓ=>⟨hn,h _ _<|Nat.mod_lt _<|Nat.pos_of_ne_zero hn⟩
theorem tG:∀(n:Nat) (xs:List α) {s:Shared}{Q:List α->Shared->Prop},xs.length=n->(∀ys d,ys.Perm xs->Q ys {s with drawn:=d})->wpAny M A (drawOrder n xs) Q E s
 |0,xs,s,Q,e,h=>by have:xs=[]:=O4.mp e;subst this;unfold drawOrder;exact wpAny_pure<|h [] s.drawn<|List.Perm.refl _
 |n+1,[],s,Q,e,h=>by cases e
 |n+1,x::xs,s,Q,e,h=>by unfold drawOrder;refine wpAny_bind<|bD (by simp) λi d hi=>?_;rw[R0 hi];dsimp only;refine wpAny_bind<|tG n _ (by rw[Q7 hi];simp at e ⊢;lia) λys d' hp=>?_;exact wpAny_pure<|h _ d'<|(hp.cons _).trans<|oY _ i hi
end
theorem zV:Slot "set" "__iter__" "set.__iter__":=.of (owner:="set") (n:="__iter__") (by rw[typeLookup_type,builtinLookup_eq_fast];kernel_rfl) (by decide +kernel) (by decide +kernel) (by decide +kernel) (by first|exact .inl (by decide +kernel)|exact .inr<|by decide +kernel) (by rw[isSubtype_type];kernel_rfl)
theorem slot_snext:Slot "set_iterator" "__next__" "set_iterator.__next__":=.of (owner:="set_iterator") (n:="__next__") (by rw[typeLookup_type,builtinLookup_eq_fast];kernel_rfl) (by decide +kernel) (by decide +kernel) (by decide +kernel) (by first|exact .inl (by decide +kernel)|exact .inr<|by decide +kernel) (by rw[isSubtype_type];kernel_rfl)
theorem uG:entryFor table "set.__iter__"=some Builtin.«frozenset.__iter__»:=entryFor_alias (id':="frozenset.__iter__") (by kernel_rfl) rfl (by decide +kernel) (by kernel_rfl)
theorem YZ:entryFor table "set_iterator.__next__"=some Builtin.«set_iterator.__next__»:=entryFor_of_fast (by kernel_rfl)
theorem fD(a:Value):argsOk "set.__iter__" ⟨[a],[]⟩:=by unfold argsOk;kernel_rfl
theorem PJ(a:Value):argsOk "set_iterator.__next__" ⟨[a],[]⟩:=by unfold argsOk;kernel_rfl
noncomputable abbrev cU(first:Value)(i:Nat)(S:Addr)(n ep:Nat):Obj:={cls:=.type "set_iterator",data:=.fields #[first,rawInt i,.ref S,rawInt n,rawInt ep]}
section
variable {P:Program}{w:World}{S:Addr}{σ:Qa}{ld:Bool}
theorem Mw(q1:s.heap.get? S=some o)(q2:o.ExactSet)(q3:o.data=.set es ep t)(q4:t.fits es.size=true)(q5:es.size<scanBound)(k1:(!w.params.followText "set-order"&&(!t.plain&&decide (es.size > 1)))=false->Q (.ref s.heap.objs.size) {s with heap:=s.heap.push<|cU (rawInt 0) 0 S es.size ep})(k2:(!w.params.followText "set-order"&&(!t.plain&&decide (es.size > 1)))=true->∀(ys:List Nat) d,ys.Perm (Z1 es.size) -> Q (.ref<|s.heap.objs.size+1) {s with heap:=(s.heap.push {cls:=.type "tuple",data:=.seq (ys.map λ(i:Nat)=>rawInt i).toArray}).push (cU (.ref s.heap.objs.size) 0 S es.size ep),drawn:=d}):wpAny (model P w) A (pyIter<|.ref S) Q E s:=by
 have hT:s.TypeIs (.ref S) "set":=⟨o,q1,q2.1⟩;refine wpAny_pyIter_slot hT zV<|wpAny_call_entry zV hT uG ?_<|fD _;unfold Builtin.«frozenset.__iter__»;show wpAny _ _ (m8 S >>= _) _ _ s;refine wpAny_bind ?_;unfold m8;refine wpAny_bind<|wpAny_setEntries_of q1 q3 q4<|wpAny_pure ?_;refine wpAny_bind ?_;unfold setDrawn setsByText;refine wpAny_bind<|wpAny_setState_of q1 q3 q4 ?_;refine wpAny_bind<|wpAny_bind<|wpAny_askSetting<|wpAny_pure ?_;refine wpAny_pure ?_;show wpAny _ _ (if (!w.params.followText "set-order"&&(!t.plain&&decide (es.size > 1)))=true then _ else _) _ _ s;have ne:∀(fv:Value) (s1:Shared) (o1:s1.heap.get? S=some o) (kq:Q (.ref s1.heap.objs.size) {s1 with heap:=s1.heap.push<|cU fv 0 S es.size ep}),
   wpAny (model P w) A.in1 (do let e<-setEpoch S;let v<-newFields "set_iterator" [fv,rawInt 0,E2 S,rawInt (es.size:Nat),rawInt (e:Nat)];ret v)
    (λfin s'=>∃v,fin=Fin.done (Flow.ret v)/\∃T' r,s'.TypeIs v T'/\typeLookup (P4 T') (Str.ofString "__next__")=pure (some r)/\Q v s') E s1:=λfv s1 o1 kq=>by
  unfold setEpoch newFields;refine wpAny_bind<|wpAny_bind<|wpAny_setState_of o1 q3 q4<|wpAny_pure ?_;refine wpAny_bind<|wpAny_newObj_type<|wpAny_pure ⟨_,rfl,"set_iterator",_,⟨_,T0 _ rfl,rfl⟩,slot_snext.lookup,kq⟩
 by_cases hb:(!w.params.followText "set-order"&&(!t.plain&&decide (es.size > 1)))=true
 .rw[if_pos hb];refine wpAny_bind<|tG _ _ (W7) λys d hp=>?_;unfold newTuple;have ysz:(ys.map λ(i:Nat)=>rawInt i).toArray.size=es.size:=by have:=hp.length_eq;simpa using this
  refine wpAny_bind (wpAny_newObj_type ?_<|by unfold sizeOk;dsimp only;rw[ysz];exact fits_of_scanBound q5);have z:=ne (.ref s.heap.objs.size) {s with heap:=s.heap.push {cls:=.type "tuple",data:=.seq (ys.map λ(i:Nat)=>rawInt i).toArray},drawn:=d}<|u0 _ q1;refine z ?_;have e1:(s.heap.push {cls:=.type "tuple",data:=.seq (ys.map λ(i:Nat)=>rawInt i).toArray}).objs.size=s.heap.objs.size+1:=O2 ..;rw[e1];exact k2 hb ys d hp
 .rw[if_neg hb];exact ne (rawInt 0) s q1<|k1<|B5.mpr hb
end
section
variable {P:Program}{w:World}{S:Addr}{σ:Qa}{ld:Bool}{es:Array (Int×Value)}{ep:Nat}{t:SetTable}
theorem GU{Q:Option (Value×Nat)->Shared->Prop}(q1:s.heap.get? S=some o)(q3:o.data=.set es ep t)(q4:t.fits es.size=true)(hb:w.params.followText "set-order"=true)(k:Q ((pickOrder (w.params.setOrder S ep) es)[i]?.map λe=>(e.2,slot)) s):wpAny (model P w) A (setNext S slot i ep) Q E s:=by
 unfold setNext setWalk setsByText;refine wpAny_bind<|wpAny_setState_of q1 q3 q4 ?_;refine wpAny_bind<|wpAny_bind<|wpAny_askSetting<|wpAny_pure ?_;show wpAny _ _ (if w.params.followText "set-order"=true then _ else _) _ _ s;rw[if_pos hb];show wpAny _ _ (if (ep != ep)=true then _ else _) _ _ s;rw[if_neg<|by simp];refine wpAny_bind<|wpAny_bind<|wpAny_setState_of q1 q3 q4 ?_;refine wpAny_bind<|wpAny_bind<|wpAny_askSetting<|wpAny_pure ?_;show wpAny _ _ (if w.params.followText "set-order"=true then _ else _) _ _ s;rw[if_pos hb];refine wpAny_bind<|wpAny_askSetting<|wpAny_pure ?_;exact wpAny_pure k
theorem AV{g:Nat}{Q:Option (Value×Nat)->Shared->Prop}(q1:s.heap.get? S=some o)(q3:o.data=.set es ep t)(q4:t.fits es.size=true)(hb:w.params.followText "set-order"=false)(hp:(!t.plain&&decide (es.size > 1))=false)(hl:t.led=true)
  (hi:SetTable.below t.place slot=i) (k:Q (match es[i]?,t.place[i]? with|some (_,x),some j=>some (x,j+1)|_,_=>none) s):wpAny (model P w) A (setNext S slot g ep) Q E s:=by
 unfold setNext setsByText;refine wpAny_bind<|wpAny_setState_of q1 q3 q4 ?_;refine wpAny_bind<|wpAny_bind<|wpAny_askSetting<|wpAny_pure ?_;show wpAny _ _ (if w.params.followText "set-order"=true then _ else _) _ _ s;rw[if_neg<|by rw[hb];decide];show wpAny _ _ (if (!t.plain&&decide (es.size > 1))=true then _ else _) _ _ s;rw[if_neg<|by rw[hp];decide];refine wpAny_bind ?_;show wpAny _ _ (if (!t.led&&!es.isEmpty)=true then _ else _) _ _ s;rw[if_neg<|by rw[hl];simp];refine wpAny_pure ?_;dsimp only;rw[hi];exact wpAny_pure k
end
section
variable {P:Program}{w:World}{S:Addr}{σ:Qa}{ld:Bool}{es:Array (Int×Value)}{ep:Nat}{t:SetTable}
theorem xj{p:Nat}(q1:s.heap.get? S=some o)(q3:o.data=.set es ep t)(q4:t.fits es.size=true)(hx:es[p]?=some e)(k:Q e.2 s):wpAny (model P w) A (setNextDrawn S p ep) Q E s:=by
 unfold setNextDrawn;refine wpAny_bind<|wpAny_setState_of q1 q3 q4 ?_;show wpAny _ _ (if (ep != ep)=true then _ else _) _ _ s;rw[if_neg<|by simp];show wpAny _ _ (match es[p]? with|some (_,x)=>_|_=>_) _ _ s;rw[hx];exact wpAny_pure k
theorem Nw{Q:Option Value->Shared->Prop}(hI:s.heap.get? I=some (cU (rawInt slot) i S es.size ep))(q1:s.heap.get? S=some o)(q3:o.data=.set es ep t)(q4:t.fits es.size=true)(hn:∀{A':Around}{E':Value->Shared->Prop}{Q':Option (Value×Nat)->Shared->Prop},Q' (some (x,nx)) s->wpAny (model P w) A' (setNext S slot i ep) Q' E' s)(k:∀h',h'.get? I=some (cU (rawInt nx) (i+1) S es.size ep)->u3 I s.heap h'->Q (some x) {s with heap:=h'}):wpAny (model P w) A (pyNext<|.ref I) Q E s:=by
 have hT:s.TypeIs (.ref I) "set_iterator":=⟨_,hI,rfl⟩;unfold pyNext;refine wpAny_bind<|wpAny_attempt<|wpAny_callSpecial?_slot (name:=Str.ofString "__next__") hT slot_snext<|wpAny_call_entry slot_snext hT YZ ?_<|PJ _;unfold Builtin.«set_iterator.__next__»;show wpAny _ _ (fieldsOf (.ref I) >>= _) _ _ s;refine wpAny_bind<|wpAny_fieldsOf hI rfl ?_;show wpAny _ _ (setEntries S >>= _) _ _ s;refine wpAny_bind<|wpAny_setEntries_of q1 q3 q4 ?_;show wpAny _ _ (if (((es.size:Nat):Int) != ((es.size:Nat):Int))=true then _ else _) _ _ s;rw[if_neg<|by simp];show wpAny _ _ (setNext S slot i ep >>= _) _ _ s;refine wpAny_bind<|hn ?_;refine wpAny_bind<|wpAny_setField hI rfl (by simp) ?_;have g1:(s.heap.update I (t7 (·.setIfInBounds 0 (rawInt nx)))).get? I=some (cU (rawInt nx) i S es.size ep):=V2 _ hI<|m5<|Z4 rfl _;refine wpAny_bind<|wpAny_setField g1 rfl (by simp) ?_;have g2:((s.heap.update I (t7 (·.setIfInBounds 0 (rawInt nx)))).update I (t7 (·.setIfInBounds 1 (rawInt<|(i:Int)+1)))).get? I=some (cU (rawInt nx) (i+1) S es.size ep):=V2 _ g1<|m5<|Z4 rfl _;exact wpAny_pure ⟨x,rfl,wpAny_pure<|k _ g2<|(J3 _ I _).trans<|J3 _ I _⟩
end
section
variable {P:Program}{w:World}{S:Addr}{σ:Qa}{ld:Bool}{es:Array (Int×Value)}{ep:Nat}{t:SetTable}
theorem yj{p:Nat}{Q:Option Value->Shared->Prop}(hI:s.heap.get? I=some (cU (.ref T) i S es.size ep))(q1:s.heap.get? S=some o)(q3:o.data=.set es ep t)(q4:t.fits es.size=true)(hT1:s.heap.get? T=some ot) (hT2:ot.data=.seq (ys.map λ(i:Nat)=>rawInt i).toArray c) (hy:ys[i]?=some p) (hx:es[p]?=some e)(k:∀h',h'.get? I=some (cU (.ref T) (i+1) S es.size ep)->u3 I s.heap h'->Q (some e.2) {s with heap:=h'}):wpAny (model P w) A (pyNext<|.ref I) Q E s:=by
 have hT:s.TypeIs (.ref I) "set_iterator":=⟨_,hI,rfl⟩;unfold pyNext;refine wpAny_bind<|wpAny_attempt<|wpAny_callSpecial?_slot (name:=Str.ofString "__next__") hT slot_snext<|wpAny_call_entry slot_snext hT YZ ?_<|PJ _;unfold Builtin.«set_iterator.__next__»;show wpAny _ _ (fieldsOf (.ref I) >>= _) _ _ s;refine wpAny_bind<|wpAny_fieldsOf hI rfl ?_;show wpAny _ _ (setEntries S >>= _) _ _ s;refine wpAny_bind<|wpAny_setEntries_of q1 q3 q4 ?_;show wpAny _ _ (if (((es.size:Nat):Int) != ((es.size:Nat):Int))=true then _ else _) _ _ s;rw[if_neg<|by simp];show wpAny _ _ (seqItems? (.ref T) >>= _) _ _ s;refine wpAny_bind<|wpAny_seqItems hT1 hT2 ?_;show wpAny _ _ (match (ys.map λ(i:Nat)=>rawInt i).toArray[i]? with|some (.int place _)=>_|some _=>_|none=>_) _ _ s;rw[show (ys.map λ(i:Nat)=>rawInt i).toArray[i]?=some (rawInt p) by simp[hy]];show wpAny _ _ (setNextDrawn S p ep >>= _) _ _ s;refine wpAny_bind<|xj q1 q3 q4 hx ?_;refine wpAny_bind<|wpAny_setField hI rfl (by simp) ?_;have g1:(s.heap.update I (t7 (·.setIfInBounds 1 (rawInt<|(i:Int)+1)))).get? I=some (cU (.ref T) (i+1) S es.size ep):=V2 _ hI<|m5<|Z4 rfl _;exact wpAny_pure ⟨e.2,rfl,wpAny_pure<|k _ g1<|J3 _ I _⟩
theorem vG{Q:PySem.Fin->Shared->Prop}(hh:A.handled=none)(k:∀h' e,(∀b o,s.heap.get? b=some o->h'.get? b=some o)->(∃oe,h'.get? e=some oe/\oe.cls=.type "StopIteration")->E (.ref e) {s with heap:=h'}) :
  wpAny (model P w) A (do let e<-newExc (.type "StopIteration") [];raiseNew e) Q E s:=by
 refine wpAny_bind ?_;simp only[newExc,newTuple];refine wpAny_bind (wpAny_newObj_type ?_<|by size_fits);refine wpAny_bind (m:=firstArgMember _ _)<|wpAny_of_eq (a:=U3) (by first|rfl|(simp only[firstArgMember];rfl)) ?_;refine wpAny_newObj_type ?_ (by size_fits);simp only[raiseNew];refine wpAny_bind<|wpAny_handled ?_;rw[hh];refine wpAny_bind<|wpAny_pure<|wpAny_throw ?_;exact k _ _ (λb o q=>u0 _<|u0 _ q) ⟨_,T0 _ rfl,rfl⟩
end
section
variable {P:Program}{w:World}{S:Addr}{σ:Qa}{ld:Bool}{es:Array (Int×Value)}{ep:Nat}{t:SetTable}
theorem QJ{u:Obj}(n:b≠I)(q:h.get? b=some u):(h.update I f).get? b=some u:=(W6 _ _<|S2 n).trans q
theorem oB{Q:Option Value->Shared->Prop}(hh:A.handled=none)(hI:s.heap.get? I=some (cU (rawInt slot) i S es.size ep))(q1:s.heap.get? S=some o)(q3:o.data=.set es ep t)(q4:t.fits es.size=true)(hn:∀{A':Around}{E':Value->Shared->Prop}{Q':Option (Value×Nat)->Shared->Prop},Q' none s->wpAny (model P w) A' (setNext S slot i ep) Q' E' s)(k:∀h',(∀b u,b≠I->s.heap.get? b=some u->h'.get? b=some u)->Q none {s with heap:=h'}):wpAny (model P w) A (pyNext<|.ref I) Q E s:=by
 have hT:s.TypeIs (.ref I) "set_iterator":=⟨_,hI,rfl⟩;unfold pyNext;refine wpAny_bind<|wpAny_attempt<|wpAny_callSpecial?_slot (name:=Str.ofString "__next__") hT slot_snext<|wpAny_call_entry slot_snext hT YZ ?_<|PJ _;unfold Builtin.«set_iterator.__next__»;show wpAny _ _ (fieldsOf (.ref I) >>= _) _ _ s;refine wpAny_bind<|wpAny_fieldsOf hI rfl ?_;show wpAny _ _ (setEntries S >>= _) _ _ s;refine wpAny_bind<|wpAny_setEntries_of q1 q3 q4 ?_;show wpAny _ _ (if (((es.size:Nat):Int) != ((es.size:Nat):Int))=true then _ else _) _ _ s;rw[if_neg<|by simp];show wpAny _ _ (setNext S slot i ep >>= _) _ _ s;refine wpAny_bind<|hn ?_;refine wpAny_bind<|wpAny_setField hI rfl (by simp) ?_;refine vG (by simp[hh]) λh' e kp he=>?_;refine wpAny_bind<|wpAny_isInstance (T:="StopIteration") (b:=true) he isSubtype_stop ?_;exact wpAny_pure<|k h' λb u nb q=>kp b u<|QJ nb q
theorem Ow{Q:Option Value->Shared->Prop}(hh:A.handled=none)(hI:s.heap.get? I=some (cU (.ref T) i S es.size ep))(q1:s.heap.get? S=some o)(q3:o.data=.set es ep t)(q4:t.fits es.size=true)(hT1:s.heap.get? T=some ot) (hT2:ot.data=.seq (ys.map λ(i:Nat)=>rawInt i).toArray c) (hy:ys[i]?=none)(k:∀h',(∀b u,b≠I->s.heap.get? b=some u->h'.get? b=some u)->Q none {s with heap:=h'}):wpAny (model P w) A (pyNext<|.ref I) Q E s:=by
 have hT:s.TypeIs (.ref I) "set_iterator":=⟨_,hI,rfl⟩;unfold pyNext;refine wpAny_bind<|wpAny_attempt<|wpAny_callSpecial?_slot (name:=Str.ofString "__next__") hT slot_snext<|wpAny_call_entry slot_snext hT YZ ?_<|PJ _;unfold Builtin.«set_iterator.__next__»;show wpAny _ _ (fieldsOf (.ref I) >>= _) _ _ s;refine wpAny_bind<|wpAny_fieldsOf hI rfl ?_;show wpAny _ _ (setEntries S >>= _) _ _ s;refine wpAny_bind<|wpAny_setEntries_of q1 q3 q4 ?_;show wpAny _ _ (if (((es.size:Nat):Int) != ((es.size:Nat):Int))=true then _ else _) _ _ s;rw[if_neg<|by simp];show wpAny _ _ (seqItems? (.ref T) >>= _) _ _ s;refine wpAny_bind<|wpAny_seqItems hT1 hT2 ?_;show wpAny _ _ (match (ys.map λ(i:Nat)=>rawInt i).toArray[i]? with|some (.int place _)=>_|some _=>_|none=>_) _ _ s;rw[show (ys.map λ(i:Nat)=>rawInt i).toArray[i]?=none by simp at hy ⊢;exact hy];refine wpAny_bind<|wpAny_setField hI rfl (by simp) ?_;have g1:(s.heap.update I (t7 (·.setIfInBounds 0 (rawInt 0)))).get? I=some (cU (rawInt 0) i S es.size ep):=V2 _ hI<|m5<|Z4 rfl _;refine wpAny_bind<|wpAny_setField g1 rfl (by simp) ?_;refine vG (by simp[hh]) λh' e kp he=>?_;refine wpAny_bind<|wpAny_isInstance (T:="StopIteration") (b:=true) he isSubtype_stop ?_;exact wpAny_pure<|k h' λb u nb q=>kp b u<|QJ nb<|QJ nb q
end
theorem BV:Slot "set_iterator" "__iter__" "set_iterator.__iter__":=.of (owner:="set_iterator") (n:="__iter__") (by rw[typeLookup_type,builtinLookup_eq_fast];kernel_rfl) (by decide +kernel) (by decide +kernel) (by decide +kernel) (by first|exact .inl (by decide +kernel)|exact .inr<|by decide +kernel) (by rw[isSubtype_type];kernel_rfl)
theorem wG:entryFor table "set_iterator.__iter__"=some Builtin.«dict_keyiterator.__iter__»:=entryFor_alias (id':="dict_keyiterator.__iter__") (by kernel_rfl) rfl (by decide +kernel) (by kernel_rfl)
theorem gD(a:Value):argsOk "set_iterator.__iter__" ⟨[a],[]⟩:=by unfold argsOk;kernel_rfl
section
variable {P:Program}{w:World}{S:Addr}{es:Array (Int×Value)}{ep:Nat}{t:SetTable}{ord:List Value}
theorem xG(hT:s.TypeIs (.ref I) "set_iterator")(k:Q (.ref I) s):wpAny (model P w) A (pyIter<|.ref I) Q E s:=by refine wpAny_pyIter_slot hT BV<|wpAny_call_entry BV hT wG ?_<|gD _;unfold Builtin.«dict_keyiterator.__iter__»;exact wpAny_pure ⟨_,rfl,"set_iterator",_,hT,slot_snext.lookup,k⟩
theorem yG(C:Nat->Nat->Prop)(hh:A.handled=none)(nI:S≠I)(q3:o.data=.set es ep t)(q4:t.fits es.size=true)(step:∀i slot,C i slot->i<es.size->∃x nx,ord[i]?=some x/\C (i+1) nx/\∀{s:Shared}{A':Around}{E':Value->Shared->Prop}{Q':Option (Value×Nat)->Shared->Prop},s.heap.get? S=some o->Q' (some (x,nx)) s->wpAny (model P w) A' (setNext S slot i ep) Q' E' s)(stop:∀slot,C es.size slot->∀{s:Shared}{A':Around}{E':Value->Shared->Prop}{Q':Option (Value×Nat)->Shared->Prop},s.heap.get? S=some o->Q' none s->wpAny (model P w) A' (setNext S slot es.size ep) Q' E' s):WalksS P w A I [I,S] [I] (λa b=>b=a) es.size (λi v=>ord[i]?=some v) (λi s=>s.heap.get? S=some o/\∃slot,C i slot/\s.heap.get? I=some (cU (rawInt slot) i S es.size ep)) where
 sub:=λb z=>by rw[Y0.mp z];exact L0
 grefl:=λ_=>rfl
 gtrans:=λ_ _ _ h1 h2=>h2.trans h1
 frame:=λi s h' tk ⟨g1,slot,c,g2⟩ _ kp=>⟨kp S (by simp) _ g1,slot,c,kp I (by simp) _ g2⟩
 item:=λi s Q E hi ⟨g1,slot,c,g2⟩ k=>by obtain⟨x,nx,h1,h2,h3⟩:=step i slot c hi;refine Nw g2 g1 q3 q4 (λr=>h3 g1 r) λh' g3 sb=>k x _ h1 ⟨(sb.2 S nI).trans g1,nx,h2,g3⟩ ⟨λb u nb q=>(sb.2 b<|by simpa using nb).trans q,rfl,rfl,rfl,O0 _⟩
 done:=λs Q E ⟨g1,slot,c,g2⟩ k=>oB hh g2 g1 q3 q4 (λr=>stop slot c g1 r) λh' kp=>k _ ⟨λb u nb q=>kp b u (by simpa using nb) q,rfl,rfl,rfl,O0 _⟩
 self:=λi s Q E ⟨g1,slot,c,g2⟩ k=>xG ⟨_,g2,rfl⟩ k
theorem zj(hh:A.handled=none)(nI:S≠I)(nT:T≠I)(q3:o.data=.set es ep t)(q4:t.fits es.size=true)(hT2:ot.data=.seq (ys.map λ(i:Nat)=>rawInt i).toArray c)(hl:ys.length=es.size)(step:∀(i p:Nat),ys[i]?=some p->∃e,es[p]?=some e/\ord[i]?=some e.2):WalksS P w A I [I,S,T] [I] (λa b=>b=a) es.size (λi v=>ord[i]?=some v) (λi s=>s.heap.get? S=some o/\s.heap.get? T=some ot/\s.heap.get? I=some (cU (.ref T) i S es.size ep)) where
 sub:=λb z=>by rw[Y0.mp z];exact L0
 grefl:=λ_=>rfl
 gtrans:=λ_ _ _ h1 h2=>h2.trans h1
 frame:=λi s h' tk ⟨g1,g0,g2⟩ _ kp=>⟨kp S (by simp) _ g1,kp T (by simp) _ g0,kp I (by simp) _ g2⟩
 item:=λi s Q E hi ⟨g1,g0,g2⟩ k=>by obtain⟨p,hp⟩:∃p,ys[i]?=some p:=⟨_,R0<|by lia⟩;obtain⟨e,h1,h2⟩:=step i p hp;exact yj g2 g1 q3 q4 g0 hT2 hp h1 λh' g3 sb=>k e.2 _ h2 ⟨(sb.2 S nI).trans g1,(sb.2 T nT).trans g0,g3⟩ ⟨λb u nb q=>(sb.2 b<|by simpa using nb).trans q,rfl,rfl,rfl,O0 _⟩
 done:=λs Q E ⟨g1,g0,g2⟩ k=>Ow hh g2 g1 q3 q4 g0 hT2 (by rw[B3];lia) λh' kp=>k _ ⟨λb u nb q=>kp b u (by simpa using nb) q,rfl,rfl,rfl,O0 _⟩
 self:=λi s Q E ⟨g1,g0,g2⟩ k=>xG ⟨_,g2,rfl⟩ k
end
theorem Aj:typeLookup (.type "set") "__len__"=pure (some<|.builtin "set.__len__"):=by rw[typeLookup_type,builtinLookup_eq_fast];kernel_rfl
section
variable {P:Program}{w:World}{S:Addr}
theorem zG{Q:Bool->Shared->Prop}(hT:s.TypeIs (.ref S) "set")(k:Q false s):wpAny (model P w) A (J7<|.ref S) Q E s:=by
 unfold J7;refine wpAny_bind<|wpAny_specialOf hT Aj ?_;have sp:splitId "set.__len__"=some ("set","__len__"):=by decide +kernel
 simp only[sp];refine wpAny_bind<|wpAny_isInstance hT sub_set_self ?_;simp only[Bool.not_true,j5,if_false];rw[if_pos<|by decide +kernel];refine wpAny_bind<|wpAny_typeOf hT ?_;exact wpAny_pure k
theorem DV{l:Addr}{St:Nat->Shared->Prop}(W:WalksS P w A.in1 I fp [I] (λa b=>b=a) n Pv St)(hn:n<=sizeLine)(nl:l∉fp)
  (hl:s.heap.get? l=some {cls:=.type "list",data:=.seq #[] 0}) (st:St 0 s)
  (k:∀s' acc c,Moved [l,I] (λa b=>b=a) s s'->s'.heap.get? l=some {cls:=.type "list",dict:=none,data:=.seq acc c,slots:=#[]}->ItemsOf Pv acc n->R (.ok<|.ret<|.ref l) s') :
  wpAny (model P w) A.in1 (rule "list.extend.makes-room" >>= λ_=>Builtin.List.listTouch (.ref l) >>= λ_=>again<|.builtin "list.extend.loop" ⟨[.ref l,.ref I,.ref l],[]⟩)
   (λfin s'=>match fin with | .done f=>R (.ok f) s' | .again c=>c.quiet=true/\codeAny (model P w) A c R s') E' s:=by
 refine wpAny_bind<|wpAny_rule<|wpAny_bind ?_;show wpAny _ A.in1 (updateSeq l (·.push .none) >>= λ_=>updateSeq l (·.pop)) _ _ _;refine wpAny_bind<|wpAny_updateSeq hl rfl ?_;have g1:=V2 (J2 (·.push U3)) hl rfl;refine wpAny_updateSeq g1 rfl ?_;have g2:=V2 (J2 (·.pop)) g1 rfl;have oth:∀b u,b≠l->s.heap.get? b=some u->((s.heap.update l (J2 (·.push U3))).update l (J2 (·.pop))).get? b=some u:=λb u nb q=>QJ nb<|QJ nb q;refine wpAny_pure ⟨plainId_quiet F.plain_extend_loop _,codeAny_extend_loopS W hn l nl _ n 0 _ _ _ rfl (W2 _) (W.frame 0 s _ s.toks st (O0 _) λb z u q=>oth b u (λy=>nl<|y ▸ z) q) g2 (ItemsOf.nil Pv) λs' acc c mv g3 it=>?_⟩;have m0:Moved [l,I] (λa b=>b=a) s {s with heap:=(s.heap.update l (J2 (·.push U3))).update l (J2 (·.pop))}:=⟨λb u nb q=>oth b u (λy=>nb<|by rw[y];exact L0) q,rfl,rfl,rfl,O0 _⟩;exact k s' acc c (Moved.trans W.gtrans m0 mv) g3 it
end
theorem Bj(h:ItemsOf (λi v=>ord[i]?=some v) acc n)(hl:ord.length=n):acc.toList=ord:=by refine t8 (by rw[G3,h.1,hl]) λi h1 h2=>?_;have:=h.2 i (acc.toList[i]) (by rw[<-T5,R0 h1]);have this:ord[i]?=some acc.toList[i]:=this;rw[R0 h2]at this;exact(W1 this).symm
theorem AG:∀{l:List Value},(∀v∈l,∃tk,v=.int (ZK v) tk)->IntsAre l (l.map ZK)
 |[],_=>.nil
 |v::l,h=>by obtain⟨tk,e⟩:=h v L0;have r:=AG (l:=l) λx hx=>h x<|K0 _ hx;rw[K1];generalize ZK v=m at e ⊢;subst e;exact .cons m tk r
section
variable {P:Program}{w:World}{S:Addr}{σ:Qa}
theorem BG{Q:List Value->Shared->Prop}(hh:A.handled=none)(hS:IS P w (!w.params.followText "set-order") s.heap S σ)(k:∀h' d tk vs ms,(∀b u,s.heap.get? b=some u->h'.get? b=some u)->s.heap.objs.size<h'.objs.size->IntsAre vs ms->ms.Perm σ->Q vs {s with heap:=h',drawn:=d,toks:=tk}):wpAny (model P w) A (collect<|.ref S) Q E s:=by
 obtain⟨o,es,ep,t,q1,q2,q3,q4,q5,q6,q7,q8,q9⟩:=hS;have lS:S<s.heap.objs.size:=U0 q1;have psz:t.place.size=es.size:=by unfold SetTable.fits at q7;simp at q7;exact q7.1
 have fin:∀(ord:List Value),ord.Perm (es.toList.map (·.2))->IntsAre ord (ord.map ZK)/\(ord.map ZK).Perm σ/\ord.length=es.size:=λord hp=>by
  refine⟨AG λv hv=>?_,?_,?_⟩
  .obtain⟨e,he,rfl⟩:=S0.mp<|hp.mem_iff.mp hv;exact rG q4 he
  .refine(hp.map ZK).trans ?_;rw[v1];exact q5
  .have:=hp.length_eq;simpa using this
 unfold collect;refine wpAny_bind<|wpAny_runValue<|codeAny_builtin F.entry_proto_collect ?_;rw[Around.under_plainId F.plain_proto_collect _];show wpAny _ A.in1 (newList [] >>= λl=>again<|.builtin "list.__iadd__" ⟨[l,.ref S],[]⟩) _ _ s;refine wpAny_bind<|wpAny_newObj_type ?_;refine wpAny_pure ⟨plainId_quiet F.plain_list_iadd _,codeAny_builtin F.entry_list_iadd ?_⟩;rw[Around.under_plainId F.plain_list_iadd _];have nS:s.heap.objs.size≠S:=v3 lS;have e0:=u0 (h:=s.heap) {cls:=.type "list",data:=.seq ([]:List Value).toArray} q1;have el:(s.heap.push {cls:=.type "list",data:=.seq ([]:List Value).toArray}).get? s.heap.objs.size=some {cls:=.type "list",data:=.seq ([]:List Value).toArray}:=T0 _ rfl;have sz:(s.heap.push {cls:=.type "list",data:=.seq ([]:List Value).toArray}).objs.size=s.heap.objs.size+1:=O2 ..;show wpAny _ A.in1 (X4 (.ref s.heap.objs.size) (.ref S)<|.ref s.heap.objs.size) _ _ _;unfold X4;refine wpAny_bind<|wpAny_typeOf (T:="set") ⟨o,e0,q2.1⟩ ?_;have h1:n8 (.ref s.heap.objs.size) (.ref S)=false:=by simp[n8,nS]
 have h2:(P4 "set"==P4 "list")=false:=by decide
 have h3:(P4 "set"==P4 "tuple")=false:=by decide
 simp only[h1,h2,h3,b8,j5,if_false];have done:∀(ord:List Value) (I:Addr) (s2 s':Shared) (acc:Array Value) (c:Nat),ord.Perm (es.toList.map (·.2))->s.heap.objs.size<=I->s2.gens=s.gens->s2.os=s.os->(∀b u,s.heap.get? b=some u->s2.heap.get? b=some u)->Moved [s.heap.objs.size,I] (λa b=>b=a) s2 s' ->
   s'.heap.get? s.heap.objs.size=some {cls:=.type "list",dict:=none,data:=.seq acc c,slots:=#[]}->ItemsOf (λi v=>ord[i]?=some v) acc es.size ->
   wpAny (model P w) A (load s.heap.objs.size >>= λob=>match ob.data with | .seq xs _=>pure xs.toList|_=>unsupported "internal:collect") Q E s':=λord I s2 s' acc c hp nI hg ho kp mv g it=>by
  obtain⟨f1,f2,f3⟩:=fin ord hp;obtain⟨h',g',d',tk',os'⟩:=s';obtain rfl:g'=s.gens:=mv.gens.trans hg;obtain rfl:os'=s.os:=mv.os.trans ho;refine wpAny_bind<|wpAny_load g<|wpAny_pure ?_;rw[Bj it f3];refine k h' d' tk' ord _ (λb u q=>mv.heap b u ?_<|kp b u q) (U0 g) f1 f2;have lb:=U0 q;simp only[P0,O1,or_false,not_or];exact⟨V0 lb,V0<|Q0 lb nI⟩
 let RR:Result->Shared->Prop:=λr s'=>match r with
  | .ok (.ret v)=>wpAny (model P w) A (match v with | .ref a=>(do let ob<-load a;match ob.data with | .seq xs _=>pure xs.toList|_=>unsupported "internal:collect")|_=>unsupported "internal:collect") Q E s'
  | .ok _=>False
  | .error e=>E e s'
 have nIS:S≠s.heap.objs.size+1:=V0<|K3 lS;have hn:=fits_of_scanBound q6;refine wpAny_bind<|Mw e0 q2 q3 q7 q6 (λhb=>?a)<|λhb ys d hp=>?b
 case a =>
  refine wpAny_bind<|wpAny_holding<|zG ⟨o,u0 _ e0,q2.1⟩ ?_;rw[if_pos<|by decide +kernel];rw[show (s.heap.push {cls:=.type "list",data:=.seq ([]:List Value).toArray}).objs.size=s.heap.objs.size+1 from sz];have nl:s.heap.objs.size∉[s.heap.objs.size+1,S]:=by simp only[P0,O1,or_false,not_or];exact⟨V0<|V3 _,nS⟩
  have gI:((s.heap.push {cls:=.type "list",data:=.seq ([]:List Value).toArray}).push<|cU (rawInt 0) 0 S es.size ep).get? (s.heap.objs.size+1)=some (cU (rawInt ((0:Nat):Int)) 0 S es.size ep):=by rw[<-sz];exact T0 _ rfl
  let s2:Shared:={s with heap:=(s.heap.push {cls:=.type "list",data:=.seq ([]:List Value).toArray}).push<|cU (rawInt 0) 0 S es.size ep}
  cases ht:w.params.followText "set-order" with
  |true =>
   have pz:(pickOrder (w.params.setOrder S ep) es).size=es.size:=by have:=(FU (w.params.setOrder S ep) es).length_eq;simpa using this
   refine wpAny_mono (DV (R:=RR) (E':=λe s'=>E e s') (s:=s2) (yG (ord:=(pickOrder (w.params.setOrder S ep) es).toList.map (·.2)) (λ_ _=>True) (A:=A.in1) hh nIS q3 q7 (λi slot _ hi=>?_)<|λslot _=>?_) hn nl (u0 _ el) ⟨u0 _ e0,0,trivial,gI⟩ λs' acc c mv g it=>?_) (λfin s' h=>by cases fin with|done f=>(cases f<;>exact h)|again c=>exact⟨h.1,codeAny_mono h.2 λr s3 hr=>by cases r with|error e=>exact hr|ok f=>(cases f<;>exact hr)⟩)<|λ_ _ h=>h
   .obtain⟨e,he⟩:∃e,(pickOrder (w.params.setOrder S ep) es)[i]?=some e:=⟨_,m4<|by rw[pz];exact hi⟩;exact⟨e.2,slot,by rw[E1,T5,he];rfl,trivial,λg1 r=>GU g1 q3 q7 ht<|by rw[he];exact r⟩
   .exact λg1 r=>GU g1 q3 q7 ht (by rw[M8<|by rw[pz];exact O0 _];exact r)
   .exact done _ _ s2 s' acc c ((FU _ es).map _) (B4 _) rfl rfl (λb u q=>u0 _<|u0 _ q) mv g it
  |false =>
   rw[ht]at hb q9;have hpl:(!t.plain&&decide (es.size > 1))=false:=hb;have hld:t.led=true:=q9;refine wpAny_mono (DV (R:=RR) (E':=λe s'=>E e s') (s:=s2) (yG (ord:=es.toList.map (·.2)) (λi slot=>SetTable.below t.place slot=i) (A:=A.in1) hh nIS q3 q7 (λi slot hc hi=>?_)<|λslot hc=>?_) hn nl (u0 _ el) ⟨u0 _ e0,0,XF q8,gI⟩ λs' acc c mv g it=>?_) (λfin s' h=>by cases fin with|done f=>(cases f<;>exact h)|again c=>exact⟨h.1,codeAny_mono h.2 λr s3 hr=>by cases r with|error e=>exact hr|ok f=>(cases f<;>exact hr)⟩)<|λ_ _ h=>h
   .obtain⟨e,he⟩:∃e,es[i]?=some e:=⟨_,m4 hi⟩;have hj:t.place[i]?=some (t.place.getD i 0):=by rw[m4<|by rw[psz];exact hi];simp[K6,show i<t.place.size by rw[psz];exact hi]
    exact⟨e.2,t.place.getD i 0+1,by rw[E1,T5,he];rfl,WF q8 (by rw[psz];exact hi),λg1 r=>AV g1 q3 q7 ht hpl hld hc<|by rw[he,hj];exact r⟩
   .exact λg1 r=>AV g1 q3 q7 ht hpl hld hc (by rw[M8<|O0 _];exact r)
   .exact done _ _ s2 s' acc c (List.Perm.refl _) (B4 _) rfl rfl (λb u q=>u0 _<|u0 _ q) mv g it
 case b =>
  refine wpAny_bind<|wpAny_holding<|zG ⟨o,u0 _<|u0 _ e0,q2.1⟩ ?_;rw[if_pos<|by decide +kernel];rw[show (s.heap.push {cls:=.type "list",data:=.seq ([]:List Value).toArray}).objs.size=s.heap.objs.size+1 from sz];have nl:s.heap.objs.size∉[s.heap.objs.size+1+1,S,s.heap.objs.size+1]:=by simp only[P0,O1,or_false,not_or];exact⟨V0<|K3<|V3 _,nS,V0<|V3 _⟩
  let ot:Obj:={cls:=.type "tuple",data:=.seq (ys.map λ(i:Nat)=>rawInt i).toArray}
  have gT:((s.heap.push {cls:=.type "list",data:=.seq ([]:List Value).toArray}).push ot).get? (s.heap.objs.size+1)=some ot:=by rw[<-sz];exact T0 _ rfl
  have sz2:((s.heap.push {cls:=.type "list",data:=.seq ([]:List Value).toArray}).push ot).objs.size=s.heap.objs.size+1+1:=by rw[O2,sz]
  have gI:(((s.heap.push {cls:=.type "list",data:=.seq ([]:List Value).toArray}).push ot).push<|cU (.ref<|s.heap.objs.size+1) 0 S es.size ep).get? (s.heap.objs.size+1+1)=some (cU (.ref<|s.heap.objs.size+1) 0 S es.size ep):=by rw[<-sz2];exact T0 _ rfl
  have hyl:ys.length=es.size:=by have:=hp.length_eq;simpa using this
  let s2:Shared:={s with heap:=((s.heap.push {cls:=.type "list",data:=.seq ([]:List Value).toArray}).push ot).push (cU (.ref<|s.heap.objs.size+1) 0 S es.size ep),drawn:=d}
  have hdf:∀p,p∈ys->p<es.size:=λp z=>E4.mp<|hp.mem_iff.mp z;have oe:(ys.map λp=>(es.getD p (0,U3)).2).Perm (es.toList.map (·.2)):=by
   refine(hp.map _).trans<|List.Perm.of_eq ?_;refine t8 (by simp) λi h1 h2=>?_;have:i<es.size:=by simpa using h1
   simp[K6,this]
  refine wpAny_mono (DV (R:=RR) (E':=λe s'=>E e s') (s:=s2) (zj (ord:=ys.map λp=>(es.getD p (0,U3)).2) (A:=A.in1) hh (V0<|K3<|K3 lS) (V0<|V3 _) q3 q7 (ot:=ot) rfl hyl<|λi p hy=>?_) hn nl
    (u0 _<|u0 _ el) ⟨u0 _<|u0 _ e0,u0 _ gT,gI⟩ λs' acc c mv g it=>?_) (λfin s' h=>by cases fin with|done f=>(cases f<;>exact h)|again c=>exact⟨h.1,codeAny_mono h.2 λr s3 hr=>by cases r with|error e=>exact hr|ok f=>(cases f<;>exact hr)⟩)<|λ_ _ h=>h
  .have hp2:p<es.size:=hdf p<|U1 hy;refine⟨es.getD p (0,U3),by rw[m4 hp2];simp[K6,hp2],by rw[E1,hy];rfl⟩
  .exact done _ _ s2 s' acc c oe (Z7<|B4 _) rfl rfl (λb u q=>u0 _<|u0 _<|u0 _ q) mv g it
end
open PySem.W
theorem XO(q:h.get? a=some (seqObj "list" vs.toArray n)):(∃e,(sortedHeap h a vs out).get? a=some (seqObj "list" out e))/\∀b u,b≠a->h.get? b=some u->(sortedHeap h a vs out).get? b=some u:=by obtain⟨e1,g1⟩:∃e1,(h.update a<|J2 λ_=>#[]).get? a=some (seqObj "list" #[] e1):=⟨_,get?_update_seq q<|λ_=>#[]⟩;have g2:=u0 (seqObj "list" #[] 0)<|u0 (seqObj "tuple" vs.toArray 0) g1;exact⟨⟨_,get?_update_seq g2<|λ_=>out⟩,λb u nb z=>QJ nb<|u0 _<|u0 _<|QJ nb z⟩
section
variable {P:Program}{w:World}{S:Addr}{σ:Qa}
end
noncomputable abbrev pB(P:Program)(w:World)(p:Addr)(σ:Qa):HO:=.ext λh=>IS P w (!w.params.followText "set-order") h p σ
end L2
namespace HT
section
open PySem.SeqAt
open PySem.AutoSeq1 (wpAny_loadPart')
open PySem.MeetsSeq PySem.MeetsSeq2 PySem.MeetsSeq3
variable {w:World}
theorem whole_tup{lo:Option Int}(hT:IsTup s.heap t items)(hS:s.heap.IsSliceOf sl vl vu .none)(p1:IsPart vl lo)(p2:IsPart vu hi)(z1:sIx items.size 0 lo=0) (z2:sIx items.size items.size hi=items.size) (q:Q (.ref t) s):wpAny (model prog w) A (getItem (.ref t)<|.ref sl) Q E s:=by
 obtain⟨os,g1,g2,g3⟩:=id hS;have tS:s.TypeIs (.ref sl) "slice":=⟨os,g1,g2⟩;unfold getItem;try with_reducible refine wpAny_holding ?_
 first|refine wpAny_bind (wpAny_pure ?_)|skip
 refine wpAny_bind<|wpAny_sequenceKey hT.typeIs (by decide) ?_;refine wpAny_bind<|wpAny_callSpecial?_slot (name:=Str.ofString "__getitem__") hT.typeIs j4<|wpAny_call_entry j4 hT.typeIs entry_tuple_getitem ?_<|args_tuple_getitem _ _;show wpAny _ _ (O7 (.ref t) >>= _) _ _ s;refine wpAny_bind<|tupleItemsOf_ hT<|wpAny_bind<|wpAny_typeOf tS ?_;rw[if_pos<|by decide];refine wpAny_bind<|kJ hS p1 p2 ?_;have yes:((((sIx items.size 0 lo:Nat):Int)==0&&(1:Int)==1&&(sIx items.size items.size hi-sIx items.size 0 lo)==items.size)=true):=by rw[z1,z2];simp
 show wpAny _ _ (if (((sIx items.size 0 lo:Nat):Int)==0&&(1:Int)==1&&(sIx items.size items.size hi-sIx items.size 0 lo)==items.size)=true then _ else _) _ _ s;rw[if_pos yes];refine wpAny_bind (m:=Builtin.Tuple.tupleIsExact _)<|wpAny_bind<|wpAny_typeOf hT.typeIs<|wpAny_pure ?_;rw[if_pos<|by decide];exact wpAny_bind<|wpAny_rule<|wpAny_pure ⟨_,rfl,wpAny_pure q⟩
end
end HT
namespace L2
def Pw(K:G0):V->Option Int->Option Int->Hp->VK->Prop:=λx lo hi H Q=>∃a xs,x=.ref a/\SqT K H a xs /\
 (YJ xs lo hi=xs->Q (.ref a) H)/\∀p,H p=none->Q (.ref p) (upd H p<|.tup<|YJ xs lo hi)
theorem Kq:IP X (Pw X.K):=by
 intro pins s σ H x v vl vu lo hi sl Q I rx hS p1 p2 h;obtain⟨a,xs,rfl,hx,q1,q2⟩:=h;by_cases z:HT.sIx xs.length 0 lo=0/\HT.sIx xs.length xs.length hi=xs.length
 .cases rx;obtain⟨its,r,hT,hz⟩:=I.tuple hx;have hl:its.toArray.size=xs.length:=by rw[X0];exact r.length.symm
  refine⟨"tuple",_,j4.lookup,hT.typeIs,HT.whole_tup hT hS p1 p2 (by rw[hl];exact z.1) (by rw[hl];exact z.2) ⟨.ref a,H,I,rfl,q1 ?_⟩⟩;unfold YJ;rw[z.1,z.2];simp
 .exact fF pins s σ H (.ref a) v vl vu lo hi sl Q I rx hS p1 p2 ⟨a,xs,rfl,hx,z,q2⟩
theorem qB(xs:List V){j:Int}(hj:0<=j):YJ xs none (some j)=xs.take j.toNat:=by
 unfold YJ;have e2:HT.sIx xs.length xs.length (some j)=min j.toNat xs.length:=by show (if j<0 then (j+(xs.length:Int)).toNat else min j.toNat xs.length)=_;rw[if_neg<|by lia]
 rw[e2];show (xs.drop 0).take (min j.toNat xs.length-0)=_;rw[List.drop_zero,Nat.sub_zero];by_cases h2:j.toNat<=xs.length
 .rw[P8 h2]
 .rw[Nat.min_eq_right<|by lia,Z3<|by lia,Z3<|by lia]
end L2
namespace L3
open L2
def YO(r:V->Option Int->Option Int->Hp->VK->Prop):R2:=λx z H Q=>∃j,z=.int j/\r x none (some j) H Q
section
variable {K:Fg}{e1 e2 e3:Expr}{a b c:AD}{p pos p2 apos cpos:Pos}{x:Str}
end
end L3
namespace L2
section
variable {w:World}
noncomputable abbrev Qw(h:Heap)(vs:List Value):Heap:=(h.push<|seqObj "list" #[] 0).update h.objs.size (J2 (·++vs.toArray))
theorem CG{l:Addr}{Q:List Value->Shared->Prop}(hl:IsTup s.heap l vs.toArray)(hz:vs.length<=sizeLine)(h:Q vs {s with heap:=Qw s.heap vs}):wpAny (model prog w) A (collect<|.ref l) Q E s:=by
 obtain⟨o,ho,hc,n,hd⟩:=id hl;have e0:=T0 s.heap (o:=seqObj "list" #[] 0) rfl;have ho':(s.heap.push<|seqObj "list" #[] 0).get? l=some o:=u0 _ ho;unfold collect;refine wpAny_bind<|wpAny_runValue<|codeAny_builtin entry_proto_collect'<|show wpAny _ _ (do again (.builtin "list.__iadd__" ⟨[<-newList [],.ref l],[]⟩)) _ _ s from wpAny_bind<|wpAny_newList<|wpAny_pure ⟨Code.quiet_builtin _ (by decide +kernel),codeAny_builtin entry_list_iadd'<|show wpAny _ _ (X4 (.ref s.heap.objs.size) (.ref l)<|.ref s.heap.objs.size) _ _ {s with heap:=s.heap.push<|seqObj "list" #[] 0} from ?_⟩;unfold X4;refine wpAny_bind<|wpAny_typeOf (T:="tuple") ⟨o,ho',hc⟩ ?_;rw[if_pos<|by rw[show (P4 "tuple"==P4 "tuple")=true from rfl];simp];refine wpAny_bind<|listItems_at ho' hd<|wpAny_bind<|listItems_at (xs:=#[]) (n:=0) e0 rfl ?_;rw[if_neg<|by simp];refine wpAny_bind (listUpdate_at (xs:=#[]) (n:=0) e0 rfl (wpAny_pure<|show wpAny (model prog w) A (do
     let o<-load s.heap.objs.size
     match o.data with
     | .seq xs _=>pure xs.toList
     |_=>unsupported "internal:collect") Q E {s with heap:=Qw s.heap vs} from wpAny_bind<|wpAny_load (get?_update_seq e0 _) ?_) (W2 _)<|by show (#[]++vs.toArray).size<=sizeLine+1;simp only[S9,X0,G6];lia);show wpAny _ _ (pure ((#[]:Array Value)++vs.toArray).toList) Q E _;rw[show ((#[]:Array Value)++vs.toArray).toList=vs by simp];exact wpAny_pure h
theorem iD{l:Addr}(hl:IsTup s.heap l vs.toArray)(hI:IntsAre vs ns)(h64:vs.length<64)(h:∀(out:Array Value) (ns':Qa),IntsAre out.toList ns'->ns'.Perm ns->ns'.Pairwise (·<=·)->Q (.ref<|s.heap.objs.size+1) {s with heap:=sortedAll s.heap vs out}):wpAny (model prog w) A (call (.builtin "sorted") [.ref l]) Q E s:=by
 have hsz:(Qw s.heap vs).objs.size=s.heap.objs.size+1:=by rw[i7,O2]
 have hoL:((Qw s.heap vs).push<|seqObj "list" vs.toArray 0).get? (s.heap.objs.size+1)=some (seqObj "list" vs.toArray 0):=by rw[<-hsz];exact T0 _ rfl
 refine Calls.call_function_entry kind_sorted plain_sorted entry_sorted (args_sorted1 _) ?_;unfold Builtin.«sorted»;refine wpAny_bind (m:=checkCount "sorted" 1 1 _)<|wpAny_pure<|wpAny_bind<|CG hl (T1 (U4 h64)<|by decide)<|wpAny_bind<|wpAny_newList ?_;show wpAny _ _ _ _ _ {s with heap:=(Qw s.heap vs).push<|seqObj "list" vs.toArray 0};rw[hsz];exact wpAny_bind<|wpAny_holding<|wpAny_call_entry slot_list_sort ⟨_,hoL,rfl⟩ entry_list_sort (list_sort_tree hoL hI h64 λout ns' a1 a2 a3=>⟨_,rfl,wpAny_pure ⟨_,rfl,h out ns' a1 a2 a3⟩⟩)<|args_list_sort _
end
def Rw:List V->Hp->VK->Prop:=λxs H Q=>∃(a:Addr) (ns:Qa),xs=[.ref a]/\H a=some (.tup<|ns.map V.int)/\ns.length<64 /\
 ∀(p:Addr) (ns':Qa),H p=none->ns'.Perm ns->ns'.Pairwise (·<=·)->Q (.ref p) (upd H p<|.lst<|ns'.map V.int)
theorem pY:ZQ X (.builtin "sorted") Rw:=by intro pins s σ H xs us Q I r h;obtain⟨a,ns,rfl,hs,h64,q⟩:=h;obtain⟨u,rfl,ru⟩:=EZ r;cases ru;obtain⟨z,its,rv,ht⟩:=(show ObjOk X.prog X.w H s.heap a (.tup<|ns.map V.int) from I.hok a _ hs);have hl:=rv.length;rw[B0]at hl;refine iD (vs:=its) (ns:=ns) ht.t (zJ rv) (by lia) λout ns' hI hp hw=>?_;obtain⟨ep,he⟩:=sortedAll_at s.heap its out;have hn:H (s.heap.objs.size+1)=none:=I.hok.fresh<|B4 _;have hl2:ns'.length=ns.length:=hp.length_eq;refine⟨.ref<|s.heap.objs.size+1,upd H (s.heap.objs.size+1)<|.lst<|ns'.map V.int,I.laid (t':=s.toks) (λb u e=>sortedAll_old e) (B4 _) ?_,rfl,q _ ns' hn hp hw⟩;exact⟨by rw[B0,sizeLine_eq];lia,out.toList,ep,MJ hI,by rw[he]⟩
end L2
namespace L3
open L2
noncomputable def vM:D->(Sl->Prop)->Prop
 | .tuple ds,Q=>∃ns:Qa,ds=ns.map p0/\ns.length<64/\∀ns':Qa,ns'.Perm ns->ns'.Pairwise (·<=·)->Q (.ow<|.list<|ns'.map p0)
 |_,_=>False
theorem EV{K:Fg}:OQ K Rw (o1 vM):=ZH λG F σ H ρ x d Q Qd R h1 w k=>by
 cases d<;>first|exact w.elim|skip
 obtain⟨ns,e,h64,w⟩:=w;subst e;obtain⟨a,us,rfl,_,e1,d1⟩:=h1.tuple R.sub;have:=d1.intsV;subst this;refine⟨a,ns,rfl,e1,h64,λp ns' hp h2 h3=>?_⟩;obtain⟨R',r'⟩:=R.newOw (o:=.lst<|ns'.map V.int) (d:=.list<|ns'.map p0) hp<|DaAll.ints ns';exact k _ _ F _ (Sub.refl _) R' r'<|w ns' h2 h3
end L3
namespace L2
section
variable {P:Program}{w:World}
theorem Sw{l:Addr}(hh:A.handled=none)(hl:s.heap.IsTuple l items)(hi:IntsAre items.toList ns)(hb:items.size+1<scanBound)(k:∀h' tk,IS P w led h' s.heap.objs.size (firstMet (λi=>ns.getD i 0) items.size)->(∀b o,b<s.heap.objs.size->s.heap.get? b=some o->h'.get? b=some o)->Q .none {s with heap:=h',toks:=tk}):codeAny (model P w) A (.call (.builtin "set.__init__") ⟨[.ref s.heap.objs.size,.ref l],[]⟩) (wants Q E) {s with heap:=s.heap.push<|fW led}:=by
 have e0:(s.heap.push<|fW led).get? s.heap.objs.size=some (fW led):=T0 _ rfl;refine codeAny_call_builtin F.called_set.init.plain F.entry_set_init<|check_set_init_1 ⟨_,e0,rfl⟩ ?_;have hl1:(s.heap.push<|fW led).IsTuple l items:=hl.push _;have hlS:l<s.heap.objs.size:=by obtain⟨ol,q,_⟩:=hl;exact U0 q
 have z1:=F.sub_tuple_set;have z2:=F.sub_tuple_frozenset;have z3:(P4 "tuple"==P4 "dict")=false:=by decide
 have hl2:=hl1;obtain⟨⟨oc,odc,odt,osl⟩,q1,q2,nl,q3⟩:=hl2;obtain rfl:oc=.type "tuple":=q2;obtain rfl:odt=.seq items nl:=q3;unfold Builtin.«set.__init__» noKeywords Builtin.Frozenset.updateFrom;generalize hPI:pyIter=PI
 wp_walk
 subst hPI;refine wpAny_pyIter_tuple hl1 ?_;refine wpAny_bind<|wpAny_runValue ?_;have sz:(s.heap.push<|fW led).objs.size=s.heap.objs.size+1:=O2 ..;have n1:l≠(s.heap.push<|fW led).objs.size:=V0 (by rw[sz];exact K3 hlS);have n2:s.heap.objs.size∉[(s.heap.push<|fW led).objs.size,l]:=by rw[sz];simp only[P0,O1,or_false,not_or];exact⟨V0<|V3 _,v3 hlS⟩
 have vi:∀(i:Nat) (v:Value),items[i]?=some v->∃tk,v=.int ((λi=>ns.getD i 0) i) tk:=λi v hv=>IntsAre.int_at hi i v (by rw[T5];exact hv);refine nB (ld:=led) ((Walks.tuple (by simp[hh]) _ l n1 items).toS) n2 vi hb items.size 0 _ (E8 _) ⟨⟨_,T0 _ rfl,rfl,rfl⟩,hl1.push _⟩ ?x ?y
 case x=>rw[firstMet_zero];exact tM<|u0 _ e0
 case y=>intro s' mv x;obtain⟨h',g',d',tk',os'⟩:=s';obtain rfl:g'=s.gens:=mv.gens;obtain rfl:d'=s.drawn:=mv.drawn;obtain rfl:os'=s.os:=mv.os;show wpAny _ _ _ _ _ _;refine wpAny_pure ?_;show wpAny _ _ (ret U3) _ _ _;refine wpAny_pure<|k h' tk' x λb o lb q=>mv.heap b o ?_<|u0 _<|u0 _ q;rw[sz];simp only[P0,O1,or_false,not_or];exact⟨V0 lb,V0<|K3 lb⟩
theorem mH{l:Addr}(hh:A.handled=none)(hl:s.heap.IsTuple l items)(hi:IntsAre items.toList ns)(hb:items.size+1<scanBound)(k:∀h' tk,IS P w (!w.params.followText "set-order") h' s.heap.objs.size (firstMet (λi=>ns.getD i 0) items.size)->(∀b o,b<s.heap.objs.size->s.heap.get? b=some o->h'.get? b=some o)->Q (.ref s.heap.objs.size) {s with heap:=h',toks:=tk}):wpAny (model P w) A (call (.type "set") [.ref l]) Q E s:=by
 obtain⟨c,tl,y1⟩:=F.called_set.mro;have y2:=F.called_set.made;have y3:=F.called_set.sub;have y4:=F.called_set.notType;have y5:=F.called_set.canCreate;have y6:=F.typeCall_set_1<|.ref l;refine wpAny_call<|codeAny_of_tree ?_;show wpAny _ _ (callAny (.type "set") _) _ _ _;refine wpAny_pure ⟨Code.quiet_builtin _ (by decide +kernel),codeAny_builtin F.entry_type_call ?_⟩;rw[Around.under_plain (weight_type_call_type "set" [.ref l] []) rfl];repeat (any_goals (first|assumption|wp_step))
 refine codeAny_mono (uM (.ref l) (E:=E) (Q:=λv s1=>v=.ref s.heap.objs.size/\s1={s with heap:=s.heap.push<|fW<|!w.params.followText "set-order"}) ⟨rfl,rfl⟩) λr s1 hr=>?_;match r,hr with
 | .error e,hr=>exact hr
 | .ok (.ret v),⟨e1,e2⟩ =>
  subst e1;subst e2;generalize hld:(!w.params.followText "set-order")=led at *;have e0:(s.heap.push<|fW led).get? s.heap.objs.size=some (fW led):=T0 _ rfl;have T:Shared.TypeIs {s with heap:=s.heap.push<|fW led} (.ref s.heap.objs.size) "set":=⟨_,e0,rfl⟩;have i1:=F.called_set.init.lookup;have i2:=F.called_set.init.bind<|.ref s.heap.objs.size;repeat (any_goals (first|assumption|wp_step))
  refine codeAny_mono (Sw (s:=s) (led:=led) (E:=E) (Q:=λv s2=>v=.none/\∃h' tk,s2={s with heap:=h',toks:=tk}/\IS P w led h' s.heap.objs.size (firstMet (λi=>ns.getD i 0) items.size)/\∀b o,b<s.heap.objs.size->s.heap.get? b=some o->h'.get? b=some o)
    (by simp[hh]) hl hi hb λh' tk x kp=>⟨rfl,h',tk,rfl,x,kp⟩) λr2 s2 hr2=>?_;match r2,hr2 with
  | .error e,hr2=>exact hr2
  | .ok (.ret v),⟨e3,h',tk,e4,x,kp⟩ =>
   subst e3;subst e4;repeat (any_goals (first|assumption|wp_step))
   exact k _ _ x kp
  | .ok .next,hr2=>exact hr2.elim
  | .ok .brk,hr2=>exact hr2.elim
  | .ok .cont,hr2=>exact hr2.elim
 | .ok .next,hr=>exact hr.elim
 | .ok .brk,hr=>exact hr.elim
 | .ok .cont,hr=>exact hr.elim
end
section
variable {P:Program}{w:World}{S:Addr}{σ:Qa}
theorem DG(hh:A.handled=none)(hS:IS P w (!w.params.followText "set-order") s.heap S σ)(h64:σ.length<64)(k:∀h' d tk p out e,(∀b u,s.heap.get? b=some u->h'.get? b=some u)->s.heap.objs.size<=p->h'.get? p=some (seqObj "list" out e)->(∃ms,IntsAre out.toList ms/\ms.Perm σ/\ms.Pairwise (·<=·))->Q (.ref p) {s with heap:=h',drawn:=d,toks:=tk}):wpAny (model P w) A (call (.builtin "sorted") [.ref S]) Q E s:=by
 refine Calls.call_function_entry kind_sorted plain_sorted entry_sorted (args_sorted1 _) ?_;unfold Builtin.«sorted»;refine wpAny_bind (m:=checkCount "sorted" 1 1 _)<|wpAny_pure<|wpAny_bind<|BG hh hS λh1 d tk vs ms kp sz hI hp=>?_;have vl:vs.length<64:=by rw[IntsAre.length hI,hp.length_eq];exact h64
 refine wpAny_bind (wpAny_newList ?_<|T1 (U4 vl)<|by decide);have g:(h1.push<|seqObj "list" vs.toArray 0).get? h1.objs.size=some (seqObj "list" vs.toArray 0):=T0 _ rfl;refine wpAny_bind<|wpAny_holding<|wpAny_call_entry slot_list_sort ⟨_,g,rfl⟩ entry_list_sort (list_sort_tree g hI vl λout ns' a1 a2 a3=>⟨_,rfl,?_⟩)<|args_list_sort _;obtain⟨⟨e,z1⟩,z2⟩:=XO (out:=out) g;exact wpAny_pure ⟨_,rfl,k _ d tk _ out e (λb u q=>z2 b u (V0<|U0<|kp b u q)<|u0 _<|kp b u q) (U4 sz) z1 ⟨ns',a1,a2.trans hp,a3⟩⟩
end
def Tw(P:Program)(w:World):List V->Hp->VK->Prop:=λxs H Q=>∃(a:Addr) (σ:Qa),xs=[.ref a]/\H a=some (pB P w a σ)/\σ.length<64/\∀(p:Addr) (ms:Qa),H p=none->ms.Perm σ->ms.Pairwise (·<=·)->Q (.ref p) (upd H p<|.lst<|ms.map V.int)
theorem jD(hc:X.calm=true):ZQ X (.builtin "sorted") (Tw X.prog X.w):=by intro pins s σ H xs us Q I r h;obtain⟨a,τ,rfl,hs,hz,q⟩:=h;obtain⟨u,rfl,ru⟩:=EZ r;cases ru;have x:IS X.prog X.w (!X.w.params.followText "set-order") s.heap a τ:=(I.hok a _ hs).1;refine DG (I.ok.hd hc) x hz λh' d tk p out e kp hp g ⟨ms,m1,m2,m3⟩=>?_;have J:=I.laid (a:=p) (o:=.lst<|ms.map V.int) (h':=h') (t':=tk) kp hp ⟨by rw[B0,m2.length_eq];exact T1 (U4 hz)<|by decide,out.toList,e,MJ m1,by rw[g]⟩;exact⟨.ref p,_,⟨J.ok,J.os,J.bare,J.base,J.loc,J.cell,J.free,J.freeC,J.pin,J.hok,J.len⟩,rfl,q p ms (I.hok.fresh hp) m2 m3⟩
def mE(P:Program)(w:World)(K:G0):List V->Hp->VK->Prop:=λxs H Q=>∃(a:Addr) (ns:Qa),xs=[.ref a]/\H a=some (.tup<|ns.map V.int)/\ns.length+1<scanBound /\
 ∀p,H p=none->Q (.ref p) (upd H p<|pB P w p<|firstMet (λi=>ns.getD i 0) ns.length)
theorem Cj(hc:X.calm=true):ZQ X (.type "set") (mE X.prog X.w X.K):=by
 intro pins s σ H xs us Q I r h;obtain⟨a,ns,rfl,hs,hb,q⟩:=h;obtain⟨u,rfl,ru⟩:=EZ r;cases ru;obtain⟨hz,its,rv,⟨o,e,c,n,d2,_⟩⟩:=(show ObjOk X.prog X.w H s.heap a (.tup<|ns.map V.int) from I.hok a _ hs);have hl:=rv.length;rw[B0]at hl;refine mH (I.ok.hd hc) (items:=its.toArray) (ns:=ns) ⟨o,e,c,n,d2⟩ (by simpa using zJ rv) (by simpa [<-hl]using hb) λh' tk x kp=>?_;have hn:H s.heap.objs.size=none:=I.hok.fresh<|O0 _;have x2:IS X.prog X.w (!X.w.params.followText "set-order") h' s.heap.objs.size (firstMet (λi=>ns.getD i 0) ns.length):=by
  have z:its.toArray.size=ns.length:=by simp[hl]
  rw[z]at x;exact x
 obtain⟨oo,_,_,_,g1,_⟩:=id x2;refine⟨.ref s.heap.objs.size,upd H s.heap.objs.size<|pB X.prog X.w s.heap.objs.size<|firstMet (λi=>ns.getD i 0) ns.length,I.laid (t':=tk) (λb u e=>kp b u (U0 e) e) (O0 _) ?_,rfl,q _ hn⟩;exact⟨x2,⟨oo,g1⟩,λh1 h2 y z=>y.keeps z⟩
end L2
namespace L3
open L2
noncomputable def mS:D->(Sl->Prop)->Prop
 | .tuple ds,Q=>∃ns:Qa,ds=ns.map p0/\ns.length<64/\∀ms:Qa,ms.Perm (firstMet (λi=>ns.getD i 0) ns.length)->ms.Pairwise (·<=·)->Q (.ow<|.list<|ms.map p0)
 |_,_=>False
theorem ZO{K:Fg}:OQ K (λvs H Q=>mE P wd K vs H λv H1=>Tw P wd [v] H1 Q) (o1 mS):=ZH λG F σ H ρ x d Q Qd R h1 w k=>by
 cases d with
 |tuple ds=>obtain⟨ns,e,hb,w⟩:=w;subst e;obtain⟨a,us,rfl,f1,e1,d1⟩:=h1.tuple R.sub;have:=d1.ints_of;subst this;have sl:(firstMet (λi=>ns.getD i 0) ns.length).length<64:=X2 (firstMet_length_le _ _) hb;refine⟨a,ns,rfl,e1,Q0 (Nat.succ_lt_succ hb)<|by decide,λp hp=>⟨p,_,rfl,uQ,sl,λp2 ms hp2 m1 m2=>?_⟩⟩;have R1:=R.laid (o:=pB P wd p<|firstMet (λi=>ns.getD i 0) ns.length) hp;obtain⟨R',r'⟩:=R1.newOw (o:=.lst<|ms.map V.int) (d:=.list<|ms.map p0) hp2<|DaAll.ints ms;exact k _ _ F _ (Sub.refl _) R' r'<|w ms m1 m2
 |_=>exact(w:False).elim
section
variable {K:Fg}{e1:Expr}{a:AD}{p p2 pos pos':Pos}
theorem kD(hc:X.calm=true)(hK:X.K=K)(hm:X.mg "sorted"=none)(hm2:X.mg "set"=none)(ha:WA X [e1] (rQ<|[a].map (kQ K)))(hg:Gl X "sorted":=by rfl)(hg2:Gl X "set":=by rfl)(he:lQ e1=true:=by rfl) :
  WE X (.Call (.Name "sorted" p) [.Call (.Name "set" p2) [e1] [] pos'] [] pos) (lift K<|FJ [a]<|o1 mS):=by
 subst hK;exact⟨WK (KZ (jD hc) hg hm boot_sorted (NQ (JZ (Cj hc) hg2 hm2 boot_set ha.h (by decide) (by decide) (starEach_of he)<|zQ rfl) pZ<|starEach_of rfl) (by decide) (by decide) (starEach_of rfl)<|zQ rfl) λq=>rK ZO q⟩
end
end L3
namespace L2
end L2
namespace L3
open L2
theorem Uw{Q:List D->Ev->Prop}{A B:D}{us:List D}(h1:ρ[i]?=some (some<|.fz A))(h2:ρ[j]?=some (some<|.fz B))(e1:aU A=some us)(e2:aU B=some ws)(w:Q (aK us ws) ρ):aW (.inl i) (.inl j) ρ Q:=by unfold aW;simp only[JX,h1,h2,kX,TQ,Sl.d,e1,e2,YQ];exact w
theorem rB{g:nJ}{u:LZ}{E:DE}{A B:D}{us:List D}(h1:ρ[i]?=some (some<|.fz A))(h2:ρ[j]?=some (some<|.fz B))(e1:aU A=some us)(e2:aU B=some ws)(w:NZ ks g tb {nx:=λρ'=>u E ρ',rt:=E.rt,bk:=E.bk,ct:=E.ct} (aK us ws) (clean ks ρ)):Nz (zU ks (aW (.inl i)<|.inl j) g tb) u E ρ:=Uw (Q:=λds ρ'=>NZ ks g tb {nx:=λρ'=>u E ρ',rt:=E.rt,bk:=E.bk,ct:=E.ct} ds<|clean ks ρ') h1 h2 e1 e2 w
theorem iX{u:LZ}{E:DE}(J:Ev->Prop)(h1:∀N:Ev->Prop,(∀ρ',J ρ'->N ρ')->t {nx:=N,rt:=E.rt,bk:=E.bk,ct:=E.ct} ρ)(h2:∀ρ',J ρ'->u E ρ'):Nz t u E ρ:=h1 _ h2
theorem UP{Q:Ev->Prop}(h:jy i d ρ Q=Q (ρ.set i<|some<|.fz d))(w:Q (ρ.set i<|some<|.fz d)):jy i d ρ Q:=by rw[h];exact w
section
variable {K:Fg}{ec:Expr}{p p1 p2 p3 p4 p5 p6 p7 p8 p9 pa pb pc pd pe pf pg ph pi' pj pk pl:Pos}{x a b c:Str}{tc:jY}
end
noncomputable def sB:D->(Sl->Prop)->Prop
 | .int j,Q=>GL 0 j/\j.toNat<=2 ^ 24/\Q (.ow<|.list<|BQ 0 j.toNat)
 |_,_=>False
theorem uB{K:Fg}{Q:VK}(R:Rel K G F σ H ρ)(h1:At K F H x (.int j))(w:sB (.int j) Qd)(k:∀v H' F' s,Sub F F'->Rel K G F' σ H' ρ->Res K G F' H' σ ρ v s->Qd s->Q v H'):cj [x] H λv H1=>TK [v] H1 Q:=by
 cases h1.int;refine⟨0,j,.inr ⟨rfl,rfl⟩,λp hp=>⟨p,0,j,rfl,uQ,w.1,by have:=w.2.1;lia,λl hl=>?_⟩⟩;have ej:(j-0).toNat=j.toNat:=by lia
 rw[ej];have R1:Rel K G F σ (upd H p<|.rng 0 j) ρ:=R.laid hp;have da:DaAll K F ((Z1 j.toNat).map λ(n:Nat)=>V.int<|0+n) (BQ 0 j.toNat):=by have:=DaAll.ints (K:=K) (F:=F)<|(Z1 j.toNat).map λ(n:Nat)=>(0:Int)+(n:Int);simpa [BQ,v1,Function.comp_def]using this
 obtain⟨R',r'⟩:=R1.newOw (o:=.lst _) (d:=.list<|BQ 0 j.toNat) hl da;exact k _ _ F _ (Sub.refl _) R' r' w.2.2
theorem wM{K:Fg}:OQ K (λvs H Q=>cj vs H λv H1=>TK [v] H1 Q) (o1 sB):=ZH λG F σ H ρ x d Q Qd R h1 w k=>by
 cases d with
 |int j=>exact uB R h1 w k
 |_=>exact w.elim
section
variable {K:Fg}{e e1:Expr}{a:AD}{p p2 pos pos':Pos}
theorem xM(h:PE X e (FC TK<|MW (FC cj<|rQ<|[a].map (kQ K)) wz)):PE X e (lift K<|FJ [a]<|o1 sB):=WK h λq=>rK wM q
theorem Vw(hc:X.calm=true)(hm:X.mg "list"=none)(hm2:X.mg "range"=none)(ha:WA X [e1] (rQ<|[a].map (kQ K)))(hg:Gl X "list":=by rfl)(hg2:Gl X "range":=by rfl)(he:lQ e1=true:=by rfl) :
  WE X (.Call (.Name "list" p) [.Call (.Name "range" p2) [e1] [] pos'] [] pos) (lift K<|FJ [a]<|o1 sB) :=
 ⟨xM<|JZ (qW hc) hg hm boot_list (NQ (JZ eG hg2 hm2 boot_range ha.h (by decide) (by decide) (starEach_of he)<|zQ rfl) pZ<|starEach_of rfl) (by decide) (by decide) (starEach_of rfl)<|zQ rfl⟩
end
theorem Lq(us:List V){i:Int}(h:0<=i):YJ us (some i) none=us.drop i.toNat:=by
 unfold YJ;have e1:HT.sIx us.length 0 (some i)=min i.toNat us.length:=by show (if i<0 then (i+(us.length:Int)).toNat else min i.toNat us.length)=_;rw[if_neg<|by lia]
 rw[e1];show (us.drop<|min i.toNat us.length).take (us.length-min i.toNat us.length)=_;rw[Z3<|by rw[U2];exact O0 _];by_cases z:i.toNat<=us.length
 .rw[P8 z]
 .rw[Nat.min_eq_right<|by lia,A3<|O0 _,A3<|by lia]
def aP(r:V->Option Int->Option Int->Hp->VK->Prop):R2:=λx z H Q=>∃j,z=.int j/\r x (some j) none H Q
noncomputable def nE:D->D->(Sl->Prop)->Prop
 | .tuple ds,.int j,Q=>0<=j/\Q (.fz<|.tuple<|ds.drop j.toNat)
 |_,_,_=>False
theorem vB{K:Fg}:OQ K (kY<|aP<|Pw K) (o2 nE):=YH λG F σ H ρ x y d e Q Qd R h1 h2 w k=>by
 cases d<;>first|exact w.elim|(cases e<;>first|exact w.elim|skip)
 rename_i ds j;obtain⟨w1,w⟩:=w;cases h2.int;obtain⟨a,us,rfl,f1,e1,d1⟩:=h1.tuple R.sub;have dc:=d1.drop j.toNat;refine⟨j,rfl,a,us,rfl,SqT.of e1,λz=>?_,λp hp=>?_⟩
 .rw[Lq us w1]at z;refine k _ H F (.fz _) (Sub.refl _) R (Da.tup f1 ?_) w;rw[z]at dc;exact dc
 .rw[Lq us w1];obtain⟨sb,R',dd⟩:=R.newTup hp dc;exact k _ _ _ (.fz _) sb R' dd w
theorem Ww{K:Fg}(hK:X.K=K)(ha:WE X e1 (kQ K a))(hb:WE X e2 (kQ K b)):WE X (.Subscript e1 (.Slice (some e2) none none p2) pos) (lift K<|FJ [a,b]<|o2 nE):=by subst hK;exact⟨WK (fK Kq ha.h (uY hb.h) tY) λq=>QH (P:=λx z H=>aP (Pw X.K) x z H _)<|rK vB q⟩
end L3
namespace L2
theorem qY:fillsNumberSlot (.type "tuple") "mul"=pure false:=PySem.fillsNumberSlot_seq (id:="tuple.__mul__") (r:=some<|.builtin "tuple.__rmul__") PySem.F.slot_tuple_mul.lookup (by decide +kernel) PySem.F.slot_tuple_rmul.lookup (by decide +kernel)
theorem nH:seqRepeat? (.type "tuple")=pure (some<|.builtin "tuple.__mul__"):=by unfold seqRepeat?;rw[PySem.seqSlot_of (T:="tuple") (name:="__mul__") (id:="tuple.__mul__") PySem.F.slot_tuple_mul.lookup (by decide +kernel),PySem.seqSlot_of (T:="tuple") (name:="__rmul__") (id:="tuple.__rmul__") PySem.F.slot_tuple_rmul.lookup<|by decide +kernel];rfl
theorem RJ(a:Int)(t:Tok)(l:Addr)(items:Array Value)(n:Nat)(sl:Array (Option Value)):Meets (Builtin.«int.__rmul__» ⟨[.int a t,.ref l],[]⟩) (λ_ R s=>s.heap.get? l=some {cls:=.type "tuple",dict:=none,data:=.seq items n,slots:=sl}/\R (.ok<|.ret Value.notImplemented) s):=
 .of_wp λprog w A R s h=>by
  obtain⟨hp,g,d,tk,os⟩:=s;obtain⟨hl,h⟩:=h
  wp_walk
  exact⟨_,rfl,h⟩
theorem wB(l:Addr)(items:Array Value)(n:Nat)(sl:Array (Option Value))(k:Int)(t:Tok)(h1:2<=k)(h2:k<2 ^ 63)(h3:items.isEmpty=false)(h4:items.size*k.toNat<=sizeLine):Meets (Builtin.«tuple.__mul__» ⟨[.ref l,.int k t],[]⟩) (λ_ R s=>s.heap.get? l=some {cls:=.type "tuple",dict:=none,data:=.seq items n,slots:=sl} /\ R (.ok<|.ret<|.ref s.heap.objs.size) {s with heap:=s.heap.push {cls:=.type "tuple",data:=.seq<|Y6 (λx1 x2=>x1++x2) #[] (A0 k.toNat items)}}):=
 .of_wp λprog w A R s h=>by
  obtain⟨hp,g,d,tk,os⟩:=s;obtain⟨hl,h⟩:=h;have c1:(decide (k < -2 ^ 63)||decide (k ≥ 2 ^ 63))=false:=by simp;lia
  have c2:(items.isEmpty||k==1)=false:=by rw[h3];simp;lia
  have c3:(decide (k<=0)||items.isEmpty)=false:=by rw[h3];simp;lia
  have hk:((k.toNat:Nat):Int)=k:=by lia
  have hm:(items.size:Int)*k<=(sizeLine:Nat):=by rw[<-hk];exact_mod_cast h4
  have hs:(sizeLine:Nat)<=(2 ^ 63-1) / 8:=by decide
  have c4:¬((items.size:Int)*k > (2 ^ 63-1) / 8):=by lia
  wp_walk
  refine wpAny_ite_false (decide_eq_false<|by rw[c1];exact W0) ?_
  wp_walk
  refine wpAny_ite_false (decide_eq_false<|by rw[c2];exact W0) ?_
  wp_walk
  refine wpAny_ite_false (decide_eq_false<|by rw[c3];exact W0) ?_
  wp_walk
  rw[if_neg c4]
  wp_walk
  have c5:Builtin.Tuple.tupleTooMany ((items.size:Int)*k)=false:=decide_eq_false (by lia);refine wpAny_ite_false (decide_eq_false<|by rw[c5];exact W0) ?_;have hsz:(Y6 (λx1 x2=>x1++x2) #[] (A0 k.toNat items)).size<=sizeLine:=by
   have f0:∀(m:Nat) (acc:Array Value),(Y6 (λx1 x2=>x1++x2) acc<|A0 m items).size=acc.size+m*items.size:=by
    intro m;induction m with
    |zero=>intro acc;simp
    |succ m ih=>intro acc;rw[G2,N8,ih,S9,M9];lia
   rw[f0,N9];simpa using h4
  wp_walk
  exact⟨_,rfl,h⟩
def Mq:R2:=λx y H Q=>∃l k xs,x=.ref l/\y=.int k/\H l=some (.tup xs)/\xs≠[]/\2<=k/\k<2 ^ 63/\xs.length*k.toNat<=sizeLine/\∀p,H p=none->Q (.ref p) (upd H p<|.tup (A0 k.toNat xs).flatten)
theorem xB:OpR X (binaryOp .Mult) Mq:=by
 intro pins s σ H x y v u Q I rx ry h;obtain⟨l,k,xs,rfl,rfl,hH,hne,h1,h2,hz,q⟩:=h;cases rx;obtain⟨t,rfl⟩:=ry;obtain⟨z,its,r,⟨cls,dd,data,sl⟩,e,c,m,d,dn⟩:=(show ObjOk X.prog X.w H s.heap l (.tup xs) from I.hok l _ hH);simp only at c d dn;subst c d dn;have hl:=r.length;have hem:its.toArray.isEmpty=false:=by
  cases its with
  |nil=>exact absurd (O4.mp hl) hne
  |cons=>rfl
 refine wpAny_binaryOp_repeat_ref (T:="tuple") (U:="int") (by decide) ⟨_,e,rfl⟩ (λs'=>typeIs_int s' k t) qY PySem.F.fills_int_mul PySem.F.slot_int_rmul nH PySem.F.slot_int_index.lookup
  (call_meets PySem.F.slot_int_rmul (typeIs_int s k t) PySem.F.entry_int_rmul (PySem.F.args_int_rmul_2 _ _) (RJ k t l its.toArray m sl)
    ⟨e,rfl,⟨_,e,rfl⟩,call_meets PySem.F.slot_tuple_mul ⟨_,e,rfl⟩ PySem.F.entry_tuple_mul (PySem.F.args_tuple_mul_2 _ _) (wB l its.toArray m sl k t h1 h2 hem<|by rw[X0,<-hl];exact hz) ⟨e,?_⟩⟩);have f0:Y6 (λx1 x2=>x1++x2) #[] (A0 k.toNat its.toArray)=(A0 k.toNat its).flatten.toArray:=by
  have:=OY its k.toNat [];rw[E6]at this;exact this
 rw[f0];exact⟨.ref _,_,I.laid (t':=s.toks) (λb o e=>u0 _ e) (O0 _)<|show ObjOk X.prog X.w _ _ _ (.tup (A0 k.toNat xs).flatten) from ⟨by rw[OD,N9];exact hz,_,r.rep k.toNat,IsTupD.new _ _⟩,rfl,q _ I.fresh⟩
end L2
namespace L3
open L2
end L3
namespace L2
def yM:V->Option Int->Option Int->Hp->VK->Prop:=λx lo hi H Q=>∃t:Str,x=.str t/\t.length<=sizeLine/\Q (.str<|Txt.slice t lo hi) H
theorem Nq{o:Option Int}(h:IsPart v o):∃p:Option (Int×Tok),v=partValue p/\p.map (·.1)=o:=by
 cases h with
 |none=>exact⟨none,rfl,rfl⟩
 |int i t=>exact⟨some (_,_),rfl,rfl⟩
theorem zM:IP X yM:=by intro pins s σ H x v vl vu lo hi sl Q I rx hs pl pu h;obtain⟨t,rfl,hz,q⟩:=h;obtain⟨k,rfl⟩:=rx;obtain⟨p1,rfl,rfl⟩:=Nq pl;obtain⟨p2,rfl,rfl⟩:=Nq pu;exact⟨"str",_,F.slot_str_getitem.lookup,typeIs_str _ _ _,wpAny_getItem_str_slice (l:=p1) (u:=p2) (st:=none) hs rfl<|post_val_or_str ⟨T1 (Txt.slice_le t _ _) hz,λt' k=>⟨.str _,H,I.tok _,⟨_,rfl⟩,q⟩⟩⟩
end L2
namespace L3
open L2
section
variable {K:Fg}{e e1 e2 e3:Expr}{a b c:AD}{td:TD}{pos p p2:Pos}
end
noncomputable def oE:D->D->(Sl->Prop)->Prop
 | .str x,.int i,Q=>x.length<=sizeLine/\Q (.fz<|.str<|Txt.slice x none<|some i)
 |_,_,_=>False
theorem yB{K:Fg}:OQ K (kY λx y H Q=>∃i,y=V.int i/\yM x none (some i) H Q) (o2 oE):=YH λG F σ H ρ x y d e Q Qd R h1 h2 w k=>by
 cases d<;>first|exact w.elim|(cases e<;>first|exact w.elim|skip)
 cases h1.str;cases h2.int;exact⟨_,rfl,_,rfl,w.1,k _ H F (.fz _) (Sub.refl _) R (Da.str _) w.2⟩
section
variable {K:Fg}{e1 e2:Expr}{a b:AD}{pos p2:Pos}
theorem AM(ha:WE X e1 (kQ K a))(hb:WE X e2 (kQ K b)):WE X (.Subscript e1 (.Slice none (some e2) none p2) pos) (lift K<|FJ [a,b]<|o2 oE):=⟨WK (fK zM ha.h tY<|uY hb.h) λq=>QH (P:=λx y H=>∃i,y=V.int i/\yM x none (some i) H _)<|rK yB q⟩
end
theorem Xw(xs:List V)(j:Int):YJ xs none (some j)=xs.take (if j<0 then (j+xs.length).toNat else j.toNat):=by
 by_cases z:j<0
 .unfold YJ;have e2:HT.sIx xs.length xs.length (some j)=(j+(xs.length:Int)).toNat:=by
   show (if j<0 then (j+(xs.length:Int)).toNat else min j.toNat xs.length)=_;rw[if_pos z]
  rw[e2,if_pos z];show (xs.drop 0).take ((j+(xs.length:Int)).toNat-0)=_;rw[List.drop_zero,Nat.sub_zero]
 .rw[if_neg z];exact qB xs (by lia)
noncomputable def pE:D->D->(Sl->Prop)->Prop
 | .tuple ds,.int j,Q=>Q<|.fz<|.tuple<|ds.take<|if j<0 then (j+ds.length).toNat else j.toNat
 |_,_,_=>False
theorem zB{K:Fg}:OQ K (kY<|YO<|Pw K) (o2 pE):=YH λG F σ H ρ x y d e Q Qd R h1 h2 w k=>by
 cases d<;>first|exact w.elim|(cases e<;>first|exact w.elim|skip)
 rename_i ds j;cases h2.int;obtain⟨a,us,rfl,f1,e1,d1⟩:=h1.tuple R.sub;have hl:=d1.length;have dc:=d1.take<|if j<0 then (j+ds.length).toNat else j.toNat;have e:YJ us none (some j)=us.take (if j<0 then (j+ds.length).toNat else j.toNat):=by rw[Xw,hl]
 refine⟨j,rfl,a,us,rfl,SqT.of e1,λz=>?_,λp hp=>?_⟩
 .rw[e]at z;refine k _ H F (.fz _) (Sub.refl _) R (Da.tup f1 ?_) w;rw[z]at dc;exact dc
 .rw[e];obtain⟨sb,R',dd⟩:=R.newTup hp dc;exact k _ _ _ (.fz _) sb R' dd w
theorem gW{K:Fg}(hK:X.K=K)(ha:WE X e1 (kQ K a))(hb:WE X e2 (kQ K b)):WE X (.Subscript e1 (.Slice none (some e2) none p2) pos) (lift K<|FJ [a,b]<|o2 pE):=by subst hK;exact⟨WK (fK Kq ha.h tY<|uY hb.h) λq=>QH (P:=λx z H=>YO (Pw X.K) x z H _)<|rK zB q⟩
end L3
namespace L2
theorem Yw(l:Addr)(items:Array Value)(n:Nat)(sl:Array (Option Value))(k:Int)(t:Tok)(hk:k=1):Meets (Builtin.«tuple.__mul__» ⟨[.ref l,.int k t],[]⟩) (λ_ R s=>s.heap.get? l=some {cls:=.type "tuple",dict:=none,data:=.seq items n,slots:=sl}/\R (.ok<|.ret<|.ref l) s):=
 .of_wp λprog w A R s h=>by
  obtain⟨hp,g,d,tk,os⟩:=s;obtain⟨hl,h⟩:=h;have c1:(decide (k < -2 ^ 63)||decide (k ≥ 2 ^ 63))=false:=by subst hk;decide
  have c2:(items.isEmpty||k==1)=true:=by subst hk;simp
  clear hk
  wp_walk
  refine wpAny_ite_false (decide_eq_false<|by rw[c1];exact W0) ?_
  wp_walk
  exact⟨_,rfl,h⟩
def Oq:R2:=λx y H Q=>∃l xs,x=.ref l/\y=.int 1/\H l=some (.tup xs)/\Q (.ref l) H
theorem AB:OpR X (binaryOp .Mult) Oq:=by
 intro pins s σ H x y v u Q I rx ry h;obtain⟨l,xs,rfl,rfl,hH,q⟩:=h;cases rx;obtain⟨t,rfl⟩:=ry;obtain⟨z,its,r,⟨cls,dd,data,sl⟩,e,c,m,d,dn⟩:=(show ObjOk X.prog X.w H s.heap l (.tup xs) from I.hok l _ hH);simp only at c d dn;subst c d dn;refine wpAny_binaryOp_repeat_ref (T:="tuple") (U:="int") (by decide) ⟨_,e,rfl⟩ (λs'=>typeIs_int s' 1 t) qY PySem.F.fills_int_mul PySem.F.slot_int_rmul nH PySem.F.slot_int_index.lookup
  (call_meets PySem.F.slot_int_rmul (typeIs_int s 1 t) PySem.F.entry_int_rmul (PySem.F.args_int_rmul_2 _ _) (RJ 1 t l its.toArray m sl)
    ⟨e,rfl,⟨_,e,rfl⟩,call_meets PySem.F.slot_tuple_mul ⟨_,e,rfl⟩ PySem.F.entry_tuple_mul (PySem.F.args_tuple_mul_2 _ _) (Yw l its.toArray m sl 1 t rfl) ⟨e,?_⟩⟩);exact⟨.ref l,H,I,rfl,q⟩
theorem BB:OpR X (binaryOp .Mult) (L3.rAny Mq Oq):=by
 intro pins s σ H x y v u Q I rx ry h;rcases h with h|h
 .exact xB pins s σ H x y v u Q I rx ry h
 .exact AB pins s σ H x y v u Q I rx ry h
end L2
namespace L3
open L2
end L3
namespace L2
theorem Zw(l:Addr)(items:Array Value)(n:Nat)(sl:Array (Option Value))(k:Int)(t:Tok)(hk:k=0)(h3:items.isEmpty=false):Meets (Builtin.«tuple.__mul__» ⟨[.ref l,.int k t],[]⟩) (λ_ R s=>s.heap.get? l=some {cls:=.type "tuple",dict:=none,data:=.seq items n,slots:=sl} /\ R (.ok<|.ret<|.ref s.heap.objs.size) {s with heap:=s.heap.push {cls:=.type "tuple",data:=.seq #[]}}):=
 .of_wp λprog w A R s h=>by
  obtain⟨hp,g,d,tk,os⟩:=s;obtain⟨hl,h⟩:=h;have c1:(decide (k < -2 ^ 63)||decide (k ≥ 2 ^ 63))=false:=by subst hk;decide
  have c2:(items.isEmpty||k==1)=false:=by rw[h3];subst hk;rfl
  have c3:(decide (k<=0)||items.isEmpty)=true:=by subst hk;rfl
  clear hk
  wp_walk
  refine wpAny_ite_false (decide_eq_false<|by rw[c1];exact W0) ?_
  wp_walk
  refine wpAny_ite_false (decide_eq_false<|by rw[c2];exact W0) ?_
  wp_walk
  refine wpAny_ite_true (decide_eq_true c3) ?_
  wp_walk
  exact⟨_,rfl,h⟩
def av:R2:=λx y H Q=>∃l xs,x=.ref l/\y=.int 0/\H l=some (.tup xs)/\xs≠[]/\∀p,H p=none->Q (.ref p) (upd H p<|.tup [])
theorem CB:OpR X (binaryOp .Mult) av:=by
 intro pins s σ H x y v u Q I rx ry h;obtain⟨l,xs,rfl,rfl,hH,hne,q⟩:=h;cases rx;obtain⟨t,rfl⟩:=ry;obtain⟨z,its,r,⟨cls,dd,data,sl⟩,e,c,m,d,dn⟩:=(show ObjOk X.prog X.w H s.heap l (.tup xs) from I.hok l _ hH);simp only at c d dn;subst c d dn;have hl:=r.length;have hem:its.toArray.isEmpty=false:=by
  cases its with
  |nil=>exact absurd (O4.mp hl) hne
  |cons=>rfl
 refine wpAny_binaryOp_repeat_ref (T:="tuple") (U:="int") (by decide) ⟨_,e,rfl⟩ (λs'=>typeIs_int s' 0 t) qY PySem.F.fills_int_mul PySem.F.slot_int_rmul nH PySem.F.slot_int_index.lookup
  (call_meets PySem.F.slot_int_rmul (typeIs_int s 0 t) PySem.F.entry_int_rmul (PySem.F.args_int_rmul_2 _ _) (RJ 0 t l its.toArray m sl)
    ⟨e,rfl,⟨_,e,rfl⟩,call_meets PySem.F.slot_tuple_mul ⟨_,e,rfl⟩ PySem.F.entry_tuple_mul (PySem.F.args_tuple_mul_2 _ _) (Zw l its.toArray m sl 0 t rfl hem) ⟨e,?_⟩⟩);exact⟨.ref _,_,I.laid (t':=s.toks) (λb o e=>u0 _ e) (O0 _)<|show ObjOk X.prog X.w _ _ _ (.tup []) from ⟨W2 _,[],.nil,.new _ _⟩,rfl,q _<|I.hok.fresh<|O0 _⟩
theorem gX:OpR X (binaryOp .Mult) (L3.rAny (L3.rAny Mq Oq) av):=by
 intro pins s σ H x y v u Q I rx ry h;rcases h with h|h
 .exact BB pins s σ H x y v u Q I rx ry h
 .exact CB pins s σ H x y v u Q I rx ry h
end L2
namespace L3
open L2
noncomputable def bP:D->D->(Sl->Prop)->Prop
 | .tuple ds,.int k,Q=>ds≠[]/\0<=k/\k<2 ^ 63/\ds.length*k.toNat<=sizeLine/\Q (.fz<|.tuple (A0 k.toNat ds).flatten)
 |_,_,_=>False
theorem hX{K:Fg}:OQ K (kY<|rAny (rAny Mq Oq) av) (o2 bP):=YH λG F σ H ρ x y d e Q Qd R h1 h2 w k=>by
 cases d<;>first|exact w.elim|(cases e<;>first|exact w.elim|skip)
 rename_i ds n;obtain⟨w0,w1,w2,w3,w⟩:=w;cases h2.int;obtain⟨a,us,rfl,f1,e1,d1⟩:=h1.tuple R.sub;have hl:=d1.length;have hus:us≠[]:=λz=>w0 (by rw[z]at hl;exact O4.mp hl.symm);by_cases hn:n=0
 .subst hn;refine .inr ⟨a,us,rfl,rfl,e1,hus,λp hp=>?_⟩;obtain⟨sb,R',dd⟩:=R.newTup hp<|DaAll.nil (K:=K) (F:=F);exact k _ _ _ (.fz _) sb R' dd w
 by_cases hn1:n=1
 .subst hn1;have e:(A0 (1:Int).toNat ds).flatten=ds:=by simp
  rw[e]at w;exact .inl<|.inr ⟨a,us,rfl,rfl,e1,k _ H F (.fz _) (Sub.refl _) R (Da.tup f1 d1) w⟩
 .refine .inl (.inl ⟨a,n,us,rfl,rfl,e1,hus,by lia,w2,by rw[hl];exact w3,λp hp=>?_⟩);obtain⟨sb,R',dd⟩:=R.newTup hp<|d1.rep n.toNat;exact k _ _ _ (.fz _) sb R' dd w
noncomputable def DB(K:Fg)(x:Str)(fd:FuncData):Bool:=match F9 K x with
 |some (c,P)=>(match fd.code with | .ref c'=>c'==c|_=>false)&&W3 K c P&&(TB K).all (λz=>z.1 != P||z.2==x)&&(TB K).any λz=>z.1==P&&z.2==x
 |none=>false
theorem qE{K:Fg}(h:DB K x fd=true):Lm K x fd:=by
 unfold DB at h;split at h
 .rename_i c P e;simp only[A2]at h;obtain⟨⟨⟨h1,h2⟩,h3⟩,h4⟩:=h;refine⟨c,P,?_,h2,?_,λz hz q=>?_⟩
  .split at h1
   .rename_i c' e1;rw[e1,beq_iff_eq.mp h1]
   .cases h1
  .obtain⟨z,hz,q⟩:=X3.mp h4;simp only[A2,beq_iff_eq]at q;have:z=(P,x):=Prod.ext q.1 q.2;rw[<-this];exact hz
  .have:=K2.mp h3 z hz;rw[q]at this;simpa using this
 .cases h
noncomputable def BM(K:Fg)(ts:List Addr):Bool:=(ts.all λP=>(K.lookup P).isNone&&lamN.any λx=>match F9 K x with
  |some (c,P')=>P'==P&&W3 K c P
  |none=>false)&&(TB K).all λz=>ts.contains z.1
theorem rE{K:Fg}(h:BM K ts=true):(∀P∈ts,K.lookup P=none/\∃c,W3 K c P=true)/\∀z∈TB K,z.1∈ts:=by
 unfold BM at h;rw[A2]at h;refine⟨λP hP=>?_,λz hz=>?_⟩
 .have:=K2.mp h.1 P hP;rw[A2]at this;refine⟨Option.isNone_iff_eq_none.mp this.1,?_⟩;obtain⟨x,_,q⟩:=X3.mp this.2;split at q
  .rename_i c P' _;rw[A2]at q;exact⟨c,q.2⟩
  .cases q
 .have:=K2.mp h.2 z hz;simpa using this
theorem walkT{l:Q8}{K:Params->G0}(hc:∀ns:Qa,ns.length<=63->cLaw [.fz<|SZ ns] λr _=>r=.fz (.bool true)) (hr:Room k callerA) (hn:l.most=some 63) (hdf:d.params.defaults=[])(hY:∀(w:World) (h:Heap),YP w h->(K w.params).In h/\∀P∈ts,h.get? P=some (Q6 #[])) (hts:∀w:World,BM (K w.params) ts=true)(F:∀(w:World) (mg:Str->Option Value) (fa:Addr) (h:Heap),(K w.params).In h->h.Ns mainGlobals mg->mg d.name=some (.ref fa) -> ∃fd:FuncData,(∀(s:Shared) (u:Value),BindsTo s fd ⟨[u],[]⟩ [(x,u)])/\∀base:Heap,(K w.params).In base->base.Ns mainGlobals mg->FnOk l.prog w (K w.params) mg base OX k fa fd [x] (dQ (K w.params) cLaw)):PySem.W.WalkO q loose XP YP l.row.toRowW d [] (λf vs=>PySem.call f vs):=by
 refine L2.walk_ofT (ts:=ts) (n:=63) (k:=k) (x:=x) (CX:=λ_=>OX) (sp:=λw=>dQ (K w.params) cLaw) hn (by decide) hdf hr hY (λw=>(rE<|hts w).1) F (λw H a ns hl hO hS=>?_) λ_ _ _ _ _ z=>z;obtain⟨Fr,R⟩:=Yu hS λz hz=>hO.2 _<|(rE<|hts w).2 z hz;refine⟨_,Fr,[.fz<|SZ ns],λr _=>r=.fz (.bool true),R,hc ns hl,λv H' F' r ρ' _ _ res e=>?_⟩;subst e;have res:Da (K w.params) F' v (.bool true):=res;cases res;rfl
end L3
namespace SG
section
variable {w:World}{κ:SortKind}{rk:Keyed->Nat}{S:Keyed->Prop}{st:SortSt}
theorem w_sort64(q:dH prog w A s κ rk S){Q:Unit->SortSt->Prop}(h64:(arrOf st).size<64)(hS:AllS S (arrOf st))(hk:kindOf st=κ)(hF:failedOf st=none)(hP:pendingOf st=#[])(h:∀st',(arrOf st').Perm (arrOf st)->failedOf st'=none->Sg rk (arrOf st') 0 (arrOf st).size->Q () st'):wpS (model prog w) A E s sortRuns' Q st:=by
 have hmr:1<=(arrOf st).size->minRun' (arrOf st).size (arrOf st).size 0=(arrOf st).size:=λh1=>by obtain⟨k,ek⟩:∃k,(arrOf st).size=k+1:=⟨(arrOf st).size-1,by lia⟩;rw[ek,minRun'_succ,if_pos<|by lia,Nat.add_zero]
 rw[sortRuns'_eq];refine wpS_bind<|wpS_get ?_;dsimp only;have I0:In κ rk st 0 st:=⟨Array.Perm.refl _,hk,hF,by rw[hP];rfl⟩;refine wpS_bind<|wpS_mono (wpS_forRange (I:=λx c z=>∃lo,c=(none,lo)/\In κ rk st lo z/\(lo=0/\pendingOf z=#[]\/lo=(arrOf st).size/\(pendingOf z).size<=1)/\(x<=lo\/lo=(arrOf st).size)) (Q:=λc z=>c=(none,(arrOf st).size)/\In κ rk st (arrOf st).size z/\(pendingOf z).size<=1) ?step ?fin ⟨0,rfl,I0,.inl ⟨rfl,hP⟩,.inl<|O0 _⟩) ?post
 case fin =>
  rintro c z ⟨lo,rfl,hI,h1,h2⟩;rcases h1 with⟨rfl,hp⟩|⟨rfl,hp⟩
  .have:0=(arrOf st).size:=by lia
   rw[<-this];exact⟨rfl,hI,by rw[hp];exact W2 _⟩
  .exact⟨rfl,hI,hp⟩
 case step =>
  rintro x c z _ hx ⟨lo,rfl,hI,h1,h2⟩;dsimp only;by_cases hge:lo ≥ (arrOf st).size
  .rw[if_pos hge];rcases h1 with⟨rfl,hp⟩|⟨rfl,hp⟩
   .have:0=(arrOf st).size:=by lia
    rw[<-this];exact wpS_pure ⟨rfl,hI,by rw[hp];exact W2 _⟩
   .exact wpS_pure ⟨rfl,hI,hp⟩
  .rw[if_neg hge];obtain⟨rfl,hp⟩:lo=0/\pendingOf z=#[]:=by
    rcases h1 with h1|⟨h1,_⟩
    .exact h1
    .lia
   have hz:=hI.size;have hm:=hmr (by lia);have hS':AllS S (arrOf z):=AllS.perm hS hI.perm;refine wpS_bind<|ER q hS' (by lia) (by lia) ⟨Array.Perm.refl _,hI.kind,hI.failed,rfl,λ_ _=>rfl⟩ λn z1 b1 n1 n2 g1=>?_;dsimp only;have last:∀(m:Nat) (z2:SortSt),m=(arrOf st).size->pendingOf z2=#[]->In κ rk st 0 z2->Sg rk (arrOf z2) 0 m->∃lo,((none:Option Unit),0+m)=(none,lo)/\In κ rk st lo (setPending z2<|(pendingOf z2).push (0,m,0))/\(lo=0/\pendingOf (setPending z2<|(pendingOf z2).push (0,m,0))=#[]\/lo=(arrOf st).size/\(pendingOf<|setPending z2<|(pendingOf z2).push (0,m,0)).size<=1)/\(x+1<=lo\/lo=(arrOf st).size):=λm z2 e1 e2 hI2 g2=>by refine⟨0+m,rfl,hI2.push (by lia) g2,.inr ⟨by lia,?_⟩,.inr<|by lia⟩;show ((pendingOf z2).push (0,m,0)).size<=1;rw[e2];exact O0 _
   by_cases hlt:n<minRun' (arrOf st).size (arrOf st).size 0
   .rw[if_pos hlt];refine wpS_bind<|wpS_lift<|wpAny_rule ⟨rfl,?_⟩;refine wpS_bind<|YL (N:=(arrOf st).size-0) q hS' (n:=min ((arrOf st).size-0)<|minRun' (arrOf st).size (arrOf st).size 0) (by lia) (by lia) (by lia) b1 g1 λz2 b2 g2=>?_;simp only[Bool.not_true,j5,if_false];refine wpS_bind<|wpS_get ?_;have e2:pendingOf z2=#[]:=by rw[b2.pend];exact hp
    have eb:(pendingOf z2).back?=none:=by rw[e2];rfl
    rw[eb];exact wpS_bind<|wpS_modify<|wpS_pure<|last _ z2 (by lia) e2 (hI.run b2) g2
   .rw[if_neg hlt];refine wpS_bind<|wpS_get ?_;have e2:pendingOf z1=#[]:=by rw[b1.pend];exact hp
    have eb:(pendingOf z1).back?=none:=by rw[e2];rfl
    rw[eb];exact wpS_bind<|wpS_modify<|wpS_pure<|last _ z1 (by lia) e2 (hI.run b1) g1
 case post =>
  rintro c z ⟨rfl,hI,hp⟩;dsimp only;refine wpS_bind<|wpS_mono (wpS_forRange (I:=λx c y=>c=(none,())/\y=z) (Q:=λc y=>c=(none,())/\y=z) ?_ ?_ ⟨rfl,rfl⟩) ?_
  .rintro x c y _ hx ⟨rfl,rfl⟩;refine wpS_bind<|wpS_get ?_;rw[if_pos hp];exact wpS_pure ⟨rfl,rfl⟩
  .rintro c y ⟨rfl,rfl⟩;exact⟨rfl,rfl⟩
  .rintro c y ⟨rfl,rfl⟩;refine wpS_pure<|h y hI.perm hI.failed ?_;have hc:=hI.ch;have hl:(pendingOf y).toList.length<=1:=by rw[G3];exact hp
   match (pendingOf y).toList,hc,hl with
   |[],hc,_ =>
    have:0=(arrOf st).size:=hc;intro i j _ _ hj
    lia
   |[p],⟨h1,h2,h3,h4⟩,_=>have h4:0+p.2.1=(arrOf st).size:=h4;rw[E8]at h4;rw[h4]at h3;exact h3
end
end SG
namespace L2
open PySem.W
section
variable {w:World}{κ:SortKind}{vs:List Value}{rk:Value->Nat}
theorem oH(ho:s.heap.get? a=some (seqObj "list" vs.toArray n))(hz:vs.length<=sizeLine)(h64:vs.length<64)(hk:2<=vs.length->∀s':Shared,(∀b o,b≠a->s.heap.get? b=some o->s'.heap.get? b=some o)->∀Q':SortKind->Shared->Prop,Q' κ s'->wpAny (model prog w) A (keyKind' vs.toArray) Q' E s')(hlt:∀s':Shared,(∀b o,b≠a->s.heap.get? b=some o->s'.heap.get? b=some o)->∀x y,x∈vs->y∈vs->∀Q':Bool->Shared->Prop,Q' (decide<|rk x<rk y) s'->wpAny (model prog w) A (keyLt' κ x y) Q' (λ_ _=>False) s')(h:∀out:List Value,out.Perm vs->out.Pairwise (λx y=>rk x<=rk y)->P (.done<|.ret .none) {s with heap:=sortedHeap s.heap a vs out.toArray}):wpAny (model prog w) A (Builtin.«list.sort» ⟨[.ref a],[]⟩) P E s:=by
 rw[list_sort_plain];have ha:a<s.heap.objs.size:=U0 ho;refine wpAny_bind<|listItems_at ho rfl ?_;refine wpAny_bind<|listUpdate_at ho rfl ?_;obtain⟨e1,ho1⟩:∃e1,(s.heap.update a<|J2 λ_=>#[]).get? a=some (seqObj "list" #[] e1):=⟨_,get?_update_seq ho<|λ_=>#[]⟩;refine wpAny_bind<|seqEpoch_at ho1 rfl ?_;refine wpAny_bind<|wpAny_newTuple ?_;refine wpAny_bind<|wpAny_newList ?_;refine wpAny_holding ?_;have ho6:(((s.heap.update a<|J2 λ_=>#[]).push<|seqObj "tuple" vs.toArray 0).push<|seqObj "list" #[] 0).get? a=some (seqObj "list" #[] e1):=by rw[U6 _ _ _ (by rw[size_push',i7];exact V0<|K3 ha),U6 _ _ _<|by rw[i7];exact V0 ha];exact ho1
 have kp:∀b o,b≠a->s.heap.get? b=some o->(((s.heap.update a<|J2 λ_=>#[]).push<|seqObj "tuple" vs.toArray 0).push<|seqObj "list" #[] 0).get? b=some o:=λb o hb e=>by refine u0 _<|u0 _ ?_;rw[y9 _ _ _ _ hb];exact e
 show wpAny (model prog w) A _ P E {s with heap:=((s.heap.update a<|J2 λ_=>#[]).push<|seqObj "tuple" vs.toArray 0).push<|seqObj "list" #[] 0};dsimp only;have hsz:vs.toArray.size=vs.length:=by simp
 have out0:((pairsOf vs).map (·.2))=vs.toArray:=by apply Array.toList_inj.mp;rw[j7];show (vs.toArray.zip vs.toArray).toList.map (·.2)=_;simp only[Array.toList_zip];exact List.map_snd_zip<|O0 _
 by_cases h2:vs.toArray.size<2
 .rw[if_pos h2,if_pos h2];refine wpAny_bind<|wpAny_pure ?_;rw[StateT.run_pure];refine wpAny_bind<|wpAny_pure ?_;dsimp only;refine wpAny_bind<|seqEpoch_at ho6 rfl ?_;refine wpAny_bind<|listUpdate_at ho6 rfl ?_ (hsz2:=by rw[Array.size_map];show (pairsOf vs).size<=_;rw[pairsOf_size];exact Z7 hz);simp only[bne_self_eq_false,j5,if_false];have h':=h vs (List.Perm.refl _) (by
    match vs,h2 with
    |[],_=>exact .nil
    |[x],_=>exact y8 _ _
    |x::y::z,h2=>simp at h2;lia);rw[<-out0]at h';exact wpAny_pure h'
 .rw[if_neg h2,if_neg h2];have h2':2<=vs.length:=by lia
  refine wpAny_bind<|hk h2' _ kp _ ?_;have run:=SG.w_sort64 (prog:=prog) (w:=w) (A:=A) (E:=E) (κ:=κ) (rk:=λp=>rk p.1) (S:=λp=>p.1∈vs) (st:=SortSt.mk' κ (pairsOf vs) #[] 7 none)
   (s:={s with heap:=((s.heap.update a<|J2 λ_=>#[]).push<|seqObj "tuple" vs.toArray 0).push<|seqObj "list" #[] 0})
   (Q:=λ_ st'=>(arrOf st').Perm (pairsOf vs)/\failedOf st'=none/\SG.Sg (λp=>rk p.1) (arrOf st') 0 (pairsOf vs).size)
   (λx y hx hy Q' hQ'=>hlt _ kp _ _ hx hy Q' hQ') (by show (vs.toArray.zip vs.toArray).size<64;rw[Array.size_zip];simp;exact h64) (λp hp=>by have:=DU hp;show p.1∈vs;rw[this.1];exact this.2) rfl rfl rfl λst' p1 p2 p3=>⟨p1,p2,p3⟩;refine wpAny_bind<|wpAny_mono run ?_ λ_ _ e=>e;rintro⟨⟨⟩,st'⟩ s' ⟨rfl,hp,hf,hs⟩;dsimp only at hp hf hs ⊢;refine wpAny_bind<|seqEpoch_at ho6 rfl ?_;have hpl:=j6.mp hp;have eq12:∀p∈(arrOf st').toList,p.1=p.2:=λp h=>(DU<|hpl.mem_iff.mp h).1;have hO:((arrOf st').map (·.2)).toList.Perm vs:=by
   rw[j7];have e:(pairsOf vs).toList.map (·.2)=vs:=by rw[<-j7,out0]
   have:=hpl.map (·.2);rw[e]at this;exact this
  have hL:((arrOf st').map (·.2)).toList.length=vs.length:=hO.length_eq;rw[G3]at hL;refine wpAny_bind<|listUpdate_at ho6 rfl ?_ (hsz2:=by rw[hL];exact Z7 hz);rw[hf];simp only[bne_self_eq_false,j5,if_false];refine wpAny_pure ?_;have:=h ((arrOf st').map (·.2)).toList hO (by rw[j7,Y3,o5];intro i j hi hj hij;rw[G3]at hi hj;have hz2:(arrOf st').size=(pairsOf vs).size:=hp.size_eq;have:=hs i j (W2 _) (by lia) (by lia);rw[SG.KR_at hi,SG.KR_at hj]at this;rw[j9,j9,<-eq12 _ (by simp),<-eq12 _ (by simp)];exact this);rw[Array.toArray_toList]at this;exact this
theorem Dj{l:Addr}(hl:s.heap.IsList l vs.toArray)(hz:vs.length<=sizeLine)(h64:vs.length<64)(hk:2<=vs.length->∀s':Shared,(∀b o,s.heap.get? b=some o->s'.heap.get? b=some o)->∀(E:Value->Shared->Prop) (Q':SortKind->Shared->Prop),Q' κ s'->wpAny (model prog w) A.in1.in1 (keyKind' vs.toArray) Q' E s')(hlt:∀s':Shared,(∀b o,s.heap.get? b=some o->s'.heap.get? b=some o)->∀x y,x∈vs->y∈vs->∀Q':Bool->Shared->Prop,Q' (decide<|rk x<rk y) s'->wpAny (model prog w) A.in1.in1 (keyLt' κ x y) Q' (λ_ _=>False) s')(h:∀out:List Value,out.Perm vs->out.Pairwise (λx y=>rk x<=rk y)->Q (.ref<|s.heap.objs.size+1) {s with heap:=sortedAll s.heap vs out.toArray}):wpAny (model prog w) A (call (.builtin "sorted") [.ref l]) Q E s:=by
 refine Calls.call_function_entry kind_sorted plain_sorted entry_sorted (args_sorted1 _) ?_;unfold Builtin.«sorted»;refine wpAny_bind (m:=checkCount "sorted" 1 1 _)<|wpAny_pure ?_;refine wpAny_bind<|collect_list hl ?_ (hsz:=hz);refine wpAny_bind<|wpAny_newList ?_ hz;have hsz:((s.heap.push<|seqObj "list" #[] 0).update s.heap.objs.size (J2 (·++vs.toArray))).objs.size=s.heap.objs.size+1:=by rw[i7,size_push']
 have hoL:(((s.heap.push<|seqObj "list" #[] 0).update s.heap.objs.size (J2 (·++vs.toArray))).push<|seqObj "list" vs.toArray 0).get? (s.heap.objs.size+1)=some (seqObj "list" vs.toArray 0):=by rw[<-hsz];exact T0 _ rfl
 have keep:∀b o,s.heap.get? b=some o->b≠s.heap.objs.size+1/\(((s.heap.push<|seqObj "list" #[] 0).update s.heap.objs.size (J2 (·++vs.toArray))).push<|seqObj "list" vs.toArray 0).get? b=some o:=λb o q=>by have hlt:b<s.heap.objs.size:=U0 q;refine⟨V0<|K3 hlt,?_⟩;rw[U6 _ _ _ (by rw[hsz];exact V0<|K3 hlt),y9 _ _ _ _<|V0 hlt,U6 _ _ _<|V0 hlt];exact q
 show wpAny _ _ _ _ _ {s with heap:=((s.heap.push<|seqObj "list" #[] 0).update s.heap.objs.size (J2 (·++vs.toArray))).push<|seqObj "list" vs.toArray 0};rw[hsz];refine wpAny_bind<|wpAny_holding<|wpAny_call_entry slot_list_sort ⟨_,hoL,rfl⟩ entry_list_sort (oH (κ:=κ) (rk:=rk) hoL hz h64 (λh2 s' k Q' q=>hk h2 s' (λb o e=>k b o (keep b o e).1 (keep b o e).2) _ Q' q)
   (λs' k x y hx hy Q' q=>hlt s' (λb o e=>k b o (keep b o e).1 (keep b o e).2) x y hx hy Q' q) λout o1 o2=>⟨_,rfl,?_⟩)<|args_list_sort _;exact wpAny_pure ⟨_,rfl,h out o1 o2⟩
end
def FW(K:G0)(Rep:Hp->Addr->α->Prop)(fn:Hp->V->α)(lt:α->α->Bool):List V->Hp->VK->Prop:=λxs H Q=>∃(a:Addr) (us:List V),xs=[.ref a]/\SqL K H a us/\us.length<64 /\
 (∀v∈us,∃c x,v=.ref c/\Rep H c x)/\∀(p:Addr) (us':List V),H p=none->us'.Perm us->(us'.map<|fn H).Pairwise (λa b=>lt b a=false)->Q (.ref p) (upd H p<|.lst us')
section
variable {X:Cx}{α:Type}[Inhabited α]{Rep:Hp->Addr->α->Prop}{fn:Hp->V->α}{lt:α->α->Bool}{κ:SortKind}
theorem pH(W:SG.Wk lt)(hf:∀H c a,Rep H c a->fn H (.ref c)=a)(hkind:∀{pins:List (Addr×Obj)}{s:Shared}{σ:St}{H:Hp},Inv X pins σ H s->∀its:List Value,2<=its.length->(∀u∈its,∃c x,u=.ref c/\Rep H c x)->∀(s':Shared),(∀b o,s.heap.get? b=some o->s'.heap.get? b=some o)->∀(E:Value->Shared->Prop) (Q':SortKind->Shared->Prop),Q' κ s'->wpAny (model X.prog X.w) X.A.in1.in1 (keyKind' its.toArray) Q' E s')(hcmp:∀{pins:List (Addr×Obj)}{s:Shared}{σ:St}{H:Hp},Inv X pins σ H s->∀(c d:Addr) (x y:α),Rep H c x->Rep H d y->∀(s':Shared),(∀b o,s.heap.get? b=some o->s'.heap.get? b=some o)->∀Q':Bool->Shared->Prop,Q' (lt x y) s'->wpAny (model X.prog X.w) X.A.in1.in1 (keyLt' κ (.ref c)<|.ref d) Q' (λ_ _=>False) s'):ZQ X (.builtin "sorted") (FW X.K Rep fn lt):=by
 intro pins s σ H xs us Q I r h;obtain⟨a,vs,rfl,hs,hz,hrep,q⟩:=h;obtain⟨u,rfl,ru⟩:=EZ r;cases ru;obtain⟨its,rv,⟨o,n,e,c,d1,d2⟩,hz'⟩:=I.list hs;have hl:=rv.length;have at':∀u∈its,∃c x,u=.ref c/\Rep H c x:=λu hu=>by
  obtain⟨i,hi,rfl⟩:=t9 hu;have hi2:i<vs.length:=by lia
  obtain⟨c,x,hv,hr⟩:=hrep _<|u4 hi2;obtain⟨u,hu,ru⟩:=rv.get<|R0 hi2;rw[hv]at ru;rw[R0 hi]at hu;have:its[i]=u:=W1 hu;rw[this];exact⟨c,x,kG ru,hr⟩
 have key:∀x∈its,∀y∈its,decide ((its.map<|FK fn H).countP (λa=>lt a<|FK fn H x)<(its.map<|FK fn H).countP (λa=>lt a<|FK fn H y))=lt (FK fn H x) (FK fn H y):=λx hx y hy=>SG.rank W (F7 hx)<|F7 hy;refine Dj (κ:=κ) (rk:=λv=>(its.map<|FK fn H).countP<|λa=>lt a<|FK fn H v) (vs:=its) ⟨o,e,c,n,by first|exact d2|exact d1⟩ (by rw[sizeLine_eq];lia) (by lia) (λh2 s' k E' Q' q'=>?_) (λs' k x y hx hy Q' q'=>?_)<|λout o1 o2=>?_
 .exact hkind I its h2 at' s' k E' Q' q'
 .rw[key x hx y hy]at q';obtain⟨c,x',rfl,hx'⟩:=at' x hx;obtain⟨d,y',rfl,hy'⟩:=at' y hy;refine hcmp I c d x' y' hx' hy' s' k Q' ?_;have e1:FK fn H (.ref c)=x':=hf H c x' hx';have e2:FK fn H (.ref d)=y':=hf H d y' hy';rw[e1,e2]at q';exact q'
 .obtain⟨ep,he⟩:=sortedAll_at s.heap its out.toArray;have hn:H (s.heap.objs.size+1)=none:=I.hok.fresh<|B4 _;obtain⟨us',p',r'⟩:=kj o1 rv;refine⟨.ref<|s.heap.objs.size+1,upd H (s.heap.objs.size+1)<|.lst us',I.laid (t':=s.toks) (λb u e=>sortedAll_old e) (B4 _) ?_,rfl,q _ us' hn p' ?_⟩
  .exact⟨by rw[p'.length_eq,sizeLine_eq];lia,out,ep,r',by rw[he]⟩
  .rw[Y3,o5];intro i j hi hj hij;have hl':=r'.length;have o3:=o5.mp o2 i j (by lia) (by lia) hij;have hxm:out[i]'(by lia)∈its:=o1.mem_iff.mp<|u4 _;have hym:out[j]'(by lia)∈its:=o1.mem_iff.mp<|u4 _;have k2:=key _ hym _ hxm;rw[decide_eq_false<|Nat.not_lt.mpr o3]at k2;have ev:∀(m:Nat) (hm:m<us'.length),fn H us'[m]=FK fn H (out[m]'(by lia)):=λm hm=>by
    obtain⟨c,x,hv,hr⟩:=hrep _<|p'.mem_iff.mp<|u4 hm;obtain⟨u,hu,ru⟩:=r'.get<|R0 hm;rw[R0<|by lia]at hu;have hu:out[m]'(by lia)=u:=W1 hu;rw[hv]at ru ⊢;rw[hu,kG ru];rfl
   rw[ev i hi,ev j hj];exact k2.symm
end
theorem qH:ZQ X (.builtin "sorted") (FW X.K nj pw HT.lexLt):=by
 refine pH (κ:=tuples' true) SG.lex_wk gH (λ{pins s σ H} I its h2 at' s' k E' Q' q'=>?_)<|λ{pins s σ H} I c d x y hx hy s' k Q' q'=>?_
 .have gen:∀(l:List Value),(∀v∈l,∃(c:Addr) (r:Qa),v=.ref c/\nj H c r)->∃fs:List Value,KatTups s'.heap l fs/\fs.length=l.length/\∀v∈fs,Looks (model X.prog X.w) s'.heap (typeOf v) (.type "int"):=by
   intro l;induction l with
   |nil=>intro _;exact⟨[],.nil,rfl,λv hv=>by simp at hv⟩
   |cons v l ih =>
    intro hl;obtain⟨fs,f1,f2,f3⟩:=ih λx hx=>hl x<|K0 _ hx;obtain⟨c,r,rfl,hc,hr⟩:=hl v L0;obtain⟨_,itc,rc,ob,e1,e2,m,e3,_⟩:=(show ObjOk X.prog X.w H s.heap c (.tup<|r.map V.int) from I.hok c _ hc);cases r with
    |nil=>exact absurd rfl hr
    |cons n r =>
     rw[K1]at rc;cases rc with
     |cons h1 rc =>
      obtain⟨t,rfl⟩:=h1;refine⟨.int n t::fs,.cons (k _ _ e1) e2 e3 rfl f1,by simp[f2],λv hv=>?_⟩;rcases P0.mp hv with rfl|hv
      .exact Looks.of_pure rfl
      .exact f3 v hv
  obtain⟨fs,f1,f2,f3⟩:=gen its at';exact kat_kind (T:=.type "int") f1 (by lia) f3 (by decide) q'
 .obtain⟨_,ic,rc,oc,c1,c2,m1,c3,_⟩:=(show ObjOk X.prog X.w H s.heap c (.tup<|x.map V.int) from I.hok c _ hx.1);obtain⟨_,id',rd,od,d1,d2,m2,d3,_⟩:=(show ObjOk X.prog X.w H s.heap d (.tup<|y.map V.int) from I.hok d _ hy.1);refine kat_lt (k _ _ c1) c3 (k _ _ d1) d3 ?_;have:=lG (prog:=X.prog) (w:=X.w) (A:=X.A.in1.in1) (s:=s') (b:=true) (Q:=Q') 0 (zJ rc) (zJ rd) q';simpa using this
end L2
namespace L3
open L2
noncomputable def bv:D->(Sl->Prop)->Prop
 | .list ds,Q=>∃rows:List Qa,ds=rows.map (λr=>.tuple<|r.map p0)/\rows.length<64/\(∀r∈rows,r≠[])/\∀rows':List Qa,rows'.Perm rows->rows'.Pairwise (λa b=>HT.lexLt b a=false)->Q (.ow<|.list<|rows'.map λr=>.tuple<|r.map p0)
 |_,_=>False
theorem lD{K:Fg}:OQ K (FW K nj pw HT.lexLt) (o1 bv):=ZH λG F σ H ρ x d Q Qd R h1 w k=>by
 cases d<;>first|exact w.elim|skip
 case list ds =>
  obtain⟨rows,e,hz,hne,w⟩:=w;subst e;obtain⟨a,us,rfl,e1,d1⟩:=h1.list R.sub;have hl:=d1.length;rw[B0]at hl;have hrep:∀v∈us,∃c r,v=.ref c/\nj F c r/\r∈rows:=λv hv=>by obtain⟨d,hd,dv⟩:=d1.mem v hv;obtain⟨r,hr,rfl⟩:=S0.mp hd;obtain⟨c,rfl,hc⟩:=qw dv;exact⟨c,r,rfl,⟨hc,hne r hr⟩,hr⟩
  have hfe:∀v∈us,pw H v=pw F v:=λv hv=>by obtain⟨c,r,rfl,hc,_⟩:=hrep v hv;rw[gH F c r hc,gH H c r ⟨R.sub _ _ hc.1,hc.2⟩]
  refine⟨a,us,rfl,SqL.of e1,by lia,λv hv=>?_,λp us' hp p' o'=>?_⟩
  .obtain⟨c,r,rfl,hc,_⟩:=hrep v hv;exact⟨c,r,rfl,R.sub _ _ hc.1,hc.2⟩
  .have em:us.map (pw F)=rows:=by
    refine DaAll.map_eq (K:=K) (F:=F) (g:=λr:Qa=>G1<|r.map p0) (λv a h=>?_) d1;obtain⟨c,rfl,hc⟩:=qw h;show (match F c with|some (.tup xs)=>xs.map QP|_=>[])=a;rw[hc];exact hG a
   have ee:us'.map (pw H)=us'.map (pw F):=i4 λv hv=>hfe v<|p'.mem_iff.mp hv;rw[ee]at o';have dall:DaAll K F us' ((us'.map<|pw F).map λr=>G1<|r.map p0):=by rw[v1];refine DaAll.map_of λv hv=>?_;obtain⟨c,r,rfl,hc,_⟩:=hrep v<|p'.mem_iff.mp hv;show Da K F (.ref c) (.tuple<|(pw F<|.ref c).map p0);rw[gH F c r hc];exact .tup hc.1<|DaAll.ints r
   obtain⟨R',r'⟩:=R.newOw (o:=.lst us') (d:=.list _) hp dall;exact k _ _ F _ (Sub.refl _) R' r'<|w _ (by rw[<-em];exact p'.map _) o'
theorem dU{K:Fg}(h:X.K=K):ZQ X (.builtin "sorted") (FW K nj pw HT.lexLt):=by subst h;exact qH
section
variable {K:Fg}{e e1 e2:Expr}{es:List Expr}{a b:AD}{as:List AD}{td te:TD}{tc:jY}{t:LZ}{p pos pos':Pos}{x:Str}
theorem pQ:WE X (.Constant (.int i) k pos) (kQ K<|.inr<|dC<|.int i):=wx gQ
theorem wQ(i:Nat)(hr:WA X es (rQ<|as.map<|kQ K))(hN:X.N[i]?=some x:=by rfl)(hv:qy X.env.scope x:=by first|exact Or.inl rfl|exact Or.inr (Or.inl rfl)|exact Or.inr<|Or.inr rfl)(hd:(x==("__debug__":Str))=false:=by decide)(hcd:(x==("__classdict__":Str))=false:=by decide):WA X (.Name x pos::es) (rQ<|(Sum.inl i::as).map<|kQ K):=dX (wn i hN hv hd hcd) hr
theorem mQ(i:Nat)(hN:X.N[i]?=some x:=by rfl)(hv:qy X.env.scope x:=by first|exact Or.inl rfl|exact Or.inr (Or.inl rfl)|exact Or.inr<|Or.inr rfl)(hd:(x==("__debug__":Str))=false:=by decide)(hcd:(x==("__classdict__":Str))=false:=by decide):WA X [.Name x pos] (rQ<|[Sum.inl i].map (kQ K)):=dX (wn i hN hv hd hcd) VQ
theorem eQ(h:WE X e (lift K td))(hr:WA X es (rQ<|as.map<|kQ K))(hs:lQ e=true:=by rfl):WA X (e::es) (rQ<|(Sum.inr td::as).map<|kQ K):=dX (wx h) hr hs
theorem cQ(h:WE X e (lift K td))(hs:lQ e=true:=by rfl):WA X [e] (rQ<|[Sum.inr td].map (kQ K)):=dX (wx h) VQ hs
theorem Ej{k:Nat}(hr:Room k X.A)(ha:WE X e1 (kQ K a))(hb:WE X e2 (kQ K b))(hK:X.K=K:=by rfl):WT X (.Compare e1 [.Eq] [e2] pos) (xQ K<|RH<|FJ [a,b]<|o2 xR):=jZ yU (cW hK hr.units) ha hb
theorem qJ{k:Nat}(hr:Room k X.A)(ha:WE X e1 (kQ K a))(hb:WE X e2 (kQ K b))(hK:X.K=K:=by rfl):WT X (.Compare e1 [.NotEq] [e2] pos) (xQ K<|RH<|FJ [a,b]<|o2 yR):=jZ sO (FL hK hr.units) ha hb
theorem MX(hm:X.mg "len"=none)(ha:WA X (e::es) (rQ<|as.map<|kQ K))(hK:X.K=K:=by rfl)(hg:Gl X "len":=by rfl)(he:lQ e=true:=by rfl)(hpl:es.all lQ=true:=by rfl):WE X (.Call (.Name "len" p) (e::es) [] pos) (lift K<|FJ as<|o1 dO):=eX rF (UY hK) hm boot_len ha hg (by decide) (by decide) he hpl
theorem DY(hm:X.mg "tuple"=none)(ha:WA X (e::es) (rQ<|as.map<|kQ K))(hK:X.K=K:=by rfl)(hg:Gl X "tuple":=by rfl)(he:lQ e=true:=by rfl)(hpl:es.all lQ=true:=by rfl):WE X (.Call (.Name "tuple" p) (e::es) [] pos) (lift K<|FJ as<|o1 jk):=iZ nk (OH hK) hm boot_tuple ha hg (by decide) (by decide) he hpl
theorem RQ(h:WE X e (lift K td)):WSs X [.Return (some e) pos] (oQ K<|cu td):=AQ<|TC h
theorem cv(i:Nat)(hN:X.N[i]?=some x:=by rfl)(hv:qy X.env.scope x:=by first|exact Or.inl rfl|exact Or.inr (Or.inl rfl)|exact Or.inr<|Or.inr rfl)(hd:(x==("__debug__":Str))=false:=by decide)(hcd:(x==("__classdict__":Str))=false:=by decide):WSs X [.Return (some<|.Name x p) pos] (oQ K<|TH i):=AQ<|QL<|wn i hN hv hd hcd
theorem rX(i:Nat)(hN:decide X.N.Nodup=true:=by kernel_rfl)(hi:X.N[i]?=some x:=by rfl)(hx:gy X.env.scope x:=by first|exact Or.inl rfl|exact Or.inr rfl)(hf:X.fn x=true\/X.env.scope.names.lookup x=some .local:=by first|exact .inl rfl|exact .inr rfl|assumption):WG X (.Name x pos) (PQ K<|jy i):=ML (of_decide_eq_true hN) hi hx hf
theorem CQ(i:Nat)(he:WE X e (lift K td))(hN:decide X.N.Nodup=true:=by kernel_rfl)(hi:X.N[i]?=some x:=by rfl)(hx:gy X.env.scope x:=by first|exact Or.inl rfl|exact Or.inr rfl)(hs:VZ e=true:=by rfl)(hf:X.fn x=true\/X.env.scope.names.lookup x=some .local:=by first|exact .inl rfl|exact .inr rfl|assumption):WS X (.Assign [.Name x pos'] e pos) (oQ K<|oF i td):=UC (of_decide_eq_true hN) hi hx he hs hf
section
variable {ti:OG}{g:nJ}
theorem jv(own:List Str)(fr:List Nat)(hi:WI X tg iter (GX K ti))(hg:∀C s H ex,WG (vQ X own fr sc C s H ex) tg<|PQ K g)(he:∀C s H ex,WE (vQ X own fr sc C s H ex) elt<|lift K te)(S:pK X.env.scope X.N fr sc=true:=by kernel_rfl)(hc:X.calm=true:=by rfl)(nd:fr.Nodup:=by decide)(hs:HJ iter=true:=by rfl):WE X (.ListComp elt [⟨tg,iter,[],0⟩] sc pos) (lift K<|vK ti own fr g SH te):=AF hc S hi hg (λ_ _ _ _=>PP) he nd hs
theorem EY(own:List Str)(fr:List Nat)(hi:WI X (.Name x p) iter (GX K ti))(he:∀C s H ex,WE (vQ X own fr sc C s H ex) elt<|lift K te)(hg:∀C s H ex,WG (vQ X own fr sc C s H ex) (.Name x p) (PQ K<|jy 0):=by exact λ_ _ _ _=>rX 0)(S:pK X.env.scope X.N fr sc=true:=by kernel_rfl)(hc:X.calm=true:=by rfl)(nd:fr.Nodup:=by decide)(hs:HJ iter=true:=by rfl):WE X (.ListComp elt [⟨.Name x p,iter,[],0⟩] sc pos) (lift K<|vK ti own fr (jy 0) SH te):=AF hc S hi hg (λ_ _ _ _=>PP) he nd hs
theorem Fj(own:List Str)(fr:List Nat)(hi:WI X (.Name x p) iter (GX K ti))(hif:∀C s H ex,WIf (vQ X own fr sc C s H ex) ifs<|xQ K tc)(he:∀C s H ex,WE (vQ X own fr sc C s H ex) elt<|lift K te)(hg:∀C s H ex,WG (vQ X own fr sc C s H ex) (.Name x p) (PQ K<|jy 0):=by exact λ_ _ _ _=>rX 0)(S:pK X.env.scope X.N fr sc=true:=by kernel_rfl)(hc:X.calm=true:=by rfl)(nd:fr.Nodup:=by decide)(hs:HJ iter=true:=by rfl):WE X (.ListComp elt [⟨.Name x p,iter,ifs,0⟩] sc pos) (lift K<|vK ti own fr (jy 0) tc te):=AF hc S hi hg hif he nd hs
theorem SJ{body:List Stmt}(ks:List Nat)(hi:WI X tg iter (GX K ti))(hg:WG X tg (PQ K g))(hb:WSs X body (oQ K t))(hx:X.xe=(λ_ _=>False):=by rfl)(hc:X.calm=true:=by rfl)(hs:HJ iter=true:=by rfl):WS X (.For tg iter body [] pos) (oQ K<|zU ks ti g t):=CO ks (hx ▸ PassesOwn.never) hc hi hg hb hs
end
theorem HX(ha:WE X e1 (kQ K a))(hb:WE X e2 (kQ K b))(hK:X.K=K:=by rfl)(hs:RU e2:=by exact λ_ _=>rfl):WE X (.Subscript e1 e2 pos) (lift K<|FJ [a,b]<|o2 qR):=JL hK ha hb hs
theorem LQ(ha:WE X e1 (kQ K a))(hb:WE X e2 (kQ K b)):WE X (.BinOp e1 .Add e2 pos) (lift K<|FJ [a,b]<|o2 bO):=DQ bL Iu ha hb
theorem eU(ha:WE X e1 (kQ K a))(hb:WE X e2 (kQ K b)):WE X (.BinOp e1 .Mult e2 pos) (lift K<|FJ [a,b]<|o2 cO):=DQ cL Ju ha hb
theorem TJ(ha:WE X e1 (kQ K a))(hb:WE X e2 (kQ K b)):WE X (.BinOp e1 .Sub e2 pos) (lift K<|FJ [a,b]<|o2<|ly λi j=>.int<|i-j):=DQ EL lI ha hb
end
end L3
namespace R56
open L2 L3
abbrev Ws(K:Fg)(x:Str)(st:Stmt)(f:Addr)(fd:FuncData):=Fun K x x st f fd
noncomputable abbrev ZA(d:D):Option Sl:=some<|.fz d
noncomputable abbrev YA(d:D):Option Sl:=some<|.ow d
noncomputable def top(i:Nat):Stmt:=PySem.Challenge.pw_boxsums_k56_not_turned.main.body.getD i<|.Pass ⟨0,0,0,0⟩
structure Txt(mg:Str->Option Value):Prop where
 Qb:∃t,mg "MOST_CELLS"=some (.int 120 t)
 Qc:mg "len"=none
 Qe:mg "abs"=none
 Qg:mg "min"=none
 Qh:mg "max"=none
 Qi:mg "dict"=none
 Ql:mg "all"=none
 Qm:mg "isinstance"=none
 Qn:mg "tuple"=none
 Qo:mg "list"=none
 Qr:mg "int"=none
 Qs:mg "bool"=none
 Qt:mg "range"=none
 QA:mg "set"=none
 QS:mg "zip"=none
 QT:mg "sorted"=none
 Xa:mg "exchanged"=some (.ref<|cA mg "exchanged")
 Xb:mg "mirrored"=some (.ref<|cA mg "mirrored")
 Xc:mg "stretched"=some (.ref<|cA mg "stretched")
 Xd:mg "box_exchanged"=some (.ref<|cA mg "box_exchanged")
 Xe:mg "box_mirrored"=some (.ref<|cA mg "box_mirrored")
 Xf:mg "box_stretched"=some (.ref<|cA mg "box_stretched")
 Xg:mg "ValueError"=none
 Xh:mg "BoxError"=some (.ref<|cA mg "BoxError")
 Xi:mg "NoField"=some (.ref<|cA mg "NoField")
 Xl:mg "NoBox"=some (.ref<|cA mg "NoBox")
 Xm:mg "NoTurn"=some (.ref<|cA mg "NoTurn")
 Xn:mg "NoNumber"=some (.ref<|cA mg "NoNumber")
 Xo:mg "NoText"=some (.ref<|cA mg "NoText")
 Xp:mg "NoRow"=some (.ref<|cA mg "NoRow")
 Xr:mg "NoBack"=some (.ref<|cA mg "NoBack")
structure Cls(K:G0)(mg:Str->Option Value):Prop where
 Xs:NJ K (cA mg "BoxError")
 Xt:NJ K (cA mg "NoBox")
 XA:ExcQ K (cA mg "NoBox")
 XS:NJ K (cA mg "NoTurn")
 XT:ExcQ K (cA mg "NoTurn")
 Za:NJ K (cA mg "NoField")
 Zb:ExcQ K (cA mg "NoField")
 Zc:QX K (cA mg "NoField")=true
 Zd:QX K (cA mg "NoBox")=true
 Ze:QX K (cA mg "NoTurn")=true
 Zf:QX K (cA mg "NoNumber")=true
 Zg:QX K (cA mg "NoText")=true
 Zh:QX K (cA mg "NoRow")=true
 Zi:QX K (cA mg "NoBack")=true
 Zl:sQ K (cA mg "NoBox") (cA mg "BoxError")=true
 Zm:sQ K (cA mg "NoBox") (cA mg "NoField")=false
 Zn:sQ K (cA mg "NoBox") (cA mg "NoBox")=true
 Zo:sQ K (cA mg "NoBox") (cA mg "NoTurn")=false
 Zp:sQ K (cA mg "NoBox") (cA mg "NoNumber")=false
 Zr:sQ K (cA mg "NoBox") (cA mg "NoText")=false
 Zs:sQ K (cA mg "NoBox") (cA mg "NoRow")=false
 Zt:sQ K (cA mg "NoBox") (cA mg "NoBack")=false
 ZS:sQ K (cA mg "NoTurn") (cA mg "BoxError")=true
 ZT:sQ K (cA mg "NoTurn") (cA mg "NoField")=false
 Ja:sQ K (cA mg "NoTurn") (cA mg "NoBox")=false
 Jb:sQ K (cA mg "NoTurn") (cA mg "NoTurn")=true
 Jc:sQ K (cA mg "NoTurn") (cA mg "NoNumber")=false
 Jd:sQ K (cA mg "NoTurn") (cA mg "NoText")=false
 Je:sQ K (cA mg "NoTurn") (cA mg "NoRow")=false
 Jf:sQ K (cA mg "NoTurn") (cA mg "NoBack")=false
 Jg:sQ K (cA mg "NoField") (cA mg "BoxError")=true
 Jh:sQ K (cA mg "NoField") (cA mg "NoField")=true
 Ji:sQ K (cA mg "NoField") (cA mg "NoBox")=false
 Jl:sQ K (cA mg "NoField") (cA mg "NoTurn")=false
 Jm:sQ K (cA mg "NoField") (cA mg "NoNumber")=false
 Jn:sQ K (cA mg "NoField") (cA mg "NoText")=false
 Jo:sQ K (cA mg "NoField") (cA mg "NoRow")=false
 Jp:sQ K (cA mg "NoField") (cA mg "NoBack")=false
section
variable {P:Program}{w:World}{K:G0}{mg:Str->Option Value}{base:Heap}
noncomputable abbrev mD(ns:Qa)(k l:Int):List (PyData×PyData):=[(.str "script",SZ ns),(.str "at",.int k),(.str "left",.int l)]
noncomputable abbrev SQ(ns:Qa)(k l:Int):PyData:=.dict<|mD ns k l
theorem lv(ns:Qa)(k l:Int):aj (mD ns k l) (.str "script")=some (SZ ns):=by rfl
theorem MR(ns:Qa)(k l:Int):aj (mD ns k l) (.str "at")=some (.int k):=by rfl
theorem nD(ns:Qa)(k l:Int):aj (mD ns k l) (.str "left")=some (.int l):=by rfl
theorem NR(ns:Qa)(k l:Int):(bW (mD ns k l)<|.inr "at").isSome=true:=by rfl
theorem nv(ns:Qa)(k l:Int):(bW (mD ns k l)<|.inr "left").isSome=true:=by rfl
theorem z3(ns:Qa)(k l:Int):(mD ns k l).length<sizeLine:=by show 3<sizeLine;decide
def dP:Con:=λargs Q=>∃ns:Qa,args=[.fz<|SZ ns]/\∀o,Q (.ow<|SQ ns 0 0) o
theorem CM{f:Addr}(F:Ws K "_law_pen" (top 43) f fd):FnOk P w K mg base OX 1 f fd ["_law_script"] (dQ K dP):=by
 have S:FnScope ["_law_script"] ["_law_script"] (aQ<|top 43):={};refine DR F S (λcdv A outer s H E hr=>RQ<|KL [(.inr "script",.inl 0),(.inr "at",.inr<|.int 0),(.inr "left",.inr<|.int 0)] (by decide +kernel) (by decide) (by simp)<|Oy (iK JW (pv 0)<|iK JW IW<|iK JW IW RD) rfl rfl (by simp)<|by simp) ?_ ?_
 .rintro args Qd ⟨ns,rfl,_⟩;rfl
 .rintro args Qd ⟨ns,rfl,q⟩;exact⟨IQ rfl,q _⟩
def EG:Con:=λargs Q=>∃(ns:Qa) (k l m:Int),args=[.io<|SQ ns k l,.fz<|.int m]/\0<=k/\0<=l/\0<m/\m<1000000 /\
 ∀(r k' l':Int) (o:Ev),0<=r->r<m->0<=k'->0<=l'->Q (.fz<|.int r) (some (.io<|SQ ns k' l')::o)
theorem EB{f:Addr}(F:Ws K "_law_take" (top 44) f fd)(T:Txt mg):FnOk P w K mg base OX 1 f fd ["_law_pen_here","_law_many"] (dQ K EG):=by
 have S:FnScope ["_law_pen_here","_law_many","_law_digit","_law_script","_law_at","_law_cell","_law_number_here"] ["_law_pen_here","_law_many"] (aQ<|top 44):={};refine bK F S (λcdv A outer s H E hr=>bQ (qX (jZ xU lU (wx<|mV (mW hr) (wn 0)<|wx GQ) pQ) (bQ (CQ 2<|DQ IJ xJ (wx<|mV (mW hr) (wn 0)<|wx GQ)<|wn 1)<|bQ (Nk (mW hr) (wn 0) (wx GQ)<|DQ SK LK (wx<|mV (mW hr) (wn 0)<|wx GQ)<|wn 1)<|cv 2) KQ)<|bQ (CQ 3<|mV (mW hr) (wn 0)<|wx GQ)<|bQ (CQ 4<|mV (mW hr) (wn 0)<|wx GQ)<|bQ (Nk (mW hr) (wn 0) (wx GQ)<|LQ (wn 4) pQ)<|bQ (CQ 5<|LQ (wx<|eU pQ<|wn 4) pQ)<|bQ (qX (jZ iV lW (wn 4)<|wx<|MX T.Qc<|mQ 3) (bQ (CQ 5<|HX (wn 3)<|wn 4)<|AQ<|qX (jZ gq HD (wx<|eX sF LW T.Qe boot_abs<|mQ 5)<|wx<|DQ JJ yJ pQ pQ) (bQ (Nk (mW hr) (wn 0) (wx GQ)<|DQ SK LK (wx<|eX sF LW T.Qe boot_abs<|mQ 5)<|wn 1)<|RQ<|DQ IJ xJ (wx<|eX sF LW T.Qe boot_abs<|mQ 5)<|wn 1) KQ)<|AQ<|qX (jZ xU lU (wx<|MX T.Qc<|mQ 3) pQ) (AQ<|CQ 5<|LQ (wx<|DQ IJ xJ (wx<|HX (wn 3)<|wx<|DQ IJ xJ (wn 4)<|wx<|MX T.Qc<|mQ 3)<|wx<|DQ JJ yJ pQ pQ)<|wx<|eU pQ<|wn 4) KQ)<|bQ (CQ 6<|DQ IJ xJ (wx<|eU (wx<|LQ (wx<|LQ (wx<|DQ IJ xJ (wn 5) pQ)<|wx<|eU pQ<|wn 4) pQ) pQ) pQ)<|bQ (CQ 6<|DQ IJ xJ (wx<|LQ (wx<|eU (wn 6)<|wx<|LQ (wx<|DQ IJ xJ (wn 6) pQ) pQ) pQ) pQ)<|RQ<|DQ IJ xJ (wx<|DQ SK LK (wn 6) pQ)<|wn 1) ?_;rintro args Qd ⟨ns,k,l,m,rfl,hk,hl,m0,m1,q⟩;have hmd:∀x:Int,0<=x % m/\x % m<m:=λx=>⟨S8 _<|by lia,M7 _ m0⟩;refine⟨_,nD ns k l,?_⟩;refine UX (λh1=>?_)<|λh1=>?_
 .exact⟨_,nD ns k l,m0,_,nD ns k l,⟨m0,by lia⟩,z3 ns k l,nv ns k l,q _ _ _ _ (hmd _).1 (hmd _).2 hk<|T8 hl<|by lia⟩
 refine⟨_,lv ns k l,?_⟩;refine⟨_,MR ns k l,?_⟩;refine⟨z3 ns k l,NR ns k l,?_⟩;refine⟨.inl ⟨by decide,by decide⟩,?_⟩;refine⟨ns,rfl,?_⟩;refine UX (λh2=>?_)<|λh2=>?_
 .have h2:k<(ns.length:Int):=of_decide_eq_true h2;obtain⟨j,hj⟩:=K5 hk;have hjl:j<ns.length:=by lia
  refine⟨ns,ns[j],rfl,by rw[hj];exact eZ<|R0 hjl,?_⟩;have hab:0<=(if ns[j]<0 then -ns[j] else ns[j]):=by split<;>lia
  refine⟨⟨by decide,by decide,by decide⟩,?_⟩;refine UX (λh3=>?_)<|λh3=>?_
  .exact⟨⟨m0,by lia⟩,z3 ns (k+1) l,nv ns (k+1) l,m0,q _ _ _ _ (hmd _).1 (hmd _).2 (by lia)<|T8 hab<|by lia⟩
  .refine⟨by show (0:Int)<2147483629;decide,.inl ⟨by decide,by decide⟩,.inr ⟨by decide,by decide⟩,by show (0:Int)<2147483587;decide,?_⟩;refine⟨by show (0:Int)<65521;decide,.inl ⟨by lia,by lia⟩,by show (0:Int)<2147483563;decide,?_⟩;exact⟨⟨by decide,by decide⟩,m0,q _ _ _ _ (hmd _).1 (hmd _).2 (by lia) hl⟩
 .refine⟨ns,rfl,?_⟩;refine UX (λh3=>?_)<|λh3=>?_
  .have hpos:(0:Int)<(ns.length:Int):=of_decide_eq_true h3;have hb:=M7 k hpos;have ha:=S8 k (show (ns.length:Int)≠0 by lia);obtain⟨j,hj⟩:=K5 ha;have hjl:j<ns.length:=by lia
   refine⟨ns,rfl,hpos,ns,ns[j],rfl,by rw[hj];exact eZ<|R0 hjl,⟨by decide,by decide,by decide⟩,by show (0:Int)<10 ^ 17;decide,.inl ⟨by decide,by decide⟩,?_⟩;refine⟨by show (0:Int)<2147483629;decide,.inl ⟨by decide,by decide⟩,.inr ⟨by decide,by decide⟩,by show (0:Int)<2147483587;decide,?_⟩;refine⟨by show (0:Int)<65521;decide,.inl ⟨by lia,by lia⟩,by show (0:Int)<2147483563;decide,?_⟩;exact⟨⟨by decide,by decide⟩,m0,q _ _ _ _ (hmd _).1 (hmd _).2 (by lia) hl⟩
  .refine⟨by show (0:Int)<2147483629;decide,.inl ⟨by decide,by decide⟩,.inr ⟨by decide,by decide⟩,by show (0:Int)<2147483587;decide,?_⟩;refine⟨by show (0:Int)<65521;decide,.inl ⟨by lia,by lia⟩,by show (0:Int)<2147483563;decide,?_⟩;exact⟨⟨by decide,by decide⟩,m0,q _ _ _ _ (hmd _).1 (hmd _).2 (by lia) hl⟩
theorem sW(lo:Int)(n:Nat):BQ lo (n+1)=p0 lo::BQ (lo+1) n:=by
 simp only[BQ,List.range_succ_eq_map,K1,v1];refine congr (congrArg List.cons<|by simp)<|i4 λa _=>?_;simp only[Function.comp_def,PyData.int.injEq,Int.natCast_succ]
 lia
noncomputable def prodI:Qa->Int
 |[]=>1
 |a::r=>a*prodI r
theorem tZ:∀{l:Qa},(∀c∈l,1<=c)->1<=prodI l
 |[],_=>T7 _
 |a::r,h=>by
  have h1:=h a L0;have h2:=tZ (l:=r) λc hc=>h c<|K0 _ hc;show 1<=a*prodI r;have:=Y5 h1 h2 (by decide) (by lia)
  lia
theorem UJ(l r:Qa):prodI (l++r)=prodI l*prodI r:=by
 induction l with
 |nil=>show prodI r=1*prodI r;rw[y7]
 |cons a l ih=>show a*prodI (l++r)=a*prodI l*prodI r;rw[ih,w6]
structure Sd(sd:Qa):Prop where
 l1:1<=sd.length
 l3:sd.length<=3
 p:∀c∈sd,1<=c
 m:prodI sd<=120
noncomputable abbrev tupD(p:Qa):PyData:=.tuple<|p.map p0
theorem gY(l:Qa):prodI l.reverse=prodI l:=by
 induction l with
 |nil=>rfl
 |cons a l ih=>rw[U5,UJ,ih];show prodI l*(a*1)=a*prodI l;rw[u7,Int.mul_comm]
variable (P w K mg base) in
structure CalsB:Prop where
 Js:Cal P w K mg base 1 "_law_take" ["_law_pen_here","_law_many"] (dQ K EG)
def qv:Con:=λargs Q=>∃(ns:Qa) (k l m:Int),args=[.io<|SQ ns k l,.fz<|.int m]/\0<=k/\0<=l/\1<=m/\m<=120 /\
 ∀(sd:Qa) (k' l':Int) (o:Ev),Sd sd->prodI sd<=m->0<=k'->0<=l'->Q (.ow<|.list<|sd.map p0) (some (.io<|SQ ns k' l')::o)
theorem sv{f:Addr}(F:Ws K "_law_sides" (top 46) f fd)(T:Txt mg)(C:CalsB P w K mg base):FnOk P w K mg base OX 2 f fd ["_law_pen_here","_law_most"] (dQ K qv):=by
 have S:FnScope ["_law_pen_here","_law_most","_law_ways","_law_thin","_law_sides_here","_law_left","_law_way","_law_top","_law_side"] ["_law_pen_here","_law_most"] (aQ<|top 46):={};refine bK F S (λcdv A outer s H E hr=>bQ (CQ 2<|LQ pQ<|wx<|WQ C.Js hr.m<|wQ 0<|cQ gQ)<|bQ (CQ 3<|rW yU (cW (K:=K) rfl hr.units) (wx<|WQ C.Js hr.m<|wQ 0<|cQ gQ) pQ)<|bQ (CQ 4<|HQ VQ)<|bQ (BF (i:=5) S.nd rfl (Or.inl rfl)<|wn 1)<|bQ (SJ [6,7,8] (zK T.Qt<|mQ 2) (rX 6)<|bQ (CQ 7<|HX (wx<|HQ<|eQ gQ<|eQ gQ<|cQ gQ)<|wx<|TJ (wn 2) pQ)<|bQ (qX (XQ<|wv 3) (AQ<|CQ 7<|HX (wx<|HQ<|eQ gQ<|cQ gQ)<|wx<|iZ tF MY T.Qr boot_int<|cQ<|rW yU (cW (K:=K) rfl hr.units) (wn 6)<|wx<|TJ (wn 2) pQ) KQ)<|bQ (CQ 8<|LQ pQ<|wx<|WQ C.Js hr.m<|wQ 0<|cQ<|eX qk (mU rfl) T.Qg boot_min<|wQ 5<|mQ 7)<|bQ (tX<|Pj BX rfl PySem.F.slot_list_append PySem.F.type_list_append AX (wn 4)<|cQ<|wv 8)<|AQ<|CQ 5<|DQ SK LK (wn 5)<|wn 8)<|bQ (qX (xH<|BO (XQ<|wv 3)<|LL<|Ej hr (wx<|WQ C.Js hr.m<|wQ 0<|cQ gQ) pQ) (AQ<|tX<|BR vF rfl PySem.F.slot_list_reverse PySem.F.type_list_reverse gF<|wn 4) KQ)<|cv 4) ?_;rintro args Qd ⟨ns,k,l,m,rfl,hk,hl,m1,m2,q⟩;refine⟨ns,k,l,_,rfl,hk,hl,by decide,by decide,λw0 k1 l1 _ w00 w01 hk1 hl1=>?_⟩;refine⟨ns,k1,l1,_,rfl,hk1,hl1,by decide,by decide,λth k2 l2 _ _ _ hk2 hl2=>?_⟩;refine⟨by lia,by lia,bZ (λrest ρ=>∃(lc:Int) (fs:Qa) (k4 l4:Int),ρ=[some<|.io<|SQ ns k4 l4,ZA<|.int m,ZA<|.int<|1+w0,ZA<|.bool<|decide<|th=3,YA<|.list<|fs.map p0,ZA<|.int lc,none,none,none] /\
     (∃n:Nat,rest=BQ fs.length n/\(fs.length:Int)+n=1+w0)/\(∀c∈fs,1<=c)/\1<=lc/\prodI fs*lc<=m/\0<=k4/\0<=l4) ?_ ?_
   ⟨m,[],k2,l2,rfl,⟨(1+w0).toNat,rfl,by simp;lia⟩,λc hc=>by simp at hc,m1,by show 1*m<=m;lia,hk2,hl2⟩⟩
 .rintro d ds ρ ⟨lc,fs,k4,l4,rfl,⟨n,en,hlen⟩,hfp,hm1,hpm,hk4,hl4⟩ N hN;cases n with
  |zero=>cases en
  |succ n =>
   rw[sW]at en;cases en;have hp1:=tZ hfp;have hmc:lc<=m:=F8 (by have:=L5 hp1 (show (0:Int)<=lc by lia);lia) hpm;have pick:∃x:Int,gK [p0 120,p0 12,p0 6] (1+w0-1)=some (.int x)/\1<=x:=by
    have:w0=0\/w0=1\/w0=2:=by lia
    rcases this with rfl|rfl|rfl
    .exact⟨120,rfl,by decide⟩
    .exact⟨12,rfl,by decide⟩
    .exact⟨6,rfl,by decide⟩
   obtain⟨x,hx,hx1⟩:=pick;refine⟨_,hx,?_⟩;refine UX (λhb=>?_)<|λhb=>?_
   .have pick2:∃y:Int,gK [p0 2,p0 120] (if decide ((fs.length:Int)=1+w0-1)=true then 1 else 0)=some (.int y)/\1<=y:=by
     split
     .exact⟨120,rfl,by decide⟩
     .exact⟨2,rfl,by decide⟩
    obtain⟨y,hy,hy1⟩:=pick2;refine⟨_,hy,?_⟩;refine⟨ns,k4,l4,_,rfl,hk4,hl4,by split<;>lia,by split<;>lia,λr6 k6 l6 _ r60 r61 hk6 hl6=>?_⟩;have hs1:1+r6<=lc:=by
     have:(if y<lc then y else lc)<=lc:=by split<;>lia
     lia
    refine⟨by rw[B0];exact Q0 (show fs.length<1000 by lia)<|by decide,⟨by lia,by lia⟩,?_⟩;refine hN _ ⟨lc / (1+r6),fs++[1+r6],k6,l6,by rw[N1];rfl,⟨n,by rw[M0];rfl,by rw[M0,M3];lia⟩,?_,V8 (by lia)<|by lia,?_,hk6,hl6⟩
    .intro c hc;rcases S1.mp hc with z|z
     .exact hfp c z
     .rw[Y0.mp z];lia
    .rw[UJ];show prodI fs*((1+r6)*1)*(lc / (1+r6))<=m;have h1:(1+r6)*(lc / (1+r6))<=lc:=m9 (by lia);have h2:prodI fs*((1+r6)*(lc / (1+r6)))<=prodI fs*lc:=J4 h1 (by lia);rw[u7,w6]
     lia
   .obtain⟨y,ey⟩:∃y,y=x:=⟨x,rfl⟩;subst ey;refine⟨ns,k4,l4,_,rfl,hk4,hl4,by split<;>lia,by split<;>lia,λr6 k6 l6 _ r60 r61 hk6 hl6=>?_⟩;have hs1:1+r6<=lc:=by
     have:(if y<lc then y else lc)<=lc:=by split<;>lia
     lia
    refine⟨by rw[B0];exact Q0 (show fs.length<1000 by lia)<|by decide,⟨by lia,by lia⟩,?_⟩;refine hN _ ⟨lc / (1+r6),fs++[1+r6],k6,l6,by rw[N1];rfl,⟨n,by rw[M0];rfl,by rw[M0,M3];lia⟩,?_,V8 (by lia)<|by lia,?_,hk6,hl6⟩
    .intro c hc;rcases S1.mp hc with z|z
     .exact hfp c z
     .rw[Y0.mp z];lia
    .rw[UJ];show prodI fs*((1+r6)*1)*(lc / (1+r6))<=m;have h1:(1+r6)*(lc / (1+r6))<=lc:=m9 (by lia);have h2:prodI fs*((1+r6)*(lc / (1+r6)))<=prodI fs*lc:=J4 h1 (by lia);rw[u7,w6]
     lia
 .rintro ρ ⟨lc,fs,k4,l4,rfl,⟨n,en,hlen⟩,hfp,hm1,hpm,hk4,hl4⟩;cases n with
  |succ n=>rw[sW]at en;cases en
  |zero =>
   have hp1:=tZ hfp;have hpp:=J4 hm1 (show (0:Int)<=prodI fs by lia);have hsd:Sd fs:=⟨by lia,by lia,hfp,by lia⟩;have hsr:Sd fs.reverse:=⟨by rw[E7];lia,by rw[E7];lia,λc hc=>hfp c<|List.mem_reverse.mp hc,by rw[gY];lia⟩;refine UX (λhb=>?_)<|λhb=>?_
   .refine⟨ns,k4,l4,_,rfl,hk4,hl4,by decide,by decide,λr6 k6 l6 _ r60 r61 hk6 hl6=>?_⟩;refine UX (λhb=>?_)<|λhb=>?_
    .have e:(fs.map p0).reverse=fs.reverse.map p0:=by rw[List.map_reverse]
     refine(?_:Qd (Sl.ow<|M5 (fs.map p0).reverse) _);rw[e];exact q fs.reverse k6 l6 _ hsr (by rw[gY];lia) hk6 hl6
    .exact q fs k6 l6 _ hsd (by lia) hk6 hl6
   .exact q fs k4 l4 _ hsd (by lia) hk4 hl4
noncomputable def mZ{α:Type}(acc:List (List α)):List (List α)->List (List α)
 |[]=>acc
 |c::cs=>mZ (acc.flatMap λp=>c.map λx=>p++[x]) cs
noncomputable def rJ{α:Type}:List (List α)->Nat
 |[]=>1
 |c::cs=>c.length*rJ cs
theorem FV{α:Type}:∀{cs:List (List α)},(∀c∈cs,c≠[])->1<=rJ cs
 |[],_=>O0 _
 |c::cs,h=>by have h1:1<=c.length:=List.length_pos_iff.mpr<|h c L0;have h2:=FV (cs:=cs) λd hd=>h d<|K0 _ hd;exact Nat.mul_le_mul h1 h2
theorem FY(c:List α):∀acc:List (List α),(acc.flatMap λp=>c.map λx=>p++[x]).length=acc.length*c.length
 |[]=>by simp
 |p::acc=>by rw[M4,M0,FY c acc,B0,Y1,M9,Nat.add_comm]
theorem hW:∀(cs acc:List (List α)),(mZ acc cs).length=acc.length*rJ cs
 |[],acc=>by simp[mZ,rJ]
 |c::cs,acc=>by rw[mZ,hW cs,FY,rJ,G9]
noncomputable def rng(s:Int):Qa:=(Z1 s.toNat).map λ(n:Nat)=>(n:Int)
theorem pX(s:Int):BQ 0 s.toNat=(rng s).map p0:=by simp[BQ,rng,v1,Function.comp_def]
theorem ZZ(s:Int):(rng s).length=s.toNat:=by simp[rng]
noncomputable def iW(sd:Qa):List Qa:=mZ [[]]<|sd.map rng
theorem GY:∀{sd:Qa},(∀c∈sd,1<=c)->(rJ (sd.map rng):Int)=prodI sd
 |[],_=>rfl
 |a::r,h=>by
  have h1:=h a L0;have h2:=GY (sd:=r) λc hc=>h c<|K0 _ hc;show ((((rng a).length*rJ (r.map rng):Nat)):Int)=a*prodI r;rw[ZZ,Int.natCast_mul,h2];congr 1
  lia
open L2 L3
theorem uX(a b:Qa):aK (a.map p0) (b.map p0)=(a.zip b).map λp=>G1 [.int p.1,.int p.2]:=by rw[aK,List.zip_map,v1];rfl
noncomputable def yX(a b:Int):Qa:=(Z1 (b+1-a).toNat).map λ(n:Nat)=>a+(n:Int)
theorem tW(a b:Int):BQ a (b+1-a).toNat=(yX a b).map p0:=by simp[BQ,yX,v1,Function.comp_def]
theorem HU(s:Int):yX 0 (s-1)=rng s:=by unfold yX rng;rw[show s-1+1-0=s by lia];simp
noncomputable def DM(low high:Qa):List Qa:=mZ [[]]<|(low.zip high).map λp=>yX p.1 p.2
theorem GK:∀sd:Qa,((sd.map λ_=>(0:Int)).zip<|sd.map λs=>s-1)=sd.map λs=>(0,s-1)
 |[]=>rfl
 |a::r=>by simp[GK r]
theorem nZ:∀{sd:Qa},(∀c∈sd,1<=c)->∀c∈sd,c<=prodI sd
 |a::r,h,c,hc=>by
  have h1:=h a L0;have hr:∀c∈r,1<=c:=λc hc=>h c<|K0 _ hc;have h2:=tZ hr;show c<=a*prodI r;rcases P0.mp hc with rfl|hc
  .have:=J4 h2 (show (0:Int)<=c by lia);lia
  .have h3:=nZ hr c hc;have:=L5 h1 (show (0:Int)<=prodI r by lia);lia
noncomputable def uN(sd pl:Qa):Int:=(sd.zip pl).foldl (λi p=>i*p.1+p.2) 0
noncomputable def OR{α:Type}:List α->List (List α)->Prop
 |[],[]=>True
 |x::xs,c::cs=>x∈c/\OR xs cs
 |_,_=>False
theorem FG{α:Type}:∀{cs acc:List (List α)}{p:List α},p∈mZ acc cs->∃a∈acc,∃q,p=a++q/\OR q cs
 |[],acc,p,h=>⟨p,h,[],by simp,trivial⟩
 |c::cs,acc,p,h=>by obtain⟨a',ha',q,rfl,hq⟩:=FG (cs:=cs) h;obtain⟨a,ha,hb⟩:=m7.mp ha';obtain⟨x,hx,rfl⟩:=S0.mp hb;exact⟨a,ha,x::q,by simp,hx,hq⟩
theorem Gj{α:Type}{cs:List (List α)}{p:List α}(h:p∈mZ [[]] cs):OR p cs:=by obtain⟨a,ha,q,rfl,hq⟩:=FG h;simp at ha;subst ha;exact hq
theorem rH{x s:Int}(h:x∈rng s):0<=x/\x<s:=by
 unfold rng at h;obtain⟨n,hn,rfl⟩:=S0.mp h;have:=E4.mp hn
 lia
noncomputable def Wi:Qa->Qa->Prop
 |[],[]=>True
 |x::xs,s::ss=>(0<=x/\x<s)/\Wi xs ss
 |_,_=>False
theorem GV{p:Qa}(hm:p∈iW sd):Wi p sd:=by
 have h:=Gj hm;clear hm;induction sd generalizing p with
 |nil=>cases p with
  |nil=>trivial
  |cons _ _=>exact h.elim
 |cons s ss ih=>cases p with
  |nil=>exact h.elim
  |cons x xs=>exact⟨rH h.1,ih h.2⟩
theorem aJ(hp:∀c∈sd,1<=c):((iW sd).length:Int)=prodI sd:=by rw[iW,hW,<-GY hp];simp
theorem HV:∀{p sd:Qa},Wi p sd->p.length=sd.length
 |[],[],_=>rfl
 |[],_::_,h=>h.elim
 |_::_,[],h=>h.elim
 |_::_,_::_,h=>by simp[HV h.2]
theorem sE:∀{sd pl:Qa}{i m:Int},Wi pl sd->0<=i->i<m->0<=(sd.zip pl).foldl (λi p=>i*p.1+p.2) i/\(sd.zip pl).foldl (λi p=>i*p.1+p.2) i<m*prodI sd
 |[],[],i,m,_,h0,h1=>by simp[prodI];lia
 |[],_::_,_,_,h,_,_=>h.elim
 |_::_,[],_,_,h,_,_=>h.elim
 |s::ss,x::xs,i,m,h,h0,h1=>by
  have hx:=h.1;have hs:0<=s:=by lia
  have e1:0<=i*s:=Int.mul_nonneg h0 hs;have e2:i*s<=(m-1)*s:=L5 (by lia) hs;rw[Int.sub_mul,y7]at e2;have:=sE (sd:=ss) (pl:=xs) (i:=i*s+x) (m:=m*s) h.2 (by lia) (by lia);rw[w6]at this;exact this
theorem FB{xs:Qa}{i:Nat}(h:i<xs.length):gK (xs.map p0) (i:Int)=some (.int<|xs.getD i 0):=by refine eZ ?_;rw[E1,R0 h,i6,R0 h];rfl
noncomputable def HY(acc:List Qa)(c:Qa):List Qa:=c.flatMap λx=>acc.map λp=>p++[x]
noncomputable def qD(acc:List Qa):List Qa->List Qa
 |[]=>acc
 |c::cs=>qD (HY acc c) cs
theorem GG(g:α->β)(h:α->List β):∀c:List α,(c.map g++c.flatMap h).Perm (c.flatMap λx=>g x::h x)
 |[]=>List.Perm.refl _
 |x::c=>by rw[K1,M4,M4,o4,o4];refine List.Perm.cons _ ?_;rw[<-L4];refine(List.perm_append_comm.append_right _).trans ?_;rw[L4];exact(GG g h c).append_left _
theorem IU{γ:Type}(f:α->β->γ)(c:List β):∀acc:List α,(c.flatMap λx=>acc.map λp=>f p x).Perm (acc.flatMap λp=>c.map λx=>f p x)
 |[]=>by simp
 |a::acc=>by rw[M4];exact(GG (f a) (λx=>acc.map λp=>f p x) c).symm.trans<|(IU f c acc).append_left _
theorem jW:∀{cs acc acc':List Qa},acc.Perm acc'->(qD acc cs).Perm (mZ acc' cs)
 |[],_,_,h=>h
 |c::cs,acc,acc',h=>jW (cs:=cs)<|(IU (λp x=>p++[x]) c acc).trans<|h.flatMap_right _
theorem Pq:∀{a b:Qa} (x y:Int),a.length=b.length->HT.lexLt a b=true->HT.lexLt (a++[x]) (b++[y])=true
 |[],[],x,y,_,h=>by cases h
 |[],_::_,x,y,e,_=>by simp at e
 |_::_,[],x,y,e,_=>by simp at e
 |u::a,v::b,x,y,e,h=>by
  rw[o4,o4,HT.lexLt_cons];rw[HT.lexLt_cons]at h;by_cases q:u=v
  .rw[if_pos q]at h ⊢;exact Pq x y (by simpa using e) h
  .rw[if_neg q]at h ⊢;exact h
theorem Qq:∀(a:Qa) {x y:Int},x<y->HT.lexLt (a++[x]) (a++[y])=true
 |[],x,y,h=>by show HT.lexLt [x] [y]=true;rw[HT.lexLt_cons,if_neg<|by lia];exact decide_eq_true h
 |u::a,x,y,h=>by rw[o4,o4,HT.lexLt_cons,if_pos rfl];exact Qq a h
theorem IY:∀{cs acc:List Qa}{n:Nat},acc.Pairwise (λa b=>HT.lexLt a b=true)->(∀p∈acc,p.length=n)->(∀c∈cs,c.Pairwise (· < ·))->(mZ acc cs).Pairwise (λa b=>HT.lexLt a b=true)
 |[],_,_,h,_,_=>h
 |c::cs,acc,n,h,hn,hc=>by
  refine IY (cs:=cs) (n:=n+1) ?_ ?_ λd hd=>hc d<|K0 _ hd
  .rw[List.pairwise_flatMap];refine⟨λp hp=>?_,?_⟩
   .rw[Y3];exact(hc c L0).imp λh=>Qq p h
   .refine List.Pairwise.imp_of_mem (λ{a b} ha hb h=>?_) h;intro x hx y hy;obtain⟨u,_,rfl⟩:=S0.mp hx;obtain⟨v,_,rfl⟩:=S0.mp hy;exact Pq u v (by rw[hn a ha,hn b hb]) h
  .intro p hp;obtain⟨q,hq,hx⟩:=m7.mp hp;obtain⟨x,_,rfl⟩:=S0.mp hx;rw[M0,hn q hq];rfl
theorem GB(a b:Int):(yX a b).Pairwise (· < ·):=by unfold yX;rw[Y3];exact L8.imp λh=>by lia
theorem rD(lo hi:Qa):(DM lo hi).Pairwise (λa b=>HT.lexLt b a=false):=by
 have h:=IY (cs:=(lo.zip hi).map λp=>yX p.1 p.2) (acc:=[[]]) (n:=0) (y8 _ _) (by simp) λc hc=>by obtain⟨p,_,rfl⟩:=S0.mp hc;exact GB _ _
 refine List.Pairwise.imp (λ{a b} h=>?_) h;cases e:HT.lexLt b a
 .rfl
 .have:=SG.lex_wk.tr a b a h e;rw[SG.lex_wk.irr]at this;cases this
theorem IV(cs acc:List Qa):(qD acc cs).length=acc.length*rJ cs:=by rw[<-hW];exact(jW<|List.Perm.refl acc).length_eq
theorem uv(a b:Int):(yX a b).length=(b+1-a).toNat:=by simp[yX]
noncomputable def vv(x:Int):PyData->PyData
 | .tuple l=>.tuple<|l++[.int x]
 |_=>.none
theorem Hj(p:Qa):noMut (tupD p)=true:=by show noMutAll (p.map p0)=true;exact oX p
theorem iJ:∀ps:List Qa,noMutAll (ps.map tupD)=true
 |[]=>rfl
 |p::ps=>by show (noMut (tupD p)&&noMutAll (ps.map tupD))=true;rw[Hj,iJ ps];rfl
noncomputable abbrev QR(p:Int×Int):PyData:=.tuple [.int p.1,.int p.2]
def fP:Con:=λargs Q=>∃(A B:PyData) (lo hi:Qa),args=[.fz A,.fz B]/\aU A=some (lo.map p0)/\aU B=some (hi.map p0)/\lo.length=hi.length/\lo.length<=3/\1<=lo.length/\(∀p∈lo.zip hi,0<=p.1/\p.1<=p.2/\p.2<=1000)/\rJ ((lo.zip hi).map λp=>yX p.1 p.2)<=63/\∀o,Q (.ow<|.list<|(DM lo hi).map tupD) o
theorem EM{f:Addr}(F:Ws K "_law_places" (top 47) f fd)(T:Txt mg):FnOk P w K mg base OX 1 f fd ["_law_low","_law_high"] (dQ K fP):=by
 have S:FnScope ["_law_low","_law_high","_law_found","_law_first","_law_last","_law_longer","_law_one"] ["_law_low","_law_high"] (aQ<|top 47):={};refine bK F S (λcdv A outer s H E hr=>bQ (CQ 2<|HQ<|cQ<|jQ VQ)<|bQ (SJ [3,4,5,6] (AK rfl T.QS<|wQ 0<|mQ 1) (yK rfl rfl<|JQ (rX 3)<|JQ (rX 4) OZ)<|bQ (CQ 5<|HQ VQ)<|bQ (SJ [6] (PL T.Qt<|wQ 3<|cQ<|LQ (wn 4) pQ) (rX 6)<|AQ<|tX<|Pj Uz rfl PySem.F.slot_list_extend PySem.F.type_list_extend zz (wn 5)<|cQ<|Ru rfl rfl (own:=["_law_place"]) (fr:=[6]) (by kernel_rfl) (wn 2) (λ_ _ _ _=>rX 0) (λ_ _ _ _=>PP)<|λ_ _ _ _=>LQ (wn 0)<|wx<|jQ<|cQ<|wv 1)<|AQ<|BF (i:=2) S.nd rfl (Or.inl rfl)<|wn 5)<|RQ<|eX lD (dU rfl) T.QT boot_sorted<|mQ 2) ?_;rintro args Qd ⟨A,B,lo,hi,rfl,hA,hB,hle,h3,h1,hin,hm,q⟩;refine iX (λρ=>ρ=[ZA A,ZA B,YA<|.list [.tuple []],none,none,none,none]) (λN hN=>hN _ rfl) ?_;rintro ρ rfl;refine rB rfl rfl hA hB ?_;show NZ _ _ _ _ (aK (lo.map p0)<|hi.map p0) _;rw[uX];refine bZ (λrest ρ=>∃(acc:List Qa) (rs:List (Int×Int)),ρ=[ZA A,ZA B,YA<|.list<|acc.map tupD,none,none,none,none]/\rest=rs.map QR/\(∀p∈rs,0<=p.1/\p.1<=p.2/\p.2<=1000) /\
     qD acc (rs.map λp=>yX p.1 p.2)=qD [[]] ((lo.zip hi).map λp=>yX p.1 p.2)/\(∀p∈acc,p.length+rs.length=lo.length)) ?_ ?_
  ⟨[[]],lo.zip hi,rfl,rfl,hin,rfl,λp hp=>by simp at hp;subst hp;simp[hle]⟩
 .rintro d ds ρ ⟨acc,rs,rfl,er,hr1,hacc,hl3⟩ N hN;cases rs with
  |nil=>cases er
  |cons a rs =>
   cases er;have ha1:=hr1 a L0;have hr2:∀c∈rs,0<=c.1/\c.1<=c.2/\c.2<=1000:=λc hc=>hr1 c<|K0 _ hc;have hlp:=FV (cs:=rs.map λp=>yX p.1 p.2) λc hc=>by
    obtain⟨x,hx,rfl⟩:=S0.mp hc;intro z;have:=congrArg A4 z;rw[uv]at this;have:=hr2 x hx;simp at *
    lia
   have htot:(HY acc<|yX a.1 a.2).length<=1000:=by
    have h1:=IV (rs.map λp=>yX p.1 p.2)<|HY acc<|yX a.1 a.2;have h2:qD (HY acc<|yX a.1 a.2) (rs.map λp=>yX p.1 p.2)=_:=hacc;rw[h2,IV,M3,Nat.one_mul]at h1;have:(HY acc<|yX a.1 a.2).length<=(HY acc<|yX a.1 a.2).length*rJ (rs.map λp=>yX p.1 p.2):=A8 _ hlp
    lia
   refine⟨rfl,?_⟩;refine⟨⟨by lia,by lia,by lia,by lia⟩,?_⟩;show NZ _ _ _ _ (BQ a.1 (a.2+1-a.1).toNat) _;rw[tW];refine bZ (λrest ρ=>∃(lg:List Qa) (rc:Qa),ρ=[ZA A,ZA B,YA<|.list<|acc.map tupD,ZA<|.int a.1,ZA<|.int a.2,YA<|.list<|lg.map tupD,none]/\rest=rc.map p0/\lg++HY acc rc=HY acc (yX a.1 a.2)) ?_ ?_
    ⟨[],yX a.1 a.2,rfl,rfl,rfl⟩
   .rintro d ds ρ ⟨lg,rc,rfl,er,he⟩ M hM;cases rc with
    |nil=>cases er
    |cons x rc =>
     cases er;have hl5:lg.length+acc.length<=1000:=by
      have:=congrArg A4 he;have e2:HY acc (x::rc)=(acc.map λp=>p++[x])++HY acc rc:=by unfold HY;rw[M4]
      rw[e2,M0,M0,B0]at this
      lia
     have ez:(acc.map tupD).map (vv x)=(acc.map λp=>p++[x]).map tupD:=by rw[v1,v1];exact i4 λp _=>by simp[vv,tupD]
     refine⟨rfl,by rw[B0];exact fQ<|by lia,pJ (vv x) ?_ ?_⟩
     .intro d hd R hR;obtain⟨p,hp,rfl⟩:=S0.mp hd;have:=hl3 p hp;exact⟨by simp only[B0,M3];exact fQ (by simp at this;lia),hR⟩
     .rw[ez];refine⟨iJ _,by rw[B0,B0,B0];exact fQ<|by lia,?_⟩;refine hM _ ⟨lg++acc.map λp=>p++[x],rc,by rw[N1];rfl,rfl,?_⟩;rw[<-he,L4];congr 1
   .rintro ρ ⟨lg,rc,rfl,er,he⟩;cases rc with
    |cons p rp=>cases er
    |nil =>
     have he:lg=HY acc (yX a.1 a.2):=by simpa [HY]using he
     refine hN _ ⟨HY acc<|yX a.1 a.2,rs,?_,rfl,hr2,hacc,λp hp=>?_⟩
     .rw[he];rfl
     .obtain⟨x,_,hx⟩:=m7.mp hp;obtain⟨p',hp',rfl⟩:=S0.mp hx;have:=hl3 p' hp';simp at this ⊢
      lia
 .rintro ρ ⟨acc,rs,rfl,er,hr1,hacc,hl3⟩;cases rs with
  |cons a rs=>cases er
  |nil =>
   have hacc:acc=qD [[]] ((lo.zip hi).map λp=>yX p.1 p.2):=hacc;have pm:acc.Perm (DM lo hi):=by rw[hacc];exact jW<|List.Perm.refl _
   refine⟨acc,rfl,?_,λr hr=>?_,λrows r1 r2=>?_⟩
   .rw[hacc,IV,M3,Nat.one_mul];exact X2 hm (by decide)
   .intro z;have:=hl3 r hr;subst z;simp at this
    lia
   .rw[SG.sorted_uniq (λa b=>SG.lex_eq) (r1.trans pm) r2<|rD lo hi];exact q _
variable (P w K mg base) in
structure CalsAl:Prop where
 Jt:Cal P w K mg base 1 "_law_places" ["_law_low","_law_high"] (dQ K fP)
def xv:Con:=λargs Q=>∃(A:PyData) (sd:Qa),args=[.fz A]/\(A=.list (sd.map p0)\/A=tupD sd)/\Sd sd/\prodI sd<=63/\∀o,Q (.ow<|.list<|(iW sd).map tupD) o
theorem HB{f:Addr}(F:Ws K "_law_all" (top 48) f fd)(T:Txt mg)(C:CalsAl P w K mg base):FnOk P w K mg base OX 2 f fd ["_law_sides_here"] (dQ K xv):=by
 have S:FnScope ["_law_sides_here"] ["_law_sides_here"] (aQ<|top 48):={};refine DR F S (λcdv A outer s H E hr=>RQ<|QQ C.Jt hr.m<|eQ (EY ["_law_side"] [] (lX rfl<|wv 0)<|λ_ _ _ _=>gQ)<|cQ<|EY ["_law_side"] [] (lX rfl<|wv 0)<|λ_ _ _ _=>TJ (wn 0) pQ) ?_ ?_
 .rintro args Qd ⟨A,sd,rfl,_⟩;rfl
 .rintro args Qd ⟨A,sd,rfl,hA,hsd,h63,q⟩;have h3:=hsd.l3;have h1:=hsd.l1;have hks:(sd.map p0).length=sd.length:=B0 ..;rcases hA with rfl|rfl;all_goals
   refine⟨IQ rfl,?_⟩;refine⟨by rw[hks];exact fQ<|by lia,pJ (λ_=>.int 0) (λd hd R hR=>hR) ?_⟩;refine⟨by rw[hks];exact fQ<|by lia,pJ (λd=>match d with | .int i=>.int (i-1)|_=>.none) ?_ ?_⟩
   .intro d hd R hR;obtain⟨i,_,rfl⟩:=S0.mp hd;exact hR
   have e:((sd.map λ_=>(0:Int)).zip<|sd.map λs=>s-1).map (λp=>yX p.1 p.2)=sd.map rng:=by rw[GK,v1];exact i4 λs _=>HU s
   refine⟨_,_,sd.map λ_=>0,sd.map λs=>s-1,rfl,?_,?_,by simp,by simpa using h3,by simpa using h1,λp hp=>?_,?_,λo3=>?_⟩
   .simp only[v1];rfl
   .simp only[v1];rfl
   .rw[GK]at hp;obtain⟨s,hs,rfl⟩:=S0.mp hp;have h1:=hsd.p s hs;have h2:=nZ hsd.p s hs;have:=hsd.m;exact⟨by show (0:Int)<=0;decide,by show (0:Int)<=s-1;lia,by show s-1<=1000;lia⟩
   .rw[e];have h1:=GY hsd.p;have:=hsd.m
    lia
   .unfold DM;rw[e];exact q _
noncomputable abbrev nX(sd cl:Qa):PyData:=.tuple [tupD sd,tupD cl]
noncomputable def IB(sd cl p:Qa):Int:=cl.getD (uN sd p).toNat 0
def Rq:Con:=λargs Q=>∃(ns:Qa) (k l:Int),args=[.io<|SQ ns k l]/\0<=k/\0<=l/\∀(r k' l':Int) (o:Ev),0<=k'->0<=l'->Q (.fz<|.int r) (some (.io<|SQ ns k' l')::o)
theorem Ij{f:Addr}(F:Ws K "_law_number" (top 45) f fd)(T:Txt mg)(C:CalsB P w K mg base):FnOk P w K mg base OX 2 f fd ["_law_pen_here"] (dQ K Rq):=by
 have S:FnScope ["_law_pen_here","_law_way"] ["_law_pen_here"] (aQ<|top 45):={};refine bK F S (λcdv A outer s H E hr=>bQ (CQ 1<|WQ C.Js hr.m<|wQ 0<|cQ gQ)<|bQ (qX (Ej hr (wn 1) pQ) (RQ<|eU (wx<|TJ (wx<|TJ (wx<|DQ JJ yJ pQ pQ) pQ)<|wx<|WQ C.Js hr.m<|wQ 0<|cQ gQ)<|wx<|TJ pQ<|wx<|eU pQ<|wx<|WQ C.Js hr.m<|wQ 0<|cQ gQ) KQ)<|bQ (qX (jZ xU lU (wn 1) pQ) (RQ<|TJ (wx<|WQ C.Js hr.m<|wQ 0<|cQ gQ) pQ) KQ)<|RQ<|TJ (wx<|WQ C.Js hr.m<|wQ 0<|cQ gQ) pQ) ?_;rintro args Qd ⟨ns,k,l,rfl,hk,hl,q⟩;refine⟨ns,k,l,_,rfl,hk,hl,by decide,by decide,λr k1 l1 _ r0 r1 hk1 hl1=>?_⟩;refine UX (λh=>?_)<|λh=>?_
 .refine⟨⟨by decide,by decide,by decide⟩,?_⟩;refine⟨ns,k1,l1,_,rfl,hk1,hl1,by decide,by decide,λa k2 l2 _ a0 a1 hk2 hl2=>?_⟩;refine⟨ns,k2,l2,_,rfl,hk2,hl2,by decide,by decide,λb k3 l3 _ b0 b1 hk3 hl3=>?_⟩;refine⟨.inl ⟨by decide,by decide⟩,.inr ⟨by lia,by lia⟩,?_⟩;exact q _ _ _ _ hk3 hl3
 refine UX (λh=>?_)<|λh=>?_
 .refine⟨ns,k1,l1,_,rfl,hk1,hl1,by decide,by decide,λa k2 l2 _ a0 a1 hk2 hl2=>?_⟩;exact q _ _ _ _ hk2 hl2
 .refine⟨ns,k1,l1,_,rfl,hk1,hl1,by decide,by decide,λa k2 l2 _ a0 a1 hk2 hl2=>?_⟩;exact q _ _ _ _ hk2 hl2
variable (P w K mg base) in
structure CalsFd:Prop where
 JA:Cal P w K mg base 2 "_law_sides" ["_law_pen_here","_law_most"] (dQ K qv)
 JS:Cal P w K mg base 2 "_law_number" ["_law_pen_here"] (dQ K Rq)
 JT:Cal P w K mg base 2 "_law_all" ["_law_sides_here"] (dQ K xv)
def zv:Con:=λargs Q=>∃(ns:Qa) (k l m:Int),args=[.io<|SQ ns k l,.fz<|.int m]/\0<=k/\0<=l/\1<=m/\m<=63 /\
 ∀(sd cl:Qa) (k' l':Int) (o:Ev),Sd sd->prodI sd<=m->cl.length=(iW sd).length->0<=k'->0<=l'->Q (.fz<|nX sd cl) (some (.io<|SQ ns k' l')::o)
theorem Av{f:Addr}(F:Ws K "_law_field" (top 49) f fd)(T:Txt mg)(C:CalsFd P w K mg base):FnOk P w K mg base OX 3 f fd ["_law_pen_here","_law_most"] (dQ K zv):=by
 have S:FnScope ["_law_pen_here","_law_most","_law_sides_here"] ["_law_pen_here","_law_most"] (aQ<|top 49):={};refine bK F S (λcdv A outer s H E hr=>bQ (CQ 2<|WQ C.JA hr.m<|wQ 0<|mQ 1)<|RQ<|jQ<|eQ (DY T.Qn<|mQ 2)<|cQ<|DY T.Qn<|cQ<|EY ["_law_place"] [0] (lX rfl<|GO C.JT hr.m<|mQ 2)<|λ_ _ _ _=>WQ C.JS hr.m<|mQ 1) ?_;rintro args Qd ⟨ns,k,l,m,rfl,hk,hl,m1,m2,q⟩;refine⟨ns,k,l,m,rfl,hk,hl,m1,by lia,λsd k1 l1 _ hsd hpm hk1 hl1=>?_⟩;have hm:=hsd.m;have hpl:=aJ hsd.p;refine⟨_,sd,rfl,.inl rfl,hsd,by lia,λ_=>⟨iJ _,?_⟩⟩;refine⟨by rw[B0];exact fQ<|by lia,Kk (λrest acc τ=>∃(cs:Qa) (k4 l4:Int),τ=[none,some<|.io<|SQ ns k4 l4]/\acc=cs.map p0/\cs.length+rest.length=(iW sd).length/\0<=k4/\0<=l4) ?_ ?_
   ⟨[],k1,l1,rfl,rfl,by simp,hk1,hl1⟩⟩
 .rintro d ds acc τ ⟨cs,k4,l4,rfl,rfl,hlen,hk4,hl4⟩ N hN;refine⟨ns,k4,l4,rfl,hk4,hl4,λx k5 l5 _ hk5 hl5=>?_⟩;exact hN _ _ ⟨cs++[x],k5,l5,rfl,by simp[Sl.d],by simp at hlen ⊢;lia,hk5,hl5⟩
 .rintro acc τ ⟨cs,k4,l4,rfl,rfl,hlen,hk4,hl4⟩;exact q sd cs k4 l4 _ hsd hpm (by simpa using hlen) hk4 hl4
mutual
noncomputable def RX:PyData->Bool
 | .dict es=>notScr es
 | .list xs=>okAll xs
 | .tuple xs=>okAll xs
 | .none=>true
 | .bool _=>true
 | .int _=>true
 | .str _=>true
noncomputable def okAll:List PyData->Bool
 |[]=>true
 |x::xs=>RX x&&okAll xs
end
theorem cZ:∀{xs:List PyData},okAll xs=true->∀d∈xs,RX d=true
 |[],_,d,h=>by simp at h
 |x::xs,h,d,hd=>by
  simp[okAll]at h;rcases P0.mp hd with rfl|hd
  .exact h.1
  .exact cZ h.2 d hd
theorem sJ:∀{xs:List PyData},(∀d∈xs,RX d=true)->okAll xs=true
 |[],_=>rfl
 |x::xs,h=>by simp[okAll];exact⟨h x L0,sJ λd hd=>h d<|K0 _ hd⟩
noncomputable def UV:PyData->Bool
 | .int _=>true
 |_=>false
noncomputable def tD(s:Int):PyData->Bool
 | .int i=>decide (0<=i)&&decide (i<s)
 |_=>false
noncomputable def Qj:List PyData->Qa->Bool
 |d::ds,s::sd=>tD s d&&Qj ds sd
 |_,_=>true
noncomputable def VJ(sd:Qa):PyData->Bool
 | .tuple ds=>decide (ds.length=sd.length)&&Qj ds sd
 |_=>false
theorem ints_of:∀{ds:List PyData},ds.all UV=true->∃ns:Qa,ds=ns.map p0
 |[],_=>⟨[],rfl⟩
 |d::ds,h=>by simp at h;obtain⟨ns,e⟩:=ints_of (ds:=ds) (by simpa using h.2);cases d<;>simp[UV]at h;rename_i i;exact⟨i::ns,by rw[e];rfl⟩
theorem JV:∀{ds:List PyData}{sd:Qa},ds.length=sd.length->Qj ds sd=true->ds.all UV=true
 |[],_,_,_=>rfl
 |d::ds,[],h,_=>by simp at h
 |d::ds,s::sd,h,k=>by simp[Qj]at k;have:=JV (ds:=ds) (sd:=sd) (by simpa using h) k.2;cases d<;>simp[tD]at k;rename_i i;show (UV (.int i)&&ds.all UV)=true;rw[this];rfl
noncomputable def fU(p:Int×Int):Bool:=decide (0<=p.1)&&decide (p.1<p.2)
theorem Tq:∀(ns sd:Qa),Qj (ns.map p0) sd=((ns.zip sd).map fU).all id
 |[],_=>by simp[Qj]
 |n::ns,[]=>by simp[Qj]
 |n::ns,s::sd=>by simp[Qj,tD,fU,Tq ns sd]
noncomputable def Rj(ns ms:Qa):Bool:=((ns.zip ms).map λp=>decide<|p.1<=p.2).all id
noncomputable def unI:PyData->Int
 | .int i=>i
 |_=>0
noncomputable def CS:PyData->PyData->Bool
 | .tuple xs,.tuple ys=>Rj (xs.map unI)<|ys.map unI
 |_,_=>false
theorem GW(ns:Qa):(ns.map p0).map unI=ns:=by rw[v1];exact v7 ns
noncomputable def dZ(sd:Qa):PyData->Bool
 | .tuple [a,b]=>VJ sd a&&VJ sd b&&CS a b
 |_=>false
theorem UK{d:PyData}(h:VJ sd d=true):∃ns:Qa,d=tupD ns/\ns.length=sd.length:=by cases d<;>simp[VJ]at h;rename_i ds;obtain⟨ns,e⟩:=ints_of<|JV h.1 h.2;subst e;exact⟨ns,rfl,by simpa using h.1⟩
theorem HG{xs:List PyData}(h:xs.length≠2):dZ sd (.tuple xs)=false:=by rcases xs with _|⟨a,_|⟨b,_|⟨c,xs⟩⟩⟩<;>first|rfl|simp at h
def Bv:Con:=λargs Q=>∃d,args=[.fz d]/\RX d=true/\∀o,Q (.fz<|.bool<|UV d) o
theorem Dv{f:Addr}(F:Ws K "is_whole" (top 10) f fd)(T:Txt mg):FnOk P w K mg base OX 1 f fd ["thing"] (dQ K Bv):=by
 have S:FnScope ["thing"] ["thing"] (aQ<|top 10):={};refine bK F S (λcdv A outer s H E hr=>RQ<|yO (eJ .int rfl T.Qm T.Qr boot_int<|wn 0)<|xO<|w_not<|eJ .bl rfl T.Qm T.Qs boot_bool<|wn 0) ?_;rintro args Qd ⟨d,rfl,hd,q⟩;cases d with
 |dict es=>exact⟨hd,q _⟩
 |int i=>exact q _
 |bool b=>exact q _
 |none=>exact q _
 |str x=>exact q _
 |list xs=>exact q _
 |tuple xs=>exact q _
variable (P w K mg base) in
structure CalsC:Prop where
 Ka:Cal P w K mg base 1 "is_whole" ["thing"] (dQ K Bv)
noncomputable def rY(n:Nat):PyData->Bool
 | .tuple ds=>decide (ds.length=n)&&ds.all UV
 |_=>false
def Uq:Con:=λargs Q=>∃(d:PyData) (n:Nat),args=[.fz d,.fz<|.int n]/\RX d=true/\n<=1000/\∀o,Q (.fz<|.bool<|rY n d) o
theorem JB{f:Addr}(F:Ws K "are_wholes" (top 11) f fd)(T:Txt mg)(C:CalsC P w K mg base):FnOk P w K mg base OX 2 f fd ["thing","many"] (dQ K Uq):=by
 have S:FnScope ["thing","many"] ["thing","many"] (aQ<|top 11):={};refine bK F S (λcdv A outer s H E hr=>bQ (qX (xH<|KJ (xX<|XQ<|eJ .tup rfl T.Qm T.Qn boot_tuple<|wn 0)<|AZ<|qJ hr (wx<|MX T.Qc<|mQ 0)<|wn 1) (RQ DZ) KQ)<|RQ<|eX fV (lJ (K:=K) rfl rfl) T.Ql boot_all<|cQ<|EY ["number"] [] (lX rfl<|wv 0)<|λ_ _ _ _=>QQ C.Ka hr.m<|mQ 0) ?_;rintro args Qd ⟨d,n,rfl,hd,hn,q⟩;cases d with
 |dict es=>exact⟨hd,q _⟩
 |int i=>exact q _
 |bool b=>exact q _
 |none=>exact q _
 |str x=>exact q _
 |list xs=>exact q _
 |tuple xs =>
  refine UX (λh=>?_)<|λh=>?_
  .have h:¬(xs.length:Int)=n:=by simpa using h
   have e:rY n (.tuple xs)=false:=by simp[rY];intro z;lia
   rw[e]at q;exact q _
  .have h:(xs.length:Int)=n:=by simpa using h
   have hl:xs.length=n:=by lia
   refine⟨fQ<|by lia,pJ (λd=>.bool<|UV d) ?_ ?_⟩
   .intro d hd2 N hN;exact⟨d,rfl,cZ (by simpa [RX]using hd) d hd2,λo=>hN⟩
   .refine⟨xs.map UV,by rw[v1];rfl,?_⟩;have e:rY n (.tuple xs)=(xs.map UV).all id:=by simp[rY,hl]
    rw[<-e];exact q _
variable (P w K mg base) in
structure CalsD:Prop where
 Kb:Cal P w K mg base 2 "are_wholes" ["thing","many"] (dQ K Uq)
def JY:Con:=λargs Q=>∃(sd:Qa) (d:PyData),args=[.fz<|tupD sd,.fz d]/\RX d=true/\sd.length<=1000/\∀o,Q (.fz<|.bool<|VJ sd d) o
noncomputable def TR:PyData->PyData
 | .tuple [.int a,.int b]=>.bool<|fU (a,b)
 |_=>.none
theorem uD{f:Addr}(F:Ws K "is_place" (top 18) f fd)(T:Txt mg)(C:CalsD P w K mg base):FnOk P w K mg base OX 3 f fd ["sides","thing"] (dQ K JY):=by
 have S:FnScope ["sides","thing"] ["sides","thing"] (aQ<|top 18):={};refine bK F S (λcdv A outer s H E hr=>bQ (qX (xX<|XQ<|QQ C.Kb hr.m<|wQ 1<|cQ<|MX T.Qc<|mQ 0) (RQ DZ) KQ)<|RQ<|eX fV (lJ (K:=K) rfl rfl) T.Ql boot_all<|cQ<|jv ["number","side"] [] (AK rfl T.QS<|wQ 1<|mQ 0) (λ_ _ _ _=>yK rfl rfl<|JQ (rX 0)<|JQ (rX 1) OZ)<|λ_ _ _ _=>Pu DC lW pQ (wn 0)<|wn 1) ?_;rintro args Qd ⟨sd,d,rfl,hd,hn,q⟩;refine⟨d,sd.length,by rw[B0];rfl,hd,hn,λo=>?_⟩;cases ha:rY sd.length d with
 |false =>
  have e:VJ sd d=false:=by
   cases d<;>first|rfl|skip
   rename_i ds;simp[rY]at ha;by_cases h:ds.length=sd.length
   .cases hz:Qj ds sd with
    |false=>simp[VJ,hz]
    |true=>have:=JV h hz;exact absurd this (by simpa using ha h)
   .simp[VJ,h]
  rw[e]at q;exact q _
 |true =>
  cases d<;>simp[rY]at ha;rename_i ds;obtain⟨hl,hi⟩:=ha;obtain⟨ns,rfl⟩:=ints_of (ds:=ds) (by simpa using hi);have hz:aK (ns.map p0) (sd.map p0)=(ns.zip sd).map λp=>G1 [.int p.1,.int p.2]:=uX ns sd;have hln:ns.length=sd.length:=by simpa using hl
  refine⟨by rw[hz,B0,S4];exact fQ<|by lia,pJ TR ?_ ?_⟩
  .intro d hd2 N hN;rw[hz]at hd2;obtain⟨⟨a,b⟩,_,rfl⟩:=S0.mp hd2;have hN:N (.bool<|fU (a,b)) _:=hN;refine⟨rfl,?_⟩;refine UX (λh=>?_)<|λh=>?_
   .have e:fU (a,b)=decide (a<b):=by
     have h:decide (0<=a)=true:=h;simp[fU,of_decide_eq_true h]
    rw[e]at hN;exact hN
   .have e:fU (a,b)=false:=by
     have h:¬decide (0<=a)=true:=h;simp[fU];intro z;exact absurd (decide_eq_true z) h
    rw[e]at hN;exact hN
  .rw[hz,v1];refine⟨(ns.zip sd).map fU,by rw[v1];rfl,?_⟩;have e:VJ sd (.tuple<|ns.map p0)=((ns.zip sd).map fU).all id:=by
    rw[<-Tq];simp[VJ,hln]
   rw[<-e];exact q _
variable (P w K mg base) in
structure CalsE:Prop where
 Kc:Cal P w K mg base 3 "is_place" ["sides","thing"] (dQ K JY)
def sH:Con:=λargs Q=>∃(sd:Qa) (d:PyData),args=[.fz<|tupD sd,.fz d]/\RX d=true/\sd.length<=1000/\∀o,Q (.fz<|.bool<|dZ sd d) o
noncomputable def DS:PyData->PyData
 | .tuple [.int a,.int b]=>.bool<|decide<|a<=b
 |_=>.none
theorem Fv{f:Addr}(F:Ws K "is_box" (top 19) f fd)(T:Txt mg)(C:CalsE P w K mg base):FnOk P w K mg base OX 4 f fd ["sides","thing"] (dQ K sH):=by
 have S:FnScope ["sides","thing"] ["sides","thing"] (aQ<|top 19):={};refine bK F S (λcdv A outer s H E hr=>bQ (qX (xH<|KJ (xX<|XQ<|eJ .tup rfl T.Qm T.Qn boot_tuple<|wn 1)<|AZ<|qJ hr (wx<|MX T.Qc<|mQ 1) pQ) (RQ DZ) KQ)<|bQ (qX (xH<|KJ (xX<|XQ<|QQ C.Kc hr.m<|wQ 0<|cQ<|HX (wn 1) pQ)<|AZ<|xX<|XQ<|QQ C.Kc hr.m<|wQ 0<|cQ<|HX (wn 1) pQ) (RQ DZ) KQ)<|RQ<|eX fV (lJ (K:=K) rfl rfl) T.Ql boot_all<|cQ<|jv ["first","last"] [] (AK rfl T.QS<|eQ (HX (wn 1) pQ)<|cQ<|HX (wn 1) pQ) (λ_ _ _ _=>yK rfl rfl<|JQ (rX 0)<|JQ (rX 1) OZ)<|λ_ _ _ _=>rW rO DC (wn 0)<|wn 1) ?_;rintro args Qd ⟨sd,d,rfl,hd,hn,q⟩;cases d with
 |dict es=>exact⟨hd,q _⟩
 |int i=>exact q _
 |bool b=>exact q _
 |none=>exact q _
 |str x=>exact q _
 |list xs=>exact q _
 |tuple xs =>
  refine UX (λh=>?_)<|λh=>?_
  .have h:¬(xs.length:Int)=2:=by simpa using h
   rw[HG<|by lia]at q;exact q _
  .have h:(xs.length:Int)=2:=by simpa using h
   obtain⟨a,b,rfl⟩:∃a b,xs=[a,b]:=by
    rcases xs with _|⟨a,_|⟨b,_|⟨c,xs⟩⟩⟩
    .simp at h
    .simp at h
    .exact⟨a,b,rfl⟩
    .simp at h;lia
   have hab:RX a=true/\RX b=true:=by simpa [RX,okAll]using hd
   refine⟨a,rfl,sd,a,rfl,hab.1,hn,λo=>?_⟩;cases ha:VJ sd a with
   |false =>
    have e:dZ sd (.tuple [a,b])=false:=by simp[dZ,ha]
    rw[e]at q;exact q _
   |true =>
    refine⟨b,rfl,sd,b,rfl,hab.2,hn,λo=>?_⟩;cases hb:VJ sd b with
    |false =>
     have e:dZ sd (.tuple [a,b])=false:=by simp[dZ,hb]
     rw[e]at q;exact q _
    |true =>
     obtain⟨ns,rfl,hns⟩:=UK ha;obtain⟨ms,rfl,hms⟩:=UK hb;have hz:=uX ns ms;refine⟨tupD ns,rfl,tupD ms,rfl,by rw[hz,B0,S4];exact fQ<|by lia,pJ DS ?_ ?_⟩
     .intro d hd2 N hN;rw[hz]at hd2;obtain⟨⟨a,b⟩,_,rfl⟩:=S0.mp hd2;exact⟨rfl,hN⟩
     .rw[hz,v1];refine⟨(ns.zip ms).map λp=>decide<|p.1<=p.2,by rw[v1];rfl,?_⟩;have e:dZ sd (.tuple [tupD ns,tupD ms])=((ns.zip ms).map λp=>decide<|p.1<=p.2).all id:=by
       simp only[dZ,ha,hb,J9];show Rj ((ns.map p0).map unI) ((ms.map p0).map unI)=_;rw[GW,GW];rfl
      rw[<-e];exact q _
theorem JU(f:α->β):∀(cs acc:List (List α)),(mZ acc cs).map (W5 f)=mZ (acc.map<|W5 f) (cs.map<|W5 f)
 |[],acc=>rfl
 |c::cs,acc=>by show (mZ (acc.flatMap λp=>c.map λx=>p++[x]) cs).map (W5 f)=mZ ((acc.map<|W5 f).flatMap λp=>(c.map f).map λx=>p++[x]) (cs.map<|W5 f);rw[JU f cs];congr 1;rw[List.map_flatMap,List.flatMap_map];congr 1;funext p;simp[v1,Function.comp_def]
def tE:Con:=λargs Q=>∃cs:List (List PyData),args=[.fz<|.list<|cs.map M5]/\(∀c∈cs,c≠[])/\rJ cs<=1000/\cs.length<=1000/\∀o,Q (.ow<|.list<|(mZ [[]] cs).map G1) o
theorem KB{f:Addr}(F:Ws K "one_of_each" (top 13) f fd):FnOk P w K mg base OX 1 f fd ["choices"] (dQ K tE):=by
 have S:FnScope ["choices","chosen","things","longer","ahead","thing"] ["choices"] (aQ<|top 13):={};refine bK F S (λcdv A outer s H E hr=>bQ (CQ 1<|HQ<|cQ<|jQ VQ)<|bQ (SJ [2,3,4] (lX rfl<|wv 0) (rX 2)<|bQ (CQ 3<|HQ VQ)<|bQ (SJ [4,5] (lX rfl<|wv 1) (rX 4)<|AQ<|SJ [5] (lX rfl<|wv 2) (rX 5)<|AQ<|tX<|Pj BX rfl PySem.F.slot_list_append PySem.F.type_list_append AX (wn 3)<|cQ<|LQ (wn 4)<|wx<|jQ<|cQ<|wv 5)<|AQ<|BF (i:=1) S.nd rfl (Or.inl rfl)<|wn 3)<|cv 1) ?_;rintro args Qd ⟨cs,rfl,hne,hlen,hcl,q⟩;refine bZ (λrest ρ=>∃(acc rs:List (List PyData)),ρ=[ZA<|.list<|cs.map M5,YA<|.list<|acc.map G1,none,none,none,none]/\rest=rs.map M5/\(∀c∈rs,c≠[])/\acc.length*rJ rs=rJ cs/\mZ acc rs=mZ [[]] cs/\(∀p∈acc,p.length+rs.length<=1000)) ?_ ?_
  ⟨[[]],cs,rfl,rfl,hne,by simp,rfl,λp hp=>by simp at hp;subst hp;simpa using hcl⟩
 .rintro d ds ρ ⟨acc,rs,rfl,er,hne',hln,hacc,hpl⟩ N hN;cases rs with
  |nil=>cases er
  |cons c rs =>
   cases er;have hr2:∀c∈rs,c≠[]:=λc hc=>hne' c<|K0 _ hc;have hlp:=FV hr2;have htot:(acc.flatMap λp=>c.map λx=>p++[x]).length<=1000:=by
    rw[FY];have h1:acc.length*(c.length*rJ rs)=rJ cs:=hln;rw[<-G9]at h1;have:acc.length*c.length<=acc.length*c.length*rJ rs:=A8 _ hlp
    lia
   refine bZ (λrest ρ=>∃(lg rp:List (List PyData)),ρ=[ZA<|.list<|cs.map M5,ZA<|.list<|acc.map G1,ZA<|.list c,YA<|.list<|lg.map G1,none,none]/\rest=rp.map G1/\(lg++rp.flatMap λp=>c.map λx=>p++[x])=(acc.flatMap λp=>c.map λx=>p++[x])/\(∀p∈rp,p∈acc)) ?_ ?_
    ⟨[],acc,rfl,rfl,rfl,λp hp=>hp⟩
   .rintro d ds ρ ⟨lg,rp,rfl,er,he,hin⟩ M hM;cases rp with
    |nil=>cases er
    |cons p rp =>
     cases er;have hp1:=hpl p<|hin p L0;have hl5:lg.length+c.length<=1000:=by
      have:=congrArg A4 he;rw[M0,M4,M0,B0]at this
      lia
     refine bZ (λrest ρ=>∃(pre:List PyData),c=pre++rest/\ρ=[ZA<|.list<|cs.map M5,ZA<|.list<|acc.map G1,ZA<|.list c,YA<|.list<|(lg++pre.map λx=>p++[x]).map G1,ZA<|.tuple p,none]) ?_ ?_
      ⟨[],rfl,by simp;rfl⟩
     .rintro x ds' ρ ⟨pre,hc,rfl⟩ L hL;refine⟨by simp at hp1 ⊢;exact fQ<|by lia,by rw[B0,M0,B0];have:=congrArg A4 hc;simp at this;exact Q0 (show _<1000 by lia)<|by decide,?_⟩;refine hL _ ⟨pre++[x],by rw[hc];simp,?_⟩;have e1:((lg++pre.map λx=>p++[x]).map G1)++[G1<|p++[x]]=((lg++(pre++[x]).map λx=>p++[x]).map G1):=by simp
      rw[<-e1];rfl
     .rintro ρ ⟨pre,hc,rfl⟩;rw[L1]at hc;subst hc;exact hM _ ⟨lg++c.map λx=>p++[x],rp,rfl,rfl,by rw[L4,<-he,M4],λp' hp'=>hin p'<|K0 _ hp'⟩
   .rintro ρ ⟨lg,rp,rfl,er,he,hin⟩;cases rp with
    |cons p rp=>cases er
    |nil =>
     rw[List.flatMap_nil,L1]at he;refine hN _ ⟨acc.flatMap λp=>c.map λx=>p++[x],rs,by rw[he];rfl,rfl,hr2,?_,hacc,λp hp=>?_⟩
     .rw[FY,G9];exact hln
     .obtain⟨p',hp',hx⟩:=m7.mp hp;obtain⟨x,_,rfl⟩:=S0.mp hx;have:=hpl p' hp';simp at this ⊢
      lia
 .rintro ρ ⟨acc,rs,rfl,er,hne',hln,hacc,hpl⟩;cases rs with
  |cons a rs=>cases er
  |nil=>have hacc:acc=mZ [[]] cs:=hacc;rw[hacc];exact q _
variable (P w K mg base) in
structure CalsBt:Prop where
 Ke:Cal P w K mg base 1 "one_of_each" ["choices"] (dQ K tE)
def gP:Con:=λargs Q=>∃low high:Qa,args=[.fz<|tupD low,.fz<|tupD high]/\low.length=high.length/\low.length<=3/\(∀p∈low.zip high,0<=p.1/\p.1<=p.2/\p.2<=1000)/\rJ ((low.zip high).map λp=>yX p.1 p.2)<=1000/\∀o,Q (.ow<|.list<|(DM low high).map tupD) o
theorem FM{f:Addr}(F:Ws K "places_between" (top 14) f fd)(T:Txt mg)(C:CalsBt P w K mg base):FnOk P w K mg base OX 2 f fd ["low","high"] (dQ K gP):=by
 have S:FnScope ["low","high"] ["low","high"] (aQ<|top 14):={};refine bK F S (λcdv A outer s H E hr=>RQ<|QQ C.Ke hr.m<|cQ<|jv ["first","last"] [] (AK rfl T.QS<|wQ 0<|mQ 1) (λ_ _ _ _=>yK rfl rfl<|JQ (rX 0)<|JQ (rX 1) OZ)<|λ_ _ _ _=>AR rfl T.Qo T.Qt<|wQ 0<|cQ<|LQ (wn 1) pQ) ?_;rintro args Qd ⟨low,high,rfl,hl,h3,hb,hlen,q⟩;have hz:(aK (low.map p0)<|high.map p0).length<=sizeLine:=by rw[uX,B0,S4];exact fQ (by lia)
 refine⟨hz,pJ (λd=>match d with | .tuple [.int a,.int b]=>.list (BQ a (b+1-a).toNat)|_=>.none) ?_ ?_⟩
 .intro d hd N hN;rw[uX]at hd;obtain⟨⟨a,b⟩,hp,rfl⟩:=S0.mp hd;have hab:=hb _ hp;simp only at hab;exact⟨rfl,⟨by lia,by lia,by lia,by lia⟩,by lia,hN⟩
 .have e1:(aK (low.map p0)<|high.map p0).map (λd=>match d with | .tuple [.int a,.int b]=>M5 (BQ a (b+1-a).toNat)|_=>.none)=(((low.zip high).map λp=>yX p.1 p.2).map<|W5 p0).map M5:=by
   rw[uX,v1,v1,v1];refine i4 λp _=>?_;simp[tW]
  rw[e1];have hl2:rJ (((low.zip high).map λp=>yX p.1 p.2).map<|W5 p0)=rJ ((low.zip high).map λp=>yX p.1 p.2):=by
   generalize (low.zip high).map (λp=>yX p.1 p.2)=cs;induction cs with
   |nil=>rfl
   |cons c cs ih=>simp[rJ,ih]
  refine⟨((low.zip high).map λp=>yX p.1 p.2).map<|W5 p0,rfl,?_,by rw[hl2];exact hlen,by simp;lia,λo=>?_⟩
  .intro c hc;obtain⟨c',hc',rfl⟩:=S0.mp hc;obtain⟨p,hp,rfl⟩:=S0.mp hc';have:=hb p hp;intro z;have:=congrArg A4 z;simp[yX]at this
   lia
  .have e2:(mZ [[]]<|((low.zip high).map λp=>yX p.1 p.2).map<|W5 p0).map G1=(DM low high).map tupD:=by
    have:=JU p0 ((low.zip high).map λp=>yX p.1 p.2) [[]];simp only[K1,G7]at this;rw[<-this,v1];rfl
   rw[e2];exact q _
def Gv:Con:=λargs Q=>∃sd pl:Qa,args=[.fz<|tupD sd,.fz<|tupD pl]/\sd.length<=1000/\(∀s∈sd,0<=s/\s<2 ^ 64)/\∀o,Q (.fz<|.int<|uN sd pl) o
theorem Hv{f:Addr}(F:Ws K "index_of" (top 15) f fd)(T:Txt mg):FnOk P w K mg base OX 1 f fd ["sides","place"] (dQ K Gv):=by
 have S:FnScope ["sides","place","index","side","number"] ["sides","place"] (aQ<|top 15):={};refine bK F S (λcdv A outer s H E hr=>bQ (CQ 2 gQ)<|bQ (SJ [3,4] (AK rfl T.QS<|wQ 0<|mQ 1) (yK rfl rfl<|JQ (rX 3)<|JQ (rX 4) OZ)<|AQ<|CQ 2<|LQ (wx<|eU (wn 2)<|wn 3)<|wn 4)<|cv 2) ?_;rintro args Qd ⟨sd,pl,rfl,hl,hs,q⟩;refine bZ (λrest ρ=>∃(i:Int) (rs:List (Int×Int)),ρ=[ZA<|tupD sd,ZA<|tupD pl,ZA<|.int i,none,none]/\rest=rs.map (λp=>G1 [.int p.1,.int p.2])/\(∀p∈rs,p∈sd.zip pl)/\rs.foldl (λi p=>i*p.1+p.2) i=uN sd pl) ?_ ?_
  ⟨0,sd.zip pl,rfl,uX _ _,λ_ h=>h,rfl⟩
 .rintro d ds ρ ⟨i,rs,rfl,er,hin,hf⟩ N hN;cases rs with
  |nil=>cases er
  |cons p rs=>cases er;have hp:=hs p.1 (u5<|hin p L0).1;exact⟨rfl,.inr ⟨by lia,by lia⟩,hN _ ⟨i*p.1+p.2,rs,rfl,rfl,λx hx=>hin x<|K0 _ hx,hf⟩⟩
 .rintro ρ ⟨i,rs,rfl,er,hin,hf⟩;cases rs with
  |nil=>have hf:i=uN sd pl:=hf;subst hf;exact q _
  |cons _ _=>cases er
noncomputable def Bx:Qa->Qa->Qa->Prop
 |[],[],[]=>True
 |x::lo,y::hi,s::sd=>(0<=x/\x<=y/\y<s)/\Bx lo hi sd
 |_,_,_=>False
noncomputable abbrev gU(lo hi:Qa):PyData:=.tuple [tupD lo,tupD hi]
theorem vD:∀{lo hi sd:Qa},Bx lo hi sd->lo.length=sd.length/\hi.length=sd.length
 |[],[],[],_=>⟨rfl,rfl⟩
 |x::lo,y::hi,s::sd,h=>by have:=vD h.2;simp[this.1,this.2]
 |[],[],_::_,h=>h.elim
 |[],_::_,z,h=>by cases z<;>exact h.elim
 |_::_,[],z,h=>by cases z<;>exact h.elim
 |_::_,_::_,[],h=>h.elim
theorem bJ(p:Qa):RX (tupD p)=true:=sJ λd hd=>by obtain⟨i,_,rfl⟩:=S0.mp hd;rfl
theorem Vq:∀{lo hi sd:Qa}{x y s:Int},Bx lo hi sd->0<=x->x<=y->y<s->Bx (lo++[x]) (hi++[y]) (sd++[s])
 |[],[],[],_,_,_,_,h1,h2,h3=>⟨⟨h1,h2,h3⟩,trivial⟩
 |a::lo,b::hi,c::sd,_,_,_,h,h1,h2,h3=>⟨h.1,Vq h.2 h1 h2 h3⟩
 |[],[],_::_,_,_,_,h,_,_,_=>h.elim
 |[],_::_,z,_,_,_,h,_,_,_=>by cases z<;>exact h.elim
 |_::_,[],z,_,_,_,h,_,_,_=>by cases z<;>exact h.elim
 |_::_,_::_,[],_,_,_,h,_,_,_=>h.elim
theorem GM{p:Qa}(h:Wi p sd):0<=uN sd p/\uN sd p<prodI sd:=by have:=sE h (T7 0) (by decide:(0:Int)<1);rw[y7]at this;exact this
variable (P w K mg base) in
structure CalsAk:Prop where
 Kf:Cal P w K mg base 4 "is_box" ["sides","thing"] (dQ K sH)
noncomputable def IG:(Str->Option Value)->EX:=λmg args C=>∃(sd:Qa) (d:PyData),args=[.fz<|tupD sd,.fz d]/\RX d=true/\sd.length<=1000/\dZ sd d=false/\C=cA mg "NoBox"
theorem LB{f:Addr}(F:Ws K "ask_for_box" (top 20) f fd)(T:Txt mg)(L:Cls K mg)(C:CalsAk P w K mg base):FnOk P w K mg base (QZ P w) 5 f fd ["sides","thing"] (nQ K<|IG mg):=by
 have S:FnScope ["sides","thing"] ["sides","thing"] (aQ<|top 20):={};refine YK (C:=cA mg "NoBox") F S (λcdv A outer s H E hr=>tj (λ_ _ h=>h) (xX<|XQ<|QQ C.Kf hr.m<|wQ 0<|mQ 1) T.Xl L.Xt) ?_ ?_
 .rintro args C' ⟨sd,d,rfl,_⟩;rfl
 .rintro args C' ⟨sd,d,rfl,hd,hn,hb,rfl⟩;refine⟨rfl,IQ rfl,?_⟩;refine⟨sd,d,rfl,hd,hn,λo=>?_⟩;rw[hb];exact⟨rfl,trivial⟩
def Iv:Con:=λargs Q=>∃sd:Qa,args=[.fz<|tupD sd]/\sd.length<=1000/\∀o,Q (.fz<|tupD<|sd.map λ_=>0) o
theorem Jv{f:Addr}(F:Ws K "first_place" (top 21) f fd)(T:Txt mg):FnOk P w K mg base OX 1 f fd ["sides"] (dQ K Iv):=by
 have S:FnScope ["sides"] ["sides"] (aQ<|top 21):={};refine bK F S (λcdv A outer s H E hr=>RQ<|DY T.Qn<|cQ<|EY ["side"] [] (lX rfl<|wv 0)<|λ_ _ _ _=>gQ) ?_;rintro args Qd ⟨sd,rfl,hl,q⟩;refine⟨by rw[B0];exact fQ hl,pJ (λ_=>.int 0) (λd hd N hN=>hN) ?_⟩;have e:(sd.map p0).map (λ_=>p0 0)=(sd.map λ_=>0).map p0:=by simp[v1,Function.comp_def]
 rw[e];exact q _
def uE:Con:=λargs Q=>∃sd:Qa,args=[.fz<|tupD sd]/\sd.length<=1000/\∀o,Q (.fz<|tupD<|sd.map λs=>s-1) o
theorem MB{f:Addr}(F:Ws K "last_place" (top 22) f fd)(T:Txt mg):FnOk P w K mg base OX 1 f fd ["sides"] (dQ K uE):=by
 have S:FnScope ["sides"] ["sides"] (aQ<|top 22):={};refine bK F S (λcdv A outer s H E hr=>RQ<|DY T.Qn<|cQ<|EY ["side"] [] (lX rfl<|wv 0)<|λ_ _ _ _=>TJ (wn 0) pQ) ?_;rintro args Qd ⟨sd,rfl,hl,q⟩;refine⟨by rw[B0];exact fQ hl,pJ (λd=>match d with | .int i=>.int (i-1)|_=>.none) (λd hd N hN=>?_) ?_⟩
 .obtain⟨i,_,rfl⟩:=S0.mp hd;exact hN
 .refine Eq.mpr (congrArg (λz=>Qd (.fz<|.tuple z) _) ?_) (q _);simp[v1,Function.comp_def]
variable (P w K mg base) in
structure CalsF:Prop where
 Kg:Cal P w K mg base 2 "places_between" ["low","high"] (dQ K gP)
 Kh:Cal P w K mg base 1 "first_place" ["sides"] (dQ K Iv)
 Kl:Cal P w K mg base 1 "last_place" ["sides"] (dQ K uE)
def LV:Con:=λargs Q=>∃sd:Qa,args=[.fz<|tupD sd]/\Sd sd/\∀o,Q (.ow<|.list<|(iW sd).map tupD) o
theorem tH{f:Addr}(F:Ws K "all_places" (top 24) f fd)(C:CalsF P w K mg base):FnOk P w K mg base OX 3 f fd ["sides"] (dQ K LV):=by
 have S:FnScope ["sides"] ["sides"] (aQ<|top 24):={};refine bK F S (λcdv A outer s H E hr=>RQ<|QQ C.Kg hr.m<|eQ (QQ C.Kh hr.m<|mQ 0)<|cQ<|QQ C.Kl hr.m<|mQ 0) ?_;rintro args Qd ⟨sd,rfl,hsd,q⟩;have h3:=hsd.l3;refine⟨sd,rfl,by lia,λo1=>?_⟩;refine⟨sd,rfl,by lia,λo2=>?_⟩;have e:((sd.map λ_=>(0:Int)).zip<|sd.map λs=>s-1).map (λp=>yX p.1 p.2)=sd.map rng:=by rw[GK,v1];exact i4 λs _=>HU s
 refine⟨sd.map λ_=>0,sd.map λs=>s-1,rfl,by simp,by simpa using h3,λp hp=>?_,?_,λo3=>?_⟩
 .rw[GK]at hp;obtain⟨s,hs,rfl⟩:=S0.mp hp;have h1:=hsd.p s hs;have h2:=nZ hsd.p s hs;have:=hsd.m;exact⟨by show (0:Int)<=0;decide,by show (0:Int)<=s-1;lia,by show s-1<=1000;lia⟩
 .rw[e];have h1:=GY hsd.p;have:=hsd.m
  lia
 .unfold DM;rw[e];exact q _
variable (P w K mg base) in
structure CalsCa:Prop where
 Km:Cal P w K mg base 1 "index_of" ["sides","place"] (dQ K Gv)
def oS:Con:=λargs Q=>∃sd cl p:Qa,args=[.fz<|nX sd cl,.fz<|tupD p]/\Sd sd/\cl.length=(iW sd).length/\Wi p sd/\∀o,Q (.fz<|.int<|IB sd cl p) o
theorem iP{f:Addr}(F:Ws K "cell_at" (top 23) f fd)(C:CalsCa P w K mg base):FnOk P w K mg base OX 2 f fd ["field","place"] (dQ K oS):=by
 have S:FnScope ["field","place"] ["field","place"] (aQ<|top 23):={};refine bK F S (λcdv A outer s H E hr=>RQ<|HX (wx<|HX (wn 0) pQ)<|wx<|QQ C.Km hr.m<|eQ (HX (wn 0) pQ)<|mQ 1) ?_;rintro args Qd ⟨sd,cl,p,rfl,hsd,hcl,hp,q⟩;have h3:=hsd.l3;have hm:=hsd.m;have hpl:=aJ hsd.p;have hi:=GM hp;refine⟨_,rfl,_,rfl,sd,p,rfl,by lia,λs hs=>?_,λo=>?_⟩
 .have h1:=hsd.p s hs;have h2:=nZ hsd.p s hs
  lia
 .obtain⟨n,hn⟩:=K5 hi.1;have hnl:n<cl.length:=by lia
  refine⟨.int<|IB sd cl p,?_,q _⟩;unfold IB;rw[hn];exact FB hnl
theorem oZ:∀a b:Qa,sameAll (a.map p0) (b.map p0)=decide (a=b)
 |[],[]=>rfl
 |[],_::_=>by simp[sameAll]
 |_::_,[]=>by simp[sameAll]
 |x::a,y::b=>by have ih:=oZ a b;simp only[K1,sameAll,same,ih];by_cases h1:x=y<;>by_cases h2:a=b<;>simp[h1,h2]
theorem CZ:∀a b:Qa,SeqAt.noMixAll (a.map p0) (b.map p0)=true
 |[],[]=>rfl
 |[],_::_=>by simp[SeqAt.noMixAll]
 |_::_,[]=>by simp[SeqAt.noMixAll]
 |x::a,y::b=>by simp[SeqAt.noMixAll,SeqAt.noMix,CZ a b]
theorem tJ(fs:Qa):rY fs.length (tupD fs)=true:=by show (decide ((fs.map p0).length=fs.length)&&(fs.map p0).all UV)=true;rw[B0,decide_eq_true rfl,J9,K2];intro d hd;obtain⟨i,_,rfl⟩:=S0.mp hd;rfl
theorem uZ(ns:Qa):Nice 1 (.list<|ns.map p0):=.list λd hd=>by obtain⟨n,_,rfl⟩:=S0.mp hd;exact Nice.int 0 n
theorem MV(ns:Qa):Nice 1 (tupD ns):=.tuple λd hd=>by obtain⟨n,_,rfl⟩:=S0.mp hd;exact Nice.int 0 n
def iY(n:Nat)(d:PyData):Prop:=rY n d=false\/∃od:Qa,d=tupD od/\od.length=n/\¬od.Perm (rng n)
def NV(n:Nat)(d:PyData):Prop:=rY n d=false\/∃fs:Qa,d=tupD fs/\fs.length=n/\∃f∈fs,f<1
def vE(d:PyData):Prop:=∀ds,d=.tuple ds->ds.all UV=false/\ds.length<=1000
def wE(n:Nat)(d:PyData):Prop:=∃sm:Qa,d=tupD sm/\sm.length<=1000/\(rng n).filter (λw=>decide<|w∈sm)≠sm
variable (P w K mg base) in
structure CalsAo:Prop where
 Kb:Cal P w K mg base 2 "are_wholes" ["thing","many"] (dQ K Uq)
noncomputable def jP:(Str->Option Value)->EX:=λmg args C=>∃(n:Nat) (d:PyData),args=[.fz<|.int n,.fz d]/\RX d=true/\n<=3/\iY n d/\C=cA mg "NoTurn"
theorem kP:FnScope ["many","thing"] ["many","thing"] (aQ<|top 26):={}
theorem HM{f:Addr}(F:Ws K "ask_for_order" (top 26) f fd)(T:Txt mg)(L:Cls K mg)(C:CalsAo P w K mg base):FnOk P w K mg base (QZ P w) 3 f fd ["many","thing"] (nQ K<|jP mg):=by
 have S:=kP;refine YK (C:=cA mg "NoTurn") F S (λcdv A outer s H E hr=>tj (λ_ _ h=>h) (xH<|KJ (xX<|XQ<|QQ C.Kb hr.m<|wQ 1<|mQ 0)<|AZ<|qJ hr (wx<|eX EV pY T.QT boot_sorted<|mQ 1)<|wx<|Vw rfl T.Qo T.Qt<|mQ 0) T.Xm L.XS) ?_ ?_
 .rintro args C' ⟨n,d,rfl,_⟩;rfl
 .rintro args C' ⟨n,d,rfl,hd,hn,hb,rfl⟩;refine⟨rfl,IQ rfl,?_⟩;refine⟨d,n,rfl,hd,by lia,λo=>?_⟩;rcases hb with hb|⟨od,rfl,rfl,hp⟩
  .rw[hb];exact⟨rfl,trivial⟩
  .rw[tJ];refine⟨od,rfl,by lia,λns' h1 h2=>?_⟩;refine⟨⟨by decide,by decide,by lia,by lia⟩,by lia,?_⟩;rw[pX];have hne:ns'≠rng od.length:=λe=>hp (by rw[<-e];exact h1.symm);have hw:=uZ ns';have hw2:=uZ<|rng od.length;refine⟨hw.p,hw2.p,hw.sh<|by decide,hw2.sh<|by decide,CZ _ _,?_⟩;have e:same (.list<|ns'.map p0) (.list<|(rng od.length).map p0)=false:=by
    show sameAll _ _=false;rw[oZ];exact decide_eq_false hne
   exact⟨(show (!same (.list<|ns'.map p0) (.list<|(rng od.length).map p0))=true by rw[e];rfl),trivial⟩
noncomputable def lP:(Str->Option Value)->EX:=λmg args C=>∃(n:Nat) (d:PyData),args=[.fz<|.int n,.fz d]/\RX d=true/\n<=3/\NV n d/\C=cA mg "NoTurn"
theorem mP:FnScope ["many","thing"] ["many","thing"] (aQ<|top 28):={}
theorem IM{f:Addr}(F:Ws K "ask_for_factors" (top 28) f fd)(T:Txt mg)(L:Cls K mg)(C:CalsAo P w K mg base):FnOk P w K mg base (QZ P w) 3 f fd ["many","thing"] (nQ K<|lP mg):=by
 have S:=mP;refine YK (C:=cA mg "NoTurn") F S (λcdv A outer s H E hr=>tj (λ_ _ h=>h) (xH<|KJ (xX<|XQ<|QQ C.Kb hr.m<|wQ 1<|mQ 0)<|AZ<|xX<|XQ<|eX fV (lJ (K:=K) rfl rfl) T.Ql boot_all<|cQ<|EY ["factor"] [] (lX rfl<|wv 1)<|λ_ _ _ _=>rW gq HD (wn 0) pQ) T.Xm L.XS) ?_ ?_
 .rintro args C' ⟨n,d,rfl,_⟩;rfl
 .rintro args C' ⟨n,d,rfl,hd,hn,hb,rfl⟩;refine⟨rfl,IQ rfl,?_⟩;refine⟨d,n,rfl,hd,by lia,λo=>?_⟩;rcases hb with hb|⟨fs,rfl,rfl,g,hg,hg1⟩
  .rw[hb];exact⟨rfl,trivial⟩
  .rw[tJ];refine⟨by rw[B0];exact fQ<|by lia,pJ (λd=>.bool<|decide<|1<=unI d) (λd hd N hN=>?_) ?_⟩
   .obtain⟨i,_,rfl⟩:=S0.mp hd;exact hN
   .refine⟨fs.map λi=>decide<|1<=i,by rw[v1,v1];rfl,?_⟩;have e2:((fs.map λi=>decide<|1<=i).all id)=false:=by
     rw[B5,Ne,K2];intro z;have:=z _<|S0.mpr ⟨g,hg,rfl⟩;have:=of_decide_eq_true this
     lia
    rw[e2];exact⟨rfl,trivial⟩
def VP:Con:=λargs Q=>∃fs:Qa,args=[.fz<|.int fs.length,.fz<|tupD fs]/\fs.length<=1000/\(∀f∈fs,1<=f)/\∀o,Q (.fz .none) o
theorem oP{f:Addr}(F:Ws K "ask_for_factors" (top 28) f fd)(T:Txt mg)(C:CalsAo P w K mg base):FnOk P w K mg base OX 3 f fd ["many","thing"] (dQ K VP):=by
 have S:=mP;refine bK F S (λcdv A outer s H E hr=>AQ<|qX (xH<|KJ (xX<|XQ<|QQ C.Kb hr.m<|wQ 1<|mQ 0)<|AZ<|xX<|XQ<|eX fV (lJ (K:=K) rfl rfl) T.Ql boot_all<|cQ<|EY ["factor"] [] (lX rfl<|wv 1)<|λ_ _ _ _=>rW gq HD (wn 0) pQ) (AQ LJ) KQ) ?_;rintro args Qd ⟨fs,rfl,hl,hf,q⟩;refine⟨tupD fs,fs.length,rfl,bJ fs,hl,λo=>?_⟩;rw[tJ];refine⟨by rw[B0];exact fQ hl,pJ (λd=>.bool<|decide<|1<=unI d) (λd hd N hN=>?_) ?_⟩
 .obtain⟨i,_,rfl⟩:=S0.mp hd;exact hN
 .refine⟨fs.map λi=>decide<|1<=i,by rw[v1,v1];rfl,?_⟩;have e2:((fs.map λi=>decide<|1<=i).all id)=true:=by
   rw[K2];intro b hb;obtain⟨i,hi,rfl⟩:=S0.mp hb;exact decide_eq_true<|hf i hi
  rw[e2];exact q _
noncomputable def xE:(Str->Option Value)->EX:=λmg args C=>∃(n:Int) (d:PyData),args=[.fz<|.int n,.fz d]/\RX d=true/\vE d/\C=cA mg "NoTurn"
theorem JM:FnScope ["many","thing"] ["many","thing"] (aQ<|top 27):={}
theorem NB{f:Addr}(F:Ws K "ask_for_ways" (top 27) f fd)(T:Txt mg)(L:Cls K mg)(C:CalsAo P w K mg base):FnOk P w K mg base (QZ P w) 3 f fd ["many","thing"] (nQ K<|xE mg):=by
 have S:=JM;refine YK (C:=cA mg "NoTurn") F S (λcdv A outer s H E hr=>tj (λ_ _ h=>h) (xH<|KJ (xX<|XQ<|eJ .tup rfl T.Qm T.Qn boot_tuple<|wn 1)<|AZ<|xX<|XQ<|QQ C.Kb hr.m<|wQ 1<|cQ<|MX T.Qc<|mQ 1) T.Xm L.XS) ?_ ?_
 .rintro args C' ⟨n,d,rfl,_⟩;rfl
 .rintro args C' ⟨n,d,rfl,hd,hb,rfl⟩;refine⟨rfl,IQ rfl,?_⟩;cases d with
  |dict es=>exact⟨hd,rfl,trivial⟩
  |int i=>exact⟨rfl,trivial⟩
  |bool b=>exact⟨rfl,trivial⟩
  |none=>exact⟨rfl,trivial⟩
  |str x=>exact⟨rfl,trivial⟩
  |list xs=>exact⟨rfl,trivial⟩
  |tuple xs =>
   obtain⟨h1,h2⟩:=hb xs rfl;refine⟨.tuple xs,xs.length,rfl,hd,h2,λo=>?_⟩;have e:rY xs.length (.tuple xs)=false:=by show (decide (xs.length=xs.length)&&xs.all UV)=false;rw[h1,X8]
   rw[e];exact⟨rfl,trivial⟩
noncomputable def yE:(Str->Option Value)->EX:=λmg args C=>∃(n:Int) (d:PyData),args=[.fz<|.int n,.fz d]/\0<=n/\n<=3/\wE n.toNat d/\C=cA mg "NoTurn"
theorem OB{f:Addr}(F:Ws K "ask_for_ways" (top 27) f fd)(T:Txt mg)(L:Cls K mg)(C:CalsAo P w K mg base):FnOk P w K mg base (QZ P w) 3 f fd ["many","thing"] (nQ K<|yE mg):=by
 have S:=JM;refine YK (C:=cA mg "NoTurn") F S (λcdv A outer s H E hr=>OJ (qX (xH<|KJ (xX<|XQ<|eJ .tup rfl T.Qm T.Qn boot_tuple<|wn 1)<|AZ<|xX<|XQ<|QQ C.Kb hr.m<|wQ 1<|cQ<|MX T.Qc<|mQ 1) (AQ LJ) KQ)<|tj (λ_ _ h=>h) (qJ hr (wn 1)<|wx<|DY T.Qn<|cQ<|Fj ["way"] [1] (zK T.Qt<|mQ 0) (λ_ _ _ _=>OL<|fE rfl (wn 0)<|wn 1)<|λ_ _ _ _=>wv 0) T.Xm L.XS) ?_ ?_
 .rintro args C' ⟨n,d,rfl,_⟩;rfl
 .rintro args C' ⟨n,d,rfl,n0,n1,⟨sm,rfl,hl,hne⟩,rfl⟩;refine⟨rfl,IQ rfl,?_⟩;refine⟨tupD sm,sm.length,?_,bJ sm,hl,λo=>?_⟩
  .show [Sl.fz<|tupD sm,Sl.fz<|.int ((sm.map p0).length:Nat)]=_;rw[B0]
  rw[tJ];refine⟨by lia,by lia,by rw[pX,B0,ZZ];exact fQ<|by lia,?_⟩;rw[pX];refine IL (λd=>decide<|unI d∈sm) id (λd hd R M hR hM=>?_) ?_
  .obtain⟨w',hw,rfl⟩:=S0.mp hd;exact⟨sm,rfl,UX (λh=>hR h)<|λh=>hM<|B5.mpr h⟩
  .have e:(((rng n).map p0).filter λd=>decide<|unI d∈sm).map id=((rng n).filter λw=>decide<|w∈sm).map p0:=by
    rw[v7,List.filter_map];rfl
   rw[e];rw[show ((n.toNat:Nat):Int)=n by lia]at hne;have hw:=MV sm;have hw2:=MV<|(rng n).filter λw=>decide<|w∈sm;refine⟨hw.p,hw2.p,hw.sh<|by decide,hw2.sh<|by decide,CZ _ _,?_⟩;have e2:same (tupD sm) (tupD<|(rng n).filter λw=>decide<|w∈sm)=false:=by show sameAll _ _=false;rw[oZ];exact decide_eq_false λz=>hne z.symm
   exact⟨(show (!same (tupD sm) (tupD<|(rng n).filter λw=>decide<|w∈sm))=true by rw[e2];rfl),trivial⟩
theorem Kv(n:Int):(rng n).Pairwise (·<=·):=by unfold rng;rw[Y3];exact L8.imp λh=>by lia
variable (P w K mg base) in
structure CalsAf:Prop where
 Kb:Cal P w K mg base 2 "are_wholes" ["thing","many"] (dQ K Uq)
def pS:Con:=λargs Q=>∃od:Qa,args=[.fz<|.int od.length,.fz<|tupD od]/\od.length<=3/\od.Perm (rng od.length)/\∀o,Q (.fz .none) o
theorem pP{f:Addr}(F:Ws K "ask_for_order" (top 26) f fd)(T:Txt mg)(C:CalsAf P w K mg base):FnOk P w K mg base OX 3 f fd ["many","thing"] (dQ K pS):=by have S:=kP;refine bK F S (λcdv A outer s H E hr=>AQ<|qX (xH<|KJ (xX<|XQ<|QQ C.Kb hr.m<|wQ 1<|mQ 0)<|AZ<|qJ hr (wx<|eX EV pY T.QT boot_sorted<|mQ 1)<|wx<|Vw rfl T.Qo T.Qt<|mQ 0) (AQ LJ) KQ) ?_;rintro args Qd ⟨od,rfl,hl,hp,q⟩;refine⟨tupD od,od.length,rfl,bJ od,by lia,λo=>?_⟩;rw[tJ];refine⟨od,rfl,by lia,λns' h1 h2=>?_⟩;have e:ns'=rng od.length:=List.Perm.eq_of_pairwise (λa b _ _ h1 h2=>by lia) h2 (Kv _)<|h1.trans hp;subst e;refine⟨⟨by decide,by decide,by lia,by lia⟩,by lia,?_⟩;rw[pX];have hw:=uZ<|rng od.length;refine⟨hw.p,hw.p,hw.sh<|by decide,hw.sh<|by decide,lY _ hw.p,?_⟩;refine UX (λh=>?_)<|λ_=>q _;have h:(!same (.list<|(rng od.length).map p0) (.list<|(rng od.length).map p0))=true:=h;rw[same_self]at h;cases h
def qS:Con:=λargs Q=>∃(n:Int) (sm:Qa),args=[.fz<|.int n,.fz<|tupD sm]/\0<=n/\n<=1000/\sm.length<=1000/\(rng n).filter (λw=>decide<|w∈sm)=sm/\∀o,Q (.fz .none) o
theorem qP{f:Addr}(F:Ws K "ask_for_ways" (top 27) f fd)(T:Txt mg)(C:CalsAf P w K mg base):FnOk P w K mg base OX 3 f fd ["many","thing"] (dQ K qS):=by
 have S:=JM;refine bK F S (λcdv A outer s H E hr=>bQ (qX (xH<|KJ (xX<|XQ<|AO .tup rfl T.Qm T.Qn boot_tuple<|wn 1)<|AZ<|xX<|XQ<|QQ C.Kb hr.m<|wQ 1<|cQ<|MX T.Qc<|mQ 1) (AQ LJ) KQ)<|AQ<|qX (qJ hr (wn 1)<|wx<|DY T.Qn<|cQ<|Fj ["way"] [1] (zK T.Qt<|mQ 0) (λ_ _ _ _=>OL<|fE rfl (wn 0)<|wn 1)<|λ_ _ _ _=>wv 0) (AQ LJ) KQ) ?_;rintro args Qd ⟨n,sm,rfl,n0,n1,hl,hf,q⟩;with_reducible refine iX (λρ=>ρ=[ZA<|.int n,ZA<|tupD sm]) ?_ ?_
 .intro N hN;refine⟨tupD sm,sm.length,?_,bJ sm,hl,λo=>?_⟩
  .show [Sl.fz<|tupD sm,Sl.fz<|.int ((sm.map p0).length:Nat)]=_;rw[B0]
  .rw[tJ];exact hN _ rfl
 rintro _ rfl;refine⟨by lia,by lia,by rw[pX,B0,ZZ];exact fQ<|by lia,?_⟩;rw[pX];refine IL (λd=>decide<|unI d∈sm) id (λd hd R M hR hM=>?_) ?_
 .obtain⟨w',hw,rfl⟩:=S0.mp hd;exact⟨sm,rfl,UX (λh=>hR h)<|λh=>hM<|B5.mpr h⟩
 .have e:(((rng n).map p0).filter λd=>decide<|unI d∈sm).map id=sm.map p0:=by
   rw[v7,List.filter_map]
   conv=>rhs;rw[<-hf]
   rfl
  rw[e];have hw:=MV sm;refine⟨hw.p,hw.p,hw.sh<|by decide,hw.sh<|by decide,lY _ hw.p,?_⟩;refine UX (λh=>?_)<|λ_=>q _;have h:(!same (tupD sm) (tupD sm))=true:=h;rw[same_self]at h;cases h
noncomputable def PB:(Str->Option Value)->EX:=λmg args C=>xE mg args C\/yE mg args C
theorem KM{f:Addr}(F:Ws K "ask_for_ways" (top 27) f fd)(T:Txt mg)(L:Cls K mg)(C:CalsAo P w K mg base):FnOk P w K mg base (QZ P w) 3 f fd ["many","thing"] (nQ K<|PB mg):=FnOk.orX (λ_ _ h=>h) (NB F T L C)<|OB F T L C
def HK(n:Nat)(d:PyData):Prop:=(RX d=true/\vE d)\/wE n d
theorem LM{mg:Str->Option Value}{d:PyData}(hn:n<=3)(h:HK n d):PB mg [.fz<|.int n,.fz d] (cA mg "NoTurn"):=by
 rcases h with⟨h1,h2⟩|h
 .exact .inl ⟨_,_,rfl,h1,h2,rfl⟩
 .exact .inr ⟨_,_,rfl,by lia,by lia,h,rfl⟩
theorem Wq{mg:Str->Option Value}{d:PyData}(hn:sd.length<=3)(h:HK sd.length d):PB mg [Sl.fz<|.int ((sd.map p0).length:Nat),Sl.fz d] (cA mg "NoTurn"):=by rw[B0];exact LM hn h
theorem IK(sd:Qa)(d:PyData):[Sl.fz<|.int ((sd.map p0).length:Nat),Sl.fz d]=[Sl.fz<|.int sd.length,.fz d]:=by rw[B0]
variable (P w K mg base) in
structure CalsXo:Prop where
 Kn:CalX P w K mg base 3 "ask_for_order" ["many","thing"] (nQ K<|jP mg)
variable (P w K mg base) in
structure CalsXy:Prop where
 Ko:CalX P w K mg base 3 "ask_for_ways" ["many","thing"] (nQ K<|PB mg)
variable (P w K mg base) in
structure CalsXf:Prop where
 Kp:CalX P w K mg base 3 "ask_for_factors" ["many","thing"] (nQ K<|lP mg)
variable (P w K mg base) in
structure CalsXb:Prop where
 Kr:CalX P w K mg base 5 "ask_for_box" ["sides","thing"] (nQ K<|IG mg)
noncomputable def QB:(Str->Option Value)->EX:=λmg args C=>∃(sd cl:Qa) (d:PyData),args=[.fz<|nX sd cl,.fz d]/\sd.length<=3/\(RX d=true/\iY sd.length d)/\C=cA mg "NoTurn"
theorem MM{f:Addr}(F:Ws K "exchanged" (top 31) f fd)(T:Txt mg)(L:Cls K mg)(C:CalsXo P w K mg base):FnOk P w K mg base (QZ P w) 4 f fd ["field","order"] (nQ K<|QB mg):=by
 have S:FnScope ["field","order","sides"] ["field","order"] (aQ<|top 31):={};refine YK (C:=cA mg "NoTurn") F S (λcdv A outer s H E hr=>OJ (CQ 2<|HX (wn 0) pQ)<|gJ<|fJ (λ_ _ h=>h) rfl C.Kn hr.m<|eQ (MX T.Qc<|mQ 2)<|mQ 1) ?_ ?_
 .rintro args C' ⟨sd,cl,d,rfl,_⟩;rfl
 .rintro args C' ⟨sd,cl,d,rfl,h3,hb,rfl⟩;refine⟨rfl,IQ rfl,?_⟩;exact⟨_,rfl,⟨sd.length,d,IK sd d,hb.1,h3,hb.2,rfl⟩,trivial⟩
noncomputable def RB:(Str->Option Value)->EX:=λmg args C=>∃(sd cl:Qa) (d:PyData),args=[.fz<|nX sd cl,.fz d]/\sd.length<=3/\HK sd.length d/\C=cA mg "NoTurn"
theorem NM{f:Addr}(F:Ws K "mirrored" (top 33) f fd)(T:Txt mg)(L:Cls K mg)(C:CalsXy P w K mg base):FnOk P w K mg base (QZ P w) 4 f fd ["field","some"] (nQ K<|RB mg):=by
 have S:FnScope ["field","some","sides"] ["field","some"] (aQ<|top 33):={};refine YK (C:=cA mg "NoTurn") F S (λcdv A outer s H E hr=>OJ (CQ 2<|HX (wn 0) pQ)<|gJ<|fJ (λ_ _ h=>h) rfl C.Ko hr.m<|eQ (MX T.Qc<|mQ 2)<|mQ 1) ?_ ?_
 .rintro args C' ⟨sd,cl,d,rfl,_⟩;rfl
 .rintro args C' ⟨sd,cl,d,rfl,h3,hb,rfl⟩;refine⟨rfl,IQ rfl,?_⟩;exact⟨_,rfl,Wq h3 hb,trivial⟩
noncomputable def SB:(Str->Option Value)->EX:=λmg args C=>∃(sd cl:Qa) (d:PyData),args=[.fz<|nX sd cl,.fz d]/\sd.length<=3/\(RX d=true/\NV sd.length d)/\C=cA mg "NoTurn"
theorem zE:FnScope ["field","factors","sides"] ["field","factors"] (aQ<|top 36):={}
theorem OM{f:Addr}(F:Ws K "stretched" (top 36) f fd)(T:Txt mg)(L:Cls K mg)(C:CalsXf P w K mg base):FnOk P w K mg base (QZ P w) 4 f fd ["field","factors"] (nQ K<|SB mg):=by
 have S:=zE;refine YK (C:=cA mg "NoTurn") F S (λcdv A outer s H E hr=>OJ (CQ 2<|HX (wn 0) pQ)<|gJ<|fJ (λ_ _ h=>h) rfl C.Kp hr.m<|eQ (MX T.Qc<|mQ 2)<|mQ 1) ?_ ?_
 .rintro args C' ⟨sd,cl,d,rfl,_⟩;rfl
 .rintro args C' ⟨sd,cl,d,rfl,h3,hb,rfl⟩;refine⟨rfl,IQ rfl,?_⟩;exact⟨_,rfl,⟨sd.length,d,IK sd d,hb.1,h3,hb.2,rfl⟩,trivial⟩
noncomputable def PM:(Str->Option Value)->EX:=λmg args C=>∃(sd cl:Qa) (d:PyData),args=[.fz<|nX sd cl,.fz d]/\sd.length<=3/\(RX d=true/\dZ sd d=false)/\C=cA mg "NoBox"
theorem QM{f:Addr}(F:Ws K "cut" (top 38) f fd)(T:Txt mg)(L:Cls K mg)(C:CalsXb P w K mg base):FnOk P w K mg base (QZ P w) 6 f fd ["field","box"] (nQ K<|PM mg):=by
 have S:FnScope ["field","box","low","sides"] ["field","box"] (aQ<|top 38):={};refine YK (C:=cA mg "NoBox") F S (λcdv A outer s H E hr=>gJ<|fJ (λ_ _ h=>h) rfl C.Kr hr.m<|eQ (HX (wn 0) pQ)<|mQ 1) ?_ ?_
 .rintro args C' ⟨sd,cl,d,rfl,_⟩;rfl
 .rintro args C' ⟨sd,cl,d,rfl,h3,hb,rfl⟩;refine⟨rfl,IQ rfl,?_⟩;exact⟨_,rfl,⟨sd,d,rfl,hb.1,by lia,hb.2,rfl⟩,trivial⟩
noncomputable def UB:(Str->Option Value)->EX:=λmg args C=>∃(sd:Qa) (b d:PyData),args=[.fz<|tupD sd,.fz b,.fz d]/\sd.length<=3/\(RX d=true/\iY sd.length d)/\C=cA mg "NoTurn"
theorem AE:FnScope ["sides","box","order"] ["sides","box","order"] (aQ<|top 39):={}
theorem RM{f:Addr}(F:Ws K "box_exchanged" (top 39) f fd)(T:Txt mg)(L:Cls K mg)(C:CalsXo P w K mg base):FnOk P w K mg base (QZ P w) 4 f fd ["sides","box","order"] (nQ K<|UB mg):=by
 have S:=AE;refine YK (C:=cA mg "NoTurn") F S (λcdv A outer s H E hr=>gJ<|fJ (λ_ _ h=>h) rfl C.Kn hr.m<|eQ (MX T.Qc<|mQ 0)<|mQ 2) ?_ ?_
 .rintro args C' ⟨sd,b,d,rfl,_⟩;rfl
 .rintro args C' ⟨sd,b,d,rfl,h3,hb,rfl⟩;refine⟨rfl,IQ rfl,?_⟩;exact⟨⟨sd.length,d,IK sd d,hb.1,h3,hb.2,rfl⟩,trivial⟩
noncomputable def VB:(Str->Option Value)->EX:=λmg args C=>∃(sd:Qa) (b d:PyData),args=[.fz<|tupD sd,.fz b,.fz d]/\sd.length<=3/\HK sd.length d/\C=cA mg "NoTurn"
theorem BE:FnScope ["sides","box","some","ends","pairs"] ["sides","box","some"] (aQ<|top 40):={}
theorem SM{f:Addr}(F:Ws K "box_mirrored" (top 40) f fd)(T:Txt mg)(L:Cls K mg)(C:CalsXy P w K mg base):FnOk P w K mg base (QZ P w) 4 f fd ["sides","box","some"] (nQ K<|VB mg):=by
 have S:=BE;refine YK (C:=cA mg "NoTurn") F S (λcdv A outer s H E hr=>gJ<|fJ (λ_ _ h=>h) rfl C.Ko hr.m<|eQ (MX T.Qc<|mQ 0)<|mQ 2) ?_ ?_
 .rintro args C' ⟨sd,b,d,rfl,_⟩;rfl
 .rintro args C' ⟨sd,b,d,rfl,h3,hb,rfl⟩;refine⟨rfl,IQ rfl,?_⟩;exact⟨Wq h3 hb,trivial⟩
noncomputable def WB:(Str->Option Value)->EX:=λmg args C=>∃(sd:Qa) (b d:PyData),args=[.fz<|tupD sd,.fz b,.fz d]/\sd.length<=3/\(RX d=true/\NV sd.length d)/\C=cA mg "NoTurn"
theorem EE:FnScope ["sides","box","factors","behind"] ["sides","box","factors"] (aQ<|top 41):={}
theorem TM{f:Addr}(F:Ws K "box_stretched" (top 41) f fd)(T:Txt mg)(L:Cls K mg)(C:CalsXf P w K mg base):FnOk P w K mg base (QZ P w) 4 f fd ["sides","box","factors"] (nQ K<|WB mg):=by
 have S:=EE;refine YK (C:=cA mg "NoTurn") F S (λcdv A outer s H E hr=>gJ<|fJ (λ_ _ h=>h) rfl C.Kp hr.m<|eQ (MX T.Qc<|mQ 0)<|mQ 2) ?_ ?_
 .rintro args C' ⟨sd,b,d,rfl,_⟩;rfl
 .rintro args C' ⟨sd,b,d,rfl,h3,hb,rfl⟩;refine⟨rfl,IQ rfl,?_⟩;exact⟨⟨sd.length,d,IK sd d,hb.1,h3,hb.2,rfl⟩,trivial⟩
def XB(n:Nat)(od:Qa):Prop:=od.length=n/\od.Perm (rng od.length)
def YB(n:Nat)(sm:Qa):Prop:=sm.length<=1000/\(rng n).filter (λw=>decide<|w∈sm)=sm
def Lv(n:Nat)(fs:Qa):Prop:=fs.length=n/\∀f∈fs,1<=f
variable (P w K mg base) in
structure CalsYo:Prop where
 Ks:Cal P w K mg base 3 "ask_for_order" ["many","thing"] (dQ K pS)
 Kr:CalX P w K mg base 5 "ask_for_box" ["sides","thing"] (nQ K<|IG mg)
variable (P w K mg base) in
structure CalsYy:Prop where
 Kt:Cal P w K mg base 3 "ask_for_ways" ["many","thing"] (dQ K qS)
 Kr:CalX P w K mg base 5 "ask_for_box" ["sides","thing"] (nQ K<|IG mg)
variable (P w K mg base) in
structure CalsYf:Prop where
 KA:Cal P w K mg base 3 "ask_for_factors" ["many","thing"] (dQ K VP)
 Kr:CalX P w K mg base 5 "ask_for_box" ["sides","thing"] (nQ K<|IG mg)
noncomputable def Xq:(Str->Option Value)->EX:=λmg args C=>∃(sd gs:Qa) (b:PyData),args=[.fz<|tupD sd,.fz b,.fz<|tupD gs]/\sd.length<=3/\XB sd.length gs/\RX b=true/\dZ sd b=false/\C=cA mg "NoBox"
theorem ZB{f:Addr}(F:Ws K "box_exchanged" (top 39) f fd)(T:Txt mg)(L:Cls K mg)(C:CalsYo P w K mg base):FnOk P w K mg base (QZ P w) 6 f fd ["sides","box","order"] (nQ K<|Xq mg):=by
 have S:=AE;refine YK (C:=cA mg "NoBox") F S (λcdv A outer s H E hr=>OJ (tX<|QQ C.Ks hr.m<|eQ (MX T.Qc<|mQ 0)<|mQ 2)<|gJ<|fJ (λ_ _ h=>h) rfl C.Kr hr.m<|wQ 0<|mQ 1) ?_ ?_
 .rintro args C' ⟨sd,gs,b,rfl,_⟩;rfl
 .rintro args C' ⟨sd,gs,b,rfl,h3,hg,hb1,hb2,rfl⟩;refine⟨rfl,IQ rfl,?_⟩;refine⟨gs,by rw[hg.1];exact IK sd _,by have:=hg.1;lia,hg.2,λo=>?_⟩;exact⟨⟨sd,b,rfl,hb1,by lia,hb2,rfl⟩,trivial⟩
noncomputable def Yq:(Str->Option Value)->EX:=λmg args C=>∃(sd gs:Qa) (b:PyData),args=[.fz<|tupD sd,.fz b,.fz<|tupD gs]/\sd.length<=3/\YB sd.length gs/\RX b=true/\dZ sd b=false/\C=cA mg "NoBox"
theorem aC{f:Addr}(F:Ws K "box_mirrored" (top 40) f fd)(T:Txt mg)(L:Cls K mg)(C:CalsYy P w K mg base):FnOk P w K mg base (QZ P w) 6 f fd ["sides","box","some"] (nQ K<|Yq mg):=by
 have S:=BE;refine YK (C:=cA mg "NoBox") F S (λcdv A outer s H E hr=>OJ (tX<|QQ C.Kt hr.m<|eQ (MX T.Qc<|mQ 0)<|mQ 2)<|gJ<|fJ (λ_ _ h=>h) rfl C.Kr hr.m<|wQ 0<|mQ 1) ?_ ?_
 .rintro args C' ⟨sd,gs,b,rfl,_⟩;rfl
 .rintro args C' ⟨sd,gs,b,rfl,h3,hg,hb1,hb2,rfl⟩;refine⟨rfl,IQ rfl,?_⟩;refine⟨sd.length,gs,IK sd _,by lia,by lia,hg.1,hg.2,λo=>?_⟩;exact⟨⟨sd,b,rfl,hb1,by lia,hb2,rfl⟩,trivial⟩
noncomputable def Zq:(Str->Option Value)->EX:=λmg args C=>∃(sd gs:Qa) (b:PyData),args=[.fz<|tupD sd,.fz b,.fz<|tupD gs]/\sd.length<=3/\Lv sd.length gs/\RX b=true/\dZ sd b=false/\C=cA mg "NoBox"
theorem bC{f:Addr}(F:Ws K "box_stretched" (top 41) f fd)(T:Txt mg)(L:Cls K mg)(C:CalsYf P w K mg base):FnOk P w K mg base (QZ P w) 6 f fd ["sides","box","factors"] (nQ K<|Zq mg):=by
 have S:=EE;refine YK (C:=cA mg "NoBox") F S (λcdv A outer s H E hr=>OJ (tX<|QQ C.KA hr.m<|eQ (MX T.Qc<|mQ 0)<|mQ 2)<|gJ<|fJ (λ_ _ h=>h) rfl C.Kr hr.m<|wQ 0<|mQ 1) ?_ ?_
 .rintro args C' ⟨sd,gs,b,rfl,_⟩;rfl
 .rintro args C' ⟨sd,gs,b,rfl,h3,hg,hb1,hb2,rfl⟩;refine⟨rfl,IQ rfl,?_⟩;refine⟨gs,by rw[hg.1];exact IK sd _,by have:=hg.1;lia,hg.2,λo=>?_⟩;exact⟨⟨sd,b,rfl,hb1,by lia,hb2,rfl⟩,trivial⟩
noncomputable def NX(xs fs:Qa):Qa:=(xs.zip fs).map λp=>p.1*p.2
noncomputable def cC(xs fs:Qa):Qa:=(xs.zip fs).map λp=>p.1 / p.2
noncomputable def rP(f:Int->Int->Int):PyData->PyData
 | .tuple [.int a,.int b]=>.int<|f a b
 |_=>.none
theorem az(f:Int->Int->Int)(xs fs:Qa):(aK (xs.map p0)<|fs.map p0).map (rP f)=((xs.zip fs).map λp=>f p.1 p.2).map p0:=by rw[uX,v1,v1];rfl
theorem UM{xs fs:Qa}{d:PyData}(h:d∈aK (xs.map p0) (fs.map p0)):∃a∈xs,∃b∈fs,d=.tuple [.int a,.int b]:=by rw[uX]at h;obtain⟨u,hu,rfl⟩:=S0.mp h;exact⟨u.1,(u5 hu).1,u.2,(u5 hu).2,rfl⟩
noncomputable def sP:PyData->Qa
 | .tuple ds=>ds.map unI
 |_=>[]
theorem bz(p:Qa):sP (tupD p)=p:=by show (p.map p0).map unI=p;rw[v1];exact v7 p
noncomputable def JK:Int->Qa->Prop
 |_,[]=>True
 |t,a::l=>IntMulOk t a/\JK (t*a) l
theorem GZ:∀{t:Int}{l:Qa},(∀c∈l,1<=c/\c<2 ^ 64)->JK t l
 |_,[],_=>trivial
 |t,a::l,h=>by have ha:=h a L0;exact⟨.of_right<|intBits_le_64 (by lia) ha.2,GZ λc hc=>h c<|K0 _ hc⟩
theorem Mv:∀{p sd fs:Qa},Wi p (NX sd fs)->fs.length=sd.length->(∀f∈fs,1<=f)->Wi (cC p fs) sd
 |[],[],[],_,_,_=>trivial
 |x::p,s::sd,f::fs,h,hl,hf=>by have h1:0<=x/\x<s*f:=h.1;have hf1:=hf f (by simp);refine⟨⟨T8 h1.1<|by lia,Int.ediv_lt_of_lt_mul (by lia) h1.2⟩,Mv (p:=p) h.2 (by simpa using hl) λf hf'=>hf f<|by simp[hf']⟩
 |[],_::_,_::_,h,_,_=>h.elim
 |_::_,[],[],h,_,_=>h.elim
 |_,[],_::_,_,hl,_=>by simp at hl
 |_,_::_,[],_,hl,_=>by simp at hl
def wD:Con:=λargs Q=>∃(A:PyData) (xs fs:Qa),args=[.fz A,.fz<|tupD fs]/\(A=tupD xs\/A=.list (xs.map p0))/\xs.length<=1000/\(∀x∈xs,0<=x/\x<2 ^ 64)/\∀o,Q (.fz<|tupD<|NX xs fs) o
theorem Nv{f:Addr}(F:Ws K "times" (top 34) f fd)(T:Txt mg):FnOk P w K mg base OX 1 f fd ["numbers","factors"] (dQ K wD):=by
 have S:FnScope ["numbers","factors"] ["numbers","factors"] (aQ<|top 34):={};refine bK F S (λcdv A outer s H E hr=>RQ<|DY T.Qn<|cQ<|jv ["number","factor"] [] (AK rfl T.QS<|wQ 0<|mQ 1) (λ_ _ _ _=>yK rfl rfl<|JQ (rX 0)<|JQ (rX 1) OZ)<|λ_ _ _ _=>eU (wn 0)<|wn 1) ?_;rintro args Qd ⟨A,xs,fs,rfl,hA,hl,hx,q⟩;have hz:(aK (xs.map p0)<|fs.map p0).length<=sizeLine:=by rw[uX,B0,S4];exact fQ (by lia)
 have go:∀{R:Sl->Prop},R (.fz<|tupD<|NX xs fs)->R (.fz<|.tuple<|(aK (xs.map p0)<|fs.map p0).map<|rP λa b=>a*b):=λ{R} h=>by rw[az];exact h
 rcases hA with rfl|rfl
 .refine⟨hz,pJ (rP λa b=>a*b) (λd hd N hN=>?_)<|go (R:=λr=>Qd r _)<|q _⟩;obtain⟨a,ha,b,hb,rfl⟩:=UM hd;have:=hx a ha;exact⟨rfl,.inl ⟨by lia,by lia⟩,hN⟩
 .refine⟨hz,pJ (rP λa b=>a*b) (λd hd N hN=>?_)<|go (R:=λr=>Qd r _)<|q _⟩;obtain⟨a,ha,b,hb,rfl⟩:=UM hd;have:=hx a ha;exact⟨rfl,.inl ⟨by lia,by lia⟩,hN⟩
def eC:Con:=λargs Q=>∃xs fs:Qa,args=[.fz<|tupD xs,.fz<|tupD fs]/\xs.length<=1000/\(∀f∈fs,1<=f/\f<=1000)/\∀o,Q (.fz<|tupD<|cC xs fs) o
theorem VM{f:Addr}(F:Ws K "place_shrunk" (top 35) f fd)(T:Txt mg):FnOk P w K mg base OX 1 f fd ["place","factors"] (dQ K eC):=by
 have S:FnScope ["place","factors"] ["place","factors"] (aQ<|top 35):={};refine bK F S (λcdv A outer s H E hr=>RQ<|DY T.Qn<|cQ<|jv ["number","factor"] [] (AK rfl T.QS<|wQ 0<|mQ 1) (λ_ _ _ _=>yK rfl rfl<|JQ (rX 0)<|JQ (rX 1) OZ)<|λ_ _ _ _=>DQ SK LK (wn 0)<|wn 1) ?_;rintro args Qd ⟨xs,fs,rfl,hl,hf,q⟩;have hz:(aK (xs.map p0)<|fs.map p0).length<=sizeLine:=by rw[uX,B0,S4];exact fQ (by lia)
 refine⟨hz,pJ (rP λa b=>a / b) (λd hd N hN=>?_) ?_⟩
 .obtain⟨a,ha,b,hb,rfl⟩:=UM hd;have:=hf b hb;exact⟨rfl,⟨by lia,by lia⟩,hN⟩
 .rw[az];exact q _
def Ov:Con:=λargs Q=>∃sd:Qa,args=[.fz<|tupD sd]/\JK 1 sd/\∀o,Q (.fz<|.int<|prodI sd) o
theorem gC{f:Addr}(F:Ws K "product" (top 12) f fd):FnOk P w K mg base OX 1 f fd ["numbers"] (dQ K Ov):=by
 have S:FnScope ["numbers","result","number"] ["numbers"] (aQ<|top 12):={};refine bK F S (λcdv A outer s H E hr=>bQ (CQ 1 gQ)<|bQ (SJ [2] (lX rfl<|wv 0) (rX 2)<|AQ<|CQ 1<|DQ iB gB (wn 1)<|wn 2)<|cv 1) ?_;rintro args Qd ⟨sd,rfl,hb,q⟩;refine bZ (λrest ρ=>∃(t:Int) (rs:Qa),ρ=[ZA<|tupD sd,ZA<|.int t,none]/\rest=rs.map p0/\JK t rs/\t*prodI rs=prodI sd) ?_ ?_
  ⟨1,sd,rfl,rfl,hb,by rw[y7]⟩
 .rintro d ds ρ ⟨t,rs,rfl,er,hin,hp⟩ N hN;cases rs with
  |nil=>cases er
  |cons a rs=>cases er;exact⟨hin.1,hN _ ⟨t*a,rs,rfl,rfl,hin.2,by rw[w6];exact hp⟩⟩
 .rintro ρ ⟨t,rs,rfl,er,hin,hp⟩;cases rs with
  |nil =>
   have hp:t=prodI sd:=by rw[<-hp];show t=t*1;lia
   subst hp;exact q _
  |cons _ _=>cases er
noncomputable def jC(x:Str):Option TD:=if x = "stretched" then some (oW eC [.inl 0,.inl 1]) else none
variable (P w K mg base) in
structure CalsLa:Prop where
 KS:Cal P w K mg base 1 "place_shrunk" ["place","factors"] (dQ K eC)
structure LamF(K:G0):Prop where
 Ya:uU K "stretched"=Zy (cX<|top 36)
theorem kC(M:LamF K)(C:CalsLa P w K mg base):LamK P w K mg base 1 "stretched" (oW eC [.inl 0,.inl 1]):=by refine⟨"place",["factors"],_,_,_,M.Ya.trans rfl,rfl,.inl ⟨rfl,rfl,rfl,by decide +kernel,rfl,by decide +kernel,by decide +kernel,by decide⟩,λcl pm ctv c u=>rfl,λcl f c A outer s H hr=>(QQ C.KS hr.m<|dX (wn 0)<|dX (wn 1) VQ)⟩
theorem WM(M:LamF K)(C:CalsLa P w K mg base):VOk P w K mg base 2 (dQ K<|bM jC):=HR λx tb h=>by
 unfold jC at h;split at h
 .rename_i e;cases h;rw[e];exact kC M C
 .cases h
variable (P w K mg base) in
structure CalsFf:Prop where
 Yb:Cal P w K mg base 1 "product" ["numbers"] (dQ K Ov)
 Yc:Cal P w K mg base 3 "all_places" ["sides"] (dQ K LV)
 Yd:Cal P w K mg base 2 "cell_at" ["field","place"] (dQ K oS)
 vok:VOk P w K mg base 2 (dQ K<|bM jC)
def rS:Con:=λargs Q=>∃(sd cl sd2:Qa) (x:Str) (es:List PyData) (g:Qa->Qa),args=[.fz<|nX sd cl,.fz<|tupD sd2,.fz<|mF x es]/\Sd sd/\cl.length=(iW sd).length/\Sd sd2/\noMutAll es=true /\
 (∀p∈iW sd2,Wi (g p) sd/\∃tb,jC x=some tb/\∀R:Sl->Prop,R (.fz<|tupD<|g p)->tb (((tupD p::es).map Sl.fz).map some) λr _=>R r)/\∀o,Q (.fz<|nX sd2<|(iW sd2).map λp=>IB sd cl<|g p) o
theorem uP:FnScope ["field","sides","source"] ["field","sides","source"] (aQ<|top 29):={}
theorem vP{f:Addr}(F:Ws K "field_from" (top 29) f fd)(T:Txt mg)(C:CalsFf P w K mg base):FnOk P w K mg base OX 4 f fd ["field","sides","source"] (dQ K rS):=by
 have S:=uP;refine bK F S (λcdv A outer s H E hr=>bQ (qX (jZ xU lU (wx<|QQ C.Yb hr.m<|mQ 1)<|wx<|Yk T.Qb) (AQ LJ) KQ)<|RQ<|jQ<|eQ (wv 1)<|cQ<|DY T.Qn<|cQ<|EY ["place"] [0,2] (lX rfl<|QQ C.Yc hr.m<|mQ 1)<|λ_ _ _ _=>QQ C.Yd hr.m<|wQ 1<|cQ<|X9 C.vok hr.m (wn 2)<|mQ 0) ?_;rintro args Qd ⟨sd,cl,sd2,x,es,g,rfl,hsd,hcl,hsd2,hes,hg,q⟩;have h3:=hsd2.l3;have hm:=hsd2.m;have hpl:=aJ hsd2.p;have hs2:∀c∈sd2,0<=c/\c<2 ^ 60:=λc hc=>by
  have:=hsd2.p c hc;have:=nZ hsd2.p c hc
  lia
 with_reducible refine iX (λρ=>ρ=[ZA<|nX sd cl,ZA<|tupD sd2,ZA<|mF x es]) ?_ ?_
 .intro N hN;refine⟨sd2,rfl,GZ λc hc=>⟨hsd2.p c hc,by have:=hs2 c hc;lia⟩,λo=>?_⟩;refine UX (λh=>?_)<|λh=>hN _ rfl;have h:decide ((120:Int)<prodI sd2)=true:=h;have:=of_decide_eq_true h
  lia
 rintro _ rfl;refine⟨sd2,rfl,hsd2,λo=>?_⟩;refine⟨by rw[B0];exact fQ<|by lia,pJ (λd=>.int<|IB sd cl<|g<|sP d) (λd hd N hN=>?_) ?_⟩
 .obtain⟨p,hp,rfl⟩:=S0.mp hd;obtain⟨hw,tb,ht,htb⟩:=hg p hp;have e:sP (tupD p)=p:=bz p;rw[e]at hN;refine⟨x,es,tupD p,tb,rfl,ht,oX p,hes,htb (λr=>noMut r.d=true/\∀o,_) ⟨oX<|g p,λo=>?_⟩⟩;exact⟨sd,cl,g p,rfl,hsd,hcl,hw,λo=>hN⟩
 .have e:((iW sd2).map tupD).map (λd=>p0<|IB sd cl<|g<|sP d)=((iW sd2).map λp=>IB sd cl<|g p).map p0:=by
   rw[v1,v1];refine i4 λp _=>?_;show p0 (IB sd cl<|g<|sP<|tupD p)=_;rw[bz];rfl
  rw[e];exact q _
variable (P w K mg base) in
structure CalsStr:Prop where
 KA:Cal P w K mg base 3 "ask_for_factors" ["many","thing"] (dQ K VP)
 Ye:Cal P w K mg base 1 "times" ["numbers","factors"] (dQ K wD)
 Yf:Cal P w K mg base 4 "field_from" ["field","sides","source"] (dQ K rS)
def lC:Con:=λargs Q=>∃sd cl fs:Qa,args=[.fz<|nX sd cl,.fz<|tupD fs]/\Sd sd/\cl.length=(iW sd).length/\fs.length=sd.length/\(∀f∈fs,1<=f/\f<=1000)/\Sd (NX sd fs)/\∀o,Q (.fz<|nX (NX sd fs)<|(iW<|NX sd fs).map λp=>IB sd cl<|cC p fs) o
theorem XM{f:Addr}(F:Ws K "stretched" (top 36) f fd)(T:Txt mg)(C:CalsStr P w K mg base)(N:LamF K)(M:Lm K "stretched" fd):FnOk P w K mg base OX 5 f fd ["field","factors"] (dQ K lC):=by
 have S:FnScope ["field","factors","sides"] ["field","factors"] (aQ<|top 36):={};have hL:=N.Ya;obtain⟨c,Pt,hcd,hC,hP,hPx⟩:=M.ex;refine GR F hcd S (λA outer s H E hr=>(bQ (zs 2 S.nd<|JL rfl (wn 0)<|wx gQ)
     (bQ (tX<|QQ C.KA hr.m<|dX (wx<|eX rF (UY (K:=K) rfl) T.Qc PySem.boot_len<|dX (wn 2) VQ)<|dX (wn 1) VQ)
     (AQ<|TC<|Y9 (x:="stretched") (z:="factors") (i:=1) (cz:=s.heap.objs.size+1) rfl C.Yf hr.m (wn 0) (wx<|QQ C.Ye hr.m<|dX (wn 2)<|dX (wn 1) VQ) rfl (show (Str.ofString "stretched"++Str.ofString ".<locals>.")++Str.ofString "<lambda>"=Str.ofString "stretched"++Str.ofString ".<locals>.<lambda>" from by decide +kernel) hC hP hPx hL)))) ?_;rintro args Qd ⟨sd,cl,fs,rfl,hsd,hcl,hfl,hf,hsd2,q⟩;have h3:=hsd.l3;have hm:=hsd.m;have hs:∀x∈sd,0<=x/\x<2 ^ 64:=λc hc=>by
  have:=hsd.p c hc;have:=nZ hsd.p c hc
  lia
 with_reducible refine iX (λρ=>ρ=[ZA<|nX sd cl,ZA<|tupD fs,ZA<|tupD sd]) ?_ ?_
 .intro N hN;exact⟨_,rfl,hN _ rfl⟩
 rintro _ rfl;with_reducible refine iX (λρ=>ρ=[ZA<|nX sd cl,ZA<|tupD fs,ZA<|tupD sd]) ?_ ?_
 .intro N hN;refine⟨fs,?_,by lia,λf hf'=>(hf f hf').1,λo=>hN _ rfl⟩;show [Sl.fz<|.int ((sd.map p0).length:Nat),Sl.fz<|tupD fs]=_;rw[B0,<-hfl]
 rintro _ rfl;refine⟨[tupD fs],rfl,?_⟩;refine⟨tupD sd,sd,fs,rfl,.inl rfl,by lia,hs,λo=>?_⟩;refine⟨rfl,sd,cl,NX sd fs,"stretched",[tupD fs],λp=>cC p fs,rfl,hsd,hcl,hsd2,by show (noMut (tupD fs)&&true)=true;rw[Bool.and_true];exact oX fs,λp hp=>?_,λo=>⟨?_,q _⟩⟩
 .refine⟨Mv (GV hp) hfl λf hf'=>(hf f hf').1,_,rfl,λR hR=>?_⟩;have hpl:=HV<|GV hp;have hml:(NX sd fs).length=sd.length:=by unfold NX;rw[B0,S4,hfl,Nat.min_self]
  exact⟨p,fs,rfl,by lia,hf,λo=>hR⟩
 .show (noMut (tupD<|NX sd fs)&&(noMut (tupD _)&&true))=true;rw[show noMut (tupD<|NX sd fs)=true from oX _,show ∀l:Qa,noMut (tupD l)=true from λl=>oX l];rfl
variable (P w K mg base) in
structure CalsFx:Prop where
 Yb:Cal P w K mg base 1 "product" ["numbers"] (dQ K Ov)
noncomputable def wP:(Str->Option Value)->EX:=λmg args C=>∃(sd cl sd2:Qa) (f:Addr),args=[.fz<|nX sd cl,.fz<|tupD sd2,.fz<|nW f]/\JK 1 sd2/\120<prodI sd2/\C=cA mg "NoField"
theorem YM{f:Addr}(F:Ws K "field_from" (top 29) f fd)(T:Txt mg)(L:Cls K mg)(C:CalsFx P w K mg base):FnOk P w K mg base (QZ P w) 4 f fd ["field","sides","source"] (nQ K<|wP mg):=by
 have S:=uP;refine YK (C:=cA mg "NoField") F S (λcdv A outer s H E hr=>tj (λ_ _ h=>h) (jZ xU lU (wx<|QQ C.Yb hr.m<|mQ 1)<|wx<|Yk T.Qb) T.Xi L.Za) ?_ ?_
 .rintro args C' ⟨sd,cl,sd2,g,rfl,_⟩;rfl
 .rintro args C' ⟨sd,cl,sd2,g,rfl,hp,hm,rfl⟩;refine⟨rfl,IQ rfl,?_⟩;refine⟨sd2,rfl,hp,λo=>?_⟩;exact⟨decide_eq_true hm,trivial⟩
variable (P w K mg base) in
structure CalsSf:Prop where
 KA:Cal P w K mg base 3 "ask_for_factors" ["many","thing"] (dQ K VP)
 Ye:Cal P w K mg base 1 "times" ["numbers","factors"] (dQ K wD)
 Yg:CalX P w K mg base 4 "field_from" ["field","sides","source"] (nQ K<|wP mg)
noncomputable def dz:(Str->Option Value)->EX:=λmg args C=>∃(sd cl fs:Qa),args=[.fz<|nX sd cl,.fz<|tupD fs]/\Sd sd/\Lv sd.length fs/\JK 1 (NX sd fs)/\120<prodI (NX sd fs)/\C=cA mg "NoField"
theorem mC{f:Addr}(F:Ws K "stretched" (top 36) f fd)(T:Txt mg)(L:Cls K mg)(C:CalsSf P w K mg base)(M:Lm K "stretched" fd):FnOk P w K mg base (QZ P w) 5 f fd ["field","factors"] (nQ K<|dz mg):=by
 have S:=zE;obtain⟨c,Pt,hcd,hC,hP,hPx⟩:=M.ex;refine WO (C:=cA mg "NoField") F hcd S (λA outer s H E hr=>(OJ (zs 2 S.nd<|JL rfl (wn 0)<|wx gQ)
     (OJ (tX<|QQ C.KA hr.m<|dX (wx<|eX rF (UY (K:=K) rfl) T.Qc PySem.boot_len<|dX (wn 2) VQ)<|dX (wn 1) VQ)
     (SO<|lB (x:="stretched") (cl:=[("factors",s.heap.objs.size+1)]) (λ_ _ h=>h) rfl C.Yg hr.m (wn 0) (wx<|QQ C.Ye hr.m<|dX (wn 2)<|dX (wn 1) VQ) rfl (show (Str.ofString "stretched"++Str.ofString ".<locals>.")++Str.ofString "<lambda>"=Str.ofString "stretched"++Str.ofString ".<locals>.<lambda>" from by decide +kernel) hC hP hPx)))) ?_ ?_
 .rintro args C' ⟨sd,cl,fs,rfl,_⟩;rfl
 .rintro args C' ⟨sd,cl,fs,rfl,hsd,hg,hp,hm,rfl⟩;refine⟨rfl,IQ rfl,?_⟩;have h3:=hsd.l3;have hs:∀x∈sd,0<=x/\x<2 ^ 64:=λc hc=>by
   have:=hsd.p c hc;have:=nZ hsd.p c hc;have:=hsd.m
   lia
  refine⟨_,rfl,fs,by rw[hg.1];exact IK sd _,by have:=hg.1;lia,hg.2,λo=>?_⟩;refine⟨tupD sd,sd,fs,rfl,.inl rfl,by lia,hs,λo=>?_⟩;exact⟨rfl,λf=>⟨sd,cl,NX sd fs,f,rfl,hp,hm,rfl⟩,trivial⟩
def Wd(c x:Str):Prop:=(c = "NoBox"/\x = "box")\/(c = "NoTurn"/\x = "turn")\/(c = "NoField"/\x = "field")
noncomputable def gz:(Str->Option Value)->Con:=λmg args Q=>∃c x:Str,args=[.fz<|Lz<|cA mg c]/\Wd c x/\∀o,Q (.fz<|.str x) o
theorem oC{f:Addr}(F:Ws K "_law_word" (top 56) f fd)(T:Txt mg)(L:Cls K mg):FnOk P w K mg base OX 1 f fd ["_law_caught"] (dQ K<|gz mg):=by
 have S:FnScope ["_law_caught","_law_found"] ["_law_caught"] (aQ<|top 56):={};refine bK F S (λcdv A outer s H E hr=>bQ (CQ 1<|HQ VQ)<|bQ (qX (XQ<|Gw rfl T.Qm T.Xi<|wn 0) (AQ<|tX<|Pj BX rfl PySem.F.slot_list_append PySem.F.type_list_append AX (wn 1)<|cQ GQ) KQ)<|bQ (qX (XQ<|Gw rfl T.Qm T.Xl<|wn 0) (AQ<|tX<|Pj BX rfl PySem.F.slot_list_append PySem.F.type_list_append AX (wn 1)<|cQ GQ) KQ)<|bQ (qX (XQ<|Gw rfl T.Qm T.Xm<|wn 0) (AQ<|tX<|Pj BX rfl PySem.F.slot_list_append PySem.F.type_list_append AX (wn 1)<|cQ GQ) KQ)<|bQ (qX (XQ<|mM rfl T.Qm (EW T.Xn<|EW T.Xo<|EW T.Xp<|EW T.Xr kM)<|wn 0) (AQ<|tX<|Pj BX rfl PySem.F.slot_list_append PySem.F.type_list_append AX (wn 1)<|cQ GQ) KQ)<|bQ (qX (xH<|KJ (qJ hr (wx<|MX T.Qc<|mQ 1) pQ)<|AZ<|xX<|XQ<|lM rfl T.Qm T.Xg<|wn 0) (RQ GQ) KQ)<|RQ<|HX (wn 1) pQ) ?_;rintro args Qd ⟨c,x,rfl,hw,q⟩;rcases hw with⟨rfl,rfl⟩|⟨rfl,rfl⟩|⟨rfl,rfl⟩
 .refine⟨_,rfl,L.XA,L.Zc,?_⟩;rw[L.Zm];refine⟨_,rfl,L.XA,L.Zd,?_⟩;rw[L.Zn];refine⟨by decide,?_⟩;refine⟨_,rfl,L.XA,L.Ze,?_⟩;rw[L.Zo];refine⟨by show 4<=1000;decide,_,rfl,L.XA,λB hB=>?_,?_⟩
  .simp only[P0,O1,or_false]at hB;rcases hB with rfl|rfl|rfl|rfl
   .exact L.Zf
   .exact L.Zg
   .exact L.Zh
   .exact L.Zi
  have e:[cA mg "NoNumber",cA mg "NoText",cA mg "NoRow",cA mg "NoBack"].any (sQ K<|cA mg "NoBox")=false:=by simp only[v4,Q9,L.Zp,L.Zr,L.Zs,L.Zt,b8]
  rw[e];refine⟨_,rfl,L.XA,?_⟩;exact⟨_,rfl,q _⟩
 .refine⟨_,rfl,L.XT,L.Zc,?_⟩;rw[L.ZT];refine⟨_,rfl,L.XT,L.Zd,?_⟩;rw[L.Ja];refine⟨_,rfl,L.XT,L.Ze,?_⟩;rw[L.Jb];refine⟨by decide,?_⟩;refine⟨by show 4<=1000;decide,_,rfl,L.XT,λB hB=>?_,?_⟩
  .simp only[P0,O1,or_false]at hB;rcases hB with rfl|rfl|rfl|rfl
   .exact L.Zf
   .exact L.Zg
   .exact L.Zh
   .exact L.Zi
  have e:[cA mg "NoNumber",cA mg "NoText",cA mg "NoRow",cA mg "NoBack"].any (sQ K<|cA mg "NoTurn")=false:=by simp only[v4,Q9,L.Jc,L.Jd,L.Je,L.Jf,b8]
  rw[e];refine⟨_,rfl,L.XT,?_⟩;exact⟨_,rfl,q _⟩
 .refine⟨_,rfl,L.Zb,L.Zc,?_⟩;rw[L.Jh];refine⟨by decide,?_⟩;refine⟨_,rfl,L.Zb,L.Zd,?_⟩;rw[L.Ji];refine⟨_,rfl,L.Zb,L.Ze,?_⟩;rw[L.Jl];refine⟨by show 4<=1000;decide,_,rfl,L.Zb,λB hB=>?_,?_⟩
  .simp only[P0,O1,or_false]at hB;rcases hB with rfl|rfl|rfl|rfl
   .exact L.Zf
   .exact L.Zg
   .exact L.Zh
   .exact L.Zi
  have e:[cA mg "NoNumber",cA mg "NoText",cA mg "NoRow",cA mg "NoBack"].any (sQ K<|cA mg "NoField")=false:=by simp only[v4,Q9,L.Jm,L.Jn,L.Jo,L.Jp,b8]
  rw[e];refine⟨_,rfl,L.Zb,?_⟩;exact⟨_,rfl,q _⟩
noncomputable def ZM(ns ms:Qa):PyData->Bool
 | .int k=>match gK ns k,gK ms k with
  |some x,some y=>decide<|y<x
  |_,_=>false
 |_=>false
theorem iz:∀{ns ms:Qa},ns.length=ms.length->(Rj ns ms=true ↔ ∀(i:Nat) (x y:Int),ns[i]?=some x->ms[i]?=some y->x<=y)
 |[],[],_=>by simp[Rj]
 |[],_::_,h=>by simp at h
 |_::_,[],h=>by simp at h
 |n::ns,m::ms,h=>by
  have ih:=iz (ns:=ns) (ms:=ms) (by simpa using h);have e:Rj (n::ns) (m::ms)=(decide (n<=m)&&Rj ns ms):=by simp[Rj]
  rw[e,A2,ih,decide_eq_true_eq];constructor
  .rintro⟨h1,h2⟩ i x y hx hy;cases i with
   |zero=>simp at hx hy;lia
   |succ i=>exact h2 i x y (by simpa using hx) (by simpa using hy)
  .intro h3;exact⟨h3 0 n m rfl rfl,λi x y hx hy=>h3 (i+1) x y (by simpa using hx)<|by simpa using hy⟩
theorem pC{ns ms:Qa}(h:ns.length=ms.length):same (.list<|((BQ 0 ns.length).filter<|ZM ns ms).map id) (.list [])=Rj ns ms:=by
 have key:Rj ns ms=true↔(BQ 0 ns.length).filter (ZM ns ms)=[]:=by
  rw[iz h,List.filter_eq_nil_iff];constructor
  .intro h1 d hd;obtain⟨i,hi,rfl⟩:=S0.mp hd;have hi:=E4.mp hi;have e1:gK ns ((0:Int)+i)=ns[i]?:=by
    rw[N6];exact(eZ<|R0 hi).trans (R0 hi).symm
   have e2:gK ms ((0:Int)+i)=ms[i]?:=by rw[N6];exact(eZ<|R0<|by lia).trans (R0<|by lia).symm
   show ¬(match gK ns ((0:Int)+i),gK ms ((0:Int)+i) with|some x,some y=>decide (y<x)|_,_=>false)=true;rw[e1,e2,R0 hi,R0<|show i<ms.length by lia];have:=h1 i _ _ (R0 hi) (R0<|show i<ms.length by lia);simp
   lia
  .intro h1 i x y hx hy;have hi:i<ns.length:=(Q1.mp hx).1;have:=h1 (.int<|(0:Int)+i)<|S0.mpr ⟨i,E4.mpr hi,rfl⟩;have e1:gK ns ((0:Int)+i)=some x:=by rw[N6];exact eZ hx
   have e2:gK ms ((0:Int)+i)=some y:=by rw[N6];exact eZ hy
   have this:¬(match gK ns ((0:Int)+i),gK ms ((0:Int)+i) with|some x,some y=>decide (y<x)|_,_=>false)=true:=this;rw[e1,e2]at this;simp at this
   lia
 cases hl:Rj ns ms with
 |true=>rw[key.mp hl];rfl
 |false =>
  cases hf:(BQ 0 ns.length).filter (ZM ns ms) with
  |nil=>rw[key.mpr hf]at hl;cases hl
  |cons a l=>simp[same,sameAll]
theorem Jj(l:List PyData):SeqAt.noMix (.list l) (.list [])=true:=by cases l<;>simp[SeqAt.noMix,SeqAt.noMixAll]
theorem Kj{f:Addr}(F:Ws K "_law_is_place" (top 51) f fd)(T:Txt mg):FnOk P w K mg base OX 1 f fd ["_law_sides_here","_law_thing"] (dQ K JY):=by
 have S:FnScope ["_law_sides_here","_law_thing","_law_one","_law_side"] ["_law_sides_here","_law_thing"] (aQ<|top 51):={};refine bK F S (λcdv A outer s H E hr=>bQ (qX (xH<|KJ (xX<|XQ<|eJ .tup rfl T.Qm T.Qn boot_tuple<|wn 1)<|AZ<|qJ hr (wx<|MX T.Qc<|mQ 1)<|wx<|MX T.Qc<|mQ 0) (RQ DZ) KQ)<|bQ (SJ [2,3] (AK rfl T.QS<|wQ 1<|mQ 0) (yK rfl rfl<|JQ (rX 2)<|JQ (rX 3) OZ)<|AQ<|qX (xH<|KJ (xX<|XQ<|eJ .int rfl T.Qm T.Qr boot_int<|wn 2)<|KJ (XQ<|eJ .bl rfl T.Qm T.Qs boot_bool<|wn 2)<|KJ (jZ iV lW (wn 2) pQ)<|AZ<|jZ gq HD (wn 2)<|wn 3) (RQ DZ) KQ)<|RQ DZ) ?_;rintro args Qd ⟨sd,d,rfl,hd,hn,q⟩;cases d with
 |dict es=>exact⟨hd,q _⟩
 |int i=>exact q _
 |bool b=>exact q _
 |none=>exact q _
 |str x=>exact q _
 |list xs=>exact q _
 |tuple xs =>
  refine UX (λh=>?_)<|λh=>?_
  .have h:¬(xs.length:Int)=(sd.map p0).length:=by simpa using h
   rw[B0]at h;have e:VJ sd (.tuple xs)=false:=by simp[VJ];intro z;lia
   rw[e]at q;exact q _
  .have h:(xs.length:Int)=(sd.map p0).length:=by simpa using h
   rw[B0]at h;have hl:xs.length=sd.length:=by lia
   have hok:∀d∈xs,RX d=true:=cZ (by simpa [RX]using hd);refine bZ (λrest ρ=>∃(ds:List PyData) (ss:Qa),ρ=[ZA<|tupD sd,ZA<|.tuple xs,none,none]/\rest=aK ds (ss.map p0)/\ds.length=ss.length/\(∀d∈ds,RX d=true)/\VJ sd (.tuple xs)=Qj ds ss) ?_ ?_
    ⟨xs,sd,rfl,rfl,hl,hok,by simp[VJ,hl]⟩
   .rintro d rs ρ ⟨ds,ss,rfl,er,hl2,hok2,he⟩ N hN;cases ds with
    |nil=>cases er
    |cons d ds =>
     cases ss with
     |nil=>cases er
     |cons s ss =>
      cases er;have hd1:=hok2 d L0;have hok3:∀d∈ds,RX d=true:=λx hx=>hok2 x<|K0 _ hx;have bad:tD s d=false->∀o,Qd (.fz<|.bool false) o:=λz=>by
       have e:VJ sd (.tuple xs)=false:=by rw[he];simp[Qj,z]
       rw[e]at q;exact q
      refine⟨rfl,?_⟩;cases d with
      |dict es=>exact⟨hd1,bad rfl _⟩
      |bool b=>exact bad rfl _
      |none=>exact bad rfl _
      |str x=>exact bad rfl _
      |list xs=>exact bad rfl _
      |tuple xs=>exact bad rfl _
      |int i =>
       refine UX (λh1=>?_)<|λh1=>?_
       .have h1:i<0:=of_decide_eq_true h1;exact bad (by simp[tD];lia) _
       .have h1:¬i<0:=λz=>h1<|decide_eq_true z;refine UX (λh2=>?_)<|λh2=>?_
        .have h2:s<=i:=of_decide_eq_true h2;exact bad (by simp[tD];lia) _
        .have h2:¬s<=i:=λz=>h2<|decide_eq_true z;exact hN _ ⟨ds,ss,rfl,rfl,by simpa using hl2,hok3,by rw[he];simp[Qj,tD];lia⟩
   .rintro ρ ⟨ds,ss,rfl,er,hl2,hok2,he⟩;cases ds with
    |nil=>rw[he]at q;exact q _
    |cons d ds =>
     cases ss with
     |nil=>simp at hl2
     |cons s ss=>cases er
variable (P w K mg base) in
structure CalsFl:Prop where
 Yh:Cal P w K mg base 1 "_law_is_place" ["_law_sides_here","_law_thing"] (dQ K JY)
theorem qC{f:Addr}(F:Ws K "_law_is_box" (top 52) f fd)(T:Txt mg)(C:CalsFl P w K mg base):FnOk P w K mg base OX 2 f fd ["_law_sides_here","_law_thing"] (dQ K sH):=by
 have S:FnScope ["_law_sides_here","_law_thing"] ["_law_sides_here","_law_thing"] (aQ<|top 52):={};refine bK F S (λcdv A outer s H E hr=>bQ (qX (xH<|KJ (xX<|XQ<|eJ .tup rfl T.Qm T.Qn boot_tuple<|wn 1)<|AZ<|qJ hr (wx<|MX T.Qc<|mQ 1) pQ) (RQ DZ) KQ)<|bQ (qX (xH<|KJ (xX<|XQ<|QQ C.Yh hr.m<|wQ 0<|cQ<|HX (wn 1) pQ)<|AZ<|xX<|XQ<|QQ C.Yh hr.m<|wQ 0<|cQ<|HX (wn 1) pQ) (RQ DZ) KQ)<|RQ<|rW yU (cW (K:=K) rfl hr.units) (wx<|Fj ["_law_k"] [1] (zK T.Qt<|cQ<|MX T.Qc<|mQ 0) (λ_ _ _ _=>OL<|jZ xU lU (wx<|HX (wx<|HX (wn 1) pQ)<|wn 0)<|wx<|HX (wx<|HX (wn 1) pQ)<|wn 0)<|λ_ _ _ _=>wv 0)<|wx<|HQ VQ) ?_;rintro args Qd ⟨sd,d,rfl,hd,hn,q⟩;cases d with
 |dict es=>exact⟨hd,q _⟩
 |int i=>exact q _
 |bool b=>exact q _
 |none=>exact q _
 |str x=>exact q _
 |list xs=>exact q _
 |tuple xs =>
  refine UX (λh=>?_)<|λh=>?_
  .have h:¬(xs.length:Int)=2:=by simpa using h
   rw[HG<|by lia]at q;exact q _
  .have h:(xs.length:Int)=2:=by simpa using h
   obtain⟨a,b,rfl⟩:∃a b,xs=[a,b]:=by
    rcases xs with _|⟨a,_|⟨b,_|⟨c,xs⟩⟩⟩
    .simp at h
    .simp at h
    .exact⟨a,b,rfl⟩
    .simp at h;lia
   have hab:RX a=true/\RX b=true:=by simpa [RX,okAll]using hd
   refine⟨a,rfl,sd,a,rfl,hab.1,hn,λo=>?_⟩;cases ha:VJ sd a with
   |false =>
    have e:dZ sd (.tuple [a,b])=false:=by simp[dZ,ha]
    rw[e]at q;exact q _
   |true =>
    refine⟨b,rfl,sd,b,rfl,hab.2,hn,λo=>?_⟩;cases hb:VJ sd b with
    |false =>
     have e:dZ sd (.tuple [a,b])=false:=by simp[dZ,hb]
     rw[e]at q;exact q _
    |true =>
     obtain⟨ns,rfl,hns⟩:=UK ha;obtain⟨ms,rfl,hms⟩:=UK hb;have hr0:BQ 0 (((sd.map p0).length:Nat):Int).toNat=BQ 0 ns.length:=by rw[B0,<-hns];rfl
     have hk:(sd.map p0).length=sd.length:=B0 ..;refine⟨by rw[hk];lia,by rw[hk];lia,by rw[hr0,BQ,B0,W7];exact fQ<|by lia,?_⟩;rw[hr0];refine IL (ZM ns ms) id ?_ ?_
     .intro d hd2 N M hN hM;obtain⟨i,hi,rfl⟩:=S0.mp hd2;have hi:=E4.mp hi;have h1:gK ns ((0:Int)+i)=some ns[i]:=by rw[N6];exact eZ<|R0 hi
      have h2:gK ms ((0:Int)+i)=some ms[i]:=by rw[N6];exact eZ (R0<|by lia)
      have eg:ZM ns ms (.int<|(0:Int)+i)=decide (ms[i]<ns[i]):=by show (match gK ns ((0:Int)+i),gK ms ((0:Int)+i) with|some x,some y=>decide (y<x)|_,_=>false)=_;rw[h1,h2]
      rw[eg]at hN hM;refine⟨tupD ns,rfl,.int ns[i],CW p0 h1,tupD ms,rfl,.int ms[i],CW p0 h2,?_⟩;refine UX (λh=>?_)<|λh=>?_
      .exact hN h
      .exact hM (by simpa using h)
     .have hni:Nice 1 (.list<|((BQ 0 ns.length).filter<|ZM ns ms).map id):=.list λd hd3=>by
       rw[v7]at hd3;have:=(B7.mp hd3).1;obtain⟨i,_,rfl⟩:=S0.mp this;exact .int 0 _
      have hnn:Nice 1 (.list []):=.list λd hd3=>by cases hd3
      refine⟨hni.p,hnn.p,hni.sh<|by decide,hnn.sh<|by decide,Jj _,?_⟩;refine(?_:Qd (Sl.fz<|.bool<|same (.list<|((BQ 0 ns.length).filter<|ZM ns ms).map id)<|.list []) _);rw[pC<|by lia];have e:dZ sd (.tuple [tupD ns,tupD ms])=Rj ns ms:=by simp only[dZ,ha,hb,J9];show Rj ((ns.map p0).map unI) ((ms.map p0).map unI)=_;rw[GW,GW]
      rw[<-e];exact q _
theorem Sd.b(h:Sd sd):∀c∈sd,1<=c/\c<=120:=λc hc=>⟨h.p c hc,F8 (nZ h.p c hc) h.m⟩
def aN:Con:=λargs Q=>∃(ns:Qa) (k l:Int) (sd:Qa),args=[.io<|SQ ns k l,.fz<|tupD sd]/\0<=k/\0<=l/\Sd sd /\
 ∀(lo hi:Qa) (k' l':Int) (o:Ev),Bx lo hi sd->0<=k'->0<=l'->Q (.fz<|gU lo hi) (some (.io<|SQ ns k' l')::o)
theorem bN{f:Addr}(F:Ws K "_law_box" (top 50) f fd)(T:Txt mg)(C:CalsB P w K mg base):FnOk P w K mg base OX 2 f fd ["_law_pen_here","_law_sides_here"] (dQ K aN):=by
 have S:FnScope ["_law_pen_here","_law_sides_here","_law_low","_law_high","_law_side","_law_one","_law_other"] ["_law_pen_here","_law_sides_here"] (aQ<|top 50):={};refine bK F S (λcdv A outer s H E hr=>bQ (CQ 2<|HQ VQ)<|bQ (CQ 3<|HQ VQ)<|bQ (SJ [4,5,6] (lX rfl<|wv 1) (rX 4)<|bQ (CQ 5<|WQ C.Js hr.m<|wQ 0<|mQ 4)<|bQ (CQ 6<|HX (wx<|HQ<|eQ (WQ C.Js hr.m<|wQ 0<|mQ 4)<|cQ<|wv 5)<|wx<|iZ tF MY T.Qr boot_int<|cQ<|rW yU (cW (K:=K) rfl hr.units) (wx<|WQ C.Js hr.m<|wQ 0<|cQ gQ) pQ)<|bQ (qX (Ej hr (wx<|WQ C.Js hr.m<|wQ 0<|cQ gQ) pQ) (AQ<|FO (i:=5) (j:=6) rfl S.nd rfl rfl (by decide) rfl rfl gQ<|TJ (wn 4) pQ) KQ)<|bQ (tX<|Pj BX rfl PySem.F.slot_list_append PySem.F.type_list_append AX (wn 2)<|cQ<|eX qk (mU rfl) T.Qg boot_min<|wQ 5<|mQ 6)<|AQ<|tX<|Pj BX rfl PySem.F.slot_list_append PySem.F.type_list_append AX (wn 3)<|cQ<|eX qk (vz rfl) T.Qh boot_max<|wQ 5<|mQ 6)<|RQ<|jQ<|eQ (DY T.Qn<|mQ 2)<|cQ<|DY T.Qn<|mQ 3) ?_;rintro args Qd ⟨ns,k,l,sd,rfl,hk,hl,hsd,q⟩;have h3:=hsd.l3;refine bZ (λrest ρ=>∃(dn lo hi rs:Qa) (k4 l4:Int),ρ=[some<|.io<|SQ ns k4 l4,ZA<|tupD sd,YA<|.list<|lo.map p0,YA<|.list<|hi.map p0,none,none,none] /\
     rest=rs.map p0/\sd=dn++rs/\Bx lo hi dn/\0<=k4/\0<=l4) ?_ ?_
  ⟨[],[],[],sd,k,l,rfl,rfl,rfl,trivial,hk,hl⟩
 .rintro d ds ρ ⟨dn,lo,hi,rs,k4,l4,rfl,er,hsp,hbx,hk4,hl4⟩ N hN;cases rs with
  |nil=>cases er
  |cons s rs =>
   cases er;have hs:=hsd.b s (by rw[hsp];simp);have hdl:dn.length<=3:=by have:=congrArg A4 hsp;simp at this;lia
   obtain⟨g1,g2⟩:=vD hbx;have hz1:(lo.map p0).length<sizeLine:=by rw[B0];exact Q0 (show lo.length<1000 by lia) (by decide)
   have hz2:(hi.map p0).length<sizeLine:=by rw[B0];exact Q0 (show hi.length<1000 by lia) (by decide)
   refine⟨ns,k4,l4,_,rfl,hk4,hl4,by lia,by lia,λa k5 l5 _ a0 a1 hk5 hl5=>?_⟩;refine⟨ns,k5,l5,_,rfl,hk5,hl5,by lia,by lia,λb k6 l6 _ b0 b1 hk6 hl6=>?_⟩;refine⟨ns,k6,l6,_,rfl,hk6,hl6,by decide,by decide,λc k7 l7 _ c0 c1 hk7 hl7=>?_⟩;have pick:∃x:Int,gK [p0 b,p0 a] (if decide (c=0)=true then 1 else 0)=some (.int x)/\0<=x/\x<s:=by
    split
    .exact⟨a,rfl,a0,a1⟩
    .exact⟨b,rfl,b0,b1⟩
   obtain⟨x,hx,x0,x1⟩:=pick;refine⟨_,hx,?_⟩;refine⟨ns,k7,l7,_,rfl,hk7,hl7,by decide,by decide,λe k8 l8 _ e0 e1 hk8 hl8=>?_⟩;have fin:∀u v:Int,0<=u->u<=v->v<s->Bx (lo++[u]) (hi++[v]) (dn++[s]):=λu v=>Vq hbx;refine UX (λh=>?_)<|λh=>?_
   .exact⟨hz1,hz2,hN _ ⟨dn++[s],lo++[_],hi++[_],rs,k8,l8,by rw[N1,N1];rfl,rfl,by rw[hsp];simp,fin _ _ (by split<;>lia) (by split<;>split<;>lia) (by split<;>lia),hk8,hl8⟩⟩
   .exact⟨hz1,hz2,hN _ ⟨dn++[s],lo++[_],hi++[_],rs,k8,l8,by rw[N1,N1];rfl,rfl,by rw[hsp];simp,fin _ _ (by split<;>lia) (by split<;>split<;>lia) (by split<;>lia),hk8,hl8⟩⟩
 .rintro ρ ⟨dn,lo,hi,rs,k4,l4,rfl,er,hsp,hbx,hk4,hl4⟩;cases rs with
  |nil=>exact q lo hi k4 l4 _ (by rw[hsp,L1];exact hbx) hk4 hl4
  |cons _ _=>cases er
def xD:Con:=λargs Q=>∃p:Qa,args=[.fz<|tupD p]/\p.length<=1000/\∀es o,notScr es=true->Q (.ow<|.dict es) o
theorem Rv{f:Addr}(F:Ws K "_law_keyed" (top 53) f fd)(T:Txt mg):FnOk P w K mg base OX 1 f fd ["_law_place"] (dQ K xD):=by
 have S:FnScope ["_law_place"] ["_law_place"] (aQ<|top 53):={};refine bK F S (λcdv A outer s H E hr=>RQ<|Xk rfl rfl T.Qi (by decide +kernel)<|cQ<|EY ["_law_number_here"] [] (lX rfl<|wv 0)<|λ_ _ _ _=>jQ<|eQ (wv 0)<|cQ gQ) ?_;rintro args Qd ⟨p,rfl,hp,q⟩;refine⟨by rw[B0];exact fQ hp,pJ (λd=>.tuple [d,.int 0]) ?_ ?_⟩
 .intro d hd N hN;exact hN
 .refine⟨⟨p.map λn=>(.inl n,.int 0),by rw[v1,v1];rfl⟩,λes h=>q es _ h⟩
theorem OV:notScr []=true:=rfl
theorem MQ(a b:List PyData):okAll (a++b)=(okAll a&&okAll b):=by
 induction a with
 |nil=>simp[okAll]
 |cons x a ih=>simp[okAll,ih,Bool.and_assoc]
theorem aX(ns:Qa):okAll (ns.map p0)=true:=sJ λd hd=>by obtain⟨i,_,rfl⟩:=S0.mp hd;rfl
theorem vZ(ns:Qa)(k:Nat):okAll ((ns.map p0).take k)=true:=sJ λd hd=>cZ (aX ns) d<|List.mem_of_mem_take hd
theorem yD(ns:Qa)(k:Nat):okAll ((ns.map p0).drop k)=true:=sJ λd hd=>cZ (aX ns) d<|List.mem_of_mem_drop hd
theorem kW{f:PyData->PyData}{l:List PyData}(h:∀d∈l,RX (f d)=true):okAll (l.map f)=true:=sJ λd hd=>by obtain⟨x,hx,rfl⟩:=S0.mp hd;exact h x hx
variable (P w K mg base) in
structure CalsG:Prop where
 Js:Cal P w K mg base 1 "_law_take" ["_law_pen_here","_law_many"] (dQ K EG)
 Yi:Cal P w K mg base 1 "_law_keyed" ["_law_place"] (dQ K xD)
def FE:Con:=λargs Q=>∃(ns:Qa) (k l:Int) (sd:Qa),args=[.io<|SQ ns k l,.fz<|tupD sd]/\0<=k/\0<=l/\Sd sd /\
 ∀(ds:List PyData) (k' l':Int) (o:Ev),okAll ds=true->ds.length<=100->0<=k'->0<=l'->Q (.ow<|.list ds) (some (.io<|SQ ns k' l')::o)
noncomputable def rC(cs:List PyData)(a:Int)(d:PyData):PyData:=.tuple<|(cs.take (if a<0 then (a+cs.length).toNat else a.toNat)++[d])++cs.drop (a+1).toNat
theorem sC{cs:Qa}{a:Int}{d:PyData}(h:RX d=true):RX (rC (cs.map p0) a d)=true:=by simp[rC,RX,MQ,vZ,yD,okAll,h]
theorem Sv{f:Addr}(F:Ws K "_law_near_places" (top 54) f fd)(T:Txt mg)(C:CalsG P w K mg base):FnOk P w K mg base OX 2 f fd ["_law_pen_here","_law_sides_here"] (dQ K FE):=by
 have S:FnScope ["_law_pen_here","_law_sides_here","_law_place","_law_at","_law_some_here","_law_found"] ["_law_pen_here","_law_sides_here"] (aQ<|top 54):={};refine bK F S (λcdv A outer s H E hr=>bQ (CQ 2<|DY T.Qn<|cQ<|EY ["_law_side"] [0] (lX rfl<|wv 1)<|λ_ _ _ _=>WQ C.Js hr.m<|wQ 1<|mQ 0)<|bQ (CQ 3<|WQ C.Js hr.m<|wQ 0<|cQ<|MX T.Qc<|mQ 1)<|bQ (CQ 4<|HQ<|eQ (HX (wn 1)<|wn 3)<|eQ (TJ (wx<|HX (wn 1)<|wn 3) pQ)<|eQ (xK pQ)<|eQ gQ<|eQ DZ<|eQ DZ<|eQ wK<|eQ GQ<|eQ (jQ<|cQ gQ)<|eQ (HQ<|cQ gQ)<|eQ (DQ JJ yJ pQ pQ)<|cQ<|xK<|wx<|DQ JJ yJ pQ pQ)<|bQ (Lk (i:=5) S.nd rfl rfl rfl (own:=["_law_one"]) (fr:=[2,3]) (by kernel_rfl) (lX rfl<|wv 4) (λ_ _ _ _=>rX 0) (λ_ _ _ _=>PP)<|λ_ _ _ _=>LQ (wx<|LQ (wx<|Vk rfl (wn 1)<|wn 2)<|wx<|jQ<|cQ<|wv 0)<|wx<|VL rfl (wn 1)<|wx<|LQ (wn 2) pQ)<|bQ (CQ 5<|LQ (wn 5)<|wx<|HQ<|eQ (wv 2)<|eQ (iZ QK (rZ (K:=K) rfl) T.Qo boot_list<|mQ 2)<|eQ (LQ (wn 2)<|wx<|jQ<|cQ gQ)<|eQ (Vk rfl (wn 2)<|wx<|xK pQ)<|eQ (jQ<|cQ<|wv 2)<|eQ (jQ VQ)<|eQ wK<|eQ gQ<|eQ DZ<|eQ GQ<|eQ IF<|cQ<|HQ<|cQ<|wv 2)<|RQ<|LQ (wn 5)<|wx<|HQ<|cQ<|QQ C.Yi hr.m<|mQ 2) ?_;rintro args Qd ⟨ns,k,l,sd,rfl,hk,hl,hsd,q⟩;have h3:=hsd.l3;have h1:=hsd.l1;refine⟨by rw[B0];exact fQ<|by lia,Kk (λrest acc τ=>∃(cs rs:Qa) (k4 l4:Int),τ=[none,some<|.io<|SQ ns k4 l4]/\acc=cs.map p0/\rest=rs.map p0/\cs.length+rs.length=sd.length/\(∀c∈rs,1<=c/\c<=120)/\0<=k4/\0<=l4) ?_ ?_
   ⟨[],sd,k,l,rfl,rfl,rfl,by simp,hsd.b,hk,hl⟩⟩
 .rintro d ds acc τ ⟨cs,rs,k4,l4,rfl,rfl,er,hlen,hB,hk4,hl4⟩ N hN;cases rs with
  |nil=>cases er
  |cons s rs=>cases er;have hs:=hB s L0;refine⟨ns,k4,l4,_,rfl,hk4,hl4,by lia,by lia,λj k5 l5 _ j0 j1 hk5 hl5=>?_⟩;exact hN _ _ ⟨cs++[j],rs,k5,l5,rfl,by simp[Sl.d],rfl,by simp at hlen ⊢;lia,λc hc=>hB c<|K0 _ hc,hk5,hl5⟩
 .rintro acc τ ⟨cs,rs,k4,l4,rfl,rfl,er,hlen,hB,hk4,hl4⟩;cases rs with
  |cons _ _=>cases er
  |nil =>
   have hcl:cs.length=sd.length:=by simpa using hlen
   have hcm:(cs.map p0).length=sd.length:=by rw[B0];exact hcl
   have hsm:(sd.map p0).length=sd.length:=B0 ..;refine⟨ns,k4,l4,_,rfl,hk4,hl4,by rw[hsm];lia,by rw[hsm];lia,λa k5 l5 _ a0 a1 hk5 hl5=>?_⟩;rw[hsm]at a1;obtain⟨j,hj⟩:=K5 a0;have hjl:j<sd.length:=by lia
   have hat:gK (sd.map p0) a=some (.int sd[j]):=CW p0 (by rw[hj];exact eZ<|R0 hjl);refine⟨_,hat,_,hat,⟨by decide,by decide,by decide⟩,⟨by decide,by decide,by decide⟩,?_⟩;refine⟨by show 12<=sizeLine;decide,pJ (rC (cs.map p0) a) ?_ ?_⟩
   .intro d hd N hN;refine⟨by rw[if_neg<|by lia,hcm];lia,?_,?_⟩
    .refine fQ ?_;rw[j2,hcm];simp
     lia
    .refine⟨by lia,by rw[hcm];lia,?_,hN⟩;refine fQ ?_;rw[M0,j2,U2,hcm];simp
     lia
   .refine⟨by refine fQ ?_;rw[hcm];simp;lia,?_⟩;refine⟨by rw[if_pos<|by decide,hcm];lia,?_⟩;refine⟨by refine fQ ?_;simp,?_⟩;refine⟨cs,rfl,by lia,λes o hes=>?_⟩;refine⟨by refine fQ ?_;simp,?_⟩;refine q _ _ _ _ ?_ ?_ hk5 hl5
    .have hA:∀l:List PyData,okAll l=true->okAll (l.map<|rC (cs.map p0) a)=true:=λl h=>kW λd hd=>sC<|cZ h d hd;rw[MQ,MQ,hA _<|by simp[okAll,RX,Sl.d]];simp[okAll,RX,Sl.d,MQ,hes,aX,vZ,OV]
    .simp
variable (P w K mg base) in
structure CalsH:Prop where
 Yl:Cal P w K mg base 2 "_law_box" ["_law_pen_here","_law_sides_here"] (dQ K aN)
 Yi:Cal P w K mg base 1 "_law_keyed" ["_law_place"] (dQ K xD)
 Ym:Cal P w K mg base 2 "_law_near_places" ["_law_pen_here","_law_sides_here"] (dQ K FE)
def Tv:Con:=λargs Q=>∃(ns:Qa) (k l:Int) (sd:Qa),args=[.io<|SQ ns k l,.fz<|tupD sd]/\0<=k/\0<=l/\Sd sd /\
 ∀(ds:List PyData) (k' l':Int) (o:Ev),okAll ds=true->X5∈ds->ds.length<=1000->0<=k'->0<=l'->Q (.ow<|.list ds) (some (.io<|SQ ns k' l')::o)
theorem JG(p:Qa):tupD p=.tuple ((p.map λn=>(.inl n:EQ)).map DJ):=by rw[v1];rfl
theorem Uv{f:Addr}(F:Ws K "_law_near_boxes" (top 55) f fd)(T:Txt mg)(C:CalsH P w K mg base):FnOk P w K mg base OX 3 f fd ["_law_pen_here","_law_sides_here"] (dQ K Tv):=by
 have S:FnScope ["_law_pen_here","_law_sides_here","_law_low","_law_high","_law_some_here","_law_found"] ["_law_pen_here","_law_sides_here"] (aQ<|top 55):={};refine bK F S (λcdv A outer s H E hr=>bQ (RL (WQ C.Yl hr.m<|wQ 0<|mQ 1)<|yK rfl rfl<|JQ (rX 2)<|JQ (rX 3) OZ)<|bQ (CQ 4<|WQ C.Ym hr.m<|wQ 0<|mQ 1)<|bQ (CQ 5<|LQ (wx<|EY ["_law_one"] [2] (lX rfl<|wv 4)<|λ_ _ _ _=>jQ<|eQ (wv 1)<|cQ<|wv 0)<|wx<|EY ["_law_one"] [3] (lX rfl<|wv 4)<|λ_ _ _ _=>jQ<|eQ (wv 0)<|cQ<|wv 1)<|bQ (CQ 5<|LQ (wn 5)<|wx<|HQ<|eQ (jQ<|eQ (wv 2)<|cQ<|wv 3)<|eQ (jQ<|eQ (wv 3)<|cQ<|wv 2)<|eQ (HQ<|eQ (wv 2)<|cQ<|wv 3)<|eQ (jQ<|cQ<|wv 2)<|eQ (jQ<|eQ (wv 2)<|eQ (wv 3)<|cQ<|wv 3)<|eQ (jQ<|eQ (wv 2)<|cQ<|iZ QK (rZ (K:=K) rfl) T.Qo boot_list<|mQ 3)<|eQ (wv 2)<|cQ<|wv 3)<|bQ (CQ 5<|LQ (wn 5)<|wx<|HQ<|eQ (jQ<|eQ (iZ QK (rZ (K:=K) rfl) T.Qo boot_list<|mQ 2)<|cQ<|iZ QK (rZ (K:=K) rfl) T.Qo boot_list<|mQ 3)<|eQ (jQ<|eQ (QQ C.Yi hr.m<|mQ 2)<|cQ<|wv 3)<|cQ<|jQ<|eQ (wv 2)<|cQ<|QQ C.Yi hr.m<|mQ 3)<|bQ (CQ 5<|LQ (wn 5)<|wx<|HQ<|eQ (jQ<|eQ (QQ C.Yi hr.m<|mQ 2)<|cQ<|QQ C.Yi hr.m<|mQ 3)<|cQ<|Wu [(2,0),(3,0)] (by decide)<|Tk (SL hr) (iK (pv 2) IW<|iK (pv 3) IW RD) rfl rfl (by simp)<|by decide)<|RQ<|LQ (wn 5)<|wx<|HQ<|eQ wK<|eQ gQ<|eQ DZ<|eQ GQ<|eQ IF<|eQ (jQ VQ)<|eQ (HQ VQ)<|eQ (jQ<|eQ (jQ<|eQ (wv 2)<|cQ<|wv 3)<|cQ<|wv 3)<|cQ<|LQ (wn 2)<|wn 3) ?_;rintro args Qd ⟨ns,k,l,sd,rfl,hk,hl,hsd,q⟩;have h3:=hsd.l3;refine⟨ns,k,l,sd,rfl,hk,hl,hsd,λlo hi k1 l1 _ hbx hk1 hl1=>?_⟩;obtain⟨hlo,hhi⟩:=vD hbx;refine⟨rfl,ns,k1,l1,sd,rfl,hk1,hl1,hsd,λds k2 l2 _ hok hlen hk2 hl2=>?_⟩;have hm1:∀d∈ds,RX d=true:=cZ hok;refine⟨fQ<|by lia,pJ (λd=>.tuple [tupD lo,d]) ?_ ?_⟩
 .intro d hd N hN;exact hN
 refine⟨fQ<|by lia,pJ (λd=>.tuple [d,tupD hi]) ?_ ?_⟩
 .intro d hd N hN;exact hN
 refine⟨fQ (by simp;lia),?_⟩;refine⟨fQ (by simp;lia),?_⟩;refine⟨lo,rfl,by lia,λe1 _ he1=>?_⟩;refine⟨hi,rfl,by lia,λe2 _ he2=>?_⟩;refine⟨fQ (by simp;lia),?_⟩;refine⟨lo,rfl,by lia,λe3 _ he3=>?_⟩;refine⟨hi,rfl,by lia,λe4 _ he4=>?_⟩;refine⟨?_,λe5 he5=>?_⟩
 .intro p hp;simp only[P0,O1,or_false]at hp;rcases hp with rfl|rfl
  .exact⟨lo.map λn=>.inl n,by rw[<-JG];rfl⟩
  .exact⟨hi.map λn=>.inl n,by rw[<-JG];rfl⟩
 refine⟨fQ (by simp;lia),?_⟩;refine⟨by rw[B0,B0];exact fQ<|by lia,?_⟩;refine⟨fQ (by simp;lia),?_⟩;refine q _ _ _ _ ?_ (A1 _ L0) ?_ hk2 hl2
 .have hA:okAll (ds.map λd=>.tuple [tupD lo,d])=true:=kW λd hd=>by simp[RX,okAll,aX,hm1 d hd]
  have hB:okAll (ds.map λd=>.tuple [d,tupD hi])=true:=kW λd hd=>by simp[RX,okAll,aX,hm1 d hd]
  simp[MQ,hA,hB,okAll,RX,aX,he1,he2,he3,he4,he5,OV,Sl.d]
 .simp
  lia
theorem Lj(n:Int):(rng n).Nodup:=by unfold rng;rw[m6,Y3];exact L8.imp λh=>by lia
structure Ord(n:Nat)(od:Qa):Prop where
 l:od.length=n
 p:od.Perm (rng od.length)
def ES(n:Nat)(sm:Qa):Prop:=sm.length<=1000/\(rng n).filter (λw=>decide<|w∈sm)=sm
theorem zD:∀{sm l:Qa},sm.Sublist l->l.Nodup->l.filter (λw=>decide<|w∈sm)=sm:=by
 intro sm l h;induction h with
 |slnil=>intro _;rfl
 |cons a h ih=>intro nd;rw[S3]at nd;rw[List.filter_cons_of_neg (by simpa using λz=>nd.1<|h.subset z),ih nd.2]
 |@cons_cons l₁ l₂ a h ih =>
  intro nd;rw[S3]at nd;rw[List.filter_cons_of_pos<|by simp];congr 1
  conv=>rhs;rw[<-ih nd.2]
  refine List.filter_congr λx hx=>decide_eq_decide.mpr ?_;rw[P0];exact⟨λz=>z.resolve_left λe=>nd.1 (by rw[<-e];exact hx),.inr⟩
theorem Vv{n:Int}{dn rs:Qa}{x:Int}(h:rng n=dn++x::rs):x=(dn.length:Int):=by
 have e:(rng n)[dn.length]?=(dn++x::rs)[dn.length]?:=by rw[h]
 rw[Q2<|O0 _,Nat.sub_self]at e;unfold rng at e;rw[E1]at e;cases z:(Z1 n.toNat)[dn.length]? with
 |none=>rw[z]at e;cases e
 |some k =>
  rw[z]at e;have e2:=Q1.mp z;obtain⟨h1,h2⟩:=e2;rw[L9]at h2;have e:some ((k:Nat):Int)=some x:=e;injection e with e
  lia
def cN:Con:=λargs Q=>∃(ns:Qa) (k l:Int) (n:Nat),args=[.io<|SQ ns k l,.fz<|.int n]/\0<=k/\0<=l/\n<=3/\∀(od:Qa) (k' l':Int) (o:Ev),Ord n od->0<=k'->0<=l'->Q (.fz<|tupD od) (some (.io<|SQ ns k' l')::o)
theorem dN{f:Addr}(F:Ws K "_law_order" (top 57) f fd)(T:Txt mg)(C:CalsB P w K mg base):FnOk P w K mg base OX 2 f fd ["_law_pen_here","_law_ways"] (dQ K cN):=by
 have S:FnScope ["_law_pen_here","_law_ways","_law_found","_law_way"] ["_law_pen_here","_law_ways"] (aQ<|top 57):={};refine bK F S (λcdv A outer s H E hr=>bQ (CQ 2<|HQ VQ)<|bQ (SJ [3] (zK T.Qt<|mQ 1) (rX 3)<|AQ<|tX<|Pj Vz rfl PySem.F.slot_list_insert PySem.F.type_list_insert Iz (wn 2)<|eQ (WQ C.Js hr.m<|wQ 0<|cQ<|LQ (wn 3) pQ)<|cQ<|wv 3)<|RQ<|DY T.Qn<|mQ 2) ?_;rintro args Qd ⟨ns,k,l,n,rfl,hk,hl,hn,q⟩;with_reducible refine iX (λρ=>ρ=[some<|.io<|SQ ns k l,ZA<|.int n,YA<|.list [],none]) ?_ ?_
 .intro N hN;exact hN _ rfl
 rintro _ rfl;with_reducible refine iX (λρ=>∃(od:Qa) (k l:Int),Ord n od/\(0<=k/\0<=l)/\ρ=[some<|.io<|SQ ns k l,ZA<|.int n,YA<|.list<|od.map p0,none]) ?_ ?_
 .intro NE hE;refine⟨by lia,by lia,?_⟩;rw[pX];refine bZ (λrest ρ=>∃(dn rs od:Qa) (k l:Int),rng n=dn++rs/\rest=rs.map p0/\od.Perm dn/\(0<=k/\0<=l)/\ρ=[some<|.io<|SQ ns k l,ZA<|.int n,YA<|.list<|od.map p0,none]) ?_ ?_ ⟨[],rng n,[],k,l,rfl,rfl,.nil,⟨hk,hl⟩,rfl⟩
  .clear hk hl;rintro d ds ρ ⟨dn,rs,od,k,l,es,er,hp,⟨hk,hl⟩,rfl⟩ N hN;cases rs with
   |nil=>cases er
   |cons x rs =>
    cases er;have hx:=Vv es;have hol:=hp.length_eq;have hdl:dn.length<=3:=by
     have:=congrArg A4 es;rw[ZZ,M0]at this
     lia
    refine⟨ns,k,l,x+1,rfl,hk,hl,by lia,by lia,λr k1 l1 _ r0 r1 hk1 hl1=>?_⟩;refine⟨by rw[B0];exact X2 (show od.length<=3 by lia)<|by decide,r0,by rw[B0];lia,hN _ ⟨dn++[x],rs,od.take r.toNat++x::od.drop r.toNat,k1,l1,by rw[es];simp,rfl,?_,⟨hk1,hl1⟩,?_⟩⟩
    .refine List.perm_middle.trans ?_;rw[U8];exact(hp.cons x).trans (List.perm_append_singleton x dn).symm
    .simp only[N1,K1,i8,j8];rfl
  .rintro ρ ⟨dn,rs,od,k,l,es,er,hp,hkl,rfl⟩;cases rs with
   |cons _ _=>cases er
   |nil =>
    rw[L1]at es;subst es;have hol:=hp.length_eq;rw[ZZ]at hol;have hol:od.length=n:=by lia
    exact hE _ ⟨od,k,l,⟨hol,by rw[hol];exact hp⟩,hkl,rfl⟩
 clear hk hl;rintro _ ⟨od,k,l,ho,⟨hk,hl⟩,rfl⟩;exact q od k l _ ho hk hl
def eN:Con:=λargs Q=>∃(ns:Qa) (k l:Int) (n:Nat),args=[.io<|SQ ns k l,.fz<|.int n]/\0<=k/\0<=l/\n<=3/\∀(sm:Qa) (k' l':Int) (o:Ev),ES n sm->0<=k'->0<=l'->Q (.fz<|tupD sm) (some (.io<|SQ ns k' l')::o)
theorem fN{f:Addr}(F:Ws K "_law_some" (top 58) f fd)(T:Txt mg)(C:CalsB P w K mg base):FnOk P w K mg base OX 2 f fd ["_law_pen_here","_law_ways"] (dQ K eN):=by
 have S:FnScope ["_law_pen_here","_law_ways"] ["_law_pen_here","_law_ways"] (aQ<|top 58):={};refine bK F S (λcdv A outer s H E hr=>RQ<|DY T.Qn<|cQ<|Fj ["_law_way"] [0] (zK T.Qt<|mQ 1) (λ_ _ _ _=>OL<|Ej hr (wx<|WQ C.Js hr.m<|wQ 1<|cQ gQ) pQ)<|λ_ _ _ _=>wv 0) ?_;rintro args Qd ⟨ns,k,l,n,rfl,hk,hl,hn,q⟩;refine⟨by lia,by lia,by rw[pX,B0,ZZ];exact fQ<|by lia,?_⟩;rw[pX];refine lV (λrest acc τ=>∃(dn rs sm:Qa) (k4 l4:Int),rng n=dn++rs/\rest=rs.map p0/\acc=sm.map p0/\sm.Sublist dn/\τ=[none,some<|.io<|SQ ns k4 l4]/\0<=k4/\0<=l4) ?_ ?_ ⟨[],rng n,[],k,l,rfl,rfl,rfl,.slnil,rfl,hk,hl⟩
 .rintro d ds acc τ ⟨dn,rs,sm,k4,l4,es,er,rfl,hsub,rfl,hk4,hl4⟩ N' hN';cases rs with
  |nil=>cases er
  |cons x rs =>
   cases er;refine⟨ns,k4,l4,2,rfl,hk4,hl4,by decide,by decide,λr k5 l5 _ r0 r1 hk5 hl5=>?_⟩;refine UX (λh=>?_)<|λh=>?_
   .exact hN' _ _ ⟨dn++[x],rs,sm++[x],k5,l5,by rw[es];simp,rfl,by simp[Sl.d],hsub.append<|List.Sublist.refl _,rfl,hk5,hl5⟩
   .exact hN' _ _ ⟨dn++[x],rs,sm,k5,l5,by rw[es];simp,rfl,rfl,hsub.trans<|List.sublist_append_left _ _,rfl,hk5,hl5⟩
 .rintro acc τ ⟨dn,rs,sm,k4,l4,es,er,rfl,hsub,rfl,hk4,hl4⟩;cases rs with
  |cons _ _=>cases er
  |nil=>rw[L1]at es;subst es;have:=hsub.length_le;rw[ZZ]at this;exact q sm k4 l4 _ ⟨by lia,zD hsub<|Lj _⟩ hk4 hl4
inductive Rf (sd:Qa) (b d:PyData):Int->Str->Prop
 |t0:RX d=true->iY sd.length d->Rf sd b d 0 "NoTurn"
 |t1:HK sd.length d->Rf sd b d 1 "NoTurn"
 |t2:RX d=true->NV sd.length d->Rf sd b d 2 "NoTurn"
 |t3:RX d=true->iY sd.length d->Rf sd b d 3 "NoTurn"
 |t4:HK sd.length d->Rf sd b d 4 "NoTurn"
 |t5:RX d=true->NV sd.length d->Rf sd b d 5 "NoTurn"
 |b3 (gs:Qa):d=tupD gs->XB sd.length gs->RX b=true->dZ sd b=false->Rf sd b d 3 "NoBox"
 |b4 (gs:Qa):d=tupD gs->YB sd.length gs->RX b=true->dZ sd b=false->Rf sd b d 4 "NoBox"
 |b5 (gs:Qa):d=tupD gs->Lv sd.length gs->RX b=true->dZ sd b=false->Rf sd b d 5 "NoBox"
 |b6:RX b=true->dZ sd b=false->Rf sd b d 6 "NoBox"
 |f2 (fs:Qa):d=tupD fs->Sd sd->Lv sd.length fs->JK 1 (NX sd fs)->120<prodI (NX sd fs)->Rf sd b d 2 "NoField"
variable (P w K mg base) in
structure CalsAq:Prop where
 Yn:CalX P w K mg base 4 "exchanged" ["field","order"] (nQ K<|QB mg)
 Yo:CalX P w K mg base 4 "mirrored" ["field","some"] (nQ K<|RB mg)
 Yp:CalX P w K mg base 4 "stretched" ["field","factors"] (nQ K<|SB mg)
 Yr:CalX P w K mg base 5 "stretched" ["field","factors"] (nQ K<|dz mg)
 Ys:CalX P w K mg base 4 "box_exchanged" ["sides","box","order"] (nQ K<|UB mg)
 Yt:CalX P w K mg base 4 "box_mirrored" ["sides","box","some"] (nQ K<|VB mg)
 YS:CalX P w K mg base 4 "box_stretched" ["sides","box","factors"] (nQ K<|WB mg)
 YT:CalX P w K mg base 6 "box_exchanged" ["sides","box","order"] (nQ K<|Xq mg)
 Wa:CalX P w K mg base 6 "box_mirrored" ["sides","box","some"] (nQ K<|Yq mg)
 Wb:CalX P w K mg base 6 "box_stretched" ["sides","box","factors"] (nQ K<|Zq mg)
 Wc:CalX P w K mg base 6 "cut" ["field","box"] (nQ K<|PM mg)
 We:Cal P w K mg base 1 "_law_word" ["_law_caught"] (dQ K<|gz mg)
def jz:Con:=λargs Q=>∃(w:Int) (sd cl:Qa) (b d:PyData) (c x:Str),args=[.fz<|.int w,.fz<|nX sd cl,.fz b,.fz d]/\sd.length<=3/\Rf sd b d w c/\Wd c x/\∀o,Q (.fz<|.str x) o
theorem kz:FnScope ["_law_way","_law_field_here","_law_box_here","_law_thing","_law_caught","_law_asks","_law_others","e"] ["_law_way","_law_field_here","_law_box_here","_law_thing"] (aQ<|top 59):={}
theorem Mj{f:Addr}(F:Ws K "_law_asked" (top 59) f fd)(T:Txt mg)(L:Cls K mg)(C:CalsAq P w K mg base):FnOk P w K mg base OX 8 f fd ["_law_way","_law_field_here","_law_box_here","_law_thing"] (dQ K jz):=by
 have S:=kz;refine bK F S (λcdv A outer s H E hr=>bQ (CQ 4 wK)<|bQ (CQ 5<|HQ (eQ (XJ T.Xa)<|eQ (XJ T.Xb)<|cQ<|XJ T.Xc) (hl:=by show 3<=1000;decide))<|bQ (CQ 6<|HQ (eQ (XJ T.Xd)<|eQ (XJ T.Xe)<|cQ<|XJ T.Xf) (hl:=by show 3<=1000;decide))<|bQ (pM<|UO (jZ iV lW (wn 0) pQ) (Fq (k:=6) (iE:=7) (iC:=4) rfl ⟨rfl,rfl,rfl,S.nd,rfl,rfl,rfl,rfl,rfl,T.Xh,L.Xs,rfl,by decide,by decide,by decide⟩ (DX C.Yn (by decide)<|DX C.Yo (by decide)<|DX C.Yp (by decide)<|DX C.Yr (by decide) qG) hr.m (HX (wn 5)<|wn 0)<|wQ 1<|mQ 3)<|UO (jZ iV lW (wn 0) pQ) (Fq (k:=6) (iE:=7) (iC:=4) rfl ⟨rfl,rfl,rfl,S.nd,rfl,rfl,rfl,rfl,rfl,T.Xh,L.Xs,rfl,by decide,by decide,by decide⟩ (DX C.Ys (by decide)<|DX C.Yt (by decide)<|DX C.YS (by decide)<|DX C.YT (by decide)<|DX C.Wa (by decide)<|DX C.Wb (by decide) qG) hr.m (HX (wn 6)<|wx<|TJ (wn 0) pQ)<|eQ (HX (wn 1) pQ)<|wQ 2<|mQ 3)<|rM (iE:=7) (iC:=4) rfl ⟨rfl,rfl,rfl,S.nd,rfl,rfl,rfl,rfl,rfl,T.Xh,L.Xs,rfl,by decide,by decide,by decide⟩ C.Wc hr.m<|wQ 1<|mQ 2)<|bQ (qX (jZ Fw kx (wn 4)<|wx wK) (RQ GQ) KQ)<|RQ<|QQ C.We hr.m<|mQ 4) ?_;rintro args Qd ⟨w,sd,cl,b,d,c,x,rfl,h3,hr,hw,q⟩;with_reducible refine iX (λρ=>ρ=[ZA<|.int w,ZA<|nX sd cl,ZA b,ZA d,ZA .none,none,none,none]) ?_ ?_
 .intro N hN;exact hN _ rfl
 rintro _ rfl;with_reducible refine iX (λρ=>ρ=[ZA<|.int w,ZA<|nX sd cl,ZA b,ZA d,ZA .none,YA<|.list [nW<|cA mg "exchanged",nW<|cA mg "mirrored",nW<|cA mg "stretched"],none,none]) ?_ ?_
 .intro N hN;exact hN _ rfl
 rintro _ rfl;with_reducible refine iX (λρ=>ρ=[ZA<|.int w,ZA<|nX sd cl,ZA b,ZA d,ZA .none,YA<|.list [nW<|cA mg "exchanged",nW<|cA mg "mirrored",nW<|cA mg "stretched"],YA<|.list [nW<|cA mg "box_exchanged",nW<|cA mg "box_mirrored",nW<|cA mg "box_stretched"],none]) ?_ ?_
 .intro N hN;exact hN _ rfl
 rintro _ rfl;cases hr with
 |t0 h1 h2=>refine⟨_,rfl,(cA mg "exchanged",QB mg),.head _,rfl,cA mg "NoTurn",⟨sd,cl,d,rfl,h3,⟨h1,h2⟩,rfl⟩,L.XS,L.ZS,rfl,by decide,trivial,?_⟩;exact⟨_,x,rfl,hw,λo=>q _⟩
 |t1 h1=>refine⟨_,rfl,(cA mg "mirrored",RB mg),.tail _<|.head _,rfl,cA mg "NoTurn",⟨sd,cl,d,rfl,h3,h1,rfl⟩,L.XS,L.ZS,rfl,by decide,trivial,?_⟩;exact⟨_,x,rfl,hw,λo=>q _⟩
 |t2 h1 h2=>refine⟨_,rfl,(cA mg "stretched",SB mg),.tail _<|.tail _<|.head _,rfl,cA mg "NoTurn",⟨sd,cl,d,rfl,h3,⟨h1,h2⟩,rfl⟩,L.XS,L.ZS,rfl,by decide,trivial,?_⟩;exact⟨_,x,rfl,hw,λo=>q _⟩
 |t3 h1 h2=>refine⟨_,rfl,(cA mg "box_exchanged",UB mg),.head _,rfl,_,rfl,cA mg "NoTurn",⟨sd,b,d,rfl,h3,⟨h1,h2⟩,rfl⟩,L.XS,L.ZS,rfl,by decide,trivial,?_⟩;exact⟨_,x,rfl,hw,λo=>q _⟩
 |t4 h1=>refine⟨_,rfl,(cA mg "box_mirrored",VB mg),.tail _<|.head _,rfl,_,rfl,cA mg "NoTurn",⟨sd,b,d,rfl,h3,h1,rfl⟩,L.XS,L.ZS,rfl,by decide,trivial,?_⟩;exact⟨_,x,rfl,hw,λo=>q _⟩
 |t5 h1 h2=>refine⟨_,rfl,(cA mg "box_stretched",WB mg),.tail _<|.tail _<|.head _,rfl,_,rfl,cA mg "NoTurn",⟨sd,b,d,rfl,h3,⟨h1,h2⟩,rfl⟩,L.XS,L.ZS,rfl,by decide,trivial,?_⟩;exact⟨_,x,rfl,hw,λo=>q _⟩
 |b3 gs e hg h1 h2=>subst e;refine⟨_,rfl,(cA mg "box_exchanged",Xq mg),.tail _<|.tail _<|.tail _<|.head _,rfl,_,rfl,cA mg "NoBox",⟨sd,gs,b,rfl,h3,hg,h1,h2,rfl⟩,L.Xt,L.Zl,rfl,by decide,trivial,?_⟩;exact⟨_,x,rfl,hw,λo=>q _⟩
 |b4 gs e hg h1 h2=>subst e;refine⟨_,rfl,(cA mg "box_mirrored",Yq mg),.tail _<|.tail _<|.tail _<|.tail _<|.head _,rfl,_,rfl,cA mg "NoBox",⟨sd,gs,b,rfl,h3,hg,h1,h2,rfl⟩,L.Xt,L.Zl,rfl,by decide,trivial,?_⟩;exact⟨_,x,rfl,hw,λo=>q _⟩
 |b5 gs e hg h1 h2=>subst e;refine⟨_,rfl,(cA mg "box_stretched",Zq mg),.tail _<|.tail _<|.tail _<|.tail _<|.tail _<|.head _,rfl,_,rfl,cA mg "NoBox",⟨sd,gs,b,rfl,h3,hg,h1,h2,rfl⟩,L.Xt,L.Zl,rfl,by decide,trivial,?_⟩;exact⟨_,x,rfl,hw,λo=>q _⟩
 |b6 h1 h2=>refine⟨cA mg "NoBox",⟨sd,cl,b,rfl,h3,⟨h1,h2⟩,rfl⟩,L.Xt,L.Zl,rfl,by decide,trivial,?_⟩;exact⟨_,x,rfl,hw,λo=>q _⟩
 |f2 fs e hsd hg hp hm=>subst e;refine⟨_,rfl,(cA mg "stretched",dz mg),.tail _<|.tail _<|.tail _<|.head _,rfl,cA mg "NoField",⟨sd,cl,fs,rfl,hsd,hg,hp,hm,rfl⟩,L.Za,L.Jg,rfl,by decide,trivial,?_⟩;exact⟨_,x,rfl,hw,λo=>q _⟩
variable (P w K mg base) in
structure CalsAm:Prop where
 Ya:Cal P w K mg base 5 "stretched" ["field","factors"] (dQ K lC)
 We:Cal P w K mg base 1 "_law_word" ["_law_caught"] (dQ K<|gz mg)
def lz:Con:=λargs Q=>∃(sd cl fs:Qa) (b:PyData),args=[.fz<|.int 2,.fz<|nX sd cl,.fz b,.fz<|tupD fs]/\Sd sd/\cl.length=(iW sd).length/\fs.length=sd.length/\(∀f∈fs,1<=f/\f<=1000)/\Sd (NX sd fs)/\∀o,Q (.fz<|.str "") o
theorem Nj{f:Addr}(F:Ws K "_law_asked" (top 59) f fd)(T:Txt mg)(C:CalsAm P w K mg base):FnOk P w K mg base OX 8 f fd ["_law_way","_law_field_here","_law_box_here","_law_thing"] (dQ K lz):=by
 have S:=kz;refine bK F S (λcdv A outer s H E hr=>bQ (CQ 4 wK)<|bQ (CQ 5<|HQ (eQ (XJ T.Xa)<|eQ (XJ T.Xb)<|cQ<|XJ T.Xc) (hl:=by show 3<=1000;decide))<|bQ (CQ 6<|HQ (eQ (XJ T.Xd)<|eQ (XJ T.Xe)<|cQ<|XJ T.Xf) (hl:=by show 3<=1000;decide))<|bQ (nM<|AQ<|qX (jZ iV lW (wn 0) pQ) (AQ<|tX<|Dq (k:=6) rfl (uj C.Ya (by decide) pG) hr.m (HX (wn 5)<|wn 0)<|wQ 1<|mQ 3)<|AQ<|qX (jZ iV lW (wn 0) pQ) (AQ<|tX<|Dq (k:=6) rfl pG hr.m (HX (wn 6)<|wx<|TJ (wn 0) pQ)<|eQ (HX (wn 1) pQ)<|wQ 2<|mQ 3)<|AQ LJ)<|bQ (qX (jZ Fw kx (wn 4)<|wx wK) (RQ GQ) KQ)<|RQ<|QQ C.We hr.m<|mQ 4) ?_;rintro args Qd ⟨sd,cl,fs,b,rfl,hsd,hcl,hfl,hf,hs2,q⟩;with_reducible refine iX (λρ=>ρ=[ZA<|.int 2,ZA<|nX sd cl,ZA b,ZA<|tupD fs,ZA .none,none,none,none]) ?_ ?_
 .intro N hN;exact hN _ rfl
 rintro _ rfl;with_reducible refine iX (λρ=>ρ=[ZA<|.int 2,ZA<|nX sd cl,ZA b,ZA<|tupD fs,ZA .none,YA<|.list [nW<|cA mg "exchanged",nW<|cA mg "mirrored",nW<|cA mg "stretched"],none,none]) ?_ ?_
 .intro N hN;exact hN _ rfl
 rintro _ rfl;with_reducible refine iX (λρ=>ρ=[ZA<|.int 2,ZA<|nX sd cl,ZA b,ZA<|tupD fs,ZA .none,YA<|.list [nW<|cA mg "exchanged",nW<|cA mg "mirrored",nW<|cA mg "stretched"],YA<|.list [nW<|cA mg "box_exchanged",nW<|cA mg "box_mirrored",nW<|cA mg "box_stretched"],none]) ?_ ?_
 .intro N hN;exact hN _ rfl
 rintro _ rfl;refine⟨_,rfl,(cA mg "stretched",lC),.head _,rfl,sd,cl,fs,rfl,hsd,hcl,hfl,hf,hs2,λo=>?_⟩;exact q _
theorem uH{xs:List PyData}(h:xs.length≠n):rY n (.tuple xs)=false:=by show (decide (xs.length=n)&&xs.all UV)=false;rw[decide_eq_false h];rfl
theorem mz{xs:List PyData}{x:PyData}(hx:x∈xs)(hi:UV x=false):xs.all UV=false:=by rw[B5];intro z;have:=K2.mp z x hx;rw[hi]at this;cases this
theorem Wv{xs:List PyData}{x:PyData}(hx:x∈xs)(hi:UV x=false):rY n (.tuple xs)=false:=by show (decide (xs.length=n)&&xs.all UV)=false;rw[mz hx hi,X8]
theorem PV(h:os.length=n->¬os.Perm (rng n)):iY n (tupD os):=by
 by_cases z:os.length=n
 .exact .inr ⟨os,rfl,z,h z⟩
 .exact .inl (uH<|by rw[B0];exact z)
theorem uC{x:Int}(hx:x∈os)(h:x<0\/(n:Int)<=x):iY n (tupD os):=PV λ_ p=>by
 have:=rH<|p.mem_iff.mp hx
 lia
theorem vC(h:¬os.Nodup):iY n (tupD os):=PV λ_ p=>h ((p.nodup_iff).mpr<|by unfold rng;rw[m6,Y3];exact L8.imp λh=>by lia)
theorem Xv{ms:Qa}(h1:ms.Perm os)(h2:ms.Pairwise (·<=·))(h:ms≠rng n):iY n (tupD os):=PV λ_ p=>h<|List.Perm.eq_of_pairwise (λa b _ _ h1 h2=>by lia) h2 (Kv _)<|h1.trans p
theorem wC{fs:Qa}{x:Int}(hx:x∈fs)(h:x<1):NV n (tupD fs):=by
 by_cases z:fs.length=n
 .exact .inr ⟨fs,rfl,z,x,hx,h⟩
 .exact .inl (uH<|by rw[B0];exact z)
theorem xP{d:PyData}(hd:RX d=true)(h:∀ds,d≠.tuple ds):HK n d:=.inl ⟨hd,λds e=>(h ds e).elim⟩
theorem gN{xs:List PyData}{x:PyData}(hd:RX (.tuple xs)=true)(hx:x∈xs)(hi:UV x=false)(hl:xs.length<=1000):HK n (.tuple xs):=.inl ⟨hd,λds e=>by injection e with e;subst e;exact⟨mz hx hi,hl⟩⟩
theorem iN(n:Int):(rng n).Pairwise (· < ·):=by unfold rng;rw[Y3];exact L8.imp λh=>by lia
theorem jN{sm:Qa}{x:Int}(hl:sm.length<=1000)(hx:x∈sm)(h:x<0\/(n:Int)<=x):HK n (tupD sm):=.inr ⟨sm,rfl,hl,λe=>by
  rw[<-e]at hx;have:=rH (B7.mp hx).1
  lia⟩
theorem yP{sm:Qa}(hl:sm.length<=1000)(h:¬sm.Pairwise (· < ·)):HK n (tupD sm):=.inr ⟨sm,rfl,hl,λe=>h<|by rw[<-e];exact(iN n).filter _⟩
theorem Oj:∀{a b:Qa},a.Pairwise (· < ·)->b.Pairwise (· < ·)->(∀x,x∈a↔x∈b)->a=b:=by
 intro a b h1 h2 h;have n1:a.Nodup:=h1.imp λz=>by lia
 have n2:b.Nodup:=h2.imp λz=>by lia
 exact List.Perm.eq_of_pairwise (λx y _ _ z1 z2=>by lia) h1 h2<|(List.perm_ext_iff_of_nodup n1 n2).mpr h
theorem kN(row:Qa)(k:Int):k∈firstMet (λi=>row.getD i 0) row.length↔k∈row:=by
 have h:=firstMet_any (λi=>row.getD i 0) row.length k;have e:(Z1 row.length).map (λi=>row.getD i 0)=row:=t8 (by simp) λi h1 h2=>by rw[List.getElem_map,L9,i6,R0 h2];rfl
 rw[e]at h;constructor
 .intro z;have:row.any (·==k)=true:=by rw[<-h];exact X3.mpr ⟨k,z,by simp⟩
  obtain⟨y,hy,e⟩:=X3.mp this;rw[<-eq_of_beq e];exact hy
 .intro z;have:(firstMet (λi=>row.getD i 0) row.length).any (·==k)=true:=by rw[h];exact X3.mpr ⟨k,z,by simp⟩
  obtain⟨y,hy,e⟩:=X3.mp this;rw[<-eq_of_beq e];exact hy
theorem KG(val:Nat->Int):∀i,(firstMet val i).Nodup
 |0=>List.nodup_nil
 |i+1=>by
  have ih:=KG val i;rw[firstMet_succ];unfold step_dedup;split
  .exact ih
  .rename_i h;rw[T6];refine⟨ih,by simp,λa ha b hb e=>h ?_⟩;rw[Y0]at hb;subst hb;subst e;exact X3.mpr ⟨_,ha,by simp⟩
theorem Yv{row ms:Qa}(h1:ms.Perm (firstMet (λi=>row.getD i 0) row.length))(h2:ms.Pairwise (·<=·))(h:ms≠row):¬row.Pairwise (· < ·):=λz=>h (by
  have nd:ms.Nodup:=(h1.nodup_iff).mpr<|KG _ _;refine Oj ?_ z λx=>by rw[h1.mem_iff,kN]
  have:=List.pairwise_and_iff.mpr ⟨h2,m6.mp nd⟩;exact this.imp λ⟨a,b⟩=>by lia)
def HZ(v:Int)(n:Nat)(d:PyData):Prop:=(v=0/\RX d=true/\iY n d)\/(v=1/\HK n d)\/(v=2/\RX d=true/\NV n d)
theorem QV(k:Int)(x:PyData):(A0 k.toNat [x]).flatten=A0 k.toNat x:=by
 generalize k.toNat=m;induction m with
 |zero=>rfl
 |succ m ih=>rw[G2,K4,ih,G2];rfl
theorem BD(k:Int)(x:Int):G1 (A0 k.toNat [p0 x]).flatten=tupD (A0 k.toNat x):=by rw[QV];show _=G1 ((A0 k.toNat x).map p0);rw[Y2]
theorem FX{k:Int}{x:PyData}(h:k<=1000):[x].length*k.toNat<=sizeLine:=fQ (by show 1*k.toNat<=1000;lia)
theorem WJ{v:Int}{xs:List PyData}(hv:v=0\/v=2)(h:xs.length≠n)(ho:okAll xs=true):HZ v n (.tuple xs):=by
 rcases hv with rfl|rfl
 .exact .inl ⟨rfl,ho,.inl<|uH h⟩
 .exact .inr (.inr ⟨rfl,ho,.inl<|uH h⟩)
theorem vH{v:Int}{xs:List PyData}{x:PyData}(hv:v=0\/v=1\/v=2)(hx:x∈xs)(hi:UV x=false)(hl:xs.length<=1000)(ho:okAll xs=true):HZ v n (.tuple xs):=by
 rcases hv with rfl|rfl|rfl
 .exact .inl ⟨rfl,ho,.inl<|Wv hx hi⟩
 .exact .inr (.inl ⟨rfl,gN ho hx hi hl⟩)
 .exact .inr (.inr ⟨rfl,ho,.inl<|Wv hx hi⟩)
theorem KK{v:Int}{d:PyData}(hv:v=0\/v=1\/v=2)(hd:RX d=true)(h:∀ds,d≠.tuple ds):HZ v n d:=by
 have e:rY n d=false:=by cases d<;>first|rfl|exact(h _ rfl).elim
 rcases hv with rfl|rfl|rfl
 .exact .inl ⟨rfl,hd,.inl e⟩
 .exact .inr (.inl ⟨rfl,xP hd h⟩)
 .exact .inr (.inr ⟨rfl,hd,.inl e⟩)
theorem IZ{v:Int}{xs:List PyData}{x:Int}(hv:v=0\/v=1)(e:xs=os.map p0)(hx:x∈os)(h:x<0\/(n:Int)<=x)(hl:os.length<=1000):HZ v n (.tuple xs):=by
 subst e;rcases hv with rfl|rfl
 .exact .inl ⟨rfl,bJ os,uC hx h⟩
 .exact .inr (.inl ⟨rfl,jN hl hx h⟩)
theorem wH{xs:List PyData}{x:Int}(e:xs=os.map p0)(hx:x∈os)(h:x<1):HZ 2 n (.tuple xs):=by subst e;exact .inr<|.inr ⟨rfl,bJ os,wC hx h⟩
theorem DD{xs:List PyData}(e:xs=os.map p0)(h:¬os.Pairwise (· < ·))(hl:os.length<=1000):HZ 1 n (.tuple xs):=by subst e;exact .inr<|.inl ⟨rfl,yP hl h⟩
theorem xC{xs:List PyData}(e:xs=os.map p0)(h:¬os.Nodup):HZ 0 n (.tuple xs):=by subst e;exact .inl ⟨rfl,bJ os,vC h⟩
theorem Zv(k:Int)(x:PyData)(h:RX x=true):okAll (A0 k.toNat [x]).flatten=true:=by
 rw[QV];generalize k.toNat=m;induction m with
 |zero=>rfl
 |succ m ih=>rw[G2,okAll,h,ih];rfl
theorem jJ(k:Int)(x:PyData):(A0 k.toNat [x]).flatten.length=k.toNat:=by rw[QV,V1]
theorem ED{m:Nat}(n1:1<=n)(n3:n<=3)(m1:1<=m)(m3:m<=3):Sd (A0 m (n:Int))/\prodI (A0 m (n:Int))<=27:=by rcases (show n=1\/n=2\/n=3 by lia) with rfl|rfl|rfl<;>rcases (show m=1\/m=2\/m=3 by lia) with rfl|rfl|rfl<;>exact⟨⟨by decide,by decide,by decide,by decide⟩,by decide⟩
def yC(v:Int)(n:Nat)(gs:Qa):Prop:=(v=0/\XB n gs)\/(v=1/\YB n gs)\/(v=2/\gs=A0 n 1)
theorem ay{ks:List Nat}{ti:OG}{g:nJ}{tb:LZ}{E:DE}(ds:List PyData)(ρ':Ev)(h:∀Q:List PyData->Ev->Prop,Q ds ρ'->ti ρ Q)(w:NZ ks g tb E ds (clean ks ρ')):zU ks ti g tb E ρ:=h _ w
theorem zC{v:Int}{gs:Qa}{m j:Nat}{d:PyData}(hv:v=0\/v=1\/v=2)(gl:gs.length<=3)(hd:(UV d=false/\RX d=true)\/d=.int (-1)):HZ v n (.tuple<|((gs.map p0).take m++[d])++(gs.map p0).drop j):=by
 have ll:(((gs.map p0).take m++[d])++(gs.map p0).drop j).length<=1000:=by
  simp only[M0,j2,U2,B0,Y1,G6]
  lia
 rcases hd with⟨h1,h2⟩|rfl
 .refine vH hv (x:=d) (by simp) h1 ll ?_;rw[MQ,MQ,vZ,<-j8,aX];show (_&&(RX d&&true)&&true)=true;rw[h2];rfl
 .have e:(((gs.map p0).take m++[p0<|-1])++(gs.map p0).drop j)=((gs.take m++[-1])++gs.drop j).map p0:=by
   rw[N1,N1,i8,j8];rfl
  have l2:((gs.take m++[-1])++gs.drop j).length<=1000:=by rw[e,B0]at ll;exact ll
  rcases hv with rfl|rfl|rfl
  .exact IZ (.inl rfl) e (x:=-1) (by simp) (.inl<|by decide) l2
  .exact IZ (.inr rfl) e (x:=-1) (by simp) (.inl<|by decide) l2
  .exact wH e (x:=-1) (by simp) (by decide)
variable (P w K mg base) in
structure CalsOd:Prop where
 Wf:Cal P w K mg base 2 "_law_order" ["_law_pen_here","_law_ways"] (dQ K cN)
 Wg:Cal P w K mg base 2 "_law_some" ["_law_pen_here","_law_ways"] (dQ K eN)
 Js:Cal P w K mg base 1 "_law_take" ["_law_pen_here","_law_many"] (dQ K EG)
 JT:Cal P w K mg base 2 "_law_all" ["_law_sides_here"] (dQ K xv)
def zP:Con:=λargs Q=>∃(ns:Qa) (k l:Int) (n:Nat) (v:Int),args=[.io<|SQ ns k l,.fz<|.int n,.fz<|.int v]/\0<=k/\0<=l/\1<=n/\n<=3/\0<=v/\v<=2/\∀(ds:List PyData) (k' l':Int) (o:Ev),(∀d∈ds,HZ v n d)->ds.length<=1000->0<=k'->0<=l'->Q (.ow<|.list ds) (some (.io<|SQ ns k' l')::o)
theorem lN{f:Addr}(F:Ws K "_law_odd" (top 60) f fd)(T:Txt mg)(C:CalsOd P w K mg base):FnOk P w K mg base OX 3 f fd ["_law_pen_here","_law_ways","_law_way"] (dQ K zP):=by
 have S:FnScope ["_law_pen_here","_law_ways","_law_way","_law_good","_law_rows","_law_at","_law_one"] ["_law_pen_here","_law_ways","_law_way"] (aQ<|top 60):={};refine bK F S (λcdv A outer s H E hr=>bQ (CQ 3<|HX (wx<|HQ<|eQ (WQ C.Wf hr.m<|wQ 0<|mQ 1)<|eQ (WQ C.Wg hr.m<|wQ 0<|mQ 1)<|cQ<|DQ hX gX (wx<|jQ<|cQ gQ)<|wn 1)<|wn 2)<|bQ (CQ 4<|HQ<|eQ (gW rfl (wn 3)<|wx<|xK pQ)<|eQ (LQ (wn 3)<|wx<|jQ<|cQ gQ)<|eQ (LQ (wx<|DQ hX gX (wx<|jQ<|cQ gQ)<|wx<|TJ (wn 1) pQ)<|wx<|jQ<|cQ gQ)<|eQ (DQ hX gX (wx<|jQ<|cQ gQ)<|wx<|LQ (wn 1) pQ)<|cQ<|DQ hX gX (wx<|jQ<|cQ gQ)<|wx<|LQ (wn 1) pQ)<|bQ (CQ 4<|LQ (wn 4)<|wx<|EY ["_law_one"] [1] (lX rfl<|jQ<|eQ gQ<|eQ DZ<|eQ wK<|cQ<|xK pQ)<|λ_ _ _ _=>LQ (wx<|DQ hX gX (wx<|jQ<|cQ gQ)<|wx<|TJ (wn 1) pQ)<|wx<|jQ<|cQ<|wv 0)<|bQ (qX (Ej hr (wn 2) pQ) (bQ (CQ 4<|HQ<|eQ (gW rfl (wn 3)<|wx<|xK pQ)<|eQ (LQ (wn 3)<|wx<|jQ<|cQ<|wv 1)<|eQ (LQ (wn 3)<|wx<|gW rfl (wn 3) pQ)<|eQ (LQ (wx<|gW rfl (wn 3)<|wx<|xK pQ)<|wx<|jQ<|cQ<|wv 1)<|cQ<|LQ (wx<|DQ hX gX (wx<|jQ<|cQ gQ)<|wn 1)<|wx<|DQ hX gX (wx<|jQ<|cQ gQ)<|wx<|iZ tF MY T.Qr boot_int<|cQ<|rW yU (cW (K:=K) rfl hr.units) (wn 1) pQ)<|AQ<|CQ 4<|LQ (wn 4)<|wx<|Fj ["_law_row"] [1] (lX rfl<|QQ C.JT hr.m<|cQ<|DQ hX gX (wx<|jQ<|cQ<|wv 1)<|wn 1) (λ_ _ _ _=>OL<|qJ hr (wx<|eX EV pY T.QT boot_sorted<|mQ 0)<|wx<|Vw rfl T.Qo T.Qt<|mQ 1)<|λ_ _ _ _=>wv 0) KQ)<|bQ (qX (Ej hr (wn 2) pQ) (bQ (CQ 4<|HQ<|eQ (LQ (wn 3)<|wx<|jQ<|cQ<|wv 1)<|eQ (LQ (wx<|jQ<|cQ<|xK pQ)<|wn 3)<|eQ (jQ<|eQ gQ<|cQ gQ)<|eQ (jQ<|cQ<|wv 1)<|cQ<|LQ (wx<|jQ<|eQ (TJ (wn 1) pQ)<|cQ gQ)<|wn 3)<|AQ<|CQ 4<|LQ (wn 4)<|wx<|Fj ["_law_row"] [] (lX rfl<|LQ (wx<|QQ C.JT hr.m<|cQ<|DQ hX gX (wx<|jQ<|cQ<|wv 1) pQ)<|wx<|QQ C.JT hr.m<|cQ<|DQ hX gX (wx<|jQ<|cQ<|wv 1) pQ) (λ_ _ _ _=>OL<|qJ hr (wx<|kD rfl rfl T.QT T.QA<|mQ 0)<|wx<|iZ QK (rZ (K:=K) rfl) T.Qo boot_list<|mQ 0)<|λ_ _ _ _=>wv 0) KQ)<|bQ (CQ 5<|WQ C.Js hr.m<|wQ 0<|mQ 1)<|bQ (SJ [6] (lX rfl<|jQ<|eQ DZ<|eQ DZ<|eQ wK<|eQ GQ<|eQ (xK pQ)<|eQ (jQ<|cQ gQ)<|cQ<|HQ<|cQ gQ) (rX 6)<|AQ<|tX<|Pj BX rfl PySem.F.slot_list_append PySem.F.type_list_append AX (wn 4)<|cQ<|LQ (wx<|LQ (wx<|gW rfl (wn 3)<|wn 5)<|wx<|jQ<|cQ<|wv 6)<|wx<|Ww rfl (wn 3)<|wx<|LQ (wn 5) pQ)<|bQ (qX (jZ iV lW (wn 2) pQ) (AQ<|CQ 4<|LQ (wn 4)<|wx<|HQ<|eQ (DQ hX gX (wx<|jQ<|cQ<|DQ JJ yJ pQ pQ)<|wn 1)<|eQ (LQ (wx<|gW rfl (wn 3)<|wx<|xK pQ)<|wx<|jQ<|cQ<|DQ JJ yJ pQ pQ)<|cQ<|LQ (wx<|jQ<|cQ<|xK<|wx<|DQ JJ yJ pQ pQ)<|wx<|Ww rfl (wn 3) pQ) KQ)<|RQ<|LQ (wn 4)<|wx<|HQ<|eQ (iZ QK (rZ (K:=K) rfl) T.Qo boot_list<|mQ 3)<|eQ wK<|eQ gQ<|eQ DZ<|eQ GQ<|eQ IF<|eQ (HQ VQ)<|cQ<|AM (wx GQ)<|wn 1) ?_;rintro args Qd ⟨ns,k,l,n,v,rfl,hk,hl,n1,n3,v0,v2,q⟩;have nn:((n:Int)).toNat=n:=by lia
 with_reducible refine iX (λρ=>∃(gs:Qa) (k l:Int),yC v n gs/\(0<=k/\0<=l)/\ρ=[some<|.io<|SQ ns k l,ZA<|.int n,ZA<|.int v,ZA<|tupD gs,none,none,none]) ?_ ?_
 .intro N hN;refine⟨ns,k,l,n,rfl,hk,hl,n3,λod k1 l1 _ ho hk1 hl1=>?_⟩;refine⟨ns,k1,l1,n,rfl,hk1,hl1,n3,λsm k2 l2 _ hs hk2 hl2=>?_⟩;refine⟨by simp,by lia,by lia,FX<|by lia,?_⟩;have fin:∀gs,yC v n gs->N [some<|.io<|SQ ns k2 l2,ZA<|.int n,ZA<|.int v,ZA<|tupD gs,none,none,none]:=λgs hg=>hN _ ⟨gs,k2,l2,hg,⟨hk2,hl2⟩,rfl⟩;rcases (show v=0\/v=1\/v=2 by lia) with rfl|rfl|rfl
  .exact⟨_,rfl,fin od<|.inl ⟨rfl,ho.l,ho.p⟩⟩
  .exact⟨_,rfl,fin sm<|.inr<|.inl ⟨rfl,hs⟩⟩
  .refine⟨_,rfl,?_⟩;have:=fin (A0 n 1)<|.inr<|.inr ⟨rfl,rfl⟩;have e:G1 (A0 ((n:Int)).toNat [p0 1]).flatten=tupD (A0 n 1):=by rw[BD,nn]
   rw[<-e]at this;exact this
 clear hk hl;rintro _ ⟨gs,k,l,hg,⟨hk,hl⟩,rfl⟩;have gl:gs.length<=3:=by
  rcases hg with⟨_,h⟩|⟨_,h⟩|⟨_,h⟩
  .have:=h.1;lia
  .have:=List.length_filter_le (λw=>decide<|w∈gs)<|rng n;rw[h.2,ZZ]at this
   lia
  .rw[h,V1];lia
 with_reducible refine iX (λρ=>∃ds:List PyData,ds.length<=20/\(v=2->∀d∈ds,HZ v n d)/\ρ=[some<|.io<|SQ ns k l,ZA<|.int n,ZA<|.int v,ZA<|tupD gs,YA<|.list ds,none,none]) ?_ ?_
 .intro N hN;have hgm:(gs.map p0).length=gs.length:=B0 ..;refine⟨by rw[hgm];exact fQ (by show gs.length+1<=1000;lia),?_⟩;refine⟨by simp,by lia,by lia,FX<|by lia,?_⟩;refine⟨by rw[jJ];exact fQ (by show ((n:Int)-1).toNat+1<=1000;lia),?_⟩;refine⟨by simp,by lia,by lia,FX<|by lia,?_⟩;refine⟨by simp,by lia,by lia,FX<|by lia,?_⟩;refine hN _ ⟨_,by show 5<=20;decide,λhv d hd=>?_,rfl⟩;subst hv;rcases hg with⟨z,_⟩|⟨z,_⟩|⟨_,hg⟩
  .cases z
  .cases z
  have hgl:gs.length=n:=by rw[hg,V1]
  simp only[P0,O1,or_false]at hd;rcases hd with rfl|rfl|rfl|rfl|rfl
  .refine WJ (.inr rfl) ?_ ((vZ gs _));rw[j2,hgm,if_pos<|by decide]
   lia
  .refine WJ (.inr rfl) (by rw[M0,hgm];show gs.length+1≠n;lia) ?_;rw[MQ,aX];rfl
  .refine wH (os:=A0 ((n:Int)-1).toNat 1++[0]) (x:=0) ?_ (by simp) (by decide);rw[QV,N1,Y2];rfl
  .exact WJ (.inr rfl) (by rw[jJ];lia) (Zv _ _ rfl)
  .exact WJ (.inr rfl) (by rw[jJ];lia) (Zv _ _ rfl)
 rintro _ ⟨ds,dl,hd,rfl⟩;with_reducible refine iX (λρ=>∃ds:List PyData,ds.length<=30/\(v=2->∀d∈ds,HZ v n d)/\ρ=[some<|.io<|SQ ns k l,ZA<|.int n,ZA<|.int v,ZA<|tupD gs,YA<|.list ds,none,none]) ?_ ?_
 .intro N hN;have lr:((A0 ((n:Int)-1).toNat [p0 121]).flatten).length<=3:=by rw[jJ];lia
  refine⟨by show 4<=sizeLine;decide,pJ (λd=>.tuple<|(A0 ((n:Int)-1).toNat [p0 121]).flatten++[d]) (λd hd R hR=>?_) ?_⟩
  .refine⟨by simp,by lia,by lia,FX<|by lia,?_⟩;exact⟨fQ (by show (A0 ((n:Int)-1).toNat [p0 121]).flatten.length+1<=1000;lia),hR⟩
  .refine⟨fQ (by show ds.length+4<=1000;lia),hN _ ⟨_,by rw[M0];show ds.length+4<=30;lia,λhv d hd2=>?_,rfl⟩⟩;rcases S1.mp hd2 with z|z
   .exact hd hv d z
   obtain⟨x,hx,rfl⟩:=S0.mp z;subst hv;have ho:∀y,RX y=true->okAll ((A0 ((n:Int)-1).toNat [p0 121]).flatten++[y])=true:=λy hy=>by rw[MQ,Zv _ _ rfl,okAll,hy];rfl
   have hz:∀y,((A0 ((n:Int)-1).toNat [p0 121]).flatten++[y]).length<=1000:=λy=>by rw[M0];show (A0 ((n:Int)-1).toNat [p0 121]).flatten.length+1<=1000;lia
   have lo:∀y:Int,y<1->HZ 2 n (.tuple<|(A0 ((n:Int)-1).toNat [p0 121]).flatten++[p0 y]):=λy hy=>by refine wH (os:=A0 ((n:Int)-1).toNat 121++[y]) (x:=y) ?_ (by simp) hy;rw[QV,N1,Y2];rfl
   simp only[P0,O1,or_false]at hx;rcases hx with rfl|rfl|rfl|rfl
   .exact lo 0 (by decide)
   .exact vH (.inr<|.inr rfl) (x:=.bool true) (A1 _<|Y0.mpr rfl) rfl (hz _) (ho _ rfl)
   .exact vH (.inr<|.inr rfl) (x:=.none) (A1 _<|Y0.mpr rfl) rfl (hz _) (ho _ rfl)
   .exact lo (-121) (by decide)
 clear dl hd;rintro _ ⟨ds2,dl,hd,rfl⟩;with_reducible refine iX (λρ=>∃ds:List PyData,ds.length<=50/\(v=2\/v=0->∀d∈ds,HZ v n d)/\ρ=[some<|.io<|SQ ns k l,ZA<|.int n,ZA<|.int v,ZA<|tupD gs,YA<|.list ds,none,none]) ?_ ?_
 .intro N hN;refine UX (λh=>?_)<|λh=>hN _ ⟨ds2,by lia,λz=>?_,rfl⟩
  rotate_left
  .rcases z with z|z
   .exact hd z
   .exact absurd (show decide (v=0)=true from decide_eq_true z) h
  have h:v=0:=of_decide_eq_true h;subst h;obtain⟨g1,g2⟩:XB n gs:=by
   rcases hg with⟨_,h⟩|⟨z,_⟩|⟨z,_⟩
   .exact h
   .cases z
   .cases z
  have hgm:(gs.map p0).length=n:=by rw[B0,g1]
  with_reducible refine iX (λρ=>∃ds:List PyData,ds.length<=20/\(∀d∈ds,HZ 0 n d)/\ρ=[some<|.io<|SQ ns k l,ZA<|.int n,ZA<|.int 0,ZA<|tupD gs,YA<|.list ds,none,none]) ?_ ?_
  .intro M hM;have ht:∀m:Nat,((gs.map p0).take m).length<=3:=λm=>by rw[j2,hgm];lia
   refine⟨fQ (by show (gs.map p0).length+1<=1000;lia),?_⟩;refine⟨fQ (by have:=ht 1;show (gs.map p0).length+((gs.map p0).take _).length<=1000;exact T1 (Nat.add_le_add (by lia)<|ht _)<|show 3+3<=1000 by decide),?_⟩;refine⟨fQ (by show ((gs.map p0).take _).length+1<=1000;exact T1 (G4 (ht _) 1)<|by decide),?_⟩;refine⟨by simp,by lia,by lia,FX<|by lia,?_⟩;have hq:∀q:Int,q=(if decide ((n:Int)=1)=true then 1 else 0)->0<=q/\q<=1/\(n=1->q=1):=λq e=>by
    rw[e];by_cases z:(n:Int)=1
    .rw[if_pos<|decide_eq_true z];exact⟨by decide,by decide,λ_=>rfl⟩
    .rw[if_neg<|by simpa using z];exact⟨by decide,by decide,λy=>absurd (by lia) z⟩
   obtain⟨q0,q1,q2⟩:=hq _ rfl;refine⟨by simp,q0,by exact Int.lt_of_le_of_lt q1<|by decide,FX (F8 q1<|by decide),?_⟩;generalize (if decide ((n:Int)=1)=true then (1:Int) else 0)=q at q0 q1 q2;refine⟨fQ (by rw[jJ,jJ];lia),?_⟩;refine hM _ ⟨_,by show 5<=20;decide,λd hd=>?_,rfl⟩;simp only[P0,O1,or_false]at hd;rcases hd with rfl|rfl|rfl|rfl|rfl
   .refine WJ (.inl rfl) ?_ (vZ gs _);rw[j2,hgm,if_pos<|by decide]
    lia
   .refine WJ (.inl rfl) (by rw[M0,hgm];show n+1≠n;lia) ?_;rw[MQ,aX];rfl
   .refine WJ (.inl rfl) ?_ (by rw[MQ,aX,vZ];rfl);rw[M0,j2,hgm,if_neg<|by decide];show n+min 1 n≠n
    lia
   .refine IZ (.inl rfl) (os:=gs.take (if (-1:Int)<0 then (-1+((gs.map p0).length:Int)).toNat else (-1:Int).toNat)++[(n:Int)]) (x:=n) (by rw[N1,i8];rfl) (by simp) (.inr<|T7 _) (by rw[M0,j2];show _+1<=1000;lia)
   .refine xC (os:=A0 n 0++A0 q.toNat 0) (by rw[QV,QV,N1,Y2,Y2,nn];rfl) ?_;rcases (show n=1\/n=2\/n=3 by lia) with z|z|z
    .rw[q2 z,z];decide
    .rw[z];intro y;have:=(T6.mp y).1;revert this;decide
    .rw[z];intro y;have:=(T6.mp y).1;revert this;decide
  clear dl hd;rintro _ ⟨ds3,dl,hd,rfl⟩;obtain⟨hs,h27⟩:=ED (m:=n) n1 n3 n1 n3;generalize hsd:A0 n (n:Int)=sd at hs h27;have hpl:=aJ hs.p;refine⟨by simp,by lia,by lia,FX<|by lia,?_⟩;refine⟨_,sd,rfl,.inr (by rw[<-hsd];show G1 (A0 ((n:Int)).toNat [p0 n]).flatten=_;rw[BD,nn]),hs,by lia,λo=>?_⟩;refine⟨by rw[B0];exact fQ<|by lia,?_⟩;refine lV (λrest acc τ=>∃dn rs:List Qa,iW sd=dn++rs/\rest=rs.map tupD/\(∀d∈acc,HZ 0 n d)/\acc.length<=dn.length/\τ=[none,ZA<|.int n]) ?_ ?_ ⟨[],iW sd,rfl,rfl,λd hd=>(by cases hd),O0 _,rfl⟩
  .rintro d ds' acc τ ⟨dn,rs,es,er,ha,hal,rfl⟩ N' hN';cases rs with
   |nil=>cases er
   |cons p rs =>
    cases er;have hpn:p.length<=3:=by
     have:=HV (GV (p:=p) (sd:=sd)<|by rw[es];simp);rw[<-hsd,V1]at this
     lia
    refine⟨p,rfl,by lia,λms h1 h2=>?_⟩;refine⟨⟨by decide,by decide,by lia,by lia⟩,by lia,?_⟩;rw[pX];have hw:=uZ ms;have hw2:=uZ<|rng n;refine⟨hw.p,hw2.p,hw.sh<|by decide,hw2.sh<|by decide,CZ _ _,?_⟩;refine UX (λh=>?_)<|λh=>?_
    .have h:(!sameAll (ms.map p0) ((rng n).map p0))=true:=h;rw[oZ]at h;have hne:ms≠rng n:=by simpa using h
     refine hN' _ _ ⟨dn++[p],rs,by rw[es];simp,rfl,λd hd=>?_,by rw[M0,M0];exact G4 hal 1,rfl⟩;rcases S1.mp hd with z|z
     .exact ha d z
     .rw[Y0.mp z];exact .inl ⟨rfl,bJ p,Xv h1 h2 hne⟩
    .exact hN' _ _ ⟨dn++[p],rs,by rw[es];simp,rfl,ha,by rw[M0];lia,rfl⟩
  .rintro acc τ ⟨dn,rs,es,er,ha,hal,rfl⟩;have hdl:dn.length<=27:=by
    have:=congrArg A4 es;rw[M0]at this
    lia
   refine⟨fQ<|by lia,hN _ ⟨ds3++acc,by rw[M0];lia,λ_ d hd2=>?_,rfl⟩⟩;rcases S1.mp hd2 with z|z
   .exact hd d z
   .exact ha d z
 clear dl hd;rintro _ ⟨ds3,dl,hd,rfl⟩;with_reducible refine iX (λρ=>∃ds:List PyData,ds.length<=100/\(∀d∈ds,HZ v n d)/\ρ=[some<|.io<|SQ ns k l,ZA<|.int n,ZA<|.int v,ZA<|tupD gs,YA<|.list ds,none,none]) ?_ ?_
 .intro N hN;refine UX (λh=>?_)<|λh=>hN _ ⟨ds3,by lia,hd (by
    have h:¬v=1:=λz=>h<|show decide (v=1)=true from decide_eq_true z
    lia),rfl⟩;have h:v=1:=of_decide_eq_true h;subst h;obtain⟨g1,g2⟩:YB n gs:=by
   rcases hg with⟨z,_⟩|⟨_,h⟩|⟨z,_⟩
   .cases z
   .exact h
   .cases z
  have hgm:(gs.map p0).length=gs.length:=B0 ..;clear dl hd;with_reducible refine iX (λρ=>∃ds:List PyData,ds.length<=20/\(∀d∈ds,HZ 1 n d)/\ρ=[some<|.io<|SQ ns k l,ZA<|.int n,ZA<|.int 1,ZA<|tupD gs,YA<|.list ds,none,none]) ?_ ?_
  .intro M hM;refine⟨fQ (by show (gs.map p0).length+1<=1000;lia),?_⟩;refine⟨fQ (by show 1+(gs.map p0).length<=1000;lia),?_⟩;refine⟨fQ (by show 2+(gs.map p0).length<=1000;lia),?_⟩;refine hM _ ⟨_,by show 5<=20;decide,λd hd=>?_,rfl⟩;simp only[P0,O1,or_false]at hd;rcases hd with rfl|rfl|rfl|rfl|rfl
   .exact IZ (.inr rfl) (os:=gs++[(n:Int)]) (x:=n) (by rw[N1];rfl) (by simp) (.inr<|T7 _) (by rw[M0];show gs.length+1<=1000;lia)
   .exact IZ (.inr rfl) (os:=(-1)::gs) (x:=-1) rfl (by simp) (.inl<|by decide) (by show gs.length+1<=1000;lia)
   .exact DD (os:=[0,0]) rfl (by decide) (by decide)
   .exact IZ (.inr rfl) (os:=[(n:Int)]) (x:=n) rfl (by simp) (.inr<|T7 _) (by show 1<=1000;decide)
   .refine DD (os:=((n:Int)-1)::0::gs) rfl (λy=>?_) (by show gs.length+1+1<=1000;lia);have:=(i5.mp y).1 0 (by simp)
    lia
  rintro _ ⟨ds4,dl,hd,rfl⟩;obtain⟨hs2,h27⟩:=ED (m:=2) n1 n3 (by decide) (by decide);obtain⟨hs3,h28⟩:=ED (m:=3) n1 n3 (by decide) (by decide);generalize hsd2:A0 2 (n:Int)=sd2 at hs2 h27;generalize hsd3:A0 3 (n:Int)=sd3 at hs3 h28;have hpl2:=aJ hs2.p;have hpl3:=aJ hs3.p;refine⟨by simp,by decide,by decide,FX<|by decide,?_⟩;refine⟨_,sd2,rfl,.inr (by rw[<-hsd2];show G1 (A0 ((2:Int)).toNat [p0 n]).flatten=_;rw[BD];rfl),hs2,by lia,λo=>?_⟩;refine⟨by simp,by decide,by decide,FX<|by decide,?_⟩;refine⟨_,sd3,rfl,.inr (by rw[<-hsd3];show G1 (A0 ((3:Int)).toNat [p0 n]).flatten=_;rw[BD];rfl),hs3,by lia,λo=>?_⟩;refine⟨by rw[B0,B0];exact fQ<|by lia,?_⟩;rw[<-N1];have hpl:(iW sd2++iW sd3).length<=54:=by rw[M0];lia
  have hpn:∀p∈iW sd2++iW sd3,p.length<=3:=λp hp=>by
   rcases S1.mp hp with z|z
   .have:=HV<|GV z;rw[<-hsd2,V1]at this
    lia
   .have:=HV<|GV z;rw[<-hsd3,V1]at this
    lia
  generalize iW sd2++iW sd3=pl at hpl hpn;refine⟨by rw[B0];exact fQ<|by lia,?_⟩;refine lV (λrest acc τ=>∃dn rs:List Qa,pl=dn++rs/\rest=rs.map tupD/\(∀d∈acc,HZ 1 n d)/\acc.length<=dn.length/\τ=[none]) ?_ ?_ ⟨[],pl,rfl,rfl,λd hd=>(by cases hd),O0 _,rfl⟩
  .rintro d ds' acc τ ⟨dn,rs,es,er,ha,hal,rfl⟩ N' hN';cases rs with
   |nil=>cases er
   |cons p rs =>
    cases er;have hp3:=hpn p (by rw[es];simp);refine⟨p,rfl,X2 hp3<|by decide,λms h1 h2=>?_⟩;have hw:=uZ ms;have hw2:=uZ p;refine⟨hw.p,hw2.p,hw.sh<|by decide,hw2.sh<|by decide,CZ _ _,?_⟩;refine UX (λh=>?_)<|λh=>?_
    .have h:(!sameAll (ms.map p0) (p.map p0))=true:=h;rw[oZ]at h;have hne:ms≠p:=by simpa using h
     refine hN' _ _ ⟨dn++[p],rs,by rw[es];simp,rfl,λd hd=>?_,by rw[M0,M0];exact G4 hal 1,rfl⟩;rcases S1.mp hd with z|z
     .exact ha d z
     .rw[Y0.mp z];exact DD rfl (Yv h1 h2 hne) (by lia)
    .exact hN' _ _ ⟨dn++[p],rs,by rw[es];simp,rfl,ha,by rw[M0];lia,rfl⟩
  .rintro acc τ ⟨dn,rs,es,er,ha,hal,rfl⟩;have hdl:dn.length<=54:=by
    have:=congrArg A4 es;rw[M0]at this
    lia
   refine⟨fQ<|by lia,hN _ ⟨ds4++acc,by rw[M0];lia,λd hd2=>?_,rfl⟩⟩;rcases S1.mp hd2 with z|z
   .exact hd d z
   .exact ha d z
 clear dl hd;rintro _ ⟨ds4,dl,hd,rfl⟩;with_reducible refine iX (λρ=>∃(at':Nat) (k l:Int),at'<n/\(0<=k/\0<=l)/\ρ=[some<|.io<|SQ ns k l,ZA<|.int n,ZA<|.int v,ZA<|tupD gs,YA<|.list ds4,ZA<|.int at',none]) ?_ ?_
 .intro N hN;refine⟨ns,k,l,n,rfl,hk,hl,by lia,by lia,λr k1 l1 _ r0 r1 hk1 hl1=>?_⟩;exact hN _ ⟨r.toNat,k1,l1,by lia,⟨hk1,hl1⟩,by rw[A9 r0];rfl⟩
 clear hk hl k l;rintro _ ⟨at',k,l,ha,⟨hk,hl⟩,rfl⟩;with_reducible refine iX (λρ=>∃(ds:List PyData) (e:Option Sl),ds.length<=107/\(∀d∈ds,HZ v n d)/\ρ=[some<|.io<|SQ ns k l,ZA<|.int n,ZA<|.int v,ZA<|tupD gs,YA<|.list ds,ZA<|.int at',e]) ?_ ?_
 .intro N hN;have hgm:(gs.map p0).length=gs.length:=B0 ..;with_reducible refine ay [.bool true,.bool false,.none,.str "0",.int<|-1,.tuple [.int 0],.list [.int 0]] [some<|.io<|SQ ns k l,ZA<|.int n,ZA<|.int v,ZA<|tupD gs,YA<|.list ds4,ZA<|.int at',none] ?_ ?_
  .exact λQ h=>h
  with_reducible refine bZ (λrest ρ=>∃(ds:List PyData),(∀d∈rest,(UV d=false/\RX d=true)\/d=.int (-1))/\(∀d∈ds,HZ v n d)/\ds.length+rest.length<=107/\ρ=[some<|.io<|SQ ns k l,ZA<|.int n,ZA<|.int v,ZA<|tupD gs,YA<|.list ds,ZA<|.int at',none]) ?_ ?_ ⟨ds4,?_,hd,?_,rfl⟩
  .rintro d ds' ρ ⟨ds,hx,hb,hlen,rfl⟩ N2 hN2;rw[Y1]at hlen;have tk:∀m:Nat,((gs.map p0).take m).length<=3:=λm=>by rw[j2,hgm];lia
   have dr:∀m:Nat,((gs.map p0).drop m).length<=3:=λm=>by rw[U2,hgm];lia
   refine⟨fQ (T1 (G4 (tk _) 1)<|by decide),by lia,fQ (by rw[M0];exact T1 (Nat.add_le_add (G4 (tk _) 1)<|dr _)<|by decide),Q0 (show ds.length<1000 by lia)<|fQ<|O0 _,?_⟩;refine hN2 _ ⟨_,λy hy=>hx y<|K0 _ hy,λy hy=>?_,?_,rfl⟩
   .rcases S1.mp hy with z|z
    .exact hb y z
    .rw[Y0.mp z];exact zC (by lia) gl<|hx d L0
   .rw[M0];show ds.length+1+_<=107;lia
  .rintro ρ ⟨ds,_,hb,hlen,rfl⟩;exact hN _ ⟨ds,none,by simpa using hlen,hb,rfl⟩
  .intro d hd2;simp only[P0,O1,or_false]at hd2;rcases hd2 with rfl|rfl|rfl|rfl|rfl|rfl|rfl
   .exact .inl ⟨rfl,rfl⟩
   .exact .inl ⟨rfl,rfl⟩
   .exact .inl ⟨rfl,rfl⟩
   .exact .inl ⟨rfl,rfl⟩
   .exact .inr rfl
   .exact .inl ⟨rfl,rfl⟩
   .exact .inl ⟨rfl,rfl⟩
  .show ds4.length+7<=107;lia
 clear dl hd;rintro _ ⟨ds5,e6,dl,hd,rfl⟩;with_reducible refine iX (λρ=>∃(ds:List PyData),ds.length<=110/\(∀d∈ds,HZ v n d)/\ρ=[some<|.io<|SQ ns k l,ZA<|.int n,ZA<|.int v,ZA<|tupD gs,YA<|.list ds,ZA<|.int at',e6]) ?_ ?_
 .intro N hN;have hgm:(gs.map p0).length=gs.length:=B0 ..;refine UX (λh=>?_)<|λh=>hN _ ⟨ds5,by lia,hd,rfl⟩;have h:v<2:=of_decide_eq_true h;have hv:v=0\/v=1:=by lia
  have tk:∀m:Nat,((gs.map p0).take m).length<=3:=λm=>by rw[j2,hgm];lia
  have dr:∀m:Nat,((gs.map p0).drop m).length<=3:=λm=>by rw[U2,hgm];lia
  have cp:Ay 10 29:=⟨by decide,by decide,by decide⟩;have hB:((n:Nat):Int)<=10 ^ (29:Int).toNat:=F8 (show (n:Int)<=3 by lia) (by decide);refine⟨cp,?_⟩;refine⟨by simp,by lia,by lia,FX<|by lia,?_⟩;refine⟨cp,fQ (T1 (G4 (tk _) 1)<|by decide),?_⟩;refine⟨cp,by decide,fQ (T1 (o9 (dr _) 1)<|by decide),?_⟩;refine⟨fQ (by show ds5.length+3<=1000;lia),?_⟩;refine hN _ ⟨_,by rw[M0];show ds5.length+3<=110;lia,λd hd2=>?_,rfl⟩;rcases S1.mp hd2 with z|z
  .exact hd d z
  simp only[P0,O1,or_false]at z;rcases z with rfl|rfl|rfl
  .refine IZ hv (os:=A0 n<|10 ^ (29:Int).toNat) (x:=10 ^ (29:Int).toNat) ?_ (List.mem_replicate.mpr ⟨by lia,rfl⟩) (.inr hB) (by rw[V1];lia);rw[QV,Y2,nn];rfl
  .refine IZ hv (os:=gs.take (if (-1:Int)<0 then (-1+((gs.map p0).length:Int)).toNat else (-1:Int).toNat)++[10 ^ (29:Int).toNat]) (x:=10 ^ (29:Int).toNat) (by rw[N1,i8];rfl) (A1 _<|Y0.mpr rfl) (.inr hB) (by rw[M0,j2];show _+1<=1000;lia)
  .refine IZ hv (os:=(-(10 ^ (29:Int).toNat))::gs.drop 1) (x:=-(10 ^ (29:Int).toNat)) (by rw[K1,j8];rfl) L0 (.inl<|by lia) (by rw[Y1,U2];lia)
 clear dl hd;rintro _ ⟨ds6,dl,hd,rfl⟩;have h012:v=0\/v=1\/v=2:=by lia
 refine⟨fQ (by show 3<=1000;decide),?_⟩;refine⟨fQ (by show ds6.length+8<=1000;lia),?_⟩;refine q _ k l _ (λd hd2=>?_) (by rw[M0];show ds6.length+8<=1000;lia) hk hl;rcases S1.mp hd2 with z|z
 .exact hd d z
 simp only[P0,O1,or_false]at z;rcases z with rfl|rfl|rfl|rfl|rfl|rfl|rfl|rfl
 .exact KK h012 (aX gs) (λds h=>by cases h)
 .exact KK h012 rfl (λds h=>by cases h)
 .exact KK h012 rfl (λds h=>by cases h)
 .exact KK h012 rfl (λds h=>by cases h)
 .exact KK h012 rfl (λds h=>by cases h)
 .exact KK h012 rfl (λds h=>by cases h)
 .exact KK h012 rfl (λds h=>by cases h)
 .exact KK h012 rfl (λds h=>by cases h)
theorem FnOk.orC{P:Program}{w:World}{K:G0}{mg:Str->Option Value}{base:Heap}{k:Nat}{f:Addr}{ps:List Str}{c c1 c2:Con}{CX}(h:∀a Q,c a Q->c1 a Q\/c2 a Q)(h1:FnOk P w K mg base CX k f fd ps (dQ K c1))(h2:FnOk P w K mg base CX k f fd ps (dQ K c2)):FnOk P w K mg base CX k f fd ps (dQ K c):=by
 constructor
 .rintro vs H Q E ⟨G,F,args,Qd,R,w,q⟩;rcases h _ _ w with w|w
  .exact h1.1 vs H Q E ⟨G,F,args,Qd,R,w,q⟩
  .exact h2.1 vs H Q E ⟨G,F,args,Qd,R,w,q⟩
 .intro x1 x2 x3 x4 x5 x6 x7 x8 x9 x10 x11 x12 x13 ⟨G,F,args,Qd,R,w,q⟩;rcases h _ _ w with w|w
  .exact h1.2 x1 x2 x3 x4 x5 x6 x7 x8 x9 x10 x11 x12 x13 ⟨G,F,args,Qd,R,w,q⟩
  .exact h2.2 x1 x2 x3 x4 x5 x6 x7 x8 x9 x10 x11 x12 x13 ⟨G,F,args,Qd,R,w,q⟩
theorem sS{gs:List nJ}{ds:List PyData}{Q:Ev->Prop}(ρ':Ev)(h:∀Q:Ev->Prop,Q ρ'->ZN gs ds ρ Q)(w:Q ρ'):ZN gs ds ρ Q:=h Q w
def UR(sd fs:Qa)(x:Str):Prop:=Sd sd/\fs.length=sd.length/\(∀f∈fs,1<=f/\f<=1000)/\((x = ""/\Sd (NX sd fs))\/(x = "field"/\120<prodI (NX sd fs)/\∀c∈NX sd fs,1<=c/\c<2 ^ 64))
def Jr(d:PyData):Prop:=∃(sd fs:Qa) (x:Str),d=.tuple [tupD sd,tupD fs,.str x]/\UR sd fs x
theorem RG(h:(decide (1<=sd.length)&&decide (sd.length<=3)&&sd.all (λc=>decide<|1<=c)&&decide (prodI sd<=120))=true):Sd sd:=by simp only[A2,decide_eq_true_eq,K2]at h;exact⟨h.1.1.1,h.1.1.2,h.1.2,h.2⟩
variable (P w K mg base) in
structure CalsAs:Prop where
 Yn:CalX P w K mg base 4 "exchanged" ["field","order"] (nQ K<|QB mg)
 Yo:CalX P w K mg base 4 "mirrored" ["field","some"] (nQ K<|RB mg)
 Yp:CalX P w K mg base 4 "stretched" ["field","factors"] (nQ K<|SB mg)
 Yr:CalX P w K mg base 5 "stretched" ["field","factors"] (nQ K<|dz mg)
 Ys:CalX P w K mg base 4 "box_exchanged" ["sides","box","order"] (nQ K<|UB mg)
 Yt:CalX P w K mg base 4 "box_mirrored" ["sides","box","some"] (nQ K<|VB mg)
 YS:CalX P w K mg base 4 "box_stretched" ["sides","box","factors"] (nQ K<|WB mg)
 YT:CalX P w K mg base 6 "box_exchanged" ["sides","box","order"] (nQ K<|Xq mg)
 Wa:CalX P w K mg base 6 "box_mirrored" ["sides","box","some"] (nQ K<|Yq mg)
 Wb:CalX P w K mg base 6 "box_stretched" ["sides","box","factors"] (nQ K<|Zq mg)
 Wc:CalX P w K mg base 6 "cut" ["field","box"] (nQ K<|PM mg)
 Ya:Cal P w K mg base 5 "stretched" ["field","factors"] (dQ K lC)
 We:Cal P w K mg base 1 "_law_word" ["_law_caught"] (dQ K<|gz mg)
def RV:Con:=λargs Q=>jz args Q\/lz args Q
theorem cy{f:Addr}(F:Ws K "_law_asked" (top 59) f fd)(T:Txt mg)(L:Cls K mg)(C:CalsAs P w K mg base):FnOk P w K mg base OX 8 f fd ["_law_way","_law_field_here","_law_box_here","_law_thing"] (dQ K RV):=FnOk.orC (λ_ _ h=>h) (Mj F T L ⟨C.Yn,C.Yo,C.Yp,C.Yr,C.Ys,C.Yt,C.YS,C.YT,C.Wa,C.Wb,C.Wc,C.We⟩)<|Nj F T ⟨C.Ya,C.We⟩
theorem LG{cl fs:Qa}{x:Str}{A B D:PyData}{Q:Sl->Ev->Prop}(eA:A=nX sd cl)(eD:D=tupD fs)(h:UR sd fs x)(hc:cl.length=(iW sd).length)(q:∀o,Q (.fz<|.str x) o):RV [.fz<|.int 2,.fz A,.fz B,.fz D] Q:=by
 subst eA;subst eD;obtain⟨h1,h2,h3,h4⟩:=h;rcases h4 with⟨rfl,h4⟩|⟨rfl,h4,h5⟩
 .exact .inr ⟨sd,cl,fs,B,rfl,h1,hc,h2,h3,h4,q⟩
 .exact .inl ⟨2,sd,cl,B,tupD fs,"NoField","field",rfl,h1.l3,.f2 fs rfl h1 ⟨h2,λf hf=>(h3 f hf).1⟩ (GZ h5) h4,.inr<|.inr ⟨rfl,rfl⟩,q⟩
variable (P w K mg base) in
structure CalsJr:Prop where
 Wh:Cal P w K mg base 8 "_law_asked" ["_law_way","_law_field_here","_law_box_here","_law_thing"] (dQ K RV)
def uS:Con:=λargs Q=>args=[]/\∀o,Q (.fz<|.bool true) o
theorem BP{f:Addr}(F:Ws K "_law_just_right" (top 61) f fd)(T:Txt mg)(C:CalsJr P w K mg base):FnOk P w K mg base OX 9 f fd [] (dQ K uS):=by
 have S:FnScope ["_law_some_here","_law_sides_here","_law_factors","_law_due","_law_many","_law_side","_law_nought"] [] (aQ<|top 61):={};refine bK F S (λcdv A outer s H E hr=>bQ (CQ 0<|HQ<|eQ (jQ<|eQ (jQ<|cQ gQ)<|eQ (jQ<|cQ gQ)<|cQ GQ)<|eQ (jQ<|eQ (jQ<|cQ gQ)<|eQ (jQ<|cQ gQ)<|cQ GQ)<|eQ (jQ<|eQ (jQ<|eQ gQ<|cQ gQ)<|eQ (jQ<|eQ gQ<|cQ gQ)<|cQ GQ)<|cQ<|jQ<|eQ (jQ<|eQ gQ<|cQ gQ)<|eQ (jQ<|eQ gQ<|cQ gQ)<|cQ GQ)<|bQ (CQ 0<|LQ (wn 0)<|wx<|HQ<|eQ (jQ<|eQ (jQ<|eQ gQ<|cQ gQ)<|eQ (jQ<|eQ gQ<|cQ gQ)<|cQ GQ)<|eQ (jQ<|eQ (jQ<|eQ gQ<|cQ gQ)<|eQ (jQ<|eQ gQ<|cQ gQ)<|cQ GQ)<|cQ<|jQ<|eQ (jQ<|eQ gQ<|cQ gQ)<|eQ (jQ<|eQ gQ<|cQ gQ)<|cQ GQ)<|bQ (CQ 0<|LQ (wn 0)<|wx<|HQ<|eQ (jQ<|eQ (jQ<|eQ gQ<|eQ gQ<|cQ gQ)<|eQ (jQ<|eQ gQ<|eQ gQ<|cQ gQ)<|cQ GQ)<|eQ (jQ<|eQ (jQ<|eQ gQ<|eQ gQ<|cQ gQ)<|eQ (jQ<|eQ gQ<|eQ gQ<|cQ gQ)<|cQ GQ)<|cQ<|jQ<|eQ (jQ<|eQ gQ<|eQ gQ<|cQ gQ)<|eQ (jQ<|eQ gQ<|eQ gQ<|cQ gQ)<|cQ GQ)<|bQ (tX<|Pj BX rfl PySem.F.slot_list_append PySem.F.type_list_append AX (wn 0)<|cQ<|jQ<|eQ (jQ<|eQ gQ<|eQ gQ<|cQ gQ)<|eQ (jQ<|eQ gQ<|eQ gQ<|cQ gQ)<|cQ GQ)<|bQ (SJ [1,2,3,4,5,6] (lX rfl<|wv 0) (yK rfl rfl<|JQ (rX 1)<|JQ (rX 2)<|JQ (rX 3) OZ)<|bQ (CQ 4 gQ)<|bQ (SJ [5] (lX rfl<|wv 1) (rX 5)<|AQ<|CQ 4<|eU (wn 4)<|wn 5)<|bQ (CQ 6<|DQ hX gX (wx<|jQ<|cQ gQ)<|wx<|MX T.Qc<|mQ 1)<|AQ<|qX (qJ hr (wx<|QQ C.Wh hr.m<|eQ gQ<|eQ (jQ<|eQ (wv 1)<|cQ<|DQ hX gX (wx<|jQ<|cQ gQ)<|wn 4)<|eQ (jQ<|eQ (wv 6)<|cQ<|wv 6)<|mQ 2)<|wn 3) (RQ DZ) KQ)<|RQ DZ) ?_;rintro args Qd ⟨rfl,q⟩;with_reducible refine iX (λρ=>∃ds:List PyData,ds.length<=20/\(∀d∈ds,Jr d)/\ρ=[YA<|.list ds,none,none,none,none,none,none]) ?_ ?_
 .intro N hN;refine hN _ ⟨_,by show 4<=20;decide,λd hd=>?_,rfl⟩;simp only[P0,O1,or_false]at hd;rcases hd with rfl|rfl|rfl|rfl
  .exact⟨[40],[3],"",rfl,RG<|by decide,rfl,by decide,.inl ⟨rfl,RG<|by decide⟩⟩
  .exact⟨[40],[4],"field",rfl,RG<|by decide,rfl,by decide,.inr ⟨rfl,by decide,by decide⟩⟩
  .exact⟨[10,10],[1,2],"field",rfl,RG<|by decide,rfl,by decide,.inr ⟨rfl,by decide,by decide⟩⟩
  .exact⟨[10,10],[2,1],"field",rfl,RG<|by decide,rfl,by decide,.inr ⟨rfl,by decide,by decide⟩⟩
 rintro _ ⟨d1,l1,h1,rfl⟩;with_reducible refine iX (λρ=>∃ds:List PyData,ds.length<=30/\(∀d∈ds,Jr d)/\ρ=[YA<|.list ds,none,none,none,none,none,none]) ?_ ?_
 .intro N hN;refine⟨fQ (by show d1.length+3<=1000;lia),?_⟩;refine hN _ ⟨_,by rw[M0];show d1.length+3<=30;lia,λd hd=>?_,rfl⟩;rcases S1.mp hd with z|hd
  .exact h1 d z
  simp only[P0,O1,or_false]at hd;rcases hd with rfl|rfl|rfl
  .exact⟨[10,6],[1,2],"",rfl,RG<|by decide,rfl,by decide,.inl ⟨rfl,RG<|by decide⟩⟩
  .exact⟨[10,6],[2,1],"",rfl,RG<|by decide,rfl,by decide,.inl ⟨rfl,RG<|by decide⟩⟩
  .exact⟨[11,10],[1,2],"field",rfl,RG<|by decide,rfl,by decide,.inr ⟨rfl,by decide,by decide⟩⟩
 clear l1 h1;rintro _ ⟨d2,l1,h1,rfl⟩;with_reducible refine iX (λρ=>∃ds:List PyData,ds.length<=40/\(∀d∈ds,Jr d)/\ρ=[YA<|.list ds,none,none,none,none,none,none]) ?_ ?_
 .intro N hN;refine⟨fQ (by show d2.length+3<=1000;lia),?_⟩;refine hN _ ⟨_,by rw[M0];show d2.length+3<=40;lia,λd hd=>?_,rfl⟩;rcases S1.mp hd with z|hd
  .exact h1 d z
  simp only[P0,O1,or_false]at hd;rcases hd with rfl|rfl|rfl
  .exact⟨[5,5,4],[1,1,1],"",rfl,RG<|by decide,rfl,by decide,.inl ⟨rfl,RG<|by decide⟩⟩
  .exact⟨[5,5,4],[2,1,1],"field",rfl,RG<|by decide,rfl,by decide,.inr ⟨rfl,by decide,by decide⟩⟩
  .exact⟨[5,4,3],[1,1,2],"",rfl,RG<|by decide,rfl,by decide,.inl ⟨rfl,RG<|by decide⟩⟩
 clear l1 h1;rintro _ ⟨d3,l1,h1,rfl⟩;with_reducible refine iX (λρ=>∃ds:List PyData,ds.length<=41/\(∀d∈ds,Jr d)/\ρ=[YA<|.list ds,none,none,none,none,none,none]) ?_ ?_
 .intro N hN;refine⟨Q0 (show d3.length<1000 by lia)<|fQ<|O0 _,?_⟩;refine hN _ ⟨_,by rw[M0];show d3.length+1<=41;lia,λd hd=>?_,rfl⟩;rcases S1.mp hd with z|hd
  .exact h1 d z
  rw[Y0.mp hd];exact⟨[5,5,4],[1,1,2],"field",rfl,RG<|by decide,rfl,by decide,.inr ⟨rfl,by decide,by decide⟩⟩
 clear l1 h1;rintro _ ⟨d4,l1,h1,rfl⟩;with_reducible refine iX (λρ=>ρ=[ZA<|.list d4,none,none,none,none,none,none]) ?_ ?_
 rotate_left
 .rintro _ rfl;exact q _
 intro NE hE;with_reducible refine ay d4 [ZA<|.list d4,none,none,none,none,none,none] ?_ ?_
 .exact λQ h=>h
 with_reducible refine bZ (λrest ρ=>(∀d∈rest,Jr d)/\ρ=[ZA<|.list d4,none,none,none,none,none,none]) ?_ ?_ ⟨h1,rfl⟩
 .rintro d ds _ ⟨hd,rfl⟩ N hN;obtain⟨sd,fs,x,rfl,hj⟩:=hd d L0;have hd':∀d∈ds,Jr d:=λd h=>hd d<|K0 _ h;obtain⟨hsd,-,-,-⟩:=id hj;have h3:=hsd.l3;refine⟨rfl,sS [ZA<|.list d4,ZA<|tupD sd,ZA<|tupD fs,ZA<|.str x,none,none,none] (λQ h=>h) ?_⟩;with_reducible refine iX (λρ=>ρ=[ZA<|.list d4,ZA<|tupD sd,ZA<|tupD fs,ZA<|.str x,ZA<|.int 1,none,none]) ?_ ?_
  .intro M hM;exact hM _ rfl
  rintro _ rfl;with_reducible refine iX (λρ=>ρ=[ZA<|.list d4,ZA<|tupD sd,ZA<|tupD fs,ZA<|.str x,ZA<|.int<|prodI sd,none,none]) ?_ ?_
  .intro M hM;with_reducible refine ay (sd.map p0) [ZA<|.list d4,ZA<|tupD sd,ZA<|tupD fs,ZA<|.str x,ZA<|.int 1,none,none] ?_ ?_
   .exact λQ h=>h
   with_reducible refine bZ (λrest ρ=>∃(rs:Qa) (m:Int),rest=rs.map p0/\(∀c∈rs,c∈sd)/\m*prodI rs=prodI sd/\ρ=[ZA<|.list d4,ZA<|tupD sd,ZA<|tupD fs,ZA<|.str x,ZA<|.int m,none,none]) ?_ ?_ ⟨sd,1,rfl,λc h=>h,y7 _,rfl⟩
   .rintro d ds _ ⟨rs,m,e,hc,hm,rfl⟩ N2 hN2;cases rs with
    |nil=>cases e
    |cons c rs=>cases e;have hcs:=hc c L0;obtain⟨c1,c2⟩:=hsd.b c hcs;refine⟨.inr ⟨by lia,by lia⟩,?_⟩;exact hN2 _ ⟨rs,m*c,rfl,λy h=>hc y<|K0 _ h,by rw[<-hm,w6];rfl,rfl⟩
   .rintro _ ⟨rs,m,e,hc,hm,rfl⟩;have e:rs=[]:=List.map_eq_nil_iff.mp e.symm;subst e;have hm:m*1=prodI sd:=hm;rw[u7]at hm;subst hm;exact hM _ rfl
  rintro _ rfl;have hp0:=tZ hsd.p;have hp1:=hsd.m;have hpl:=aJ hsd.p;with_reducible refine iX (λρ=>∃d6:PyData,ρ=[ZA<|.list d4,ZA<|tupD sd,ZA<|tupD fs,ZA<|.str x,ZA<|.int<|prodI sd,none,ZA d6]) ?_ ?_
  .intro M hM;refine⟨by simp,by lia,?_,FX ?_,?_⟩
   .rw[B0];lia
   .rw[B0];lia
   exact hM _ ⟨_,rfl⟩
  rintro _ ⟨d6,rfl⟩;refine⟨by simp,by lia,by lia,FX<|by lia,?_⟩;refine LG (cl:=A0 (prodI sd).toNat 1) (by show _=G1 [tupD sd,tupD _];rw[<-BD];rfl) rfl hj (by rw[V1];lia) λo=>?_;refine UX (λh=>?_)<|λ_=>hN _ ⟨hd',rfl⟩;have h:(!decide (x=x))=true:=h;rw[decide_eq_true rfl]at h;cases h
 .rintro _ ⟨_,rfl⟩;exact hE _ rfl
theorem nN{b:PyData}(h:Sd sd):Rf sd b (tupD (121::A0 (sd.length-1) 1)) 2 "NoField":=by
 obtain⟨l1,l3,p,m⟩:=id h;have hb:=h.b;have fg:Lv sd.length (121::A0 (sd.length-1) 1):=⟨by rw[Y1,V1];lia,λf hf=>by
   rcases P0.mp hf with rfl|hf
   . decide
   . rw[P3 hf];decide⟩;refine .f2 _ rfl h fg (GZ ?_) ?_;all_goals
  match sd,l1,l3,hb with
  |[x],_,_,hb =>
   have:=hb x (by simp);simp[NX,prodI,A0]
   lia
  |[x,y],_,_,hb =>
   have h1:=hb x (by simp);have h2:=hb y (by simp);first
   |(simp[NX,prodI,A0];lia)
   | (have:=Y5 (show (121:Int)<=x*121 by lia) h2.1 (by decide) (by lia)
      simp[NX,prodI,A0]
      lia)
  |[x,y,z],_,_,hb =>
   have h1:=hb x (by simp);have h2:=hb y (by simp);have h3:=hb z (by simp);first
   |(simp[NX,prodI,A0];lia)
   | (have a:=Y5 h2.1 h3.1 (by decide) (by lia)
      have:=Y5 (show (121:Int)<=x*121 by lia) a (by decide) (by lia);simp[NX,prodI,A0]
      lia)
theorem SV:∀{l:Qa}{t:Int}{m:Nat},B9 t<=m->(∀c∈l,B9 c<=128)->m+128*l.length<=10000->JK t l
 |[],_,_,_,_,_=>trivial
 |a::l,t,m,h,hc,hm=>by rw[Y1]at hm;have ha:=hc a L0;exact⟨IntMulOk.of_le h ha<|by lia,SV (intBits_mul_le h ha) (λc h=>hc c<|K0 _ h)<|by lia⟩
theorem MG{fs:Qa}{c:Int}(h:c∈NX sd fs):∃s∈sd,∃f∈fs,c=s*f:=by obtain⟨⟨s,f⟩,hm,rfl⟩:=S0.mp h;have:=u5 hm;exact⟨s,this.1,f,this.2,rfl⟩
theorem NG{fs:Qa}(h:fs.length=sd.length):(NX sd fs).length=sd.length:=by unfold NX;rw[B0,S4,h,Nat.min_self]
theorem TV:∀{sd fs:Qa},fs.length=sd.length->prodI (NX sd fs)=prodI sd*prodI fs
 |[],[],_=>rfl
 |a::sd,b::fs,h=>by
  show a*b*prodI (NX sd fs)=a*prodI sd*(b*prodI fs);rw[TV<|by simpa using h]
  ac_rfl
 |[],_::_,h=>by cases h
 |_::_,[],h=>by cases h
theorem KU(q:Int)(j:Nat):∀k:Nat,prodI (A0 k 1++[q]++A0 j 1)=q
 |k+1=>by rw[G2];show 1*prodI (A0 k 1++[q]++A0 j 1)=q;rw[KU q j k,y7]
 |0=>by
  show q*prodI (A0 j 1)=q;have:∀j:Nat,prodI (A0 j 1)=1:=λj=>by
   induction j with
   |zero=>rfl
   |succ j ih=>rw[G2];show 1*prodI (A0 j 1)=1;rw[ih];rfl
  rw[this,u7]
theorem oN{b:PyData}(h:Sd sd):Rf sd b (tupD<|A0 sd.length<|10 ^ 29) 2 "NoField":=by
 have hm:∀c∈NX sd (A0 sd.length<|10 ^ 29),(10:Int) ^ 29<=c/\c<=120*10 ^ 29:=λc hc=>by
  obtain⟨s,hs,f,hf,rfl⟩:=MG hc;have:=h.b s hs;rw[P3 hf]
  lia
 have hl:=NG (sd:=sd) (fs:=A0 sd.length<|10 ^ 29)<|V1 ..;refine .f2 _ rfl h ⟨V1 ..,λf hf=>by rw[P3 hf];decide⟩ (SV (m:=1) (by decide) (λc hc=>?_) (by rw[hl];have:=h.l3;lia)) ?_
 .have:=hm c hc;refine intBits_le_iff.mpr ?_;have e:(2:Nat) ^ 128=340282366920938463463374607431768211456:=by decide
  rw[e]
  lia
 .have h1:=h.l1;have hp:NX sd (A0 sd.length<|10 ^ 29)≠[]:=λz=>by rw[z]at hl;simp at hl;lia
  obtain⟨c,hc⟩:=List.exists_mem_of_ne_nil _ hp;have:=nZ (λc hc=>by have:=hm c hc;lia) c hc;have:=hm c hc
  lia
theorem pN{m:Int}{x:Str}{j k:Nat}(h:Sd sd)(h24:prodI sd<=24)(hjk:j+1+k=sd.length)(hm:(m=0/\x = "")\/(m=1/\x = "field")):UR sd (A0 j 1++[120 / prodI sd+m]++A0 k 1) x:=by
 have hp:=tZ h.p;have hl:(A0 j 1++[120 / prodI sd+m]++A0 k 1).length=sd.length:=by
  simp only[M0,V1,Y1,G6]
  lia
 have q0:1<=120 / prodI sd:=(Int.le_ediv_iff_mul_le<|by lia).mpr (by lia);have q1:120 / prodI sd<=120:=Int.ediv_le_self _ (by decide);have e:=Int.mul_ediv_add_emod 120<|prodI sd;have e1:=M7 120 (show 0<prodI sd by lia);have e2:=S8 120 (show prodI sd≠0 by lia);have hf:∀f∈A0 j 1++[120 / prodI sd+m]++A0 k 1,1<=f/\f<=1000:=λf hf=>by
  simp only[S1,Y0]at hf;rcases hf with (hf|rfl)|hf
  .rw[P3 hf];decide
  .lia
  .rw[P3 hf];decide
 have hpr:=(TV hl).trans (congrArg (prodI sd * ·)<|KU (120 / prodI sd+m) k j);have hpr:prodI (NX sd<|A0 j 1++[120 / prodI sd+m]++A0 k 1)=prodI sd*(120 / prodI sd)+prodI sd*m:=by rw[hpr];exact Int.mul_add ..
 generalize A0 j 1++[120 / prodI sd+m]++A0 k 1=fs at *;have hb:∀c∈NX sd fs,1<=c/\c<2 ^ 64:=λc hc=>by
  obtain⟨s,hs,f,hf',rfl⟩:=MG hc;have a:=h.b s hs;have b:=hf f hf';have c1:=Y5 a.1 b.1 (by decide) (by lia);have c2:=Y5 a.2 b.2 (by lia) (by decide)
  lia
 have hml:=NG hl;refine⟨h,hl,hf,?_⟩;rcases hm with⟨rfl,rfl⟩|⟨rfl,rfl⟩
 .refine .inl ⟨rfl,⟨by rw[hml];exact h.l1,by rw[hml];exact h.l3,λc hc=>(hb c hc).1,?_⟩⟩;rw[hpr]
  lia
 .refine .inr ⟨rfl,?_,hb⟩;rw[hpr]
  lia
variable (P w K mg base) in
structure CalsL:Prop where
 Wl:Cal P w K mg base 1 "_law_pen" ["_law_script"] (dQ K dP)
 Js:Cal P w K mg base 1 "_law_take" ["_law_pen_here","_law_many"] (dQ K EG)
 Wm:Cal P w K mg base 3 "_law_field" ["_law_pen_here","_law_most"] (dQ K zv)
 Yl:Cal P w K mg base 2 "_law_box" ["_law_pen_here","_law_sides_here"] (dQ K aN)
 Wn:Cal P w K mg base 3 "_law_near_boxes" ["_law_pen_here","_law_sides_here"] (dQ K Tv)
 Wo:Cal P w K mg base 2 "_law_is_box" ["_law_sides_here","_law_thing"] (dQ K sH)
 Wf:Cal P w K mg base 2 "_law_order" ["_law_pen_here","_law_ways"] (dQ K cN)
 Wg:Cal P w K mg base 2 "_law_some" ["_law_pen_here","_law_ways"] (dQ K eN)
 Wp:Cal P w K mg base 3 "_law_odd" ["_law_pen_here","_law_ways","_law_way"] (dQ K zP)
 Wh:Cal P w K mg base 8 "_law_asked" ["_law_way","_law_field_here","_law_box_here","_law_thing"] (dQ K RV)
 Wr:Cal P w K mg base 9 "_law_just_right" [] (dQ K uS)
theorem CP{x:Str}{p pos:Pos}{k:Nat}{ps:List Str}{con:Con}(C:Cal X.prog X.w X.K X.mg X.base k x ps (dQ K con))(hr:Room k X.A)(hg:Gl X x:=by rfl)(hdb:(x==("__debug__":Str))=false:=by decide):WE X (.Call (.Name x p) [] [] pos) (lift K<|oW con []):=⟨by obtain⟨f,fd,F,hm,hk,hb⟩:=C.ex;exact Fk (as:=[])<|sx F hr hg hm hk hb .nil Ix hdb⟩
theorem GE{v:Int}{b d:PyData}(e:n=sd.length)(h:HZ v n d):Rf sd b d v "NoTurn"/\Rf sd b d (v+3) "NoTurn":=by
 subst e;rcases h with⟨rfl,h1,h2⟩|⟨rfl,h1⟩|⟨rfl,h1,h2⟩
 .exact⟨.t0 h1 h2,.t3 h1 h2⟩
 .exact⟨.t1 h1,.t4 h1⟩
 .exact⟨.t2 h1 h2,.t5 h1 h2⟩
theorem qN{v:Int}{gs:Qa}{t:PyData}(e:n=sd.length)(h:yC v n gs)(h1:RX t=true)(h2:dZ sd t=false):Rf sd t (tupD gs) (v+3) "NoBox":=by
 subst e;rcases h with⟨rfl,h⟩|⟨rfl,h⟩|⟨rfl,h⟩
 .exact .b3 gs rfl h h1 h2
 .exact .b4 gs rfl h h1 h2
 .exact .b5 gs rfl ⟨by rw[h,V1],λf hf=>by rw[h]at hf;rw[P3 hf];decide⟩ h1 h2
theorem RZ{w:Int}{cl:Qa}{b d:PyData}{c x:Str}{Q:Sl->Ev->Prop}(h3:sd.length<=3)(hr:Rf sd b d w c)(hw:Wd c x)(q:∀o,Q (.fz<|.str x) o):RV [.fz<|.int w,.fz<|nX sd cl,.fz b,.fz d] Q:=.inl ⟨w,sd,cl,b,d,c,x,rfl,h3,hr,hw,q⟩
noncomputable abbrev rh(ns:Qa)(k l:Int)(e2 e3 e4 e5 e6 e7 e8 e9 e10 e11 e12 e13 e14:Option Sl):Ev:=[ZA<|SZ ns,YA<|SQ ns k l,e2,e3,e4,e5,e6,e7,e8,e9,e10,e11,e12,e13,e14]
theorem dy{ns:Qa}{k l:Int}{a2 a3 a4 a5 a7 a11:PyData}{ws:List PyData}{e6:Option Sl}(he:e6=YA (.list ws)\/e6=ZA (.list ws)):clean [2,3,4,5,6,7,8,11,12,13] (rh ns k l (ZA a2) (ZA a3) (ZA a4) (ZA a5) e6 (ZA a7) none none none (ZA a11) none none none)=[ZA<|SZ ns,YA<|SQ ns k l,none,none,none,none,none,none,none,none,none,none,none,none,none]:=by rcases he with rfl|rfl<;>simp only[clean,clean1,N4,List.getElem?_cons_zero,List.set_cons_succ,List.set_cons_zero]
def cLaw:Con:=λargs Q=>∃ns:Qa,args=[.fz<|SZ ns]/\ns.length<=63/\∀o,Q (.fz<|.bool true) o
theorem cLaw_at(ns:Qa)(h:ns.length<=63):cLaw [.fz<|SZ ns] λr _=>r=.fz (.bool true):=⟨ns,rfl,h,λ_=>rfl⟩
theorem rN{f:Addr}(F:Ws K "law" (top 62) f fd)(T:Txt mg)(C:CalsL P w K mg base):FnOk P w K mg base OX 10 f fd ["_law_script"] (dQ K cLaw):=by
 have S:FnScope ["_law_script","_law_pen_here","_law_turn","_law_field_here","_law_sides_here","_law_box_here","_law_wrong","_law_bad","_law_way","_law_thing","_law_good","_law_at","_law_more","_law_due","_law_factors"] ["_law_script"] (aQ<|top 62):={};refine bK F S (λcdv A outer s H E hr=>bQ (CQ 1<|QQ C.Wl hr.m<|mQ 0)<|bQ (SJ [2,3,4,5,6,7,8,11,12,13] (zK T.Qt<|cQ gQ) (rX 2)<|bQ (CQ 3<|WQ C.Wm hr.m<|wQ 1<|cQ gQ)<|bQ (CQ 4<|HX (wn 3) pQ)<|bQ (CQ 5<|WQ C.Yl hr.m<|wQ 1<|mQ 4)<|bQ (Lk (i:=6) S.nd rfl rfl rfl (own:=["_law_thing"]) (fr:=[4]) (by kernel_rfl) (lX rfl<|WQ C.Wn hr.m<|wQ 1<|mQ 4) (λ_ _ _ _=>rX 0) (λ_ _ _ _=>OL<|xX<|XQ<|QQ C.Wo hr.m<|wQ 1<|mQ 0)<|λ_ _ _ _=>wv 0)<|bQ (CQ 7<|HX (wn 6)<|wx<|WQ C.Js hr.m<|wQ 1<|cQ<|MX T.Qc<|mQ 6)<|bQ (SJ [8,9,10] (zK T.Qt<|cQ gQ) (rX 8)<|bQ (SJ [9] (lX rfl<|WQ C.Wp hr.m<|wQ 1<|eQ (MX T.Qc<|mQ 4)<|mQ 8) (rX 9)<|bQ (qX (xH<|KJ (qJ hr (wx<|QQ C.Wh hr.m<|wQ 8<|wQ 3<|wQ 5<|mQ 9)<|wx GQ)<|AZ<|qJ hr (wx<|QQ C.Wh hr.m<|eQ (LQ (wn 8) pQ)<|wQ 3<|wQ 5<|mQ 9)<|wx GQ) (RQ DZ) KQ)<|AQ<|qX (qJ hr (wx<|QQ C.Wh hr.m<|eQ (LQ (wn 8) pQ)<|wQ 3<|wQ 7<|mQ 9)<|wx GQ) (RQ DZ) KQ)<|bQ (CQ 10<|HX (wx<|HQ<|eQ (WQ C.Wf hr.m<|wQ 1<|cQ<|MX T.Qc<|mQ 4)<|eQ (WQ C.Wg hr.m<|wQ 1<|cQ<|MX T.Qc<|mQ 4)<|cQ<|DQ hX gX (wx<|jQ<|cQ gQ)<|wx<|MX T.Qc<|mQ 4)<|wn 8)<|AQ<|SJ [9] (lX rfl<|wv 6) (rX 9)<|AQ<|qX (xH<|KJ (qJ hr (wx<|QQ C.Wh hr.m<|eQ (LQ (wn 8) pQ)<|wQ 3<|wQ 9<|mQ 10)<|wx GQ)<|AZ<|qJ hr (wx<|QQ C.Wh hr.m<|eQ gQ<|wQ 3<|wQ 9<|cQ wK)<|wx GQ) (RQ DZ) KQ)<|bQ (qX (qJ hr (wx<|QQ C.Wh hr.m<|eQ gQ<|wQ 3<|wQ 5<|cQ<|LQ (wx<|jQ<|cQ gQ)<|wx<|DQ hX gX (wx<|jQ<|cQ gQ)<|wx<|TJ (wx<|MX T.Qc<|mQ 4) pQ)<|wx GQ) (RQ DZ) KQ)<|bQ (qX (qJ hr (wx<|QQ C.Wh hr.m<|eQ gQ<|wQ 3<|wQ 5<|cQ<|DQ hX gX (wx<|jQ<|cQ<|DQ JJ yJ pQ pQ)<|wx<|MX T.Qc<|mQ 4)<|wx GQ) (RQ DZ) KQ)<|bQ (CQ 11<|WQ C.Js hr.m<|wQ 1<|cQ<|MX T.Qc<|mQ 4)<|AQ<|SJ [12,13,14] (lX rfl<|jQ<|eQ (jQ<|eQ gQ<|cQ GQ)<|cQ<|jQ<|eQ gQ<|cQ GQ) (yK rfl rfl<|JQ (rX 12)<|JQ (rX 13) OZ)<|bQ (CQ 14<|LQ (wx<|LQ (wx<|DQ hX gX (wx<|jQ<|cQ gQ)<|wn 11)<|wx<|jQ<|cQ<|LQ (wx<|DQ SK LK pQ<|wx<|MX T.Qc<|cQ<|HX (wn 3) pQ)<|wn 12)<|wx<|DQ hX gX (wx<|jQ<|cQ gQ)<|wx<|TJ (wx<|TJ (wx<|MX T.Qc<|mQ 4)<|wn 11) pQ)<|AQ<|qX (qJ hr (wx<|QQ C.Wh hr.m<|eQ gQ<|wQ 3<|wQ 5<|mQ 14)<|wn 13) (RQ DZ) KQ)<|RQ<|CP C.Wr hr.m) ?_;rintro args Qd ⟨ns,rfl,hn,q⟩;with_reducible refine iX (λρ=>ρ=[ZA<|SZ ns,YA<|SQ ns 0 0,none,none,none,none,none,none,none,none,none,none,none,none,none]) ?_ ?_
 .intro N hN;exact⟨ns,rfl,λo=>hN _ rfl⟩
 rintro _ rfl;with_reducible refine iX (λρ=>∃k l:Int,0<=k/\0<=l/\ρ=[ZA<|SZ ns,YA<|SQ ns k l,none,none,none,none,none,none,none,none,none,none,none,none,none]) ?_ ?_
 rotate_left
 .rintro _ ⟨k,l,_,_,rfl⟩;exact⟨rfl,λo=>q _⟩
 intro NE hE;refine⟨by decide,by decide,?_⟩;generalize BQ 0 (2:Int).toNat=rg;refine bZ (λrest ρ=>∃k l:Int,0<=k/\0<=l/\ρ=[ZA<|SZ ns,YA<|SQ ns k l,none,none,none,none,none,none,none,none,none,none,none,none,none]) ?_ (λρ h=>hE ρ h) ⟨0,0,by decide,by decide,rfl⟩;rintro tn tns _ ⟨k,l,hk,hl,rfl⟩ N hN;with_reducible refine UP rfl ?_
 with_reducible refine iX (λρ=>∃(sd cl:Qa) (k l:Int),Sd sd/\prodI sd<=24/\cl.length=(iW sd).length/\(0<=k/\0<=l)/\ρ=[ZA<|SZ ns,YA<|SQ ns k l,ZA tn,ZA<|nX sd cl,none,none,none,none,none,none,none,none,none,none,none]) ?_ ?_
 .intro M hM;exact⟨ns,k,l,24,rfl,hk,hl,by decide,by decide,λsd cl k1 l1 _ hsd h24 hcl hk1 hl1=>hM _ ⟨sd,cl,k1,l1,hsd,h24,hcl,⟨hk1,hl1⟩,rfl⟩⟩
 clear hk hl;rintro _ ⟨sd,cl,k,l,hsd,h24,hcl,⟨hk,hl⟩,rfl⟩;have h3:=hsd.l3;have h0:=hsd.l1;have hlm:(sd.map p0).length=sd.length:=B0 ..;with_reducible refine iX (λρ=>ρ=[ZA<|SZ ns,YA<|SQ ns k l,ZA tn,ZA<|nX sd cl,ZA<|tupD sd,none,none,none,none,none,none,none,none,none,none]) ?_ ?_
 .intro M hM;exact⟨_,rfl,hM _ rfl⟩
 rintro _ rfl;with_reducible refine iX (λρ=>∃(lo hi:Qa) (k l:Int),(0<=k/\0<=l)/\ρ=[ZA<|SZ ns,YA<|SQ ns k l,ZA tn,ZA<|nX sd cl,ZA<|tupD sd,ZA<|gU lo hi,none,none,none,none,none,none,none,none,none]) ?_ ?_
 .intro M hM;exact⟨ns,k,l,sd,rfl,hk,hl,hsd,λlo hi k1 l1 _ hbx hk1 hl1=>hM _ ⟨lo,hi,k1,l1,⟨hk1,hl1⟩,rfl⟩⟩
 clear hk hl;rintro _ ⟨lo,hi,k,l,⟨hk,hl⟩,rfl⟩;with_reducible refine iX (λρ=>∃(ws:List PyData) (k l:Int),(∀d∈ws,RX d=true/\dZ sd d=false)/\X5∈ws/\ws.length<=1000/\(0<=k/\0<=l)/\ρ=[ZA<|SZ ns,YA<|SQ ns k l,ZA tn,ZA<|nX sd cl,ZA<|tupD sd,ZA<|gU lo hi,YA<|.list ws,none,none,none,none,none,none,none,none]) ?_ ?_
 .intro M hM;refine⟨ns,k,l,sd,rfl,hk,hl,hsd,λdd k1 l1 _ hok hno hlen hk1 hl1=>?_⟩;have hok:=cZ hok;refine⟨fQ<|by lia,lV (λrest acc τ=>(∀d∈rest,RX d=true)/\(∀d∈acc,RX d=true/\dZ sd d=false)/\(X5∈rest\/X5∈acc)/\acc.length+rest.length<=1000/\τ=[none,ZA<|tupD sd]) ?_ ?_ ⟨hok,?_,.inl hno,?_,rfl⟩⟩
  .rintro d ds' acc τ ⟨ho,ha,hn,hln,rfl⟩ N' hN';rw[Y1]at hln;have ho':∀d∈ds',RX d=true:=λy h=>ho y<|K0 _ h;refine⟨sd,d,rfl,ho d L0,by lia,λ_=>?_⟩;have hn':d=X5\/X5∈ds'\/X5∈acc:=by
    rcases hn with z|z
    .rcases P0.mp z with z|z
     .exact .inl z.symm
     .exact .inr (.inl z)
    .exact .inr (.inr z)
   cases hbx:dZ sd d with
   |true =>
    refine hN' _ _ ⟨ho',ha,?_,by lia,rfl⟩;rcases hn' with rfl|z
    .cases hbx
    .exact z
   |false =>
    refine hN' _ _ ⟨ho',λy hy=>?_,?_,by rw[M0];show acc.length+1+_<=1000;lia,rfl⟩
    .rcases S1.mp hy with z|z
     .exact ha y z
     .rw[Y0.mp z];exact⟨ho d L0,hbx⟩
    .rcases hn' with rfl|z|z
     .exact .inr (A1 _<|Y0.mpr rfl)
     .exact .inl z
     .exact .inr (Z5 _ z)
  .rintro acc τ ⟨_,ha,hn,hln,rfl⟩;refine hM _ ⟨acc,k1,l1,ha,hn.resolve_left<|by simp,by simpa using hln,⟨hk1,hl1⟩,rfl⟩
  .intro d hd;cases hd
  .show 0+dd.length<=1000;lia
 clear hk hl;rintro _ ⟨ws,k,l,hw,hno,hwl,⟨hk,hl⟩,rfl⟩;have hw1:1<=ws.length:=List.length_pos_of_mem hno;with_reducible refine iX (λρ=>∃(d7:PyData) (k l:Int),RX d7=true/\dZ sd d7=false/\(0<=k/\0<=l)/\ρ=[ZA<|SZ ns,YA<|SQ ns k l,ZA tn,ZA<|nX sd cl,ZA<|tupD sd,ZA<|gU lo hi,YA<|.list ws,ZA d7,none,none,none,none,none,none,none]) ?_ ?_
 .intro M hM;refine⟨ns,k,l,ws.length,rfl,hk,hl,by lia,by lia,λr k1 l1 _ r0 r1 hk1 hl1=>?_⟩;have hat:gK ws r=some (ws[r.toNat]'(by lia)):=by
   have:=eZ (xs:=ws) (j:=r.toNat) (v:=ws[r.toNat]'(by lia))<|R0 _;rw[A9 r0]at this;exact this
  obtain⟨w1,w2⟩:=hw _ (u4 (l:=ws) (n:=r.toNat)<|by lia);exact⟨_,hat,hM _ ⟨_,k1,l1,w1,w2,⟨hk1,hl1⟩,rfl⟩⟩
 clear hk hl;rintro _ ⟨d7,k,l,h7,h8,⟨hk,hl⟩,rfl⟩;with_reducible refine iX (λρ=>∃(e6:Option Sl) (k l:Int),(e6=YA (.list ws)\/e6=ZA (.list ws))/\(0<=k/\0<=l)/\ρ=rh ns k l (ZA tn) (ZA<|nX sd cl) (ZA<|tupD sd) (ZA<|gU lo hi) e6 (ZA d7) none none none none none none none) ?_ ?_
 .intro M hM;refine⟨by decide,by decide,?_⟩;refine bZ (λrest ρ=>(∀d∈rest,∃i:Int,d=.int i/\0<=i/\i<=2)/\∃(e6:Option Sl) (k l:Int),(e6=YA (.list ws)\/e6=ZA (.list ws))/\(0<=k/\0<=l)/\ρ=rh ns k l (ZA tn) (ZA<|nX sd cl) (ZA<|tupD sd) (ZA<|gU lo hi) e6 (ZA d7) none none none none none none none) ?_ ?_ ⟨?_,_,k,l,.inl rfl,⟨hk,hl⟩,rfl⟩
  .rintro d ds _ ⟨hd,e6,k,l,he,⟨hk,hl⟩,rfl⟩ N2 hN2;obtain⟨v,rfl,v0,v2⟩:=hd d L0;have hd':∀d∈ds,∃i:Int,d=.int i/\0<=i/\i<=2:=λd h=>hd d<|K0 _ h;with_reducible refine UP rfl ?_
   with_reducible refine iX (λρ=>∃(k l:Int),(0<=k/\0<=l)/\ρ=rh ns k l (ZA tn) (ZA<|nX sd cl) (ZA<|tupD sd) (ZA<|gU lo hi) e6 (ZA d7) (ZA<|.int v) none none none none none none) ?_ ?_
   .intro M2 hM2;refine⟨ns,k,l,(sd.map p0).length,v,rfl,hk,hl,by lia,by lia,v0,v2,λrows k1 l1 _ hb hbl hk1 hl1=>?_⟩;refine bZ (λrest ρ=>(∀d∈rest,HZ v (sd.map p0).length d)/\ρ=rh ns k1 l1 (ZA tn) (ZA<|nX sd cl) (ZA<|tupD sd) (ZA<|gU lo hi) e6 (ZA d7) (ZA<|.int v) none none none none none none) ?_ ?_ ⟨hb,rfl⟩
    .rintro t ts _ ⟨ht,rfl⟩ N3 hN3;obtain⟨r1,r2⟩:=GE (b:=gU lo hi) hlm<|ht t L0;obtain⟨-,r3⟩:=GE (b:=d7) hlm<|ht t L0;have ht':∀d∈ts,HZ v (sd.map p0).length d:=λd h=>ht d<|K0 _ h;with_reducible refine UP rfl ?_
     refine RZ h3 r1 (.inr<|.inl ⟨rfl,rfl⟩) λo=>?_;refine RZ h3 r2 (.inr<|.inl ⟨rfl,rfl⟩) λo=>?_;refine RZ h3 r3 (.inr<|.inl ⟨rfl,rfl⟩) λo=>?_;exact hN3 _ ⟨ht',rfl⟩
    .rintro _ ⟨_,rfl⟩;exact hM2 _ ⟨k1,l1,⟨hk1,hl1⟩,rfl⟩
   clear hk hl;rintro _ ⟨k,l,⟨hk,hl⟩,rfl⟩;with_reducible refine iX (λρ=>∃(gs:Qa) (k l:Int),yC v (sd.map p0).length gs/\(0<=k/\0<=l)/\ρ=rh ns k l (ZA tn) (ZA<|nX sd cl) (ZA<|tupD sd) (ZA<|gU lo hi) e6 (ZA d7) (ZA<|.int v) none (ZA<|tupD gs) none none none none) ?_ ?_
   .intro M2 hM2;refine⟨ns,k,l,(sd.map p0).length,rfl,hk,hl,by lia,λod k1 l1 _ ho hk1 hl1=>?_⟩;refine⟨ns,k1,l1,(sd.map p0).length,rfl,hk1,hl1,by lia,λsm k2 l2 _ hs hk2 hl2=>?_⟩;refine⟨by simp,by lia,by lia,FX<|by lia,?_⟩;rcases (show v=0\/v=1\/v=2 by lia) with rfl|rfl|rfl
    .exact⟨_,rfl,hM2 _ ⟨od,k2,l2,.inl ⟨rfl,ho.l,ho.p⟩,⟨hk2,hl2⟩,rfl⟩⟩
    .exact⟨_,rfl,hM2 _ ⟨sm,k2,l2,.inr<|.inl ⟨rfl,hs⟩,⟨hk2,hl2⟩,rfl⟩⟩
    .refine⟨_,rfl,?_⟩;have:=hM2 _ ⟨A0 (sd.map p0).length 1,k2,l2,.inr<|.inr ⟨rfl,rfl⟩,⟨hk2,hl2⟩,rfl⟩;have e:G1 (A0 (((sd.map p0).length:Nat):Int).toNat [p0 1]).flatten=tupD (A0 (sd.map p0).length 1):=by rw[BD,S6]
     rw[<-e]at this;exact this
   clear hk hl;rintro _ ⟨gs,k,l,hg,⟨hk,hl⟩,rfl⟩;with_reducible refine ay ws (rh ns k l (ZA tn) (ZA<|nX sd cl) (ZA<|tupD sd) (ZA<|gU lo hi) (ZA<|.list ws) (ZA d7) (ZA<|.int v) none (ZA<|tupD gs) none none none none) ?_ ?_
   .rcases he with rfl|rfl<;>exact λQ h=>h
   refine bZ (λrest ρ=>(∀d∈rest,RX d=true/\dZ sd d=false)/\ρ=rh ns k l (ZA tn) (ZA<|nX sd cl) (ZA<|tupD sd) (ZA<|gU lo hi) (ZA<|.list ws) (ZA d7) (ZA<|.int v) none (ZA<|tupD gs) none none none none) ?_ ?_ ⟨hw,rfl⟩
   .rintro t ts _ ⟨ht,rfl⟩ N3 hN3;obtain⟨t1,t2⟩:=ht t L0;have ht':∀d∈ts,RX d=true/\dZ sd d=false:=λd h=>ht d<|K0 _ h;with_reducible refine UP rfl ?_
    refine RZ h3 (qN hlm hg t1 t2) (.inl ⟨rfl,rfl⟩) λo=>?_;refine RZ h3 (.b6 t1 t2) (.inl ⟨rfl,rfl⟩) λo=>?_;exact hN3 _ ⟨ht',rfl⟩
   .rintro _ ⟨_,rfl⟩;exact hN2 _ ⟨hd',_,k,l,.inr rfl,⟨hk,hl⟩,rfl⟩
  .rintro _ ⟨_,e6,k,l,he,⟨hk,hl⟩,rfl⟩;exact hM _ ⟨e6,k,l,he,⟨hk,hl⟩,rfl⟩
  .intro d hd;unfold BQ at hd;obtain⟨i,hi,rfl⟩:=S0.mp hd;have:=E4.mp hi;exact⟨_,rfl,by simp,by simp at this ⊢;lia⟩
 clear hk hl;rintro _ ⟨e6,k,l,he,⟨hk,hl⟩,rfl⟩;with_reducible refine iX (λρ=>ρ=rh ns k l (ZA tn) (ZA<|nX sd cl) (ZA<|tupD sd) (ZA<|gU lo hi) e6 (ZA d7) none none none none none none none) ?_ ?_
 .intro M hM;have e:G1 ([p0 121]++(A0 (((sd.map p0).length:Int)-1).toNat [p0 1]).flatten)=tupD (121::A0 (sd.length-1) 1):=by
   rw[QV,hlm];show _=G1 (p0 121::(A0 (sd.length-1) (1:Int)).map p0);rw[Y2,show ((sd.length:Int)-1).toNat=sd.length-1 by lia];rfl
  have hr:Rf sd (gU lo hi) (.tuple<|[p0 121]++(A0 (((sd.map p0).length:Int)-1).toNat [p0 1]).flatten) 2 "NoField":=by rw[e];exact nN hsd
  refine⟨by simp,by lia,by lia,FX<|by lia,?_⟩;refine⟨by rw[jJ];exact fQ (by show 1+_<=1000;lia),?_⟩;refine RZ h3 hr (.inr<|.inr ⟨rfl,rfl⟩) λo=>?_;exact hM _ rfl
 rintro _ rfl;with_reducible refine iX (λρ=>ρ=rh ns k l (ZA tn) (ZA<|nX sd cl) (ZA<|tupD sd) (ZA<|gU lo hi) e6 (ZA d7) none none none none none none none) ?_ ?_
 .intro M hM;have hr:Rf sd (gU lo hi) (.tuple (A0 (((sd.map p0).length:Nat):Int).toNat [p0<|(10:Int) ^ (29:Int).toNat]).flatten) 2 "NoField":=by
   rw[BD,S6,hlm];exact oN hsd
  refine⟨⟨by decide,by decide,by decide⟩,by simp,by lia,by lia,FX<|by lia,?_⟩;refine RZ h3 hr (.inr<|.inr ⟨rfl,rfl⟩) λo=>?_;exact hM _ rfl
 rintro _ rfl;with_reducible refine iX (λρ=>∃(r:Int) (k l:Int),(0<=r/\r<sd.length)/\(0<=k/\0<=l)/\ρ=rh ns k l (ZA tn) (ZA<|nX sd cl) (ZA<|tupD sd) (ZA<|gU lo hi) e6 (ZA d7) none none none (ZA<|.int r) none none none) ?_ ?_
 .intro M hM;exact⟨ns,k,l,(sd.map p0).length,rfl,hk,hl,by lia,by lia,λr k1 l1 _ r0 r1 hk1 hl1=>hM _ ⟨r,k1,l1,⟨r0,by lia⟩,⟨hk1,hl1⟩,rfl⟩⟩
 clear hk hl;rintro _ ⟨r,k,l,⟨r0,r1⟩,⟨hk,hl⟩,rfl⟩;have hcp:(cl.length:Int)=prodI sd:=by have:=aJ hsd.p;lia
 have hclm:(cl.map p0).length=cl.length:=B0 ..;have hp0:=tZ hsd.p;with_reducible refine ay [.tuple [.int 0,.str ""],.tuple [.int 1,.str "field"]] (rh ns k l (ZA tn) (ZA<|nX sd cl) (ZA<|tupD sd) (ZA<|gU lo hi) e6 (ZA d7) none none none (ZA<|.int r) none none none) ?_ ?_
 .exact λQ h=>h
 refine bZ (λrest ρ=>(∀d∈rest,∃(m:Int) (x:Str),d=.tuple [.int m,.str x]/\((m=0/\x = "")\/(m=1/\x = "field")))/\ρ=rh ns k l (ZA tn) (ZA<|nX sd cl) (ZA<|tupD sd) (ZA<|gU lo hi) e6 (ZA d7) none none none (ZA<|.int r) none none none) ?_ ?_ ⟨?_,rfl⟩
 .rintro d ds _ ⟨hd,rfl⟩ N2 hN2;obtain⟨m,x,rfl,hmx⟩:=hd d L0;have hd':∀d∈ds,∃(m:Int) (x:Str),d=.tuple [.int m,.str x]/\((m=0/\x = "")\/(m=1/\x = "field")):=λd h=>hd d<|K0 _ h;have hj:=pN (j:=r.toNat) (k:=sd.length-r.toNat-1) hsd h24 (by lia) hmx;refine⟨rfl,?_⟩;with_reducible refine sS (rh ns k l (ZA tn) (ZA<|nX sd cl) (ZA<|tupD sd) (ZA<|gU lo hi) e6 (ZA d7) none none none (ZA<|.int r) (ZA<|.int m) (ZA<|.str x) none) ?_ ?_
  .intro Q h;exact h
  with_reducible refine iX (λρ=>ρ=rh ns k l (ZA tn) (ZA<|nX sd cl) (ZA<|tupD sd) (ZA<|gU lo hi) e6 (ZA d7) none none none (ZA<|.int r) (ZA<|.int m) (ZA<|.str x) (ZA<|tupD<|A0 r.toNat 1++[120 / prodI sd+m]++A0 (sd.length-r.toNat-1) 1)) ?_ ?_
  .intro M hM;have e:G1 (((A0 r.toNat [p0 1]).flatten++[p0<|120 / ((cl.map p0).length:Int)+m])++(A0 (((sd.map p0).length:Int)-r-1).toNat [p0 1]).flatten)=tupD (A0 r.toNat 1++[120 / prodI sd+m]++A0 (sd.length-r.toNat-1) 1):=by
    rw[QV,QV,hclm,hcp,hlm,show ((sd.length:Int)-r-1).toNat=sd.length-r.toNat-1 by lia];show _=G1 ((A0 r.toNat 1++[120 / prodI sd+m]++A0 (sd.length-r.toNat-1) (1:Int)).map p0);rw[N1,N1,Y2,Y2];rfl
   have hM:=hM _ rfl;rw[<-e]at hM;clear e;refine⟨by simp,r0,by lia,FX<|by lia,?_⟩;refine⟨_,rfl,⟨by lia,by lia⟩,?_⟩;refine⟨by rw[jJ];exact fQ (by show r.toNat+1<=1000;lia),?_⟩;refine⟨by simp,by lia,by lia,FX<|by lia,?_⟩;refine⟨by rw[M0,jJ,jJ];exact fQ (by show r.toNat+1+_<=1000;lia),?_⟩;exact hM
  rintro _ rfl;refine LG (cl:=cl) rfl rfl hj hcl λo=>?_;refine UX (λh=>?_)<|λ_=>hN2 _ ⟨hd',rfl⟩;have h:(!decide (x=x))=true:=h;rw[decide_eq_true rfl]at h;cases h
 .rintro _ ⟨_,rfl⟩;exact hN _ ⟨k,l,hk,hl,dy he⟩
 .intro d hd;simp only[P0,O1,or_false]at hd;rcases hd with rfl|rfl
  .exact⟨0,"",rfl,.inl ⟨rfl,rfl⟩⟩
  .exact⟨1,"field",rfl,.inr ⟨rfl,rfl⟩⟩
theorem DP(h:p []):∀us:List Value,us.length=0->p us:=λus e=>by
 cases us with
 |nil=>exact h
 |cons x us=>cases e
theorem len1(h:∀x0,p [x0]):∀us:List Value,us.length=1->p us:=λus e=>by
 cases us with
 |nil=>cases e
 |cons x us=>exact DP (p:=λl=>p (x::l)) (h x) us<|G8 e
theorem len2(h:∀x0 x1,p [x0,x1]):∀us:List Value,us.length=2->p us:=λus e=>by
 cases us with
 |nil=>cases e
 |cons x us=>exact len1 (p:=λl=>p (x::l)) (λx1=>h x x1) us<|G8 e
theorem hU(h:∀x0 x1 x2,p [x0,x1,x2]):∀us:List Value,us.length=3->p us:=λus e=>by
 cases us with
 |nil=>cases e
 |cons x us=>exact len2 (p:=λl=>p (x::l)) (λx1 x2=>h x x1 x2) us<|G8 e
theorem VR(h:∀x0 x1 x2 x3,p [x0,x1,x2,x3]):∀us:List Value,us.length=4->p us:=λus e=>by
 cases us with
 |nil=>cases e
 |cons x us=>exact hU (p:=λl=>p (x::l)) (λx1 x2 x3=>h x x1 x2 x3) us<|G8 e
structure Df(K:G0)(mg:Str->Option Value)(x:Str)(st:Stmt)(f:Addr)(d:FuncData):Prop where
 F:Fun K x x st f d
 m:mg x=some (.ref f)
 k:O3 K (.ref f)=true
section
variable {K:G0}{mg:Str->Option Value}
theorem df_mk(X:K.In h)(G:h.Ns mainGlobals mg){x:Str}{st:Stmt}{f:Addr}{oc:Value}{od an:Option Addr}{osl:Array (Option Value)}{kV doc pm cdv ct:Value}(a:B1 K mainGlobals x=some (some<|.ref f))(l:K.lookup f=some ⟨oc,od,.func<|V4 x x (UZ st) (cX st) (aQ st) .none kV doc pm an cdv ct,osl⟩)(c:K7 K cdv x=true)(k:O3 K (.ref f)=true):Df K mg x st f (V4 x x (UZ st) (cX st) (aQ st) .none kV doc pm an cdv ct):=⟨FI l c k,N0 X G a,k⟩
theorem zX(P:Program)(w:World)(base:Heap){k:Nat}{x:Str}{ps:List Str}{sp:Sp}{st:Stmt}{f:Addr}{d:FuncData}(D:Df K mg x st f d)(h:FnOk P w K mg base OX k f d ps sp)(b:∀(kV doc pm:Value) (an:Option Addr) (cdv ct:Value) (us:List Value),us.length=ps.length->bindArgs (V4 x x (UZ st) (cX st) (aQ st) .none kV doc pm an cdv ct) ⟨us,[]⟩=pure (ps.zip us)):Cal P w K mg base k x ps sp:=⟨⟨f,d,h,D.m,D.k,D.F.binds b⟩⟩
theorem aY(P:Program)(w:World)(base:Heap){k:Nat}{x:Str}{ps:List Str}{sp:Sp}{st:Stmt}{f:Addr}{d:FuncData}(D:Df K mg x st f d)(h:FnOk P w K mg base (QZ P w) k f d ps sp)(b:∀(kV doc pm:Value) (an:Option Addr) (cdv ct:Value) (us:List Value),us.length=ps.length->bindArgs (V4 x x (UZ st) (cX st) (aQ st) .none kV doc pm an cdv ct) ⟨us,[]⟩=pure (ps.zip us)):CalX P w K mg base k x ps sp:=⟨⟨f,d,h,D.m,D.k,D.F.binds b⟩⟩
end
theorem all_mk{l:Q8}{w:World}{K:G0}{mg:Str->Option Value}{fa f0 f1 f2 f3 f4 f5 f6 f7 f8 f9 f10 f11 f12 f13 f14 f15 f16 f17 f18 f19 f20 f21 f22 f23 f24 f25 f26 f27 f28 f29 f30 f31 f32 f33 f34 f35 f36 f37 f38 f39 f40 f41 f42 f43 f44 f45 f46 f47 f48 f49 f50 f51 f52 f53 f54 cl0 cl1 cl2 cl3 cl4 cl5 cl6 cl7 cl8 cl9 cl10 cl11 cl12 cl13:Addr}{d0 d1 d2 d3 d4 d5 d6 d7 d8 d9 d10 d11 d12 d13 d14 d15 d16 d17 d18 d19 d20 d21 d22 d23 d24 d25 d26 d27 d28 d29 d30 d31 d32 d33 d34 d35 d36 d37 d38 d39 d40 d41 d42 d43 d44 d45 d46 d47 d48 d49 d50 d51 d52 d53 d54:FuncData}(X:K.In h)(G:h.Ns mainGlobals mg)(hfa:mg "law"=some (.ref fa)){tk0:Tok}(D0:Df K mg "_law_pen" (top 43) f0 d0) (D1:Df K mg "_law_take" (top 44) f1 d1) (D2:Df K mg "_law_sides" (top 46) f2 d2) (D3:Df K mg "_law_number" (top 45) f3 d3) (D4:Df K mg "_law_places" (top 47) f4 d4) (D5:Df K mg "_law_all" (top 48) f5 d5) (D6:Df K mg "_law_field" (top 49) f6 d6) (D7:Df K mg "_law_box" (top 50) f7 d7) (D8:Df K mg "_law_keyed" (top 53) f8 d8) (D9:Df K mg "_law_near_places" (top 54) f9 d9) (D10:Df K mg "_law_near_boxes" (top 55) f10 d10) (D11:Df K mg "_law_is_place" (top 51) f11 d11) (D12:Df K mg "_law_is_box" (top 52) f12 d12) (D13:Df K mg "_law_order" (top 57) f13 d13) (D14:Df K mg "_law_some" (top 58) f14 d14) (D15:Df K mg "_law_odd" (top 60) f15 d15) (D16:Df K mg "is_whole" (top 10) f16 d16) (D17:Df K mg "are_wholes" (top 11) f17 d17) (D18:Df K mg "ask_for_order" (top 26) f18 d18) (D19:Df K mg "exchanged" (top 31) f19 d19) (D20:Df K mg "ask_for_ways" (top 27) f20 d20) (D21:Df K mg "mirrored" (top 33) f21 d21) (D22:Df K mg "ask_for_factors" (top 28) f22 d22) (D23:Df K mg "stretched" (top 36) f23 d23) (D24:Df K mg "ask_for_factors" (top 28) f24 d24) (D25:Df K mg "times" (top 34) f25 d25) (D26:Df K mg "product" (top 12) f26 d26) (D27:Df K mg "field_from" (top 29) f27 d27) (D28:Df K mg "stretched" (top 36) f28 d28) (D29:Df K mg "box_exchanged" (top 39) f29 d29) (D30:Df K mg "box_mirrored" (top 40) f30 d30) (D31:Df K mg "box_stretched" (top 41) f31 d31) (D32:Df K mg "ask_for_order" (top 26) f32 d32) (D33:Df K mg "is_place" (top 18) f33 d33) (D34:Df K mg "is_box" (top 19) f34 d34) (D35:Df K mg "ask_for_box" (top 20) f35 d35) (D36:Df K mg "box_exchanged" (top 39) f36 d36) (D37:Df K mg "ask_for_ways" (top 27) f37 d37) (D38:Df K mg "box_mirrored" (top 40) f38 d38) (D39:Df K mg "box_stretched" (top 41) f39 d39) (D40:Df K mg "cut" (top 38) f40 d40) (D41:Df K mg "one_of_each" (top 13) f41 d41) (D42:Df K mg "places_between" (top 14) f42 d42) (D43:Df K mg "first_place" (top 21) f43 d43) (D44:Df K mg "last_place" (top 22) f44 d44) (D45:Df K mg "all_places" (top 24) f45 d45) (D46:Df K mg "index_of" (top 15) f46 d46) (D47:Df K mg "cell_at" (top 23) f47 d47) (D48:Df K mg "place_shrunk" (top 35) f48 d48) (D49:Df K mg "field_from" (top 29) f49 d49) (D50:Df K mg "stretched" (top 36) f50 d50) (D51:Df K mg "_law_word" (top 56) f51 d51) (D52:Df K mg "_law_asked" (top 59) f52 d52) (D53:Df K mg "_law_just_right" (top 61) f53 d53) (D54:Df K mg "law" (top 62) f54 d54)(x0:B1 K mainGlobals "exchanged"=some (some<|.ref cl0)) (x1:B1 K mainGlobals "mirrored"=some (some<|.ref cl1)) (x2:B1 K mainGlobals "stretched"=some (some<|.ref cl2)) (x3:B1 K mainGlobals "box_exchanged"=some (some<|.ref cl3)) (x4:B1 K mainGlobals "box_mirrored"=some (some<|.ref cl4)) (x5:B1 K mainGlobals "box_stretched"=some (some<|.ref cl5)) (x6:B1 K mainGlobals "BoxError"=some (some<|.ref cl6)) (x7:B1 K mainGlobals "NoField"=some (some<|.ref cl7)) (x8:B1 K mainGlobals "NoBox"=some (some<|.ref cl8)) (x9:B1 K mainGlobals "NoTurn"=some (some<|.ref cl9)) (x10:B1 K mainGlobals "NoNumber"=some (some<|.ref cl10)) (x11:B1 K mainGlobals "NoText"=some (some<|.ref cl11)) (x12:B1 K mainGlobals "NoRow"=some (some<|.ref cl12)) (x13:B1 K mainGlobals "NoBack"=some (some<|.ref cl13)) (z0:B1 K mainGlobals "len"=some none) (z1:B1 K mainGlobals "abs"=some none) (z2:B1 K mainGlobals "min"=some none) (z3:B1 K mainGlobals "max"=some none) (z4:B1 K mainGlobals "dict"=some none) (z5:B1 K mainGlobals "all"=some none) (z6:B1 K mainGlobals "isinstance"=some none) (z7:B1 K mainGlobals "tuple"=some none) (z8:B1 K mainGlobals "list"=some none) (z9:B1 K mainGlobals "int"=some none) (z10:B1 K mainGlobals "bool"=some none) (z11:B1 K mainGlobals "range"=some none) (z12:B1 K mainGlobals "set"=some none) (z13:B1 K mainGlobals "zip"=some none) (z14:B1 K mainGlobals "sorted"=some none) (z15:B1 K mainGlobals "ValueError"=some none) (y0:B1 K mainGlobals "MOST_CELLS"=some (some<|.int 120 tk0)) (e0:NJ K cl6) (e1:NJ K cl8) (e2:yq K cl8 "__getattribute__"=true) (e3:yq K cl8 "__getattr__"=true) (e4:yq K cl8 "__class__"=true) (e5:NJ K cl9) (e6:yq K cl9 "__getattribute__"=true) (e7:yq K cl9 "__getattr__"=true) (e8:yq K cl9 "__class__"=true) (e9:NJ K cl7) (e10:yq K cl7 "__getattribute__"=true) (e11:yq K cl7 "__getattr__"=true) (e12:yq K cl7 "__class__"=true) (e13:QX K cl7=true) (e14:QX K cl8=true) (e15:QX K cl9=true) (e16:QX K cl10=true) (e17:QX K cl11=true) (e18:QX K cl12=true) (e19:QX K cl13=true) (e20:sQ K cl8 cl6=true) (e21:sQ K cl8 cl7=false) (e22:sQ K cl8 cl8=true) (e23:sQ K cl8 cl9=false) (e24:sQ K cl8 cl10=false) (e25:sQ K cl8 cl11=false) (e26:sQ K cl8 cl12=false) (e27:sQ K cl8 cl13=false) (e28:sQ K cl9 cl6=true) (e29:sQ K cl9 cl7=false) (e30:sQ K cl9 cl8=false) (e31:sQ K cl9 cl9=true) (e32:sQ K cl9 cl10=false) (e33:sQ K cl9 cl11=false) (e34:sQ K cl9 cl12=false) (e35:sQ K cl9 cl13=false) (e36:sQ K cl7 cl6=true) (e37:sQ K cl7 cl7=true) (e38:sQ K cl7 cl8=false) (e39:sQ K cl7 cl9=false) (e40:sQ K cl7 cl10=false) (e41:sQ K cl7 cl11=false) (e42:sQ K cl7 cl12=false) (e43:sQ K cl7 cl13=false) (e44:DB K "stretched" d28=true) (e45:DB K "stretched" d50=true) (e46:uU K "stretched"=Zy (cX<|top 36)):∃fd:FuncData,(∀(s:Shared) (v:Value),BindsTo s fd ⟨[v],[]⟩ [("_law_script",v)])/\∀base:Heap,K.In base->base.Ns mainGlobals mg->FnOk l.prog w K mg base OX 10 fa fd ["_law_script"] (dQ K cLaw):=by
 cases hfa.symm.trans D54.m;have T:Txt mg:=⟨⟨_,N0 X G y0⟩,X1 X G z0,X1 X G z1,X1 X G z2,X1 X G z3,X1 X G z4,X1 X G z5,X1 X G z6,X1 X G z7,X1 X G z8,X1 X G z9,X1 X G z10,X1 X G z11,X1 X G z12,X1 X G z13,X1 X G z14,WZ<|N0 X G x0,WZ<|N0 X G x1,WZ<|N0 X G x2,WZ<|N0 X G x3,WZ<|N0 X G x4,WZ<|N0 X G x5,X1 X G z15,WZ<|N0 X G x6,WZ<|N0 X G x7,WZ<|N0 X G x8,WZ<|N0 X G x9,WZ<|N0 X G x10,WZ<|N0 X G x11,WZ<|N0 X G x12,WZ<|N0 X G x13⟩;have L:Cls K mg:=⟨by rw[(L3.cA_of<|N0 X G x6)];exact e0,
   by rw[(L3.cA_of<|N0 X G x8)];exact e1,
   by rw[(L3.cA_of<|N0 X G x8)];exact⟨e1,e2,e3,e4⟩,
   by rw[(L3.cA_of<|N0 X G x9)];exact e5,
   by rw[(L3.cA_of<|N0 X G x9)];exact⟨e5,e6,e7,e8⟩,
   by rw[(L3.cA_of<|N0 X G x7)];exact e9,
   by rw[(L3.cA_of<|N0 X G x7)];exact⟨e9,e10,e11,e12⟩,
   by rw[(L3.cA_of<|N0 X G x7)];exact e13,
   by rw[(L3.cA_of<|N0 X G x8)];exact e14,
   by rw[(L3.cA_of<|N0 X G x9)];exact e15,
   by rw[(L3.cA_of<|N0 X G x10)];exact e16,
   by rw[(L3.cA_of<|N0 X G x11)];exact e17,
   by rw[(L3.cA_of<|N0 X G x12)];exact e18,
   by rw[(L3.cA_of<|N0 X G x13)];exact e19,
   by rw[(L3.cA_of<|N0 X G x8),(L3.cA_of<|N0 X G x6)];exact e20,
   by rw[(L3.cA_of<|N0 X G x8),(L3.cA_of<|N0 X G x7)];exact e21,
   by rw[(L3.cA_of<|N0 X G x8)];exact e22,
   by rw[(L3.cA_of<|N0 X G x8),(L3.cA_of<|N0 X G x9)];exact e23,
   by rw[(L3.cA_of<|N0 X G x8),(L3.cA_of<|N0 X G x10)];exact e24,
   by rw[(L3.cA_of<|N0 X G x8),(L3.cA_of<|N0 X G x11)];exact e25,
   by rw[(L3.cA_of<|N0 X G x8),(L3.cA_of<|N0 X G x12)];exact e26,
   by rw[(L3.cA_of<|N0 X G x8),(L3.cA_of<|N0 X G x13)];exact e27,
   by rw[(L3.cA_of<|N0 X G x9),(L3.cA_of<|N0 X G x6)];exact e28,
   by rw[(L3.cA_of<|N0 X G x9),(L3.cA_of<|N0 X G x7)];exact e29,
   by rw[(L3.cA_of<|N0 X G x9),(L3.cA_of<|N0 X G x8)];exact e30,
   by rw[(L3.cA_of<|N0 X G x9)];exact e31,
   by rw[(L3.cA_of<|N0 X G x9),(L3.cA_of<|N0 X G x10)];exact e32,
   by rw[(L3.cA_of<|N0 X G x9),(L3.cA_of<|N0 X G x11)];exact e33,
   by rw[(L3.cA_of<|N0 X G x9),(L3.cA_of<|N0 X G x12)];exact e34,
   by rw[(L3.cA_of<|N0 X G x9),(L3.cA_of<|N0 X G x13)];exact e35,
   by rw[(L3.cA_of<|N0 X G x7),(L3.cA_of<|N0 X G x6)];exact e36,
   by rw[(L3.cA_of<|N0 X G x7)];exact e37,
   by rw[(L3.cA_of<|N0 X G x7),(L3.cA_of<|N0 X G x8)];exact e38,
   by rw[(L3.cA_of<|N0 X G x7),(L3.cA_of<|N0 X G x9)];exact e39,
   by rw[(L3.cA_of<|N0 X G x7),(L3.cA_of<|N0 X G x10)];exact e40,
   by rw[(L3.cA_of<|N0 X G x7),(L3.cA_of<|N0 X G x11)];exact e41,
   by rw[(L3.cA_of<|N0 X G x7),(L3.cA_of<|N0 X G x12)];exact e42,
   by rw[(L3.cA_of<|N0 X G x7),(L3.cA_of<|N0 X G x13)];exact e43⟩;obtain⟨oc,od,kV,doc,pm,an,cdv,ct,osl,e,lk,hcd⟩:=D54.F.ex;refine⟨d54,λs v=>by subst e;exact .of_eq rfl,λb _ _=>?_⟩;have LF:LamF K:=⟨e46⟩;have C0:=zX l.prog w b D0 (CM D0.F) λ_ _ _ _ _ _=>len1 λ_=>rfl;have C1:=zX l.prog w b D1 (EB D1.F T) λ_ _ _ _ _ _=>len2 λ_ _=>rfl;have C2:=zX l.prog w b D2 (sv D2.F T ⟨C1⟩) λ_ _ _ _ _ _=>len2 λ_ _=>rfl;have C3:=zX l.prog w b D3 (Ij D3.F T ⟨C1⟩) λ_ _ _ _ _ _=>len1 λ_=>rfl;have C4:=zX l.prog w b D4 (EM D4.F T) λ_ _ _ _ _ _=>len2 λ_ _=>rfl;have C5:=zX l.prog w b D5 (HB D5.F T ⟨C4⟩) λ_ _ _ _ _ _=>len1 λ_=>rfl;have C6:=zX l.prog w b D6 (Av D6.F T ⟨C2,C3,C5⟩) λ_ _ _ _ _ _=>len2 λ_ _=>rfl;have C7:=zX l.prog w b D7 (bN D7.F T ⟨C1⟩) λ_ _ _ _ _ _=>len2 λ_ _=>rfl;have C8:=zX l.prog w b D8 (Rv D8.F T) λ_ _ _ _ _ _=>len1 λ_=>rfl;have C9:=zX l.prog w b D9 (Sv D9.F T ⟨C1,C8⟩) λ_ _ _ _ _ _=>len2 λ_ _=>rfl;have C10:=zX l.prog w b D10 (Uv D10.F T ⟨C7,C8,C9⟩) λ_ _ _ _ _ _=>len2 λ_ _=>rfl;have C11:=zX l.prog w b D11 (Kj D11.F T) λ_ _ _ _ _ _=>len2 λ_ _=>rfl;have C12:=zX l.prog w b D12 (qC D12.F T ⟨C11⟩) λ_ _ _ _ _ _=>len2 λ_ _=>rfl;have C13:=zX l.prog w b D13 (dN D13.F T ⟨C1⟩) λ_ _ _ _ _ _=>len2 λ_ _=>rfl;have C14:=zX l.prog w b D14 (fN D14.F T ⟨C1⟩) λ_ _ _ _ _ _=>len2 λ_ _=>rfl;have C15:=zX l.prog w b D15 (lN D15.F T ⟨C13,C14,C1,C5⟩) λ_ _ _ _ _ _=>hU λ_ _ _=>rfl;have C16:=zX l.prog w b D16 (Dv D16.F T) λ_ _ _ _ _ _=>len1 λ_=>rfl;have C17:=zX l.prog w b D17 (JB D17.F T ⟨C16⟩) λ_ _ _ _ _ _=>len2 λ_ _=>rfl;have C18:=aY l.prog w b D18 (HM D18.F T L ⟨C17⟩) λ_ _ _ _ _ _=>len2 λ_ _=>rfl;have C19:=aY l.prog w b D19 (MM D19.F T L ⟨C18⟩) λ_ _ _ _ _ _=>len2 λ_ _=>rfl;have C20:=aY l.prog w b D20 (KM D20.F T L ⟨C17⟩) λ_ _ _ _ _ _=>len2 λ_ _=>rfl;have C21:=aY l.prog w b D21 (NM D21.F T L ⟨C20⟩) λ_ _ _ _ _ _=>len2 λ_ _=>rfl;have C22:=aY l.prog w b D22 (IM D22.F T L ⟨C17⟩) λ_ _ _ _ _ _=>len2 λ_ _=>rfl;have C23:=aY l.prog w b D23 (OM D23.F T L ⟨C22⟩) λ_ _ _ _ _ _=>len2 λ_ _=>rfl;have C24:=zX l.prog w b D24 (oP D24.F T ⟨C17⟩) λ_ _ _ _ _ _=>len2 λ_ _=>rfl;have C25:=zX l.prog w b D25 (Nv D25.F T) λ_ _ _ _ _ _=>len2 λ_ _=>rfl;have C26:=zX l.prog w b D26 (gC D26.F) λ_ _ _ _ _ _=>len1 λ_=>rfl;have C27:=aY l.prog w b D27 (YM D27.F T L ⟨C26⟩) λ_ _ _ _ _ _=>hU λ_ _ _=>rfl;have C28:=aY l.prog w b D28 (mC D28.F T L ⟨C24,C25,C27⟩<|qE e44) λ_ _ _ _ _ _=>len2 λ_ _=>rfl;have C29:=aY l.prog w b D29 (RM D29.F T L ⟨C18⟩) λ_ _ _ _ _ _=>hU λ_ _ _=>rfl;have C30:=aY l.prog w b D30 (SM D30.F T L ⟨C20⟩) λ_ _ _ _ _ _=>hU λ_ _ _=>rfl;have C31:=aY l.prog w b D31 (TM D31.F T L ⟨C22⟩) λ_ _ _ _ _ _=>hU λ_ _ _=>rfl;have C32:=zX l.prog w b D32 (pP D32.F T ⟨C17⟩) λ_ _ _ _ _ _=>len2 λ_ _=>rfl;have C33:=zX l.prog w b D33 (uD D33.F T ⟨C17⟩) λ_ _ _ _ _ _=>len2 λ_ _=>rfl;have C34:=zX l.prog w b D34 (Fv D34.F T ⟨C33⟩) λ_ _ _ _ _ _=>len2 λ_ _=>rfl;have C35:=aY l.prog w b D35 (LB D35.F T L ⟨C34⟩) λ_ _ _ _ _ _=>len2 λ_ _=>rfl;have C36:=aY l.prog w b D36 (ZB D36.F T L ⟨C32,C35⟩) λ_ _ _ _ _ _=>hU λ_ _ _=>rfl;have C37:=zX l.prog w b D37 (qP D37.F T ⟨C17⟩) λ_ _ _ _ _ _=>len2 λ_ _=>rfl;have C38:=aY l.prog w b D38 (aC D38.F T L ⟨C37,C35⟩) λ_ _ _ _ _ _=>hU λ_ _ _=>rfl;have C39:=aY l.prog w b D39 (bC D39.F T L ⟨C24,C35⟩) λ_ _ _ _ _ _=>hU λ_ _ _=>rfl;have C40:=aY l.prog w b D40 (QM D40.F T L ⟨C35⟩) λ_ _ _ _ _ _=>len2 λ_ _=>rfl;have C41:=zX l.prog w b D41 (KB D41.F) λ_ _ _ _ _ _=>len1 λ_=>rfl;have C42:=zX l.prog w b D42 (FM D42.F T ⟨C41⟩) λ_ _ _ _ _ _=>len2 λ_ _=>rfl;have C43:=zX l.prog w b D43 (Jv D43.F T) λ_ _ _ _ _ _=>len1 λ_=>rfl;have C44:=zX l.prog w b D44 (MB D44.F T) λ_ _ _ _ _ _=>len1 λ_=>rfl;have C45:=zX l.prog w b D45 (tH D45.F ⟨C42,C43,C44⟩) λ_ _ _ _ _ _=>len1 λ_=>rfl;have C46:=zX l.prog w b D46 (Hv D46.F T) λ_ _ _ _ _ _=>len2 λ_ _=>rfl;have C47:=zX l.prog w b D47 (iP D47.F ⟨C46⟩) λ_ _ _ _ _ _=>len2 λ_ _=>rfl;have C48:=zX l.prog w b D48 (VM D48.F T) λ_ _ _ _ _ _=>len2 λ_ _=>rfl;have CV:=WM (P:=l.prog) (w:=w) (base:=b) LF ⟨C48⟩;have C49:=zX l.prog w b D49 (vP D49.F T ⟨C26,C45,C47,CV⟩) λ_ _ _ _ _ _=>hU λ_ _ _=>rfl;have C50:=zX l.prog w b D50 (XM D50.F T ⟨C24,C25,C49⟩ LF<|qE e45) λ_ _ _ _ _ _=>len2 λ_ _=>rfl;have C51:=zX l.prog w b D51 (oC D51.F T L) λ_ _ _ _ _ _=>len1 λ_=>rfl;have C52:=zX l.prog w b D52 (cy D52.F T L ⟨C19,C21,C23,C28,C29,C30,C31,C36,C38,C39,C40,C50,C51⟩) λ_ _ _ _ _ _=>VR λ_ _ _ _=>rfl;have C53:=zX l.prog w b D53 (BP D53.F T ⟨C52⟩) λ_ _ _ _ _ _=>DP rfl;exact rN D54.F T ⟨C0,C1,C6,C7,C10,C12,C13,C14,C15,C52,C53⟩
end
end R56
open PySem.W
inductive PySem.W.Fast|tw8635486130534656526|tw5724038406251662689|tw17083113345103399500|tw2278643836273985052|tw3373683427812330146|tw8146463385149611307|tw699299510097511133|tw15436592221944418307|tw2896473980894439689|tw14918691548081207626|tw2655920371575138064|tw8859800579410167103|tw10406761145286437279|tw818872336963779807|tw14510945640422035737|tw11920448667904452169|tw9234769661321346865|tw779253557395363008|tw13151314850016727501|tw7689545919423932722|tw17382101101028631146|tw16000577904646860293|tw14416278997892591429|tw11201000898075371061|tw7069824691143272026|tw7786106625243974105|tw13885353370783163295|tw6513072288079619524|tw2398776600654651905|tw9339454713862179660|tw17237496972230932201|tw14150671489008820077|tw6431228813247636406|tw17297090206392908370|tw3020255275376503634|tw17795782141456757909|tw1752802103148534679|tw5309247988750848303|tw15061531101675001256|tw17762569148088917342|tw16490354605220718627|tw5123547724326343006|tw15418938078108328019|tw7626344923160730909|tw10311836976938482505|tw11135808615972597070|tw6597546239952159810|tw7283534154413756541|tw10284274805422212821|tw16911866998517588970|tw12122499251348333649|tw1245201012325699634|tw15493408918899501938|tw2123219570071077816|tw14466357185501219038|tw14080728420972100035|tw8592801062666698040|tw13546735230315234156|tw11395389906744954981|tw14492039976698865261|tw4160683221204202772|tw14043302360066882487|tw12524374362755230667|tw8966879333787694656|tw6680360234502888906|tw8526359446188783960|tw17759897998338897005|tw16153694299300845659|tw15577701221123394903|tw4619296908627297029|tw6556467524400135358|tw8440997568040405385|tw10061731267246313200|tw10372646342963506834|tw14034904966948328226|tw2484172788413427412|tw3980160426649275159|tw11694054385497471485|tw17968100499870139979|tw15156630607839329959|tw13239772672652744907|tw10842056440706566779|tw7285513671411537965|tw16137827323204887489|tw12301020376426123618|tw172737049200237054|tw3146726501803169505|tw6807067058532112696|tw8762475618550638776|tw9063981334256509824|tw14814979804359874776|tw9168687971231255091|tw1909865839164479948|tw13079202088286346527|tw224939455342330552|tw11664210545491895204|tw4706197070389514173|tw14871754134477822517|tw15376238324859312|tw500363701623472682|tw6583487747288866450|tw4824977070233976854|tw2428807203167631716|tw6919504229613970720|tw15530330580921949656|tw13370187835604226379|tw11672718188078155026|tw16433588808011018813|tw9817429791186167479|tw11134274625826289318|tw18007862813326141130|tw7264580098328057474|tw2930974356708212033|tw11018301874151505766|tw15116720447431731083|tw1788459821286861518|tw11149329233116720067|tw14914221219282494624|tw435168204213130572|tw9004662746463767752|tw11758670077406401816|tw12696883088721844620|tw14308443631961218327|tw14842556709110711324|tw2251504925079052597|tw5612168259810339295|tw2641890880606886967|tw6557890385190031558|tw6114720901973316022|tw9698278166528918991|tw7558987120401834811|tw12486794123779956844|tw10730842158158306551|tw15375722354500824903|tw8960501348945513164|tw13668789149084541262|tw2792683693892028218|tw1664710197902054116|tw17821161222888985495|tw3417077734251408781|tw9475974353854627455|tw15650022409550331450|tw3656738476847377193|tw3615058074618979078|tw1788126241613908095|tw17192880993874314845|tw11283743371587481329|tw8927791864213749369|tw12611669579968458322|tw5080376836016851858|tw15388841874703998418|tw15115855088440847845|tw10377852627746810149|tw3035132078184098663|tw18111517560694101674|tw5794382748785705360|tw5202968273106591017|tw3106094213514459282|tw7170118485944775767|tw746956460379517520|tw5582627717135091857|tw5554977499721063720|tw5343115945550090688|tw7054312256333086828|tw11862977245487386470|tw1297939934504458974|tw14071464738026584700|tw14882965577727406644|tw11073142237544412965|tw7854425059017678562|tw3788704177528546986|tw12363382015773751552|tw15651849057074451576|tw14833028498103199364|tw9986220725858429712|tw13400330198970172244|tw4664723445715553195|tw17197760265589608509|tw16007489109249177996|tw6263064444790726561|tw2494965991507041362|tw251157322756394522|tw2232515879107398517|tw2691480965774039508|tw18225577596349422867|tw4110634417220149204|tw13586665555278810270|tw17317713978359224|tw2190392860271876158|tw10116518699772653610|tw9770305359220943169|tw17132017512202864581|tw15538957221994692012|tw16508845434809667919|tw7674023319916800091|tw9899910283143046843|tw16305049383592746451|tw10010490012706112291|tw14975991116919088269|tw14396271570364616632|tw3451675166787800225|tw8457084029926209514|tw5596412144719176262|tw8089143186560006692|tw6656556728686222002|tw8675202816841757479|tw8778743399841243567|tw5773356497337184808|tw6223634047363176093|tw16972788672917924339|tw9248020905772981403|tw16608124645234364500|tw9148286162169523457|tw9450115534131914435|tw18140031416130714233|tw8618781045981927894|tw14181477869577487515|tw521849368374850731|tw5249467650578771902|tw15450195793989104958|tw2516439921583687920|tw12264233507038954402|tw10817724013604670668|tw8024367117764764958|tw5594913310161991966|tw3508931087356297861|tw6190780286052304302|tw10612371222250094063|tw17647011898528092433|tw13359411457865712681|tw4753644747423724276|tw12413224119955012536|tw11737562213246034739|tw10832935559024493239|tw14388850832916779479
set_option maxRecDepth 100000 in
set_option maxHeartbeats 0 in
theorem PySem.Challenge.cw_boxsums_k56_not_turned_holds : PySem.Challenge.rw_boxsums_k56_not_turned.Holds := by
 w_on;o_law;k_head;(case hw=>w_witness2)
 k_fill
 refine L3.walkT (l:=PySem.Challenge.rw_boxsums_k56_not_turned) (k:=10) (x:="_law_script") R56.cLaw_at ⟨rfl,by decide,by decide,rfl⟩ rfl rfl (λw h Y=>⟨PySem.W.km_in_of Y,PySem.W.km_tabs_of Y⟩) (λw=>by kernel_rfl) ?F
 case F =>
  intro w mg fa h KX G hmg
  refine' R56.all_mk KX G hmg (R56.df_mk KX G ?a0 ?l0 ?c0 ?k0) (R56.df_mk KX G ?a1 ?l1 ?c1 ?k1) (R56.df_mk KX G ?a2 ?l2 ?c2 ?k2) (R56.df_mk KX G ?a3 ?l3 ?c3 ?k3) (R56.df_mk KX G ?a4 ?l4 ?c4 ?k4) (R56.df_mk KX G ?a5 ?l5 ?c5 ?k5) (R56.df_mk KX G ?a6 ?l6 ?c6 ?k6) (R56.df_mk KX G ?a7 ?l7 ?c7 ?k7) (R56.df_mk KX G ?a8 ?l8 ?c8 ?k8) (R56.df_mk KX G ?a9 ?l9 ?c9 ?k9) (R56.df_mk KX G ?a10 ?l10 ?c10 ?k10) (R56.df_mk KX G ?a11 ?l11 ?c11 ?k11) (R56.df_mk KX G ?a12 ?l12 ?c12 ?k12) (R56.df_mk KX G ?a13 ?l13 ?c13 ?k13) (R56.df_mk KX G ?a14 ?l14 ?c14 ?k14) (R56.df_mk KX G ?a15 ?l15 ?c15 ?k15) (R56.df_mk KX G ?a16 ?l16 ?c16 ?k16) (R56.df_mk KX G ?a17 ?l17 ?c17 ?k17) (R56.df_mk KX G ?a18 ?l18 ?c18 ?k18) (R56.df_mk KX G ?a19 ?l19 ?c19 ?k19) (R56.df_mk KX G ?a20 ?l20 ?c20 ?k20) (R56.df_mk KX G ?a21 ?l21 ?c21 ?k21) (R56.df_mk KX G ?a22 ?l22 ?c22 ?k22) (R56.df_mk KX G ?a23 ?l23 ?c23 ?k23) (R56.df_mk KX G ?a24 ?l24 ?c24 ?k24) (R56.df_mk KX G ?a25 ?l25 ?c25 ?k25) (R56.df_mk KX G ?a26 ?l26 ?c26 ?k26) (R56.df_mk KX G ?a27 ?l27 ?c27 ?k27) (R56.df_mk KX G ?a28 ?l28 ?c28 ?k28) (R56.df_mk KX G ?a29 ?l29 ?c29 ?k29) (R56.df_mk KX G ?a30 ?l30 ?c30 ?k30) (R56.df_mk KX G ?a31 ?l31 ?c31 ?k31) (R56.df_mk KX G ?a32 ?l32 ?c32 ?k32) (R56.df_mk KX G ?a33 ?l33 ?c33 ?k33) (R56.df_mk KX G ?a34 ?l34 ?c34 ?k34) (R56.df_mk KX G ?a35 ?l35 ?c35 ?k35) (R56.df_mk KX G ?a36 ?l36 ?c36 ?k36) (R56.df_mk KX G ?a37 ?l37 ?c37 ?k37) (R56.df_mk KX G ?a38 ?l38 ?c38 ?k38) (R56.df_mk KX G ?a39 ?l39 ?c39 ?k39) (R56.df_mk KX G ?a40 ?l40 ?c40 ?k40) (R56.df_mk KX G ?a41 ?l41 ?c41 ?k41) (R56.df_mk KX G ?a42 ?l42 ?c42 ?k42) (R56.df_mk KX G ?a43 ?l43 ?c43 ?k43) (R56.df_mk KX G ?a44 ?l44 ?c44 ?k44) (R56.df_mk KX G ?a45 ?l45 ?c45 ?k45) (R56.df_mk KX G ?a46 ?l46 ?c46 ?k46) (R56.df_mk KX G ?a47 ?l47 ?c47 ?k47) (R56.df_mk KX G ?a48 ?l48 ?c48 ?k48) (R56.df_mk KX G ?a49 ?l49 ?c49 ?k49) (R56.df_mk KX G ?a50 ?l50 ?c50 ?k50) (R56.df_mk KX G ?a51 ?l51 ?c51 ?k51) (R56.df_mk KX G ?a52 ?l52 ?c52 ?k52) (R56.df_mk KX G ?a53 ?l53 ?c53 ?k53) (R56.df_mk KX G ?a54 ?l54 ?c54 ?k54) ?x0 ?x1 ?x2 ?x3 ?x4 ?x5 ?x6 ?x7 ?x8 ?x9 ?x10 ?x11 ?x12 ?x13 ?z0 ?z1 ?z2 ?z3 ?z4 ?z5 ?z6 ?z7 ?z8 ?z9 ?z10 ?z11 ?z12 ?z13 ?z14 ?z15 ?y0 ?e0 ?e1 ?e2 ?e3 ?e4 ?e5 ?e6 ?e7 ?e8 ?e9 ?e10 ?e11 ?e12 ?e13 ?e14 ?e15 ?e16 ?e17 ?e18 ?e19 ?e20 ?e21 ?e22 ?e23 ?e24 ?e25 ?e26 ?e27 ?e28 ?e29 ?e30 ?e31 ?e32 ?e33 ?e34 ?e35 ?e36 ?e37 ?e38 ?e39 ?e40 ?e41 ?e42 ?e43 ?e44 ?e45 ?e46
  case a0|l0|c0|k0|a1|l1|c1|k1|a2|l2|c2|k2|a3|l3|c3|k3|a4|l4|c4|k4|a5|l5|c5|k5|a6|l6|c6|k6|a7|l7|c7|k7|a8|l8|c8|k8|a9|l9|c9|k9|a10|l10|c10|k10|a11|l11|c11|k11|a12|l12|c12|k12|a13|l13|c13|k13|a14|l14|c14|k14|a15|l15|c15|k15|a16|l16|c16|k16|a17|l17|c17|k17|a18|l18|c18|k18|a19|l19|c19|k19|a20|l20|c20|k20|a21|l21|c21|k21|a22|l22|c22|k22|a23|l23|c23|k23|a24|l24|c24|k24|a25|l25|c25|k25|a26|l26|c26|k26|a27|l27|c27|k27|a28|l28|c28|k28|a29|l29|c29|k29|a30|l30|c30|k30|a31|l31|c31|k31|a32|l32|c32|k32|a33|l33|c33|k33|a34|l34|c34|k34|a35|l35|c35|k35|a36|l36|c36|k36|a37|l37|c37|k37|a38|l38|c38|k38|a39|l39|c39|k39|a40|l40|c40|k40|a41|l41|c41|k41|a42|l42|c42|k42|a43|l43|c43|k43|a44|l44|c44|k44|a45|l45|c45|k45|a46|l46|c46|k46|a47|l47|c47|k47|a48|l48|c48|k48|a49|l49|c49|k49|a50|l50|c50|k50|a51|l51|c51|k51|a52|l52|c52|k52|a53|l53|c53|k53|a54|l54|c54|k54|x0|x1|x2|x3|x4|x5|x6|x7|x8|x9|x10|x11|x12|x13|z0|z1|z2|z3|z4|z5|z6|z7|z8|z9|z10|z11|z12|z13|z14|z15|y0=>k_is
  case e0|e1|e2|e3|e4|e5|e6|e7|e8|e9|e10|e11|e12|e13|e14|e15|e16|e17|e18|e19|e20|e21|e22|e23|e24|e25|e26|e27|e28|e29|e30|e31|e32|e33|e34|e35|e36|e37|e38|e39|e40|e41|e42|e43|e44|e45|e46=>kernel_rfl
