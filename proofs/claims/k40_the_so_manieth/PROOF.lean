import PyProof.Rows.All
import Wide.All
import OpenK.AllK
import Wide.FinOn
import Lean
import PyProof.EqAt
import PyProof.EqKinds
import PyProof.TupleCall
import KE.KSortTup
import PyProof.Rows.SortRuns
import PyProof.Draws
import PyProof.EnumMake
import KE.KRevSl
import PySem.Challenge.RW_boxsums_k40_the_so_manieth
set_option Elab.async false
set_option linter.all false
set_option maxRecDepth 100000
set_option maxHeartbeats 4000000
namespace L2
open PySem PySem.Spec PyProof.Rows
noncomputable abbrev Key:=Sum Int Str
noncomputable def keyIs:Key -> Value -> Bool
 | .inl k,v=>Value.isInt k v
 | .inr x,v=>Value.isStrOf x v
noncomputable def keyH (w:World):Key -> Int
 | .inl k=>hashInt k
 | .inr x=>hashStr w x
theorem keyIs_shape:∀ {k:Key} {v:Value},keyIs k v = true -> (∃ i t,k = Sum.inl i /\ v = Value.int i t) \/ (∃ x t,k = Sum.inr x /\ v = Value.str x t)
 | .inl i,v,h=>by
  obtain ⟨t,e⟩:=Value.isInt_shape (k:=i) (v:=v) h
  exact .inl ⟨i,t,rfl,e⟩
 | .inr x,v,h=>by
  obtain ⟨t,e⟩:=Value.isStrOf_shape (x:=x) (v:=v) h
  exact .inr ⟨x,t,rfl,e⟩
theorem keyIs_int (i:Int) (t:Tok):keyIs (.inl i) (.int i t) = true:=by simp [keyIs,Value.isInt]
theorem keyIs_str (x:Str) (t:Tok):keyIs (.inr x) (.str x t) = true:=by simp [keyIs,Value.isStrOf]
theorem key_ll (a b:Int):decide ((Sum.inl a:Key) = Sum.inl b) = (a == b):=by
 by_cases e:a = b
 ·subst e; simp
 ·have h:¬ (Sum.inl a:Key) = Sum.inl b:=fun q=>e (Sum.inl.inj q)
  rw [decide_eq_false h]
  exact (beq_eq_false_iff_ne.mpr e).symm
theorem key_rr (a b:Str):decide ((Sum.inr a:Key) = Sum.inr b) = decide (a = b):=by
 by_cases e:a = b
 ·subst e; simp
 ·have h:¬ (Sum.inr a:Key) = Sum.inr b:=fun q=>e (Sum.inr.inj q)
  rw [decide_eq_false h,decide_eq_false e]
theorem key_lr (a:Int) (b:Str):decide ((Sum.inl a:Key) = Sum.inr b) = false:=decide_eq_false (fun q=>nomatch q)
theorem key_rl (a:Str) (b:Int):decide ((Sum.inr a:Key) = Sum.inl b) = false:=decide_eq_false (fun q=>nomatch q)
noncomputable def mixKind (prog:Program) (w:World):PySem.KeyKind prog w Key where
 is:=keyIs
 hash:=keyH w
 inj:=fun v a b ha hb=>by
  rcases keyIs_shape ha with ⟨i,t,rfl,rfl⟩ | ⟨x,t,rfl,rfl⟩
  ·rcases keyIs_shape hb with ⟨j,u,rfl,e⟩ | ⟨y,u,rfl,e⟩
   ·injection e with e1 _; rw [e1]
   ·exact nomatch e
  ·rcases keyIs_shape hb with ⟨j,u,rfl,e⟩ | ⟨y,u,rfl,e⟩
   ·exact nomatch e
   ·injection e with e1 _; rw [e1]
 byValue:=fun k v h=>by
  rcases keyIs_shape h with ⟨i,t,rfl,rfl⟩ | ⟨x,t,rfl,rfl⟩ <;> rfl
 pyHash:=fun hv h=>by
  rcases keyIs_shape hv with ⟨i,t,rfl,rfl⟩ | ⟨x,t,rfl,rfl⟩
  ·exact wpAny_pyHash_int h
  ·exact wpAny_pyHash_str h
 eqBool:=fun hu hv h=>by
  rcases keyIs_shape hu with ⟨i,t,rfl,rfl⟩ | ⟨x,t,rfl,rfl⟩
  ·rcases keyIs_shape hv with ⟨j,u,rfl,rfl⟩ | ⟨y,u,rfl,rfl⟩
   ·rw [key_ll] at h; exact wpAny_eqBool_int h
   ·rw [key_lr] at h; exact SeqAt.EqAt.int_str i t y u _ _ _ _ h
  ·rcases keyIs_shape hv with ⟨j,u,rfl,rfl⟩ | ⟨y,u,rfl,rfl⟩
   ·rw [key_rl] at h; exact SeqAt.EqAt.str_int x t j u _ _ _ _ h
   ·rw [key_rr] at h; exact wpAny_eqBool_str h
 «strs»:=fun k x t v h=>by
  rcases keyIs_shape h with ⟨i,u,rfl,e⟩ | ⟨y,u,rfl,e⟩
  ·exact nomatch e
  ·injection e with e1 _
   subst e1
   cases v <;> rfl
theorem mixKind_int (prog:Program) (w:World) (i:Int) (t:Tok):(mixKind prog w).is (.inl i) (.int i t) = true:=keyIs_int i t
theorem mixKind_str (prog:Program) (w:World) (x:Str) (t:Tok):(mixKind prog w).is (.inr x) (.str x t) = true:=keyIs_str x t
end L2
namespace L2
open PySem PySem.Spec PyProof.Rows
inductive V where
 | non | bl (b:Bool) | int (i:Int) | str (x:Str) | byt (b:Array UInt8) | flt (b:UInt64) | ref (a:Addr) | ty (n:String)
 deriving DecidableEq
noncomputable def RelV:V -> Value -> Prop
 | .non,u=>u = Value.none
 | .bl b,u=>u = Value.bool b
 | .int i,u=>∃ t,u = Value.int i t
 | .str x,u=>∃ t,u = Value.str x t
 | .byt b,u=>∃ t,u = Value.bytes b t
 | .flt b,u=>∃ t,u = Value.float b t
 | .ref a,u=>u = Value.ref a
 | .ty n,u=>u = Value.type n
noncomputable abbrev Vals:List V -> List Value -> Prop:=Paired RelV
theorem Vals.length {xs:List V} {us:List Value} (r:Vals xs us):xs.length = us.length:=Paired.length r
theorem Vals.get:∀ {xs:List V} {us:List Value} {i:Nat} {x:V},Vals xs us -> xs[i]? = some x -> ∃ u,us[i]? = some u /\ RelV x u
 | _,_,_,_,.nil,e=>by simp at e
 | _,_,0,_,.cons r _,e=>by simp at e; subst e; exact ⟨_,rfl,r⟩
 | _,_,i + 1,x,.cons _ t,e=>by
  obtain ⟨u,h1,h2⟩:=Vals.get (i:=i) (x:=x) t (by simpa using e)
  exact ⟨u,by simpa using h1,h2⟩
theorem Vals.set {x:V} {u:Value} (r:RelV x u):∀ {xs:List V} {us:List Value} (i:Nat),Vals xs us -> Vals (xs.set i x) (us.set i u)
 | _,_,_,.nil=>.nil
 | _,_,0,.cons _ t=>.cons r t
 | _,_,i + 1,.cons q t=>.cons q (Vals.set r i t)
theorem Vals.append:∀ {xs ys:List V} {us ws:List Value},Vals xs us -> Vals ys ws -> Vals (xs ++ ys) (us ++ ws)
 | _,_,_,_,.nil,s=>s
 | _,_,_,_,.cons r t,s=>.cons r (Vals.append t s)
theorem Vals.take:∀ {xs:List V} {us:List Value} (n:Nat),Vals xs us -> Vals (xs.take n) (us.take n)
 | _,_,0,_=>.nil
 | _,_,_ + 1,.nil=>.nil
 | _,_,n + 1,.cons r t=>.cons r (Vals.take n t)
theorem Vals.drop:∀ {xs:List V} {us:List Value} (n:Nat),Vals xs us -> Vals (xs.drop n) (us.drop n)
 | _,_,0,r=>r
 | _,_,_ + 1,.nil=>.nil
 | _,_,n + 1,.cons _ t=>Vals.drop n t
noncomputable def RelO:Option V -> Option Value -> Prop
 | some v,some u=>RelV v u
 | none,none=>True
 | _,_=>False
noncomputable def KV {κ:Type}:List (κ × V) -> List (κ × Value) -> Prop:=Paired fun (p:κ × V) (q:κ × Value)=>p.1 = q.1 /\ RelV p.2 q.2
noncomputable def kV:Key -> V
 | .inl i=>.int i
 | .inr x=>.str x
inductive HO where
 | lst (xs:List V)
 | tup (xs:List V)
 | dK (kvs:List (Key × V)) | dT (kvs:List (List Key × V))
 | set (S:Int -> Bool) (n:Nat)
 | ins (C dx:Addr) (fs:List (Str × V))
 | own (x:Addr)
 | xd (fs:List (Str × V))
 | met (f x:Addr)
 | rng (lo hi:Int)
 | frz (o:Obj) (u:HO)
 | tbl (ps:Array Value)
 | ext (φ:Heap -> Prop)
noncomputable abbrev Hp:=Addr -> Option HO
noncomputable def upd (H:Hp) (a:Addr) (o:HO):Hp:=fun b=>if b = a then some o else H b
theorem upd_same {H:Hp} {a:Addr} {o:HO}:upd H a o a = some o:=by unfold upd; rw [if_pos rfl]
theorem upd_ne {H:Hp} {a b:Addr} {o:HO} (h:b ≠ a):upd H a o b = H b:=by unfold upd; rw [if_neg h]
theorem ne_of_none {H:Hp} {a b:Addr} {o:HO} (h:H a = some o) (h':H b = none):a ≠ b:=by
 intro e; subst e; rw [h] at h'; cases h'
noncomputable def IsTupD (h:Heap) (a:Addr) (items:Array Value):Prop:=∃ o,h.get? a = some o /\ o.cls = .type "tuple" /\ ∃ n,o.data = .seq items n /\ o.dict = none
theorem IsTupD.t {h:Heap} {a:Addr} {items:Array Value}:IsTupD h a items -> IsTup h a items:=fun ⟨o,e,c,n,d,_⟩=>⟨o,e,c,n,d⟩
theorem IsTupD.new (h:Heap) (items:Array Value):IsTupD (h.push { cls:=.type "tuple",data:=.seq items }) h.objs.size items:=⟨_,Heap.get?_push_size _ rfl,rfl,_,rfl,rfl⟩
section
variable (P:Program) (w:World)
noncomputable def ObjOk (H:Hp) (h:Heap) (a:Addr):HO -> Prop
 | .lst xs=>xs.length <= sizeLine /\ ∃ (its:List Value) (n:Nat),Vals xs its /\ h.get? a = some { cls:=.type "list",data:=.seq its.toArray n }
 | .tup xs=>xs.length <= sizeLine /\ ∃ its:List Value,Vals xs its /\ IsTupD h a its.toArray
 | .dK kvs=>kvs.length <= sizeLine /\ (a == sysModules) = false /\ ∃ vs,KV kvs vs /\ h.DictOf (mixKind P w) a vs
 | .dT kvs=>kvs.length <= sizeLine /\ (a == sysModules) = false /\ ∃ xs:List (List Key × Addr × Value),
   Paired (fun (p:List Key × V) (q:List Key × Addr × Value)=>p.1 = q.1 /\ H q.2.1 = some (.tup (p.1.map kV)) /\ RelV p.2 q.2.2) kvs xs /\
   ∃ o es ep,h.get? a = some o /\ o.ExactDict /\ o.data = .dict es ep /\ es.toList = xs.map (entryOfKey (tupleKind (mixKind P w))) /\ (xs.map (·.1)).Nodup
 | .set S n=>h.SetOf (intKind P w) a S n
 | .ins C dx fs=>H dx = some (.own a) /\ fs.length <= 1000 /\ dx ≠ a /\ h.get? a = some (PySem.W.instObj C dx) /\
   ∃ mA,h.Ns1 dx mA /\ (∀ f,RelO (fs.lookup f) (mA f)) /\ PySem.Within mA (fs.map (·.1))
 | .own _=>∃ o,h.get? a = some o
 | .xd fs=>∃ mA,h.Ns1 a mA /\ ∀ f,RelO (fs.lookup f) (mA f)
 | .rng lo hi=>∃ t u v,h.get? a = some { cls:=.type "range",data:=.fields #[.int lo t,.int hi u,.int 1 v] }
 | .frz o u=>h.get? a = some o /\ ObjOk H h a u
 | .tbl ps=>h.get? a = some { cls:=.none,data:=.fields ps }
 | .met f x=>h.get? a = some (PySem.W.methodObj (.ref f) (.ref x))
 | .ext φ=>φ h /\ (∃ o,h.get? a = some o) /\ ∀ h1 h2:Heap,φ h1 -> (∀ o,h1.get? a = some o -> h2.get? a = some o) -> φ h2
noncomputable def HOk (H:Hp) (h:Heap):Prop:=∀ a o,H a = some o -> ObjOk P w H h a o
end
section
variable {P:Program} {w:World} {H H':Hp} {h h':Heap} {a:Addr} {o:HO}
theorem ObjOk.lt (x:ObjOk P w H h a o):a < h.objs.size:=by
 cases o with
 | lst xs=>obtain ⟨_,_,_,_,e⟩:=x; exact Heap.lt_size e
 | tup xs=>obtain ⟨_,_,_,p⟩:=x; exact p.t.lt
 | dK kvs=>obtain ⟨_,_,_,_,o,_,_,e,_⟩:=x; exact Heap.lt_size e
 | dT kvs=>obtain ⟨_,_,_,_,o,_,_,e,_⟩:=x; exact Heap.lt_size e
 | set S n=>obtain ⟨o,_,_,_,e,_⟩:=x; exact Heap.lt_size e
 | ins C dx fs=>obtain ⟨_,_,_,e,_⟩:=x; exact Heap.lt_size e
 | own y=>obtain ⟨_,e⟩:=x; exact Heap.lt_size e
 | xd fs=>obtain ⟨_,⟨_,_,_,e,_⟩,_⟩:=x; exact Heap.lt_size e
 | rng lo hi=>obtain ⟨_,_,_,e⟩:=x; exact Heap.lt_size e
 | frz ob u=>obtain ⟨e,_⟩:=x; exact Heap.lt_size e
 | tbl ps=>exact Heap.lt_size (show h.get? a = some _ from x)
 | met f y=>exact Heap.lt_size (show h.get? a = some _ from x)
 | ext φ=>obtain ⟨_,⟨_,e⟩,_⟩:=x; exact Heap.lt_size e
theorem Paired.mapP {α β:Type} {F G:α -> β -> Prop}:∀ {l₁:List α} {l₂:List β},Paired F l₁ l₂ -> (∀ a b,F a b -> G a b) -> Paired G l₁ l₂
 | _,_,.nil,_=>.nil
 | _,_,.cons r t,f=>.cons (f _ _ r) (Paired.mapP t f)
theorem ObjOk.stay (x:ObjOk P w H h a o) (k:∀ b u,(b = a \/ H b = some (.own a)) -> h.get? b = some u -> h'.get? b = some u)
  (ho:∀ b,H b = some (.own a) -> H' b = some (.own a)) (ht:∀ b xs,H b = some (.tup xs) -> H' b = some (.tup xs)):ObjOk P w H' h' a o:=by
 induction o with
 | lst xs=>obtain ⟨z,its,n,r,e⟩:=x; exact ⟨z,its,n,r,k _ _ (.inl rfl) e⟩
 | tup xs=>obtain ⟨z,its,r,ob,e,c⟩:=x; exact ⟨z,its,r,ob,k _ _ (.inl rfl) e,c⟩
 | dK kvs=>obtain ⟨z,y,vs,r,ob,es,ep,e,c⟩:=x; exact ⟨z,y,vs,r,ob,es,ep,k _ _ (.inl rfl) e,c⟩
 | dT kvs =>
  obtain ⟨z,y,xs,r,ob,es,ep,e,c⟩:=x
  exact ⟨z,y,xs,Paired.mapP r fun p q z=>⟨z.1,ht _ _ z.2.1,z.2.2⟩,ob,es,ep,k _ _ (.inl rfl) e,c⟩
 | set S n=>obtain ⟨ob,es,ep,t,e,c⟩:=x; exact ⟨ob,es,ep,t,k _ _ (.inl rfl) e,c⟩
 | ins C dx fs =>
  obtain ⟨d,z,ne,e,mA,⟨od,es,ep,e2,c⟩,r⟩:=x
  exact ⟨ho _ d,z,ne,k _ _ (.inl rfl) e,mA,⟨od,es,ep,k _ _ (.inr d) e2,c⟩,r⟩
 | own y=>obtain ⟨ob,e⟩:=x; exact ⟨ob,k _ _ (.inl rfl) e⟩
 | xd fs=>obtain ⟨mA,⟨od,es,ep,e,c⟩,r⟩:=x; exact ⟨mA,⟨od,es,ep,k _ _ (.inl rfl) e,c⟩,r⟩
 | rng lo hi=>obtain ⟨t,u,v,e⟩:=x; exact ⟨t,u,v,k _ _ (.inl rfl) e⟩
 | frz ob u ih=>obtain ⟨e,q⟩:=x; exact ⟨k _ _ (.inl rfl) e,ih q⟩
 | tbl ps =>
  have e:h.get? a = some { cls:=.none,data:=.fields ps }:=x
  show h'.get? a = some { cls:=.none,data:=.fields ps }
  exact k a _ (.inl rfl) e
 | met f y =>
  have e:h.get? a = some (PySem.W.methodObj (.ref f) (.ref y)):=x
  show h'.get? a = some (PySem.W.methodObj (.ref f) (.ref y))
  exact k a _ (.inl rfl) e
 | ext φ=>obtain ⟨p,⟨o,e⟩,st⟩:=x; exact ⟨st _ _ p fun o q=>k _ _ (.inl rfl) q,⟨o,k _ _ (.inl rfl) e⟩,st⟩
theorem HOk.lt (x:HOk P w H h) (e:H a = some o):a < h.objs.size:=(x a o e).lt
theorem HOk.fresh (x:HOk P w H h) (e:h.objs.size <= a):H a = none:=by
 cases q:H a with
 | none=>rfl
 | some u=>exact absurd (Nat.lt_of_lt_of_le (x.lt q) e) (Nat.lt_irrefl _)
theorem HOk.kept (x:HOk P w H h) (k:∀ b u,h.get? b = some u -> h'.get? b = some u):HOk P w H h':=fun a o e =>
 (x a o e).stay (fun b u _ q=>k b u q) (fun _ q=>q) fun _ _ q=>q
theorem HOk.laid (x:HOk P w H h) (k:∀ b u,h.get? b = some u -> h'.get? b = some u) (hp:h.objs.size <= a) (new:ObjOk P w (upd H a o) h' a o):HOk P w (upd H a o) h':=fun b u e=>by
 have hn:=x.fresh hp
 by_cases hb:b = a
 ·subst hb; rw [upd_same] at e; cases e; exact new
 ·rw [upd_ne hb] at e
  exact (x b u e).stay (fun c v _ q=>k c v q) (fun c q=>by rw [upd_ne (ne_of_none q hn)]; exact q) fun c xs q=>by rw [upd_ne (ne_of_none q hn)]; exact q
end
noncomputable def Rd (H:Hp) (a:Addr) (u:HO):Prop:=H a = some u \/ ∃ o,H a = some (.frz o u)
theorem Rd.ok {P:Program} {w:World} {H:Hp} {h:Heap} {a:Addr} {u:HO} (r:Rd H a u) (x:HOk P w H h):ObjOk P w H h a u:=by
 rcases r with r | ⟨o,r⟩
 ·exact x a u r
 ·obtain ⟨_,q⟩:=x a _ r
  exact q
noncomputable def Mut:Option HO -> Prop
 | some (.lst _)=>True
 | some (.dK _)=>True
 | some (.dT _)=>True
 | some (.set _ _)=>True
 | some (.ins _ _ _)=>True
 | some (.ext _)=>True
 | _=>False
section
variable {P:Program} {w:World} {H:Hp} {h h':Heap} {x e:Addr} {o':HO}
theorem HOk.write (ok:HOk P w H h) (mu:Mut (H x)) (he:e = x \/ H e = some (.own x)) (k:∀ b u,b ≠ e -> h.get? b = some u -> h'.get? b = some u) (heo:∃ u,h'.get? e = some u)
  (new:ObjOk P w (upd H x o') h' x o'):HOk P w (upd H x o') h':=fun b u q=>by
 have nown:∀ c y,H c = some (.own y) -> c ≠ x:=fun c y r z=>by subst z; rw [r] at mu; exact mu
 have ntup:∀ c xs,H c = some (.tup xs) -> c ≠ x:=fun c xs r z=>by subst z; rw [r] at mu; exact mu
 by_cases hb:b = x
 ·subst hb; rw [upd_same] at q; cases q; exact new
 ·rw [upd_ne hb] at q
  by_cases hbe:b = e
  ·have q':H b = some (.own x):=by
    rcases he with z | z
    ·exact absurd (hbe.trans z) hb
    ·rw [hbe]; exact z
   rw [q] at q'; cases q'
   obtain ⟨v,hv⟩:=heo
   exact ⟨v,by rw [hbe]; exact hv⟩
  ·refine (ok b u q).stay (fun c v hc r=>k c v ?_ r) (fun c r=>by rw [upd_ne (nown c b r)]; exact r) fun c xs r=>by rw [upd_ne (ntup c xs r)]; exact r
   rcases hc with rfl | hc
   ·exact hbe
   ·rintro rfl
    rcases he with z | z
    ·exact nown c b hc z
    ·rw [hc] at z; cases z; exact hb rfl
end
structure Un (fs ex:List Addr) (H H':Hp) (h h':Heap):Prop where
 keep:∀ b o,h.get? b = some o -> H b = none -> b ∉ fs -> b ∉ ex -> h'.get? b = some o
 slot:∀ b o,h.get? b = some o -> H b = none -> b ∈ fs -> b ∉ ex -> ∃ sl,h'.get? b = some { o with slots:=sl }
 free:∀ b o,h.get? b = some o -> H b = none -> b ∉ ex -> H' b = none
 there:∀ b o,h.get? b = some o -> b ∉ ex -> ∃ o',h'.get? b = some o'
 tups:∀ b xs,H b = some (.tup xs) -> H' b = some (.tup xs)
 frzs:∀ b o u,H b = some (.frz o u) -> H' b = some (.frz o u)
 tbls:∀ b ps,H b = some (.tbl ps) -> ∃ more,H' b = some (.tbl (ps ++ more))
section
variable {fs fs' ex ex':List Addr} {H H1 H2:Hp} {h h1 h2 h':Heap} {a x e:Addr} {o:HO}
theorem Un.any (u:Un fs ex H H1 h h1) {b:Addr} {ob:Obj} (q:h.get? b = some ob) (n:H b = none) (hx:b ∉ ex):∃ sl,h1.get? b = some { ob with slots:=sl }:=by
 by_cases hb:b ∈ fs
 ·exact u.slot b ob q n hb hx
 ·exact ⟨ob.slots,u.keep b ob q n hb hx⟩
theorem Un.kept (k:∀ b u,h.get? b = some u -> h'.get? b = some u):Un fs ex H H h h' :=
 ⟨fun b ob q _ _ _=>k b ob q,fun b ob q _ _ _=>⟨ob.slots,k b ob q⟩,fun _ _ _ n _=>n,fun b ob q _=>⟨ob,k b ob q⟩,fun _ _ q=>q,fun _ _ _ q=>q,fun _ ps q=>⟨#[],by rw [q]; simp⟩⟩
theorem Un.refl:Un fs ex H H h h:=Un.kept fun _ _ q=>q
theorem Un.laid (k:∀ b u,h.get? b = some u -> h'.get? b = some u) (hp:h.objs.size <= a) (hn:H a = none):Un fs ex H (upd H a o) h h' where
 keep:=fun b u q _ _ _=>k b u q
 slot:=fun b u q _ _ _=>⟨u.slots,k b u q⟩
 free:=fun b u q n _=>by rw [upd_ne (Nat.ne_of_lt (Nat.lt_of_lt_of_le (Heap.lt_size q) hp))]; exact n
 there:=fun b u q _=>⟨u,k b u q⟩
 tups:=fun b xs q=>by rw [upd_ne (ne_of_none q hn)]; exact q
 frzs:=fun b u xs q=>by rw [upd_ne (ne_of_none q hn)]; exact q
 tbls:=fun b ps q=>⟨#[],by rw [upd_ne (ne_of_none q hn),q]; simp⟩
theorem Un.write (mu:Mut (H x)) (he:e = x \/ H e = some (.own x)) (k:∀ b u,b ≠ e -> h.get? b = some u -> h'.get? b = some u) (heo:∃ u,h'.get? e = some u):Un fs ex H (upd H x o) h h':=by
 have hx:∀ b,H b = none -> b ≠ x:=fun b n z=>by subst z; rw [n] at mu; exact mu
 have hb:∀ b,H b = none -> b ≠ e:=fun b n z=>by
  subst z
  rcases he with r | r
  ·exact hx b n r
  ·rw [n] at r; cases r
 have hm:∀ b u,H b = some u -> ¬ Mut (some u) -> b ≠ x:=fun b u q nm z=>by subst z; rw [q] at mu; exact nm mu
 refine ⟨fun b u q n _ _=>k b u (hb b n) q,fun b u q n _ _=>⟨u.slots,k b u (hb b n) q⟩,fun b u q n _=>by rw [upd_ne (hx b n)]; exact n,fun b u q _=>?_,
   fun b xs q=>by rw [upd_ne (hm b _ q fun z=>z)]; exact q,fun b u xs q=>by rw [upd_ne (hm b _ q fun z=>z)]; exact q,fun b ps q=>⟨#[],by rw [upd_ne (hm b _ q fun z=>z),q]; simp⟩⟩
 by_cases hbe:b = e
 ·subst hbe; exact heo
 ·exact ⟨u,k b u hbe q⟩
end
noncomputable def trk (h:Heap) (H:Hp):List Addr:=(List.range h.objs.size).filter fun a=>(H a).isSome
noncomputable def hidT (h:Heap) (H:Hp):Heap:=PySem.W.hideAll h (trk h H)
theorem hidT_size (h:Heap) (H:Hp):(hidT h H).objs.size = h.objs.size:=PySem.W.hideAll_size _ _
theorem hidT_get {h:Heap} {H:Hp} {b:Addr} {o:Obj} (e:h.get? b = some o) (n:H b = none):(hidT h H).get? b = some o :=
 PySem.W.hideAll_get _ e fun hm=>by
  have q:(H b).isSome = true:=(List.mem_filter.mp hm).2
  rw [n] at q; simp at q
theorem of_hidT {h:Heap} {H:Hp} {b:Addr} {o:Obj} (e:(hidT h H).get? b = some o):h.get? b = some o /\ H b = none:=by
 have e':h.get? b = some o:=PySem.W.of_hideAll (trk h H) e
 refine ⟨e',?_⟩
 cases q:H b with
 | none=>rfl
 | some x =>
  have hm:b ∈ trk h H:=List.mem_filter.mpr ⟨List.mem_range.mpr (Heap.lt_size e'),by simp [q]⟩
  have z:(hidT h H).get? b = none:=PySem.W.hideAll_none (trk h H) hm
  rw [z] at e; cases e
noncomputable def allNews (g h:Heap) (L:Addr):List (Addr × Obj):=(List.range h.objs.size).filterMap fun a=>if a = L \/ (g.get? a).isSome = true then none else (h.get? a).map fun o=>(a,o)
noncomputable def rest (g h:Heap) (L d:Addr):List (Addr × Obj):=(allNews g h L).filter fun p=>decide (p.1 ≠ d)
end L2
namespace L2
open PySem PySem.Spec PyProof.Rows
structure Mod (K:PySem.W.Frag) (mg:Str -> Option Value) (base:Heap):Prop where
 kin:K.In base
 glob:base.Ns mainGlobals mg
 blt:∃ mb,base.Ns builtinsNs mb /\ ∀ x:Str,x ≠ "__name__" -> mb x = bootBuiltins x
 nolimit:base.NoLimit
structure Cx where
 prog:Program
 w:World
 K:PySem.W.Frag
 mg:Str -> Option Value
 base:Heap
 A:Around
 N:List Str
 s₀:Shared
 H₀:Hp
 env:Env
 outer:List Env
 stack:List Env
 ex:List Addr
 fn:Str -> Bool
 calm:Bool
 pn:List (Addr × Obj)
 xe:Value -> Shared -> Prop
noncomputable def frs (l:List Env):List Addr:=l.filterMap (·.frame)
noncomputable abbrev Cx.fs (X:Cx):List Addr:=frs X.outer
noncomputable def Vis (sc:Scope) (x:Str):Prop:=sc.names.lookup x = some .local \/ sc.names.lookup x = some .cell \/ sc.names.lookup x = some .free
noncomputable def Loc (sc:Scope) (x:Str):Prop:=sc.names.lookup x = some .local \/ sc.names.lookup x = some .cell
noncomputable def Look (env:Env) (h:Heap) (m:Str -> Option Value) (x:Str) (u:Value):Prop :=
 (env.kindOf x = some .local /\ m x = some u) \/ ((env.kindOf x = some .cell \/ env.kindOf x = some .free) /\ ∃ c,env.cells.lookup x = some c /\ h.IsCell c (some u))
structure Cx.Ok (X:Cx):Prop where
 mod:Mod X.K X.mg X.base
 kind:X.env.scope.kind = .function
 glob:X.env.globals = mainGlobals
 blt:X.env.builtins = builtinsNs
 above:X.s₀.heap.objs.size <= X.env.locals
 inj:∀ x y c,X.env.cells.lookup x = some c -> X.env.cells.lookup y = some c -> x = y
 has:∀ x,(X.env.kindOf x = some .cell \/ X.env.kindOf x = some .free) -> ∃ c,X.env.cells.lookup x = some c
 cab:∀ x c,X.fn x = true -> X.env.cells.lookup x = some c -> X.s₀.heap.objs.size <= c
 hd:X.calm = true -> X.A.handled = none
 frames:X.A.frames = some X.stack
 stk:X.stack = X.outer \/ (X.stack = X.env :: X.outer /\ X.env.frame = some X.env.locals)
 exf:∀ b ∈ X.ex,b ≠ X.env.locals /\ ∀ x c,X.env.cells.lookup x = some c -> c ≠ b
 bs:∀ b o,X.base.get? b = some o -> X.s₀.heap.get? b = some o /\ X.H₀ b = none
 bsz:X.base.objs.size <= X.s₀.heap.objs.size
 noex:∀ b o,X.base.get? b = some o -> b ∉ X.ex
 exfs:∀ b ∈ X.ex,b ∉ X.fs
 funs:X.s₀.heap.FunFrames X.base X.outer
 frf:∀ b ∈ X.fs,X.H₀ b = none
structure Inv (X:Cx) (pins:List (Addr × Obj)) (σ:List (Option V)) (H:Hp) (s:Shared):Prop where
 ok:X.Ok
 os:s.os = X.s₀.os
 bare:AllBare s.gens
 base:Un X.fs X.ex X.H₀ H X.s₀.heap s.heap
 loc:∃ m,s.heap.Ns X.env.locals m /\ ∀ (i:Nat) (x:Str) (v:V),X.N[i]? = some x -> σ[i]? = some (some v) -> Vis X.env.scope x -> ∃ u,RelV v u /\ Look X.env s.heap m x u
 cell:∀ x c,X.env.cells.lookup x = some c -> ∃ v,s.heap.IsCell c v
 free:H X.env.locals = none
 freeC:∀ x c,X.env.cells.lookup x = some c -> H c = none
 pin:∀ p ∈ X.pn ++ pins,s.heap.get? p.1 = some p.2 /\ H p.1 = none /\ p.1 ≠ X.env.locals /\ p.1 ∉ X.fs /\ ∀ v,p.2.data ≠ .cell v
 hok:HOk X.prog X.w H s.heap
 len:σ.length = X.N.length
section
variable {X:Cx} {pins:List (Addr × Obj)} {σ:List (Option V)} {H H':Hp} {s:Shared} {h':Heap}
theorem Cx.Ok.nofr (ok:X.Ok) {b:Addr} {o:Obj} (e:X.base.get? b = some o):b ∉ X.fs:=fun hb=>by
 have:=(ok.funs.mem hb).1
 rw [e] at this; cases this
theorem Inv.bs (I:Inv X pins σ H s):∀ b o,X.base.get? b = some o -> s.heap.get? b = some o /\ H b = none:=fun b o e =>
 ⟨I.base.keep b o (I.ok.bs b o e).1 (I.ok.bs b o e).2 (I.ok.nofr e) (I.ok.noex b o e),I.base.free b o (I.ok.bs b o e).1 (I.ok.bs b o e).2 (I.ok.noex b o e)⟩
theorem Inv.bk (I:Inv X pins σ H s):∀ b o,X.base.get? b = some o -> s.heap.get? b = some o:=fun b o e=>(I.bs b o e).1
theorem Inv.mod (I:Inv X pins σ H s):Mod X.K X.mg X.base:=I.ok.mod
theorem Inv.kIn (I:Inv X pins σ H s):X.K.In s.heap:=I.ok.mod.kin.keeps I.bk
theorem Inv.lt (I:Inv X pins σ H s):X.env.locals < s.heap.objs.size:=let ⟨_,hn,_⟩:=I.loc; hn.lt
theorem Inv.sz (I:Inv X pins σ H s):X.s₀.heap.objs.size <= s.heap.objs.size:=Nat.le_trans I.ok.above (Nat.le_of_lt I.lt)
theorem Inv.nofs (I:Inv X pins σ H s) {a:Addr} (h:s.heap.objs.size <= a):a ∉ X.fs:=fun hb=>by
 obtain ⟨_,o,ho,_⟩:=I.ok.funs.mem hb
 exact absurd (Nat.lt_of_lt_of_le (Heap.lt_size ho) (Nat.le_trans I.sz h)) (Nat.lt_irrefl _)
theorem Inv.cne (I:Inv X pins σ H s):∀ x c,X.env.cells.lookup x = some c -> c ≠ X.env.locals:=fun x c e z=>by
 obtain ⟨v,o,ho,hd⟩:=I.cell x c e
 obtain ⟨m,⟨o',es,ep,ho',hd',_⟩,_⟩:=I.loc
 rw [z,ho'] at ho; cases ho; rw [hd'] at hd; cases hd
theorem Inv.funs (I:Inv X pins σ H s):s.heap.FunFrames X.base X.outer:=by
 have all:∀ (l:List Env),(∀ b ∈ frs l,b ∈ X.fs) -> X.s₀.heap.FunFrames X.base l -> s.heap.FunFrames X.base l:=by
  intro l
  induction l with
  | nil=>intro _ _; trivial
  | cons env r ih =>
   intro hs hl
   obtain ⟨hk,⟨L,o,hf,hn,ho,hd⟩,hr⟩:=hl
   have hL:L ∈ X.fs:=hs L (by unfold frs; rw [List.filterMap_cons,hf]; exact List.mem_cons_self)
   obtain ⟨sl,e⟩:=I.base.slot L o ho (I.ok.frf L hL) hL fun z=>I.ok.exfs L z hL
   exact ⟨hk,⟨L,_,hf,hn,e,hd⟩,ih (fun b hb=>hs b (by unfold frs; rw [List.filterMap_cons,hf]; exact List.mem_cons_of_mem _ hb)) hr⟩
 exact all X.outer (fun _ hb=>hb) I.ok.funs
theorem Inv.stack (I:Inv X pins σ H s):s.heap.FunFrames X.base X.stack:=by
 rcases I.ok.stk with e | ⟨e,hf⟩
 ·rw [e]; exact I.funs
 ·rw [e]
  obtain ⟨m,hn,_⟩:=I.loc
  refine .cons (by rw [I.ok.kind]; decide) hf hn ?_ I.funs
  exact Heap.get?_none_of_le (Nat.le_trans I.ok.bsz I.ok.above)
theorem Inv.stkSub (I:Inv X pins σ H s):∀ b ∈ frs X.stack,b ∈ X.env.locals :: X.fs:=fun b hb=>by
 rcases I.ok.stk with e | ⟨e,hf⟩
 ·rw [e] at hb; exact List.mem_cons_of_mem _ hb
 ·rw [e] at hb
  unfold frs at hb
  rw [List.filterMap_cons,hf] at hb
  exact hb
theorem Inv.stkFree (I:Inv X pins σ H s):∀ b ∈ frs X.stack,H b = none:=fun b hb=>by
 rcases List.mem_cons.mp (I.stkSub b hb) with e | hb
 ·rw [e]; exact I.free
 ·obtain ⟨_,o,ho,_⟩:=I.ok.funs.mem hb
  exact I.base.free b o ho (I.ok.frf b hb) fun z=>I.ok.exfs b z hb
theorem Inv.step {g':Array GenState} {t':Nat} {d':Drawn} {ch:List Addr} (I:Inv X pins σ H s)
  (hch:∀ b ∈ ch,(b ∈ X.ex \/ X.s₀.heap.objs.size <= b) /\ b ≠ X.env.locals /\ (∀ x c,X.env.cells.lookup x = some c -> c ≠ b) /\ ∀ p ∈ X.pn ++ pins,p.1 ≠ b)
  (keep:∀ b o,b ≠ X.env.locals -> b ∉ X.fs -> b ∉ ch -> s.heap.get? b = some o -> H b = none -> h'.get? b = some o)
  (slot:∀ b o,b ≠ X.env.locals -> b ∈ X.fs -> b ∉ ch -> s.heap.get? b = some o -> H b = none -> ∃ sl,h'.get? b = some { o with slots:=sl }) (free:∀ b o,b ∉ ch -> s.heap.get? b = some o -> H b = none -> H' b = none)
  (there:∀ b o,b ∉ ch -> s.heap.get? b = some o -> ∃ o',h'.get? b = some o')
  (tups:∀ b xs,H b = some (.tup xs) -> H' b = some (.tup xs)) (frzs:∀ b o u,H b = some (.frz o u) -> H' b = some (.frz o u)) (tbls:∀ b ps,H b = some (.tbl ps) -> ∃ more,H' b = some (.tbl (ps ++ more)))
  (ns:∀ m,s.heap.Ns X.env.locals m -> h'.Ns X.env.locals m) (hok:HOk X.prog X.w H' h') (hg:AllBare g') :
  Inv X pins σ H' { s with heap:=h',gens:=g',drawn:=d',toks:=t' }:=by
 have neL:∀ b o,X.s₀.heap.get? b = some o -> b ≠ X.env.locals:=fun b o e=>Nat.ne_of_lt (Nat.lt_of_lt_of_le (Heap.lt_size e) I.ok.above)
 have neC:∀ b o,X.s₀.heap.get? b = some o -> b ∉ X.ex -> b ∉ ch:=fun b o e hx hb=>by
  rcases (hch b hb).1 with z | z
  ·exact hx z
  ·exact absurd (Nat.lt_of_lt_of_le (Heap.lt_size e) z) (Nat.lt_irrefl _)
 have cellK:∀ x c,X.env.cells.lookup x = some c -> ∀ v,s.heap.IsCell c v -> h'.IsCell c v:=fun x c e v ⟨o,ho,hd⟩=>by
  have nch:c ∉ ch:=fun z=>(hch c z).2.2.1 x c e rfl
  by_cases hc:c ∈ X.fs
  ·obtain ⟨sl,q⟩:=slot c o (I.cne x c e) hc nch ho (I.freeC x c e)
   exact ⟨_,q,hd⟩
  ·exact ⟨o,keep c o (I.cne x c e) hc nch ho (I.freeC x c e),hd⟩
 refine ⟨I.ok,I.os,hg,⟨fun b o e n hb hx=>?_,fun b o e n hb hx=>?_,fun b o e n hx=>?_,fun b o e hx=>?_,fun b xs e=>tups b xs (I.base.tups b xs e),fun b o xs e=>frzs b o xs (I.base.frzs b o xs e),fun b ps e=>?_⟩,?_,fun x c e=>?_,?_,fun x c e=>?_,fun p hp=>?_,hok,I.len⟩
 ·exact keep b o (neL b o e) hb (neC b o e hx) (I.base.keep b o e n hb hx) (I.base.free b o e n hx)
 ·obtain ⟨sl,e1⟩:=I.base.slot b o e n hb hx
  obtain ⟨sl',e2⟩:=slot b _ (neL b o e) hb (neC b o e hx) e1 (I.base.free b o e n hx)
  exact ⟨sl',e2⟩
 ·obtain ⟨o',e1⟩:=I.base.there b o e hx
  exact free b o' (neC b o e hx) e1 (I.base.free b o e n hx)
 ·obtain ⟨o',e1⟩:=I.base.there b o e hx
  exact there b o' (neC b o e hx) e1
 ·obtain ⟨m1,e1⟩:=I.base.tbls b ps e
  obtain ⟨m2,e2⟩:=tbls b _ e1
  exact ⟨m1 ++ m2,by rw [e2,Array.append_assoc]⟩
 ·obtain ⟨m,hn,hl⟩:=I.loc
  refine ⟨m,ns m hn,fun i x v e1 e2 e3=>?_⟩
  obtain ⟨u,r,l⟩:=hl i x v e1 e2 e3
  refine ⟨u,r,?_⟩
  rcases l with l | ⟨k,c,e,z⟩
  ·exact .inl l
  ·exact .inr ⟨k,c,e,cellK x c e _ z⟩
 ·obtain ⟨v,z⟩:=I.cell x c e
  exact ⟨v,cellK x c e v z⟩
 ·obtain ⟨m,⟨o,_,_,ho,_⟩,_⟩:=I.loc
  exact free _ o (fun z=>(hch _ z).2.1 rfl) ho I.free
 ·obtain ⟨v,o,ho,hd⟩:=I.cell x c e
  exact free c o (fun z=>(hch c z).2.2.1 x c e rfl) ho (I.freeC x c e)
 ·obtain ⟨e,n,ne,nf,d⟩:=I.pin p hp
  have nch:p.1 ∉ ch:=fun z=>(hch p.1 z).2.2.2 p hp rfl
  exact ⟨keep p.1 p.2 ne nf nch e n,free p.1 p.2 nch e n,ne,nf,d⟩
theorem Inv.un {t':Nat} (I:Inv X pins σ H s) (u:Un X.fs [] H H' s.heap h') (hok:HOk X.prog X.w H' h'):Inv X pins σ H' { s with heap:=h',toks:=t' }:=by
 obtain ⟨m,⟨o,es,ep,ho,r⟩,_⟩:=id I.loc
 obtain ⟨sl,hL⟩:=u.any ho I.free (by simp)
 exact I.step (g':=s.gens) (d':=s.drawn) (ch:=[]) (fun _ z=>nomatch z) (fun b o _ hb _ e n=>u.keep b o e n hb (by simp)) (fun b o _ hb _ e n=>u.slot b o e n hb (by simp)) (fun b o _ e n=>u.free b o e n (by simp)) (fun b o _ e=>u.there b o e (by simp)) u.tups u.frzs u.tbls (fun m' hm=>by
   obtain ⟨o',es',ep',ho',r'⟩:=hm
   rw [ho] at ho'; cases ho'
   exact ⟨_,es',ep',hL,r'⟩) hok I.bare
theorem Inv.call {g':Array GenState} {t':Nat} {d':Drawn} {ch:List Addr} (I:Inv X pins σ H s) (u:Un (frs X.stack) ch H H' s.heap h') (hok:HOk X.prog X.w H' h') (hg:AllBare g')
  (hch:∀ b ∈ ch,(b ∈ X.ex \/ X.s₀.heap.objs.size <= b) /\ b ≠ X.env.locals /\ (∀ x c,X.env.cells.lookup x = some c -> c ≠ b) /\ ∀ p ∈ X.pn ++ pins,p.1 ≠ b) :
  Inv X pins σ H' { s with heap:=h',gens:=g',drawn:=d',toks:=t' }:=by
 obtain ⟨m,⟨o,es,ep,ho,r⟩,_⟩:=id I.loc
 obtain ⟨sl,hL⟩:=u.any ho I.free fun z=>(hch _ z).2.1 rfl
 exact I.step (ch:=ch) hch (fun b o hL hb hc e n=>u.keep b o e n (fun z=>(List.mem_cons.mp (I.stkSub b z)).elim hL hb) hc) (fun b o _ _ hc e n=>u.any e n hc) (fun b o hc e n=>u.free b o e n hc) (fun b o hc e=>u.there b o e hc) u.tups u.frzs u.tbls (fun m' hm=>by
   obtain ⟨o',es',ep',ho',r'⟩:=hm
   rw [ho] at ho'; cases ho'
   exact ⟨_,es',ep',hL,r'⟩) hok hg
theorem Inv.turned {t':Nat} {it:Addr} (I:Inv X pins σ H s) (k:∀ b o,b ≠ it -> s.heap.get? b = some o -> h'.get? b = some o) (hn:H it = none) (hL:it ≠ X.env.locals)
  (h1:it ∈ X.ex \/ X.s₀.heap.objs.size <= it) (h2:∀ x c,X.env.cells.lookup x = some c -> c ≠ it) (h3:∀ p ∈ X.pn ++ pins,p.1 ≠ it):Inv X pins σ H { s with heap:=h',toks:=t' }:=by
 have nit:∀ b u,H b = some u -> b ≠ it:=fun b u e z=>by rw [z,hn] at e; cases e
 refine I.step (g':=s.gens) (d':=s.drawn) (ch:=[it]) (fun b hb=>?_) (fun b o _ _ hc e _=>k b o (fun z=>hc (by simp [z])) e) (fun b o _ _ hc e _=>⟨o.slots,k b o (fun z=>hc (by simp [z])) e⟩) (fun _ _ _ _ n=>n)
  (fun b o hc e=>⟨o,k b o (fun z=>hc (by simp [z])) e⟩) (fun _ _ e=>e) (fun _ _ _ e=>e) (fun b ps e=>⟨#[],by rw [e]; simp⟩) (fun m hm=>?_) (fun b u e=>?_) I.bare
 ·have e:b = it:=by simpa using hb
  subst e
  exact ⟨h1,hL,h2,h3⟩
 ·obtain ⟨o,es,ep,ho,r⟩:=hm
  exact ⟨o,es,ep,k _ o (Ne.symm hL) ho,r⟩
 ·refine (I.hok b u e).stay (fun c v hc q=>k c v ?_ q) (fun _ q=>q) fun _ _ q=>q
  rcases hc with z | z
  ·rw [z]; exact nit b u e
  ·exact nit c _ z
theorem Inv.tok (I:Inv X pins σ H s) (t:Nat):Inv X pins σ H { s with toks:=t }:=I.un (h':=s.heap) (t':=t) Un.refl I.hok
theorem Inv.kept {t':Nat} (I:Inv X pins σ H s) (k:∀ b u,s.heap.get? b = some u -> h'.get? b = some u):Inv X pins σ H { s with heap:=h',toks:=t' }:=I.un (Un.kept k) (I.hok.kept k)
theorem Inv.laid {a:Addr} {o:HO} {t':Nat} (I:Inv X pins σ H s) (k:∀ b u,s.heap.get? b = some u -> h'.get? b = some u) (hp:s.heap.objs.size <= a) (new:ObjOk X.prog X.w (upd H a o) h' a o) :
  Inv X pins σ (upd H a o) { s with heap:=h',toks:=t' }:=I.un (Un.laid k hp (I.hok.fresh hp)) (I.hok.laid k hp new)
theorem Inv.write {x e:Addr} {o:HO} {t':Nat} (I:Inv X pins σ H s) (mu:Mut (H x)) (he:e = x \/ H e = some (.own x)) (k:∀ b u,b ≠ e -> s.heap.get? b = some u -> h'.get? b = some u) (heo:∃ u,h'.get? e = some u)
  (new:ObjOk X.prog X.w (upd H x o) h' x o):Inv X pins σ (upd H x o) { s with heap:=h',toks:=t' }:=I.un (Un.write mu he k heo) (I.hok.write mu he k heo new)
theorem Inv.pins_of {pins':List (Addr × Obj)} (I:Inv X pins σ H s) (h:∀ p ∈ pins',s.heap.get? p.1 = some p.2 /\ H p.1 = none /\ p.1 ≠ X.env.locals /\ p.1 ∉ X.fs /\ ∀ v,p.2.data ≠ .cell v):Inv X pins' σ H s :=
 ⟨I.ok,I.os,I.bare,I.base,I.loc,I.cell,I.free,I.freeC,fun p hp=>(List.mem_append.mp hp).elim (fun z=>I.pin p (List.mem_append_left _ z)) (h p),I.hok,I.len⟩
theorem nodup_ix {N:List Str} (hN:N.Nodup) {i j:Nat} {x:Str} (a:N[i]? = some x) (b:N[j]? = some x):i = j:=by
 obtain ⟨h1,e1⟩:=List.getElem?_eq_some_iff.mp a
 obtain ⟨h2,e2⟩:=List.getElem?_eq_some_iff.mp b
 exact (List.getElem_inj hN).mp (e1.trans e2.symm)
theorem store_ok2 {M:Model} {A:Around} {E:Value -> Shared -> Prop} {i:Nat} {x:Str} {v:V} {u:Value} {Q:Unit -> Shared -> Prop} (I:Inv X pins σ H s) (hN:X.N.Nodup) (hi:X.N[i]? = some x) (hx:Loc X.env.scope x) (r:RelV v u)
  (h:∀ s',Inv X pins (σ.set i (some v)) H s' -> (∃ a,Heap.SameBut a s.heap s'.heap /\ (a = X.env.locals \/ X.env.cells.lookup x = some a)) -> Q () s') (hf:X.fn x = true \/ X.env.scope.names.lookup x = some .local:=by first | exact .inl rfl | exact .inr rfl | assumption):wpAny M A (storeName X.env x u) Q E s:=by
 obtain ⟨m,hn,hl⟩:=id I.loc
 have hcls:(X.env.scope.kind == .class || (X.env.scope.kind == .module && X.env.locals != X.env.globals)) = false:=by rw [I.ok.kind]; rfl
 have hiσ:i < σ.length:=by rw [I.len]; exact (List.getElem?_eq_some_iff.mp hi).1
 have cne:=I.cne
 have tracked:∀ {a:Addr} {h':Heap},(∃ o,s.heap.get? a = some o /\ H a = none) -> Heap.SameBut a s.heap h' -> HOk X.prog X.w H h':=fun {a h'} ha hs b ob e=>by
  obtain ⟨_,_,hfree⟩:=ha
  refine (I.hok b ob e).stay (fun c w' hc q=>(hs.2 c ?_).trans q) (fun _ q=>q) fun _ _ q=>q
  rintro rfl
  rcases hc with rfl | hc
  ·rw [hfree] at e; cases e
  ·rw [hfree] at hc; cases hc
 rcases hx with hk | hk
 ·refine wpAny_storeName_local hk hn (fun h' hn' hs=>?_) hcls
  obtain ⟨oL,_,_,hoL,_⟩:=id hn
  refine h _ ⟨I.ok,I.os,I.bare,⟨fun b o e n hb hx=>?_,fun b o e n hb hx=>?_,I.base.free,fun b o e hx=>?_,I.base.tups,I.base.frzs,I.base.tbls⟩,⟨_,hn',fun j y v' e1 e2 e3=>?_⟩,fun y c e=>?_,I.free,I.freeC,fun p hp=>?_,tracked ⟨oL,hoL,I.free⟩ hs,by simpa using I.len⟩ ⟨_,hs,.inl rfl⟩
  ·exact (hs.2 b (Nat.ne_of_lt (Nat.lt_of_lt_of_le (Heap.lt_size e) I.ok.above))).trans (I.base.keep b o e n hb hx)
  ·obtain ⟨sl,e1⟩:=I.base.slot b o e n hb hx
   exact ⟨sl,(hs.2 b (Nat.ne_of_lt (Nat.lt_of_lt_of_le (Heap.lt_size e) I.ok.above))).trans e1⟩
  ·obtain ⟨o',e1⟩:=I.base.there b o e hx
   exact ⟨o',(hs.2 b (Nat.ne_of_lt (Nat.lt_of_lt_of_le (Heap.lt_size e) I.ok.above))).trans e1⟩
  ·by_cases hj:j = i
   ·subst hj
    rw [hi] at e1; cases e1
    rw [List.getElem?_set_self hiσ] at e2
    cases e2
    exact ⟨u,r,.inl ⟨hk,by simp⟩⟩
   ·rw [List.getElem?_set_ne (Ne.symm hj)] at e2
    obtain ⟨u',r',q⟩:=hl j y v' e1 e2 e3
    refine ⟨u',r',?_⟩
    rcases q with ⟨k,e⟩ | ⟨k,c,e,z⟩
    ·refine .inl ⟨k,?_⟩
     have:y ≠ x:=fun e=>hj (nodup_ix hN e1 (e ▸ hi))
     simp [this,e]
    ·exact .inr ⟨k,c,e,z.sameBut hs (cne y c e)⟩
  ·obtain ⟨w',z⟩:=I.cell y c e
   exact ⟨w',z.sameBut hs (cne y c e)⟩
  ·obtain ⟨e,n,ne,nf,d⟩:=I.pin p hp
   exact ⟨(hs.2 p.1 ne).trans e,n,ne,nf,d⟩
 ·have hfn:X.fn x = true:=by
   rcases hf with z | z
   ·exact z
   ·rw [z] at hk; cases hk
  obtain ⟨c,hc⟩:=I.ok.has x (.inl hk)
  obtain ⟨w',z⟩:=I.cell x c hc
  refine wpAny_storeName_cell I.ok.kind hk hc z (fun h' hc' hs=>?_)
  obtain ⟨oc,hoc,hocd⟩:=id z
  refine h { s with heap:=h' } ⟨I.ok,I.os,I.bare,⟨fun b o e n hb hx=>?_,fun b o e n hb hx=>?_,I.base.free,fun b o e hx=>?_,I.base.tups,I.base.frzs,I.base.tbls⟩,⟨m,hn.sameBut hs (Ne.symm (cne x c hc)),fun j y v' e1 e2 e3=>?_⟩,fun y c' e=>?_,I.free,I.freeC,fun p hp=>?_,tracked ⟨oc,hoc,I.freeC x c hc⟩ hs,by simpa using I.len⟩ ⟨c,hs,.inr hc⟩
  ·exact (hs.2 b (Nat.ne_of_lt (Nat.lt_of_lt_of_le (Heap.lt_size e) (I.ok.cab x c hfn hc)))).trans (I.base.keep b o e n hb hx)
  ·obtain ⟨sl,e1⟩:=I.base.slot b o e n hb hx
   exact ⟨sl,(hs.2 b (Nat.ne_of_lt (Nat.lt_of_lt_of_le (Heap.lt_size e) (I.ok.cab x c hfn hc)))).trans e1⟩
  ·obtain ⟨o',e1⟩:=I.base.there b o e hx
   exact ⟨o',(hs.2 b (Nat.ne_of_lt (Nat.lt_of_lt_of_le (Heap.lt_size e) (I.ok.cab x c hfn hc)))).trans e1⟩
  ·by_cases hj:j = i
   ·subst hj
    rw [hi] at e1; cases e1
    rw [List.getElem?_set_self hiσ] at e2
    cases e2
    exact ⟨u,r,.inr ⟨.inl hk,c,hc,hc'⟩⟩
   ·rw [List.getElem?_set_ne (Ne.symm hj)] at e2
    obtain ⟨u',r',q⟩:=hl j y v' e1 e2 e3
    refine ⟨u',r',?_⟩
    rcases q with q | ⟨k,c',e,z'⟩
    ·exact .inl q
    ·refine .inr ⟨k,c',e,z'.sameBut hs ?_⟩
     rintro rfl
     exact hj (nodup_ix hN e1 (I.ok.inj _ _ _ e hc ▸ hi))
  ·by_cases hcc:c' = c
   ·subst hcc; exact ⟨_,hc'⟩
   ·obtain ⟨w2,z2⟩:=I.cell y c' e
    exact ⟨w2,z2.sameBut hs hcc⟩
  ·obtain ⟨e,n,ne,nf,d⟩:=I.pin p hp
   refine ⟨(hs.2 p.1 ?_).trans e,n,ne,nf,d⟩
   intro q
   rw [q,hoc] at e
   have q':oc = p.2:=Option.some.inj e
   exact d w' (by rw [<- q']; exact hocd)
theorem store_ok {M:Model} {A:Around} {E:Value -> Shared -> Prop} {i:Nat} {x:Str} {v:V} {u:Value} {Q:Unit -> Shared -> Prop} (I:Inv X pins σ H s) (hN:X.N.Nodup) (hi:X.N[i]? = some x) (hx:Loc X.env.scope x) (r:RelV v u)
  (h:∀ s',Inv X pins (σ.set i (some v)) H s' -> Q () s') (hf:X.fn x = true \/ X.env.scope.names.lookup x = some .local:=by first | exact .inl rfl | exact .inr rfl | assumption):wpAny M A (storeName X.env x u) Q E s :=
 store_ok2 I hN hi hx r (fun s' I' _=>h s' I') hf
theorem Inv.call' {s':Shared} {ch:List Addr} (I:Inv X pins σ H s) (ho:s'.os = s.os) (u:Un (frs X.stack) ch H H' s.heap s'.heap) (hok:HOk X.prog X.w H' s'.heap) (hg:AllBare s'.gens)
  (hch:∀ b ∈ ch,(b ∈ X.ex \/ X.s₀.heap.objs.size <= b) /\ b ≠ X.env.locals /\ (∀ x c,X.env.cells.lookup x = some c -> c ≠ b) /\ ∀ p ∈ X.pn ++ pins,p.1 ≠ b):Inv X pins σ H' s':=by
 obtain ⟨h',g',d',t',o'⟩:=s'
 have e:o' = s.os:=ho
 subst e
 exact I.call (g':=g') (t':=t') (d':=d') u hok hg hch
end
noncomputable abbrev XK:=Value -> Option Addr -> Hp -> Prop
noncomputable abbrev St:=List (Option V)
noncomputable abbrev VK:=V -> Hp -> Prop
noncomputable abbrev TE:=St -> Hp -> VK -> Prop
noncomputable abbrev TT:=St -> Hp -> (Bool -> Hp -> Prop) -> Prop
noncomputable abbrev TA:=St -> Hp -> (List V -> Hp -> Prop) -> Prop
structure Ends where
 nx:St -> Hp -> Prop
 rt:VK
 bk:St -> Hp -> Prop:=fun _ _=>False
 ct:St -> Hp -> Prop:=fun _ _=>False
noncomputable abbrev TS:=Ends -> St -> Hp -> Prop
noncomputable def EP (X:Cx) (pins:List (Addr × Obj)) (σ:St) (Q:VK) (u:Value) (s':Shared):Prop:=∃ v H',Inv X pins σ H' s' /\ RelV v u /\ Q v H'
noncomputable def TP (X:Cx) (pins:List (Addr × Obj)) (σ:St) (Q:Bool -> Hp -> Prop) (b:Bool) (s':Shared):Prop:=∃ H',Inv X pins σ H' s' /\ Q b H'
noncomputable def AP (X:Cx) (pins:List (Addr × Obj)) (σ:St) (Q:List V -> Hp -> Prop) (us:List Value) (s':Shared):Prop:=∃ vs H',Inv X pins σ H' s' /\ Vals vs us /\ Q vs H'
noncomputable def SP (X:Cx) (pins:List (Addr × Obj)) (D:Ends) (f:Flow) (s':Shared):Prop :=
 match f with
 | .next=>∃ σ' H',Inv X pins σ' H' s' /\ D.nx σ' H'
 | .brk=>∃ σ' H',Inv X pins σ' H' s' /\ D.bk σ' H'
 | .cont=>∃ σ' H',Inv X pins σ' H' s' /\ D.ct σ' H'
 | .ret u=>∃ v σ' H',Inv X pins σ' H' s' /\ RelV v u /\ D.rt v H'
noncomputable def PE (X:Cx) (e:Expr) (t:TE):Prop :=
 ∀ (pins:List (Addr × Obj)) (s:Shared) (σ:St) (H:Hp) (Q:VK),Inv X pins σ H s -> t σ H Q -> wpAny (model X.prog X.w) X.A (eval e X.env) (EP X pins σ Q) X.xe s
noncomputable def PT (X:Cx) (e:Expr) (t:TT):Prop :=
 ∀ (pins:List (Addr × Obj)) (s:Shared) (σ:St) (H:Hp) (Q:Bool -> Hp -> Prop),Inv X pins σ H s -> t σ H Q -> wpAny (model X.prog X.w) X.A (isTrue e X.env (eval e X.env)) (TP X pins σ Q) X.xe s
noncomputable def PW (X:Cx) (e:Expr) (t:TT):Prop :=
 ∀ (whole:Sem Value) (pins:List (Addr × Obj)) (s:Shared) (σ:St) (H:Hp) (Q:Bool -> Hp -> Prop),Inv X pins σ H s -> t σ H Q -> wpAny (model X.prog X.w) X.A (isTrue e X.env whole) (TP X pins σ Q) X.xe s
theorem PW.pt {X:Cx} {e:Expr} {t:TT} (h:PW X e t):PT X e t:=h _
noncomputable def PA (X:Cx) (es:List Expr) (t:TA):Prop :=
 ∀ (pos:Pos) (pins:List (Addr × Obj)) (s:Shared) (σ:St) (H:Hp) (Q:List V -> Hp -> Prop),Inv X pins σ H s -> t σ H Q -> wpAny (model X.prog X.w) X.A (spliced (backTo pos (starEach es X.env))) (AP X pins σ Q) X.xe s
noncomputable def PS (X:Cx) (st:Stmt) (t:TS):Prop :=
 ∀ (pins:List (Addr × Obj)) (s:Shared) (σ:St) (H:Hp) (D:Ends),Inv X pins σ H s -> t D σ H -> wpAny (model X.prog X.w) X.A (exec st X.env) (SP X pins D) X.xe s
noncomputable def PSs (X:Cx) (st:List Stmt) (t:TS):Prop :=
 ∀ (pins:List (Addr × Obj)) (s:Shared) (σ:St) (H:Hp) (D:Ends),Inv X pins σ H s -> t D σ H -> wpAny (model X.prog X.w) X.A (execs st X.env) (SP X pins D) X.xe s
theorem thn {α:Type} {t:Sem α} {Q Q':α -> Shared -> Prop} {M:Model} {A:Around} {E:Value -> Shared -> Prop} {s:Shared} (h:wpAny M A t Q E s) (hQ:∀ a s,Q a s -> Q' a s):wpAny M A t Q' E s:=wpAny_mono h hQ fun _ _ x=>x
end L2
namespace L2
open PySem PySem.Spec PyProof.Rows
section
variable {X:Cx}
noncomputable def tVar (i:Nat):TE:=fun σ H Q=>∃ v,σ[i]? = some (some v) /\ Q v H
noncomputable def tC (v:V):TE:=fun _ H Q=>Q v H
theorem pe_var {i:Nat} {x:Str} {pos:Pos} (hN:X.N[i]? = some x) (hv:Vis X.env.scope x) (hd:(x == ("__debug__":Str)) = false:=by decide) (hcd:(x == ("__classdict__":Str)) = false:=by decide):PE X (.Name x pos) (tVar i):=by
 intro pins s σ H Q I h
 obtain ⟨v,e,h⟩:=h
 obtain ⟨m,hn,hl⟩:=I.loc
 obtain ⟨u,r,l⟩:=hl i x v hN e hv
 have fin:EP X pins σ Q u s:=⟨v,H,I,r,h⟩
 rcases l with ⟨hk,hm⟩ | ⟨hk,c,hc,hcell⟩
 ·exact wpAny_Name (wpAny_loadName_local I.ok.kind hk hn hm fin) hd
 ·rcases hk with hk | hk
  ·exact wpAny_Name (wpAny_loadName_cell I.ok.kind hk hc hcell fin) hd
  ·exact wpAny_Name (wpAny_loadName_free I.ok.kind hk hc hcell fin hcd) hd
theorem pe_int {i j pos}:PE X (.Constant (.int i) j pos) (tC (.int i)):=fun _ _ _ H _ I h=>wpAny_Constant_int ⟨.int i,H,I.tok _,⟨_,rfl⟩,h⟩
theorem pe_bl {b j pos}:PE X (.Constant (.bool b) j pos) (tC (.bl b)):=fun _ _ _ H _ I h=>Constant_bool ⟨.bl b,H,I,rfl,h⟩
theorem pe_non {j pos}:PE X (.Constant .none j pos) (tC .non):=fun _ _ _ H _ I h=>Constant_none ⟨.non,H,I,rfl,h⟩
theorem pe_str {x j pos}:PE X (.Constant (.str x) j pos) (tC (.str x)):=fun _ _ _ H _ I h=>Calls.Constant_str ⟨.str x,H,I.tok _,⟨_,rfl⟩,h⟩
noncomputable def Gl (X:Cx) (x:Str):Prop:=X.env.kindOf x = some .globalImplicit
theorem ld_glob {E:Value -> Shared -> Prop} {pins:List (Addr × Obj)} {s:Shared} {σ:St} {H:Hp} {x:Str} {u:Value} {pos:Pos} {Q:Value -> Shared -> Prop} (I:Inv X pins σ H s) (hg:Gl X x) (hm:X.mg x = some u) (h:Q u s)
  (hd:(x == ("__debug__":Str)) = false:=by decide):wpAny (model X.prog X.w) X.A (eval (.Name x pos) X.env) Q E s :=
 Calls.Name_function_global I.ok.kind hg (Calls.loadGlobal_global (by rw [I.ok.glob]; exact I.mod.glob.keeps I.bk) hm h) hd
theorem ld_blt {E:Value -> Shared -> Prop} {pins:List (Addr × Obj)} {s:Shared} {σ:St} {H:Hp} {x:Str} {u:Value} {pos:Pos} {Q:Value -> Shared -> Prop} (I:Inv X pins σ H s) (hg:Gl X x) (hm:X.mg x = none) (hv:bootBuiltins x = some u) (h:Q u s)
  (hn:x ≠ "__name__":=by decide) (hd:(x == ("__debug__":Str)) = false:=by decide):wpAny (model X.prog X.w) X.A (eval (.Name x pos) X.env) Q E s:=by
 obtain ⟨mb,h1,h2⟩:=I.mod.blt
 exact Calls.Name_function_global I.ok.kind hg (Calls.loadGlobal_builtin (by rw [I.ok.glob]; exact I.mod.glob.keeps I.bk) hm (by rw [I.ok.blt]; exact h1.keeps I.bk) ((h2 x hn).trans hv) h) hd
theorem pe_glob {x:Str} {v:V} {u:Value} {pos:Pos} (hg:Gl X x) (hm:X.mg x = some u) (r:RelV v u) (hd:(x == ("__debug__":Str)) = false:=by decide):PE X (.Name x pos) (tC v) :=
 fun _ _ _ H _ I h=>ld_glob I hg hm ⟨v,H,I,r,h⟩ hd
theorem pe_bltn {x:Str} {v:V} {u:Value} {pos:Pos} (hg:Gl X x) (hm:X.mg x = none) (hv:bootBuiltins x = some u) (r:RelV v u) (hn:x ≠ "__name__":=by decide) (hd:(x == ("__debug__":Str)) = false:=by decide):PE X (.Name x pos) (tC v) :=
 fun _ _ _ H _ I h=>ld_blt I hg hm hv ⟨v,H,I,r,h⟩ hn hd
variable {a b:Expr} {ta tb:TE} {pos:Pos}
noncomputable def tB (t:TE):TT:=fun σ H Q=>t σ H fun x H1=>∃ c,x = .bl c /\ Q c H1
theorem pt_val {e:Expr} {t:TE} (h:PE X e t) (he:∀ whole,isTrue e X.env whole = (do let v <- whole; standAt e.pos; holding [v] (truthy v)):=by intro _; rfl):PT X e (tB t):=by
 intro pins s σ H Q I hw
 refine isTrue_plain (thn (h pins s σ H _ I hw) fun v s1 ⟨x,H1,I1,r1,q1⟩=>?_) (he _)
 obtain ⟨d,rfl,q⟩:=q1
 cases r1
 exact wpAny_truthy_bool ⟨H1,I1,q⟩
variable {tA tB':TT} {rest:List Expr}
noncomputable def tAnd (t u:TT):TT:=fun σ H Q=>t σ H fun c H1=>if c = true then u σ H1 Q else Q false H1
noncomputable def tOr (t u:TT):TT:=fun σ H Q=>t σ H fun c H1=>if c = true then Q true H1 else u σ H1 Q
noncomputable def tNot (t:TT):TT:=fun σ H Q=>t σ H fun c H1=>Q (!c) H1
theorem pw_and1 (ha:PT X a tA):PW X (.BoolOp .And [a] pos) tA:=by
 intro wh pins s σ H Q I h
 refine isTrue_and (thn (ha pins s σ H Q I h) fun c s1 e=>?_)
 cases c with
 | true=>exact isTrue_and_nil e
 | false=>exact e
theorem pw_or1 (ha:PT X a tA):PW X (.BoolOp .Or [a] pos) tA:=by
 intro wh pins s σ H Q I h
 refine isTrue_or (thn (ha pins s σ H Q I h) fun c s1 e=>?_)
 cases c with
 | false=>exact isTrue_or_nil e
 | true=>exact e
theorem pw_and (ha:PT X a tA) (hb:PW X (.BoolOp .And (b :: rest) pos) tB'):PW X (.BoolOp .And (a :: b :: rest) pos) (tAnd tA tB'):=by
 intro wh pins s σ H Q I h
 refine isTrue_and (thn (ha pins s σ H _ I h) fun c s1 ⟨H1,I1,q1⟩=>?_)
 cases c with
 | true=>exact hb wh pins s1 σ H1 Q I1 q1
 | false=>exact ⟨H1,I1,q1⟩
theorem pw_or (ha:PT X a tA) (hb:PW X (.BoolOp .Or (b :: rest) pos) tB'):PW X (.BoolOp .Or (a :: b :: rest) pos) (tOr tA tB'):=by
 intro wh pins s σ H Q I h
 refine isTrue_or (thn (ha pins s σ H _ I h) fun c s1 ⟨H1,I1,q1⟩=>?_)
 cases c with
 | true=>exact ⟨H1,I1,q1⟩
 | false=>exact hb wh pins s1 σ H1 Q I1 q1
theorem pt_not (ha:PT X a tA):PT X (.UnaryOp .Not a pos) (tNot tA):=by
 intro pins s σ H Q I h
 exact isTrue_not (ha pins s σ H (fun c H1=>Q (!c) H1) I h)
noncomputable def tAndV (ta tb:TE):TE:=fun σ H Q=>ta σ H fun x H1=>∃ c,x = .bl c /\ if c = true then tb σ H1 Q else Q (.bl false) H1
theorem pe_one {op} {t:TE} (h:PE X a t):PE X (.BoolOp op [a] pos) t:=fun pins s σ H Q I hw=>BoolOp_one (h pins s σ H Q I hw)
theorem pe_and (ha:PE X a ta) (hb:PE X (.BoolOp .And (b :: rest) pos) tb):PE X (.BoolOp .And (a :: b :: rest) pos) (tAndV ta tb):=by
 intro pins s σ H Q I h
 refine BoolOp_and (thn (ha pins s σ H _ I h) fun v s1 ⟨x,H1,I1,r1,q1⟩=>?_)
 obtain ⟨c,rfl,q1⟩:=q1
 cases r1
 refine wpAny_truthy_bool ?_
 cases c with
 | true=>exact hb pins s1 σ H1 Q I1 q1
 | false=>exact ⟨.bl false,H1,I1,rfl,q1⟩
noncomputable def tIf (t:TT) (ta tb:TE):TE:=fun σ H Q=>t σ H fun c H1=>if c = true then ta σ H1 Q else tb σ H1 Q
theorem pe_ifExp {c:Expr} (hc:PT X c tA) (ha:PE X a ta) (hb:PE X b tb):PE X (.IfExp c a b pos) (tIf tA ta tb):=by
 intro pins s σ H Q I h
 refine wpAny_IfExp (thn (hc pins s σ H _ I h) fun d s1 ⟨H1,I1,q1⟩=>?_)
 cases d with
 | true=>exact ha pins s1 σ H1 Q I1 q1
 | false=>exact hb pins s1 σ H1 Q I1 q1
end
end L2
namespace L2
open PySem PySem.Spec PyProof.Rows
noncomputable def SqL (K:PySem.W.Frag) (H:Hp) (a:Addr) (xs:List V):Prop :=
 Rd H a (.lst xs) \/
  ∃ (o:Obj) (its:Array Value) (n:Nat),K.lookup a = some o /\ o.cls = .type "list" /\ o.dict = none /\ o.data = .seq its n /\ its.size <= sizeLine /\ Vals xs its.toList
noncomputable def SqT (K:PySem.W.Frag) (H:Hp) (a:Addr) (xs:List V):Prop :=
 Rd H a (.tup xs) \/
  ∃ (o:Obj) (its:Array Value) (n:Nat),K.lookup a = some o /\ o.cls = .type "tuple" /\ o.data = .seq its n /\ its.size <= sizeLine /\ Vals xs its.toList
noncomputable def absV:Value -> Option V
 | .none=>some .non
 | .bool b=>some (.bl b)
 | .int i _=>some (.int i)
 | .str x _=>some (.str x)
 | .bytes b _=>some (.byt b)
 | .float b _=>some (.flt b)
 | .ref a=>some (.ref a)
 | .type n=>some (.ty n)
 | _=>none
theorem RelV.abs {x:V} {u:Value} (r:RelV x u):absV u = some x:=by
 cases x with
 | non=>cases r; rfl
 | bl _=>cases r; rfl
 | int _=>obtain ⟨t,rfl⟩:=r; rfl
 | str _=>obtain ⟨t,rfl⟩:=r; rfl
 | byt _=>obtain ⟨t,rfl⟩:=r; rfl
 | flt _=>obtain ⟨t,rfl⟩:=r; rfl
 | ref _=>cases r; rfl
 | ty _=>cases r; rfl
theorem RelV.inj {x y:V} {u:Value} (r:RelV x u) (q:RelV y u):x = y:=Option.some.inj (r.abs.symm.trans q.abs)
theorem Vals.inj:∀ {xs ys:List V} {us:List Value},Vals xs us -> Vals ys us -> xs = ys
 | _,_,_,.nil,.nil=>rfl
 | _,_,_,.cons r t,.cons r' t'=>by rw [r.inj r',Vals.inj t t']
section
variable {X:Cx} {pins:List (Addr × Obj)} {σ:St} {H:Hp} {s:Shared} {a:Addr} {xs ys:List V}
theorem SqL.of {K:PySem.W.Frag} (h:H a = some (.lst xs)):SqL K H a xs:=.inl (.inl h)
theorem SqT.of {K:PySem.W.Frag} (h:H a = some (.tup xs)):SqT K H a xs:=.inl (.inl h)
theorem Inv.list (I:Inv X pins σ H s) (h:SqL X.K H a xs):∃ its:List Value,Vals xs its /\ PlainL s.heap a its.toArray /\ xs.length <= sizeLine:=by
 rcases h with h | ⟨o,its,n,hk,hc,hd,hs,hz,r⟩
 ·obtain ⟨z,its,n,r,e⟩:=h.ok I.hok
  exact ⟨its,r,⟨_,n,e,rfl,rfl,rfl⟩,z⟩
 ·refine ⟨its.toList,r,⟨o,n,I.kIn a o hk,hc,hd,by simpa using hs⟩,?_⟩
  have e:=r.length
  simp only [Array.length_toList] at e
  omega
theorem Inv.tuple (I:Inv X pins σ H s) (h:SqT X.K H a xs):∃ its:List Value,Vals xs its /\ IsTup s.heap a its.toArray /\ xs.length <= sizeLine:=by
 rcases h with h | ⟨o,its,n,hk,hc,hs,hz,r⟩
 ·obtain ⟨z,its,r,p⟩:=h.ok I.hok
  exact ⟨its,r,p.t,z⟩
 ·refine ⟨its.toList,r,⟨o,I.kIn a o hk,hc,n,by simpa using hs⟩,?_⟩
  have e:=r.length
  simp only [Array.length_toList] at e
  omega
theorem Inv.list_inj (I:Inv X pins σ H s) (h:SqL X.K H a xs) (h':SqL X.K H a ys):xs = ys:=by
 obtain ⟨its,r,⟨o,n,e,_,_,d⟩,_⟩:=I.list h
 obtain ⟨its',r',⟨o',n',e',_,_,d'⟩,_⟩:=I.list h'
 rw [e] at e'; cases e'
 rw [d] at d'
 injection d' with d1 _
 have:its = its':=by simpa using congrArg Array.toList d1
 subst this
 exact r.inj r'
theorem Inv.tuple_inj (I:Inv X pins σ H s) (h:SqT X.K H a xs) (h':SqT X.K H a ys):xs = ys:=by
 obtain ⟨its,r,⟨o,e,_,n,d⟩,_⟩:=I.tuple h
 obtain ⟨its',r',⟨o',e',_,n',d'⟩,_⟩:=I.tuple h'
 rw [e] at e'; cases e'
 rw [d] at d'
 injection d' with d1 _
 have:its = its':=by simpa using congrArg Array.toList d1
 subst this
 exact r.inj r'
end
noncomputable abbrev Cx.wish (X:Cx) (E:Value -> Shared -> Prop):Cx:={ X with xe:=E }
noncomputable abbrev Cx.nox (X:Cx):Cx:=X.wish fun _ _=>False
theorem Cx.Ok.wish {X:Cx} (ok:X.Ok) (E:Value -> Shared -> Prop):(X.wish E).Ok :=
 ⟨ok.mod,ok.kind,ok.glob,ok.blt,ok.above,ok.inj,ok.has,ok.cab,ok.hd,ok.frames,ok.stk,ok.exf,ok.bs,ok.bsz,ok.noex,ok.exfs,ok.funs,ok.frf⟩
theorem Cx.Ok.unwish {X:Cx} {E:Value -> Shared -> Prop} (ok:(X.wish E).Ok):X.Ok :=
 ⟨ok.mod,ok.kind,ok.glob,ok.blt,ok.above,ok.inj,ok.has,ok.cab,ok.hd,ok.frames,ok.stk,ok.exf,ok.bs,ok.bsz,ok.noex,ok.exfs,ok.funs,ok.frf⟩
section
variable {X:Cx} {pins:List (Addr × Obj)} {σ:St} {H:Hp} {s:Shared} {E:Value -> Shared -> Prop}
theorem Inv.wish (I:Inv X pins σ H s) (E:Value -> Shared -> Prop):Inv (X.wish E) pins σ H s:=⟨I.ok.wish E,I.os,I.bare,I.base,I.loc,I.cell,I.free,I.freeC,I.pin,I.hok,I.len⟩
theorem Inv.unwish (I:Inv (X.wish E) pins σ H s):Inv X pins σ H s:=⟨I.ok.unwish,I.os,I.bare,I.base,I.loc,I.cell,I.free,I.freeC,I.pin,I.hok,I.len⟩
theorem SP.unwish {D:Ends} {f:Flow} {s':Shared} (h:SP (X.wish E) pins D f s'):SP X pins D f s':=by
 cases f with
 | next=>obtain ⟨σ',H',I,q⟩:=h; exact ⟨σ',H',I.unwish,q⟩
 | brk=>obtain ⟨σ',H',I,q⟩:=h; exact ⟨σ',H',I.unwish,q⟩
 | cont=>obtain ⟨σ',H',I,q⟩:=h; exact ⟨σ',H',I.unwish,q⟩
 | ret u=>obtain ⟨v,σ',H',I,r,q⟩:=h; exact ⟨v,σ',H',I.unwish,r,q⟩
theorem PT.nox {e:Expr} {t:TT} (h:PT X.nox e t):PT X e t:=fun pins s σ H Q I hw =>
 wpAny_mono (h pins s σ H Q (I.wish _) hw) (fun _ _ ⟨H',I',q⟩=>⟨H',I'.unwish,q⟩) fun _ _ z=>False.elim z
theorem PSs.nox {st:List Stmt} {t:TS} (h:PSs X.nox st t):PSs X st t:=fun pins s σ H D I hw =>
 wpAny_mono (h pins s σ H D (I.wish _) hw) (fun _ _ q=>q.unwish) fun _ _ z=>False.elim z
end
section
variable {X:Cx} {st:Stmt} {rest:List Stmt} {t u:TS} {e:Expr} {te:TE} {pos:Pos}
noncomputable def tNext:TS:=fun D σ H=>D.nx σ H
noncomputable def tSeq (t u:TS):TS:=fun D σ H=>t { D with nx:=u D } σ H
theorem pss_nil:PSs X [] tNext:=fun _ _ σ H _ I h=>wpAny_execs_nil ⟨σ,H,I,h⟩
theorem pss_cons (h1:PS X st t) (h2:PSs X rest u):PSs X (st :: rest) (tSeq t u):=by
 intro pins s σ H D I h
 refine wpAny_execs_cons (thn (h1 pins s σ H { D with nx:=u D } I h) fun f s1 q=>?_)
 cases f with
 | next =>
  obtain ⟨σ',H',I',q⟩:=q
  exact h2 pins s1 σ' H' D I' q
 | ret v=>exact q
 | brk=>exact q
 | cont=>exact q
theorem pss_one (h1:PS X st t):PSs X [st] t:=by
 intro pins s σ H D I h
 refine wpAny_execs_cons (thn (h1 pins s σ H D I h) fun f s1 q=>?_)
 cases f with
 | next=>exact wpAny_execs_nil q
 | ret v=>exact q
 | brk=>exact q
 | cont=>exact q
theorem Inv.quiet {pins:List (Addr × Obj)} {σ:St} {H:Hp} {s:Shared} (I:Inv X pins σ H s):interactive X.env = false:=by simp [interactive,I.ok.kind]
noncomputable def tDrop (te:TE):TS:=fun D σ H=>te σ H fun _ H1=>D.nx σ H1
theorem ps_expr (he:PE X e te) (hs:swapsWith e none pos.line X.env = pure false:=by rfl):PS X (.Expr e pos) (tDrop te):=by
 intro pins s σ H D I h
 exact wpAny_Expr_any (thn (he pins s σ H _ I h) fun v s1 ⟨x,H1,I1,r1,q1⟩=>⟨σ,H1,I1,q1⟩) I.quiet hs
noncomputable def tRet (te:TE):TS:=fun D σ H=>te σ H D.rt
theorem ps_ret (he:PE X e te):PS X (.Return (some e) pos) (tRet te):=by
 intro pins s σ H D I h
 exact wpAny_Return_some (thn (he pins s σ H _ I h) fun v s1 ⟨x,H1,I1,r1,q1⟩=>⟨x,σ,H1,I1,r1,q1⟩)
noncomputable def tIfS (c:TT) (t u:TS):TS:=fun D σ H=>c σ H fun b H1=>if b = true then t D σ H1 else u D σ H1
theorem ps_if {c:Expr} {a b:List Stmt} {tc:TT} (hc:PT X c tc) (ha:PSs X a t) (hb:PSs X b u):PS X (.If c a b pos) (tIfS tc t u):=by
 intro pins s σ H D I h
 refine wpAny_If (thn (hc pins s σ H _ I h) fun d s1 ⟨H1,I1,q1⟩=>?_)
 cases d with
 | true=>exact ha pins s1 σ H1 D I1 q1
 | false=>exact hb pins s1 σ H1 D I1 q1
end
noncomputable abbrev TG:=V -> St -> Hp -> (St -> Hp -> Prop) -> Prop
noncomputable abbrev TGs:=List V -> St -> Hp -> (St -> Hp -> Prop) -> Prop
noncomputable def PG (X:Cx) (target:Expr) (t:TG):Prop :=
 ∀ (pins:List (Addr × Obj)) (s:Shared) (σ:St) (H:Hp) (v:V) (u:Value) (Q:St -> Hp -> Prop),Inv X pins σ H s -> RelV v u -> t v σ H Q ->
  wpAny (model X.prog X.w) X.A (assign target X.env u) (fun _ s'=>∃ σ' H',Inv X pins σ' H' s' /\ Q σ' H') X.xe s
noncomputable def PGs (X:Cx) (ts:List Expr) (t:TGs):Prop :=
 ∀ (pins:List (Addr × Obj)) (s:Shared) (σ:St) (H:Hp) (vs:List V) (us:List Value) (Q:St -> Hp -> Prop),Inv X pins σ H s -> Vals vs us -> t vs σ H Q ->
  wpAny (model X.prog X.w) X.A (assignInOrder ((assignEach ts X.env).map (·.2)) us) (fun _ s'=>∃ σ' H',Inv X pins σ' H' s' /\ Q σ' H') X.xe s
noncomputable abbrev TSet:=V -> V -> V -> Hp -> (Hp -> Prop) -> Prop
noncomputable def PSet (X:Cx) (t:TSet):Prop :=
 ∀ (pins:List (Addr × Obj)) (s:Shared) (σ:St) (H:Hp) (o i v:V) (ov iv u:Value) (Q:Hp -> Prop),Inv X pins σ H s -> RelV o ov -> RelV i iv -> RelV v u -> t o i v H Q ->
  wpAny (model X.prog X.w) X.A (setItem ov iv u) (fun _ s'=>∃ H',Inv X pins σ H' s' /\ Q H') X.xe s
section
variable {X:Cx} {pos:Pos}
noncomputable def gName (i:Nat):TG:=fun v σ H Q=>Q (σ.set i (some v)) H
theorem pg_name {i:Nat} {x:Str} (hN:X.N.Nodup) (hi:X.N[i]? = some x) (hx:Loc X.env.scope x) (hf:X.fn x = true \/ X.env.scope.names.lookup x = some .local:=by first | exact .inl rfl | exact .inr rfl | assumption):PG X (.Name x pos) (gName i):=by
 intro pins s σ H v u Q I r h
 exact wpAny_assign_Name (store_ok I hN hi hx r (fun s' I'=>⟨_,H,I',h⟩) hf)
noncomputable def gNil:TGs:=fun vs σ H Q=>vs = [] /\ Q σ H
noncomputable def gCons (t:TG) (u:TGs):TGs:=fun vs σ H Q=>∃ v r,vs = v :: r /\ t v σ H fun σ' H'=>u r σ' H' Q
theorem pgs_nil:PGs X [] gNil:=by
 intro pins s σ H vs us Q I r h
 obtain ⟨e,h⟩:=h
 subst e
 cases r
 exact assignInOrder_nil ⟨σ,H,I,h⟩
theorem pgs_cons {e:Expr} {es:List Expr} {t:TG} {u:TGs} (h1:PG X e t) (h2:PGs X es u)
  (hs:(assignEach (e :: es) X.env).map (·.2) = assign e X.env :: (assignEach es X.env).map (·.2):=by rfl):PGs X (e :: es) (gCons t u):=by
 intro pins s σ H vs us Q I r h
 obtain ⟨v,vr,e1,h⟩:=h
 subst e1
 cases r with
 | cons r rr =>
  rw [hs]
  refine assignInOrder_cons (thn (h1 pins s σ H _ _ _ I r h) fun _ s1 ⟨σ1,H1,I1,q1⟩=>?_)
  exact h2 pins s1 σ1 H1 _ _ Q I1 rr q1
noncomputable def gTup (K:PySem.W.Frag) (n:Nat) (t:TGs):TG:=fun v σ H Q=>∃ a xs,v = .ref a /\ SqT K H a xs /\ xs.length = n /\ t xs σ H Q
theorem pg_tup {es:List Expr} {k:Nat} {t:TGs} {n:Nat} (hc:X.calm = true) (h:PGs X es t)
  (hn:(assignEach es X.env).length = n:=by rfl) (hst:(assignEach es X.env).findIdx? (·.1) = none:=by rfl):PG X (.Tuple es k pos) (gTup X.K n t):=by
 intro pins s σ H v u Q I r hw
 obtain ⟨a,xs,e1,hq,hl,hw⟩:=hw
 subst e1
 cases r
 obtain ⟨its,rv,ht,hz⟩:=I.tuple hq
 refine assign_Tuple_tuple (I.ok.hd hc) ht (by simp [hn,<- hl,rv.length]) hst fun h' hx=>?_
 have I1:Inv X pins σ H { s with heap:=h' }:=I.kept (t':=s.toks) fun b o e=>hx b o (Nat.ne_of_lt (Heap.lt_size e)) e
 exact h pins _ σ H xs _ Q I1 (by simpa using rv) hw
noncomputable def gSub (to ti:TE) (t:TSet):TG:=fun v σ H Q=>to σ H fun o H1=>ti σ H1 fun i H2=>t o i v H2 fun H3=>Q σ H3
theorem pg_sub {o i:Expr} {to ti:TE} {t:TSet} (ho:PE X o to) (hi:PE X i ti) (hs:PSet X t)
  (ha:∀ v,assign (.Subscript o i pos) X.env v = (do
    let ov <- holding [v] (eval o X.env)
    let iv <- holding [v,ov] (eval i X.env)
    standAt pos
    holding [v,ov,iv] (setItem ov iv v)
    release [v,ov,iv] []):=by intro _; rfl):PG X (.Subscript o i pos) (gSub to ti t):=by
 intro pins s σ H v u Q I r h
 rw [ha]
 refine wpAny_bind (wpAny_holding (thn (ho pins s σ H _ I h) fun ov s1 ⟨x,H1,I1,r1,q1⟩=>?_))
 refine wpAny_bind (wpAny_holding (thn (hi pins s1 σ H1 _ I1 q1) fun iv s2 ⟨y,H2,I2,r2,q2⟩=>?_))
 refine wpAny_bind (wpAny_standAt (wpAny_bind (wpAny_holding (thn (hs pins s2 σ H2 x y v ov iv u _ I2 r1 r2 r q2) fun _ s3 ⟨H3,I3,q3⟩=>?_))))
 exact wpAny_release ⟨σ,H3,I3,q3⟩
noncomputable def tAsg (te:TE) (g:TG):TS:=fun D σ H=>te σ H fun x H1=>g x σ H1 D.nx
theorem ps_asg {tg e:Expr} {te:TE} {g:TG} (he:PE X e te) (hg:PG X tg g) (hs:swapsWithSole [tg] e pos.line X.env = pure false:=by rfl) (hw:swappedStores [tg] e X.env = pure none:=by rfl)
  (h1:(assignEach [tg] X.env).map (·.2) = [assign tg X.env]:=by rfl):PS X (.Assign [tg] e pos) (tAsg te g):=by
 intro pins s σ H D I h
 refine wpAny_Assign_stores (thn (he pins s σ H _ I h) fun v s1 ⟨x,H1,I1,r1,q1⟩=>?_) hs hw
 rw [h1]
 exact thn (hg pins s1 σ H1 x v _ I1 r1 q1) fun _ s2 q=>q
theorem ps_set {i:Nat} {x:Str} {e:Expr} {te:TE} {pos':Pos} (hN:X.N.Nodup) (hi:X.N[i]? = some x) (hx:Loc X.env.scope x) (he:PE X e te) (hs:swapsWith e (some (.Name x pos')) pos.line X.env = pure false:=by rfl) (hf:X.fn x = true \/ X.env.scope.names.lookup x = some .local:=by first | exact .inl rfl | exact .inr rfl | assumption) :
  PS X (.Assign [.Name x pos'] e pos) (tAsg te (gName i)):=by
 intro pins s σ H D I h
 refine wpAny_Assign_Name (thn (he pins s σ H _ I h) fun v s1 ⟨y,H1,I1,r1,q1⟩=>?_) hs
 exact store_ok I1 hN hi hx r1 (fun s2 I2=>⟨_,H1,I2,q1⟩) hf
end
section
variable {X:Cx} {pos:Pos}
noncomputable def tWhile (c:TT) (tb:TS):TS:=fun D σ H=>∃ W:Nat -> St -> Hp -> Prop,(∃ m,W m σ H) /\ ∀ m σ H,W m σ H ->
 c σ H fun b H1=>if b = true then ∃ N:St -> Hp -> Prop,(∀ σ' H',N σ' H' -> ∃ m',m' < m /\ W m' σ' H') /\ tb { D with nx:=N,ct:=N,bk:=D.nx } σ H1 else D.nx σ H1
theorem ps_while {c:Expr} {body:List Stmt} {tc:TT} {tb:TS} (hp:PassesOwn (model X.prog X.w) X.A X.env X.xe) (hc:PT X c tc) (hb:PSs X body tb):PS X (.While c body [] pos) (tWhile tc tb):=by
 intro pins s σ H D I h
 obtain ⟨W,⟨m0,w0⟩,turn⟩:=h
 refine wpAny_While (codeAny_whileLoop (fun n s'=>∃ σ' H',Inv X pins σ' H' s' /\ W n σ' H') ?_ m0 ⟨σ,H,I,w0⟩)
 rintro n s1 ⟨σ1,H1,I1,w1⟩
 refine wpAny_passesOwn hp (thn (hc pins s1 σ1 H1 _ I1 (turn n σ1 H1 w1)) fun b s2 ⟨H2,I2,q2⟩=>?_)
 cases b with
 | true =>
  obtain ⟨N,hN,q2⟩:=q2
  rw [if_pos rfl]
  refine wpAny_passesOwn hp (thn (hb pins s2 σ1 H2 _ I2 q2) fun f s3 q3=>?_)
  cases f with
  | next =>
   obtain ⟨σ3,H3,I3,n3⟩:=q3
   obtain ⟨m',hm,w3⟩:=hN σ3 H3 n3
   exact ⟨m',hm,σ3,H3,I3,w3⟩
  | cont =>
   obtain ⟨σ3,H3,I3,n3⟩:=q3
   obtain ⟨m',hm,w3⟩:=hN σ3 H3 n3
   exact ⟨m',hm,σ3,H3,I3,w3⟩
  | brk=>exact q3
  | ret v=>exact q3
 | false =>
  rw [if_neg Bool.false_ne_true]
  exact wpAny_execs_nil ⟨σ1,H2,I2,q2⟩
end
structure It where
 go:Nat -> Hp -> Prop
 yld:Nat -> Hp -> V -> Hp -> Prop
 stop:Nat -> Hp -> Prop
noncomputable def FpOk (X:Cx) (pins:List (Addr × Obj)) (H:Hp) (b:Addr):Prop :=
 H b = none /\ b ≠ X.env.locals /\ b ∉ X.fs /\ (b ∈ X.ex \/ X.s₀.heap.objs.size <= b) /\ (∀ x c,X.env.cells.lookup x = some c -> c ≠ b) /\ ∀ p ∈ X.pn ++ pins,p.1 ≠ b
theorem Inv.fpOk {X:Cx} {pins:List (Addr × Obj)} {σ:St} {H H':Hp} {s:Shared} {b:Addr} (I:Inv X pins σ H s) (hb:s.heap.objs.size <= b) (hn:H' b = none):FpOk X pins H' b:=by
 refine ⟨hn,Nat.ne_of_gt (Nat.lt_of_lt_of_le I.lt hb),I.nofs hb,.inr (Nat.le_trans I.sz hb),fun x c e z=>?_,fun p hp z=>?_⟩
 ·obtain ⟨v,q⟩:=I.cell x c e
  exact absurd (Nat.lt_of_lt_of_le q.lt (by rw [z]; exact hb)) (Nat.lt_irrefl _)
 ·exact absurd (Nat.lt_of_lt_of_le (Heap.lt_size (I.pin p hp).1) (by rw [z]; exact hb)) (Nat.lt_irrefl _)
structure Turn (P:Program) (w:World) (K:PySem.W.Frag) (tg:Expr) (J:It) (fp:List Addr) (it:Addr) (tn:Nat -> Heap -> Prop):Prop where
 mem:it ∈ fp
 obj:∀ i h,tn i h -> ∀ b ∈ fp,∃ o,h.get? b = some o /\ ∀ v,o.data ≠ .cell v
 keep:∀ i h h',tn i h -> (∀ b ∈ fp,∀ o,h.get? b = some o -> h'.get? b = some o) -> tn i h'
 item:∀ (X:Cx),X.prog = P -> X.w = w -> X.K = K -> X.calm = true -> ∀ (i:Nat) (pins:List (Addr × Obj)) (s:Shared) (σ:St) (H:Hp) (E:Value -> Shared -> Prop),Inv X pins σ H s -> (∀ b ∈ fp,FpOk X pins H b) -> tn i s.heap -> J.go i H ->
  wpAny (model P w) X.A (pyNext (.ref it)) (fun r s1=>∃ u,r = some u /\
    wpAny (model P w) X.A (letOwnedTupleGo tg (.ref it) u) (fun _ s2=>∃ x H',Inv X pins σ H' s2 /\ RelV x u /\ J.yld i H x H' /\ tn (i + 1) s2.heap /\ ∀ b ∈ fp,H' b = none) E s1) E s
 done:∀ (X:Cx),X.prog = P -> X.w = w -> X.K = K -> X.calm = true -> ∀ (i:Nat) (pins:List (Addr × Obj)) (s:Shared) (σ:St) (H:Hp) (E:Value -> Shared -> Prop),Inv X pins σ H s -> (∀ b ∈ fp,FpOk X pins H b) -> tn i s.heap -> J.stop i H ->
  wpAny (model P w) X.A (pyNext (.ref it)) (fun r s1=>r = none /\ Inv X pins σ H s1) E s
 self:∀ (A:Around) (i:Nat) (s:Shared) (Q:Value -> Shared -> Prop) (E:Value -> Shared -> Prop),tn i s.heap -> Q (.ref it) s -> wpAny (model P w) A (pyIter (.ref it)) Q E s
noncomputable abbrev TI:=St -> Hp -> (It -> Hp -> Prop) -> Prop
noncomputable def PIE (X:Cx) (pins:List (Addr × Obj)) (σ:St) (tg:Expr) (R:It -> Hp -> Prop) (itv:Value) (s2:Shared):Prop :=
 ∃ (it:Addr) (fp:List Addr) (tn:Nat -> Heap -> Prop) (J:It) (H':Hp),itv = .ref it /\ Inv X pins σ H' s2 /\ Turn X.prog X.w X.K tg J fp it tn /\ tn 0 s2.heap /\ (∀ b ∈ fp,FpOk X pins H' b) /\ R J H'
noncomputable def PI (X:Cx) (tg iter:Expr) (wi:TI):Prop :=
 ∀ (pins:List (Addr × Obj)) (s:Shared) (σ:St) (H:Hp) (R:It -> Hp -> Prop),Inv X pins σ H s -> wi σ H R ->
  wpAny (model X.prog X.w) X.A (eval iter X.env) (fun v s1=>wpAny (model X.prog X.w) X.A (pyIter v) (PIE X pins σ tg R) X.xe s1) X.xe s
theorem go_of {M:Model} {A:Around} {E:Value -> Shared -> Prop} {s:Shared} {tg:Expr} {it:Addr} {u:Value} {o:Obj} {n:String} {vs:Array Value} {Q:Unit -> Shared -> Prop} (ho:s.heap.get? it = some o) (hc:o.cls = .type n) (hd:o.data = .fields vs)
  (hn:["enumerate","zip","dict_itemiterator","dict_reverseitemiterator","odict_iterator","itertools.zip_longest","itertools.pairwise"].contains n = false) (hQ:Q () s):wpAny M A (letOwnedTupleGo tg (.ref it) u) Q E s:=by
 unfold letOwnedTupleGo
 cases tg <;> first
  | exact wpAny_pure hQ
  | (cases u <;> first
      | exact wpAny_pure hQ
      | (refine wpAny_bind (wpAny_load ho ?_)
         rw [hc,hd]
         show wpAny M A (if (["enumerate","zip","dict_itemiterator","dict_reverseitemiterator","odict_iterator","itertools.zip_longest","itertools.pairwise"].contains n && vs[0]? == some (rawInt _)) = true then _ else _) Q E s
         rw [if_neg (by intro h; rw [hn,Bool.false_and] at h; cases h)]
         exact wpAny_pure hQ))
noncomputable def Itl (K:PySem.W.Frag) (a:Addr):It :=
 ⟨fun i H=>∃ xs x,SqL K H a xs /\ xs[i]? = some x,fun i H x H'=>H' = H /\ ∀ xs,SqL K H a xs -> xs[i]? = some x,fun i H=>∃ xs,SqL K H a xs /\ xs.length <= i⟩
noncomputable def Itt (K:PySem.W.Frag) (a:Addr):It :=
 ⟨fun i H=>∃ xs x,SqT K H a xs /\ xs[i]? = some x,fun i H x H'=>H' = H /\ ∀ xs,SqT K H a xs -> xs[i]? = some x,fun i H=>∃ xs,SqT K H a xs /\ xs.length <= i⟩
noncomputable def Itr (lo:Int) (n:Nat):It:=⟨fun i _=>i < n,fun i H x H'=>H' = H /\ x = .int (lo + i),fun i _=>n <= i⟩
theorem turn_list {P:Program} {w:World} {K:PySem.W.Frag} {tg:Expr} (a it:Addr):Turn P w K tg (Itl K a) [it] it (fun i h=>h.IsListIter it a i) where
 mem:=by simp
 obj:=fun i h st b hb=>by
  have e:b = it:=by simpa using hb
  subst e
  obtain ⟨o,e,c,d⟩:=st
  exact ⟨o,e,fun v z=>by rw [d] at z; cases z⟩
 keep:=fun i h h' st k=>st.at fun o e=>k it (by simp) o e
 item:=by
  intro X hP hw hK hc i pins s σ H E I hf st hg
  subst hP hw hK
  obtain ⟨xs,x,hq,hx⟩:=hg
  obtain ⟨its,rv,p,hz⟩:=I.list hq
  obtain ⟨u,hu,ru⟩:=rv.get hx
  obtain ⟨f0,f1,f2,f3,f4,f5⟩:=hf it (by simp)
  refine wpAny_pyNext_list_item st p.isList (x:=u) (by simpa using hu) fun h' st' sb=>?_
  have I1:Inv X pins σ H { s with heap:=h' }:=I.turned (t':=s.toks) (fun b o hb e=>(sb.2 b hb).trans e) f0 f1 f3 f4 f5
  obtain ⟨o,e,c,d⟩:=id st'
  exact ⟨u,rfl,go_of (s:={ s with heap:=h' }) e c d (by decide) ⟨x,H,I1,ru,⟨rfl,fun ys hy=>by rw [I.list_inj hy hq]; exact hx⟩,st',fun b hb=>(hf b hb).1⟩⟩
 done:=by
  intro X hP hw hK hc i pins s σ H E I hf st hg
  subst hP hw hK
  obtain ⟨xs,hq,hx⟩:=hg
  obtain ⟨its,rv,p,hz⟩:=I.list hq
  obtain ⟨f0,f1,f2,f3,f4,f5⟩:=hf it (by simp)
  have hl:=rv.length
  exact wpAny_pyNext_list_end (I.ok.hd hc) st p.isList (by simp; omega) fun h' eb=>⟨rfl,I.turned (t':=s.toks) (fun b o hb e=>eb b o hb e) f0 f1 f3 f4 f5⟩
 self:=fun _ _ _ _ _ st h=>wpAny_pyIter_listiter st h
theorem turn_tuple {P:Program} {w:World} {K:PySem.W.Frag} {tg:Expr} (a it:Addr):Turn P w K tg (Itt K a) [it] it (fun i h=>h.IsTupleIter it a i) where
 mem:=by simp
 obj:=fun i h st b hb=>by
  have e:b = it:=by simpa using hb
  subst e
  obtain ⟨o,e,c,d⟩:=st
  exact ⟨o,e,fun v z=>by rw [d] at z; cases z⟩
 keep:=fun i h h' st k=>st.at fun o e=>k it (by simp) o e
 item:=by
  intro X hP hw hK hc i pins s σ H E I hf st hg
  subst hP hw hK
  obtain ⟨xs,x,hq,hx⟩:=hg
  obtain ⟨its,rv,p,hz⟩:=I.tuple hq
  obtain ⟨u,hu,ru⟩:=rv.get hx
  obtain ⟨f0,f1,f2,f3,f4,f5⟩:=hf it (by simp)
  refine wpAny_pyNext_tuple_item st (show s.heap.IsTuple a its.toArray from p) (x:=u) (by simpa using hu) fun h' st' sb=>?_
  have I1:Inv X pins σ H { s with heap:=h' }:=I.turned (t':=s.toks) (fun b o hb e=>(sb.2 b hb).trans e) f0 f1 f3 f4 f5
  obtain ⟨o,e,c,d⟩:=id st'
  exact ⟨u,rfl,go_of (s:={ s with heap:=h' }) e c d (by decide) ⟨x,H,I1,ru,⟨rfl,fun ys hy=>by rw [I.tuple_inj hy hq]; exact hx⟩,st',fun b hb=>(hf b hb).1⟩⟩
 done:=by
  intro X hP hw hK hc i pins s σ H E I hf st hg
  subst hP hw hK
  obtain ⟨xs,hq,hx⟩:=hg
  obtain ⟨its,rv,p,hz⟩:=I.tuple hq
  obtain ⟨f0,f1,f2,f3,f4,f5⟩:=hf it (by simp)
  have hl:=rv.length
  exact wpAny_pyNext_tuple_end (I.ok.hd hc) st (show s.heap.IsTuple a its.toArray from p) (by simp; omega) fun h' eb=>⟨rfl,I.turned (t':=s.toks) (fun b o hb e=>eb b o hb e) f0 f1 f3 f4 f5⟩
 self:=fun _ _ _ _ _ st h=>wpAny_pyIter_tupleiter st h
theorem turn_range {P:Program} {w:World} {K:PySem.W.Frag} {tg:Expr} (it:Addr) (lo:Int) (n:Nat):Turn P w K tg (Itr lo n) [it] it (fun i h=>IsRangeIter h it (lo + (i:Nat) * 1) ((n:Int) - (i:Nat)) 1) where
 mem:=by simp
 obj:=fun i h st b hb=>by
  have e:b = it:=by simpa using hb
  subst e
  exact ⟨_,st,fun v z=>by
    have z':Data.fields _ = Data.cell v:=z
    cases z'⟩
 keep:=fun i h h' st k=>k it (by simp) _ st
 item:=by
  intro X hP hw hK hc i pins s σ H E I hf st hg
  subst hP hw hK
  obtain ⟨f0,f1,f2,f3,f4,f5⟩:=hf it (by simp)
  have W:=Walks.range (prog:=X.prog) (w:=X.w) (I.ok.hd hc) it lo 1 n
  refine W.item i s _ _ hg st fun v h' tk hv st' kk=>?_
  obtain ⟨t,rfl⟩:=hv
  have I1:Inv X pins σ H { s with heap:=h',toks:=tk }:=I.turned (fun b o hb e=>kk b o (by simpa using hb) e) f0 f1 f3 f4 f5
  refine ⟨_,rfl,go_of (s:={ s with heap:=h',toks:=tk }) (n:="range_iterator") st' rfl rfl (by decide) ⟨.int (lo + i),H,I1,⟨t,?_⟩,⟨rfl,rfl⟩,st',fun b hb=>(hf b hb).1⟩⟩
  rw [Int.mul_one]
 done:=by
  intro X hP hw hK hc i pins s σ H E I hf st hg
  subst hP hw hK
  obtain ⟨f0,f1,f2,f3,f4,f5⟩:=hf it (by simp)
  exact wpAny_pyNext_range_end (I.ok.hd hc) st (by have:n <= i:=hg; omega) fun h' eb=>⟨rfl,I.turned (t':=s.toks) (fun b o hb e=>eb b o hb e) f0 f1 f3 f4 f5⟩
 self:=fun _ _ _ _ _ st h=>wpAny_pyIter_rangeiter st h
end L2
namespace L2
open PySem PySem.Spec PyProof.Rows
section
variable {X:Cx} {tg:Expr}
theorem range_it {pins:List (Addr × Obj)} {σ:St} {H:Hp} {s:Shared} {R:It -> Hp -> Prop} {E:Value -> Shared -> Prop} {lo hi:Int} {t u v:Tok} {tk:Nat} (I:Inv X pins σ H s) (h1:-(2 ^ 62) <= lo) (h2:lo < 2 ^ 62) (h3:-(2 ^ 62) <= hi) (h4:hi < 2 ^ 62)
  (q:R (Itr lo (hi - lo).toNat) H):wpAny (model X.prog X.w) X.A (pyIter (.ref s.heap.objs.size)) (PIE X pins σ tg R) E { s with heap:=s.heap.push { cls:=.type "range",data:=.fields #[.int lo t,.int hi u,.int 1 v] },toks:=tk }:=by
 refine wpAny_pyIter_range (IsRange.new ..) (small_one h1 h2 h3 h4) ?_
 have I1:Inv X pins σ H { s with heap:=s.heap.push { cls:=.type "range",data:=.fields #[.int lo t,.int hi u,.int 1 v] },toks:=tk }:=I.kept fun b o e=>Heap.get?_push_of_some _ e
 refine ⟨(s.heap.push { cls:=.type "range",data:=.fields #[.int lo t,.int hi u,.int 1 v] }).objs.size,[(s.heap.push { cls:=.type "range",data:=.fields #[.int lo t,.int hi u,.int 1 v] }).objs.size],_,_,H,rfl,
   I1.kept (t':=tk) fun b o e=>Heap.get?_push_of_some _ e,turn_range _ lo (hi - lo).toNat,?_,fun b hb=>?_,q⟩
 ·have e1:lo + ((0:Nat):Int) * 1 = lo:=by simp
  have e2:(((hi - lo).toNat:Nat):Int) - ((0:Nat):Int) = Builtin.Range.rangeSize lo hi 1:=by rw [rangeSize_one]; split <;> omega
  show IsRangeIter _ _ (lo + ((0:Nat):Int) * 1) ((((hi - lo).toNat:Nat):Int) - ((0:Nat):Int)) 1
  rw [e1,e2]
  exact Heap.get?_push_size _ rfl
 ·have e:b = (s.heap.push { cls:=.type "range",data:=.fields #[.int lo t,.int hi u,.int 1 v] }).objs.size:=by simpa using hb
  subst e
  exact I1.fpOk (Nat.le_refl _) (I1.hok.fresh (Nat.le_refl _))
noncomputable def iRng1 (ta:TA):TI:=fun σ H R=>ta σ H fun vs H1=>∃ j:Int,vs = [.int j] /\ -(2 ^ 62) <= j /\ j < 2 ^ 62 /\ R (Itr 0 j.toNat) H1
theorem pi_range1 {a:Expr} {ta:TA} {p pos:Pos} (hg:Gl X "range") (hm:X.mg "range" = none) (ha:PA X [a] ta) (hs:starEach [a] X.env = [(false,eval a X.env)]:=by rfl):PI X tg (.Call (.Name "range" p) [a] [] pos) (iRng1 ta):=by
 intro pins s σ H R I h
 refine Call_ (ld_blt I hg hm boot_range (PyProof.Rows.callWith_type1 (thn (ha pos pins s σ H _ I h) fun us s1 ⟨vs,H1,I1,r1,q1⟩=>?_) hs rfl))
 obtain ⟨j,e,q1,q2,q⟩:=q1
 subst e
 cases r1 with
 | cons r rr =>
  cases rr
  obtain ⟨t,rfl⟩:=r
  exact call_range_1 (range_it I1 (by omega) (by omega) q1 q2 (by simpa using q))
noncomputable def tFor (wi:TI) (g:TG) (tb:TS):TS:=fun D σ H=>wi σ H fun J H1=>∃ W:Nat -> Nat -> St -> Hp -> Prop,(∃ m,W 0 m σ H1) /\ ∀ i m σ H,W i m σ H ->
 (J.stop i H /\ D.nx σ H) \/ (J.go i H /\ ∃ N:St -> Hp -> Prop,(∀ σ' H',N σ' H' -> ∃ m',m' < m /\ W (i + 1) m' σ' H') /\ ∀ x H',J.yld i H x H' -> g x σ H' fun σ2 H2=>tb { D with nx:=N,ct:=N,bk:=D.nx } σ2 H2)
noncomputable def pinsAt (fp:List Addr) (h:Heap):List (Addr × Obj):=fp.filterMap fun b=>(h.get? b).map fun o=>(b,o)
theorem mem_pinsAt {fp:List Addr} {h:Heap} {b:Addr} {o:Obj} (hb:b ∈ fp) (e:h.get? b = some o):(b,o) ∈ pinsAt fp h:=List.mem_filterMap.mpr ⟨b,hb,by rw [e]; rfl⟩
theorem of_pinsAt {fp:List Addr} {h:Heap} {p:Addr × Obj} (hp:p ∈ pinsAt fp h):p.1 ∈ fp /\ h.get? p.1 = some p.2:=by
 obtain ⟨b,hb,e⟩:=List.mem_filterMap.mp hp
 cases q:h.get? b with
 | none=>rw [q] at e; cases e
 | some o =>
  rw [q] at e
  have e':(b,o) = p:=Option.some.inj e
  subst e'
  exact ⟨hb,q⟩
theorem Inv.pinned {pins:List (Addr × Obj)} {σ:St} {H:Hp} {s:Shared} {fp:List Addr} (I:Inv X pins σ H s) (hf:∀ b ∈ fp,FpOk X pins H b) (ho:∀ b ∈ fp,∃ o,s.heap.get? b = some o /\ ∀ v,o.data ≠ .cell v):Inv X (pins ++ pinsAt fp s.heap) σ H s :=
 I.pins_of fun p hp=>(List.mem_append.mp hp).elim (fun z=>I.pin p (List.mem_append_right _ z)) fun z=>by
  obtain ⟨hb,e⟩:=of_pinsAt z
  obtain ⟨f0,f1,f2,_⟩:=hf p.1 hb
  obtain ⟨o,e',d⟩:=ho p.1 hb
  rw [e] at e'; cases e'
  exact ⟨e,f0,f1,f2,d⟩
theorem Inv.unpinned {pins pl:List (Addr × Obj)} {σ:St} {H:Hp} {s:Shared} (I:Inv X (pins ++ pl) σ H s):Inv X pins σ H s:=I.pins_of fun p hp=>I.pin p (List.mem_append_right _ (List.mem_append_left _ hp))
theorem ps_for {iter:Expr} {body:List Stmt} {wi:TI} {g:TG} {tb:TS} {pos:Pos} (hp:PassesOwn (model X.prog X.w) X.A X.env X.xe) (hc:X.calm = true) (hi:PI X tg iter wi) (hg:PG X tg g) (hb:PSs X body tb)
  (hs:∀ x,foldedSetIterable iter X.env x = pure x:=by intro _; rfl):PS X (.For tg iter body [] pos) (tFor wi g tb):=by
 intro pins s σ H D I h
 refine wpAny_For (thn (hi pins s σ H _ I h) fun v s1 h1=>thn h1 fun itv s2 h2=>?_) hs
 obtain ⟨it,fp,tn,J,H2,e,I2,T,st2,f2,W,⟨m0,w0⟩,turn⟩:=h2
 subst e
 have stat:∀ {H':Hp},(∀ b ∈ fp,H' b = none) -> ∀ b ∈ fp,FpOk X pins H' b:=fun hn b hb=>⟨hn b hb,(f2 b hb).2⟩
 refine codeAny_forLoop_any (fun n s'=>∃ i σ' H',Inv X pins σ' H' s' /\ tn i s'.heap /\ (∀ b ∈ fp,H' b = none) /\ W i n σ' H') ?_ m0 ⟨0,σ,H2,I2,st2,fun b hb=>(f2 b hb).1,w0⟩
 rintro n s3 ⟨i,σ3,H3,I3,st3,fr3,w3⟩
 rcases turn i n σ3 H3 w3 with ⟨stop,qn⟩ | ⟨go,N,hN,step⟩
 ·refine wpAny_passesOwn hp (thn (T.done X rfl rfl rfl hc i pins s3 σ3 H3 X.xe I3 (stat fr3) st3 stop) fun r s4 ⟨hr,I4⟩=>?_)
  subst hr
  exact wpAny_execs_nil ⟨σ3,H3,I4,qn⟩
 ·refine wpAny_passesOwn hp (thn (T.item X rfl rfl rfl hc i pins s3 σ3 H3 X.xe I3 (stat fr3) st3 go) fun r s4 ⟨u,hr,h4⟩=>?_)
  subst hr
  refine wpAny_passesOwn hp (thn h4 fun _ s5 ⟨x,H5,I5,r5,y5,st5,fr5⟩=>?_)
  have I5':=I5.pinned (stat fr5) (T.obj _ _ st5)
  refine wpAny_passesOwn hp (thn (hg _ s5 σ3 H5 x u _ I5' r5 (step x H5 y5)) fun _ s6 ⟨σ6,H6,I6,q6⟩=>?_)
  refine wpAny_passesOwn hp (thn (hb _ s6 σ6 H6 _ I6 q6) fun f s7 q7=>?_)
  have again:∀ {σ7:St} {H7:Hp},Inv X (pins ++ pinsAt fp s5.heap) σ7 H7 s7 -> N σ7 H7 -> ∃ m,m < n /\ ∃ i σ' H',Inv X pins σ' H' s7 /\ tn i s7.heap /\ (∀ b ∈ fp,H' b = none) /\ W i m σ' H':=fun {σ7 H7} I7 n7=>by
   obtain ⟨m',hm,w7⟩:=hN σ7 H7 n7
   refine ⟨m',hm,i + 1,σ7,H7,I7.unpinned,T.keep _ _ _ st5 fun b hb o e=>(I7.pin (b,o) (List.mem_append_right _ (List.mem_append_right _ (mem_pinsAt hb e)))).1,fun b hb=>?_,w7⟩
   obtain ⟨o,e,d⟩:=T.obj _ _ st5 b hb
   exact (I7.pin (b,o) (List.mem_append_right _ (List.mem_append_right _ (mem_pinsAt hb e)))).2.1
  cases f with
  | next=>obtain ⟨σ7,H7,I7,n7⟩:=q7; exact again I7 n7
  | cont=>obtain ⟨σ7,H7,I7,n7⟩:=q7; exact again I7 n7
  | brk=>obtain ⟨σ7,H7,I7,q7⟩:=q7; exact ⟨σ7,H7,I7.unpinned,q7⟩
  | ret v=>obtain ⟨x7,σ7,H7,I7,r7,q7⟩:=q7; exact ⟨x7,σ7,H7,I7.unpinned,r7,q7⟩
end
end L2
namespace L2
open PySem PySem.Spec PyProof.Rows
noncomputable abbrev R2:=V -> V -> Hp -> VK -> Prop
noncomputable def OpR (X:Cx) (f:Value -> Value -> Sem Value) (r:R2):Prop :=
 ∀ (pins:List (Addr × Obj)) (s:Shared) (σ:St) (H:Hp) (x y:V) (v u:Value) (Q:VK),Inv X pins σ H s -> RelV x v -> RelV y u -> r x y H Q ->
  wpAny (model X.prog X.w) X.A (f v u) (EP X pins σ Q) X.xe s
noncomputable def UnR (X:Cx) (f:Value -> Sem Value) (r:V -> Hp -> VK -> Prop):Prop :=
 ∀ (pins:List (Addr × Obj)) (s:Shared) (σ:St) (H:Hp) (x:V) (v:Value) (Q:VK),Inv X pins σ H s -> RelV x v -> r x H Q ->
  wpAny (model X.prog X.w) X.A (f v) (EP X pins σ Q) X.xe s
noncomputable def CallR (X:Cx) (f:Value) (r:List V -> Hp -> VK -> Prop):Prop :=
 ∀ (pins:List (Addr × Obj)) (s:Shared) (σ:St) (H:Hp) (xs:List V) (us:List Value) (Q:VK),Inv X pins σ H s -> Vals xs us -> r xs H Q ->
  wpAny (model X.prog X.w) X.A (call f us) (EP X pins σ Q) X.xe s
noncomputable def tOp (r:R2) (ta tb:TE):TE:=fun σ H Q=>ta σ H fun x H1=>tb σ H1 fun y H2=>r x y H2 Q
noncomputable def tUn (r:V -> Hp -> VK -> Prop) (ta:TE):TE:=fun σ H Q=>ta σ H fun x H1=>r x H1 Q
noncomputable def rI (C:Int -> Int -> Prop) (g:Int -> Int -> V):R2:=fun x y H Q=>∃ i j,x = .int i /\ y = .int j /\ C i j /\ Q (g i j) H
noncomputable def rI0 (g:Int -> Int -> V):R2:=fun x y H Q=>∃ i j,x = .int i /\ y = .int j /\ Q (g i j) H
noncomputable def rU (g:Int -> V):V -> Hp -> VK -> Prop:=fun x H Q=>∃ i,x = .int i /\ Q (g i) H
section
variable {X:Cx} {a b c:Expr} {ta tb tc:TE} {pos:Pos}
theorem binT (ha:PE X a ta) (hb:PE X b tb) {pins:List (Addr × Obj)} {s:Shared} {σ:St} {H:Hp} {R:V -> V -> Hp -> Prop} (I:Inv X pins σ H s)
  (h:ta σ H fun x H1=>tb σ H1 fun y H2=>R x y H2) {Q:Value -> Shared -> Prop} {f:Value -> Value -> Sem Value}
  (hf:∀ v u s2 x y H2,Inv X pins σ H2 s2 -> RelV x v -> RelV y u -> R x y H2 -> wpAny (model X.prog X.w) X.A (f v u) Q X.xe s2) :
  wpAny (model X.prog X.w) X.A (eval a X.env) (fun v s₁=>wpAny (model X.prog X.w) X.A (eval b X.env) (fun u s₂=>wpAny (model X.prog X.w) X.A (f v u) Q X.xe s₂) X.xe s₁) X.xe s:=by
 refine thn (ha pins s σ H _ I h) fun v s1 ⟨x,H1,I1,r1,q1⟩=>?_
 refine thn (hb pins s1 σ H1 _ I1 q1) fun u s2 ⟨y,H2,I2,r2,q2⟩=>?_
 exact hf v u s2 x y H2 I2 r1 r2 q2
theorem pe_op {op:Operator} {r:R2} (ho:OpR X (binaryOp op) r) (ha:PE X a ta) (hb:PE X b tb):PE X (.BinOp a op b pos) (tOp r ta tb):=by
 intro pins s σ H Q I h
 exact wpAny_BinOp (binT ha hb I h fun v u s2 x y H2 I2 rx ry q=>ho pins s2 σ H2 x y v u Q I2 rx ry q)
theorem pe_un {op:UnaryOp} {r:V -> Hp -> VK -> Prop} (ho:UnR X (unaryOp op) r) (ha:PE X a ta):PE X (.UnaryOp op a pos) (tUn r ta):=by
 intro pins s σ H Q I h
 exact UnaryOp_ (thn (ha pins s σ H _ I h) fun v s1 ⟨x,H1,I1,r1,q1⟩=>ho pins s1 σ H1 x v Q I1 r1 q1)
theorem opI {f:Value -> Value -> Sem Value} {C:Int -> Int -> Prop} {g:Int -> Int -> Int}
  (rule:∀ (i j:Int) (t u:Tok) (s:Shared) (Q:Value -> Shared -> Prop) (E:Value -> Shared -> Prop),C i j -> Q (.int (g i j) s.toks) { s with toks:=s.toks + 1 } -> wpAny (model X.prog X.w) X.A (f (.int i t) (.int j u)) Q E s) :
  OpR X f (rI C fun i j=>.int (g i j)):=by
 intro pins s σ H x y v u Q I rx ry h
 obtain ⟨i,j,rfl,rfl,hc,q⟩:=h
 obtain ⟨t,rfl⟩:=rx
 obtain ⟨t',rfl⟩:=ry
 exact rule i j t t' s _ _ hc ⟨.int (g i j),H,I.tok _,⟨_,rfl⟩,q⟩
theorem opI0 {f:Value -> Value -> Sem Value} {g:Int -> Int -> Int}
  (rule:∀ (i j:Int) (t u:Tok) (s:Shared) (Q:Value -> Shared -> Prop) (E:Value -> Shared -> Prop),Q (.int (g i j) s.toks) { s with toks:=s.toks + 1 } -> wpAny (model X.prog X.w) X.A (f (.int i t) (.int j u)) Q E s) :
  OpR X f (rI0 fun i j=>.int (g i j)):=by
 intro pins s σ H x y v u Q I rx ry h
 obtain ⟨i,j,rfl,rfl,q⟩:=h
 obtain ⟨t,rfl⟩:=rx
 obtain ⟨t',rfl⟩:=ry
 exact rule i j t t' s _ _ ⟨.int (g i j),H,I.tok _,⟨_,rfl⟩,q⟩
theorem opB0 {f:Value -> Value -> Sem Value} {g:Int -> Int -> Bool}
  (rule:∀ (i j:Int) (t u:Tok) (s:Shared) (Q:Value -> Shared -> Prop) (E:Value -> Shared -> Prop),Q (.bool (g i j)) s -> wpAny (model X.prog X.w) X.A (f (.int i t) (.int j u)) Q E s) :
  OpR X f (rI0 fun i j=>.bl (g i j)):=by
 intro pins s σ H x y v u Q I rx ry h
 obtain ⟨i,j,rfl,rfl,q⟩:=h
 obtain ⟨t,rfl⟩:=rx
 obtain ⟨t',rfl⟩:=ry
 exact rule i j t t' s _ _ ⟨.bl (g i j),H,I,rfl,q⟩
noncomputable def CDiv (i j:Int):Prop:=0 < j /\ j < 1073741824
noncomputable def CPow (i j:Int):Prop:=0 <= j /\ j <= 1000000 /\ i.natAbs < 2 ^ 64
noncomputable def CMul (i j:Int):Prop:=(-(2 ^ 64) < i /\ i < 2 ^ 64) \/ (-(2 ^ 64) < j /\ j < 2 ^ 64)
theorem CMul.ok {i j:Int} (h:CMul i j):IntMulOk i j:=by
 rcases h with ⟨h1,h2⟩ | ⟨h1,h2⟩
 ·exact .of_left (intBits_le_64 h1 h2)
 ·exact .of_right (intBits_le_64 h1 h2)
theorem op_add:OpR X (binaryOp .Add) (rI0 fun i j=>.int (i + j)):=opI0 fun _ _ _ _ _ _ _ q=>add_int q
theorem op_sub:OpR X (binaryOp .Sub) (rI0 fun i j=>.int (i - j)):=opI0 fun _ _ _ _ _ _ _ q=>sub_int q
theorem op_mul:OpR X (binaryOp .Mult) (rI CMul fun i j=>.int (i * j)):=opI fun _ _ _ _ _ _ _ hc q=>mul_int q hc.ok
theorem op_fdiv:OpR X (binaryOp .FloorDiv) (rI CDiv fun i j=>.int (i / j)):=opI fun i j _ _ _ _ _ hc q=>by
 have h1:(0:Int) < j:=hc.1
 have h2:j < 1073741824:=hc.2
 exact floordiv_int (by omega) (by rw [Int.fdiv_eq_ediv_of_nonneg i (by omega)]; exact q) (.inl (PyProof.noPylong_small (by omega)))
theorem op_mod:OpR X (binaryOp .Mod) (rI (fun _ j=>0 < j) fun i j=>.int (i % j)):=opI fun i j _ _ _ _ _ hc q=>by
 have h1:(0:Int) < j:=hc
 exact mod_int' (by omega) (by rw [Int.fmod_eq_emod_of_nonneg i (by omega)]; exact q)
theorem op_pow:OpR X (binaryOp .Pow) (rI CPow fun i j=>.int (i ^ j.toNat)):=opI fun _ _ _ _ _ _ _ hc q=>pow_int_small hc.1 hc.2.1 hc.2.2 q
theorem unI {f:Value -> Sem Value} {g:Int -> Int}
  (rule:∀ (i:Int) (t:Tok) (s:Shared) (Q:Value -> Shared -> Prop) (E:Value -> Shared -> Prop),Q (.int (g i) s.toks) { s with toks:=s.toks + 1 } -> wpAny (model X.prog X.w) X.A (f (.int i t)) Q E s) :
  UnR X f (rU fun i=>.int (g i)):=by
 intro pins s σ H x v Q I rx h
 obtain ⟨i,rfl,q⟩:=h
 obtain ⟨t,rfl⟩:=rx
 exact rule i t s _ _ ⟨.int (g i),H,I.tok _,⟨_,rfl⟩,q⟩
theorem un_neg:UnR X (unaryOp .USub) (rU fun i=>.int (-i)):=unI fun _ _ _ _ _ q=>neg_int q
end
noncomputable def scal:V -> V -> Bool
 | .non,.non=>true | .non,.int _=>true | .int _,.non=>true | .non,.bl _=>true | .bl _,.non=>true | .non,.str _=>true | .str _,.non=>true
 | .int _,.int _=>true | .bl _,.bl _=>true | .str _,.str _=>true | .byt _,.byt _=>true
 | .int _,.str _=>true | .str _,.int _=>true | .bl _,.str _=>true | .str _,.bl _=>true
 | _,_=>false
noncomputable def rEq:R2:=fun x y H Q=>scal x y = true /\ Q (.bl (decide (x = y))) H
noncomputable def rNe:R2:=fun x y H Q=>scal x y = true /\ Q (.bl (!decide (x = y))) H
theorem dec_int {i j:Int}:decide (V.int i = V.int j) = (i == j):=by
 rw [Bool.eq_iff_iff]
 simp
theorem dec_bl {i j:Bool}:decide (V.bl i = V.bl j) = (i == j):=by
 rw [Bool.eq_iff_iff]
 simp
theorem dec_str {i j:Str}:decide (V.str i = V.str j) = (i == j):=by
 rw [Bool.eq_iff_iff]
 simp
theorem dec_byt {i j:Array UInt8}:decide (V.byt i = V.byt j) = (i.toList == j.toList):=by
 rw [Bool.eq_iff_iff]
 cases i
 cases j
 simp
section
variable {X:Cx} {a b c:Expr} {ta tb tc:TE} {pos:Pos}
theorem fin_bl {pins:List (Addr × Obj)} {σ:St} {H:Hp} {s:Shared} {Q:VK} {k k':Bool} (I:Inv X pins σ H s) (q:Q (.bl k) H) (e:k = k'):EP X pins σ Q (.bool k') s:=by
 subst e
 exact ⟨.bl k,H,I,rfl,q⟩
theorem op_eq:OpR X (compareOp .Eq) rEq:=by
 intro pins s σ H x y v u Q I rx ry h
 obtain ⟨hs,q⟩:=h
 cases x with
 | non =>
  cases rx
  cases y with
  | non=>cases ry; exact PySem.EqNone.eq_none_none (fin_bl I q (by simp))
  | bl j=>cases ry; exact PySem.EqNone.eq_none_bool (fin_bl I q (by simp))
  | int j=>obtain ⟨t',rfl⟩:=ry; exact PySem.EqNone.eq_none_int (fin_bl I q (by simp))
  | str j=>obtain ⟨t',rfl⟩:=ry; exact PySem.EqNone.eq_none_str (fin_bl I q (by simp))
  | _=>exact absurd (show false = true from hs) Bool.false_ne_true
 | bl i =>
  cases rx
  cases y with
  | non=>cases ry; exact PySem.EqNone.eq_bool_none (fin_bl I q (by simp))
  | bl j=>cases ry; exact eq_bool (fin_bl I q dec_bl)
  | str j=>obtain ⟨t',rfl⟩:=ry; exact PySem.EqMixed.eq_bool_str (fin_bl I q (by simp))
  | _=>exact absurd (show false = true from hs) Bool.false_ne_true
 | int i =>
  obtain ⟨t,rfl⟩:=rx
  cases y with
  | non=>cases ry; exact PySem.EqNone.eq_int_none (fin_bl I q (by simp))
  | int j=>obtain ⟨t',rfl⟩:=ry; exact eq_int (fin_bl I q dec_int)
  | str j=>obtain ⟨t',rfl⟩:=ry; exact PySem.EqMixed.eq_int_str (fin_bl I q (by simp))
  | _=>exact absurd (show false = true from hs) Bool.false_ne_true
 | str i =>
  obtain ⟨t,rfl⟩:=rx
  cases y with
  | non=>cases ry; exact PySem.EqNone.eq_str_none (fin_bl I q (by simp))
  | bl j=>cases ry; exact PySem.EqMixed.eq_str_bool (fin_bl I q (by simp))
  | int j=>obtain ⟨t',rfl⟩:=ry; exact PySem.EqMixed.eq_str_int (fin_bl I q (by simp))
  | str j=>obtain ⟨t',rfl⟩:=ry; exact eq_str (fin_bl I q dec_str)
  | _=>exact absurd (show false = true from hs) Bool.false_ne_true
 | byt i =>
  obtain ⟨t,rfl⟩:=rx
  cases y with
  | byt j=>obtain ⟨t',rfl⟩:=ry; exact PySem.W.eq_bytes (fin_bl I q dec_byt)
  | _=>exact absurd (show false = true from hs) Bool.false_ne_true
 | _=>cases y <;> exact absurd (show false = true from hs) Bool.false_ne_true
theorem op_ne:OpR X (compareOp .NotEq) rNe:=by
 intro pins s σ H x y v u Q I rx ry h
 obtain ⟨hs,q⟩:=h
 cases x with
 | non =>
  cases rx
  cases y with
  | non=>cases ry; exact PySem.EqNone.ne_none_none (fin_bl I q (by simp))
  | bl j=>cases ry; exact PySem.EqNone.ne_none_bool (fin_bl I q (by simp))
  | int j=>obtain ⟨t',rfl⟩:=ry; exact PySem.EqNone.ne_none_int (fin_bl I q (by simp))
  | str j=>obtain ⟨t',rfl⟩:=ry; exact PySem.EqNone.ne_none_str (fin_bl I q (by simp))
  | _=>exact absurd (show false = true from hs) Bool.false_ne_true
 | bl i =>
  cases rx
  cases y with
  | non=>cases ry; exact PySem.EqNone.ne_bool_none (fin_bl I q (by simp))
  | bl j=>cases ry; exact ne_bool (fin_bl I q (congrArg not dec_bl))
  | str j=>obtain ⟨t',rfl⟩:=ry; exact PySem.EqMixed.ne_bool_str (fin_bl I q (by simp))
  | _=>exact absurd (show false = true from hs) Bool.false_ne_true
 | int i =>
  obtain ⟨t,rfl⟩:=rx
  cases y with
  | non=>cases ry; exact PySem.EqNone.ne_int_none (fin_bl I q (by simp))
  | int j=>obtain ⟨t',rfl⟩:=ry; exact ne_int (fin_bl I q (congrArg not dec_int))
  | str j=>obtain ⟨t',rfl⟩:=ry; exact PySem.EqMixed.ne_int_str (fin_bl I q (by simp))
  | _=>exact absurd (show false = true from hs) Bool.false_ne_true
 | str i =>
  obtain ⟨t,rfl⟩:=rx
  cases y with
  | non=>cases ry; exact PySem.EqNone.ne_str_none (fin_bl I q (by simp))
  | bl j=>cases ry; exact PySem.EqMixed.ne_str_bool (fin_bl I q (by simp))
  | int j=>obtain ⟨t',rfl⟩:=ry; exact PySem.EqMixed.ne_str_int (fin_bl I q (by simp))
  | str j=>obtain ⟨t',rfl⟩:=ry; exact ne_str (fin_bl I q (congrArg not dec_str))
  | _=>exact absurd (show false = true from hs) Bool.false_ne_true
 | byt i =>
  obtain ⟨t,rfl⟩:=rx
  cases y with
  | byt j=>obtain ⟨t',rfl⟩:=ry; exact PySem.W.ne_bytes (fin_bl I q (congrArg not dec_byt))
  | _=>exact absurd (show false = true from hs) Bool.false_ne_true
 | _=>cases y <;> exact absurd (show false = true from hs) Bool.false_ne_true
theorem op_lt:OpR X (compareOp .Lt) (rI0 fun i j=>.bl (decide (i < j))):=opB0 fun _ _ _ _ _ _ _ q=>lt_int q
theorem op_le:OpR X (compareOp .LtE) (rI0 fun i j=>.bl (decide (i <= j))):=opB0 fun _ _ _ _ _ _ _ q=>le_int q
theorem op_gt:OpR X (compareOp .Gt) (rI0 fun i j=>.bl (decide (j < i))):=opB0 fun _ _ _ _ _ _ _ q=>gt_int q
theorem op_ge:OpR X (compareOp .GtE) (rI0 fun i j=>.bl (decide (j <= i))):=opB0 fun _ _ _ _ _ _ _ q=>ge_int q
theorem op_isN:OpR X (compareOp .Is) (fun x y H Q=>y = .non /\ Q (.bl (decide (x = .non))) H):=by
 intro pins s σ H x y v u Q I rx ry h
 obtain ⟨rfl,q⟩:=h
 cases ry
 refine is_none_gen (fin_bl I q ?_)
 cases x <;> first
  | (cases rx; rfl)
  | (obtain ⟨t,rfl⟩:=rx; rfl)
theorem OpR.or {f:Value -> Value -> Sem Value} {r r':R2} (h:OpR X f r) (h':OpR X f r'):OpR X f (fun x y H Q=>r x y H Q \/ r' x y H Q):=by
 intro pins s σ H x y v u Q I rx ry q
 rcases q with q | q
 ·exact h pins s σ H x y v u Q I rx ry q
 ·exact h' pins s σ H x y v u Q I rx ry q
theorem nomark (b:Expr) {op:CmpOp} (h:op ≠ .In:=by decide) (h2:op ≠ .NotIn:=by decide):behindInMarks op b = false:=by
 have e1:(op == CmpOp.In) = false:=by cases op <;> first | rfl | exact absurd rfl h
 have e2:(op == CmpOp.NotIn) = false:=by cases op <;> first | rfl | exact absurd rfl h2
 cases b <;> simp [behindInMarks,e1,e2]
theorem pe_cmpR {op:CmpOp} {r:R2} (ho:OpR X (compareOp op) r) (ha:PE X a ta) (hb:PE X b tb) (hm:behindInMarks op b = false):PE X (.Compare a [op] [b] pos) (tOp r ta tb):=by
 intro pins s σ H Q I h
 exact wpAny_Compare1 (binT ha hb I h fun v u s2 x y H2 I2 rx ry q=>ho pins s2 σ H2 x y v u Q I2 rx ry q) hm
noncomputable def tTest (t:TE):TT:=fun σ H Q=>t σ H fun x H'=>∃ k,x = .bl k /\ Q k H'
theorem pt_cmpR {op:CmpOp} {r:R2} (ho:OpR X (compareOp op) r) (ha:PE X a ta) (hb:PE X b tb) (hm:behindInMarks op b = false):PT X (.Compare a [op] [b] pos) (tTest (tOp r ta tb)):=by
 intro pins s σ H Q I h
 refine wpAny_isTrue_Compare1 (thn (ha pins s σ H _ I h) fun v s1 ⟨x,H1,I1,r1,q1⟩=>thn (hb pins s1 σ H1 _ I1 q1) fun u s2 ⟨y,H2,I2,r2,q2⟩ =>
   thn (ho pins s2 σ H2 x y v u _ I2 r1 r2 q2) fun c s3 ⟨z,H3,I3,r3,k,e,q3⟩=>?_) hm
 subst e
 cases r3
 exact wpAny_truthy_bool ⟨H3,I3,q3⟩
noncomputable def tChain (r r':R2) (ta tb tc:TE):TE:=fun σ H Q=>ta σ H fun x H1=>tb σ H1 fun y H2=>r x y H2 fun z H3=>∃ k,z = .bl k /\
 (if k = true then tc σ H3 fun w' H4=>r' y w' H4 Q else Q (.bl false) H3)
theorem pt_chain {op op':CmpOp} {r r':R2} (ho:OpR X (compareOp op) r) (ho':OpR X (compareOp op') r') (ha:PE X a ta) (hb:PE X b tb) (hc:PE X c tc)
  (hm:lastMarks [op,op'] [b,c] = false:=by with_unfolding_all rfl):PT X (.Compare a [op,op'] [b,c] pos) (tTest (tChain r r' ta tb tc)):=by
 intro pins s σ H Q I h
 refine isTrue_chain (thn (ha pins s σ H _ I h) fun v s1 ⟨x,H1,I1,r1,q1⟩=>test_link (thn (hb pins s1 σ H1 _ I1 q1) fun u s2 ⟨y,H2,I2,r2,q2⟩ =>
   thn (ho pins s2 σ H2 x y v u _ I2 r1 r2 q2) fun d s3 ⟨z,H3,I3,r3,k,e,q3⟩=>?_)) hm
 subst e
 cases r3
 refine wpAny_truthy_bool ?_
 cases k with
 | false =>
  obtain ⟨k',e',q'⟩:=q3
  cases e'
  exact ite_ff ⟨H3,I3,q'⟩
 | true =>
  refine ite_tt (test_last (thn (hc pins s3 σ H3 _ I3 q3) fun w' s4 ⟨z',H4,I4,r4,q4⟩=>thn (ho' pins s4 σ H4 y z' u w' _ I4 r2 r4 q4) fun d' s5 ⟨z2,H5,I5,r5,k2,e2,q5⟩=>?_))
  subst e2
  cases r5
  exact wpAny_truthy_bool ⟨H5,I5,q5⟩
theorem line63:(sizeLine:Nat) < 2 ^ 63:=by rw [sizeLine_eq]; decide
theorem vals1 {x:V} {us:List Value} (r:Vals [x] us):∃ u,us = [u] /\ RelV x u:=by
 cases r with
 | cons r1 r2=>cases r2; exact ⟨_,rfl,r1⟩
theorem vals2 {x y:V} {us:List Value} (r:Vals [x,y] us):∃ u w',us = [u,w'] /\ RelV x u /\ RelV y w':=by
 cases r with
 | cons r1 r2 =>
  cases r2 with
  | cons r3 r4=>cases r4; exact ⟨_,_,rfl,r1,r3⟩
theorem call_max2 (hc:X.calm = true):CallR X (.builtin "max") (fun xs H Q=>∃ i j,xs = [.int i,.int j] /\ Q (.int (if j > i then j else i)) H):=by
 intro pins s σ H xs us Q I r h
 obtain ⟨i,j,rfl,q⟩:=h
 obtain ⟨u,w',rfl,⟨t,rfl⟩,⟨t',rfl⟩⟩:=vals2 r
 refine max_two_ints (I.ok.hd hc) fun h' tk k=>⟨_,H,I.kept k,?_,q⟩
 by_cases hj:j > i
 ·rw [if_pos hj,if_pos hj]; exact ⟨_,rfl⟩
 ·rw [if_neg hj,if_neg hj]; exact ⟨_,rfl⟩
theorem call_min2 (hc:X.calm = true):CallR X (.builtin "min") (fun xs H Q=>∃ i j,xs = [.int i,.int j] /\ Q (.int (if j < i then j else i)) H):=by
 intro pins s σ H xs us Q I r h
 obtain ⟨i,j,rfl,q⟩:=h
 obtain ⟨u,w',rfl,⟨t,rfl⟩,⟨t',rfl⟩⟩:=vals2 r
 refine min_two_ints (I.ok.hd hc) fun h' tk k=>⟨_,H,I.kept k,?_,q⟩
 by_cases hj:j < i
 ·rw [if_pos hj,if_pos hj]; exact ⟨_,rfl⟩
 ·rw [if_neg hj,if_neg hj]; exact ⟨_,rfl⟩
theorem call_int1:CallR X (.type "int") (fun xs H Q=>(∃ i,xs = [.int i] /\ Q (.int i) H) \/ ∃ k,xs = [.bl k] /\ Q (.int (if k then 1 else 0)) H):=by
 intro pins s σ H xs us Q I r h
 rcases h with ⟨i,rfl,q⟩ | ⟨k,rfl,q⟩
 ·obtain ⟨u,rfl,t,rfl⟩:=vals1 r
  exact call_int_int ⟨.int i,H,I,⟨_,rfl⟩,q⟩
 ·obtain ⟨u,rfl,r1⟩:=vals1 r
  cases r1
  exact call_int_bool ⟨.int (if k then 1 else 0),H,I.tok _,⟨_,rfl⟩,q⟩
end
end L2
namespace L2
open PySem PySem.Spec PyProof.Rows
structure ObjM (h:Heap) (x dx C:Addr) (mA:Str -> Option Value):Prop where
 obj:h.get? x = some (PySem.W.instObj C dx)
 ns:h.Ns1 dx mA
 ne:dx ≠ x
section
variable {prog:Program} {w:World} {A:Around} {E:Value -> Shared -> Prop} {s:Shared} {K:PySem.W.Frag} {x dx C f:Addr} {mA:Str -> Option Value} {name:Str} {v:Value}
end
theorem RelO.some_of {v:V} {o:Option Value} (r:RelO (some v) o):∃ u,o = some u /\ RelV v u:=by
 cases o with
 | none=>exact (show False from r).elim
 | some u=>exact ⟨u,rfl,r⟩
section
variable {P:Program} {w:World} {H H':Hp} {h h':Heap} {a C dx:Addr} {fs fs':List (Str × V)}
end
structure Cls (K:PySem.W.Frag) (C:Addr):Prop where
 pg:PySem.W.plainGet K C Str.empty = true
 hd:PySem.W.hasDictIn K C = true
 po:PySem.W.plainOver K C = true
 sa:PySem.W.findIn K (.ref C) "__setattr__" = some (some (.builtin "object.__setattr__"))
structure Con (K:PySem.W.Frag) (C:Addr) (f:Str) (v:V) (u:Value):Prop where
 at_:PySem.W.findIn K (.ref C) f = some (some u)
 rel:RelV v u
 get:PySem.W.specialIn K u "__get__" = some none
 cp:PySem.W.copiedNames.contains f = false
structure Meth (K:PySem.W.Frag) (C:Addr) (m:Str) (f:Addr):Prop where
 at_:PySem.W.findIn K (.ref C) m = some (some (.ref f))
 fn:PySem.W.isFn K (.ref f) = true
 kp:PySem.W.keepIn K (.ref f) = true
section
variable {X:Cx} {pins:List (Addr × Obj)} {σ:St} {H:Hp} {s:Shared} {a C dx:Addr} {fs:List (Str × V)} {f:Str} {v:V} {A:Around} {E:Value -> Shared -> Prop}
end
section
variable {X:Cx} {o e value:Expr} {f:Str} {pos pos' tpos:Pos} {ta tv:TE}
end
section
variable {X:Cx} {pins:List (Addr × Obj)} {σ:St} {H:Hp} {s:Shared} {A:Around} {E:Value -> Shared -> Prop} {Q:Value -> Shared -> Prop} {c:Value} {b:Bool}
inductive TyOf (K:PySem.W.Frag) (H:Hp):V -> Value -> Prop where
 | non:TyOf K H .non (.type "NoneType")
 | bl (x:Bool):TyOf K H (.bl x) (.type "bool")
 | int (i:Int):TyOf K H (.int i) (.type "int")
 | str (x:Str):TyOf K H (.str x) (.type "str")
 | flt (x:UInt64):TyOf K H (.flt x) (.type "float")
 | lst {a:Addr} {xs:List V} (e:H a = some (.lst xs)):TyOf K H (.ref a) (.type "list")
 | frz {a:Addr} {o:Obj} {xs:List V} (e:H a = some (.frz o (.lst xs))):TyOf K H (.ref a) (.type "list")
 | tup {a:Addr} {xs:List V} (e:H a = some (.tup xs)):TyOf K H (.ref a) (.type "tuple")
 | dK {a:Addr} {kvs:List (Key × V)} (e:H a = some (.dK kvs)):TyOf K H (.ref a) (.type "dict")
 | dT {a:Addr} {kvs:List (List Key × V)} (e:H a = some (.dT kvs)):TyOf K H (.ref a) (.type "dict")
 | ins {a C dx:Addr} {fs:List (Str × V)} (e:H a = some (.ins C dx fs)) (cl:Cls K C) (ha:PySem.W.findIn K (.ref C) "__class__" = some (some (.builtin "object.__class__")))
   (hn:PySem.W.specialIn K (.builtin "object.__class__") "__get__" = some (some (.builtin "getset_descriptor.__get__"))) (htk:PySem.W.takesIn K (.builtin "object.__class__") = some true)
   (hm:PySem.W.mroIn K C (.type "object") = some true):TyOf K H (.ref a) (.ref C)
end
end L2
namespace L2
open PySem PySem.Spec PyProof.Rows
structure Room (k:Nat) (A:Around):Prop where
 hd:A.handled = none
 dp:A.depth + 3 * k + 5 < recursionLimit
 un:A.units + 16 * k + 200 < cLine
 gd:A.guards = some []
theorem Room.mono {j k:Nat} {A:Around} (r:Room k A) (h:j <= k):Room j A:=⟨r.hd,by have:=r.dp; omega,by have:=r.un; omega,r.gd⟩
theorem Room.deeper {k:Nat} {A:Around} (r:Room (k + 1) A) (env:Env):Room k (A.deeper env) :=
 ⟨r.hd,by have:=r.dp; show A.depth + 1 + 3 * k + 5 < _; omega,by have:=r.un; show A.units + 3 + 16 * k + 200 < _; omega,r.gd⟩
theorem Room.depth {k:Nat} {A:Around} (r:Room k A):A.depth < recursionLimit:=by have:=r.dp; omega
theorem Room.units {k:Nat} {A:Around} (r:Room k A):A.units + 64 < cLine:=by have:=r.un; omega
noncomputable def tNil:TA:=fun _ H Q=>Q [] H
noncomputable def tCons (ta:TE) (tr:TA):TA:=fun σ H Q=>ta σ H fun x H1=>tr σ H1 fun xs H2=>Q (x :: xs) H2
section
variable {X:Cx} {e:Expr} {es:List Expr} {te:TE} {t:TA} {pos:Pos}
theorem pa_nil:PA X [] tNil:=fun _ _ _ _ H Q I h=>Calls.spliced_nil ⟨[],H,I,.nil,h⟩
theorem pa_cons (ha:PE X e te) (hr:PA X es t) (hs:starEach (e :: es) X.env = (false,eval e X.env) :: starEach es X.env:=by rfl):PA X (e :: es) (tCons te t):=by
 intro pos pins s σ H Q I h
 rw [hs]
 show wpAny _ _ (spliced ((false,eval e X.env) :: backTo pos (starEach es X.env))) _ _ s
 refine Calls.spliced_cons (thn (ha pins s σ H _ I h) fun u s1 ⟨x,H1,I1,r1,q1⟩=>?_)
 exact thn (hr pos pins s1 σ H1 _ I1 q1) fun us s2 ⟨xs,H2,I2,r2,q2⟩=>⟨x :: xs,H2,I2,.cons r1 r2,q2⟩
noncomputable def tTup (t:TA):TE:=fun σ H Q=>t σ H fun xs H1=>xs.length <= sizeLine /\ ∀ p,H1 p = none -> Q (.ref p) (upd H1 p (.tup xs))
noncomputable def tLst (t:TA):TE:=fun σ H Q=>t σ H fun xs H1=>xs.length <= sizeLine /\ ∀ p,H1 p = none -> Q (.ref p) (upd H1 p (.lst xs))
theorem pe_tup {x1} (h:PA X es t):PE X (.Tuple es x1 pos) (tTup t):=by
 intro pins s σ H Q I hq
 refine wpAny_Tuple_spliced (thn (h pos pins s σ H _ I hq) fun us s1 ⟨xs,H1,I1,r,z,q⟩=>⟨by rw [<- r.length]; exact z,?_⟩)
 have hf:H1 s1.heap.objs.size = none:=I1.hok.fresh (Nat.le_refl _)
 refine ⟨.ref s1.heap.objs.size,upd H1 s1.heap.objs.size (.tup xs),I1.laid (t':=s1.toks) (fun b u e=>Heap.get?_push_of_some _ e) (Nat.le_refl _) ?_,rfl,q _ hf⟩
 exact ⟨z,us,r,⟨_,Heap.get?_push_size _ rfl,rfl,_,rfl,rfl⟩⟩
theorem pe_lst (h:PA X es t):PE X (.List es pos) (tLst t):=by
 intro pins s σ H Q I hq
 refine wpAny_List_spliced (thn (h pos pins s σ H _ I hq) fun us s1 ⟨xs,H1,I1,r,z,q⟩=>⟨by rw [<- r.length]; exact z,?_⟩)
 have hf:H1 s1.heap.objs.size = none:=I1.hok.fresh (Nat.le_refl _)
 refine ⟨.ref s1.heap.objs.size,upd H1 s1.heap.objs.size (.lst xs),I1.laid (t':=s1.toks) (fun b u e=>Heap.get?_push_of_some _ e) (Nat.le_refl _) ?_,rfl,q _ hf⟩
 exact ⟨z,us,0,r,Heap.get?_push_size _ rfl⟩
end
noncomputable abbrev Sp:=List V -> Hp -> VK -> XK -> Prop
noncomputable abbrev CXT:=List Env -> Hp -> Shared -> XK -> Value -> Shared -> Prop
structure Env0 (P:Program) (w:World) (K:PySem.W.Frag) (mg:Str -> Option Value) (base:Heap) (A:Around) (outer:List Env) (s:Shared) (H:Hp):Prop where
 frames:A.frames = some outer
 mod:Mod K mg base
 bs:∀ b o,base.get? b = some o -> s.heap.get? b = some o /\ H b = none
 bsz:base.objs.size <= s.heap.objs.size
 funs:s.heap.FunFrames base outer
 frf:∀ b ∈ frs outer,H b = none
 hok:HOk P w H s.heap
 bare:AllBare s.gens
noncomputable def CE (outer:List Env) (P:Program) (w:World) (H:Hp) (s:Shared) (Q:VK) (u:Value) (s':Shared):Prop :=
 ∃ v H',s'.os = s.os /\ AllBare s'.gens /\ Un (frs outer) [] H H' s.heap s'.heap /\ HOk P w H' s'.heap /\ RelV v u /\ Q v H'
noncomputable def CR (CX:CXT) (outer:List Env) (P:Program) (w:World) (H:Hp) (s:Shared) (Q:VK) (E:XK) (r:Result) (s':Shared):Prop :=
 match r with
 | .ok (.ret u)=>CE outer P w H s Q u s'
 | .ok _=>False
 | .error e=>CX outer H s E e s'
structure FnOk (P:Program) (w:World) (K:PySem.W.Frag) (mg:Str -> Option Value) (base:Heap) (CX:CXT) (k:Nat) (f:Addr) (fd:FuncData) (ps:List Str) (sp:Sp):Prop where
 len:∀ vs H Q E,sp vs H Q E -> vs.length = ps.length
 run:∀ (A:Around) (outer:List Env) (s:Shared) (H:Hp) (args:Args) (us:List Value) (vs:List V) (Q:VK) (E:XK),Room k A -> Env0 P w K mg base A outer s H -> BindsTo s fd args (ps.zip us) -> Vals vs us -> sp vs H Q E ->
  codeAny (model P w) A (.call (.ref f) args) (CR CX outer P w H s Q E) s
section
variable {X:Cx} {pins:List (Addr × Obj)} {σ:St} {H:Hp} {s s':Shared}
theorem Inv.env0 (I:Inv X pins σ H s):Env0 X.prog X.w X.K X.mg X.base X.A X.stack s H :=
 ⟨I.ok.frames,I.ok.mod,I.bs,Nat.le_trans I.ok.bsz I.sz,I.stack,I.stkFree,I.hok,I.bare⟩
theorem Inv.after {Q:VK} {u:Value} (I:Inv X pins σ H s) (h:CE X.stack X.prog X.w H s Q u s'):EP X pins σ Q u s':=by
 obtain ⟨v,H',os,bare,un,hok,r,q⟩:=h
 obtain ⟨hh,g,d,t,os'⟩:=s'
 obtain rfl:os' = s.os:=os
 exact ⟨v,H',I.call (h':=hh) (g':=g) (d':=d) (t':=t) (ch:=[]) un hok bare (fun b z=>absurd z (by simp)),r,q⟩
end
noncomputable def tCall (sp:Sp) (dvs:List V) (E:XK) (t:TA):TE:=fun σ H Q=>t σ H fun vs H1=>sp (vs ++ dvs) H1 Q E
noncomputable def Binds (K:PySem.W.Frag) (fd:FuncData) (ps:List Str) (ds:List Value):Prop :=
 ∀ (s:Shared) (us:List Value),K.In s.heap -> (us ++ ds).length = ps.length -> BindsTo s fd ⟨us,[]⟩ (ps.zip (us ++ ds))
theorem Binds.all {K:PySem.W.Frag} {fd:FuncData} {ps:List Str} (h:∀ us:List Value,us.length = ps.length -> bindArgs fd ⟨us,[]⟩ = pure (ps.zip us)):Binds K fd ps []:=fun s us _ hl=>by
 rw [List.append_nil] at hl ⊢
 exact .of_eq (h us hl)
noncomputable def Passes (CX:CXT) (X:Cx) (E:XK):Prop:=∀ (pins:List (Addr × Obj)) (σ:St) (H:Hp) (s:Shared) (e:Value) (s':Shared),Inv X pins σ H s -> CX X.stack H s E e s' -> X.xe e s'
section
variable {X:Cx} {CX:CXT} {k:Nat} {f C:Addr} {fd:FuncData} {ps:List Str} {sp:Sp} {dvs:List V} {ds:List Value} {E:XK} {x m:Str} {p pos apos:Pos} {e o:Expr} {es:List Expr} {ta:TE} {t:TA}
theorem run_fn {pins:List (Addr × Obj)} {σ:St} {H:Hp} {s:Shared} {Q:VK} {us:List Value} {vs:List V} (F:FnOk X.prog X.w X.K X.mg X.base CX k f fd ps sp) (hr:Room k X.A) (hb:Binds X.K fd ps ds) (hd:Vals dvs ds) (hx:Passes CX X E)
  (I:Inv X pins σ H s) (r:Vals vs us) (h:sp (vs ++ dvs) H Q E):wpAny (model X.prog X.w) X.A (call (.ref f) us) (EP X pins σ Q) X.xe s:=by
 have r2:Vals (vs ++ dvs) (us ++ ds):=r.append hd
 have hl:(us ++ ds).length = ps.length:=by rw [<- r2.length]; exact F.len _ _ _ _ h
 refine wpAny_call (codeAny_mono (F.run X.A X.stack s H ⟨us,[]⟩ (us ++ ds) (vs ++ dvs) Q E hr I.env0 (hb s us I.kIn hl) r2 h) fun r s' hq=>?_)
 cases r with
 | error e=>exact hx pins σ H s e s' I hq
 | ok fl =>
  cases fl with
  | ret u=>exact I.after hq
  | next=>exact False.elim hq
  | brk=>exact False.elim hq
  | cont=>exact False.elim hq
theorem pe_call (F:FnOk X.prog X.w X.K X.mg X.base CX k f fd ps sp) (hr:Room k X.A) (hg:Gl X x) (hm:X.mg x = some (.ref f)) (hk:PySem.W.keepIn X.K (.ref f) = true) (hb:Binds X.K fd ps ds) (hd:Vals dvs ds) (hx:Passes CX X E)
  (ha:PA X (e :: es) t) (hdb:(x == ("__debug__":Str)) = false:=by decide) (he:starEach (e :: es) X.env = (false,eval e X.env) :: starEach es X.env:=by rfl) (hpl:(backTo pos (starEach es X.env)).any (·.1) = false:=by rfl) :
  PE X (.Call (.Name x p) (e :: es) [] pos) (tCall sp dvs E t):=by
 intro pins s σ H Q I h
 refine wpAny_Call_Name_kw (ld_glob I hg hm ?_ hdb)
 refine PySem.W.callWith_K (h₀:=X.base) I.ok.mod.kin hk (thn (ha pos pins s σ H _ I h) fun us s1 ⟨vs,H1,I1,r,q⟩=>⟨I1.kIn,?_⟩) he hpl
 exact run_fn F hr hb hd hx I1 r q
structure Mk (K:PySem.W.Frag) (C f:Addr):Prop where
 makes:PySem.W.makesIn K C = true
 init:PySem.W.findIn K (.ref C) "__init__" = some (some (.ref f))
 fn:PySem.W.isFn K (.ref f) = true
 kp:PySem.W.keepIn K (.ref C) = true
end
section
variable {X:Cx} {CX:CXT} {k:Nat} {f C:Addr} {fd:FuncData} {ps ks:List Str} {sp:Sp} {E:XK} {x m:Str} {p pos apos kpos:Pos} {e o:Expr} {es:List Expr} {kws:List Keyword} {te ta:TE} {t tk:TA} {nm:Option Str}
structure KBinds (K:PySem.W.Frag) (fd:FuncData) (ps ks:List Str) (g:List Value -> List Value -> List Value) (gV:List V -> List V -> List V):Prop where
 to:∀ (s:Shared) (us ws:List Value),K.In s.heap -> (g us ws).length = ps.length -> BindsTo s fd ⟨us,ks.zip ws⟩ (ps.zip (g us ws))
 rel:∀ {vs:List V} {us:List Value} {zs:List V} {ws:List Value},Vals vs us -> Vals zs ws -> Vals (gV vs zs) (g us ws)
variable {g:List Value -> List Value -> List Value} {gV:List V -> List V -> List V}
end
structure FnScope (N P:List Str) (sc:Scope):Prop where
 kind:sc.kind = .function
 co:sc.isCoroutine = false
 gen:sc.isGenerator = false
 nd:N.Nodup
 pre:N.take P.length = P
 par:∀ x ∈ P,sc.names.lookup x = some .local \/ sc.names.lookup x = some .cell
 nofree:∀ y ∈ sc.names,y.2 ≠ .free
theorem bindL_out {kindOf:Str -> Option NameKind} {x:Str}:∀ {binds:List (Str × Value)} {m:Str -> Option Value},(∀ v,(x,v) ∉ binds) -> bindL kindOf binds m x = m x
 | [],_,_=>rfl
 | (n,v) :: r,m,h=>by
  unfold bindL
  rw [bindL_out fun w hw=>h w (List.mem_cons_of_mem _ hw)]
  split
  ·have:x ≠ n:=by rintro rfl; exact h v List.mem_cons_self
   simp [this]
  ·rfl
theorem bindC_out {kindOf:Str -> Option NameKind} {x:Str}:∀ {binds:List (Str × Value)} {m:Str -> Option Value},(∀ v,(x,v) ∉ binds) -> bindC kindOf binds m x = m x
 | [],_,_=>rfl
 | (n,v) :: r,m,h=>by
  unfold bindC
  rw [bindC_out fun w hw=>h w (List.mem_cons_of_mem _ hw)]
  split
  ·rfl
  ·have:x ≠ n:=by rintro rfl; exact h v List.mem_cons_self
   simp [this]
theorem bindL_get {kindOf:Str -> Option NameKind} {x:Str} {v:Value}:∀ {P:List Str} {vs:List Value} {i:Nat} {m:Str -> Option Value},P.Nodup -> P[i]? = some x -> vs[i]? = some v -> kindOf x = some .local ->
  bindL kindOf (P.zip vs) m x = some v
 | [],_,_,_,_,h,_,_=>by simp at h
 | _ :: _,[],_,_,_,_,h,_=>by simp at h
 | p :: P,w :: vs,0,m,nd,h1,h2,hk=>by
  simp at h1 h2; subst h1; subst h2
  show bindL kindOf ((p,w) :: P.zip vs) m p = _
  unfold bindL
  rw [bindL_out fun v hv=>(List.nodup_cons.mp nd).1 (List.of_mem_zip hv).1,if_pos hk]
  simp
 | p :: P,w :: vs,i + 1,m,nd,h1,h2,hk=>by
  show bindL kindOf ((p,w) :: P.zip vs) m x = _
  unfold bindL
  exact bindL_get (i:=i) (List.nodup_cons.mp nd).2 (by simpa using h1) (by simpa using h2) hk
theorem bindC_get {kindOf:Str -> Option NameKind} {x:Str} {v:Value}:∀ {P:List Str} {vs:List Value} {i:Nat} {m:Str -> Option Value},P.Nodup -> P[i]? = some x -> vs[i]? = some v -> kindOf x ≠ some .local ->
  bindC kindOf (P.zip vs) m x = some v
 | [],_,_,_,_,h,_,_=>by simp at h
 | _ :: _,[],_,_,_,_,h,_=>by simp at h
 | p :: P,w :: vs,0,m,nd,h1,h2,hk=>by
  simp at h1 h2; subst h1; subst h2
  show bindC kindOf ((p,w) :: P.zip vs) m p = _
  unfold bindC
  rw [bindC_out fun v hv=>(List.nodup_cons.mp nd).1 (List.of_mem_zip hv).1,if_neg hk]
  simp
 | p :: P,w :: vs,i + 1,m,nd,h1,h2,hk=>by
  show bindC kindOf ((p,w) :: P.zip vs) m x = _
  unfold bindC
  exact bindC_get (i:=i) (List.nodup_cons.mp nd).2 (by simpa using h1) (by simpa using h2) hk
noncomputable def start (N:List Str) (vs:List V):St:=vs.map some ++ List.replicate (N.length - vs.length) none
noncomputable def cxOf (CX:CXT) (P:Program) (w:World) (K:PySem.W.Frag) (mg:Str -> Option Value) (base:Heap) (N:List Str) (qual:Str) (scope:Scope) (f:Addr) (cd:Value) (A:Around) (outer:List Env) (s:Shared) (H:Hp) (E:XK):Cx where
 prog:=P
 w:=w
 K:=K
 mg:=mg
 base:=base
 A:=A.deeper (envOfC qual scope s.heap.objs.size f cd)
 N:=N
 s₀:=s
 H₀:=H
 env:=envOfC qual scope s.heap.objs.size f cd
 outer:=outer
 stack:=envOfC qual scope s.heap.objs.size f cd :: outer
 ex:=[]
 calm:=true
 fn:=fun _=>true
 pn:=[]
 xe:=fun e s'=>wpAny (model P w) (A.deeper (envOfC qual scope s.heap.objs.size f cd)) (leaving (envOfC qual scope s.heap.objs.size f cd) e) (fun _ s''=>CX outer H s E e s'') (fun e' s''=>CX outer H s E e' s'') s'
theorem cell_has {sc:Scope} {n:Nat} {x:Str} (h:sc.names.lookup x = some .cell):∃ c,(cellsFrom n sc.names []).lookup x = some c:=by
 have q:=PySem.W.cellsFrom_some sc.names n [] (.inl h)
 exact Option.isSome_iff_exists.mp q
theorem inv_start {CX:CXT} {P:Program} {w:World} {K:PySem.W.Frag} {mg:Str -> Option Value} {base:Heap} {N ps:List Str} {qual:Str} {scope:Scope} {f:Addr} {cd:Value} {A:Around} {outer:List Env} {s s1:Shared} {H:Hp} {E:XK} {us:List Value} {vs:List V}
  (S:FnScope N ps scope) (hd:A.handled = none) (e0:Env0 P w K mg base A outer s H) (hl:vs.length = ps.length) (r:Vals vs us)
  (x:InCallC s s.heap.objs.size (bindL (envOfC qual scope s.heap.objs.size f cd).kindOf (ps.zip us) fun _=>none) (cellsFrom (s.heap.objs.size + 1) scope.names []) (bindC (envOfC qual scope s.heap.objs.size f cd).kindOf (ps.zip us) fun _=>none) s1) :
  Inv (cxOf CX P w K mg base N qual scope f cd A outer s H E) [] (start N vs) H s1:=by
 have hpl:ps.length <= N.length:=by have:=congrArg List.length S.pre; rw [List.length_take] at this; omega
 obtain ⟨h1,tk,rfl,hk⟩:=x.done
 have noA:∀ b:Addr,b ∉ (cxOf CX P w K mg base N qual scope f cd A outer s H E).ex:=fun b z=>absurd (show b ∈ ([]:List Addr) from z) (by simp)
 refine ⟨⟨e0.mod,S.kind,rfl,rfl,Nat.le_refl _,fun y z c h1 h2=>?_,fun y hy=>?_,fun y c _ h=>?_,fun _=>hd,Around.frames_deeper e0.frames,.inr ⟨rfl,rfl⟩,fun b z=>absurd z (noA b),e0.bs,e0.bsz,fun b _ _=>noA b,fun b z=>absurd z (noA b),e0.funs,e0.frf⟩,
   rfl,e0.bare,Un.kept hk,⟨_,x.toInCall.ns,fun i y v h1 h2 h3=>?_⟩,fun y c h=>⟨_,x.cell y c h⟩,e0.hok.fresh (Nat.le_refl _),fun y c h=>?_,fun p hp=>absurd (show p ∈ ([]:List (Addr × Obj)) from hp) (by simp),e0.hok.kept hk,?_⟩
 ·exact name_of_addr x.apart (PySem.mem_of_lookup h1) (PySem.mem_of_lookup h2)
 ·have hy:scope.names.lookup y = some .cell \/ scope.names.lookup y = some .free:=hy
  rcases hy with hy | hy
  ·exact cell_has hy
  ·exact absurd rfl (S.nofree _ (PySem.mem_of_lookup hy))
 ·exact Nat.le_of_lt (x.above y c (PySem.mem_of_lookup h))
 ·have hi:i < vs.length:=by
   unfold start at h2
   by_cases hi:i < vs.length
   ·exact hi
   ·rw [List.getElem?_append_right (by simpa using hi)] at h2
    rw [List.getElem?_replicate] at h2
    split at h2 <;> cases h2
  have ha:vs[i]? = some v:=by
   unfold start at h2
   rw [List.getElem?_append_left (by simpa using hi),List.getElem?_map] at h2
   cases e:vs[i]? with
   | none=>rw [e] at h2; cases h2
   | some a=>rw [e] at h2; cases h2; rfl
  obtain ⟨u,hu,rv⟩:=r.get ha
  have hp:ps[i]? = some y:=by
   rw [<- S.pre,List.getElem?_take_of_lt (by omega)]; exact h1
  have ndP:ps.Nodup:=by rw [<- S.pre]; exact S.nd.sublist (List.take_sublist _ _)
  refine ⟨u,rv,?_⟩
  rcases S.par y (List.mem_of_getElem? hp) with k | k
  ·exact .inl ⟨k,bindL_get ndP hp hu k⟩
  ·obtain ⟨c,e⟩:=cell_has (n:=s.heap.objs.size + 1) k
   refine .inr ⟨.inl k,c,e,?_⟩
   have q:=x.cell y c e
   rw [bindC_get ndP hp hu (by show scope.names.lookup y ≠ _; rw [k]; decide)] at q
   exact q
 ·exact e0.hok.fresh (Nat.le_of_lt (x.above y c (PySem.mem_of_lookup h)))
 ·unfold start
  show _ = N.length
  rw [List.length_append,List.length_map,List.length_replicate]
  omega
theorem fn_of {CX:CXT} {P:Program} {w:World} {K:PySem.W.Frag} {mg:Str -> Option Value} {base:Heap} {k:Nat} {f:Addr} {name qual:Str} {params:Arguments} {body:List Stmt} {scope:Scope} {dV kV doc pm cdv ct oc:Value} {an od:Option Addr}
  {osl:Array (Option Value)} {N ps:List Str} {sp:Sp} (lk:K.lookup f = some ⟨oc,od,.func (PySem.W.fnOf name qual params body scope dV kV doc pm an cdv ct),osl⟩) (hcd:PySem.W.codeIn K cdv qual = true) (S:FnScope N ps scope)
  (len:∀ vs H Q E,sp vs H Q E -> vs.length = ps.length)
  (hbody:∀ (A:Around) (outer:List Env) (s:Shared) (H:Hp) (vs:List V) (Q:VK) (E:XK),Room k (A.deeper (envOfC qual scope s.heap.objs.size f cdv)) -> sp vs H Q E ->
    ∃ t,PSs (cxOf CX P w K mg base N qual scope f cdv A outer s H E) body t /\ t { nx:=fun _ H'=>Q .non H',rt:=Q } (start N vs) H) :
  FnOk P w K mg base CX (k + 1) f (PySem.W.fnOf name qual params body scope dV kV doc pm an cdv ct) ps sp:=by
 refine ⟨len,fun A outer s H args us vs Q E hr e0 hb r hsp=>?_⟩
 have hl:=len _ _ _ _ hsp
 have KX:K.In s.heap:=e0.mod.kin.keeps fun b o e=>(e0.bs b o e).1
 have lim:s.heap.NoLimit:=e0.mod.nolimit.keeps fun b o e=>(e0.bs b o e).1
 have hkind:∀ y ∈ ps.zip us,scope.names.lookup y.1 = some .local \/ (scope.names.lookup y.1 = some .cell /\ ((cellsFrom (s.heap.objs.size + 1) scope.names []).lookup y.1).isSome = true):=fun ⟨n,v⟩ hy=>by
  rcases S.par n (List.of_mem_zip hy).1 with q | q
  ·exact .inl q
  ·exact .inr ⟨q,PySem.W.cellsFrom_some _ _ _ (.inl q)⟩
 refine codeAny_call_function hr.depth (KX _ _ lk) rfl S.co S.gen rfl (PySem.W.codeRec_of KX hcd) (hb _ _ _ _ ?_)
 refine wpAny_newFunctionEnv_cells S.kind hkind fun env he s1 x=>?_
 subst he
 refine ⟨lim.keeps x.toInCall.keep,codeAny_func ?_⟩
 obtain ⟨t,ht,hq⟩:=hbody A outer s H vs Q E (hr.deeper _) hsp
 have I:Inv (cxOf CX P w K mg base N qual scope f cdv A outer s H E) [] (start N vs) H s1:=inv_start S hr.hd e0 hl r x
 refine wpAny_mono (ht [] s1 (start N vs) H _ I hq) (fun fl s' hs=>?_) fun e s' hs=>hs
 have fin:∀ {σ':St} {H':Hp} {v:V} {u:Value},Inv (cxOf CX P w K mg base N qual scope f cdv A outer s H E) [] σ' H' s' -> RelV v u -> Q v H' -> CE outer P w H s Q u s' :=
  fun {σ' H' v u} J rv q=>⟨v,H',J.os,J.bare,J.base,J.hok,rv,q⟩
 cases fl with
 | ret u =>
  obtain ⟨v,σ',H',J,rv,q⟩:=hs
  exact fin J rv q
 | next =>
  obtain ⟨σ',H',J,q⟩:=hs
  exact fin (v:=V.non) (u:=Value.none) J rfl q
 | brk =>
  obtain ⟨_,_,_,q⟩:=hs
  exact False.elim q
 | cont =>
  obtain ⟨_,_,_,q⟩:=hs
  exact False.elim q
end L2
namespace L2
open PySem PySem.Spec PyProof.Rows
section
variable {X:Cx} {x:Str} {p pos:Pos} {e:Expr} {es:List Expr} {t:TA} {id T:String} {r:List V -> Hp -> VK -> Prop}
noncomputable def tCB (r:List V -> Hp -> VK -> Prop) (t:TA):TE:=fun σ H Q=>t σ H fun vs H1=>r vs H1 Q
theorem pe_callB (hc:CallR X (.builtin id) r) (hg:Gl X x) (hm:X.mg x = none) (hv:bootBuiltins x = some (.builtin id)) (ha:PA X (e :: es) t) (hn:x ≠ "__name__":=by decide) (hdb:(x == ("__debug__":Str)) = false:=by decide)
  (he:starEach (e :: es) X.env = (false,eval e X.env) :: starEach es X.env:=by rfl) (hpl:(backTo pos (starEach es X.env)).any (·.1) = false:=by rfl):PE X (.Call (.Name x p) (e :: es) [] pos) (tCB r t):=by
 intro pins s σ H Q I h
 refine wpAny_Call_Name_kw (ld_blt I hg hm hv ?_ hn hdb)
 exact PyProof.Rows.callWith_builtin1 (thn (ha pos pins s σ H _ I h) fun us s1 ⟨vs,H1,I1,r1,q1⟩=>hc pins s1 σ H1 vs us Q I1 r1 q1) he hpl
theorem pe_callTy (hc:CallR X (.type T) r) (hg:Gl X x) (hm:X.mg x = none) (hv:bootBuiltins x = some (.type T)) (ha:PA X (e :: es) t) (hn:x ≠ "__name__":=by decide) (hdb:(x == ("__debug__":Str)) = false:=by decide)
  (he:starEach (e :: es) X.env = (false,eval e X.env) :: starEach es X.env:=by rfl) (hpl:(backTo pos (starEach es X.env)).any (·.1) = false:=by rfl):PE X (.Call (.Name x p) (e :: es) [] pos) (tCB r t):=by
 intro pins s σ H Q I h
 refine wpAny_Call_Name_kw (ld_blt I hg hm hv ?_ hn hdb)
 exact PyProof.Rows.callWith_type1 (thn (ha pos pins s σ H _ I h) fun us s1 ⟨vs,H1,I1,r1,q1⟩=>hc pins s1 σ H1 vs us Q I1 r1 q1) he hpl
end
end L2
namespace HT
open PySem PyProof.Rows
section
open PySem.SeqAt
open PySem.AutoSeq1 (wpAny_loadPart')
open PySem.MeetsSeq PySem.MeetsSeq2 PySem.MeetsSeq3
end
section
variable {prog:Program} {w:World} {A:Around} {E:Value -> Shared -> Prop} {s:Shared}
theorem cat_tup {t b:Addr} {vs ws:List Value} {Q:Value -> Shared -> Prop} (ht:IsTup s.heap t vs.toArray) (hb:IsTup s.heap b ws.toArray) (hv:vs ≠ [])
  (h1:ws = [] -> Q (.ref t) s) (h2:ws ≠ [] -> Q (.ref s.heap.objs.size) { s with heap:=s.heap.push { cls:=.type "tuple",data:=.seq (vs ++ ws).toArray } })
  (hsz:vs.length + ws.length <= sizeLine):wpAny (model prog w) A (binaryOp .Add (.ref t) (.ref b)) Q E s:=by
 obtain ⟨⟨cls,dd,data,sl⟩,ho,hc,n,hd⟩:=id ht
 obtain ⟨⟨cls2,dd2,data2,sl2⟩,ho2,hc2,n2,hd2⟩:=id hb
 simp only at hc hd hc2 hd2
 subst hc hd hc2 hd2
 have e:vs.toArray ++ ws.toArray = (vs ++ ws).toArray:=by simp
 by_cases hw:ws = []
 ·exact concat_meets ⟨_,ho,rfl⟩ ⟨_,ho2,rfl⟩ noFill_tuple_add seq_tuple_add PySem.F.slot_tuple_add PySem.F.entry_tuple_add (PySem.F.args_tuple_add_2 _ _)
   (tuple_addW1 t b vs.toArray ws.toArray n n2 dd dd2 sl sl2 (by simpa using hv) (by simp [hw])) ⟨ho,ho2,h1 hw⟩
 ·refine concat_meets ⟨_,ho,rfl⟩ ⟨_,ho2,rfl⟩ noFill_tuple_add seq_tuple_add PySem.F.slot_tuple_add PySem.F.entry_tuple_add (PySem.F.args_tuple_add_2 _ _)
   (tuple_addW2 t b vs.toArray ws.toArray n n2 dd dd2 sl sl2 (by simpa using hv) (by simpa using hw) (by rw [List.size_toArray,List.size_toArray]; exact hsz)) ⟨ho,ho2,?_⟩
  rw [e]
  exact h2 hw
noncomputable def sIx (n d:Nat):Option Int -> Nat
 | none=>d
 | some v=>if v < 0 then (v + (n:Int)).toNat else min v.toNat n
theorem sIx_le (n d:Nat) (hd:d <= n) (o:Option Int):sIx n d o <= n:=by
 cases o with
 | none=>exact hd
 | some v =>
  show (if v < 0 then (v + (n:Int)).toNat else min v.toNat n) <= n
  by_cases hv:v < 0
  ·rw [if_pos hv]; omega
  ·rw [if_neg hv]; exact Nat.min_le_right _ _
theorem clip_eq (v:Int) (n d:Nat):(if v < 0 then max (v + (n:Int)) 0 else min v (n:Int)) = ((sIx n d (some v):Nat):Int):=by
 show (if v < 0 then max (v + (n:Int)) 0 else min v (n:Int)) = (((if v < 0 then (v + (n:Int)).toNat else min v.toNat n):Nat):Int)
 by_cases hv:v < 0
 ·simp only [if_pos hv]; omega
 ·simp only [if_neg hv]; omega
theorem adjust_gen (lo hi:Option Int) (n:Nat):Builtin.Slice.sliceAdjust lo hi 1 (n:Int) = (((sIx n 0 lo:Nat):Int),((sIx n n hi:Nat):Int)):=by
 have h1:¬ ((1:Int) < 0):=by omega
 unfold Builtin.Slice.sliceAdjust
 simp only [h1,if_false]
 refine Prod.ext ?_ ?_
 ·cases lo with
  | none=>rfl
  | some v=>exact clip_eq v n 0
 ·cases hi with
  | none=>rfl
  | some v=>exact clip_eq v n n
theorem places_gen (i j:Nat):Builtin.Slice.slicePlaces (i:Int) (j:Int) 1 = j - i:=by
 unfold Builtin.Slice.slicePlaces
 have h1:(1:Int) > 0:=by omega
 simp only [h1,if_true,Int.ediv_one]
 split <;> omega
theorem slicePart_ {v:Value} {o:Option Int} {Q:Option Int -> Shared -> Prop} (p:IsPart v o) (h:Q o s):wpAny (model prog w) A (Builtin.Slice.slicePartIndex v) Q E s:=by
 cases p with
 | none=>exact slicePart_none h
 | int i t=>exact slicePart_int h
theorem sliceApplied_gen {sl:Addr} {vl vu:Value} {lo hi:Option Int} {n:Nat} {Q:Int × Int × Nat -> Shared -> Prop} (hs:s.heap.IsSliceOf sl vl vu .none) (pl:IsPart vl lo) (pu:IsPart vu hi)
  (h:Q (((sIx n 0 lo:Nat):Int),1,sIx n n hi - sIx n 0 lo) s):wpAny (model prog w) A (Builtin.Slice.sliceApplied (.ref sl) (pure (n:Int))) Q E s:=by
 obtain ⟨os,hos,hcs,hds⟩:=id hs
 unfold Builtin.Slice.sliceApplied Builtin.Slice.sliceFields
 refine wpAny_bind (wpAny_bind (wpAny_field hos hds (x:=vl) rfl (wpAny_bind (wpAny_field hos hds (x:=vu) rfl (wpAny_bind (wpAny_field hos hds (x:=.none) rfl (wpAny_pure ?_)))))))
 refine wpAny_bind (slicePart_none ?_)
 show wpAny _ _ (if ((1:Int) == 0) = true then _ else _) _ _ s
 rw [if_neg (by decide)]
 refine wpAny_bind (slicePart_ pl (wpAny_bind (slicePart_ pu (wpAny_bind (wpAny_pure ?_)))))
 show wpAny _ _ (match Builtin.Slice.sliceAdjust lo hi 1 (n:Int) with | (lo,hi)=>pure (lo,(1:Int),Builtin.Slice.slicePlaces lo hi 1)) _ _ s
 rw [adjust_gen lo hi n]
 show wpAny _ _ (pure (((sIx n 0 lo:Nat):Int),(1:Int),Builtin.Slice.slicePlaces ((sIx n 0 lo:Nat):Int) ((sIx n n hi:Nat):Int) 1)) _ _ s
 rw [places_gen]
 exact wpAny_pure h
theorem pick_gen (xs:Array Value) (i k:Nat):((List.range k).filterMap fun (m:Nat)=>xs[((i:Int) + (m:Int) * 1).toNat]?).toArray = ((xs.toList.drop i).take k).toArray:=by
 have e:(fun (m:Nat)=>xs[((i:Int) + (m:Int) * 1).toNat]?) = fun m=>xs[i + m]?:=by
  funext m
  have:((i:Int) + (m:Int) * 1).toNat = i + m:=by omega
  rw [this]
 rw [e]
 have:=pick_run xs i k
 rw [List.filterMap_map] at this
 have e2:((fun x=>xs[x]?) ∘ fun x=>i + x) = fun m=>xs[i + m]?:=rfl
 rw [e2] at this
 rw [this]
theorem getItem_tuple_cut {t sl:Addr} {items:Array Value} {vl vu:Value} {lo hi:Option Int} {Q:Value -> Shared -> Prop} (ht:IsTup s.heap t items) (hs:s.heap.IsSliceOf sl vl vu .none) (pl:IsPart vl lo) (pu:IsPart vu hi)
  (hw:¬ (sIx items.size 0 lo = 0 /\ sIx items.size items.size hi = items.size))
  (h:Q (.ref s.heap.objs.size) { s with heap:=s.heap.push { cls:=.type "tuple",data:=.seq ((items.toList.drop (sIx items.size 0 lo)).take (sIx items.size items.size hi - sIx items.size 0 lo)).toArray } })
  (hsz:items.size <= sizeLine):wpAny (model prog w) A (getItem (.ref t) (.ref sl)) Q E s:=by
 have htake:sizeOk (.seq ((items.toList.drop (sIx items.size 0 lo)).take (sIx items.size items.size hi - sIx items.size 0 lo)).toArray):=by
  show ((items.toList.drop (sIx items.size 0 lo)).take (sIx items.size items.size hi - sIx items.size 0 lo)).toArray.size <= sizeLine
  rw [List.size_toArray,List.length_take,List.length_drop,Array.length_toList]
  omega
 have hj:sIx items.size items.size hi <= items.size:=sIx_le _ _ (Nat.le_refl _) hi
 obtain ⟨os,hos,hcs,hds⟩:=id hs
 have hTs:s.TypeIs (.ref sl) "slice":=⟨os,hos,hcs⟩
 unfold getItem
 try with_reducible refine wpAny_holding ?_
 first | refine wpAny_bind (wpAny_pure ?_) | skip
 refine wpAny_bind (wpAny_sequenceKey ht.typeIs (by decide) ?_)
 refine wpAny_bind (wpAny_callSpecial?_slot (name:=Str.ofString "__getitem__") ht.typeIs PyProof.Rows.slot_tuple_getitem
   (wpAny_call_entry PyProof.Rows.slot_tuple_getitem ht.typeIs entry_tuple_getitem ?_ (args_tuple_getitem _ _)))
 show wpAny _ _ (Builtin.Tuple.tupleItemsOf (.ref t) >>= _) _ _ s
 refine wpAny_bind (tupleItemsOf_ ht ?_)
 refine wpAny_bind (wpAny_typeOf hTs ?_)
 rw [if_pos (by decide)]
 refine wpAny_bind (sliceApplied_gen hs pl pu ?_)
 have hno:¬ ((((sIx items.size 0 lo:Nat):Int) == 0 && (1:Int) == 1 && (sIx items.size items.size hi - sIx items.size 0 lo) == items.size) = true):=by
  intro q
  rw [Bool.and_eq_true,Bool.and_eq_true] at q
  have q1:((sIx items.size 0 lo:Nat):Int) = 0:=eq_of_beq q.1.1
  have q2:sIx items.size items.size hi - sIx items.size 0 lo = items.size:=eq_of_beq q.2
  exact hw ⟨by omega,by omega⟩
 show wpAny _ _ (if (((sIx items.size 0 lo:Nat):Int) == 0 && (1:Int) == 1 && (sIx items.size items.size hi - sIx items.size 0 lo) == items.size) = true then _ else _) _ _ s
 rw [if_neg hno,pick_gen]
 first
  | exact wpAny_bind (m:=Builtin.Tuple.tupleExact _) (wpAny_newObj_type (wpAny_pure ⟨_,rfl,wpAny_pure h⟩) htake)
  | exact wpAny_bind (m:=Builtin.Tuple.tupleExact _) (wpAny_newObj_type (wpAny_bind (wpAny_pure (wpAny_pure ⟨_,rfl,wpAny_pure h⟩))) htake)
  | exact wpAny_bind (wpAny_bind (m:=Builtin.Tuple.tupleExact _) (wpAny_newObj_type (wpAny_pure (wpAny_pure ⟨_,rfl,wpAny_pure h⟩)) htake))
  | exact wpAny_bind (wpAny_bind (m:=Builtin.Tuple.tupleExact _) (wpAny_newObj_type (wpAny_pure ⟨_,rfl,wpAny_pure h⟩) htake))
end
end HT
namespace L2
open PySem PySem.Spec PyProof.Rows
noncomputable abbrev TO:=St -> Hp -> (Option Int -> Hp -> Prop) -> Prop
noncomputable def PO (X:Cx) (e:Option Expr) (t:TO):Prop :=
 ∀ (pins:List (Addr × Obj)) (s:Shared) (σ:St) (H:Hp) (Q:Option Int -> Hp -> Prop),Inv X pins σ H s -> t σ H Q ->
  wpAny (model X.prog X.w) X.A (evalPart e X.env) (fun u s'=>∃ o H',Inv X pins σ H' s' /\ IsPart u o /\ Q o H') X.xe s
noncomputable def tNoPart:TO:=fun _ H Q=>Q none H
noncomputable def tPart (t:TE):TO:=fun σ H Q=>t σ H fun x H1=>∃ i,x = .int i /\ Q (some i) H1
theorem intsAre_of {ns:List Int}:∀ {us:List Value},Vals (ns.map V.int) us -> IntsAre us ns:=by
 induction ns with
 | nil=>intro us r; rw [List.map_nil] at r; cases r; exact .nil
 | cons n ns ih =>
  intro us r
  rw [List.map_cons] at r
  cases r with
  | cons r1 r2 =>
   obtain ⟨t,e⟩:=r1
   subst e
   exact .cons n t (ih r2)
section
variable {X:Cx} {e:Expr} {te:TE} {lo hi:Option Expr} {tl th:TO} {pos p2:Pos}
theorem po_none:PO X none tNoPart:=by
 intro pins s σ H Q I h
 rw [evalPart_none]
 exact wpAny_pure ⟨none,H,I,.none,h⟩
theorem po_some (h:PE X e te):PO X (some e) (tPart te):=by
 intro pins s σ H Q I hw
 rw [evalPart_some]
 refine thn (h pins s σ H _ I hw) fun u s1 ⟨x,H1,I1,r1,q1⟩=>?_
 obtain ⟨i,rfl,q⟩:=q1
 obtain ⟨t,rfl⟩:=r1
 exact ⟨some i,H1,I1,.int i t,q⟩
noncomputable def SlR (X:Cx) (r:V -> Option Int -> Option Int -> Hp -> VK -> Prop):Prop :=
 ∀ (pins:List (Addr × Obj)) (s:Shared) (σ:St) (H:Hp) (x:V) (v vl vu:Value) (lo hi:Option Int) (sl:Addr) (Q:VK),Inv X pins σ H s -> RelV x v -> s.heap.IsSliceOf sl vl vu .none -> IsPart vl lo -> IsPart vu hi -> r x lo hi H Q ->
  ∃ T id,typeLookup (.type T) "__getitem__" = pure (some (.builtin id)) /\ s.TypeIs v T /\ wpAny (model X.prog X.w) X.A (getItem v (.ref sl)) (EP X pins σ Q) X.xe s
noncomputable def tSl (r:V -> Option Int -> Option Int -> Hp -> VK -> Prop) (te:TE) (tl th:TO):TE:=fun σ H Q=>te σ H fun x H1=>tl σ H1 fun l H2=>th σ H2 fun u H3=>r x l u H3 Q
theorem pe_slice {r:V -> Option Int -> Option Int -> Hp -> VK -> Prop} (hr:SlR X r) (he:PE X e te) (hl:PO X lo tl) (hu:PO X hi th):PE X (.Subscript e (.Slice lo hi none p2) pos) (tSl r te tl th):=by
 intro pins s σ H Q I h
 refine Subscript_ (thn (he pins s σ H _ I h) fun v s1 ⟨x,H1,I1,r1,q1⟩=>?_)
 refine wpAny_Slice (thn (hl pins s1 σ H1 _ I1 q1) fun vl s2 ⟨l,H2,I2,pl,q2⟩=>thn (hu pins s2 σ H2 _ I2 q2) fun vu s3 ⟨u,H3,I3,pu,q3⟩=>?_)
 rw [evalPart_none]
 refine wpAny_pure ?_
 have I4:Inv X pins σ H3 { s3 with heap:=s3.heap.push { cls:=.type "slice",data:=.fields #[vl,vu,.none] } }:=I3.kept (t':=s3.toks) fun b ob q=>Heap.get?_push_of_some _ q
 obtain ⟨T,id,hT,ht,hg⟩:=hr pins { s3 with heap:=s3.heap.push { cls:=.type "slice",data:=.fields #[vl,vu,.none] } } σ H3 x v vl vu l u s3.heap.objs.size Q I4 r1 (Heap.IsSliceOf.new ..) pl pu q3
 show wpAny (model X.prog X.w) X.A (subscriptTail e (.Slice lo hi none p2) v (.ref s3.heap.objs.size)) (EP X pins σ Q) X.xe { s3 with heap:=s3.heap.push { cls:=.type "slice",data:=.fields #[vl,vu,.none] } }
 exact tail_any (ops:=[.ref s3.heap.objs.size,v]) ht hT hg (by with_unfolding_all rfl)
noncomputable def cutV (xs:List V) (lo hi:Option Int):List V:=(xs.drop (HT.sIx xs.length 0 lo)).take (HT.sIx xs.length xs.length hi - HT.sIx xs.length 0 lo)
theorem cutV_length (xs:List V) (lo hi:Option Int):(cutV xs lo hi).length <= xs.length:=by
 unfold cutV
 rw [List.length_take,List.length_drop]
 omega
noncomputable def rSlT (K:PySem.W.Frag):V -> Option Int -> Option Int -> Hp -> VK -> Prop:=fun x lo hi H Q=>∃ a xs,x = .ref a /\ SqT K H a xs /\
 ¬ (HT.sIx xs.length 0 lo = 0 /\ HT.sIx xs.length xs.length hi = xs.length) /\ ∀ p,H p = none -> Q (.ref p) (upd H p (.tup (cutV xs lo hi)))
theorem sl_tup:SlR X (rSlT X.K):=by
 intro pins s σ H x v vl vu lo hi sl Q I rx hs pl pu h
 obtain ⟨a,xs,rfl,hx,hw,q⟩:=h
 cases rx
 obtain ⟨its,r,ht,hz⟩:=I.tuple hx
 have hlen:its.toArray.size = xs.length:=by rw [List.size_toArray]; exact r.length.symm
 refine ⟨"tuple",_,PyProof.Rows.slot_tuple_getitem.lookup,ht.typeIs,?_⟩
 refine HT.getItem_tuple_cut ht hs pl pu (by rw [hlen]; exact hw) ?_ (by rw [hlen]; exact hz)
 rw [hlen]
 refine ⟨.ref s.heap.objs.size,_,I.laid (t':=s.toks) (o:=.tup (cutV xs lo hi)) (fun b ob q=>Heap.get?_push_of_some _ q) (Nat.le_refl _) ?_,rfl,q _ (I.hok.fresh (Nat.le_refl _))⟩
 exact ⟨Nat.le_trans (cutV_length xs lo hi) hz,_,(r.drop (HT.sIx xs.length 0 lo)).take (HT.sIx xs.length xs.length hi - HT.sIx xs.length 0 lo),IsTupD.new _ _⟩
noncomputable def rCatT (K:PySem.W.Frag):R2:=fun x y H Q=>∃ a b xs ys,x = .ref a /\ y = .ref b /\ SqT K H a xs /\ SqT K H b ys /\ xs ≠ [] /\ xs.length + ys.length <= sizeLine /\
 (ys = [] -> Q (.ref a) H) /\ (ys ≠ [] -> ∀ p,H p = none -> Q (.ref p) (upd H p (.tup (xs ++ ys))))
theorem Vals.nil_iff {xs:List V} {us:List Value} (r:Vals xs us):us = [] ↔ xs = []:=by
 cases r with
 | nil=>simp
 | cons _ _=>simp
theorem op_catT:OpR X (binaryOp .Add) (rCatT X.K):=by
 intro pins s σ H x y v u Q I rx ry h
 obtain ⟨a,b,xs,ys,rfl,rfl,ha,hb,hx,hz,q1,q2⟩:=h
 cases rx
 cases ry
 obtain ⟨its,r1,p1,_⟩:=I.tuple ha
 obtain ⟨its2,r2,p2,_⟩:=I.tuple hb
 refine HT.cat_tup p1 p2 (fun z=>hx (r1.nil_iff.mp z)) (fun z=>⟨.ref a,H,I,rfl,q1 (r2.nil_iff.mp z)⟩) (fun z=>?_) (by rw [<- r1.length,<- r2.length]; exact hz)
 refine ⟨.ref s.heap.objs.size,_,I.laid (t':=s.toks) (o:=.tup (xs ++ ys)) (fun b ob q=>Heap.get?_push_of_some _ q) (Nat.le_refl _) ?_,rfl,q2 (fun w=>z (r2.nil_iff.mpr w)) _ (I.hok.fresh (Nat.le_refl _))⟩
 exact ⟨by rw [List.length_append]; exact hz,_,r1.append r2,IsTupD.new _ _⟩
end
end L2
namespace L2
open PySem PySem.Spec PyProof.Rows
noncomputable def ixN (n:Nat) (i:Int):Option Nat:=if 0 <= i then (if i < n then some i.toNat else none) else if -(n:Int) <= i then some (i + n).toNat else none
noncomputable def atI {α:Type} (xs:List α) (i:Int):Option α:=(ixN xs.length i).bind fun j=>xs[j]?
theorem ixN_seq {n:Nat} {i:Int} {j:Nat} (h:ixN n i = some j):seqIndex? i n = some j /\ j < n /\ -(n:Int) <= i /\ i < n:=by
 unfold ixN at h
 by_cases h0:0 <= i
 ·rw [if_pos h0] at h
  by_cases h1:i < n
  ·rw [if_pos h1] at h
   have e:i.toNat = j:=Option.some.inj h
   exact ⟨by rw [seqIndex_of h0 h1,e],by omega,by omega,h1⟩
  ·rw [if_neg h1] at h; cases h
 ·rw [if_neg h0] at h
  by_cases h1:-(n:Int) <= i
  ·rw [if_pos h1] at h
   have e:(i + n).toNat = j:=Option.some.inj h
   exact ⟨by rw [seqIndex_neg (by omega) h1,e],by omega,h1,by omega⟩
  ·rw [if_neg h1] at h; cases h
theorem atI_get {α:Type} {xs:List α} {i:Int} {v:α} (h:atI xs i = some v):∃ j,seqIndex? i xs.length = some j /\ xs[j]? = some v /\ j < xs.length /\ -(xs.length:Int) <= i /\ i < xs.length:=by
 unfold atI at h
 cases e:ixN xs.length i with
 | none=>rw [e] at h; cases h
 | some j =>
  rw [e] at h
  obtain ⟨h1,h2,h3,h4⟩:=ixN_seq e
  exact ⟨j,h1,h,h2,h3,h4⟩
theorem atI_nat {α:Type} {xs:List α} {j:Nat} {v:α} (h:xs[j]? = some v):atI xs (j:Int) = some v:=by
 have hj:j < xs.length:=(List.getElem?_eq_some_iff.mp h).1
 have e:ixN xs.length (j:Int) = some j:=by
  unfold ixN
  rw [if_pos (by omega),if_pos (by omega)]; simp
 unfold atI; rw [e]; exact h
noncomputable def PlainIx (b:Expr):Prop:=∀ o i,subscripted b false o i = operate [o,i] (getItem o i)
noncomputable def IxR (X:Cx) (r:R2):Prop :=
 ∀ (value slice:Expr) (pins:List (Addr × Obj)) (s:Shared) (σ:St) (H:Hp) (x y:V) (v u:Value) (Q:VK),Inv X pins σ H s -> RelV x v -> RelV y u -> r x y H Q ->
  subscripted slice false v u = operate [v,u] (getItem v u) -> wpAny (model X.prog X.w) X.A (subscriptTail value slice v u) (EP X pins σ Q) X.xe s
noncomputable def MtR (X:Cx) (id:String) (r:V -> List V -> Hp -> VK -> Prop):Prop :=
 ∀ (pins:List (Addr × Obj)) (s:Shared) (σ:St) (H:Hp) (x:V) (xs:List V) (v:Value) (us:List Value) (Q:VK),Inv X pins σ H s -> RelV x v -> Vals xs us -> r x xs H Q ->
  wpAny (model X.prog X.w) X.A (call (.builtin id) (v :: us)) (EP X pins σ Q) X.xe s
section
variable {X:Cx} {a b:Expr} {ta tb:TE} {pos:Pos}
theorem IxR.or {r r':R2} (h:IxR X r) (h':IxR X r'):IxR X (fun x y H Q=>r x y H Q \/ r' x y H Q):=by
 intro value slice pins s σ H x y v u Q I rx ry q hs
 rcases q with q | q
 ·exact h value slice pins s σ H x y v u Q I rx ry q hs
 ·exact h' value slice pins s σ H x y v u Q I rx ry q hs
theorem pe_ix {r:R2} (hr:IxR X r) (ha:PE X a ta) (hb:PE X b tb) (hs:PlainIx b):PE X (.Subscript a b pos) (tOp r ta tb):=by
 intro pins s σ H Q I h
 exact Subscript_ (binT ha hb I h fun v u s2 x y H2 I2 rx ry q=>hr a b pins s2 σ H2 x y v u Q I2 rx ry q (hs _ _))
noncomputable def rIxL (K:PySem.W.Frag):R2:=fun x y H Q=>∃ p xs i v,x = .ref p /\ y = .int i /\ SqL K H p xs /\ atI xs i = some v /\ Q v H
noncomputable def rIxT (K:PySem.W.Frag):R2:=fun x y H Q=>∃ p xs i v,x = .ref p /\ y = .int i /\ SqT K H p xs /\ atI xs i = some v /\ Q v H
theorem ix_list:IxR X (rIxL X.K):=by
 intro value slice pins s σ H x y v u Q I rx ry h hs
 obtain ⟨p,xs,i,z,rfl,rfl,hq,he,q⟩:=h
 cases rx
 obtain ⟨t,rfl⟩:=ry
 obtain ⟨its,r,pl,hz⟩:=I.list hq
 obtain ⟨j,h1,h2,h3,h4,h5⟩:=atI_get he
 obtain ⟨w,ew,rw'⟩:=r.get h2
 have hl:=r.length
 have hn:=line63
 have fin:EP X pins σ Q w s:=⟨z,H,I,rw',q⟩
 by_cases h0:0 <= i
 ·have hj:i.toNat = j:=by
   rw [seqIndex_of h0 h5] at h1
   exact Option.some.inj h1
  exact item_listR pl.isList h0 (by omega) (by rw [hj]; simpa using ew) fin hs
 ·have hj:(i + (its.toArray.size:Int)).toNat = j:=by
   rw [seqIndex_neg (by omega) h4] at h1
   rw [List.size_toArray,<- hl]
   exact Option.some.inj h1
  exact subscriptTail_builtinR (x:=w) pl.isList.typeIs slot_list_getitem.lookup
   (wpAny_getItem_list_neg (Q:=fun r s'=>r = w /\ EP X pins σ Q r s') pl.isList (by omega) (by rw [List.size_toArray] <;> omega) (by omega) (by rw [hj]; simpa using ew) ⟨rfl,fin⟩) hs
theorem ix_tup:IxR X (rIxT X.K):=by
 intro value slice pins s σ H x y v u Q I rx ry h hs
 obtain ⟨p,xs,i,z,rfl,rfl,hq,he,q⟩:=h
 cases rx
 obtain ⟨t,rfl⟩:=ry
 obtain ⟨its,r,pl,hz⟩:=I.tuple hq
 obtain ⟨j,h1,h2,h3,h4,h5⟩:=atI_get he
 obtain ⟨w,ew,rw'⟩:=r.get h2
 have hl:=r.length
 have hn:=line63
 have fin:EP X pins σ Q w s:=⟨z,H,I,rw',q⟩
 exact subscriptTail_builtinR (x:=w) pl.typeIs slot_tuple_getitem.lookup
  (getItem_tuple (j:=j) (Q:=fun r s'=>r = w /\ EP X pins σ Q r s') pl (by omega) (by omega) (by rw [List.size_toArray,<- hl]; exact h1) (by simpa using ew) ⟨rfl,fin⟩) hs
theorem mapSeq_set (its:List Value) (n j:Nat) (u:Value):Obj.mapSeq (·.setIfInBounds j u) { cls:=.type "list",data:=.seq its.toArray n } = { cls:=.type "list",data:=.seq (its.set j u).toArray n }:=by
 simp [Obj.mapSeq]
theorem Inv.lst {pins:List (Addr × Obj)} {σ:St} {H:Hp} {s:Shared} {p:Addr} {xs:List V} (I:Inv X pins σ H s) (h:H p = some (.lst xs)) :
  ∃ (its:List Value) (n:Nat),Vals xs its /\ s.heap.get? p = some { cls:=.type "list",data:=.seq its.toArray n } /\ xs.length <= sizeLine:=by
 obtain ⟨z,its,n,r,e⟩:=I.hok p _ h
 exact ⟨its,n,r,e,z⟩
theorem Inv.lstUpd {pins:List (Addr × Obj)} {σ:St} {H:Hp} {s:Shared} {p:Addr} {xs ys:List V} {its its':List Value} {n n':Nat} {f:Obj -> Obj} (I:Inv X pins σ H s) (h:H p = some (.lst xs))
  (ho:s.heap.get? p = some { cls:=.type "list",data:=.seq its.toArray n }) (hf:f { cls:=.type "list",data:=.seq its.toArray n } = { cls:=.type "list",data:=.seq its'.toArray n' }) (r:Vals ys its') (hz:ys.length <= sizeLine) (t:Nat) :
  Inv X pins σ (upd H p (.lst ys)) { s with heap:=s.heap.update p f,toks:=t }:=by
 have e:(s.heap.update p f).get? p = some { cls:=.type "list",data:=.seq its'.toArray n' }:=by
  rw [Heap.get?_update_self f ho (by rw [hf] <;> rfl),hf]
 refine I.write (x:=p) (e:=p) (by rw [h]; trivial) (.inl rfl) (fun b u hb q=>(Heap.get?_update_other _ _ (Ne.symm hb)).trans q) ⟨_,e⟩ ?_
 exact ⟨hz,its',n',r,e⟩
noncomputable def rSetL:V -> V -> V -> Hp -> (Hp -> Prop) -> Prop:=fun o i v H Q=>∃ p xs k j,o = .ref p /\ i = .int k /\ H p = some (.lst xs) /\ ixN xs.length k = some j /\ Q (upd H p (.lst (xs.set j v)))
theorem set_list:PSet X rSetL:=by
 intro pins s σ H o i v ov iv u Q I ro ri rv h
 obtain ⟨p,xs,k,j,rfl,rfl,hp,hj,q⟩:=h
 cases ro
 obtain ⟨t,rfl⟩:=ri
 obtain ⟨its,n,r,ho,hz⟩:=I.lst hp
 obtain ⟨h1,h2,h3,h4⟩:=ixN_seq hj
 have hl:=r.length
 have hn:=line63
 have I':Inv X pins σ (upd H p (.lst (xs.set j v))) { s with heap:=s.heap.update p (Obj.mapSeq (·.setIfInBounds j u)) } :=
  I.lstUpd hp ho (mapSeq_set its n j u) (r.set rv j) (by rw [List.length_set]; exact hz) s.toks
 by_cases h0:0 <= k
 ·have hk:k.toNat = j:=by
   rw [seqIndex_of h0 h4] at h1
   exact Option.some.inj h1
  exact PySem.W.ki_setAt ho h0 (by omega) (by rw [List.size_toArray,<- hl]; exact h4) (by rw [hk]; exact ⟨_,I',q⟩)
 ·have hk:(k + (its.toArray.size:Int)).toNat = j:=by
   rw [seqIndex_neg (by omega) h3] at h1
   rw [List.size_toArray,<- hl]
   exact Option.some.inj h1
  exact PySem.W.ki_setBack ho (by omega) (by rw [List.size_toArray,<- hl]; exact h3) (by omega) (by rw [hk]; exact ⟨_,I',q⟩)
theorem slice_bounds (lo hi:Option Int) (n:Nat):(sliceBounds lo hi none n).1 = ((HT.sIx n 0 lo:Nat):Int) /\ (sliceBounds lo hi none n).2.1 = ((HT.sIx n n hi:Nat):Int) /\ (sliceBounds lo hi none n).2.2 = 1:=by
 refine ⟨?_,?_,rfl⟩
 ·cases lo with
  | none=>simp [sliceBounds,HT.sIx]
  | some i =>
   simp only [sliceBounds,HT.sIx,Option.getD_none,show (1:Int) > 0 by decide,if_true]
   by_cases h:i < 0
   ·simp only [h,if_true] <;> omega
   ·simp only [h,if_false] <;> omega
 ·cases hi with
  | none=>simp [sliceBounds,HT.sIx]
  | some i =>
   simp only [sliceBounds,HT.sIx,Option.getD_none,show (1:Int) > 0 by decide,if_true]
   by_cases h:i < 0
   ·simp only [h,if_true] <;> omega
   ·simp only [h,if_false] <;> omega
theorem slicePick_cut (its:List Value) (lo hi:Option Int):slicePick its.toArray lo hi none = ((its.drop (HT.sIx its.length 0 lo)).take (HT.sIx its.length its.length hi - HT.sIx its.length 0 lo)).toArray:=by
 obtain ⟨h1,h2,h3⟩:=slice_bounds lo hi its.toArray.size
 unfold slicePick
 rw [h1,h2,h3]
 simp only [sliceRange_one,pick_run,List.size_toArray] <;> rfl
noncomputable def rSlL (K:PySem.W.Frag):V -> Option Int -> Option Int -> Hp -> VK -> Prop:=fun x lo hi H Q=>∃ a xs,x = .ref a /\ SqL K H a xs /\ ∀ p,H p = none -> Q (.ref p) (upd H p (.lst (cutV xs lo hi)))
theorem sl_list:SlR X (rSlL X.K):=by
 intro pins s σ H x v vl vu lo hi sl Q I rx hs pl pu h
 obtain ⟨a,xs,rfl,hx,q⟩:=h
 cases rx
 obtain ⟨its,r,ht,hz⟩:=I.list hx
 have hlen:=r.length
 refine ⟨"list",_,slot_list_getitem.lookup,ht.isList.typeIs,?_⟩
 refine wpAny_getItem_list_slice ht.isList hs pl pu .none (by simp) ?_ (by rw [List.size_toArray] <;> omega)
 rw [slicePick_cut,<- hlen]
 refine ⟨.ref s.heap.objs.size,_,I.laid (t':=s.toks) (o:=.lst (cutV xs lo hi)) (fun b ob q=>Heap.get?_push_of_some _ q) (Nat.le_refl _) ?_,rfl,q _ (I.hok.fresh (Nat.le_refl _))⟩
 exact ⟨Nat.le_trans (cutV_length xs lo hi) hz,_,0,(r.drop (HT.sIx xs.length 0 lo)).take (HT.sIx xs.length xs.length hi - HT.sIx xs.length 0 lo),Heap.get?_push_size _ rfl⟩
theorem call_len_seq:CallR X (.builtin "len") (fun xs H Q=>∃ p ys,xs = [.ref p] /\ (SqL X.K H p ys \/ SqT X.K H p ys) /\ Q (.int ys.length) H):=by
 intro pins s σ H xs us Q I r h
 obtain ⟨p,ys,rfl,hq,q⟩:=h
 obtain ⟨u,rfl,rx⟩:=vals1 r
 cases rx
 have hn:=line63
 rcases hq with hq | hq
 ·obtain ⟨its,r',pl,hz⟩:=I.list hq
  have hlen:=r'.length
  exact Calls.call_len_list pl.isList (by simp only [List.size_toArray] <;> omega) ⟨.int ys.length,H,I.tok _,⟨s.toks + 1,by rw [List.size_toArray,hlen]⟩,q⟩
 ·obtain ⟨its,r',pl,hz⟩:=I.tuple hq
  have hlen:=r'.length
  exact len_tuple pl (by simp only [List.size_toArray] <;> omega) ⟨.int ys.length,H,I.tok _,⟨s.toks + 1,by rw [List.size_toArray,hlen]⟩,q⟩
theorem call_list_of:CallR X (.type "list") (fun xs H Q=>∃ p ys,xs = [.ref p] /\ (SqL X.K H p ys \/ SqT X.K H p ys) /\ ∀ l,H l = none -> Q (.ref l) (upd H l (.lst ys))):=by
 intro pins s σ H xs us Q I r h
 obtain ⟨p,ys,rfl,hq,q⟩:=h
 obtain ⟨u,rfl,rx⟩:=vals1 r
 cases rx
 have fin:∀ (its:List Value),Vals ys its -> ys.length <= sizeLine -> ∀ (h':Heap) (c':Nat),(∀ b o',s.heap.get? b = some o' -> h'.get? b = some o') ->
   h'.get? s.heap.objs.size = some { cls:=.type "list",dict:=none,data:=.seq its.toArray c',slots:=#[] } -> EP X pins σ Q (.ref s.heap.objs.size) { s with heap:=h' }:=fun its r' hz h' c' kp e =>
  ⟨.ref s.heap.objs.size,_,I.laid (t':=s.toks) kp (Nat.le_refl _) (show ObjOk X.prog X.w _ h' _ (.lst ys) from ⟨hz,its,c',r',e⟩),rfl,q _ (I.hok.fresh (Nat.le_refl _))⟩
 rcases hq with hq | hq
 ·obtain ⟨its,r',pl,hz⟩:=I.list hq
  have hlen:=r'.length
  obtain ⟨o,ho,hc,n,hd⟩:=pl.isList
  exact call_list_seq p (.inl rfl) ho hc hd (fun h' c' kp e=>fin its r' hz h' c' kp e) (by simp only [List.size_toArray] <;> omega)
 ·obtain ⟨its,r',pl,hz⟩:=I.tuple hq
  have hlen:=r'.length
  obtain ⟨o,ho,hc,n,hd⟩:=pl
  exact call_list_seq p (.inr rfl) ho hc hd (fun h' c' kp e=>fin its r' hz h' c' kp e) (by simp only [List.size_toArray] <;> omega)
theorem call_tuple_of:CallR X (.type "tuple") (fun xs H Q=>∃ p ys,xs = [.ref p] /\ ((SqL X.K H p ys /\ ∀ l,H l = none -> Q (.ref l) (upd H l (.tup ys))) \/ (SqT X.K H p ys /\ Q (.ref p) H))):=by
 intro pins s σ H xs us Q I r h
 obtain ⟨p,ys,rfl,h⟩:=h
 obtain ⟨u,rfl,rx⟩:=vals1 r
 cases rx
 rcases h with ⟨hq,q⟩ | ⟨hq,q⟩
 ·obtain ⟨its,r',pl,hz⟩:=I.list hq
  have hlen:=r'.length
  refine call_tuple_list pl.isList (fun h' kp=>?_) (by simp only [List.size_toArray] <;> omega)
  have I1:Inv X pins σ H { s with heap:=h' }:=I.kept (t':=s.toks) kp
  have I2:Inv X pins σ (upd H h'.objs.size (.tup ys)) { s with heap:=h'.push { cls:=.type "tuple",data:=.seq its.toArray } } :=
   I1.laid (t':=s.toks) (fun b o e=>Heap.get?_push_of_some _ e) (Nat.le_refl _) (show ObjOk X.prog X.w _ _ _ (.tup ys) from ⟨hz,its,r',IsTupD.new _ _⟩)
  exact ⟨.ref h'.objs.size,_,I2,rfl,q _ (I1.hok.fresh (Nat.le_refl _))⟩
 ·obtain ⟨its,r',pl,hz⟩:=I.tuple hq
  exact call_tuple_same pl ⟨.ref p,H,I,rfl,q⟩
noncomputable def tyV (K:PySem.W.Frag) (T:String) (x:V) (H:Hp):Prop:=match x with
 | .str _=>T = "str"
 | .int _=>T = "int"
 | .ref p=>(T = "list" /\ ∃ xs,SqL K H p xs) \/ (T = "tuple" /\ ∃ o,K.lookup p = some o /\ o.cls = .type "tuple" /\ o.dict = none) \/
   (T = "dict" /\ ((∃ kvs,H p = some (.dK kvs)) \/ ∃ kvs,H p = some (.dT kvs))) \/ (T = "set" /\ ∃ S n,H p = some (.set S n))
 | _=>False
theorem tyV_is {pins:List (Addr × Obj)} {σ:St} {H:Hp} {s:Shared} {T:String} {x:V} {v:Value} (I:Inv X pins σ H s) (r:RelV x v) (ty:tyV X.K T x H) :
  s.TypeIs v T /\ ∀ a,v = .ref a -> ∃ ob,s.heap.get? a = some ob /\ ob.dict = none:=by
 cases x with
 | str z =>
  obtain ⟨t,rfl⟩:=r
  cases (show T = "str" from ty)
  exact ⟨typeIs_str s z t,fun _ e=>nomatch e⟩
 | int i =>
  obtain ⟨t,rfl⟩:=r
  cases (show T = "int" from ty)
  exact ⟨typeIs_int s i t,fun _ e=>nomatch e⟩
 | ref p =>
  cases r
  rcases ty with ⟨rfl,xs,hq⟩ | ⟨rfl,o,hk,hc,hd⟩ | ⟨rfl,hk⟩ | ⟨rfl,S,n,hk⟩
  ·obtain ⟨its,_,pl,_⟩:=I.list hq
   refine ⟨pl.isList.typeIs,fun a e=>?_⟩
   cases e
   obtain ⟨o,n,e,c,hd,_⟩:=pl
   exact ⟨o,e,hd⟩
  ·refine ⟨⟨o,I.kIn p o hk,hc⟩,fun a e=>?_⟩
   cases e
   exact ⟨o,I.kIn _ o hk,hd⟩
  ·have z:∃ o,s.heap.get? p = some o /\ o.ExactDict:=by
    rcases hk with ⟨kvs,hk⟩ | ⟨kvs,hk⟩
    ·obtain ⟨_,_,_,_,o,_,_,e,ex,_⟩:=I.hok p _ hk
     exact ⟨o,e,ex⟩
    ·obtain ⟨_,_,_,_,o,_,_,e,ex,_⟩:=I.hok p _ hk
     exact ⟨o,e,ex⟩
   obtain ⟨o,e,ex⟩:=z
   refine ⟨⟨o,e,ex.1⟩,fun a e2=>?_⟩
   cases e2
   exact ⟨o,e,ex.2.1⟩
  ·obtain ⟨o,_,_,_,e,ex,_⟩:=I.hok p _ hk
   refine ⟨⟨o,e,ex.1⟩,fun a e2=>?_⟩
   cases e2
   exact ⟨o,e,ex.2.1⟩
 | _=>exact False.elim ty
noncomputable def tBM0 (K:PySem.W.Frag) (T:String) (r:V -> List V -> Hp -> VK -> Prop) (to:TE):TE:=fun σ H Q=>to σ H fun x H1=>tyV K T x H1 /\ r x [] H1 Q
noncomputable def tBM (K:PySem.W.Frag) (T:String) (r:V -> List V -> Hp -> VK -> Prop) (to:TE) (t:TA):TE:=fun σ H Q=>to σ H fun x H1=>tyV K T x H1 /\ t σ H1 fun xs H2=>r x xs H2 Q
variable {o e:Expr} {es:List Expr} {to:TE} {t:TA} {name:Str} {apos cpos:Pos} {T id:String} {r:V -> List V -> Hp -> VK -> Prop}
theorem pe_bm0 (pa:PlainAttrs T) (slot:Slot T name id) (hty:typeOf (.builtin id) = pure (.type "method_descriptor")) (hm:MtR X id r) (ho:PE X o to)
  (hbase:attributeBase o name X.env (eval o X.env) = eval o X.env:=by rfl) (hline:(apos.endLine == cpos.line) = true:=by rfl):PE X (.Call (.Attribute o name apos) [] [] cpos) (tBM0 X.K T r to):=by
 intro pins s σ H Q I h
 refine wpAny_Call_method0_late hbase hline (thn (ho pins s σ H _ I h) fun v s1 ⟨x,H1,I1,r1,ty,q1⟩=>?_)
 obtain ⟨h1,h2⟩:=tyV_is I1 r1 ty
 exact ⟨T,id,pa,slot,hty,h1,h2,Calls.callWith_builtin rfl (PySem.evalArgs_none (hm pins s1 σ H1 x [] v [] Q I1 r1 .nil q1))⟩
theorem pe_bm (pa:PlainAttrs T) (slot:Slot T name id) (hty:typeOf (.builtin id) = pure (.type "method_descriptor")) (hm:MtR X id r) (ho:PE X o to) (ha:PA X (e :: es) t)
  (hbase:attributeBase o name X.env (eval o X.env) = eval o X.env:=by rfl)
  (hfew:((backTo cpos (starEach (e :: es) X.env)).all (fun x=>!x.1) && (backToKw cpos (keywordEach [] X.env)).all (fun x=>x.1.isSome)
    && decide ((e :: es).length + ([]:List Keyword).length + (if ([]:List Keyword).isEmpty then 0 else 1) < 30)) = true:=by rfl)
  (hline:(apos.endLine == cpos.line) = true:=by rfl) (hs:starEach (e :: es) X.env = (false,eval e X.env) :: starEach es X.env:=by rfl) (hplain:(backTo cpos (starEach es X.env)).any (·.1) = false:=by rfl) :
  PE X (.Call (.Attribute o name apos) (e :: es) [] cpos) (tBM X.K T r to t):=by
 intro pins s σ H Q I h
 refine wpAny_Call_method_late hbase hfew hline rfl (thn (ho pins s σ H _ I h) fun v s1 ⟨x,H1,I1,r1,ty,q1⟩=>?_)
 obtain ⟨h1,h2⟩:=tyV_is I1 r1 ty
 refine ⟨T,id,pa,slot,hty,h1,h2,?_⟩
 have hA:=ha cpos pins s1 σ H1 _ I1 q1
 rw [hs] at hA ⊢
 refine Calls.callWith_builtin (by show (false || (backTo cpos (starEach es X.env)).any (·.1)) = false; rw [hplain] <;> rfl) (Calls.evalArgs_plain ?_)
 exact thn hA fun us s2 ⟨vs,H2,I2,r2,q2⟩=>hm pins s2 σ H2 x vs v us Q I2 r1 r2 q2
end
end L2
namespace L2
open PySem PySem.Spec PyProof.Rows
noncomputable def MtM (X:Cx) (id:String) (r:V -> List V -> Hp -> VK -> Prop):Prop :=
 ∀ (pins:List (Addr × Obj)) (s:Shared) (σ:St) (H:Hp) (x:V) (xs:List V) (v:Value) (us:List Value) (Q:VK),Inv X pins σ H s -> RelV x v -> Vals xs us -> r x xs H Q ->
  wpAny (model X.prog X.w) X.A (call (.builtin id) (v :: us)) (EP X pins σ Q) X.xe s
theorem Vals.one:∀ {x:V} {us:List Value},Vals [x] us -> ∃ u,us = [u] /\ RelV x u
 | _,_,.cons r .nil=>⟨_,rfl,r⟩
theorem Vals.zero:∀ {us:List Value},Vals [] us -> us = []
 | _,.nil=>rfl
theorem Vals.rep {xs:List V} {us:List Value} (h:Vals xs us):∀ k:Nat,Vals (List.replicate k xs).flatten (List.replicate k us).flatten
 | 0=>.nil
 | k + 1=>by
  rw [List.replicate_succ,List.replicate_succ,List.flatten_cons,List.flatten_cons]
  exact Vals.append h (Vals.rep h k)
theorem foldl_rep (its:List Value):∀ (k:Nat) (acc:List Value),
  List.foldl (fun x1 x2=>x1 ++ x2) acc.toArray (List.replicate k its.toArray) = (acc ++ (List.replicate k its).flatten).toArray
 | 0,acc=>by simp
 | k + 1,acc=>by
  have e:acc.toArray ++ its.toArray = (acc ++ its).toArray:=by simp
  have e2:(acc ++ its) ++ (List.replicate k its).flatten = acc ++ (List.replicate (k + 1) its).flatten:=by
   rw [List.replicate_succ,List.flatten_cons,List.append_assoc]
  rw [<- e2,<- foldl_rep its k (acc ++ its),<- e,List.replicate_succ,List.foldl_cons]
section
variable {X:Cx} {pins:List (Addr × Obj)} {σ:St} {H:Hp} {s:Shared} {l b:Addr} {xs ys zs:List V}
theorem Inv.lset {its its':List Value} {n:Nat} {f:Array Value -> Array Value} {t':Nat} (I:Inv X pins σ H s) (hH:H l = some (.lst xs))
  (e:s.heap.get? l = some { cls:=.type "list",data:=.seq its.toArray n }) (hf:f its.toArray = its'.toArray) (hv:Vals ys its') (hz:ys.length <= sizeLine) :
  Inv X pins σ (upd H l (.lst ys)) { s with heap:=s.heap.update l (Obj.mapSeq f),toks:=t' }:=by
 have q:=PySem.IsL.update e f
 rw [hf] at q
 refine I.write (x:=l) (e:=l) (by rw [hH]; exact trivial) (.inl rfl) (fun b' u hb hu=>(Heap.get?_update_other s.heap (Obj.mapSeq f) (Ne.symm hb)).trans hu) ⟨_,q⟩ ?_
 exact ⟨hz,its',_,hv,q⟩
theorem Inv.lnew {its:List Value} {t':Nat} (I:Inv X pins σ H s) (hv:Vals ys its) (hz:ys.length <= sizeLine) :
  Inv X pins σ (upd H s.heap.objs.size (.lst ys)) { s with heap:=s.heap.push { cls:=.type "list",data:=.seq its.toArray },toks:=t' } :=
 I.laid (fun _ _ q=>Heap.get?_push_of_some _ q) (Nat.le_refl _) ⟨hz,its,0,hv,Heap.get?_push_size _ rfl⟩
theorem Inv.fresh (I:Inv X pins σ H s):H s.heap.objs.size = none:=I.hok.fresh (Nat.le_refl _)
theorem Inv.lstM (I:Inv X pins σ H s) (hH:H l = some (.lst xs)):xs.length <= sizeLine /\ ∃ (its:List Value) (n:Nat),Vals xs its /\ xs.length = its.length /\ s.heap.get? l = some { cls:=.type "list",data:=.seq its.toArray n }:=by
 obtain ⟨z,its,n,r,e⟩:=I.hok l _ hH
 exact ⟨z,its,n,r,r.length,e⟩
theorem notLongL {n:Nat} (h:n <= sizeLine):Builtin.List.listTooLong n = false:=by
 unfold Builtin.List.listTooLong
 exact decide_eq_false (by omega)
end
section
variable {X:Cx}
noncomputable def rAppend:V -> List V -> Hp -> VK -> Prop:=fun x vs H Q=>∃ l xs y,x = .ref l /\ vs = [y] /\ H l = some (.lst xs) /\ xs.length < sizeLine /\ Q .non (upd H l (.lst (xs ++ [y])))
theorem mt_append:MtM X "list.append" rAppend:=by
 intro pins s σ H x vs v us Q I rx rv h
 obtain ⟨l,xs,y,rfl,rfl,hH,hz,q⟩:=h
 cases rx
 obtain ⟨u,rfl,ru⟩:=rv.one
 obtain ⟨z,its,n,r,hl,e⟩:=I.lstM hH
 refine call_meets F.slot_list_append ⟨_,e,rfl⟩ F.entry_list_append (F.args_list_append_2 _ _) (PySem.list_append l its.toArray n u (by rw [List.size_toArray]; omega)) ⟨e,?_⟩
 refine ⟨.non,_,I.lset (its':=its ++ [u]) hH e (by simp) (r.append (.cons ru .nil)) ?_,rfl,q⟩
 rw [List.length_append,List.length_singleton]
 omega
noncomputable def rClear:V -> List V -> Hp -> VK -> Prop:=fun x vs H Q=>∃ l xs,x = .ref l /\ vs = [] /\ H l = some (.lst xs) /\ Q .non (upd H l (.lst []))
theorem mt_clear:MtM X "list.clear" rClear:=by
 intro pins s σ H x vs v us Q I rx rv h
 obtain ⟨l,xs,rfl,rfl,hH,q⟩:=h
 cases rx
 have hus:=rv.zero
 subst hus
 obtain ⟨z,its,n,r,hl,e⟩:=I.lstM hH
 refine call_meets F.slot_list_clear ⟨_,e,rfl⟩ F.entry_list_clear (F.args_list_clear_1 _) (AutoSeq1.list_clear_list_0 l its.toArray n (by rw [List.size_toArray]; omega)) ⟨e,?_⟩
 exact ⟨.non,_,I.lset (its':=[]) (ys:=[]) hH e rfl .nil (Nat.zero_le _),rfl,q⟩
noncomputable def rCat:R2:=fun x y H Q=>∃ l b xs zs,x = .ref l /\ y = .ref b /\ H l = some (.lst xs) /\ H b = some (.lst zs) /\ xs.length + zs.length <= sizeLine /\ ∀ p,H p = none -> Q (.ref p) (upd H p (.lst (xs ++ zs)))
theorem op_cat:OpR X (binaryOp .Add) rCat:=by
 intro pins s σ H x y v u Q I rx ry h
 obtain ⟨l,b,xs,zs,rfl,rfl,hH,hB,hz,q⟩:=h
 cases rx
 cases ry
 obtain ⟨z,its,n,r,hl,e⟩:=I.lstM hH
 obtain ⟨z2,its2,n2,r2,hl2,e2⟩:=I.lstM hB
 refine PySem.P.add_list e e2 ?_ (by rw [List.size_toArray,List.size_toArray]; omega)
 have ea:its.toArray ++ its2.toArray = (its ++ its2).toArray:=by simp
 rw [ea]
 exact ⟨.ref _,_,I.lnew (t':=s.toks) (r.append r2) (by rw [List.length_append]; omega),rfl,q _ I.fresh⟩
noncomputable def rRep:R2:=fun x y H Q=>∃ l k xs,x = .ref l /\ y = .int k /\ H l = some (.lst xs) /\ -(2 ^ 63) <= k /\ k < 2 ^ 63 /\ xs.length * k.toNat <= sizeLine /\
 ∀ p,H p = none -> Q (.ref p) (upd H p (.lst (List.replicate k.toNat xs).flatten))
theorem len_rep {α:Type} (xs:List α) (k:Nat):(List.replicate k xs).flatten.length = k * xs.length:=by
 induction k with
 | zero=>simp
 | succ k ih=>rw [List.replicate_succ,List.flatten_cons,List.length_append,ih,Nat.succ_mul,Nat.add_comm]
theorem op_rep:OpR X (binaryOp .Mult) rRep:=by
 intro pins s σ H x y v u Q I rx ry h
 obtain ⟨l,k,xs,rfl,rfl,hH,h1,h2,hz,q⟩:=h
 cases rx
 obtain ⟨t,rfl⟩:=ry
 obtain ⟨z,its,n,r,hl,e⟩:=I.lstM hH
 have hlen:its.toArray.size * k.toNat <= sizeLine:=by rw [List.size_toArray,<- hl]; exact hz
 have hcap:¬ its.toArray.size * k.toNat > (2 ^ 63 - 1) / 8:=by
  have:(sizeLine:Nat) <= (2 ^ 63 - 1) / 8:=by decide
  omega
 have hfit:¬ (!Builtin.List.listFitsIndex k) = true:=by
  rw [fitsIndex_both h1 h2]
  exact Bool.false_ne_true
 have hlong:¬ Builtin.List.listTooLong (its.toArray.size * k.toNat) = true:=by
  rw [notLongL hlen]
  exact Bool.false_ne_true
 have hnew:List.foldl (fun x1 x2=>x1 ++ x2) #[] (List.replicate (if its.toArray.isEmpty = true then 0 else k.toNat) its.toArray) = (List.replicate k.toNat its).flatten.toArray:=by
  have f0:∀ m:Nat,List.foldl (fun x1 x2=>x1 ++ x2) #[] (List.replicate m its.toArray) = (List.replicate m its).flatten.toArray:=fun m=>by
   have:=foldl_rep its m []
   rw [List.nil_append] at this
   exact this
  rw [f0]
  cases its with
  | nil=>simp
  | cons a r'=>rw [if_neg (by simp)]
 refine wpAny_binaryOp_repeat_ref (T:="list") (U:="int") (by decide) ⟨_,e,rfl⟩ (fun s'=>typeIs_int s' k t) noFill_list_mul F.fills_int_mul F.slot_int_rmul repeat_list F.slot_int_index.lookup
  (call_meets F.slot_int_rmul (typeIs_int s k t) F.entry_int_rmul (F.args_int_rmul_2 _ _) (int___rmul___int_list k t l its.toArray n)
    ⟨e,rfl,⟨_,e,rfl⟩,call_meets F.slot_list_mul ⟨_,e,rfl⟩ F.entry_list_mul (F.args_list_mul_2 _ _) (AutoListH.list___mul___list_int_3 l its.toArray n k t hfit hcap hlong) ⟨e,?_⟩⟩)
 rw [hnew]
 exact ⟨.ref _,_,I.lnew (t':=s.toks) (r.rep k.toNat) (by rw [len_rep,Nat.mul_comm]; exact hz),rfl,q _ I.fresh⟩
end
section
variable {prog:Program} {w:World} {A:Around} {E:Value -> Shared -> Prop} {s:Shared}
set_option maxRecDepth 100000 in
end
section
variable {X:Cx}
end
end L2
namespace L2
open PySem PySem.Spec PyProof.Rows
section
variable {κ:Type} [DecidableEq κ]
noncomputable def valV (kvs:List (κ × V)) (k:κ):Option V:=(kvs.find? fun kv=>decide (kv.1 = k)).map (·.2)
noncomputable def putK (kvs:List (κ × V)) (k:κ) (v:V):List (κ × V) :=
 if (kvs.any fun kv=>decide (kv.1 = k)) = true then kvs.map (fun kv=>if kv.1 = k then (kv.1,v) else kv) else kvs ++ [(k,v)]
theorem valV_pos {p:κ × V} {r:List (κ × V)} {k:κ} (e:p.1 = k):valV (p :: r) k = some p.2:=by simp [valV,List.find?_cons,e]
theorem valV_neg {p:κ × V} {r:List (κ × V)} {k:κ} (e:¬ p.1 = k):valV (p :: r) k = valV r k:=by simp [valV,List.find?_cons,e]
theorem length_putK (kvs:List (κ × V)) (k:κ) (v:V):(putK kvs k v).length <= kvs.length + 1:=by
 unfold putK
 split
 ·rw [List.length_map]; omega
 ·rw [List.length_append,List.length_cons,List.length_nil]; omega
theorem KV.val {kvs:List (κ × V)} {vs:List (κ × Value)} (r:KV kvs vs) (k:κ):RelO (valV kvs k) (valueAt vs k):=by
 unfold KV at r
 induction r with
 | nil=>exact True.intro
 | @cons p q ps qs h t ih =>
  obtain ⟨h1,h2⟩:=h
  by_cases e:p.1 = k
  ·have e':q.1 = k:=h1.symm.trans e
   have b:valueAt (q :: qs) k = some q.2:=by simp [valueAt,List.find?_cons,e']
   rw [valV_pos e,b]; exact h2
  ·have e':¬ q.1 = k:=fun z=>e (h1.trans z)
   have b:valueAt (q :: qs) k = valueAt qs k:=by simp [valueAt,List.find?_cons,e']
   rw [valV_neg e,b]; exact ih
theorem KV.any {kvs:List (κ × V)} {vs:List (κ × Value)} (r:KV kvs vs) (k:κ):(kvs.any fun kv=>decide (kv.1 = k)) = vs.any fun kv=>decide (kv.1 = k):=by
 unfold KV at r
 induction r with
 | nil=>rfl
 | cons h t ih=>rw [List.any_cons,List.any_cons,ih,h.1]
theorem KV.repl {kvs:List (κ × V)} {vs:List (κ × Value)} (r:KV kvs vs) (k:κ) {y:V} {u:Value} (ry:RelV y u) :
  KV (kvs.map fun kv=>if kv.1 = k then (kv.1,y) else kv) (vs.map fun kv=>if kv.1 = k then (kv.1,u) else kv):=by
 unfold KV at r ⊢
 induction r with
 | nil=>exact .nil
 | @cons p q ps qs h t ih =>
  rw [List.map_cons,List.map_cons]
  refine .cons ?_ ih
  obtain ⟨h1,h2⟩:=h
  by_cases e:p.1 = k
  ·rw [if_pos e,if_pos (h1.symm.trans e)]; exact ⟨h1,ry⟩
  ·rw [if_neg e,if_neg (fun z=>e (h1.trans z))]; exact ⟨h1,h2⟩
theorem KV.put {kvs:List (κ × V)} {vs:List (κ × Value)} (r:KV kvs vs) (k:κ) {y:V} {u:Value} (ry:RelV y u):KV (putK kvs k y) (stored vs k u):=by
 unfold putK stored
 rw [r.any k]
 by_cases e:(vs.any fun kv=>decide (kv.1 = k)) = true
 ·rw [if_pos e,if_pos e]; exact r.repl k ry
 ·rw [if_neg e,if_neg e]; exact Paired.snoc r ⟨rfl,ry⟩
theorem KV.length {kvs:List (κ × V)} {vs:List (κ × Value)} (r:KV kvs vs):kvs.length = vs.length:=Paired.length r
end
theorem kV_is {P:Program} {w:World} {k:Key} {u:Value} (r:RelV (kV k) u):(mixKind P w).is k u = true:=by
 cases k with
 | inl i=>obtain ⟨t,e⟩:=(show ∃ t,u = Value.int i t from r); subst e; exact mixKind_int P w i t
 | inr x=>obtain ⟨t,e⟩:=(show ∃ t,u = Value.str x t from r); subst e; exact mixKind_str P w x t
theorem items_are {P:Program} {w:World}:∀ {ks:List Key} {us:List Value},Vals (ks.map kV) us -> ItemsAre (mixKind P w) ks us
 | [],_,r=>by rw [List.map_nil] at r; cases r; exact .nil
 | k :: ks,_,r=>by
  rw [List.map_cons] at r
  cases r with
  | cons h t=>exact .cons (kV_is h) (items_are t)
noncomputable abbrev KT (H:Hp):List (List Key × V) -> List (List Key × Addr × Value) -> Prop:=Paired fun p q=>p.1 = q.1 /\ H q.2.1 = some (.tup (p.1.map kV)) /\ RelV p.2 q.2.2
theorem KT.val {H:Hp} {kvs:List (List Key × V)} {xs:List (List Key × Addr × Value)} (r:KT H kvs xs) (k:List Key):RelO (valV kvs k) ((atKey xs k).map (·.2)):=by
 induction r with
 | nil=>exact True.intro
 | @cons p q ps qs h t ih =>
  obtain ⟨h1,_,h2⟩:=h
  by_cases e:p.1 = k
  ·have e':q.1 = k:=h1.symm.trans e
   have b:atKey (q :: qs) k = some q.2:=by simp [atKey,List.find?_cons,e']
   rw [valV_pos e,b]; exact h2
  ·have e':¬ q.1 = k:=fun z=>e (h1.trans z)
   have b:atKey (q :: qs) k = atKey qs k:=by simp [atKey,List.find?_cons,e']
   rw [valV_neg e,b]; exact ih
section
variable {P:Program} {w:World} {H:Hp} {h:Heap} {a:Addr}
theorem rd_of {u:HO} (ok:HOk P w H h) (e:Rd H a u):ObjOk P w H h a u:=e.ok ok
theorem dk_rd {kvs:List (Key × V)} (ok:HOk P w H h) (e:Rd H a (.dK kvs)):kvs.length <= sizeLine /\ (a == sysModules) = false /\ ∃ vs,KV kvs vs /\ h.DictOf (mixKind P w) a vs :=
 show ObjOk P w H h a (.dK kvs) from rd_of ok e
theorem key_of {ks:List Key} (ok:HOk P w H h) (e:H a = some (.tup (ks.map kV))):(tupleKind (mixKind P w)).is h ks a:=by
 obtain ⟨_,its,r,o,h1,h2,n,h3,_⟩:=(show ObjOk P w H h a (.tup (ks.map kV)) from ok a _ e)
 exact ⟨o,its.toArray,n,h1,h2,h3,by simpa using items_are r⟩
theorem dt_rd {kvs:List (List Key × V)} (ok:HOk P w H h) (e:Rd H a (.dT kvs)):kvs.length <= sizeLine /\ (a == sysModules) = false /\
  ∃ xs,KT H kvs xs /\ h.DictOfH (tupleKind (mixKind P w)) a xs:=by
 obtain ⟨z,y,xs,r,o,es,ep,h1,h2,h3,h4,h5⟩:=(show ObjOk P w H h a (.dT kvs) from rd_of ok e)
 refine ⟨z,y,xs,r,o,es,ep,h1,h2,h3,h4,fun x hx=>?_,h5⟩
 have all:∀ {l:List (List Key × V)} {m:List (List Key × Addr × Value)},KT H l m -> ∀ x ∈ m,(tupleKind (mixKind P w)).is h x.1 x.2.1:=by
  intro l m q
  induction q with
  | nil=>intro x hx; exact nomatch hx
  | @cons p q ps qs hq t ih =>
   intro x hx
   rcases List.mem_cons.mp hx with e | hx
   ·subst e
    exact key_of ok (by rw [<- hq.1]; exact hq.2.1)
   ·exact ih x hx
 exact all r x hx
end
noncomputable def DGet (H:Hp) (a:Addr) (y:V) (r:Option V):Prop :=
 (∃ kvs k,Rd H a (.dK kvs) /\ y = kV k /\ r = valV kvs k) \/ ∃ kvs k b,Rd H a (.dT kvs) /\ y = .ref b /\ H b = some (.tup (k.map kV)) /\ r = valV kvs k
section
variable {X:Cx} {pins:List (Addr × Obj)} {σ:St} {H:Hp} {s:Shared} {a:Addr} {y v:V} {u r:Value} {o:Option V} {A:Around} {E:Value -> Shared -> Prop}
theorem Inv.big (I:Inv X pins σ H s):sysModules < s.heap.objs.size:=by
 have h:mainGlobals < s.heap.objs.size:=(I.mod.glob.keeps I.bk).lt
 exact Nat.lt_trans (by decide) h
theorem d_getItem {Q:Value -> Shared -> Prop} (hu:A.units + 1 < cLine) (I:Inv X pins σ H s) (g:DGet H a y (some v)) (ry:RelV y u) (h:∀ w' s',Inv X pins σ H s' -> RelV v w' -> Q w' s') :
  wpAny (model X.prog X.w) A (getItem (.ref a) u) Q E s:=by
 rcases g with ⟨kvs,k,e,ey,l⟩ | ⟨kvs,k,b,e,ey,eb,l⟩
 ·subst ey
  obtain ⟨z,hd,vs,rel,dd⟩:=dk_rd I.hok e
  obtain ⟨w',hw,rw'⟩:=RelO.some_of (v:=v) (o:=valueAt vs k) (by rw [l]; exact rel.val k)
  exact wpAny_getItem_of (kV_is ry) dd.mapOf hw (h w' _ (I.tok _) rw')
 ·subst ey
  cases (show u = Value.ref b from ry)
  obtain ⟨z,hd,xs,rel,dd⟩:=dt_rd I.hok e
  obtain ⟨w',hw,rw'⟩:=RelO.some_of (v:=v) (o:=(atKey xs k).map (·.2)) (by rw [l]; exact rel.val k)
  obtain ⟨p,hp,hp2⟩:=Option.map_eq_some_iff.mp hw
  refine wpAny_getItem_heap (tupleKind_room_in1 hu) (key_of I.hok eb) dd hp ?_
  rw [hp2]
  exact h w' _ (I.tok _) rw'
end
section
variable {X:Cx} {pins:List (Addr × Obj)} {σ:St} {H:Hp} {s:Shared} {a:Addr} {kvs:List (Key × V)} {k:Key} {u:Value} {A:Around} {E:Value -> Shared -> Prop}
end
noncomputable def NoSl (i:Expr):Prop:=∀ ov iv,subscripted i false ov iv = operate [ov,iv] (getItem ov iv)
theorem subD_of {prog:Program} {w:World} {A:Around} {E:Value -> Shared -> Prop} {s:Shared} {env:Env} {value slice:Expr} {pos:Pos} {T id:String} {Q:Value -> Shared -> Prop}
  (hl:typeLookup (.type T) "__getitem__" = pure (some (.builtin id))) (hs:NoSl slice)
  (h:wpAny (model prog w) A (eval value env) (fun o s₁=>wpAny (model prog w) A (eval slice env) (fun i s₂=>s₂.TypeIs o T /\ wpAny (model prog w) A (getItem o i) Q E s₂) E s₁) E s) :
  wpAny (model prog w) A (eval (.Subscript value slice pos) env) Q E s:=by
 refine Subscript_ (wpAny_mono h (fun o s₁ h₁=>wpAny_mono h₁ (fun i s₂ h₂=>?_) fun _ _ x=>x) fun _ _ x=>x)
 obtain ⟨hT,h₂⟩:=h₂
 unfold subscriptTail
 refine wpAny_bind ?_
 rw [getitemInPython_of_ne hT.not_modules]
 refine wpAny_bind (wpAny_specialOf hT hl ?_)
 have fin:wpAny (model prog w) A (subscripted slice false o i) (fun r s₃=>wpAny (model prog w) A (letTemporaryGo value o r >>= fun _=>pure r) Q E s₃) E s₂:=by
  rw [hs o i]
  exact wpAny_operating (wpAny_mono h₂ (fun r s₃ h₃=>wpAny_bind (wpAny_letTemporaryGo (wpAny_pure h₃))) fun _ _ x=>x)
 first
  | exact wpAny_pure (wpAny_bind fin)
  | exact wpAny_bind (wpAny_pure (wpAny_bind fin))
  | exact wpAny_bind fin
theorem dict_typeIs {X:Cx} {pins:List (Addr × Obj)} {σ:St} {H:Hp} {s:Shared} {a:Addr} {y:V} {o:Option V} (I:Inv X pins σ H s) (g:DGet H a y o):s.TypeIs (.ref a) "dict":=by
 rcases g with ⟨kvs,k,e,_,_⟩ | ⟨kvs,k,b,e,_,_,_⟩
 ·obtain ⟨_,_,vs,_,dd⟩:=dk_rd I.hok e
  exact dd.typeIs
 ·obtain ⟨_,_,xs,_,dd⟩:=dt_rd I.hok e
  exact dd.typeIs
noncomputable def tDGet (td ty:TE):TE:=fun σ H Q=>td σ H fun x H1=>ty σ H1 fun y H2=>∃ a v,x = .ref a /\ DGet H2 a y (some v) /\ Q v H2
section
variable {X:Cx} {o i e value:Expr} {pos pos' tpos:Pos} {td ty tv:TE}
theorem pe_dget (hu:X.A.units + 1 < cLine) (ho:PE X o td) (hi:PE X i ty) (hs:NoSl i):PE X (.Subscript o i pos) (tDGet td ty):=by
 intro pins s σ H Q I h
 refine subD_of PySem.F.slot_dict_getitem.lookup hs (thn (ho pins s σ H _ I h) fun u s1 ⟨x,H1,I1,rx,q1⟩=>thn (hi pins s1 σ H1 _ I1 q1) fun iv s2 ⟨y,H2,I2,ry,a,v,ex,g,q2⟩=>?_)
 subst ex
 obtain rfl:u = Value.ref a:=rx
 exact ⟨dict_typeIs I2 g,d_getItem hu I2 g ry fun w' s3 I3 rw'=>⟨v,H2,I3,rw',q2⟩⟩
end
section
variable {X:Cx} {pos:Pos}
end
structure M1 (X:Cx) (o:Expr) (m:Str) (apos:Pos) (e:Expr) (cpos:Pos):Prop where
 base:attributeBase o m X.env (eval o X.env) = eval o X.env
 few:((backTo cpos (starEach [e] X.env)).all (fun x=>!x.1) && (backToKw cpos (keywordEach [] X.env)).all (fun x=>x.1.isSome)
   && decide (([e]:List Expr).length + ([]:List Keyword).length + (if ([]:List Keyword).isEmpty then 0 else 1) < 30)) = true
 line:(apos.endLine == cpos.line) = true
 trees:backTo cpos (starEach [e] X.env) = [(false,eval e X.env)]
structure M2 (X:Cx) (o:Expr) (m:Str) (apos:Pos) (e f:Expr) (cpos:Pos):Prop where
 base:attributeBase o m X.env (eval o X.env) = eval o X.env
 few:((backTo cpos (starEach [e,f] X.env)).all (fun x=>!x.1) && (backToKw cpos (keywordEach [] X.env)).all (fun x=>x.1.isSome)
   && decide (([e,f]:List Expr).length + ([]:List Keyword).length + (if ([]:List Keyword).isEmpty then 0 else 1) < 30)) = true
 line:(apos.endLine == cpos.line) = true
 trees:backTo cpos (starEach [e,f] X.env) = [(false,eval e X.env),(false,eval f X.env)]
section
variable {X:Cx} {pins:List (Addr × Obj)} {σ:St} {H:Hp} {s:Shared} {a:Addr} {y d:V} {u r:Value} {o:Option V} {A:Around} {E:Value -> Shared -> Prop}
end
section
variable {X:Cx} {o e f:Expr} {apos cpos:Pos} {td ty tx:TE}
end
section
variable {X:Cx} {pins:List (Addr × Obj)} {σ:St} {H:Hp} {s:Shared} {a:Addr} {kvs:List (Key × V)} {A:Around} {E:Value -> Shared -> Prop}
end
section
variable {X:Cx} {pins:List (Addr × Obj)} {σ:St} {H:Hp} {s:Shared} {a:Addr} {y:V} {u:Value} {A:Around} {E:Value -> Shared -> Prop}
end
end L2
namespace Att
open PySem PySem.W PySem.Calls PyProof.Rows
theorem ints_of_wellAll {P:Params} {h:Heap}:∀ (ns:List Int) (vs:List Value),WellAll P h vs (ns.map WData.int) -> IntsAre vs ns:=by
 intro ns
 induction ns with
 | nil =>
  intro vs w
  rw [List.map_nil] at w
  cases w
  exact .nil
 | cons n ns ih =>
  intro vs w
  rw [List.map_cons] at w
  cases w with
  | cons a b =>
   cases a
   exact .cons _ _ (ih _ b)
theorem script_of {l:OpenLaw} {n:Nat} (hn:l.most = some n) {P:Params} {h:Heap} {args:List WData} {vals:List Value}
  (hpre:l.row.toRowW.claim.pre args = true) (hwl:WellAll P h vals args) :
  ∃ a vs ns,vals = [Value.ref a] /\ args = [WData.list (ns.map WData.int)] /\ h.get? a = some { cls:=.type "list",data:=.seq vs.toArray } /\ IntsAre vs ns /\ ns.length <= n:=by
 have hsh:WShape.hasAll [] args [.list .int] = true:=(pre_splitW hpre).1
 have hc:l.pre.holds [] { args:=args } = true:=(pre_splitW hpre).2
 obtain ⟨d,r,rfl,h1,h2⟩:=hasAllW_cons hsh
 obtain rfl:=hasAllW_nil h2
 obtain ⟨xs,rfl,h3⟩:=hasW_list h1
 obtain ⟨ns,rfl⟩:=items_int h3
 have hlen:ns.length <= n:=by
  unfold OpenLaw.pre at hc
  have h4:(WTm.not (.lt (.lit (.int (n:Int))) (.len (.arg 0)))).holds [] { args:=[.list (ns.map .int)] } = true:=by
   have h4:=(holds_andW hc).1
   rw [hn] at h4
   exact h4
  have h5:=condW_of h4 (w_not (w_lt w_lit (w_len_list (w_arg rfl))))
  rw [List.length_map] at h5
  refine Nat.le_of_not_lt fun q=>?_
  have q':(n:Int) < ((ns.length:Nat):Int):=by omega
  first
   | (rw [decide_eq_true q'] at h5; exact absurd h5 (by decide))
   | (simp at h5; omega)
 cases hwl with
 | cons w1 w2 =>
  cases w2
  cases w1 with
  | list ho hall=>exact ⟨_,_,ns,rfl,rfl,ho,ints_of_wellAll ns _ hall,hlen⟩
theorem post_true (l:OpenLaw) (args:List WData):l.row.toRowW.claim.post args (.bool true) args = true :=
 postW_of (r:=l.row.toRowW) (X:=(true == true))
  (show WShape.has [] (.bool true) .bool = true by first | rfl | decide | simp [WShape.has,WShape.arms,WShape.armsAll])
  (show (WTm.eq .res (.lit (.bool true))).value [] { args:=args,res:=some (.bool true),after:=args } = some (.bool (true == true)) from w_eq_bool (w_res rfl) w_lit) rfl
theorem attach_call {l:OpenLaw} {n:Nat} {q:Program} {loose:List Str} {XP:(Str -> Option Value) -> Heap -> Prop} {YP:World -> Heap -> Prop} {d:DefRec}
  (hn:l.most = some n) (hdf:d.params.defaults = [])
  (call:∀ (w:World) (s₀ s₁:Shared) (mg mb:Str -> Option Value) (fa:Addr) (o:Obj) (pm cd doc:Value) (a:Addr) (vs:List Value) (ns:List Int),
    Ground q loose [] XP w s₀ mg mb s₁.heap -> YP w s₁.heap ->
    s₁.heap.get? fa = some o -> o.data = .func (docDef d.name d.params d.body d.scope pm cd doc) -> s₁.heap.CodeRec cd d.name -> mg d.name = some (.ref fa) ->
    s₁.heap.get? a = some { cls:=.type "list",data:=.seq vs.toArray } -> IntsAre vs ns -> ns.length <= n -> s₁.gens = #[] ->
    codeAny (model l.prog w) callerA (.call (.ref fa) ⟨[.ref a],[]⟩) (fun r s'=>r = .ok (.ret (.bool true)) /\ OldK s₁.heap s'.heap /\ s'.os = s₁.os /\ AllBare s'.gens) s₁) :
  WalkO q loose XP YP l.row.toRowW d [] (fun f vs=>PySem.call f vs):=by
 intro w s₀ s₁ mg mb G Y fa o pm cd doc dV kV ho hd hcd hD hmg hg args vals as hpre hlay hrd hwl hlo
 obtain rfl:dV = .none:=Dflts.none hD hdf
 obtain rfl:kV = .none:=Dflts.noKw hD
 obtain ⟨a,vs,ns,rfl,rfl,hobj,hints,hlen⟩:=script_of hn hpre hwl
 refine enter_call (codeAny_mono (call w s₀ s₁ mg mb fa o pm cd doc a vs ns G Y ho (fd_plain hd) hcd hmg hobj hints hlen hg) fun r s' hq=>?_)
 obtain ⟨rfl,h2,h3,h4⟩:=hq
 exact ⟨.inl ⟨.bool true,.bool true,[],rfl,fun _=>rfl,.bool true,post_true l _,fun _=>⟨List.Pairwise.nil,fun _ hm=>(nomatch hm)⟩⟩,h2,h3,h4⟩
section
variable {prog:Program} {w:World} {A:Around} {E:Value -> Shared -> Prop} {s:Shared} {K:Frag}
end
end Att
namespace L2
open PySem PySem.Spec PyProof.Rows
theorem vals_ints:∀ {vs:List Value} {ns:List Int},IntsAre vs ns -> Vals (ns.map V.int) vs
 | _,_,.nil=>.nil
 | _,_,.cons n t h=>.cons ⟨t,rfl⟩ (vals_ints h)
noncomputable def Only (H:Hp):Prop:=∀ b,H b = none \/ ∃ o xs,H b = some (.frz o (.lst xs))
theorem law_call {P:Program} {w:World} {K:PySem.W.Frag} {mg mb:Str -> Option Value} {CX:CXT} {k:Nat} {fa a:Addr} {fd:FuncData} {x:Str} {sp:Sp} {s₁:Shared} {vs:List Value} {ns:List Int}
  (KX:K.In s₁.heap) (hns:s₁.heap.Ns mainGlobals mg) (hb:s₁.heap.Ns builtinsNs mb) (hbb:∀ x:Str,x ≠ "__name__" -> mb x = bootBuiltins x) (hlim:s₁.heap.NoLimit) (hg:s₁.gens = #[])
  (ha:s₁.heap.get? a = some { cls:=.type "list",data:=.seq vs.toArray }) (hi:IntsAre vs ns) (hl:ns.length <= sizeLine) (hr:Room k callerA)
  (F:∀ base:Heap,K.In base -> base.Ns mainGlobals mg -> FnOk P w K mg base CX k fa fd [x] sp) (hbind:∀ (s:Shared) (u:Value),BindsTo s fd ⟨[u],[]⟩ [(x,u)])
  (hsp:∀ H:Hp,Only H -> SqL K H a (ns.map V.int) -> sp [.ref a] H (fun v _=>v = .bl true) fun _ _ _=>False)
  (hCX:∀ H e s',CX [] H s₁ (fun _ _ _=>False) e s' -> False) :
  codeAny (model P w) callerA (.call (.ref fa) ⟨[.ref a],[]⟩) (fun r s'=>r = .ok (.ret (.bool true)) /\ OldK s₁.heap s'.heap /\ s'.os = s₁.os /\ AllBare s'.gens) s₁:=by
 have rv:=vals_ints hi
 have lenV:=hi.length
 have core:∀ H:Hp,Only H -> SqL K H a (ns.map V.int) -> HOk P w H s₁.heap -> (∀ b,H b ≠ none -> b = a) -> (H a ≠ none -> K.lookup a = none) ->
   codeAny (model P w) callerA (.call (.ref fa) ⟨[.ref a],[]⟩) (fun r s'=>r = .ok (.ret (.bool true)) /\ OldK s₁.heap s'.heap /\ s'.os = s₁.os /\ AllBare s'.gens) s₁:=by
  intro H hO hS hok hA hK
  have base_of:∀ {b:Addr} {o:Obj},s₁.heap.get? b = some o -> H b = none -> (hidT s₁.heap H).get? b = some o:=fun e n=>hidT_get e n
  have noA:∀ {b:Addr} {o:Obj} {es:Array DictEntry} {ep:Nat},s₁.heap.get? b = some o -> o.data = .dict es ep -> H b = none:=fun {b o es ep} e d=>by
   cases q:H b with
   | none=>rfl
   | some u =>
    have e':b = a:=hA b (by rw [q]; simp)
    subst e'
    rw [ha] at e; cases e
    have d':Data.seq vs.toArray _ = Data.dict es ep:=d
    cases d'
  have nsK:∀ {b:Addr} {m:Str -> Option Value},s₁.heap.Ns b m -> (hidT s₁.heap H).Ns b m:=fun {b m} ⟨o,es,ep,e,d,r⟩=>⟨o,es,ep,base_of e (noA e d),d,r⟩
  have hKb:K.In (hidT s₁.heap H):=fun b o e=>base_of (KX b o e) (by
    cases q:H b with
    | none=>rfl
    | some u =>
      have e':b = a:=hA b (by rw [q]; simp)
      subst e'
      rw [hK (by rw [q]; simp)] at e; cases e)
  have hM:Mod K mg (hidT s₁.heap H):=⟨hKb,nsK hns,⟨mb,nsK hb,hbb⟩,let ⟨mc,h1,h2⟩:=hlim; ⟨mc,nsK h1,h2⟩⟩
  have e0:Env0 P w K mg (hidT s₁.heap H) callerA [] s₁ H:=⟨rfl,hM,fun b o e=>of_hidT e,Nat.le_of_eq (hidT_size _ _),trivial,fun b hb=>absurd (show b ∈ ([]:List Addr) from hb) (by simp),hok,.of_eq hg⟩
  refine codeAny_mono ((F _ hKb (nsK hns)).run callerA [] s₁ H ⟨[.ref a],[]⟩ [.ref a] [.ref a] _ _ hr e0 (hbind s₁ (.ref a)) (.cons rfl .nil) (hsp H hO hS)) fun r s' h=>?_
  cases r with
  | error e=>exact (hCX H e s' h).elim
  | ok fl =>
   cases fl with
   | next=>exact False.elim h
   | brk=>exact False.elim h
   | cont=>exact False.elim h
   | ret u =>
    obtain ⟨v,H',os,bare,un,hok',r',q⟩:=h
    have q':v = .bl true:=q
    subst q'
    obtain rfl:u = Value.bool true:=r'
    refine ⟨rfl,OldK.of_keep fun b o e=>?_,os,bare⟩
    cases q:H b with
    | none=>exact un.keep b o e q (by intro z; exact absurd (show b ∈ ([]:List Addr) from z) (by simp)) (by simp)
    | some u =>
     rcases hO b with z | ⟨ob,xs,z⟩
     ·rw [q] at z; cases z
     ·have z2:=un.frzs b ob _ z
      obtain ⟨e1,_⟩:=hok b _ z
      obtain ⟨e2,_⟩:=hok' b _ z2
      rw [e] at e1; cases e1
      exact e2
 cases hk:K.lookup a with
 | some o =>
  have e:=KX a o hk
  rw [ha] at e
  cases e
  refine core (fun _=>none) (fun _=>.inl rfl) (.inr ⟨_,vs.toArray,_,hk,rfl,rfl,rfl,by rw [List.size_toArray,lenV]; exact hl,by simpa using rv⟩) (fun b u z=>by have z':(none:Option HO) = some u:=z; cases z') (fun b z=>absurd rfl z) fun z=>absurd rfl z
 | none =>
  refine core (fun b=>if b = a then some (.frz { cls:=.type "list",data:=.seq vs.toArray } (.lst (ns.map V.int))) else none) (fun b=>?_) (.inl (.inr ⟨{ cls:=.type "list",data:=.seq vs.toArray },if_pos rfl⟩)) (fun b u z=>?_) (fun b z=>?_) fun _=>hk
  ·by_cases hb:b = a
   ·exact .inr ⟨_,_,if_pos hb⟩
   ·exact .inl (if_neg hb)
  ·by_cases hb:b = a
   ·have z':=(if_pos hb).symm.trans z
    cases z'
    subst hb
    exact ⟨ha,by rw [List.length_map]; exact hl,vs,_,rv,ha⟩
   ·have z':=(if_neg hb).symm.trans z
    cases z'
  ·by_cases hb:b = a
   ·exact hb
   ·exact absurd (if_neg hb) z
end L2
namespace L2
open PySem PySem.Spec PyProof.Rows
theorem walk_of {l:PySem.W.OpenLaw} {n k:Nat} {q:Program} {loose:List Str} {XP:(Str -> Option Value) -> Heap -> Prop} {YP:World -> Heap -> Prop} {d:DefRec} {K:Params -> PySem.W.Frag} {CX:World -> CXT} {sp:World -> Sp} {x:Str}
  (hn:l.most = some n) (hn2:n <= sizeLine) (hdf:d.params.defaults = []) (hr:Room k callerA)
  (hY:∀ (w:World) (h:Heap),YP w h -> (K w.params).In h)
  (F:∀ (w:World) (mg:Str -> Option Value) (fa:Addr) (h:Heap),(K w.params).In h -> h.Ns mainGlobals mg -> mg d.name = some (.ref fa) ->
    ∃ fd:FuncData,(∀ (s:Shared) (u:Value),BindsTo s fd ⟨[u],[]⟩ [(x,u)]) /\
      ∀ base:Heap,(K w.params).In base -> base.Ns mainGlobals mg -> FnOk l.prog w (K w.params) mg base (CX w) k fa fd [x] (sp w))
  (hsp:∀ (w:World) (H:Hp) (a:Addr) (ns:List Int),ns.length <= n -> Only H -> SqL (K w.params) H a (ns.map V.int) -> sp w [.ref a] H (fun v _=>v = .bl true) fun _ _ _=>False)
  (hCX:∀ (w:World) (H:Hp) (s:Shared) (e:Value) (s':Shared),CX w [] H s (fun _ _ _=>False) e s' -> False) :
  PySem.W.WalkO q loose XP YP l.row.toRowW d [] (fun f vs=>PySem.call f vs):=by
 refine Att.attach_call hn hdf fun w s₀ s₁ mg mb fa o pm cd doc a vs ns G Y ho hd hcd hmg hobj hints hlen hg=>?_
 have KX:=hY w _ Y
 obtain ⟨fd,hb,hF⟩:=F w mg fa _ KX G.T.g hmg
 exact law_call KX G.T.g G.T.b G.T.builtins G.T.nolimit hg hobj hints (Nat.le_trans hlen hn2) hr hF hb (fun H hO hS=>hsp w H a ns hlen hO hS) fun H e s'=>hCX w H s₁ e s'
end L2
namespace L2
open PySem PySem.Spec PyProof.Rows
noncomputable def defArgs (s:Stmt):Arguments:=match s with
 | .FunctionDef _ a _ _ _ _ _ _ _ _=>a
 | _=>{ posonlyargs:=[],args:=[],vararg:=none,kwonlyargs:=[],kw_defaults:=[],kwarg:=none,defaults:=[] }
noncomputable def defBody (s:Stmt):List Stmt:=match s with
 | .FunctionDef _ _ b _ _ _ _ _ _ _=>b
 | _=>[]
noncomputable def defScope (s:Stmt):Scope:=match s with
 | .FunctionDef _ _ _ _ _ _ sc _ _ _=>sc
 | _=>{ kind:=.function,names:=[],isGenerator:=false,isCoroutine:=false }
noncomputable abbrev CX0:CXT:=fun _ _ _ _ _ _=>False
noncomputable abbrev E0:XK:=fun _ _ _=>False
theorem pass0 {X:Cx}:Passes CX0 X E0:=fun _ _ _ _ _ _ _ h=>h.elim
structure Fun (K:PySem.W.Frag) (x qual:Str) (st:Stmt) (f:Addr) (fd:FuncData):Prop where
 ex:∃ (oc:Value) (od:Option Addr) (kV doc pm:Value) (an:Option Addr) (cdv ct:Value) (osl:Array (Option Value)),
  fd = PySem.W.fnOf x qual (defArgs st) (defBody st) (defScope st) .none kV doc pm an cdv ct /\ K.lookup f = some ⟨oc,od,.func fd,osl⟩ /\ PySem.W.codeIn K cdv qual = true
 kp:PySem.W.keepIn K (.ref f) = true
section
variable {P:Program} {w:World} {K:PySem.W.Frag} {mg:Str -> Option Value} {base:Heap}
theorem Fun.ok {x qual:Str} {st:Stmt} {f:Addr} {fd:FuncData} {N ps:List Str} {k:Nat} {sp:Sp} (F:Fun K x qual st f fd) (S:FnScope N ps (defScope st)) (len:∀ vs H Q E,sp vs H Q E -> vs.length = ps.length)
  (hbody:∀ (cdv:Value) (A:Around) (outer:List Env) (s:Shared) (H:Hp) (vs:List V) (Q:VK) (E:XK),Room k (A.deeper (envOfC qual (defScope st) s.heap.objs.size f cdv)) -> sp vs H Q E ->
    ∃ t,PSs (cxOf CX0 P w K mg base N qual (defScope st) f cdv A outer s H E).nox (defBody st) t /\ t { nx:=fun _ H'=>Q .non H',rt:=Q } (start N vs) H):FnOk P w K mg base CX0 (k + 1) f fd ps sp:=by
 obtain ⟨oc,od,kV,doc,pm,an,cdv,ct,osl,rfl,lk,hcd⟩:=F.ex
 refine fn_of lk hcd S len fun A outer s H vs Q E hr hsp=>?_
 obtain ⟨t,h,q⟩:=hbody cdv A outer s H vs Q E hr hsp
 exact ⟨t,h.nox,q⟩
theorem Fun.binds {x qual:Str} {st:Stmt} {f:Addr} {fd:FuncData} {ps:List Str} (F:Fun K x qual st f fd)
  (h:∀ (kV doc pm:Value) (an:Option Addr) (cdv ct:Value) (us:List Value),us.length = ps.length -> bindArgs (PySem.W.fnOf x qual (defArgs st) (defBody st) (defScope st) .none kV doc pm an cdv ct) ⟨us,[]⟩ = pure (ps.zip us)):Binds K fd ps []:=by
 obtain ⟨oc,od,kV,doc,pm,an,cdv,ct,osl,rfl,lk,hcd⟩:=F.ex
 exact .all (h kV doc pm an cdv ct)
theorem fun_mk {x qual:Str} {st:Stmt} {f:Addr} {oc:Value} {od an:Option Addr} {osl:Array (Option Value)} {kV doc pm cdv ct:Value} (l:K.lookup f = some ⟨oc,od,.func (PySem.W.fnOf x qual (defArgs st) (defBody st) (defScope st) .none kV doc pm an cdv ct),osl⟩)
  (c:PySem.W.codeIn K cdv qual = true) (k:PySem.W.keepIn K (.ref f) = true):Fun K x qual st f (PySem.W.fnOf x qual (defArgs st) (defBody st) (defScope st) .none kV doc pm an cdv ct):=⟨⟨oc,od,kV,doc,pm,an,cdv,ct,osl,rfl,l,c⟩,k⟩
end
theorem hu_of {A:Around} {k:Nat} (hr:Room k A):A.units + 1 < cLine:=Nat.lt_of_le_of_lt (Nat.add_le_add_left (by decide:1 <= 64) _) hr.units
section
variable {X:Cx}
end
theorem ite2 {c A B:Prop} [Decidable c] (h1:c -> A) (h2:¬ c -> B):if c then A else B:=by
 by_cases h:c
 ·rw [if_pos h]
  exact h1 h
 ·rw [if_neg h]
  exact h2 h
section
variable {κ:Type} [DecidableEq κ]
end
end L2
namespace L2
open PySem PySem.Spec PyProof.Rows
noncomputable def clOf (cells:List (Str × Addr)):List (Str × NameKind) -> List (Str × Addr) -> List (Str × Addr)
 | [],acc=>acc
 | (n,k) :: r,acc=>clOf cells r (if k == .free then (n,(cells.lookup n).getD 0) :: acc else acc)
theorem closure_of {env:Env} {sc:Scope} (h:∀ y ∈ sc.names,y.2 = .free -> ∃ c,env.cells.lookup y.1 = some c):closureFor sc env = pure (clOf env.cells sc.names []):=by
 have go:∀ (l:List (Str × NameKind)) (acc:List (Str × Addr)),(∀ y ∈ l,y.2 = .free -> ∃ c,env.cells.lookup y.1 = some c) ->
   (forIn l acc fun (x:Str × NameKind) r=>(if (x.2 == NameKind.free) = true then (do let a <- cellOf env x.1; pure (ForInStep.yield ((x.1,a) :: r))) else pure (ForInStep.yield r):Sem (ForInStep (List (Str × Addr))))) = pure (clOf env.cells l acc):=by
  intro l
  induction l with
  | nil=>intro acc _; rfl
  | cons y r ih =>
   intro acc hl
   obtain ⟨n,k⟩:=y
   rw [List.forIn_cons]
   by_cases hk:(k == NameKind.free) = true
   ·obtain ⟨c,hc⟩:=hl (n,k) List.mem_cons_self (by simpa using hk)
    have hc:env.cells.lookup n = some c:=hc
    simp only [hk,if_true,cellOf,hc,pure_bind,clOf,Option.getD_some]
    exact ih _ fun y hy=>hl y (List.mem_cons_of_mem _ hy)
   ·simp only [hk,if_false,pure_bind,clOf]
    exact ih _ fun y hy=>hl y (List.mem_cons_of_mem _ hy)
 have e:=go sc.names [] h
 unfold closureFor
 show (forIn sc.names [] _ >>= fun cs=>pure cs) = _
 rw [show (forIn sc.names ([]:List (Str × Addr)) fun (x:Str × NameKind) r=>(match x with | (name,kind)=>if (kind == NameKind.free) = true then (do let a <- cellOf env name; pure (ForInStep.yield ((name,a) :: r))) else pure (ForInStep.yield r):Sem (ForInStep (List (Str × Addr))))) = pure (clOf env.cells sc.names []) from e]
 rfl
theorem clOf_lookup {cells:List (Str × Addr)} {x:Str} {c:Addr}:∀ {l:List (Str × NameKind)} {acc:List (Str × Addr)},(∀ y ∈ l,y.2 = .free -> ∃ c,cells.lookup y.1 = some c) -> (clOf cells l acc).lookup x = some c ->
  acc.lookup x = some c \/ cells.lookup x = some c
 | [],acc,_,h=>.inl h
 | (n,k) :: r,acc,hl,h=>by
  have ih:=clOf_lookup (l:=r) (fun y hy=>hl y (List.mem_cons_of_mem _ hy)) h
  rcases ih with ih | ih
  ·by_cases hk:(k == NameKind.free) = true
   ·rw [if_pos hk,List.lookup_cons] at ih
    obtain ⟨c',hc⟩:=hl (n,k) List.mem_cons_self (by simpa using hk)
    have hc:cells.lookup n = some c':=hc
    cases e:x == n with
    | true =>
     rw [e] at ih
     have:x = n:=by simpa using e
     subst this
     simp only [hc,Option.getD_some,Option.some.injEq] at ih
     subst ih
     exact .inr hc
    | false=>rw [e] at ih; exact .inl ih
   ·rw [if_neg hk] at ih; exact .inl ih
  ·exact .inr ih
theorem clOf_has {cells:List (Str × Addr)} {x:Str}:∀ {l:List (Str × NameKind)} {acc:List (Str × Addr)},((∃ c,acc.lookup x = some c) \/ l.lookup x = some .free) -> ∃ c,(clOf cells l acc).lookup x = some c
 | [],acc,h=>by
  rcases h with h | h
  ·exact h
  ·simp at h
 | (n,k) :: r,acc,h=>by
  refine clOf_has (l:=r) ?_
  rcases h with ⟨c,h⟩ | h
  ·left
   by_cases hk:(k == NameKind.free) = true
   ·rw [if_pos hk,List.lookup_cons]
    cases x == n with
    | true=>exact ⟨_,rfl⟩
    | false=>exact ⟨c,h⟩
   ·rw [if_neg hk]; exact ⟨c,h⟩
  ·rw [List.lookup_cons] at h
   cases e:x == n with
   | true =>
    rw [e] at h
    have hk:k = .free:=Option.some.inj h
    left
    subst hk
    rw [if_pos (by decide),List.lookup_cons,e]
    exact ⟨_,rfl⟩
   | false=>rw [e] at h; exact .inr h
theorem lookup_relabel {env:Env} {x:Str}:∀ {names:List (Str × NameKind)},
  (names.map fun (n,k)=>if (k == NameKind.free && env.scope.kind == .function && env.kindOf n == some .cell) then (n,NameKind.cell) else (n,k)).lookup x =
   (names.lookup x).map fun k=>if (k == NameKind.free && env.scope.kind == .function && env.kindOf x == some .cell) then .cell else k
 | []=>rfl
 | (n,k) :: r=>by
  have ih:=@lookup_relabel env x r
  rw [List.map_cons]
  show List.lookup x ((if (k == NameKind.free && env.scope.kind == .function && env.kindOf n == some .cell) = true then (n,NameKind.cell) else (n,k)) :: _) = _
  cases hx:x == n with
  | true =>
   have e:x = n:=by simpa using hx
   subst e
   by_cases hc:(k == NameKind.free && env.scope.kind == .function && env.kindOf x == some .cell) = true
   ·rw [if_pos hc]; simp only [List.lookup_cons,hx,Option.map_some]; rw [if_pos hc]
   ·rw [if_neg hc]; simp only [List.lookup_cons,hx,Option.map_some]; rw [if_neg hc]
  | false =>
   by_cases hc:(k == NameKind.free && env.scope.kind == .function && env.kindOf n == some .cell) = true
   ·rw [if_pos hc]; simp only [List.lookup_cons,hx]; exact ih
   ·rw [if_neg hc]; simp only [List.lookup_cons,hx]; exact ih
theorem relabel_lookup (sc:Scope) (env:Env) (x:Str):(relabel sc env).names.lookup x = (sc.names.lookup x).map fun k=>if (k == NameKind.free && env.scope.kind == .function && env.kindOf x == some .cell) then .cell else k:=lookup_relabel
theorem cf_app:∀ (names:List (Str × NameKind)) (n:Nat) (acc:List (Str × Addr)),cellsFrom n names acc = cellsFrom n names [] ++ acc
 | [],_,_=>rfl
 | (x,k) :: r,n,acc=>by
  unfold cellsFrom
  split
  ·rw [cf_app r (n + 1) ((x,n) :: acc),cf_app r (n + 1) [(x,n)],List.append_assoc]; rfl
  ·exact cf_app r n acc
theorem cf_mem {x:Str} {c:Addr}:∀ (names:List (Str × NameKind)) (n:Nat),(x,c) ∈ cellsFrom n names [] -> (x,NameKind.cell) ∈ names /\ n <= c
 | [],_,h=>by cases h
 | (y,k) :: r,n,h=>by
  unfold cellsFrom at h
  split at h
  ·rename_i hk
   have hk:k = .cell:=by simpa using hk
   rw [cf_app,List.mem_append] at h
   rcases h with h | h
   ·have:=cf_mem r (n + 1) h
    exact ⟨List.mem_cons_of_mem _ this.1,by omega⟩
   ·have h:(x,c) = (y,n):=by simpa using h
    cases h
    subst hk
    exact ⟨List.mem_cons_self,Nat.le_refl _⟩
  ·have:=cf_mem r n h
   exact ⟨List.mem_cons_of_mem _ this.1,this.2⟩
theorem lookup_app {α:Type} {x:Str}:∀ {l m:List (Str × α)},(l ++ m).lookup x = (l.lookup x).or (m.lookup x)
 | [],_=>rfl
 | (y,v) :: l,m=>by
  rw [List.cons_append,List.lookup_cons,List.lookup_cons]
  cases x == y with
  | true=>rfl
  | false=>exact lookup_app
theorem wpAny_newEnvComp {M:Model} {A:Around} {E:Value -> Shared -> Prop} {s:Shared} {scope:Scope} {globals:Addr} {closure:List (Str × Addr)} {qual:Str} {env:Env} {Q:Env -> Shared -> Prop}
  (hQ:Q (newEnv scope s.heap.objs.size globals (cellsFrom (s.heap.objs.size + 1) scope.names closure) qual none .none (some env) builtinsNs) { s with heap:=pushCells (s.heap.push { cls:=.type "dict",data:=.dict #[] }) scope.names }) :
  wpAny M A (newFunctionEnv scope globals closure [] qual none .none (some env)) Q E s:=by
 simp only [newFunctionEnv,Option.isSome_some,if_true]
 refine wpAny_bind (wpAny_alloc ?_)
 refine wpAny_bind (wpAny_layCells _ (fun name kind cells=>by cases hkc:kind == NameKind.cell <;> simp [hkc]) _ _ _ _ ?_)
 rw [show ({ s with heap:=s.heap.push { cls:=.type "dict",data:=.dict #[] } }:Shared).heap.objs.size = s.heap.objs.size + 1 from Heap.size_push ..]
 refine wpAny_bind ?_
 rw [List.forIn_nil]
 exact wpAny_pure (wpAny_pure hQ)
noncomputable def frN (N:List Str) (fr:List Nat):List Str:=fr.map fun i=>N.getD i Str.empty
noncomputable def frS (σ:St) (fr:List Nat):St:=fr.map fun i=>(σ[i]?).getD none
noncomputable def cxComp (X:Cx) (own:List Str) (fr:List Nat) (sc:Scope) (C:Addr) (s:Shared) (H:Hp) (ex:List Addr):Cx where
 prog:=X.prog
 w:=X.w
 K:=X.K
 mg:=X.mg
 base:=X.base
 A:=X.A
 N:=own ++ frN X.N fr
 s₀:=s
 H₀:=H
 env:=compEnvC sc (cellsFrom (C + 1) sc.names (clOf X.env.cells sc.names [])) C X.env
 outer:=X.stack
 stack:=X.stack
 ex:=ex
 fn:=fun x=>sc.names.lookup x == some .cell
 calm:=X.calm
 pn:=[]
 xe:=fun _ _=>False
noncomputable def st0 (own:List Str) (σ:St) (fr:List Nat):St:=own.map (fun _=>none) ++ frS σ fr
structure CompSc (X:Cx) (own:List Str) (fr:List Nat) (sc:Scope):Prop where
 kind:sc.kind = .function
 cells:∀ y ∈ sc.names,y.2 = .cell -> sc.names.lookup y.1 = some .cell
 loc:∀ y ∈ sc.names,y.2 = .local -> sc.names.lookup y.1 = some .local
 free:∀ y ∈ sc.names,y.2 = .free -> X.env.kindOf y.1 = some .cell \/ X.env.kindOf y.1 = some .free
 fr:∀ i ∈ fr,∃ x,X.N[i]? = some x /\ sc.names.lookup x = some .free
theorem comp_start {X:Cx} {own:List Str} {fr:List Nat} {sc:Scope} {pins:List (Addr × Obj)} {σ:St} {H:Hp} {s:Shared} {fp:List Addr} {C D:Addr} {h1:Heap} {tk:Nat} {oD:Obj}
  (S:CompSc X own fr sc) (I:Inv X pins σ H s) (hf:∀ b ∈ fp,FpOk X pins H b) (hfo:∀ b ∈ fp,∃ o,s.heap.get? b = some o) (hC:s.heap.objs.size <= C) (hD:s.heap.objs.size <= D) (hDC:D ≠ C) (hn:h1.Ns C fun x=>([]:List (Str × Value)).reverse.lookup x)
  (hk:∀ b o,s.heap.get? b = some o -> h1.get? b = some o) (hcl:∀ x c,(x,c) ∈ cellsFrom (C + 1) sc.names [] -> h1.IsCell c none) (hap:(cellsFrom (C + 1) sc.names []).Pairwise fun x y=>x.2 ≠ y.2) (hoD:h1.get? D = some oD) (hdD:∀ v,oD.data ≠ .cell v) :
  Inv (cxComp X own fr sc C s H fp) [(D,oD)] (st0 own σ fr) H { s with heap:=h1,toks:=tk }:=by
 have hfree:∀ y ∈ sc.names,y.2 = .free -> ∃ c,X.env.cells.lookup y.1 = some c:=fun y hy e=>I.ok.has y.1 (S.free y hy e)
 have cl1:∀ x c,(clOf X.env.cells sc.names []).lookup x = some c -> X.env.cells.lookup x = some c:=fun x c e=>by
  rcases clOf_lookup hfree e with z | z
  ·simp at z
  ·exact z
 have cl2:∀ x c,(cellsFrom (C + 1) sc.names (clOf X.env.cells sc.names [])).lookup x = some c -> (x,c) ∈ cellsFrom (C + 1) sc.names [] \/ X.env.cells.lookup x = some c:=fun x c e=>by
  rw [cf_app,lookup_app] at e
  cases q:(cellsFrom (C + 1) sc.names []).lookup x with
  | none=>rw [q] at e; exact .inr (cl1 x c e)
  | some c'=>rw [q] at e; cases e; exact .inl (PySem.mem_of_lookup q)
 have new:∀ x c,(x,c) ∈ cellsFrom (C + 1) sc.names [] -> C + 1 <= c:=fun x c h=>(cf_mem _ _ h).2
 have oldc:∀ x c,X.env.cells.lookup x = some c -> c < s.heap.objs.size:=fun x c e=>by
  obtain ⟨v,q⟩:=I.cell x c e
  exact q.lt
 have kin:∀ x k,(relabel sc X.env).names.lookup x = some k -> k = .cell \/ k = .free -> sc.names.lookup x = some .free \/ sc.names.lookup x = some .cell:=fun x k e hk=>by
  rw [relabel_lookup] at e
  cases q:sc.names.lookup x with
  | none=>rw [q] at e; cases e
  | some j =>
   rw [q,Option.map_some,Option.some.injEq] at e
   by_cases hj:j = .free
   ·rw [hj]; exact .inl rfl
   ·have hne:(j == NameKind.free) = false:=by simpa using hj
    rw [hne,Bool.false_and,Bool.false_and,if_neg (by simp)] at e
    subst e
    rcases hk with z | z
    ·rw [z]; exact .inr rfl
    ·exact absurd z hj
 have kout:∀ x,sc.names.lookup x = some .free -> ((relabel sc X.env).names.lookup x = some .cell \/ (relabel sc X.env).names.lookup x = some .free):=fun x e=>by
  rw [relabel_lookup,e,Option.map_some]
  by_cases h:(NameKind.free == NameKind.free && X.env.scope.kind == .function && X.env.kindOf x == some .cell) = true
  ·rw [if_pos h]; exact .inl rfl
  ·rw [if_neg h]; exact .inr rfl
 have okc:∀ b ∈ fp,b < s.heap.objs.size:=fun b hb=>by obtain ⟨o,e⟩:=hfo b hb; exact Heap.lt_size e
 have fresh:∀ {a:Addr},s.heap.objs.size <= a -> H a = none:=fun h=>I.hok.fresh h
 have ok:(cxComp X own fr sc C s H fp).Ok:={
   mod:=I.ok.mod
   kind:=S.kind
   glob:=I.ok.glob
   blt:=I.ok.blt
   above:=hC
   inj:=fun x y c h1 h2=>by
     have hC:s.heap.objs.size <= C:=hC
     rcases cl2 x c h1 with a | a <;> rcases cl2 y c h2 with b | b
     · exact name_of_addr hap a b
     · have:=new x c a; have:=oldc y c b; exact absurd (Nat.lt_of_lt_of_le (oldc y c b) (Nat.le_trans hC (Nat.le_of_succ_le (new x c a)))) (Nat.lt_irrefl _)
     · exact absurd (Nat.lt_of_lt_of_le (oldc x c a) (Nat.le_trans hC (Nat.le_of_succ_le (new y c b)))) (Nat.lt_irrefl _)
     · exact I.ok.inj x y c a b
   has:=fun x hx=>by
     have hx:sc.names.lookup x = some .free \/ sc.names.lookup x = some .cell:=by
       rcases hx with hx | hx
       · exact kin x _ hx (.inl rfl)
       · exact kin x _ hx (.inr rfl)
     show ∃ c,(cellsFrom (C + 1) sc.names (clOf X.env.cells sc.names [])).lookup x = some c
     rw [cf_app,lookup_app]
     rcases hx with hx | hx
     · obtain ⟨c,e⟩:=clOf_has (cells:=X.env.cells) (x:=x) (l:=sc.names) (acc:=[]) (.inr hx)
       rw [e]
       cases (cellsFrom (C + 1) sc.names []).lookup x with
       | none=>exact ⟨c,rfl⟩
       | some c'=>exact ⟨c',rfl⟩
     · obtain ⟨c,e⟩:=cell_has (n:=C + 1) hx
       rw [e]
       exact ⟨c,rfl⟩
   cab:=fun x c h e=>by
     have h:sc.names.lookup x = some .cell:=by simpa [cxComp] using h
     have e:(cellsFrom (C + 1) sc.names (clOf X.env.cells sc.names [])).lookup x = some c:=e
     obtain ⟨c',q⟩:=cell_has (n:=C + 1) h
     rw [cf_app,lookup_app,q] at e
     cases e
     exact Nat.le_trans hC (Nat.le_of_succ_le (new x _ (PySem.mem_of_lookup q)))
   hd:=I.ok.hd
   frames:=I.ok.frames
   stk:=.inl rfl
   exf:=fun b hb=>⟨Nat.ne_of_lt (Nat.lt_of_lt_of_le (okc b hb) hC),fun x c e=>by
     rcases cl2 x c e with z | z
     · exact Nat.ne_of_gt (Nat.lt_of_lt_of_le (okc b hb) (Nat.le_trans hC (Nat.le_of_succ_le (new x c z))))
     · exact (hf b hb).2.2.2.2.1 x c z⟩
   bs:=I.bs
   bsz:=Nat.le_trans I.ok.bsz I.sz
   noex:=fun b o e hb=>by
     rcases (hf b hb).2.2.2.1 with z | z
     · exact I.ok.noex b o e z
     · exact absurd (Nat.lt_of_lt_of_le (Heap.lt_size e) (Nat.le_trans I.ok.bsz z)) (Nat.lt_irrefl _)
   exfs:=fun b hb hm=>by
     rcases List.mem_cons.mp (I.stkSub b hm) with z | z
     · exact (hf b hb).2.1 z
     · exact (hf b hb).2.2.1 z
   funs:=I.stack
   frf:=I.stkFree }
 refine ⟨ok,rfl,I.bare,Un.kept hk,⟨_,hn,fun i x v e1 e2 e3=>?_⟩,fun x c e=>?_,fresh hC,fun x c e=>?_,fun p hp=>?_,I.hok.kept hk,?_⟩
 ·have e1:(own ++ frN X.N fr)[i]? = some x:=e1
  have e2:(own.map (fun _=>(none:Option V)) ++ frS σ fr)[i]? = some (some v):=e2
  by_cases hi:i < own.length
  ·rw [List.getElem?_append_left (by simpa using hi),List.getElem?_map] at e2
   cases q:own[i]? with
   | none=>rw [q] at e2; cases e2
   | some z=>rw [q] at e2; cases e2
  ·rw [List.getElem?_append_right (by omega)] at e1
   rw [List.getElem?_append_right (by simpa using hi),List.length_map] at e2
   unfold frN at e1
   unfold frS at e2
   rw [List.getElem?_map] at e1 e2
   cases q:fr[i - own.length]? with
   | none=>rw [q] at e1; cases e1
   | some j =>
    rw [q,Option.map_some,Option.some.injEq] at e1 e2
    obtain ⟨y,hy,hyf⟩:=S.fr j (List.mem_of_getElem? q)
    rw [List.getD_eq_getElem?_getD,hy,Option.getD_some] at e1
    subst e1
    have e2':σ[j]? = some (some v):=by
     cases r:σ[j]? with
     | none=>rw [r] at e2; cases e2
     | some z=>rw [r,Option.getD_some] at e2; rw [e2]
    have hkf:X.env.kindOf y = some .cell \/ X.env.kindOf y = some .free:=S.free (y,.free) (PySem.mem_of_lookup hyf) rfl
    obtain ⟨m,hm,hl⟩:=I.loc
    have vis:Vis X.env.scope y:=by
     rcases hkf with z | z
     ·exact .inr (.inl z)
     ·exact .inr (.inr z)
    obtain ⟨u,r,l⟩:=hl j y v hy e2' vis
    refine ⟨u,r,?_⟩
    rcases l with ⟨k,_⟩ | ⟨k,c,hc,z⟩
    ·rcases hkf with k' | k' <;> rw [k] at k' <;> cases k'
    ·refine .inr ⟨kout y hyf,?_⟩
     obtain ⟨c',hc'⟩:∃ c',(clOf X.env.cells sc.names []).lookup y = some c':=clOf_has (.inr hyf)
     have:c' = c:=Option.some.inj ((cl1 y c' hc').symm.trans hc)
     subst this
     obtain ⟨o,ho,hd⟩:=z
     refine ⟨c',?_,o,hk _ _ ho,hd⟩
     show (cellsFrom (C + 1) sc.names (clOf X.env.cells sc.names [])).lookup y = some c'
     rw [cf_app,lookup_app,hc']
     cases q:(cellsFrom (C + 1) sc.names []).lookup y with
     | none=>rfl
     | some c2 =>
      have:=S.cells _ (cf_mem _ _ (PySem.mem_of_lookup q)).1 rfl
      rw [hyf] at this
      cases this
 ·rcases cl2 x c e with z | z
  ·exact ⟨_,hcl x c z⟩
  ·obtain ⟨v,o,ho,hd⟩:=I.cell x c z
   exact ⟨v,o,hk _ _ ho,hd⟩
 ·rcases cl2 x c e with z | z
  ·exact fresh (Nat.le_trans hC (Nat.le_of_succ_le (new x c z)))
  ·exact I.freeC x c z
 ·have e:p = (D,oD):=by
   have:p ∈ ([]:List (Addr × Obj)) ++ [(D,oD)]:=hp
   simpa using this
  subst e
  refine ⟨hoD,fresh hD,hDC,fun hm=>?_,hdD⟩
  have hm:D ∈ frs X.stack:=hm
  obtain ⟨_,o,ho,_⟩:=I.stack.mem hm
  exact absurd (Nat.lt_of_lt_of_le (Heap.lt_size ho) hD) (Nat.lt_irrefl _)
 ·show (own.map (fun _=>(none:Option V)) ++ frS σ fr).length = (own ++ frN X.N fr).length
  simp [frS,frN]
theorem comp_end {X:Cx} {own:List Str} {fr:List Nat} {sc:Scope} {pins:List (Addr × Obj)} {σ σ':St} {H H':Hp} {s s':Shared} {fp:List Addr} {C D:Addr} {oD:Obj} {ys:List V} {us:List Value} {n:Nat}
  (I:Inv X pins σ H s) (hf:∀ b ∈ fp,FpOk X pins H b) (hC:s.heap.objs.size <= C) (hD:s.heap.objs.size <= D) (hDC:D ≠ C)
  (J:Inv (cxComp X own fr sc C s H fp) [(D,oD)] σ' H' s') (ho:oD = { cls:=.type "list",data:=.seq us.toArray n }) (r:Vals ys us) (hz:ys.length <= sizeLine) :
  Inv X pins σ (upd H' D (.lst ys)) s' /\ (∃ m,s'.heap.Ns C m) /\ FpOk X pins (upd H' D (.lst ys)) C:=by
 have pD:=J.pin (D,oD) (by simp [cxComp])
 have hHD:H' D = none:=pD.2.1
 have u:Un (frs X.stack) fp H H' s.heap s'.heap:=J.base
 have lt:∀ b o,s.heap.get? b = some o -> b ≠ D:=fun b o e=>Nat.ne_of_lt (Nat.lt_of_lt_of_le (Heap.lt_size e) hD)
 have u2:Un (frs X.stack) fp H (upd H' D (.lst ys)) s.heap s'.heap :=
  ⟨u.keep,u.slot,fun b o e n hx=>by rw [upd_ne (lt b o e)]; exact u.free b o e n hx,u.there,fun b xs e=>by rw [upd_ne (ne_of_none (u.tups b xs e) hHD)]; exact u.tups b xs e,
    fun b o x e=>by rw [upd_ne (ne_of_none (u.frzs b o x e) hHD)]; exact u.frzs b o x e,fun b ps e=>by
      obtain ⟨more,q⟩:=u.tbls b ps e
      exact ⟨more,by rw [upd_ne (ne_of_none q hHD)]; exact q⟩⟩
 have hok:HOk X.prog X.w (upd H' D (.lst ys)) s'.heap:=fun b o e=>by
  by_cases hb:b = D
  ·subst hb
   rw [upd_same] at e
   cases e
   exact ⟨hz,us,n,r,by rw [<- ho]; exact pD.1⟩
  ·rw [upd_ne hb] at e
   exact (J.hok b o e).stay (fun _ _ _ q=>q) (fun c q=>by rw [upd_ne (ne_of_none q hHD)]; exact q) fun c xs q=>by rw [upd_ne (ne_of_none q hHD)]; exact q
 refine ⟨I.call' (ch:=fp) J.os u2 hok J.bare fun b hb=>?_,?_,?_⟩
 ·obtain ⟨f0,f1,f2,f3,f4,f5⟩:=hf b hb
  exact ⟨f3,f1,f4,f5⟩
 ·obtain ⟨m,hm,_⟩:=J.loc
  exact ⟨m,hm⟩
 ·have hfree:H' C = none:=J.free
  refine ⟨by rw [upd_ne (Ne.symm hDC)]; exact hfree,?_⟩
  exact (I.fpOk hC (I.hok.fresh hC)).2
theorem codeAny_compLoop_any {prog:Program} {w:World} {A:Around} {R:Result -> Shared -> Prop} {s:Shared} {elt target iter:Expr} {ifs:List Expr} {scope:Scope} {pos:Pos} {it acc:Value} {env:Env} (I:Nat -> Shared -> Prop)
  (turn:∀ n s,I n s -> wpAny (model prog w) A (pyNext it) (fun r s₁=>match r with
    | none=>R (.ok .next) s₁
    | some v=>wpAny (model prog w) A (letOwnedTupleGo target it v) (fun _ s₁'=>wpAny (model prog w) A (assign target env v) (fun _ s₂ =>
        wpAny (model prog w) A (forIn ifs true fun c r=>if r = true then do let ok <- isTrue c env (eval c env); pure (ForInStep.yield ok) else pure (ForInStep.yield r)) (fun ok s₃ =>
          if ok = true then wpAny (model prog w) A (eval elt env) (fun x s₄ =>
            wpAny (model prog w) A (call (.builtin "list.append") [acc,x]) (fun _ s₅=>∃ m,m < n /\ I m s₅) (fun _ _=>False) s₄) (fun _ _=>False) s₃
          else ∃ m,m < n /\ I m s₃) (fun _ _=>False) s₂) (fun _ _=>False) s₁') (fun _ _=>False) s₁) (fun _ _=>False) s)
  (n:Nat) (h:I n s) :
  codeAny (model prog w) A (.compLoop (.ListComp elt [⟨target,iter,ifs,0⟩] scope pos) 0 it acc env) R s:=by
 refine codeAny_loop rfl I (fun n s hI=>?_) n h
 show wpAny _ A ((compTurn (.ListComp elt [⟨target,iter,ifs,0⟩] scope pos) 0 it acc env).onRaise (fun x=>do noteFrame x env; theTreesLotGoes x)) _ _ s
 refine wpAny_noted ?_
 rw [compTurn_list]
 refine wpAny_bind (wpAny_standAt (wpAny_bind (wpAny_mono (turn n s hI) (fun r s₁ h₁=>?_) fun _ _ h'=>h'.elim)))
 cases r with
 | none=>exact wpAny_pure h₁
 | some v =>
  refine wpAny_bind (wpAny_mono h₁ (fun _ s₁' h₁'=>?_) fun _ _ h'=>h'.elim)
  refine wpAny_bind (wpAny_mono h₁' (fun _ s₂ h₂=>wpAny_bind (wpAny_mono h₂ (fun ok s₃ h₃=>?_) fun _ _ h'=>h'.elim)) fun _ _ h'=>h'.elim)
  cases ok with
  | false=>exact wpAny_pure ⟨rfl,h₃⟩
  | true =>
   exact wpAny_bind (wpAny_bind (wpAny_mono h₃ (fun x s₄ h₄=>wpAny_bind (wpAny_mono h₄ (fun _ s₅ h₅=>wpAny_pure (wpAny_pure ⟨rfl,h₅⟩)) fun _ _ h'=>h'.elim)) fun _ _ h'=>h'.elim))
noncomputable def PIf (X:Cx) (ifs:List Expr) (t:TT):Prop :=
 ∀ (pins:List (Addr × Obj)) (s:Shared) (σ:St) (H:Hp) (Q:Bool -> Hp -> Prop),Inv X pins σ H s -> t σ H Q ->
  wpAny (model X.prog X.w) X.A (forIn ifs true fun c r=>if r = true then do let ok <- isTrue c X.env (eval c X.env); pure (ForInStep.yield ok) else pure (ForInStep.yield r)) (TP X pins σ Q) X.xe s
noncomputable def tYes:TT:=fun _ H Q=>Q true H
theorem if_nil {X:Cx}:PIf X [] tYes:=fun _ _ _ H _ I h=>wpAny_tests_nil ⟨H,I,h⟩
theorem if_one {X:Cx} {c:Expr} {t:TT} (h:PT X c t):PIf X [c] t:=fun pins s σ H Q I hw=>wpAny_tests_one (h pins s σ H Q I hw)
noncomputable def tComp (wi:TI) (own:List Str) (fr:List Nat) (g:TG) (tc:TT) (te:TE):TE:=fun σ H Q=>wi σ H fun J H1=>∃ W:Nat -> Nat -> List V -> St -> Hp -> Prop,(∃ m,W 0 m [] (st0 own σ fr) H1) /\ ∀ i m ys τ H,W i m ys τ H ->
 (J.stop i H /\ ∀ D,H D = none -> Q (.ref D) (upd H D (.lst ys))) \/
 (J.go i H /\ ys.length < sizeLine /\ ∃ N:List V -> St -> Hp -> Prop,(∀ ys' τ' H',N ys' τ' H' -> ∃ m',m' < m /\ W (i + 1) m' ys' τ' H') /\ ∀ x H',J.yld i H x H' -> g x τ H' fun τ2 H2 =>
   tc τ2 H2 fun b H3=>if b = true then te τ2 H3 fun y H4=>N (ys ++ [y]) τ2 H4 else N ys τ2 H3)
theorem comp_grow {X:Cx} {D:Addr} {us:List Value} {k:Nat} {pl:List (Addr × Obj)} {σ:St} {H:Hp} {s:Shared} {u:Value} {Q:Value -> Shared -> Prop} {E:Value -> Shared -> Prop}
  (I:Inv X ([(D,{ cls:=.type "list",data:=.seq us.toArray k })] ++ pl) σ H s) (h1:X.s₀.heap.objs.size <= D) (h2:∀ x c,X.env.cells.lookup x = some c -> c ≠ D) (h3:∀ p ∈ X.pn ++ pl,p.1 ≠ D) (hz:us.length < sizeLine)
  (h:∀ k' s',Inv X ([(D,{ cls:=.type "list",data:=.seq (us ++ [u]).toArray k' })] ++ pl) σ H s' -> Q .none s'):wpAny (model X.prog X.w) X.A (call (.builtin "list.append") [.ref D,u]) Q E s:=by
 obtain ⟨e,hn,hL,hF,_⟩:=I.pin (D,{ cls:=.type "list",data:=.seq us.toArray k }) (List.mem_append_right _ (List.mem_append_left _ (List.mem_singleton.mpr rfl)))
 dsimp only at e hn hL hF
 have I0:Inv X pl σ H s:=I.pins_of fun p hp=>I.pin p (List.mem_append_right _ (List.mem_append_right _ hp))
 refine call_meets F.slot_list_append ⟨_,e,rfl⟩ F.entry_list_append (F.args_list_append_2 _ _) (PySem.list_append D us.toArray k u (by rw [List.size_toArray]; omega)) ⟨e,?_⟩
 have q:=PySem.IsL.update e fun xs=>xs.push u
 rw [show us.toArray.push u = (us ++ [u]).toArray by simp] at q
 have I1:Inv X pl σ H { s with heap:=s.heap.update D (Obj.mapSeq fun xs=>xs.push u),toks:=s.toks } :=
  I0.turned (it:=D) (fun b o hb ho=>(Heap.get?_update_other s.heap (Obj.mapSeq fun xs=>xs.push u) (Ne.symm hb)).trans ho) hn hL (.inr h1) h2 h3
 obtain ⟨k',q⟩:∃ k',(s.heap.update D (Obj.mapSeq fun xs=>xs.push u)).get? D = some { cls:=.type "list",data:=.seq (us ++ [u]).toArray k' }:=⟨_,q⟩
 refine h k' _ (I1.pins_of (pins':=[(D,{ cls:=.type "list",data:=.seq (us ++ [u]).toArray k' })] ++ pl) fun p hp=>?_)
 rcases List.mem_append.mp hp with z | z
 ·have z:p = _:=List.mem_singleton.mp z
  subst z
  exact ⟨q,hn,hL,hF,fun v z=>by cases z⟩
 ·exact I1.pin p (List.mem_append_right _ z)
theorem comp_block {X:Cx} {tg iter elt:Expr} {ifs:List Expr} {sc:Scope} {pos:Pos} {own:List Str} {fr:List Nat} {g:TG} {tc:TT} {te:TE} {pins:List (Addr × Obj)} {σ:St} {H2:Hp} {s2:Shared} {it:Addr} {fp:List Addr} {tn:Nat -> Heap -> Prop} {J:It} {Q:VK} {E:Value -> Shared -> Prop}
  {RR:Value -> Addr -> Result -> Shared -> Prop}
  (hc:X.calm = true) (S:CompSc X own fr sc) (I2:Inv X pins σ H2 s2) (T:Turn X.prog X.w X.K tg J fp it tn) (st2:tn 0 s2.heap) (f2:∀ b ∈ fp,FpOk X pins H2 b)
  (hg:∀ C ex,PG (cxComp X own fr sc C s2 H2 ex) tg g) (hif:∀ C ex,PIf (cxComp X own fr sc C s2 H2 ex) ifs tc) (he:∀ C ex,PE (cxComp X own fr sc C s2 H2 ex) elt te)
  (W:Nat -> Nat -> List V -> St -> Hp -> Prop) (m0:Nat) (w0:W 0 m0 [] (st0 own σ fr) H2)
  (turn:∀ i m ys τ H,W i m ys τ H -> (J.stop i H /\ ∀ D,H D = none -> Q (.ref D) (upd H D (.lst ys))) \/
    (J.go i H /\ ys.length < sizeLine /\ ∃ N:List V -> St -> Hp -> Prop,(∀ ys' τ' H',N ys' τ' H' -> ∃ m',m' < m /\ W (i + 1) m' ys' τ' H') /\ ∀ x H',J.yld i H x H' -> g x τ H' fun τ2 H2 =>
      tc τ2 H2 fun b H3=>if b = true then te τ2 H3 fun y H4=>N (ys ++ [y]) τ2 H4 else N ys τ2 H3))
  (hRR:∀ D C H s',Inv X pins σ H s' -> Q (.ref D) H -> (∃ m,s'.heap.Ns C m) -> FpOk X pins H C -> RR (.ref D) C (.ok .next) s') :
  wpAny (model X.prog X.w) X.A (newList []) (fun acc s₃=>wpAny (model X.prog X.w) X.A (newFunctionEnv sc X.env.globals (clOf X.env.cells sc.names []) [] X.env.qual none .none (some X.env)) (fun cenv s₄ =>
    codeAny (model X.prog X.w) X.A (.compStart (.ListComp elt [⟨tg,iter,ifs,0⟩] sc pos) 0 (.ref it) acc { cenv with scope:=relabel sc X.env }) (RR acc cenv.locals) s₄) E s₃) E s2:=by
 refine wpAny_newObj_type (wpAny_newEnvComp ?_)
 dsimp only
 generalize hH2:s2.heap.push { cls:=.type "list",dict:=none,data:=.seq ([]:List Value).toArray } = G
 generalize hh1:pushCells (G.push { cls:=.type "dict",data:=.dict #[] }) sc.names = h₁
 have kp:∀ b o,(G.push { cls:=.type "dict",data:=.dict #[] }).get? b = some o -> h₁.get? b = some o:=fun b o e=>hh1 ▸ pushCells_keeps _ _ b o e
 have hns₁:h₁.Ns G.objs.size fun x=>([]:List (Str × Value)).reverse.lookup x:=(Heap.Ns.new G (.type "dict")).keeps kp
 have cok:CellsOk h₁ (G.objs.size + 1) (cellsFrom (G.objs.size + 1) sc.names []):=by
  have:=cellsFrom_ok sc.names (G.push { cls:=.type "dict",data:=.dict #[] }) (G.objs.size + 1) [] ⟨fun _ _ hm=>(nomatch hm),List.Pairwise.nil⟩ (by rw [Heap.size_push]; exact Nat.le_refl _)
  rw [Heap.size_push,hh1] at this
  exact this
 have hC:G.objs.size = s2.heap.objs.size + 1:=by rw [<- hH2,Heap.size_push]
 have hCle:s2.heap.objs.size <= G.objs.size:=by rw [hC]; exact Nat.le_succ _
 have hDC:s2.heap.objs.size ≠ G.objs.size:=by rw [hC]; exact Nat.ne_of_lt (Nat.lt_succ_self _)
 have old:∀ b o,s2.heap.get? b = some o -> h₁.get? b = some o:=fun b o e=>kp b o (Heap.get?_push_of_some _ (hH2 ▸ Heap.get?_push_of_some _ e))
 have hacc:h₁.get? s2.heap.objs.size = some { cls:=.type "list",data:=.seq ([]:List Value).toArray }:=kp _ _ (Heap.get?_push_of_some _ (hH2 ▸ Heap.get?_push_size _ rfl))
 have st0':tn 0 h₁:=T.keep _ _ _ st2 fun b hb o e=>old b o e
 have fo:∀ b ∈ fp,∃ o,s2.heap.get? b = some o:=fun b hb=>let ⟨o,e,_⟩:=T.obj _ _ st2 b hb; ⟨o,e⟩
 have flt:∀ b ∈ fp,b < s2.heap.objs.size:=fun b hb=>by obtain ⟨o,e⟩:=fo b hb; exact Heap.lt_size e
 have clb:∀ x c,(clOf X.env.cells sc.names []).lookup x = some c -> X.env.cells.lookup x = some c:=fun x c e=>by
  rcases clOf_lookup (fun y hy e=>I2.ok.has y.1 (S.free y hy e)) e with z | z
  ·simp at z
  ·exact z
 have clb2:∀ (C':Addr) x c,(cellsFrom (C' + 1) sc.names (clOf X.env.cells sc.names [])).lookup x = some c -> C' + 1 <= c \/ X.env.cells.lookup x = some c:=fun C' x c e=>by
  rw [cf_app,lookup_app] at e
  cases q:(cellsFrom (C' + 1) sc.names []).lookup x with
  | none=>rw [q] at e; exact .inr (clb x c e)
  | some c'=>rw [q] at e; cases e; exact .inl (cf_mem _ _ (PySem.mem_of_lookup q)).2
 have stt:∀ C':Addr,s2.heap.objs.size <= C' -> ∀ {H':Hp} {pl:List (Addr × Obj)},(∀ b ∈ fp,H' b = none) -> (∀ p ∈ pl,s2.heap.objs.size <= p.1) -> ∀ b ∈ fp,FpOk (cxComp X own fr sc C' s2 H2 fp) pl H' b:=fun C' hC' H' pl hn hp b hb=>by
  have I0:=f2 b hb
  refine ⟨hn b hb,Nat.ne_of_lt (Nat.lt_of_lt_of_le (flt b hb) hC'),fun hm=>?_,.inl hb,fun x c e=>by
      rcases clb2 C' x c e with z | z
      · exact Nat.ne_of_gt (Nat.lt_of_lt_of_le (flt b hb) (Nat.le_trans hC' (Nat.le_of_succ_le z)))
      · exact I0.2.2.2.2.1 x c z,fun p hp'=>?_⟩
  ·rcases List.mem_cons.mp (I2.stkSub b hm) with z | z
   ·exact I0.2.1 z
   ·exact I0.2.2.1 z
  ·have hp':p ∈ pl:=by
    have:p ∈ ([]:List (Addr × Obj)) ++ pl:=hp'
    simpa using this
   exact Nat.ne_of_gt (Nat.lt_of_lt_of_le (flt b hb) (hp p hp'))
 have loop:∀ s₃:Shared,s₃ = { s2 with heap:=h₁,toks:=s2.toks } ->
   codeAny (model X.prog X.w) X.A (.compLoop (.ListComp elt [⟨tg,iter,ifs,0⟩] sc pos) 0 (.ref it) (.ref s2.heap.objs.size) (compEnvC sc (cellsFrom (G.objs.size + 1) sc.names (clOf X.env.cells sc.names [])) G.objs.size X.env))
    (RR (.ref s2.heap.objs.size) G.objs.size) s₃:=by
  rintro s₃ rfl
  have I3:=comp_start (own:=own) (fr:=fr) (tk:=s2.toks) S I2 f2 fo hCle (Nat.le_refl _) hDC hns₁ old (fun x c h=>(cok.empty x c h).1) cok.apart hacc (fun v z=>by cases z)
  refine codeAny_compLoop_any (fun n s'=>∃ i H' ys us k τ,Inv (cxComp X own fr sc G.objs.size s2 H2 fp) [(s2.heap.objs.size,{ cls:=.type "list",data:=.seq us.toArray k })] τ H' s' /\ tn i s'.heap /\ (∀ b ∈ fp,H' b = none) /\ Vals ys us /\ ys.length <= sizeLine /\ W i n ys τ H') ?_ m0
   ⟨0,H2,[],[],0,_,I3,st0',fun b hb=>(f2 b hb).1,.nil,Nat.zero_le _,w0⟩
  rintro n s4 ⟨i,H4,ys,us,k,τ,I4,st4,fr4,rv4,hz4,w4⟩
  have hp4:∀ p ∈ [(s2.heap.objs.size,({ cls:=.type "list",data:=.seq us.toArray k }:Obj))],s2.heap.objs.size <= p.1:=fun p hp=>by
   rw [List.mem_singleton.mp hp]
   exact Nat.le_refl _
  rcases turn i n ys τ H4 w4 with ⟨stop,qn⟩ | ⟨go,hlt,N,hN,step⟩
  ·refine thn (T.done (cxComp X own fr sc G.objs.size s2 H2 fp) rfl rfl rfl hc i _ s4 _ H4 (fun _ _=>False) I4 (stt _ hCle fr4 hp4) st4 stop) fun r s5 ⟨hr,I5⟩=>?_
   subst hr
   obtain ⟨a1,a2,a3⟩:=comp_end I2 f2 hCle (Nat.le_refl _) hDC I5 rfl rv4 hz4
   exact hRR _ _ _ s5 a1 (qn _ (I5.pin _ (List.mem_append_right _ (List.mem_singleton.mpr rfl))).2.1) a2 a3
  ·refine thn (T.item (cxComp X own fr sc G.objs.size s2 H2 fp) rfl rfl rfl hc i _ s4 _ H4 (fun _ _=>False) I4 (stt _ hCle fr4 hp4) st4 go) fun r s5 ⟨u,hr,h5⟩=>?_
   subst hr
   refine thn h5 fun _ s6 ⟨x,H6,I6,r6,y6,st6,fr6⟩=>?_
   have I6':=I6.pinned (stt _ hCle fr6 hp4) (T.obj _ _ st6)
   refine thn (hg G.objs.size fp _ s6 _ H6 x u _ I6' r6 (step x H6 y6)) fun _ s7 ⟨σ7,H7,I7,q7⟩=>?_
   refine thn (hif G.objs.size fp _ s7 σ7 H7 _ I7 q7) fun b s8 ⟨H8,I8,q8⟩=>?_
   have again:∀ {s9:Shared} {H9:Hp} {ys':List V} {us':List Value} {k':Nat},Inv (cxComp X own fr sc G.objs.size s2 H2 fp) ([(s2.heap.objs.size,{ cls:=.type "list",data:=.seq us'.toArray k' })] ++ pinsAt fp s6.heap) σ7 H9 s9 -> Vals ys' us' -> ys'.length <= sizeLine -> N ys' σ7 H9 ->
     ∃ m,m < n /\ ∃ i H' ys us k τ,Inv (cxComp X own fr sc G.objs.size s2 H2 fp) [(s2.heap.objs.size,{ cls:=.type "list",data:=.seq us.toArray k })] τ H' s9 /\ tn i s9.heap /\ (∀ b ∈ fp,H' b = none) /\ Vals ys us /\ ys.length <= sizeLine /\ W i m ys τ H':=fun {s9 H9 ys' us' k'} I9 rv9 hz9 n9=>by
    obtain ⟨m',hm,w9⟩:=hN ys' σ7 H9 n9
    refine ⟨m',hm,i + 1,H9,ys',us',k',σ7,I9.unpinned,T.keep _ _ _ st6 fun b hb o e=>(I9.pin (b,o) (List.mem_append_right _ (List.mem_append_right _ (mem_pinsAt hb e)))).1,fun b hb=>?_,rv9,hz9,w9⟩
    obtain ⟨o,e,d⟩:=T.obj _ _ st6 b hb
    exact (I9.pin (b,o) (List.mem_append_right _ (List.mem_append_right _ (mem_pinsAt hb e)))).2.1
   cases b with
   | false =>
    rw [if_neg Bool.false_ne_true] at q8 ⊢
    exact again I8 rv4 hz4 q8
   | true =>
    rw [if_pos rfl] at q8 ⊢
    refine thn (he G.objs.size fp _ s8 σ7 H8 _ I8 q8) fun y s9 ⟨yv,H9,I9,r9,n9⟩=>?_
    refine comp_grow (X:=cxComp X own fr sc G.objs.size s2 H2 fp) I9 (Nat.le_refl _) (fun x c e z=>?_) (fun p hp z=>?_) (by rw [<- rv4.length]; exact hlt) fun k' s10 I10=>?_
    ·rcases clb2 _ x c e with y | y
     ·rw [z] at y
      exact absurd (Nat.lt_of_lt_of_le (Nat.lt_succ_of_le hCle) y) (Nat.lt_irrefl _)
     ·obtain ⟨v,q⟩:=I2.cell x c y
      exact absurd (Nat.lt_of_lt_of_le q.lt (by rw [z]; exact Nat.le_refl _)) (Nat.lt_irrefl _)
    ·have hp:p ∈ ([]:List (Addr × Obj)) ++ pinsAt fp s6.heap:=hp
     rw [List.nil_append] at hp
     have:=flt _ (of_pinsAt hp).1
     rw [z] at this
     exact absurd this (Nat.lt_irrefl _)
    ·exact again I10 (rv4.append (.cons r9 .nil)) (by rw [List.length_append,List.length_singleton]; omega) n9
 exact codeAny_compStart_list (loop _ rfl) (T.self _ 0 _ _ _ st0' (loop _ rfl))
theorem pe_comp {X:Cx} {tg iter elt:Expr} {ifs:List Expr} {sc:Scope} {pos:Pos} {own:List Str} {fr:List Nat} {wi:TI} {g:TG} {tc:TT} {te:TE} (hc:X.calm = true) (S:CompSc X own fr sc) (hi:PI X tg iter wi)
  (hg:∀ C s H ex,PG (cxComp X own fr sc C s H ex) tg g) (hif:∀ C s H ex,PIf (cxComp X own fr sc C s H ex) ifs tc) (he:∀ C s H ex,PE (cxComp X own fr sc C s H ex) elt te)
  (hs:∀ x,foldedSetIterable iter X.env x = pure x:=by intro _; rfl):PE X (.ListComp elt [⟨tg,iter,ifs,0⟩] sc pos) (tComp wi own fr g tc te):=by
 intro pins s σ H Q I h
 rw [eval_ListComp]
 refine wpAny_comprehension_free (use:=none) rfl hs (closure_of fun y hy e=>I.ok.has y.1 (S.free y hy e)) S.kind S.loc (thn (hi pins s σ H _ I h) fun v s1 h1=>thn h1 fun itv s2 h2=>?_)
 obtain ⟨it,fp,tn,J,H2,e,I2,T,st2,f2,W,⟨m0,w0⟩,turn⟩:=h2
 subst e
 refine comp_block (Q:=Q) (RR:=fun acc C=>compPost (model X.prog X.w) X.A X.xe none (EP X pins σ Q) acc C) hc S I2 T st2 f2 (fun C ex=>hg C s2 H2 ex) (fun C ex=>hif C s2 H2 ex) (fun C ex=>he C s2 H2 ex) W m0 w0 turn ?_
 intro D C H' s' I' q ⟨m,hm⟩ fC
 refine ⟨m,hm,fun h' sb=>⟨.ref D,H',?_,rfl,q⟩⟩
 obtain ⟨f0,f1,f2,f3,f4,f5⟩:=fC
 exact I'.turned (t':=s'.toks) (fun b o hb e=>(sb.2 b hb).trans e) f0 f1 f3 f4 f5
theorem ps_setComp {X:Cx} {tg iter elt:Expr} {ifs:List Expr} {sc:Scope} {pos spos py:Pos} {i:Nat} {y:Str} {own:List Str} {fr:List Nat} {wi:TI} {g:TG} {tc:TT} {te:TE} (hN:X.N.Nodup) (hy:X.N[i]? = some y) (hl:X.env.scope.names.lookup y = some .local) (hc:X.calm = true) (S:CompSc X own fr sc) (hi:PI X tg iter wi)
  (hg:∀ C s H ex,PG (cxComp X own fr sc C s H ex) tg g) (hif:∀ C s H ex,PIf (cxComp X own fr sc C s H ex) ifs tc) (he:∀ C s H ex,PE (cxComp X own fr sc C s H ex) elt te)
  (hsw:swapsWith (.ListComp elt [⟨tg,iter,ifs,0⟩] sc pos) (some (.Name y py)) spos.line X.env = pure true:=by rfl)
  (hs:∀ x,foldedSetIterable iter X.env x = pure x:=by intro _; rfl):PS X (.Assign [.Name y py] (.ListComp elt [⟨tg,iter,ifs,0⟩] sc pos) spos) (tAsg (tComp wi own fr g tc te) (gName i)):=by
 intro pins s σ H D I h
 rw [exec_Assign_Name_used _ _ _ _ hsw]
 refine wpAny_bind (wpAny_standAt ?_)
 show wpAny _ _ (evalThenUse (.ListComp elt [⟨tg,iter,ifs,0⟩] sc pos) X.env _ >>= _) _ _ s
 refine wpAny_bind ?_
 unfold evalThenUse
 refine wpAny_bind ?_
 refine wpAny_comprehension_free rfl hs (closure_of fun y hy e=>I.ok.has y.1 (S.free y hy e)) S.kind S.loc (thn (hi pins s σ H _ I h) fun v s1 h1=>thn h1 fun itv s2 h2=>?_)
 obtain ⟨it,fp,tn,J,H2,e,I2,T,st2,f2,W,⟨m0,w0⟩,turn⟩:=h2
 subst e
 refine comp_block (Q:=fun v H1=>D.nx (σ.set i (some v)) H1) hc S I2 T st2 f2 (fun C ex=>hg C s2 H2 ex) (fun C ex=>hif C s2 H2 ex) (fun C ex=>he C s2 H2 ex) W m0 w0 turn ?_
 intro D' C H' s' I' q ⟨m,hm⟩ fC
 obtain ⟨f0,f1,f2,f3,f4,f5⟩:=fC
 show wpAny (model X.prog X.w) X.A (assign (.Name y py) X.env (.ref D')) (fun _ s''=>∃ m,s''.heap.Ns C m /\ ∀ h',Heap.SameBut C s''.heap h' -> _) X.xe s'
 refine wpAny_assign_Name (store_ok2 I' hN hy (.inl hl) (v:=.ref D') rfl (fun s'' I'' hsb=>?_) (.inr hl))
 obtain ⟨a,hsb,ha⟩:=hsb
 have hCa:C ≠ a:=by
  rcases ha with z | z
  ·rw [z]; exact f1
  ·exact fun e=>f4 y a z e.symm
 obtain ⟨m',hm'⟩:∃ m',s''.heap.Ns C m':=⟨m,hm.sameBut hsb hCa⟩
 refine ⟨m',hm',fun h' sb=>wpAny_pure (wpAny_pure ⟨_,H',?_,q⟩)⟩
 exact I''.turned (t':=s''.toks) (fun b o hb e=>(sb.2 b hb).trans e) f0 f1 f3 f4 f5
end L2
namespace L2
open PySem PySem.Spec PyProof.Rows
inductive Kd where | l | t
noncomputable def ItAt (k:Kd) (h:Heap) (it a:Addr) (i:Nat):Prop:=match k with | .l=>h.IsListIter it a i | .t=>h.IsTupleIter it a i
noncomputable def SqAt (k:Kd) (h:Heap) (a:Addr) (xs:Array Value):Prop:=match k with | .l=>h.IsList a xs | .t=>h.IsTuple a xs
noncomputable def itObj (k:Kd) (a:Addr):Obj:=match k with | .l=>{ cls:=.type "list_iterator",data:=.fields #[.ref a,.int 0 0] } | .t=>{ cls:=.type "tuple_iterator",data:=.fields #[.ref a,.int 0 0] }
theorem ItAt.at {k:Kd} {h h':Heap} {it a:Addr} {i:Nat} (x:ItAt k h it a i) (f:∀ o,h.get? it = some o -> h'.get? it = some o):ItAt k h' it a i:=by
 cases k with
 | l=>exact Heap.IsListIter.at x f
 | t=>exact Heap.IsTupleIter.at x f
theorem SqAt.at {k:Kd} {h h':Heap} {a:Addr} {xs:Array Value} (x:SqAt k h a xs) (f:∀ o,h.get? a = some o -> h'.get? a = some o):SqAt k h' a xs:=by
 cases k with
 | l=>exact Heap.IsList.at x f
 | t=>obtain ⟨o,e,r⟩:=x; exact ⟨o,f o e,r⟩
theorem ItAt.obj {k:Kd} {h:Heap} {it a:Addr} {i:Nat} (x:ItAt k h it a i):∃ o,h.get? it = some o /\ ∀ v,o.data ≠ .cell v:=by
 cases k with
 | l=>obtain ⟨o,e,c,d⟩:=x; exact ⟨o,e,fun v z=>by rw [d] at z; cases z⟩
 | t=>obtain ⟨o,e,c,d⟩:=x; exact ⟨o,e,fun v z=>by rw [d] at z; cases z⟩
theorem ItAt.new (k:Kd) {h:Heap} {it a:Addr} (e:h.get? it = some (itObj k a)):ItAt k h it a 0:=by
 cases k with
 | l=>exact ⟨_,e,rfl,rfl⟩
 | t=>exact ⟨_,e,rfl,rfl⟩
section
variable {prog:Program} {w:World} {A:Around} {E:Value -> Shared -> Prop} {s:Shared}
theorem iter_at {k:Kd} {a:Addr} {xs:Array Value} {Q:Value -> Shared -> Prop} (hl:SqAt k s.heap a xs) (h:Q (.ref s.heap.objs.size) { s with heap:=s.heap.push (itObj k a) }):wpAny (model prog w) A (pyIter (.ref a)) Q E s:=by
 cases k with
 | l=>exact wpAny_pyIter_list hl h
 | t=>exact wpAny_pyIter_tuple hl h
theorem nextOf_tuple_item {it t:Addr} {i:Nat} {items} {x:Value} {Q:Value -> Shared -> Prop} (hit:s.heap.IsTupleIter it t i) (ht:s.heap.IsTuple t items) (hx:items[i]? = some x)
  (hQ:∀ h',h'.IsTupleIter it t (i + 1) -> Heap.SameBut it s.heap h' -> Q x { s with heap:=h' }):wpAny (model prog w) A (Builtin.SmallTypes.nextOf (.ref it)) Q E s:=by
 obtain ⟨o,ho,hc,hd⟩:=id hit
 obtain ⟨ol,hol,_,nl,hdl⟩:=ht
 unfold Builtin.SmallTypes.nextOf
 refine wpAny_bind (wpAny_callSpecial?_slot (name:=Str.ofString "__next__") hit.typeIs F.slot_tuple_iterator_next
   (wpAny_call_entry F.slot_tuple_iterator_next hit.typeIs F.entry_tuple_iterator_next ?_ (F.args_tuple_iterator_next_1 _)))
 show wpAny _ _ (field (.ref it) 0 >>= _) _ _ s
 refine wpAny_bind (wpAny_field ho hd (x:=.ref t) rfl ?_)
 show wpAny _ _ (if (Value.ref t == Value.none) = true then _ else _) _ _ s
 rw [if_neg (show ¬ ((Value.ref t == Value.none) = true) from Bool.false_ne_true)]
 show wpAny _ _ (field (.ref it) 1 >>= _) _ _ s
 refine wpAny_bind (wpAny_field ho hd (x:=.int i 0) rfl ?_)
 show wpAny _ _ (seqItems? (.ref t) >>= _) _ _ s
 refine wpAny_bind (wpAny_seqItems hol hdl ?_)
 simp only [Int.toNat_natCast,hx]
 refine wpAny_bind (wpAny_setField ho hd (by simp) (wpAny_pure ⟨x,rfl,wpAny_pure (hQ _ ?_ (Heap.SameBut.update ..))⟩))
 exact ⟨_,Heap.get?_update_self _ ho (Obj.isFreed_of_fields (Obj.data_mapFields hd _)),(Obj.cls_mapFields ..).trans hc,by
   rw [Obj.data_mapFields hd]; simp [rawInt]⟩
theorem nextOf_tuple_end {it l:Addr} {i:Nat} {items} {Q:Value -> Shared -> Prop} (hh:A.handled = none)
  (hit:s.heap.IsTupleIter it l i) (hl:s.heap.IsTuple l items) (hx:items[i]? = none)
  (hE:∀ h' e,Heap.ExtBut it s.heap h' -> (∃ o,h'.get? e = some o /\ o.cls = .type "StopIteration") -> E (.ref e) { s with heap:=h' }) :
  wpAny (model prog w) A (Builtin.SmallTypes.nextOf (.ref it)) Q E s:=by
 obtain ⟨o,ho,hc,hd⟩:=id hit
 obtain ⟨ol,hol,_,nl,hdl⟩:=hl
 unfold Builtin.SmallTypes.nextOf
 refine wpAny_bind (wpAny_callSpecial?_slot (name:=Str.ofString "__next__") hit.typeIs F.slot_tuple_iterator_next
   (wpAny_call_entry F.slot_tuple_iterator_next hit.typeIs F.entry_tuple_iterator_next ?_ (F.args_tuple_iterator_next_1 _)))
 show wpAny _ _ (field (.ref it) 0 >>= _) _ _ s
 refine wpAny_bind (wpAny_field ho hd (x:=.ref l) rfl ?_)
 show wpAny _ _ (if (Value.ref l == Value.none) = true then _ else _) _ _ s
 rw [if_neg (show ¬ ((Value.ref l == Value.none) = true) from Bool.false_ne_true)]
 show wpAny _ _ (field (.ref it) 1 >>= _) _ _ s
 refine wpAny_bind (wpAny_field ho hd (x:=.int i 0) rfl ?_)
 show wpAny _ _ (seqItems? (.ref l) >>= _) _ _ s
 refine wpAny_bind (wpAny_seqItems hol hdl ?_)
 simp only [Int.toNat_natCast,hx]
 refine wpAny_bind (wpAny_rule (wpAny_bind (wpAny_setField ho hd (by simp) ?_)))
 show wpAny _ _ (newExc (.type "StopIteration") [] >>= _) _ _ _
 refine wpAny_bind ?_
 simp only [newExc,newTuple]
 refine wpAny_bind (wpAny_newObj_type ?_ (by size_fits))
 refine wpAny_bind (m:=firstArgMember _ _) (wpAny_of_eq (a:=Value.none) (by first | rfl | (simp only [firstArgMember]; rfl)) ?_)
 refine wpAny_newObj_type ?_ (by size_fits)
 simp only [raiseNew]
 refine wpAny_bind (wpAny_handled ?_)
 first | rw [show A.in1.handled = none from hh] | rw [hh]
 refine wpAny_bind (wpAny_pure (wpAny_throw ?_))
 exact hE _ _ (((Heap.SameBut.update ..).extBut.push _).push _) ⟨_,Heap.get?_push_size _ rfl,rfl⟩
theorem nextOf_item {k:Kd} {it a:Addr} {i:Nat} {xs:Array Value} {x:Value} {Q:Value -> Shared -> Prop} (hit:ItAt k s.heap it a i) (hl:SqAt k s.heap a xs) (hx:xs[i]? = some x)
  (hQ:∀ h',ItAt k h' it a (i + 1) -> Heap.SameBut it s.heap h' -> Q x { s with heap:=h' }):wpAny (model prog w) A (Builtin.SmallTypes.nextOf (.ref it)) Q E s:=by
 cases k with
 | l=>exact wpAny_nextOf_list_item hit hl hx hQ
 | t=>exact nextOf_tuple_item hit hl hx hQ
theorem nextOf_end {k:Kd} {it a:Addr} {i:Nat} {xs:Array Value} {Q:Value -> Shared -> Prop} (hh:A.handled = none) (hit:ItAt k s.heap it a i) (hl:SqAt k s.heap a xs) (hx:xs[i]? = none)
  (hE:∀ h' e,Heap.ExtBut it s.heap h' -> (∃ o,h'.get? e = some o /\ o.cls = .type "StopIteration") -> E (.ref e) { s with heap:=h' }):wpAny (model prog w) A (Builtin.SmallTypes.nextOf (.ref it)) Q E s:=by
 cases k with
 | l=>exact wpAny_nextOf_list_end hh hit hl hx hE
 | t=>exact nextOf_tuple_end hh hit hl hx hE
end
noncomputable abbrev IsTup2 (h:Heap) (T:Addr) (a1 a2:Value):Prop:=h.get? T = some { cls:=.type "tuple",data:=.seq #[a1,a2] }
structure ZAp2 (z TI TO i1 i2 l1 l2:Addr):Prop where
 TIz:TI ≠ z
 TOz:TO ≠ z
 i1z:i1 ≠ z
 i2z:i2 ≠ z
 TOTI:TO ≠ TI
 i1TI:i1 ≠ TI
 i2TI:i2 ≠ TI
 i1TO:i1 ≠ TO
 i2TO:i2 ≠ TO
 i2i1:i2 ≠ i1
 l1z:l1 ≠ z
 l1TO:l1 ≠ TO
 l1i1:l1 ≠ i1
 l1i2:l1 ≠ i2
 l2z:l2 ≠ z
 l2TO:l2 ≠ TO
 l2i1:l2 ≠ i1
 l2i2:l2 ≠ i2
section
variable {prog:Program} {w:World} {A:Around} {E:Value -> Shared -> Prop} {s:Shared}
end
structure ZAp3 (z TI TO i1 i2 i3 l1 l2 l3:Addr):Prop where
 TIz:TI ≠ z
 TOz:TO ≠ z
 i1z:i1 ≠ z
 i2z:i2 ≠ z
 i3z:i3 ≠ z
 TOTI:TO ≠ TI
 i1TI:i1 ≠ TI
 i2TI:i2 ≠ TI
 i3TI:i3 ≠ TI
 i1TO:i1 ≠ TO
 i2TO:i2 ≠ TO
 i3TO:i3 ≠ TO
 i2i1:i2 ≠ i1
 i3i1:i3 ≠ i1
 i3i2:i3 ≠ i2
 l1z:l1 ≠ z
 l1TO:l1 ≠ TO
 l1i1:l1 ≠ i1
 l1i2:l1 ≠ i2
 l1i3:l1 ≠ i3
 l2z:l2 ≠ z
 l2TO:l2 ≠ TO
 l2i1:l2 ≠ i1
 l2i2:l2 ≠ i2
 l2i3:l2 ≠ i3
 l3z:l3 ≠ z
 l3TO:l3 ≠ TO
 l3i1:l3 ≠ i1
 l3i2:l3 ≠ i2
 l3i3:l3 ≠ i3
section
variable {prog:Program} {w:World} {A:Around} {E:Value -> Shared -> Prop} {s:Shared}
end
end L2
namespace L2
open PySem PySem.Spec PyProof.Rows
inductive Ki where | non | bl | int | str | lst | tup | dct
 deriving DecidableEq
noncomputable def Ki.nm:Ki -> String
 | .non=>"NoneType" | .bl=>"bool" | .int=>"int" | .str=>"str" | .lst=>"list" | .tup=>"tuple" | .dct=>"dict"
noncomputable def Ki.sub:Ki -> Ki -> Bool
 | .bl,.int=>true
 | a,b=>decide (a = b)
noncomputable def Sq (k:Kd) (K:PySem.W.Frag) (H:Hp) (a:Addr) (xs:List V):Prop:=match k with | .l=>SqL K H a xs | .t=>SqT K H a xs
theorem Inv.sq {X:Cx} {pins:List (Addr × Obj)} {σ:St} {H:Hp} {s:Shared} {k:Kd} {a:Addr} {xs:List V} (I:Inv X pins σ H s) (h:Sq k X.K H a xs):∃ its:List Value,Vals xs its /\ SqAt k s.heap a its.toArray /\ xs.length <= sizeLine:=by
 cases k with
 | l=>obtain ⟨its,r,p,z⟩:=I.list h; exact ⟨its,r,p.isList,z⟩
 | t=>obtain ⟨its,r,p,z⟩:=I.tuple h; exact ⟨its,r,p,z⟩
theorem Inv.sq_inj {X:Cx} {pins:List (Addr × Obj)} {σ:St} {H:Hp} {s:Shared} {k:Kd} {a:Addr} {xs ys:List V} (I:Inv X pins σ H s) (h:Sq k X.K H a xs) (h':Sq k X.K H a ys):xs = ys:=by
 cases k with
 | l=>exact I.list_inj h h'
 | t=>exact I.tuple_inj h h'
end L2
namespace L2
open PySem PySem.Spec PyProof.Rows
mutual
inductive Is (K:PySem.W.Frag) (H:Hp):V -> PyData -> Prop
 | non:Is K H .non .none
 | bl (b):Is K H (.bl b) (.bool b)
 | int (i):Is K H (.int i) (.int i)
 | str (x):Is K H (.str x) (.str x)
 | lst {a xs ds}:SqL K H a xs -> IsAll K H xs ds -> Is K H (.ref a) (.list ds)
 | tup {a xs ds}:SqT K H a xs -> IsAll K H xs ds -> Is K H (.ref a) (.tuple ds)
inductive IsAll (K:PySem.W.Frag) (H:Hp):List V -> List PyData -> Prop
 | nil:IsAll K H [] []
 | cons {x xs d ds}:Is K H x d -> IsAll K H xs ds -> IsAll K H (x :: xs) (d :: ds)
end
section
variable {X:Cx} {pins:List (Addr × Obj)} {σ:St} {H:Hp} {s:Shared}
mutual
theorem Is.reads (I:Inv X pins σ H s):∀ {x:V} {d:PyData} {u:Value},Is X.K H x d -> RelV x u -> ∃ as,Reads s.heap u d as
 | _,_,_,.non,r=>by cases r; exact ⟨_,.none⟩
 | _,_,_,.bl b,r=>by cases r; exact ⟨_,.bool b⟩
 | _,_,_,.int i,r=>by obtain ⟨t,rfl⟩:=r; exact ⟨_,.int i t⟩
 | _,_,_,.str x,r=>by obtain ⟨t,rfl⟩:=r; exact ⟨_,.str x t⟩
 | _,_,_,.lst hq ha,r=>by
  cases r
  obtain ⟨its,rv,⟨o,n,e,c,d,q⟩,z⟩:=I.list hq
  obtain ⟨as,hr⟩:=IsAll.reads I ha rv
  exact ⟨_,.list e c q (by simpa using hr)⟩
 | _,_,_,.tup hq ha,r=>by
  cases r
  obtain ⟨its,rv,⟨o,e,c,n,q⟩,z⟩:=I.tuple hq
  obtain ⟨as,hr⟩:=IsAll.reads I ha rv
  exact ⟨_,.tuple e c q (by simpa using hr)⟩
theorem IsAll.reads (I:Inv X pins σ H s):∀ {xs:List V} {ds:List PyData} {us:List Value},IsAll X.K H xs ds -> Vals xs us -> ∃ as,ReadsAll s.heap us ds as
 | _,_,_,.nil,.nil=>⟨_,.nil⟩
 | _,_,_,.cons h t,.cons r rr=>by
  obtain ⟨as,a⟩:=Is.reads I h r
  obtain ⟨bs,b⟩:=IsAll.reads I t rr
  exact ⟨_,.cons a b⟩
end
end
open PySem.SeqAt in
noncomputable def rEqD (K:PySem.W.Frag) (neg:Bool):R2:=fun x y H Q=>∃ d e:PyData,Is K H x d /\ Is K H y e /\ shaped d = true /\ shaped e = true /\ noMix d e = true /\ Q (.bl (if neg then !same d e else same d e)) H
theorem op_eqD {X:Cx} (hu:X.A.units + 64 < cLine):OpR X (compareOp .Eq) (rEqD X.K false):=by
 intro pins s σ H x y v u Q I r1 r2 h
 obtain ⟨d,e,i1,i2,s1,s2,nm,q⟩:=h
 obtain ⟨as,a⟩:=i1.reads I r1
 obtain ⟨bs,b⟩:=i2.reads I r2
 exact eq_dataH_same a b s1 s2 hu nm ⟨.bl _,H,I,rfl,q⟩
theorem op_neD {X:Cx} (hu:X.A.units + 64 < cLine):OpR X (compareOp .NotEq) (rEqD X.K true):=by
 intro pins s σ H x y v u Q I r1 r2 h
 obtain ⟨d,e,i1,i2,s1,s2,nm,q⟩:=h
 obtain ⟨as,a⟩:=i1.reads I r1
 obtain ⟨bs,b⟩:=i2.reads I r2
 exact ne_dataH_same a b s1 s2 hu nm ⟨.bl _,H,I,rfl,q⟩
end L2
namespace L2
open PySem PySem.Spec PyProof.Rows
structure Cal (P:Program) (w:World) (K:PySem.W.Frag) (mg:Str -> Option Value) (base:Heap) (k:Nat) (x:Str) (ps:List Str) (sp:Sp):Prop where
 ex:∃ (f:Addr) (fd:FuncData),FnOk P w K mg base CX0 k f fd ps sp /\ mg x = some (.ref f) /\ PySem.W.keepIn K (.ref f) = true /\ Binds K fd ps []
theorem pe_fn {X:Cx} {k:Nat} {x:Str} {ps:List Str} {sp:Sp} {p pos:Pos} {e:Expr} {es:List Expr} {t:TA} (C:Cal X.prog X.w X.K X.mg X.base k x ps sp) (hr:Room k X.A) (ha:PA X (e :: es) t) (hg:Gl X x:=by rfl)
  (hdb:(x == ("__debug__":Str)) = false:=by decide) (he:starEach (e :: es) X.env = (false,eval e X.env) :: starEach es X.env:=by rfl) (hpl:(backTo pos (starEach es X.env)).any (·.1) = false:=by rfl) :
  PE X (.Call (.Name x p) (e :: es) [] pos) (tCall sp [] E0 t):=by
 obtain ⟨f,fd,F,hm,hk,hb⟩:=C.ex
 exact pe_call F hr hg hm hk hb .nil pass0 ha hdb he hpl
noncomputable def compOk (ds:Scope) (N:List Str) (fr:List Nat) (sc:Scope):Bool :=
 decide (sc.kind = .function) && (sc.names.all fun y=>!decide (y.2 = .cell) || decide (sc.names.lookup y.1 = some .cell)) && (sc.names.all fun y=>!decide (y.2 = .local) || decide (sc.names.lookup y.1 = some .local)) &&
 (sc.names.all fun y=>!decide (y.2 = .free) || (decide (ds.names.lookup y.1 = some .cell) || decide (ds.names.lookup y.1 = some .free))) &&
 (fr.all fun i=>match N[i]? with | some x=>decide (sc.names.lookup x = some .free) | none=>false)
theorem compSc_of {X:Cx} {own:List Str} {fr:List Nat} {sc:Scope} (h:compOk X.env.scope X.N fr sc = true):CompSc X own fr sc:=by
 unfold compOk at h
 simp only [Bool.and_eq_true,decide_eq_true_eq,List.all_eq_true,Bool.or_eq_true,Bool.not_eq_true',decide_eq_false_iff_not] at h
 obtain ⟨⟨⟨⟨h1,h2⟩,h3⟩,h4⟩,h5⟩:=h
 refine ⟨h1,fun y hy e=>?_,fun y hy e=>?_,fun y hy e=>?_,fun i hi=>?_⟩
 ·rcases h2 y hy with z | z
  ·exact absurd e z
  ·exact z
 ·rcases h3 y hy with z | z
  ·exact absurd e z
  ·exact z
 ·rcases h4 y hy with z | z
  ·exact absurd e z
  ·exact z
 ·have:=h5 i hi
  cases q:X.N[i]? with
  | none=>rw [q] at this; cases this
  | some x=>rw [q] at this; exact ⟨x,rfl,of_decide_eq_true this⟩
noncomputable def CompW (J:It) (own:List Str) (fr:List Nat) (g:TG) (tc:TT) (te:TE) (σ:St) (H:Hp) (Q:VK):Prop :=
 ∃ W:Nat -> Nat -> List V -> St -> Hp -> Prop,(∃ m,W 0 m [] (st0 own σ fr) H) /\ ∀ i m ys τ H,W i m ys τ H ->
   (J.stop i H /\ ∀ D,H D = none -> Q (.ref D) (upd H D (.lst ys))) \/
   (J.go i H /\ ys.length < sizeLine /\ ∃ N:List V -> St -> Hp -> Prop,(∀ ys' τ' H',N ys' τ' H' -> ∃ m',m' < m /\ W (i + 1) m' ys' τ' H') /\ ∀ x H',J.yld i H x H' -> g x τ H' fun τ2 H2 =>
     tc τ2 H2 fun b H3=>if b = true then te τ2 H3 fun y H4=>N (ys ++ [y]) τ2 H4 else N ys τ2 H3)
noncomputable def tCompW (wi:TI) (own:List Str) (fr:List Nat) (g:TG) (tc:TT) (te:TE):TE:=fun σ H Q=>wi σ H fun J H1=>CompW J own fr g tc te σ H1 Q
theorem pe_compW {X:Cx} {tg iter elt:Expr} {ifs:List Expr} {sc:Scope} {pos:Pos} {own:List Str} {fr:List Nat} {wi:TI} {g:TG} {tc:TT} {te:TE} (hc:X.calm = true) (S:CompSc X own fr sc) (hi:PI X tg iter wi)
  (hg:∀ C s H ex,PG (cxComp X own fr sc C s H ex) tg g) (hif:∀ C s H ex,PIf (cxComp X own fr sc C s H ex) ifs tc) (he:∀ C s H ex,PE (cxComp X own fr sc C s H ex) elt te)
  (hs:∀ x,foldedSetIterable iter X.env x = pure x:=by intro _; rfl):PE X (.ListComp elt [⟨tg,iter,ifs,0⟩] sc pos) (tCompW wi own fr g tc te):=pe_comp hc S hi hg hif he hs
theorem ps_setCompW {X:Cx} {tg iter elt:Expr} {ifs:List Expr} {sc:Scope} {pos spos py:Pos} {i:Nat} {y:Str} {own:List Str} {fr:List Nat} {wi:TI} {g:TG} {tc:TT} {te:TE} (hN:X.N.Nodup) (hy:X.N[i]? = some y) (hl:X.env.scope.names.lookup y = some .local) (hc:X.calm = true) (S:CompSc X own fr sc) (hi:PI X tg iter wi)
  (hg:∀ C s H ex,PG (cxComp X own fr sc C s H ex) tg g) (hif:∀ C s H ex,PIf (cxComp X own fr sc C s H ex) ifs tc) (he:∀ C s H ex,PE (cxComp X own fr sc C s H ex) elt te)
  (hsw:swapsWith (.ListComp elt [⟨tg,iter,ifs,0⟩] sc pos) (some (.Name y py)) spos.line X.env = pure true:=by rfl)
  (hs:∀ x,foldedSetIterable iter X.env x = pure x:=by intro _; rfl):PS X (.Assign [.Name y py] (.ListComp elt [⟨tg,iter,ifs,0⟩] sc pos) spos) (tAsg (tCompW wi own fr g tc te) (gName i)):=ps_setComp hN hy hl hc S hi hg hif he hsw hs
section
variable {X:Cx} {K:PySem.W.Frag}
theorem ix_listK (h:X.K = K):IxR X (rIxL K):=by subst h; exact ix_list
theorem ix_tupK (h:X.K = K):IxR X (rIxT K):=by subst h; exact ix_tup
noncomputable def rLen (K:PySem.W.Frag):List V -> Hp -> VK -> Prop:=fun xs H Q=>∃ (p:Addr) (ys:List V),xs = [.ref p] /\ (SqL K H p ys \/ SqT K H p ys) /\ Q (.int ys.length) H
theorem call_lenK (h:X.K = K):CallR X (.builtin "len") (rLen K):=by subst h; exact call_len_seq
noncomputable def rListOf (K:PySem.W.Frag):List V -> Hp -> VK -> Prop:=fun xs H Q=>∃ (p:Addr) (ys:List V),xs = [.ref p] /\ (SqL K H p ys \/ SqT K H p ys) /\ ∀ l,H l = none -> Q (.ref l) (upd H l (.lst ys))
theorem call_listK (h:X.K = K):CallR X (.type "list") (rListOf K):=by subst h; exact call_list_of
noncomputable def rTupleOf (K:PySem.W.Frag):List V -> Hp -> VK -> Prop:=fun xs H Q=>∃ (p:Addr) (ys:List V),xs = [.ref p] /\ ((SqL K H p ys /\ ∀ l,H l = none -> Q (.ref l) (upd H l (.tup ys))) \/ (SqT K H p ys /\ Q (.ref p) H))
theorem call_tupleK (h:X.K = K):CallR X (.type "tuple") (rTupleOf K):=by subst h; exact call_tuple_of
theorem op_eqDK (h:X.K = K) (hu:X.A.units + 64 < cLine):OpR X (compareOp .Eq) (rEqD K false):=by subst h; exact op_eqD hu
theorem op_neDK (h:X.K = K) (hu:X.A.units + 64 < cLine):OpR X (compareOp .NotEq) (rEqD K true):=by subst h; exact op_neD hu
theorem pg_tupK {es:List Expr} {k:Nat} {t:TGs} {n:Nat} {pos:Pos} (h:X.K = K) (hc:X.calm = true) (hh:PGs X es t) (hn:(assignEach es X.env).length = n:=by rfl) (hst:(assignEach es X.env).findIdx? (·.1) = none:=by rfl):PG X (.Tuple es k pos) (gTup K n t):=by subst h; exact pg_tup hc hh hn hst
end
end L2
namespace L2
open PySem PySem.Spec PyProof.Rows
theorem cat_tup0 {prog:Program} {w:World} {A:Around} {E:Value -> Shared -> Prop} {s:Shared} {t b:Addr} {ws:List Value} {Q:Value -> Shared -> Prop} (ht:IsTup s.heap t ([]:List Value).toArray) (hb:IsTup s.heap b ws.toArray) (h:Q (.ref b) s):wpAny (model prog w) A (binaryOp .Add (.ref t) (.ref b)) Q E s:=by
 obtain ⟨⟨cls,dd,data,sl⟩,ho,hc,n,hd⟩:=id ht
 obtain ⟨⟨cls2,dd2,data2,sl2⟩,ho2,hc2,n2,hd2⟩:=id hb
 simp only at hc hd hc2 hd2
 subst hc hd hc2 hd2
 exact concat_meets ⟨_,ho,rfl⟩ ⟨_,ho2,rfl⟩ noFill_tuple_add seq_tuple_add PySem.F.slot_tuple_add PySem.F.entry_tuple_add (PySem.F.args_tuple_add_2 _ _) (tuple_addW0 t b _ ws.toArray n n2 dd dd2 sl sl2 rfl) ⟨ho,ho2,h⟩
end L2
namespace L2
open PySem PySem.Spec PyProof.Rows
section
variable {prog:Program} {w:World} {A:Around} {E:Value -> Shared -> Prop} {s:Shared}
end
end L2
namespace L2
open PySem PySem.Spec
noncomputable abbrev excO (a C:Addr):HO:=.ext fun h=>∃ o vs,h.get? a = some o /\ o.cls = .ref C /\ o.data = .fields vs
end L2
namespace L3
open PySem PySem.Spec L2
noncomputable abbrev D:=PyData
noncomputable abbrev Fg:=PySem.W.Frag
noncomputable def Sub (F H:Hp):Prop:=∀ a o,F a = some o -> H a = some o
theorem Sub.refl (H:Hp):Sub H H:=fun _ _ h=>h
theorem Sub.trans {A B C:Hp} (h:Sub A B) (k:Sub B C):Sub A C:=fun a o e=>k a o (h a o e)
theorem Sub.new {F:Hp} {a:Addr} {o:HO} (h:F a = none):Sub F (upd F a o):=fun b u e=>by rw [upd_ne (ne_of_none e h)]; exact e
theorem Sub.rd {F H:Hp} {a:Addr} {u:HO} (s:Sub F H):Rd F a u -> Rd H a u
 | .inl h=>.inl (s _ _ h)
 | .inr ⟨o,h⟩=>.inr ⟨o,s _ _ h⟩
theorem Sub.sql {K:Fg} {F H:Hp} {a:Addr} {xs:List V} (s:Sub F H):SqL K F a xs -> SqL K H a xs
 | .inl h=>.inl (s.rd h)
 | .inr h=>.inr h
noncomputable def keyD:Key -> D
 | .inl i=>.int i
 | .inr x=>.str x
noncomputable abbrev scrD (ns:List Int):D:=.dict [(.none,.list (ns.map PyData.int))]
noncomputable abbrev excD (C:Addr):D:=.dict [(.bool true,.int (C:Nat))]
mutual
inductive Da (K:Fg) (F:Hp):V -> D -> Prop
 | non:Da K F .non .none
 | bl (b):Da K F (.bl b) (.bool b)
 | int (i):Da K F (.int i) (.int i)
 | str (x):Da K F (.str x) (.str x)
 | lst {a xs ds}:F a = some (.lst xs) -> DaAll K F xs ds -> Da K F (.ref a) (.list ds)
 | tup {a xs ds}:F a = some (.tup xs) -> DaAll K F xs ds -> Da K F (.ref a) (.tuple ds)
 | dk {a kvs es}:Rd F a (.dK kvs) -> DaKV K F kvs es -> Da K F (.ref a) (.dict es)
 | dt {a kvs es}:Rd F a (.dT kvs) -> DaKT K F kvs es -> Da K F (.ref a) (.dict es)
 | scr {a ns}:SqL K F a (ns.map V.int) -> Da K F (.ref a) (scrD ns)
 | exc {a C}:F a = some (excO a C) -> Da K F (.ref a) (excD C)
inductive DaAll (K:Fg) (F:Hp):List V -> List D -> Prop
 | nil:DaAll K F [] []
 | cons {x xs d ds}:Da K F x d -> DaAll K F xs ds -> DaAll K F (x :: xs) (d :: ds)
inductive DaKV (K:Fg) (F:Hp):List (Key × V) -> List (D × D) -> Prop
 | nil:DaKV K F [] []
 | cons {k v d kvs es}:Da K F v d -> DaKV K F kvs es -> DaKV K F ((k,v) :: kvs) ((keyD k,d) :: es)
inductive DaKT (K:Fg) (F:Hp):List (List Key × V) -> List (D × D) -> Prop
 | nil:DaKT K F [] []
 | cons {ks v d kvs es}:Da K F v d -> DaKT K F kvs es -> DaKT K F ((ks,v) :: kvs) ((.tuple (ks.map keyD),d) :: es)
end
section
variable {K:Fg} {F F':Hp}
mutual
theorem Da.mono (s:Sub F F'):∀ {v:V} {d:D},Da K F v d -> Da K F' v d
 | _,_,.non=>.non
 | _,_,.bl b=>.bl b
 | _,_,.int i=>.int i
 | _,_,.str x=>.str x
 | _,_,.lst h t=>.lst (s _ _ h) (DaAll.mono s t)
 | _,_,.tup h t=>.tup (s _ _ h) (DaAll.mono s t)
 | _,_,.dk h t=>.dk (s.rd h) (DaKV.mono s t)
 | _,_,.dt h t=>.dt (s.rd h) (DaKT.mono s t)
 | _,_,.scr h=>.scr (s.sql h)
 | _,_,.exc h=>.exc (s _ _ h)
theorem DaAll.mono (s:Sub F F'):∀ {xs:List V} {ds:List D},DaAll K F xs ds -> DaAll K F' xs ds
 | _,_,.nil=>.nil
 | _,_,.cons h t=>.cons (Da.mono s h) (DaAll.mono s t)
theorem DaKV.mono (s:Sub F F'):∀ {xs:List (Key × V)} {ds:List (D × D)},DaKV K F xs ds -> DaKV K F' xs ds
 | _,_,.nil=>.nil
 | _,_,.cons h t=>.cons (Da.mono s h) (DaKV.mono s t)
theorem DaKT.mono (s:Sub F F'):∀ {xs:List (List Key × V)} {ds:List (D × D)},DaKT K F xs ds -> DaKT K F' xs ds
 | _,_,.nil=>.nil
 | _,_,.cons h t=>.cons (Da.mono s h) (DaKT.mono s t)
end
theorem DaAll.length:∀ {xs:List V} {ds:List D},DaAll K F xs ds -> xs.length = ds.length
 | _,_,.nil=>rfl
 | _,_,.cons _ t=>by simp [DaAll.length t]
theorem DaAll.get:∀ {xs:List V} {ds:List D} {i:Nat} {d:D},DaAll K F xs ds -> ds[i]? = some d -> ∃ v,xs[i]? = some v /\ Da K F v d
 | _,_,_,_,.nil,e=>by simp at e
 | _,_,0,_,.cons h _,e=>by simp at e; subst e; exact ⟨_,rfl,h⟩
 | _,_,i + 1,_,.cons _ t,e=>by
  obtain ⟨v,a,b⟩:=DaAll.get (i:=i) t (by simpa using e)
  exact ⟨v,by simpa using a,b⟩
theorem DaAll.append:∀ {xs ys:List V} {ds es:List D},DaAll K F xs ds -> DaAll K F ys es -> DaAll K F (xs ++ ys) (ds ++ es)
 | _,_,_,_,.nil,s=>s
 | _,_,_,_,.cons h t,s=>.cons h (DaAll.append t s)
theorem DaAll.set {v:V} {d:D} (h:Da K F v d):∀ {xs:List V} {ds:List D} (i:Nat),DaAll K F xs ds -> DaAll K F (xs.set i v) (ds.set i d)
 | _,_,_,.nil=>.nil
 | _,_,0,.cons _ t=>.cons h t
 | _,_,i + 1,.cons q t=>.cons q (DaAll.set h i t)
theorem DaAll.take:∀ {xs:List V} {ds:List D} (n:Nat),DaAll K F xs ds -> DaAll K F (xs.take n) (ds.take n)
 | _,_,0,_=>.nil
 | _,_,_ + 1,.nil=>.nil
 | _,_,n + 1,.cons h t=>.cons h (DaAll.take n t)
theorem DaAll.drop:∀ {xs:List V} {ds:List D} (n:Nat),DaAll K F xs ds -> DaAll K F (xs.drop n) (ds.drop n)
 | _,_,0,r=>r
 | _,_,_ + 1,.nil=>.nil
 | _,_,n + 1,.cons _ t=>DaAll.drop n t
theorem DaAll.rep {xs:List V} {ds:List D} (h:DaAll K F xs ds):∀ k:Nat,DaAll K F (List.replicate k xs).flatten (List.replicate k ds).flatten
 | 0=>.nil
 | k + 1=>by rw [List.replicate_succ,List.replicate_succ,List.flatten_cons,List.flatten_cons]; exact h.append (DaAll.rep h k)
theorem DaAll.ints:∀ ns:List Int,DaAll K F (ns.map V.int) (ns.map PyData.int)
 | []=>.nil
 | n :: ns=>.cons (.int n) (DaAll.ints ns)
end
inductive Sl where
 | fz (d:D) | ow (d:D) | io (d:D)
noncomputable def Sl.d:Sl -> D
 | .fz d=>d
 | .ow d=>d
 | .io d=>d
noncomputable def isOw:Sl -> Bool
 | .fz _=>false
 | .ow _=>true
 | .io _=>true
noncomputable abbrev Ev:=List (Option Sl)
noncomputable def Own1 (K:Fg) (F:Hp):HO -> D -> Prop
 | .lst xs,.list ds=>DaAll K F xs ds
 | .dK kvs,.dict es=>DaKV K F kvs es
 | .dT kvs,.dict es=>DaKT K F kvs es
 | _,_=>False
section
variable {K:Fg} {F F':Hp} {o:HO} {d:D} {a:Addr}
theorem Own1.mono (s:Sub F F') (h:Own1 K F o d):Own1 K F' o d:=by
 cases o <;> cases d <;> first | exact DaAll.mono s h | exact DaKV.mono s h | exact DaKT.mono s h | exact h.elim
theorem Own1.da (h:Own1 K F o d) (e:F a = some o):Da K F (.ref a) d:=by
 cases o <;> cases d <;> first | exact .lst e h | exact .dk (.inl e) h | exact .dt (.inl e) h | exact h.elim
end
structure Gh where
 H0:Hp
 F0:Hp
 io:Nat -> Option Addr
structure Rel (K:Fg) (G:Gh) (F:Hp) (σ:St) (H:Hp) (ρ:Ev):Prop where
 len:σ.length = ρ.length
 sub:Sub F H
 sub0:Sub G.F0 F
 fn:∀ a o,F a = some o -> G.F0 a = some o \/ G.H0 a = none
 keep:∀ a o,G.H0 a = some o -> (∀ i,G.io i ≠ some a) -> H a = some o
 fz:∀ (i:Nat) (d:D),ρ[i]? = some (some (Sl.fz d)) -> ∃ v,σ[i]? = some (some v) /\ Da K F v d
 ow:∀ (i:Nat) (s:Sl),ρ[i]? = some (some s) -> isOw s = true -> ∃ a o,σ[i]? = some (some (V.ref a)) /\ F a = none /\ H a = some o /\ Own1 K F o s.d
 new:∀ (i:Nat) (d:D) (a:Addr),ρ[i]? = some (some (Sl.ow d)) -> σ[i]? = some (some (V.ref a)) -> G.H0 a = none
 io:∀ (i:Nat) (a:Addr),G.io i = some a -> ∃ d,ρ[i]? = some (some (Sl.io d)) /\ σ[i]? = some (some (V.ref a))
 ioi:∀ (i:Nat) (d:D),ρ[i]? = some (some (Sl.io d)) -> ∃ a,G.io i = some a
 ap:∀ (i j:Nat) (s t:Sl) (a:Addr),ρ[i]? = some (some s) -> isOw s = true -> ρ[j]? = some (some t) -> isOw t = true -> σ[i]? = some (some (V.ref a)) -> σ[j]? = some (some (V.ref a)) -> i = j
noncomputable def Res (K:Fg) (G:Gh) (F H:Hp) (σ:St) (ρ:Ev) (v:V):Sl -> Prop
 | .fz d=>Da K F v d
 | .ow d=>∃ a o,v = .ref a /\ F a = none /\ H a = some o /\ Own1 K F o d /\ G.H0 a = none /\ ∀ (i:Nat) (s:Sl),ρ[i]? = some (some s) -> isOw s = true -> σ[i]? ≠ some (some (V.ref a))
 | .io _=>False
section
variable {K:Fg} {G:Gh} {F F' H:Hp} {σ:St} {ρ:Ev} {a:Addr} {o:HO} {d:D} {v:V} {s:Sl}
theorem Rel.bound (R:Rel K G F σ H ρ) {i:Nat} (h:ρ[i]? = some (some s)):∃ v,σ[i]? = some (some v):=by
 cases s with
 | fz d=>obtain ⟨v,e,_⟩:=R.fz i d h; exact ⟨v,e⟩
 | ow d=>obtain ⟨a,o,e,_⟩:=R.ow i _ h rfl; exact ⟨_,e⟩
 | io d=>obtain ⟨a,o,e,_⟩:=R.ow i _ h rfl; exact ⟨_,e⟩
theorem Rel.h0 (R:Rel K G F σ H ρ) (h:H a = none):G.H0 a = none:=by
 cases e:G.H0 a with
 | none=>rfl
 | some o =>
  by_cases q:∃ i,G.io i = some a
  ·obtain ⟨i,q⟩:=q
   obtain ⟨d,h1,h2⟩:=R.io i a q
   obtain ⟨a',o',h3,_,h4,_⟩:=R.ow i _ h1 rfl
   rw [h2] at h3
   cases h3
   rw [h] at h4; cases h4
  ·have:=R.keep a o e fun i z=>q ⟨i,z⟩
   rw [h] at this; cases this
theorem Rel.f0 (R:Rel K G F σ H ρ) (h:H a = none):F a = none:=by
 cases e:F a with
 | none=>rfl
 | some o=>rw [R.sub a o e] at h; cases h
theorem Rel.laid (R:Rel K G F σ H ρ) (h:H a = none):Rel K G F σ (upd H a o) ρ where
 len:=R.len
 sub:=fun b u e=>by rw [upd_ne (ne_of_none (R.sub b u e) h)]; exact R.sub b u e
 sub0:=R.sub0
 fn:=R.fn
 keep:=fun b u e n=>by rw [upd_ne (ne_of_none (R.keep b u e n) h)]; exact R.keep b u e n
 fz:=R.fz
 ow:=fun i s e w=>by
  obtain ⟨a',o',h1,h2,h3,h4⟩:=R.ow i s e w
  exact ⟨a',o',h1,h2,by rw [upd_ne (ne_of_none h3 h)]; exact h3,h4⟩
 new:=R.new
 io:=R.io
 ioi:=R.ioi
 ap:=R.ap
theorem Rel.grow (R:Rel K G F σ H ρ) (h0:G.H0 a = none) (h:H a = some o) (hn:∀ (i:Nat) (s:Sl),ρ[i]? = some (some s) -> isOw s = true -> σ[i]? ≠ some (some (V.ref a))):Sub F (upd F a o) /\ Rel K G (upd F a o) σ H ρ:=by
 have sb:Sub F (upd F a o):=fun b u e=>by
  by_cases z:b = a
  ·subst z; rw [upd_same,<- h]; exact R.sub _ _ e
  ·rw [upd_ne z]; exact e
 refine ⟨sb,R.len,fun b u e=>?_,R.sub0.trans sb,fun b u e=>?_,R.keep,fun i d e=>?_,fun i s e w=>?_,R.new,R.io,R.ioi,R.ap⟩
 ·by_cases z:b = a
  ·subst z; rw [upd_same] at e; rw [h]; exact e
  ·rw [upd_ne z] at e; exact R.sub _ _ e
 ·by_cases z:b = a
  ·subst z; exact .inr h0
  ·rw [upd_ne z] at e; exact R.fn _ _ e
 ·obtain ⟨v,h1,h2⟩:=R.fz i d e
  exact ⟨v,h1,h2.mono sb⟩
 ·obtain ⟨a',o',h1,h2,h3,h4⟩:=R.ow i s e w
  have z:a' ≠ a:=fun z=>hn i s e w (by rw [h1,z])
  exact ⟨a',o',h1,by rw [upd_ne z]; exact h2,h3,h4.mono sb⟩
theorem Res.frz (R:Rel K G F σ H ρ) (r:Res K G F H σ ρ v s):∃ F',Sub F F' /\ Rel K G F' σ H ρ /\ Da K F' v s.d:=by
 cases s with
 | fz d=>exact ⟨F,Sub.refl _,R,r⟩
 | ow d =>
  obtain ⟨a,o,rfl,h1,h2,h3,h4,h5⟩:=r
  obtain ⟨sb,R'⟩:=R.grow h4 h2 h5
  exact ⟨_,sb,R',(h3.mono sb).da upd_same⟩
 | io d=>exact r.elim
theorem Rel.newOw (R:Rel K G F σ H ρ) (h:H a = none) (w:Own1 K F o d):Rel K G F σ (upd H a o) ρ /\ Res K G F (upd H a o) σ ρ (.ref a) (.ow d):=by
 refine ⟨R.laid h,a,o,rfl,R.f0 h,upd_same,w,R.h0 h,fun i s e w z=>?_⟩
 obtain ⟨a',o',h1,h2,h3,h4⟩:=R.ow i s e w
 rw [z] at h1
 cases h1
 rw [h] at h3; cases h3
theorem Rel.newTup (R:Rel K G F σ H ρ) {xs:List V} {ds:List D} (h:H a = none) (w:DaAll K F xs ds) :
  Sub F (upd F a (.tup xs)) /\ Rel K G (upd F a (.tup xs)) σ (upd H a (.tup xs)) ρ /\ Da K (upd F a (.tup xs)) (.ref a) (.tuple ds):=by
 have R1:Rel K G F σ (upd H a (.tup xs)) ρ:=R.laid h
 obtain ⟨sb,R2⟩:=R1.grow (a:=a) (o:=.tup xs) (R.h0 h) upd_same fun i s e w z=>by
  obtain ⟨a',o',h1,h2,h3,h4⟩:=R.ow i s e w
  rw [z] at h1
  cases h1
  rw [h] at h3; cases h3
 exact ⟨sb,R2,.tup upd_same (w.mono sb)⟩
noncomputable def Sl.put:Sl -> D -> Sl
 | .fz _,d=>.fz d
 | .ow _,d=>.ow d
 | .io _,d=>.io d
theorem get_set {α:Type} {l:List α} {i j:Nat} {x y:α} (h:(l.set i x)[j]? = some y):(j = i /\ y = x) \/ (j ≠ i /\ l[j]? = some y):=by
 by_cases z:i = j
 ·subst z
  rw [List.getElem?_set] at h
  simp at h
  exact .inl ⟨rfl,h.2.symm⟩
 ·rw [List.getElem?_set_ne z] at h
  exact .inr ⟨fun q=>z q.symm,h⟩
theorem set_get {α:Type} {l:List α} {i:Nat} {x:α} (h:i < l.length):(l.set i x)[i]? = some x:=by simp [h]
theorem lt_of_get {α:Type} {l:List α} {i:Nat} {x:α} (h:l[i]? = some x):i < l.length:=(List.getElem?_eq_some_iff.mp h).1
theorem Rel.change (R:Rel K G F σ H ρ) {i:Nat} {o':HO} {d':D} (h:ρ[i]? = some (some s)) (w:isOw s = true) (ha:σ[i]? = some (some (V.ref a))) (q:Own1 K F o' d') :
  Rel K G F σ (upd H a o') (ρ.set i (some (s.put d'))):=by
 obtain ⟨a0,o0,h1,h2,h3,h4⟩:=R.ow i s h w
 rw [ha] at h1; cases h1
 have sw:isOw (s.put d') = true:=by cases s <;> first | rfl | cases w
 have hl:=lt_of_get h
 refine ⟨by rw [List.length_set]; exact R.len,fun b u e=>?_,R.sub0,R.fn,fun b u e n=>?_,fun j d e=>?_,fun j t e wt=>?_,fun j d b e eb=>?_,fun j b e=>?_,fun j d e=>?_,fun j k t u b e1 w1 e2 w2 e3 e4=>?_⟩
 ·have z:b ≠ a:=fun z=>by subst z; rw [h2] at e; cases e
  rw [upd_ne z]; exact R.sub _ _ e
 ·by_cases z:b = a
  ·subst z
   cases s with
   | fz d=>cases w
   | ow d=>rw [R.new i d b h ha] at e; cases e
   | io d =>
    obtain ⟨a',e'⟩:=R.ioi i d h
    obtain ⟨d',_,e2⟩:=R.io i a' e'
    rw [ha] at e2; cases e2
    exact absurd e' (n i)
  ·rw [upd_ne z]; exact R.keep _ _ e n
 ·rcases get_set e with ⟨rfl,z⟩ | ⟨n,z⟩
  ·cases s <;> simp [Sl.put,isOw] at z w
  ·exact R.fz j d z
 ·rcases get_set e with ⟨rfl,z⟩ | ⟨n,z⟩
  ·cases z
   exact ⟨a,o',ha,h2,upd_same,by cases s <;> first | exact q | cases w⟩
  ·obtain ⟨b,u,g1,g2,g3,g4⟩:=R.ow j t z wt
   have nb:b ≠ a:=fun x=>n (R.ap j i t s a z wt h w (by rw [g1,x]) ha)
   exact ⟨b,u,g1,g2,by rw [upd_ne nb]; exact g3,g4⟩
 ·rcases get_set e with ⟨rfl,z⟩ | ⟨n,z⟩
  ·cases s with
   | fz d=>cases w
   | ow d0=>exact R.new j d0 b h eb
   | io d=>cases z
  ·exact R.new j d b z eb
 ·obtain ⟨d,e1,e2⟩:=R.io j b e
  by_cases z:j = i
  ·subst z
   rw [h] at e1
   cases e1
   exact ⟨d',by rw [set_get hl]; rfl,e2⟩
  ·exact ⟨d,by rw [List.getElem?_set_ne (Ne.symm z)]; exact e1,e2⟩
 ·rcases get_set e with ⟨rfl,z⟩ | ⟨n,z⟩
  ·cases s with
   | fz d=>cases w
   | ow d0=>cases z
   | io d0=>exact R.ioi j d0 h
  ·exact R.ioi j d z
 ·have f:∀ (j:Nat) (t:Sl),(ρ.set i (some (s.put d')))[j]? = some (some t) -> isOw t = true -> ∃ t',ρ[j]? = some (some t') /\ isOw t' = true:=fun j t e wt=>by
   rcases get_set e with ⟨rfl,z⟩ | ⟨n,z⟩
   ·exact ⟨s,h,w⟩
   ·exact ⟨t,z,wt⟩
  obtain ⟨t',e1',w1'⟩:=f j t e1 w1
  obtain ⟨u',e2',w2'⟩:=f k u e2 w2
  exact R.ap j k t' u' b e1' w1' e2' w2' e3 e4
theorem Rel.forget (R:Rel K G F σ H ρ) {i:Nat} (h:ρ[i]? = some (some (Sl.ow d))):Rel K G F σ H (ρ.set i none):=by
 refine ⟨by rw [List.length_set]; exact R.len,R.sub,R.sub0,R.fn,R.keep,fun j d e=>?_,fun j t e wt=>?_,fun j d b e eb=>?_,fun j b e=>?_,fun j d e=>?_,fun j k t u b e1 w1 e2 w2 e3 e4=>?_⟩
 ·rcases get_set e with ⟨rfl,z⟩ | ⟨n,z⟩
  ·cases z
  ·exact R.fz j d z
 ·rcases get_set e with ⟨rfl,z⟩ | ⟨n,z⟩
  ·cases z
  ·exact R.ow j t z wt
 ·rcases get_set e with ⟨rfl,z⟩ | ⟨n,z⟩
  ·cases z
  ·exact R.new j d b z eb
 ·obtain ⟨d',e1,e2⟩:=R.io j b e
  have n:i ≠ j:=fun z=>by subst z; rw [h] at e1; cases e1
  exact ⟨d',by rw [List.getElem?_set_ne n]; exact e1,e2⟩
 ·rcases get_set e with ⟨rfl,z⟩ | ⟨n,z⟩
  ·cases z
  ·exact R.ioi j d z
 ·rcases get_set e1 with ⟨rfl,z⟩ | ⟨n,z⟩
  ·cases z
  ·rcases get_set e2 with ⟨rfl,z'⟩ | ⟨n',z'⟩
   ·cases z'
   ·exact R.ap j k t u b z w1 z' w2 e3 e4
theorem Rel.freeze (R:Rel K G F σ H ρ) {i:Nat} (h:ρ[i]? = some (some (Sl.ow d))):∃ F' v,Sub F F' /\ Rel K G F' σ H (ρ.set i (some (Sl.fz d))) /\ σ[i]? = some (some v) /\ Da K F' v d:=by
 obtain ⟨a,o,h1,h2,h3,h4⟩:=R.ow i _ h rfl
 have hl:=lt_of_get h
 have R1:=R.forget h
 have hn:∀ (j:Nat) (s:Sl),(ρ.set i none)[j]? = some (some s) -> isOw s = true -> σ[j]? ≠ some (some (V.ref a)):=fun j s e w z=>by
  rcases get_set e with ⟨rfl,q⟩ | ⟨n,q⟩
  ·cases q
  ·exact n (R.ap j i s _ a q w h rfl z h1)
 obtain ⟨sb,R2⟩:=R1.grow (R.new i d a h h1) h3 hn
 have dd:Da K (upd F a o) (.ref a) d:=(h4.mono sb).da upd_same
 refine ⟨_,_,sb,?_,h1,dd⟩
 refine ⟨by rw [List.length_set]; exact R.len,R2.sub,R2.sub0,R2.fn,R2.keep,fun j d' e=>?_,fun j t e wt=>?_,fun j d b e eb=>?_,fun j b e=>?_,fun j d e=>?_,fun j k t u b e1 w1 e2 w2 e3 e4=>?_⟩
 ·rcases get_set e with ⟨rfl,z⟩ | ⟨n,z⟩
  ·cases z; exact ⟨_,h1,dd⟩
  ·exact R2.fz j d' (by rw [List.getElem?_set_ne (Ne.symm n)]; exact z)
 ·rcases get_set e with ⟨rfl,z⟩ | ⟨n,z⟩
  ·cases z; cases wt
  ·exact R2.ow j t (by rw [List.getElem?_set_ne (Ne.symm n)]; exact z) wt
 ·rcases get_set e with ⟨rfl,z⟩ | ⟨n,z⟩
  ·cases z
  ·exact R.new j d b z eb
 ·obtain ⟨d',e1,e2⟩:=R.io j b e
  have n:i ≠ j:=fun z=>by subst z; rw [h] at e1; cases e1
  exact ⟨d',by rw [List.getElem?_set_ne n]; exact e1,e2⟩
 ·rcases get_set e with ⟨rfl,z⟩ | ⟨n,z⟩
  ·cases z
  ·exact R.ioi j d z
 ·rcases get_set e1 with ⟨rfl,z⟩ | ⟨n,z⟩
  ·cases z; cases w1
  ·rcases get_set e2 with ⟨rfl,z'⟩ | ⟨n',z'⟩
   ·cases z'; cases w2
   ·exact R.ap j k t u b z w1 z' w2 e3 e4
theorem Rel.forgetRes (R:Rel K G F σ H ρ) {i:Nat} (h:ρ[i]? = some (some (Sl.ow d))):∃ v,σ[i]? = some (some v) /\ Res K G F H σ (ρ.set i none) v (.ow d):=by
 obtain ⟨a,o,h1,h2,h3,h4⟩:=R.ow i _ h rfl
 refine ⟨_,h1,a,o,rfl,h2,h3,h4,R.new i d a h h1,fun j s e w z=>?_⟩
 rcases get_set e with ⟨rfl,q⟩ | ⟨n,q⟩
 ·cases q
 ·exact n (R.ap j i s _ a q w h rfl z h1)
noncomputable def noIo (ρ:Ev) (i:Nat):Prop:=match ρ[i]? with
 | some (some (Sl.io _))=>False
 | some _=>True
 | none=>False
theorem Rel.asg (R:Rel K G F σ H ρ) {i:Nat} (hi:noIo ρ i) (r:Res K G F H σ ρ v s):Rel K G F (σ.set i (some v)) H (ρ.set i (some s)):=by
 have hl:i < ρ.length:=by
  cases e:ρ[i]? with
  | none=>unfold noIo at hi; rw [e] at hi; exact hi.elim
  | some x=>exact lt_of_get e
 have hl':i < σ.length:=by rw [R.len]; exact hl
 have ni:∀ d,ρ[i]? ≠ some (some (Sl.io d)):=fun d e=>by unfold noIo at hi; rw [e] at hi; exact hi
 refine ⟨by rw [List.length_set,List.length_set]; exact R.len,R.sub,R.sub0,R.fn,R.keep,fun j d e=>?_,fun j t e wt=>?_,fun j d b e eb=>?_,fun j b e=>?_,fun j d e=>?_,fun j k t u b e1 w1 e2 w2 e3 e4=>?_⟩
 ·rcases get_set e with ⟨rfl,z⟩ | ⟨n,z⟩
  ·cases z; exact ⟨v,set_get hl',r⟩
  ·rw [List.getElem?_set_ne (Ne.symm n)]; exact R.fz j d z
 ·rcases get_set e with ⟨rfl,z⟩ | ⟨n,z⟩
  ·cases z
   cases s with
   | fz d=>cases wt
   | ow d =>
    obtain ⟨a,o,rfl,h1,h2,h3,_⟩:=r
    exact ⟨a,o,set_get hl',h1,h2,h3⟩
   | io d=>exact r.elim
  ·rw [List.getElem?_set_ne (Ne.symm n)]; exact R.ow j t z wt
 ·rcases get_set e with ⟨rfl,z⟩ | ⟨n,z⟩
  ·cases z
   obtain ⟨a,o,rfl,h1,h2,h3,h4,_⟩:=r
   rw [set_get hl'] at eb; cases eb
   exact h4
  ·rw [List.getElem?_set_ne (Ne.symm n)] at eb; exact R.new j d b z eb
 ·obtain ⟨d,e1,e2⟩:=R.io j b e
  have n:i ≠ j:=fun z=>by subst z; exact ni d e1
  exact ⟨d,by rw [List.getElem?_set_ne n]; exact e1,by rw [List.getElem?_set_ne n]; exact e2⟩
 ·rcases get_set e with ⟨rfl,z⟩ | ⟨n,z⟩
  ·cases z; exact r.elim
  ·exact R.ioi j d z
 ·have own:∀ (j:Nat) (t:Sl),j ≠ i -> ρ[j]? = some (some t) -> isOw t = true -> (σ.set i (some v))[j]? = some (some (V.ref b)) -> s.d = s.d -> isOw s = true -> v = .ref b -> False:=fun j t n e w eb _ ws ev=>by
   subst ev
   cases s with
   | fz d=>cases ws
   | io d=>exact r
   | ow d =>
    obtain ⟨a,o,z,h1,h2,h3,h4,h5⟩:=r
    cases z
    rw [List.getElem?_set_ne (Ne.symm n)] at eb
    exact h5 j t e w eb
  rcases get_set e1 with ⟨rfl,z⟩ | ⟨n,z⟩
  ·rcases get_set e2 with ⟨rfl,z'⟩ | ⟨n',z'⟩
   ·rfl
   ·rw [set_get hl'] at e3; cases e3
    cases z
    exact (own k u n' z' w2 e4 rfl w1 rfl).elim
  ·rcases get_set e2 with ⟨rfl,z'⟩ | ⟨n',z'⟩
   ·rw [set_get hl'] at e4; cases e4
    cases z'
    exact (own j t n z w1 e3 rfl w2 rfl).elim
   ·rw [List.getElem?_set_ne (Ne.symm n)] at e3
    rw [List.getElem?_set_ne (Ne.symm n')] at e4
    exact R.ap j k t u b z w1 z' w2 e3 e4
end
end L3
namespace L3
open PySem PySem.Spec L2
noncomputable abbrev TD:=Ev -> (Sl -> Ev -> Prop) -> Prop
noncomputable abbrev TTD:=Ev -> (Bool -> Ev -> Prop) -> Prop
noncomputable abbrev Opd:=Sum Nat D
noncomputable abbrev AD:=Sum Nat TD
noncomputable def lift (K:Fg) (td:TD):TE:=fun σ H Q=>∃ (G:Gh) (F:Hp) (ρ:Ev) (Qd:Sl -> Ev -> Prop),Rel K G F σ H ρ /\ td ρ Qd /\
 ∀ v H' F' r ρ',Sub F F' -> Rel K G F' σ H' ρ' -> Res K G F' H' σ ρ' v r -> Qd r ρ' -> Q v H'
noncomputable def liftT (K:Fg) (tc:TTD):TT:=fun σ H Q=>∃ (G:Gh) (F:Hp) (ρ:Ev) (Qd:Bool -> Ev -> Prop),Rel K G F σ H ρ /\ tc ρ Qd /\
 ∀ b H' F' ρ',Sub F F' -> Rel K G F' σ H' ρ' -> Qd b ρ' -> Q b H'
noncomputable def argT (K:Fg):AD -> TE
 | .inl i=>tVar i
 | .inr td=>lift K td
noncomputable def tArgs:List TE -> TA
 | []=>tNil
 | t :: ts=>tCons t (tArgs ts)
theorem argT_mono {K:Fg} {a:AD} {σ:St} {H:Hp} {Q Q':VK} (m:∀ v H,Q v H -> Q' v H) (h:argT K a σ H Q):argT K a σ H Q':=by
 cases a with
 | inl i=>obtain ⟨v,e,q⟩:=h; exact ⟨v,e,m _ _ q⟩
 | inr td =>
  obtain ⟨G,F,ρ,Qd,R,w,k⟩:=h
  exact ⟨G,F,ρ,Qd,R,w,fun v H' F' r ρ' s R' r' q=>m _ _ (k v H' F' r ρ' s R' r' q)⟩
theorem arg1 {K:Fg} {a:AD} {σ:St} {H:Hp} {P:VK} (h:tArgs ([a].map (argT K)) σ H fun vs H2=>∃ x,vs = [x] /\ P x H2):argT K a σ H P :=
 argT_mono (fun v H q=>by obtain ⟨x,e,q⟩:=q; cases e; exact q) h
theorem arg2 {K:Fg} {a b:AD} {σ:St} {H:Hp} {P:V -> V -> Hp -> Prop} (h:tArgs ([a,b].map (argT K)) σ H fun vs H2=>∃ x y,vs = [x,y] /\ P x y H2):argT K a σ H fun x H1=>argT K b σ H1 fun y H2=>P x y H2 :=
 argT_mono (fun v H q=>argT_mono (fun u H q=>by obtain ⟨x,y,e,q⟩:=q; cases e; exact q) q) h
noncomputable def dVar (i:Nat):TD:=fun ρ Q=>match ρ[i]? with
 | some (some (.fz d))=>Q (.fz d) ρ
 | some (some (.ow d))=>Q (.fz d) (ρ.set i (some (.fz d)))
 | _=>False
noncomputable def dC (d:D):TD:=fun ρ Q=>Q (.fz d) ρ
section
variable {K:Fg} {σ:St} {H:Hp} {Q:VK}
theorem l_var {i:Nat} (h:lift K (dVar i) σ H Q):tVar i σ H Q:=by
 obtain ⟨G,F,ρ,Qd,R,w,k⟩:=h
 unfold dVar at w
 split at w
 ·rename_i d e
  obtain ⟨v,e1,h1⟩:=R.fz i d e
  exact ⟨v,e1,k v H F (.fz d) ρ (Sub.refl _) R h1 w⟩
 ·rename_i d e
  obtain ⟨F',v,sb,R',e1,h1⟩:=R.freeze e
  exact ⟨v,e1,k v H F' (.fz d) _ sb R' h1 w⟩
 ·exact w.elim
theorem l_c {v:V} {d:D} (hv:∀ F,Da K F v d) (h:lift K (dC d) σ H Q):tC v σ H Q:=by
 obtain ⟨G,F,ρ,Qd,R,w,k⟩:=h
 exact k v H F (.fz d) ρ (Sub.refl _) R (hv F) w
end
noncomputable def OpdAt (K:Fg) (F:Hp) (σ:St) (v:V):Opd -> Prop
 | .inl i=>σ[i]? = some (some v)
 | .inr d=>Da K F v d
inductive OpdsAt (K:Fg) (F:Hp) (σ:St):List V -> List Opd -> Prop
 | nil:OpdsAt K F σ [] []
 | cons {v x vs xs}:OpdAt K F σ v x -> OpdsAt K F σ vs xs -> OpdsAt K F σ (v :: vs) (x :: xs)
theorem OpdAt.mono {K:Fg} {F F':Hp} {σ:St} {v:V} {x:Opd} (s:Sub F F') (h:OpdAt K F σ v x):OpdAt K F' σ v x:=by
 cases x with
 | inl i=>exact h
 | inr d=>exact Da.mono s h
noncomputable def dArgs:List AD -> Ev -> (List Opd -> Ev -> Prop) -> Prop
 | [],ρ,Q=>Q [] ρ
 | .inl i :: as,ρ,Q=>match ρ[i]? with
  | some (some _)=>dArgs as ρ fun xs ρ'=>Q (.inl i :: xs) ρ'
  | _=>False
 | .inr td :: as,ρ,Q=>td ρ fun r ρ1=>dArgs as ρ1 fun xs ρ2=>Q (.inr r.d :: xs) ρ2
theorem args_okL {K:Fg} {G:Gh} {σ:St}:∀ {as:List AD} {F H:Hp} {ρ:Ev} {Qd:List Opd -> Ev -> Prop} {Qv:List V -> Hp -> Prop},Rel K G F σ H ρ -> dArgs as ρ Qd ->
  (∀ vs H' F' xs ρ',Sub F F' -> Rel K G F' σ H' ρ' -> OpdsAt K F' σ vs xs -> vs.length = as.length -> Qd xs ρ' -> Qv vs H') -> tArgs (as.map (argT K)) σ H Qv
 | [],F,H,ρ,Qd,Qv,R,w,k=>k [] H F [] ρ (Sub.refl _) R .nil rfl w
 | .inl i :: as,F,H,ρ,Qd,Qv,R,w,k=>by
  unfold dArgs at w
  split at w
  ·rename_i s e
   obtain ⟨v,ev⟩:=R.bound e
   refine ⟨v,ev,args_okL (as:=as) R w fun vs H' F' xs ρ' sb R' o hl q=>?_⟩
   exact k (v :: vs) H' F' (.inl i :: xs) ρ' sb R' (.cons ev o) (by simp [hl]) q
  ·exact w.elim
 | .inr td :: as,F,H,ρ,Qd,Qv,R,w,k=>by
  refine ⟨G,F,ρ,_,R,w,fun v H1 F1 r ρ1 s1 R1 r1 w1=>?_⟩
  obtain ⟨F2,s2,R2,d2⟩:=r1.frz R1
  refine args_okL (as:=as) R2 w1 fun vs H' F' xs ρ' sb R' o hl q=>?_
  exact k (v :: vs) H' F' (.inr r.d :: xs) ρ' (s1.trans (s2.trans sb)) R' (.cons (d2.mono sb) o) (by simp [hl]) q
theorem args_ok {K:Fg} {G:Gh} {σ:St} {as:List AD} {F H:Hp} {ρ:Ev} {Qd:List Opd -> Ev -> Prop} {Qv:List V -> Hp -> Prop} (R:Rel K G F σ H ρ) (w:dArgs as ρ Qd)
  (k:∀ vs H' F' xs ρ',Sub F F' -> Rel K G F' σ H' ρ' -> OpdsAt K F' σ vs xs -> Qd xs ρ' -> Qv vs H'):tArgs (as.map (argT K)) σ H Qv:=args_okL R w fun vs H' F' xs ρ' s R' o _ q=>k vs H' F' xs ρ' s R' o q
noncomputable def At (K:Fg) (F H:Hp) (v:V) (d:D):Prop:=Da K F v d \/ ∃ a o,v = .ref a /\ F a = none /\ H a = some o /\ Own1 K F o d
inductive AtAll (K:Fg) (F H:Hp):List V -> List D -> Prop
 | nil:AtAll K F H [] []
 | cons {v d vs ds}:At K F H v d -> AtAll K F H vs ds -> AtAll K F H (v :: vs) (d :: ds)
noncomputable def looksQ (ρ:Ev):List Opd -> (List D -> Prop) -> Prop
 | [],k=>k []
 | .inr d :: xs,k=>looksQ ρ xs fun ds=>k (d :: ds)
 | .inl i :: xs,k=>match ρ[i]? with
  | some (some s)=>looksQ ρ xs fun ds=>k (s.d :: ds)
  | _=>False
section
variable {K:Fg} {G:Gh} {F H:Hp} {σ:St} {ρ:Ev}
theorem Rel.at (R:Rel K G F σ H ρ) {i:Nat} {s:Sl} {v:V} (e:ρ[i]? = some (some s)) (ev:σ[i]? = some (some v)):At K F H v s.d:=by
 cases s with
 | fz d =>
  obtain ⟨v',e1,h1⟩:=R.fz i d e
  rw [ev] at e1; cases e1
  exact .inl h1
 | ow d =>
  obtain ⟨a,o,h1,h2,h3,h4⟩:=R.ow i _ e rfl
  rw [ev] at h1; cases h1
  exact .inr ⟨a,o,rfl,h2,h3,h4⟩
 | io d =>
  obtain ⟨a,o,h1,h2,h3,h4⟩:=R.ow i _ e rfl
  rw [ev] at h1; cases h1
  exact .inr ⟨a,o,rfl,h2,h3,h4⟩
theorem looks_ok (R:Rel K G F σ H ρ) {xs:List Opd} {vs:List V} {k:List D -> Prop} (o:OpdsAt K F σ vs xs) (h:looksQ ρ xs k):∃ ds,AtAll K F H vs ds /\ k ds:=by
 induction o generalizing k with
 | nil=>exact ⟨[],.nil,h⟩
 | @cons v x vs xs o t ih =>
  cases x with
  | inr d =>
   obtain ⟨ds,a,q⟩:=ih (k:=fun ds=>k (d :: ds)) h
   exact ⟨d :: ds,.cons (.inl o) a,q⟩
  | inl i =>
   unfold looksQ at h
   split at h
   ·rename_i s e
    obtain ⟨ds,a,q⟩:=ih (k:=fun ds=>k (s.d :: ds)) h
    exact ⟨s.d :: ds,.cons (R.at e o) a,q⟩
   ·exact h.elim
end
noncomputable def dOp (as:List AD) (f:List D -> (Sl -> Prop) -> Prop):TD:=fun ρ Q=>dArgs as ρ fun xs ρ1=>looksQ ρ1 xs fun ds=>f ds fun r=>Q r ρ1
noncomputable def OpOk (K:Fg) (r:List V -> Hp -> VK -> Prop) (f:List D -> (Sl -> Prop) -> Prop):Prop :=
 ∀ (G:Gh) (F:Hp) (σ:St) (H:Hp) (ρ:Ev) (vs:List V) (ds:List D) (Q:VK) (Qd:Sl -> Prop),Rel K G F σ H ρ -> AtAll K F H vs ds -> f ds Qd ->
  (∀ v H' F' s,Sub F F' -> Rel K G F' σ H' ρ -> Res K G F' H' σ ρ v s -> Qd s -> Q v H') -> r vs H Q
theorem l_op {K:Fg} {as:List AD} {r:List V -> Hp -> VK -> Prop} {f:List D -> (Sl -> Prop) -> Prop} (ok:OpOk K r f) {σ:St} {H:Hp} {Q:VK} (h:lift K (dOp as f) σ H Q):tArgs (as.map (argT K)) σ H fun vs H1=>r vs H1 Q:=by
 obtain ⟨G,F,ρ,Qd,R,w,k⟩:=h
 refine args_ok R w fun vs H' F' xs ρ' sb R' o q=>?_
 obtain ⟨ds,ha,q⟩:=looks_ok R' o q
 exact ok G F' σ H' ρ' vs ds Q _ R' ha q fun v H2 F2 s s2 R2 r2 q2=>k v H2 F2 s ρ' (sb.trans s2) R2 r2 q2
noncomputable def o1 (f:D -> (Sl -> Prop) -> Prop):List D -> (Sl -> Prop) -> Prop
 | [x],Q=>f x Q
 | _,_=>False
noncomputable def o2 (f:D -> D -> (Sl -> Prop) -> Prop):List D -> (Sl -> Prop) -> Prop
 | [x,y],Q=>f x y Q
 | _,_=>False
noncomputable def o3 (f:D -> D -> D -> (Sl -> Prop) -> Prop):List D -> (Sl -> Prop) -> Prop
 | [x,y,z],Q=>f x y z Q
 | _,_=>False
noncomputable def dTst (td:TD):TTD:=fun ρ Q=>td ρ fun r ρ'=>match r with
 | .fz (.bool b)=>Q b ρ'
 | _=>False
noncomputable def dNot (c:TTD):TTD:=fun ρ Q=>c ρ fun b ρ'=>Q (!b) ρ'
noncomputable def dAnd (c e:TTD):TTD:=fun ρ Q=>c ρ fun b ρ'=>if b = true then e ρ' Q else Q false ρ'
noncomputable def dOr (c e:TTD):TTD:=fun ρ Q=>c ρ fun b ρ'=>if b = true then Q true ρ' else e ρ' Q
noncomputable def dYes:TTD:=fun ρ Q=>Q true ρ
section
variable {K:Fg} {σ:St} {H:Hp}
theorem l_tst {td:TD} {t:TE} (ht:∀ {σ H Q},lift K td σ H Q -> t σ H Q) {Q:Bool -> Hp -> Prop} (h:liftT K (dTst td) σ H Q):tTest t σ H Q:=by
 obtain ⟨G,F,ρ,Qd,R,w,k⟩:=h
 refine ht ⟨G,F,ρ,_,R,w,fun v H' F' r ρ' sb R' r' q=>?_⟩
 split at q
 ·rename_i b
  cases r'
  exact ⟨b,rfl,k b H' F' ρ' sb R' q⟩
 ·exact q.elim
theorem l_not {c:TTD} {Q:Bool -> Hp -> Prop} (h:liftT K (dNot c) σ H Q):tNot (liftT K c) σ H Q:=by
 obtain ⟨G,F,ρ,Qd,R,w,k⟩:=h
 exact ⟨G,F,ρ,_,R,w,fun b H' F' ρ' sb R' q=>k (!b) H' F' ρ' sb R' q⟩
theorem l_and {c e:TTD} {Q:Bool -> Hp -> Prop} (h:liftT K (dAnd c e) σ H Q):tAnd (liftT K c) (liftT K e) σ H Q:=by
 obtain ⟨G,F,ρ,Qd,R,w,k⟩:=h
 refine ⟨G,F,ρ,_,R,w,fun b H' F' ρ' sb R' q=>?_⟩
 cases b with
 | true=>exact ⟨G,F',ρ',Qd,R',q,fun b H2 F2 ρ2 s2 R2 q2=>k b H2 F2 ρ2 (sb.trans s2) R2 q2⟩
 | false=>exact k false H' F' ρ' sb R' q
theorem l_or {c e:TTD} {Q:Bool -> Hp -> Prop} (h:liftT K (dOr c e) σ H Q):tOr (liftT K c) (liftT K e) σ H Q:=by
 obtain ⟨G,F,ρ,Qd,R,w,k⟩:=h
 refine ⟨G,F,ρ,_,R,w,fun b H' F' ρ' sb R' q=>?_⟩
 cases b with
 | true=>exact k true H' F' ρ' sb R' q
 | false=>exact ⟨G,F',ρ',Qd,R',q,fun b H2 F2 ρ2 s2 R2 q2=>k b H2 F2 ρ2 (sb.trans s2) R2 q2⟩
theorem l_yes {Q:Bool -> Hp -> Prop} (h:liftT K dYes σ H Q):tYes σ H Q:=by
 obtain ⟨G,F,ρ,Qd,R,w,k⟩:=h
 exact k true H F ρ (Sub.refl _) R w
end
noncomputable def dAndV (a b:TD):TD:=fun ρ Q=>a ρ fun r ρ'=>match r with
 | .fz (.bool c)=>if c = true then b ρ' Q else Q (.fz (.bool false)) ρ'
 | _=>False
noncomputable def dIf (c:TTD) (a b:TD):TD:=fun ρ Q=>c ρ fun k ρ'=>if k = true then a ρ' Q else b ρ' Q
section
variable {K:Fg} {σ:St} {H:Hp} {Q:VK} {a b:TD} {c:TTD}
theorem l_andV (h:lift K (dAndV a b) σ H Q):tAndV (lift K a) (lift K b) σ H Q:=by
 obtain ⟨G,F,ρ,Qd,R,w,k⟩:=h
 refine ⟨G,F,ρ,_,R,w,fun v H' F' r ρ' sb R' r' q=>?_⟩
 split at q
 ·rename_i c
  cases r'
  refine ⟨c,rfl,?_⟩
  cases c with
  | true=>exact ⟨G,F',ρ',Qd,R',q,fun v H2 F2 r ρ2 s2 R2 r2 q2=>k v H2 F2 r ρ2 (sb.trans s2) R2 r2 q2⟩
  | false=>exact k _ H' F' (.fz (.bool false)) ρ' sb R' (Da.bl false) q
 ·exact q.elim
theorem l_if (h:lift K (dIf c a b) σ H Q):tIf (liftT K c) (lift K a) (lift K b) σ H Q:=by
 obtain ⟨G,F,ρ,Qd,R,w,k⟩:=h
 refine ⟨G,F,ρ,_,R,w,fun x H' F' ρ' sb R' q=>?_⟩
 cases x with
 | true=>exact ⟨G,F',ρ',Qd,R',q,fun v H2 F2 r ρ2 s2 R2 r2 q2=>k v H2 F2 r ρ2 (sb.trans s2) R2 r2 q2⟩
 | false=>exact ⟨G,F',ρ',Qd,R',q,fun v H2 F2 r ρ2 s2 R2 r2 q2=>k v H2 F2 r ρ2 (sb.trans s2) R2 r2 q2⟩
end
theorem noIo_of {ρ:Ev} {i:Nat} {P:Prop} (h:match ρ[i]? with | some (some (.io _))=>False | some _=>P | none=>False):noIo ρ i /\ P:=by
 unfold noIo
 cases e:ρ[i]? with
 | none=>rw [e] at h; exact h.elim
 | some x =>
  rw [e] at h
  cases x with
  | none=>exact ⟨trivial,h⟩
  | some s=>cases s with
   | fz d=>exact ⟨trivial,h⟩
   | ow d=>exact ⟨trivial,h⟩
   | io d=>exact h.elim
structure DE where
 nx:Ev -> Prop
 rt:Sl -> Ev -> Prop
 bk:Ev -> Prop
 ct:Ev -> Prop
noncomputable abbrev TDS:=DE -> Ev -> Prop
noncomputable def liftS (K:Fg) (ts:TDS):TS:=fun D σ H=>∃ (G:Gh) (F:Hp) (ρ:Ev) (E:DE),Rel K G F σ H ρ /\ ts E ρ /\
 (∀ σ' H' F' ρ',Sub F F' -> Rel K G F' σ' H' ρ' -> E.nx ρ' -> D.nx σ' H') /\
 (∀ v σ' H' F' r ρ',Sub F F' -> Rel K G F' σ' H' ρ' -> Res K G F' H' σ' ρ' v r -> E.rt r ρ' -> D.rt v H') /\
 (∀ σ' H' F' ρ',Sub F F' -> Rel K G F' σ' H' ρ' -> E.bk ρ' -> D.bk σ' H') /\
 (∀ σ' H' F' ρ',Sub F F' -> Rel K G F' σ' H' ρ' -> E.ct ρ' -> D.ct σ' H')
noncomputable def dNext:TDS:=fun E ρ=>E.nx ρ
noncomputable def dSeq (t u:TDS):TDS:=fun E ρ=>t { nx:=fun ρ'=>u E ρ',rt:=E.rt,bk:=E.bk,ct:=E.ct } ρ
noncomputable def dRet (a:TD):TDS:=fun E ρ=>a ρ E.rt
noncomputable def dDrop (a:TD):TDS:=fun E ρ=>a ρ fun _ ρ'=>E.nx ρ'
noncomputable def dIfS (c:TTD) (t u:TDS):TDS:=fun E ρ=>c ρ fun b ρ'=>if b = true then t E ρ' else u E ρ'
noncomputable def dSet (i:Nat) (a:TD):TDS:=fun E ρ=>a ρ fun r ρ'=>match ρ'[i]? with
 | some (some (.io _))=>False
 | some _=>E.nx (ρ'.set i (some r))
 | none=>False
section
variable {K:Fg} {σ:St} {H:Hp} {E:Ends} {t u:TDS} {a:TD} {c:TTD}
theorem l_next (h:liftS K dNext E σ H):tNext E σ H:=by
 obtain ⟨G,F,ρ,D,R,w,n,r,b,c⟩:=h
 exact n σ H F ρ (Sub.refl _) R w
theorem later {G:Gh} {F F1 H1:Hp} {ρ1:Ev} {σ1:St} {D:DE} {ts:TDS} (s:Sub F F1) (R:Rel K G F1 σ1 H1 ρ1) (w:ts D ρ1)
  (n:∀ σ' H' F' ρ',Sub F F' -> Rel K G F' σ' H' ρ' -> D.nx ρ' -> E.nx σ' H')
  (r:∀ v σ' H' F' r ρ',Sub F F' -> Rel K G F' σ' H' ρ' -> Res K G F' H' σ' ρ' v r -> D.rt r ρ' -> E.rt v H')
  (b:∀ σ' H' F' ρ',Sub F F' -> Rel K G F' σ' H' ρ' -> D.bk ρ' -> E.bk σ' H')
  (c:∀ σ' H' F' ρ',Sub F F' -> Rel K G F' σ' H' ρ' -> D.ct ρ' -> E.ct σ' H'):liftS K ts E σ1 H1 :=
 ⟨G,F1,ρ1,D,R,w,fun _ _ _ _ s' R' q=>n _ _ _ _ (s.trans s') R' q,fun _ _ _ _ _ _ s' R' r' q=>r _ _ _ _ _ _ (s.trans s') R' r' q,
   fun _ _ _ _ s' R' q=>b _ _ _ _ (s.trans s') R' q,fun _ _ _ _ s' R' q=>c _ _ _ _ (s.trans s') R' q⟩
theorem l_seq (h:liftS K (dSeq t u) E σ H):tSeq (liftS K t) (liftS K u) E σ H:=by
 obtain ⟨G,F,ρ,D,R,w,n,r,b,c⟩:=h
 exact ⟨G,F,ρ,_,R,w,fun σ' H' F' ρ' s R' q=>later s R' q n r b c,r,b,c⟩
theorem l_ret (h:liftS K (dRet a) E σ H):tRet (lift K a) E σ H:=by
 obtain ⟨G,F,ρ,D,R,w,n,r,b,c⟩:=h
 exact ⟨G,F,ρ,_,R,w,fun v H' F' x ρ' s R' r' q=>r v σ H' F' x ρ' s R' r' q⟩
theorem l_drop (h:liftS K (dDrop a) E σ H):tDrop (lift K a) E σ H:=by
 obtain ⟨G,F,ρ,D,R,w,n,r,b,c⟩:=h
 exact ⟨G,F,ρ,_,R,w,fun v H' F' x ρ' s R' r' q=>n σ H' F' ρ' s R' q⟩
theorem l_ifS (h:liftS K (dIfS c t u) E σ H):tIfS (liftT K c) (liftS K t) (liftS K u) E σ H:=by
 obtain ⟨G,F,ρ,D,R,w,n,r,b,c⟩:=h
 refine ⟨G,F,ρ,_,R,w,fun x H' F' ρ' s R' q=>?_⟩
 cases x with
 | true=>exact later s R' q n r b c
 | false=>exact later s R' q n r b c
theorem l_set {i:Nat} (h:liftS K (dSet i a) E σ H):tAsg (lift K a) (gName i) E σ H:=by
 obtain ⟨G,F,ρ,D,R,w,n,r,b,c⟩:=h
 refine ⟨G,F,ρ,_,R,w,fun v H' F' x ρ' s R' r' q=>?_⟩
 have hn:=noIo_of q
 exact n _ H' F' _ s (R'.asg hn.1 r') hn.2
end
noncomputable def dRetV (i:Nat):TDS:=fun E ρ=>match ρ[i]? with
 | some (some (.fz d))=>E.rt (.fz d) ρ
 | some (some (.ow d))=>E.rt (.ow d) (ρ.set i none)
 | _=>False
noncomputable def dMove (i j:Nat):TDS:=fun E ρ=>match ρ[j]? with
 | some (some (.fz d))=>(match ρ[i]? with
   | some (some (.io _))=>False
   | some _=>E.nx (ρ.set i (some (.fz d)))
   | none=>False)
 | some (some (.ow d))=>(match (ρ.set j none)[i]? with
   | some (some (.io _))=>False
   | some _=>E.nx ((ρ.set j none).set i (some (.ow d)))
   | none=>False)
 | _=>False
section
variable {K:Fg} {σ:St} {H:Hp} {E:Ends}
theorem l_retV {i:Nat} (h:liftS K (dRetV i) E σ H):tRet (tVar i) E σ H:=by
 obtain ⟨G,F,ρ,D,R,w,n,r,b,c⟩:=h
 unfold dRetV at w
 split at w
 ·rename_i d e
  obtain ⟨v,e1,h1⟩:=R.fz i d e
  exact ⟨v,e1,r v σ H F (.fz d) ρ (Sub.refl _) R h1 w⟩
 ·rename_i d e
  obtain ⟨v,e1,h1⟩:=R.forgetRes e
  exact ⟨v,e1,r v σ H F (.ow d) _ (Sub.refl _) (R.forget e) h1 w⟩
 ·exact w.elim
theorem l_move {i j:Nat} (h:liftS K (dMove i j) E σ H):tAsg (tVar j) (gName i) E σ H:=by
 obtain ⟨G,F,ρ,D,R,w,n,r,b,c⟩:=h
 unfold dMove at w
 split at w
 ·rename_i d e
  obtain ⟨v,e1,h1⟩:=R.fz j d e
  obtain ⟨hn,w⟩:=noIo_of w
  exact ⟨v,e1,n _ H F _ (Sub.refl _) (R.asg (s:=.fz d) hn h1) w⟩
 ·rename_i d e
  obtain ⟨v,e1,h1⟩:=R.forgetRes e
  obtain ⟨hn,w⟩:=noIo_of w
  exact ⟨v,e1,n _ H F _ (Sub.refl _) ((R.forget e).asg (s:=.ow d) hn h1) w⟩
 ·exact w.elim
end
noncomputable abbrev TDG:=D -> Ev -> (Ev -> Prop) -> Prop
noncomputable def liftG (K:Fg) (g:TDG):TG:=fun v σ H Q=>∃ (G:Gh) (F:Hp) (ρ:Ev) (d:D) (Qd:Ev -> Prop),Rel K G F σ H ρ /\ Da K F v d /\ g d ρ Qd /\ ∀ σ' ρ',Rel K G F σ' H ρ' -> Qd ρ' -> Q σ' H
noncomputable def dGN (i:Nat):TDG:=fun d ρ Q=>match ρ[i]? with
 | some (some (.io _))=>False
 | some _=>Q (ρ.set i (some (.fz d)))
 | none=>False
noncomputable def dGs:List TDG -> List D -> Ev -> (Ev -> Prop) -> Prop
 | [],[],ρ,Q=>Q ρ
 | g :: gs,d :: ds,ρ,Q=>g d ρ fun ρ'=>dGs gs ds ρ' Q
 | _,_,_,_=>False
noncomputable def dGT (gs:List TDG):TDG:=fun d ρ Q=>match d with
 | .tuple ds=>ds.length = gs.length /\ dGs gs ds ρ Q
 | _=>False
noncomputable def gAll:List TG -> TGs
 | []=>gNil
 | g :: gs=>gCons g (gAll gs)
section
variable {K:Fg} {σ:St} {H:Hp} {v:V} {Q:St -> Hp -> Prop}
theorem l_gn {i:Nat} (h:liftG K (dGN i) v σ H Q):gName i v σ H Q:=by
 obtain ⟨G,F,ρ,d,Qd,R,hd,w,k⟩:=h
 obtain ⟨hn,w⟩:=noIo_of w
 exact k _ _ (R.asg (s:=.fz d) hn hd) w
theorem l_gs {G:Gh} {F:Hp}:∀ {gs:List TDG} {ds:List D} {vs:List V} {σ:St} {ρ:Ev} {Qd:Ev -> Prop},Rel K G F σ H ρ -> DaAll K F vs ds -> dGs gs ds ρ Qd -> (∀ σ' ρ',Rel K G F σ' H ρ' -> Qd ρ' -> Q σ' H) -> gAll (gs.map (liftG K)) vs σ H Q
 | [],[],_,σ,ρ,Qd,R,.nil,w,k=>⟨rfl,k σ ρ R w⟩
 | g :: gs,d :: ds,_,σ,ρ,Qd,R,.cons h t,w,k=>⟨_,_,rfl,G,F,ρ,d,_,R,h,w,fun σ' ρ' R' w'=>l_gs (gs:=gs) R' t w' k⟩
 | [],_ :: _,_,σ,ρ,Qd,R,_,w,k=>by exact w.elim
 | _ :: _,[],_,σ,ρ,Qd,R,_,w,k=>by exact w.elim
theorem l_gt {gs:List TDG} {n:Nat} (hn:gs.length = n) (h:liftG K (dGT gs) v σ H Q):gTup K n (gAll (gs.map (liftG K))) v σ H Q:=by
 obtain ⟨G,F,ρ,d,Qd,R,hd,w,k⟩:=h
 unfold dGT at w
 split at w
 ·cases hd with
  | tup e t=>exact ⟨_,_,rfl,SqT.of (R.sub _ _ e),by rw [t.length,w.1,hn],l_gs R t w.2 k⟩
 ·exact w.elim
end
end L3
namespace L3
open PySem PySem.Spec L2
noncomputable def Walks (K:Fg) (J:It) (F:Hp) (ds:List D):Prop:=∀ (i:Nat) (H F1:Hp),Sub F F1 -> Sub F1 H ->
 (∀ d,ds[i]? = some d -> J.go i H /\ ∀ x H',J.yld i H x H' -> ∃ F2,Sub F1 F2 /\ (∀ b o,F2 b = some o -> F1 b = some o \/ H b = none) /\ Sub F2 H' /\ Sub H H' /\ Da K F2 x d) /\ (ds.length = i -> J.stop i H)
noncomputable abbrev TDI:=Ev -> (List D -> Ev -> Prop) -> Prop
noncomputable def liftI (K:Fg) (ti:TDI):TI:=fun σ H R=>∃ (G:Gh) (F:Hp) (ρ:Ev) (Qd:List D -> Ev -> Prop),Rel K G F σ H ρ /\ ti ρ Qd /\
 ∀ J H' F' ds ρ',Sub F F' -> Rel K G F' σ H' ρ' -> Walks K J F' ds -> Qd ds ρ' -> R J H'
theorem Rel.turn {K:Fg} {G:Gh} {F F2 H H':Hp} {σ:St} {ρ:Ev} (R:Rel K G F σ H ρ) (s:Sub F F2) (n:∀ b o,F2 b = some o -> F b = some o \/ H b = none) (s2:Sub F2 H') (s3:Sub H H'):Rel K G F2 σ H' ρ where
 len:=R.len
 sub:=s2
 sub0:=R.sub0.trans s
 fn:=fun b o e=>by
  rcases n b o e with q | q
  ·exact R.fn b o q
  ·exact .inr (R.h0 q)
 keep:=fun a o e m=>s3 _ _ (R.keep a o e m)
 fz:=fun i d e=>by
  obtain ⟨v,h1,h2⟩:=R.fz i d e
  exact ⟨v,h1,h2.mono s⟩
 ow:=fun i t e w=>by
  obtain ⟨a,o,h1,h2,h3,h4⟩:=R.ow i t e w
  refine ⟨a,o,h1,?_,s3 _ _ h3,h4.mono s⟩
  cases q:F2 a with
  | none=>rfl
  | some u =>
   rcases n a u q with z | z
   ·rw [h2] at z; cases z
   ·rw [h3] at z; cases z
 new:=R.new
 io:=R.io
 ioi:=R.ioi
 ap:=R.ap
theorem drop_get {α:Type} {l:List α} {i:Nat} {x:α} (h:l[i]? = some x):l.drop i = x :: l.drop (i + 1):=by
 obtain ⟨hl,rfl⟩:=List.getElem?_eq_some_iff.mp h
 exact List.drop_eq_getElem_cons hl
noncomputable def dWhile (c:TTD) (tb:TDS):TDS:=fun E ρ=>∃ W:Nat -> Ev -> Prop,(∃ m,W m ρ) /\ ∀ m ρ,W m ρ -> c ρ fun b ρ1=>if b = true then
 ∃ N:Ev -> Prop,(∀ ρ',N ρ' -> ∃ m',m' < m /\ W m' ρ') /\ tb { nx:=N,rt:=E.rt,bk:=E.nx,ct:=N } ρ1 else E.nx ρ1
theorem l_while {K:Fg} {c:TTD} {tb:TDS} {E:Ends} {σ:St} {H:Hp} (h:liftS K (dWhile c tb) E σ H):tWhile (liftT K c) (liftS K tb) E σ H:=by
 obtain ⟨G,F,ρ,D,R,⟨W,⟨m0,w0⟩,st⟩,n,r,b,c⟩:=h
 refine ⟨fun m σ H=>∃ F' ρ',Sub F F' /\ Rel K G F' σ H ρ' /\ W m ρ',⟨m0,F,ρ,Sub.refl _,R,w0⟩,?_⟩
 rintro m σ H ⟨F',ρ',s',R',w'⟩
 refine ⟨G,F',ρ',_,R',st m ρ' w',fun x H1 F1 ρ1 s1 R1 q=>?_⟩
 cases x with
 | false=>exact n σ H1 F1 ρ1 (s'.trans s1) R1 q
 | true =>
  obtain ⟨N,hN,q⟩:=q
  refine ⟨fun σ2 H2=>∃ F2 ρ2,Sub F F2 /\ Rel K G F2 σ2 H2 ρ2 /\ N ρ2,fun σ2 H2 ⟨F2,ρ2,z1,z2,z3⟩=>?_,?_⟩
  ·obtain ⟨m',hm,hw⟩:=hN ρ2 z3
   exact ⟨m',hm,F2,ρ2,z1,z2,hw⟩
  ·refine ⟨G,F1,ρ1,_,R1,q,fun σ4 H4 F4 ρ4 s4 R4 q=>?_,fun v σ4 H4 F4 x4 ρ4 s4 R4 r4 q=>?_,fun σ4 H4 F4 ρ4 s4 R4 q=>?_,fun σ4 H4 F4 ρ4 s4 R4 q=>?_⟩
   ·exact ⟨F4,ρ4,s'.trans (s1.trans s4),R4,q⟩
   ·exact r v σ4 H4 F4 x4 ρ4 (s'.trans (s1.trans s4)) R4 r4 q
   ·exact n σ4 H4 F4 ρ4 (s'.trans (s1.trans s4)) R4 q
   ·exact ⟨F4,ρ4,s'.trans (s1.trans s4),R4,q⟩
noncomputable def capt:Option Sl -> Option Sl
 | some (.ow d)=>some (.io d)
 | x=>x
noncomputable def innerE (own:List Str) (fr:List Nat) (ρ:Ev):Ev:=own.map (fun _=>none) ++ fr.map fun i=>capt ((ρ[i]?).getD none)
noncomputable def wb1:Option Sl -> Option (Option Sl) -> Option Sl
 | some (.ow d),some (some (.io d'))=>some (.ow d')
 | some (.io d),some (some (.io d'))=>some (.io d')
 | x,_=>x
noncomputable def wbGo (fr:List Nat) (τ:Ev):Nat -> Ev -> Ev
 | _,[]=>[]
 | j,x :: ρ=>wb1 x ((fr.zip τ).lookup j) :: wbGo fr τ (j + 1) ρ
theorem wbGo_get (fr:List Nat) (τ:Ev):∀ (ρ:Ev) (j i:Nat),(wbGo fr τ j ρ)[i]? = (ρ[i]?).map fun x=>wb1 x ((fr.zip τ).lookup (j + i))
 | [],j,i=>by simp [wbGo]
 | x :: ρ,j,0=>by simp [wbGo]
 | x :: ρ,j,i + 1=>by
  have:=wbGo_get fr τ ρ (j + 1) i
  simp only [wbGo,List.getElem?_cons_succ]
  rw [this,show j + 1 + i = j + (i + 1) by omega]
theorem wbGo_len (fr:List Nat) (τ:Ev):∀ (ρ:Ev) (j:Nat),(wbGo fr τ j ρ).length = ρ.length
 | [],_=>rfl
 | x :: ρ,j=>by simp [wbGo,wbGo_len fr τ ρ (j + 1)]
theorem zip_lookup:∀ {fr:List Nat} {τ:Ev} {k i:Nat} {x:Option Sl},fr.Nodup -> fr[k]? = some i -> τ[k]? = some x -> (fr.zip τ).lookup i = some x
 | [],_,_,_,_,_,e,_=>by simp at e
 | j :: fr,[],_,_,_,_,_,e=>by simp at e
 | j :: fr,y :: τ,0,i,x,_,e,e'=>by simp at e e'; subst e e'; simp [List.lookup]
 | j :: fr,y :: τ,k + 1,i,x,nd,e,e'=>by
  have nd':=List.nodup_cons.mp nd
  simp at e e'
  have hm:i ∈ fr:=List.mem_of_getElem? e
  have ne:(i == j) = false:=by simp; intro z; subst z; exact nd'.1 hm
  simp [List.lookup,ne]
  exact zip_lookup nd'.2 e e'
theorem zip_lookup_mem:∀ {fr:List Nat} {τ:Ev} {i:Nat} {x:Option Sl},(fr.zip τ).lookup i = some x -> ∃ k:Nat,fr[k]? = some i /\ τ[k]? = some x
 | [],_,_,_,e=>by simp at e
 | j :: fr,[],_,_,e=>by simp at e
 | j :: fr,y :: τ,i,x,e=>by
  by_cases z:i = j
  ·subst z; simp [List.lookup] at e; subst e; exact ⟨0,by simp,by simp⟩
  ·have ne:(i == j) = false:=by simp [z]
   simp [List.lookup,ne] at e
   obtain ⟨k,h1,h2⟩:=zip_lookup_mem e
   exact ⟨k + 1,by simpa using h1,by simpa using h2⟩
end L3
namespace L3
open PySem PySem.Spec L2
noncomputable def ioOf (σ:St) (ρ:Ev) (i:Nat):Option Addr:=match ρ[i]?,σ[i]? with
 | some (some s),some (some (.ref a))=>if isOw s = true then some a else none
 | _,_=>none
theorem ioOf_some {σ:St} {ρ:Ev} {i:Nat} {a:Addr} (h:ioOf σ ρ i = some a):∃ s,ρ[i]? = some (some s) /\ isOw s = true /\ σ[i]? = some (some (V.ref a)):=by
 unfold ioOf at h
 split at h
 ·rename_i s b e1 e2
  split at h
  ·rename_i w; cases h; exact ⟨s,e1,w,e2⟩
  ·cases h
 ·cases h
theorem ioOf_of {σ:St} {ρ:Ev} {i:Nat} {a:Addr} {s:Sl} (h1:ρ[i]? = some (some s)) (h2:isOw s = true) (h3:σ[i]? = some (some (V.ref a))):ioOf σ ρ i = some a:=by
 unfold ioOf; rw [h1,h3]; simp [h2]
noncomputable def ghC (own:List Str) (fr:List Nat) (F H:Hp) (σ:St) (ρ:Ev):Gh:=⟨H,F,fun j=>if own.length <= j then (match fr[j - own.length]? with | some i=>ioOf σ ρ i | none=>none) else none⟩
theorem ghC_io {own:List Str} {fr:List Nat} {F H:Hp} {σ:St} {ρ:Ev} {j:Nat} {a:Addr} (h:(ghC own fr F H σ ρ).io j = some a):∃ k i s,j = own.length + k /\ fr[k]? = some i /\ ρ[i]? = some (some s) /\ isOw s = true /\ σ[i]? = some (some (V.ref a)):=by
 unfold ghC at h
 simp only at h
 split at h
 ·rename_i hl
  split at h
  ·rename_i i e
   obtain ⟨s,h1,h2,h3⟩:=ioOf_some h
   exact ⟨j - own.length,i,s,by omega,e,h1,h2,h3⟩
  ·cases h
 ·cases h
theorem ghC_of {own:List Str} {fr:List Nat} {F H:Hp} {σ:St} {ρ:Ev} {k i:Nat} {a:Addr} {s:Sl} (h0:fr[k]? = some i) (h1:ρ[i]? = some (some s)) (h2:isOw s = true) (h3:σ[i]? = some (some (V.ref a))):(ghC own fr F H σ ρ).io (own.length + k) = some a:=by
 unfold ghC
 simp only
 rw [if_pos (Nat.le_add_right _ _),Nat.add_sub_cancel_left,h0]
 exact ioOf_of h1 h2 h3
theorem inner_get {α:Type} {own:List Str} {fr:List Nat} {f:Nat -> Option α} {j:Nat} {x:α} (h:(own.map (fun _=>(none:Option α)) ++ fr.map f)[j]? = some (some x)):∃ k i,j = own.length + k /\ fr[k]? = some i /\ f i = some x:=by
 by_cases hl:j < own.length
 ·rw [List.getElem?_append_left (by simpa using hl)] at h
  simp at h
 ·rw [List.getElem?_append_right (by simpa using Nat.le_of_not_lt hl)] at h
  simp at h
  obtain ⟨i,h1,h2⟩:=h
  exact ⟨j - own.length,i,by omega,h1,h2⟩
theorem inner_of {α:Type} {own:List Str} {fr:List Nat} {f:Nat -> Option α} {k i:Nat} (h:fr[k]? = some i):(own.map (fun _=>(none:Option α)) ++ fr.map f)[own.length + k]? = some (f i):=by
 rw [List.getElem?_append_right (by simp)]
 simp [h]
theorem capt_get {x:Option Sl} {s:Sl} (h:capt x = some s):∃ s0,x = some s0 /\ ((∃ d,s0 = .fz d /\ s = .fz d) \/ (isOw s0 = true /\ s = .io s0.d)):=by
 cases x with
 | none=>cases h
 | some s0 =>
  cases s0 with
  | fz d=>cases h; exact ⟨_,rfl,.inl ⟨d,rfl,rfl⟩⟩
  | ow d=>cases h; exact ⟨_,rfl,.inr ⟨rfl,rfl⟩⟩
  | io d=>cases h; exact ⟨_,rfl,.inr ⟨rfl,rfl⟩⟩
theorem getD_some {α:Type} {o:Option (Option α)} {x:α} (h:o.getD none = some x):o = some (some x):=by
 cases o with
 | none=>cases h
 | some y=>simp at h; rw [h]
section
variable {K:Fg} {G:Gh} {F F' H H':Hp} {σ τ:St} {ρ μ:Ev} {own:List Str} {fr:List Nat}
theorem innerE_get {j:Nat} {s:Sl} (h:(innerE own fr ρ)[j]? = some (some s)):∃ k i s0,j = own.length + k /\ fr[k]? = some i /\ ρ[i]? = some (some s0) /\ ((∃ d,s0 = .fz d /\ s = .fz d) \/ (isOw s0 = true /\ s = .io s0.d)):=by
 obtain ⟨k,i,h1,h2,h3⟩:=inner_get h
 obtain ⟨s0,h4,h5⟩:=capt_get h3
 exact ⟨k,i,s0,h1,h2,getD_some h4,h5⟩
theorem st0_of {k i:Nat} (h:fr[k]? = some i):(st0 own σ fr)[own.length + k]? = some ((σ[i]?).getD none):=inner_of (f:=fun i=>(σ[i]?).getD none) h
theorem innerE_of {k i:Nat} (h:fr[k]? = some i):(innerE own fr ρ)[own.length + k]? = some (capt ((ρ[i]?).getD none)):=inner_of (f:=fun i=>capt ((ρ[i]?).getD none)) h
theorem nodup_at {fr:List Nat} (nd:fr.Nodup) {k l i:Nat} (a:fr[k]? = some i) (b:fr[l]? = some i):k = l:=by
 obtain ⟨h1,e1⟩:=List.getElem?_eq_some_iff.mp a
 obtain ⟨h2,e2⟩:=List.getElem?_eq_some_iff.mp b
 exact (List.getElem_inj nd).mp (e1.trans e2.symm)
theorem Rel.inner (R:Rel K G F σ H ρ) (nd:fr.Nodup):Rel K (ghC own fr F H σ ρ) F (st0 own σ fr) H (innerE own fr ρ) where
 len:=by simp [st0,frS,innerE]
 sub:=R.sub
 sub0:=Sub.refl _
 fn:=fun _ _ e=>.inl e
 keep:=fun _ _ e _=>e
 fz:=fun j d e=>by
  obtain ⟨k,i,s0,rfl,h2,h3,h4⟩:=innerE_get e
  rcases h4 with ⟨d0,rfl,z⟩ | ⟨_,z⟩
  ·cases z
   obtain ⟨v,e1,e2⟩:=R.fz i d h3
   exact ⟨v,by rw [st0_of h2,e1]; rfl,e2⟩
  ·cases z
 ow:=fun j s e w=>by
  obtain ⟨k,i,s0,rfl,h2,h3,h4⟩:=innerE_get e
  rcases h4 with ⟨d0,rfl,z⟩ | ⟨w0,z⟩
  ·cases z; cases w
  ·cases z
   obtain ⟨a,o,e1,e2,e3,e4⟩:=R.ow i s0 h3 w0
   exact ⟨a,o,by rw [st0_of h2,e1]; rfl,e2,e3,e4⟩
 new:=fun j d a e _=>by
  obtain ⟨k,i,s0,rfl,h2,h3,h4⟩:=innerE_get e
  rcases h4 with ⟨d0,rfl,z⟩ | ⟨w0,z⟩ <;> cases z
 io:=fun j a e=>by
  obtain ⟨k,i,s,rfl,h1,h2,h3,h4⟩:=ghC_io e
  refine ⟨s.d,?_,by rw [st0_of h1,h4]; rfl⟩
  rw [innerE_of h1,h2]
  cases s <;> first | rfl | cases h3
 ioi:=fun j d e=>by
  obtain ⟨k,i,s0,rfl,h2,h3,h4⟩:=innerE_get e
  rcases h4 with ⟨d0,rfl,z⟩ | ⟨w0,z⟩
  ·cases z
  ·obtain ⟨a,o,e1,_⟩:=R.ow i s0 h3 w0
   exact ⟨a,ghC_of h2 h3 w0 e1⟩
 ap:=fun j l s t a e1 w1 e2 w2 e3 e4=>by
  obtain ⟨k,i,s0,rfl,h2,h3,h4⟩:=innerE_get e1
  obtain ⟨k',i',s0',rfl,h2',h3',h4'⟩:=innerE_get e2
  have p1:isOw s0 = true:=by
   rcases h4 with ⟨d0,rfl,z⟩ | ⟨w0,z⟩
   ·subst z; cases w1
   ·exact w0
  have p2:isOw s0' = true:=by
   rcases h4' with ⟨d0,rfl,z⟩ | ⟨w0,z⟩
   ·subst z; cases w2
   ·exact w0
  rw [st0_of h2] at e3
  rw [st0_of h2'] at e4
  have q:=R.ap i i' s0 s0' a h3 p1 h3' p2 (getD_some (Option.some.inj e3)) (getD_some (Option.some.inj e4))
  subst q
  rw [nodup_at nd h2 h2']
theorem wb_cases (R:Rel K G F σ H ρ) (R':Rel K (ghC own fr F H σ ρ) F' τ H' μ) (nd:fr.Nodup) {i:Nat} {s:Sl} (h:(wbGo fr (μ.drop own.length) 0 ρ)[i]? = some (some s)) :
  ∃ s0,ρ[i]? = some (some s0) /\ ((s = s0 /\ (isOw s0 = true -> i ∉ fr)) \/ (isOw s0 = true /\ ∃ k d',fr[k]? = some i /\ μ[own.length + k]? = some (some (Sl.io d')) /\ s = s0.put d')):=by
 rw [wbGo_get] at h
 cases e:ρ[i]? with
 | none=>rw [e] at h; cases h
 | some x =>
  rw [e] at h
  simp only [Option.map_some,Nat.zero_add] at h
  have h:=Option.some.inj h
  cases x with
  | none=>simp [wb1] at h
  | some s0 =>
   refine ⟨s0,rfl,?_⟩
   by_cases w0:isOw s0 = true
   ·by_cases hm:i ∈ fr
    ·obtain ⟨k,hk⟩:=List.mem_iff_getElem?.mp hm
     obtain ⟨a,o,e1,_⟩:=R.ow i s0 e w0
     obtain ⟨d',g1,g2⟩:=R'.io _ _ (ghC_of (own:=own) (F:=F) (H:=H) hk e w0 e1)
     have z:=zip_lookup (τ:=μ.drop own.length) nd hk (by rw [List.getElem?_drop]; exact g1)
     rw [z] at h
     refine .inr ⟨w0,k,d',hk,g1,?_⟩
     cases s0 with
     | fz d=>cases w0
     | ow d=>simp [wb1] at h; exact h.symm
     | io d=>simp [wb1] at h; exact h.symm
    ·refine .inl ⟨?_,fun _=>hm⟩
     have z:(fr.zip (μ.drop own.length)).lookup i = none:=by
      cases q:(fr.zip (μ.drop own.length)).lookup i with
      | none=>rfl
      | some y =>
       obtain ⟨k,h1,_⟩:=zip_lookup_mem q
       exact (hm (List.mem_of_getElem? h1)).elim
     rw [z] at h
     cases s0 with
     | fz d=>cases w0
     | ow d=>simp [wb1] at h; exact h.symm
     | io d=>simp [wb1] at h; exact h.symm
   ·refine .inl ⟨?_,fun z=>(w0 z).elim⟩
    cases s0 with
    | fz d=>simp [wb1] at h; exact h.symm
    | ow d=>exact (w0 rfl).elim
    | io d=>exact (w0 rfl).elim
theorem wb1_io {d:D} (x:Option (Option Sl)):∃ d',wb1 (some (.io d)) x = some (.io d'):=by
 rcases x with _ | _ | (d' | d' | d')
 ·exact ⟨d,rfl⟩
 ·exact ⟨d,rfl⟩
 ·exact ⟨d,rfl⟩
 ·exact ⟨d,rfl⟩
 ·exact ⟨d',rfl⟩
theorem Rel.outer (R:Rel K G F σ H ρ) (R':Rel K (ghC own fr F H σ ρ) F' τ H' μ) (nd:fr.Nodup):Rel K G F' σ H' (wbGo fr (μ.drop own.length) 0 ρ):=by
 have sb:Sub F F':=R'.sub0
 have owns:∀ {i:Nat} {s:Sl},(wbGo fr (μ.drop own.length) 0 ρ)[i]? = some (some s) -> isOw s = true -> ∃ s0,ρ[i]? = some (some s0) /\ isOw s0 = true:=fun {i s} e w=>by
  obtain ⟨s0,h1,h2⟩:=wb_cases R R' nd e
  rcases h2 with ⟨rfl,_⟩ | ⟨w0,_⟩
  ·exact ⟨s,h1,w⟩
  ·exact ⟨s0,h1,w0⟩
 refine ⟨by rw [wbGo_len]; exact R.len,R'.sub,R.sub0.trans sb,fun a o e=>?_,fun a o e n=>?_,fun i d e=>?_,fun i s e w=>?_,fun i d a e ea=>?_,fun i a e=>?_,fun i d e=>?_,fun i j s t a e1 w1 e2 w2 e3 e4=>?_⟩
 ·rcases R'.fn a o e with q | q
  ·exact R.fn a o q
  ·exact .inr (R.h0 q)
 ·refine R'.keep a o (R.keep a o e n) fun j z=>?_
  obtain ⟨k,i,s,rfl,h1,h2,h3,h4⟩:=ghC_io z
  cases s with
  | fz d=>cases h3
  | ow d=>rw [R.new i d a h2 h4] at e; cases e
  | io d =>
   obtain ⟨a',g⟩:=R.ioi i d h2
   obtain ⟨_,_,g2⟩:=R.io i a' g
   rw [h4] at g2; cases g2
   exact n i g
 ·obtain ⟨s0,h1,h2⟩:=wb_cases R R' nd e
  rcases h2 with ⟨rfl,_⟩ | ⟨w0,k,d',_,_,z⟩
  ·obtain ⟨v,g1,g2⟩:=R.fz i d h1
   exact ⟨v,g1,g2.mono sb⟩
  ·cases s0 <;> simp [Sl.put,isOw] at z w0
 ·obtain ⟨s0,h1,h2⟩:=wb_cases R R' nd e
  rcases h2 with ⟨rfl,hm⟩ | ⟨w0,k,d',hk,hd,rfl⟩
  ·obtain ⟨a,o,g1,g2,g3,g4⟩:=R.ow i s h1 w
   have nio:∀ j,(ghC own fr F H σ ρ).io j ≠ some a:=fun j z=>by
    obtain ⟨k,i',s',rfl,q1,q2,q3,q4⟩:=ghC_io z
    have:=R.ap i i' s s' a h1 w q2 q3 g1 q4
    subst this
    exact hm w (List.mem_of_getElem? q1)
   refine ⟨a,o,g1,?_,R'.keep a o g3 nio,g4.mono sb⟩
   cases q:F' a with
   | none=>rfl
   | some u =>
    rcases R'.fn a u q with z | z
    ·have z:F a = some u:=z
     rw [g2] at z; cases z
    ·have z:H a = none:=z
     rw [g3] at z; cases z
  ·obtain ⟨a,o,g1,g2,g3,g4⟩:=R.ow i s0 h1 w0
   obtain ⟨d2,q1,q2⟩:=R'.io _ _ (ghC_of (own:=own) (F:=F) (H:=H) hk h1 w0 g1)
   obtain ⟨a',o',p1,p2,p3,p4⟩:=R'.ow _ _ hd rfl
   rw [q2] at p1; cases p1
   exact ⟨a,o',g1,p2,p3,by cases s0 <;> first | exact p4 | cases w0⟩
 ·obtain ⟨s0,h1,h2⟩:=wb_cases R R' nd e
  rcases h2 with ⟨rfl,_⟩ | ⟨w0,k,d',_,_,z⟩
  ·exact R.new i d a h1 ea
  ·cases s0 with
   | fz d=>cases w0
   | ow d0=>exact R.new i d0 a h1 ea
   | io d0=>cases z
 ·obtain ⟨d,h1,h2⟩:=R.io i a e
  obtain ⟨d',hd⟩:=wb1_io (d:=d) ((fr.zip (μ.drop own.length)).lookup i)
  exact ⟨d',by rw [wbGo_get,h1]; simp only [Option.map_some,Nat.zero_add]; rw [hd],h2⟩
 ·obtain ⟨s0,h1,h2⟩:=wb_cases R R' nd e
  rcases h2 with ⟨rfl,_⟩ | ⟨w0,k,d',_,_,z⟩
  ·exact R.ioi i d h1
  ·cases s0 with
   | fz d=>cases w0
   | ow d0=>cases z
   | io d0=>exact R.ioi i d0 h1
 ·obtain ⟨s0,g1,g2⟩:=owns e1 w1
  obtain ⟨t0,g3,g4⟩:=owns e2 w2
  exact R.ap i j s0 t0 a g1 g2 g3 g4 e3 e4
end
end L3
namespace L3
open PySem PySem.Spec L2
noncomputable abbrev Con:=List Sl -> (Sl -> Ev -> Prop) -> Prop
noncomputable def conSp (K:Fg) (con:Con):Sp:=fun vs H Q _=>∃ (G:Gh) (F:Hp) (args:List Sl) (Qd:Sl -> Ev -> Prop),Rel K G F (vs.map some) H (args.map some) /\ con args Qd /\
 ∀ v H' F' r ρ',Sub F F' -> Rel K G F' (vs.map some) H' ρ' -> Res K G F' H' (vs.map some) ρ' v r -> Qd r ρ' -> Q v H'
mutual
noncomputable def noMut:D -> Bool
 | .none=>true
 | .bool _=>true
 | .int _=>true
 | .str _=>true
 | .tuple xs=>noMutAll xs
 | .list _=>false
 | .dict _=>false
noncomputable def noMutAll:List D -> Bool
 | []=>true
 | x :: xs=>noMut x && noMutAll xs
end
section
variable {K:Fg} {F F':Hp}
mutual
theorem Da.noMut (h:∀ b xs,F b = some (.tup xs) -> F' b = some (.tup xs)):∀ {v:V} {d:D},Da K F v d -> noMut d = true -> Da K F' v d
 | _,_,.non,_=>.non
 | _,_,.bl b,_=>.bl b
 | _,_,.int i,_=>.int i
 | _,_,.str x,_=>.str x
 | _,_,.lst _ _,z=>by simp [L3.noMut] at z
 | _,_,.tup e t,z=>.tup (h _ _ e) (DaAll.noMut h t (by simpa [L3.noMut] using z))
 | _,_,.dk _ _,z=>by simp [L3.noMut] at z
 | _,_,.dt _ _,z=>by simp [L3.noMut] at z
 | _,_,.scr _,z=>by simp [L3.noMut,scrD] at z
theorem DaAll.noMut (h:∀ b xs,F b = some (.tup xs) -> F' b = some (.tup xs)):∀ {xs:List V} {ds:List D},DaAll K F xs ds -> noMutAll ds = true -> DaAll K F' xs ds
 | _,_,.nil,_=>.nil
 | _,_,.cons a t,z=>by
  simp [noMutAll] at z
  exact .cons (Da.noMut h a z.1) (DaAll.noMut h t z.2)
end
end
noncomputable def lentAny (ρ:Ev):List Opd -> Bool
 | []=>false
 | .inr _ :: xs=>lentAny ρ xs
 | .inl i :: xs=>(match ρ[i]? with | some (some s)=>isOw s | _=>false) || lentAny ρ xs
noncomputable def dCall (con:Con) (as:List AD):TD:=fun ρ Q=>dArgs as ρ fun xs ρ1=>looksQ ρ1 xs fun ds=>con (ds.map Sl.fz) fun r _=>match lentAny ρ1 xs with
 | false=>Q r ρ1
 | true=>noMut r.d = true /\ Q r ρ1
noncomputable def callI (con:Con) (i:Nat) (xs:List Opd) (ρ1:Ev) (Q:Sl -> Ev -> Prop):Prop:=match ρ1[i]? with
 | some (some s)=>match isOw s,lentAny ρ1 xs with
  | true,false=>looksQ ρ1 xs fun ds=>con (.io s.d :: ds.map Sl.fz) fun r outs=>match outs with
   | some (.io d') :: _=>Q r (ρ1.set i (some (s.put d')))
   | _=>False
  | _,_=>False
 | _=>False
noncomputable def dCallI (con:Con) (i:Nat) (as:List AD):TD:=fun ρ Q=>dArgs (.inl i :: as) ρ fun xs ρ1=>callI con i xs.tail ρ1 Q
noncomputable def LentA (σ:St) (ρ:Ev) (xs:List Opd) (a:Addr):Prop:=∃ (i:Nat) (s:Sl),Sum.inl i ∈ xs /\ ρ[i]? = some (some s) /\ isOw s = true /\ σ[i]? = some (some (V.ref a))
theorem lentAny_of {σ:St} {ρ:Ev}:∀ {xs:List Opd} {a:Addr},LentA σ ρ xs a -> lentAny ρ xs = true
 | [],a,⟨i,s,h,_⟩=>by cases h
 | .inr d :: xs,a,⟨i,s,h,h1,h2,h3⟩=>by
  rcases List.mem_cons.mp h with h | h
  ·cases h
  ·exact lentAny_of (xs:=xs) ⟨i,s,h,h1,h2,h3⟩
 | .inl j :: xs,a,⟨i,s,h,h1,h2,h3⟩=>by
  unfold lentAny
  rcases List.mem_cons.mp h with h | h
  ·cases h; rw [h1]; simp [h2]
  ·rw [lentAny_of (xs:=xs) ⟨i,s,h,h1,h2,h3⟩]; simp
open Classical in
noncomputable def lend (σ:St) (ρ:Ev) (xs:List Opd) (F H:Hp):Hp:=fun b=>if LentA σ ρ xs b then H b else F b
open Classical in
noncomputable def unlend (σ:St) (ρ:Ev) (xs:List Opd) (F:Hp):Hp:=fun b=>if LentA σ ρ xs b then none else F b
section
variable {K:Fg} {G:Gh} {F F' H H':Hp} {σ:St} {ρ:Ev} {xs:List Opd}
theorem lend_not {b:Addr} (h:¬ LentA σ ρ xs b):lend σ ρ xs F H b = F b:=by unfold lend; rw [if_neg h]
theorem lend_is {b:Addr} (h:LentA σ ρ xs b):lend σ ρ xs F H b = H b:=by unfold lend; rw [if_pos h]
theorem unlend_not {b:Addr} (h:¬ LentA σ ρ xs b):unlend σ ρ xs F b = F b:=by unfold unlend; rw [if_neg h]
theorem unlend_is {b:Addr} (h:LentA σ ρ xs b):unlend σ ρ xs F b = none:=by unfold unlend; rw [if_pos h]
theorem LentA.own (R:Rel K G F σ H ρ) {b:Addr} (h:LentA σ ρ xs b):∃ (i:Nat) (s:Sl) (o:HO),ρ[i]? = some (some s) /\ isOw s = true /\ σ[i]? = some (some (V.ref b)) /\ F b = none /\ H b = some o /\ Own1 K F o s.d:=by
 obtain ⟨i,s,_,h1,h2,h3⟩:=h
 obtain ⟨a,o,g1,g2,g3,g4⟩:=R.ow i s h1 h2
 rw [h3] at g1; cases g1
 exact ⟨i,s,o,h1,h2,h3,g2,g3,g4⟩
theorem lend_sub (R:Rel K G F σ H ρ):Sub F (lend σ ρ xs F H):=fun b o e=>by
 have n:¬ LentA σ ρ xs b:=fun z=>by
  obtain ⟨_,_,_,_,_,_,h,_⟩:=z.own R
  rw [h] at e; cases e
 rw [lend_not n]; exact e
theorem lend_le (R:Rel K G F σ H ρ):Sub (lend σ ρ xs F H) H:=fun b o e=>by
 by_cases z:LentA σ ρ xs b
 ·rw [lend_is z] at e; exact e
 ·rw [lend_not z] at e; exact R.sub _ _ e
theorem lend_looks (R:Rel K G F σ H ρ) {ys:List Opd} {vs:List V} {k:List D -> Prop} (m:∀ y ∈ ys,y ∈ xs) (o:OpdsAt K F σ vs ys) (h:looksQ ρ ys k):∃ ds,DaAll K (lend σ ρ xs F H) vs ds /\ k ds:=by
 induction o generalizing k with
 | nil=>exact ⟨[],.nil,h⟩
 | @cons v x vs ys o t ih =>
  cases x with
  | inr d =>
   obtain ⟨ds,a,q⟩:=ih (k:=fun ds=>k (d :: ds)) (fun y hy=>m y (List.mem_cons_of_mem _ hy)) h
   exact ⟨d :: ds,.cons (Da.mono (lend_sub R) o) a,q⟩
  | inl i =>
   unfold looksQ at h
   split at h
   ·rename_i s e
    obtain ⟨ds,a,q⟩:=ih (k:=fun ds=>k (s.d :: ds)) (fun y hy=>m y (List.mem_cons_of_mem _ hy)) h
    refine ⟨s.d :: ds,.cons ?_ a,q⟩
    have o:σ[i]? = some (some v):=o
    have own:isOw s = true -> Da K (lend σ ρ xs F H) v s.d:=fun w=>by
     obtain ⟨b,u,h1,h2,h3,h4⟩:=R.ow i s e w
     rw [o] at h1; cases h1
     have l:LentA σ ρ xs b:=⟨i,s,m _ List.mem_cons_self,e,w,o⟩
     exact (h4.mono (lend_sub R)).da (by rw [lend_is l]; exact h3)
    cases s with
    | fz d =>
     obtain ⟨v,e1,e2⟩:=R.fz i d e
     rw [o] at e1; cases e1
     exact e2.mono (lend_sub R)
    | ow d=>exact own rfl
    | io d=>exact own rfl
   ·exact h.elim
theorem own_noMut {o:HO} {d:D} (h:Own1 K F o d):noMut d = false:=by
 cases o <;> cases d <;> first | rfl | exact h.elim
theorem get_fz {ds:List D} {i:Nat} {s:Sl} (h:((ds.map Sl.fz).map some)[i]? = some (some s)):∃ d,ds[i]? = some d /\ s = .fz d:=by
 rw [List.map_map,List.getElem?_map] at h
 cases e:ds[i]? with
 | none=>rw [e] at h; cases h
 | some d=>rw [e] at h; cases h; exact ⟨d,rfl,rfl⟩
theorem get_vs {vs:List V} {i:Nat} {v:V} (h:vs[i]? = some v):(vs.map some)[i]? = some (some v):=by rw [List.getElem?_map,h]; rfl
theorem rel_call {vs:List V} {ds:List D} (s:Sub F H) (da:DaAll K F vs ds):Rel K ⟨H,F,fun _=>none⟩ F (vs.map some) H ((ds.map Sl.fz).map some) where
 len:=by simp [da.length]
 sub:=s
 sub0:=Sub.refl _
 fn:=fun _ _ e=>.inl e
 keep:=fun _ _ e _=>e
 fz:=fun i d e=>by
  obtain ⟨d',e1,e2⟩:=get_fz e
  cases e2
  obtain ⟨v,h1,h2⟩:=da.get e1
  exact ⟨v,get_vs h1,h2⟩
 ow:=fun i s e w=>by obtain ⟨d',e1,rfl⟩:=get_fz e; cases w
 new:=fun i d a e _=>by obtain ⟨d',e1,e2⟩:=get_fz e; cases e2
 io:=fun i a e=>by cases e
 ioi:=fun i d e=>by obtain ⟨d',e1,e2⟩:=get_fz e; cases e2
 ap:=fun i j s t a e w _ _ _ _=>by obtain ⟨d',e1,rfl⟩:=get_fz e; cases w
theorem Rel.called (R:Rel K G F σ H ρ) {σ1:St} {ρ1:Ev} (R':Rel K ⟨H,lend σ ρ xs F H,fun _=>none⟩ F' σ1 H' ρ1):Sub F (unlend σ ρ xs F') /\ Rel K G (unlend σ ρ xs F') σ H' ρ:=by
 have nl:∀ {b:Addr} {o:HO},F b = some o -> ¬ LentA σ ρ xs b:=fun {b o} e z=>by
  obtain ⟨_,_,_,_,_,_,h,_⟩:=z.own R
  rw [h] at e; cases e
 have sb:Sub F (unlend σ ρ xs F'):=fun b o e=>by
  rw [unlend_not (nl e)]
  exact R'.sub0 _ _ (lend_sub R _ _ e)
 have ul:∀ {b:Addr} {o:HO},unlend σ ρ xs F' b = some o -> ¬ LentA σ ρ xs b /\ F' b = some o:=fun {b o} e=>by
  by_cases z:LentA σ ρ xs b
  ·rw [unlend_is z] at e; cases e
  ·rw [unlend_not z] at e; exact ⟨z,e⟩
 have kp:∀ {b:Addr} {o:HO},H b = some o -> H' b = some o:=fun {b o} e=>R'.keep b o e fun i z=>by cases z
 refine ⟨sb,R.len,fun b o e=>R'.sub _ _ (ul e).2,R.sub0.trans sb,fun b o e=>?_,fun a o e n=>kp (R.keep a o e n),fun i d e=>?_,fun i s e w=>?_,R.new,R.io,R.ioi,R.ap⟩
 ·obtain ⟨n,e⟩:=ul e
  rcases R'.fn b o e with q | q
  ·have q:lend σ ρ xs F H b = some o:=q
   rw [lend_not n] at q
   exact R.fn b o q
  ·exact .inr (R.h0 q)
 ·obtain ⟨v,h1,h2⟩:=R.fz i d e
  exact ⟨v,h1,h2.mono sb⟩
 ·obtain ⟨a,o,h1,h2,h3,h4⟩:=R.ow i s e w
  refine ⟨a,o,h1,?_,kp h3,h4.mono sb⟩
  cases q:unlend σ ρ xs F' a with
  | none=>rfl
  | some u =>
   obtain ⟨n,q⟩:=ul q
   rcases R'.fn a u q with z | z
   ·have z:lend σ ρ xs F H a = some u:=z
    rw [lend_not n,h2] at z; cases z
   ·have z:H a = none:=z
    rw [h3] at z; cases z
theorem Res.called (R:Rel K G F σ H ρ) {σ1:St} {ρ1:Ev} {v:V} {r:Sl} (R':Rel K ⟨H,lend σ ρ xs F H,fun _=>none⟩ F' σ1 H' ρ1) (q:Res K ⟨H,lend σ ρ xs F H,fun _=>none⟩ F' H' σ1 ρ1 v r)
  (hl:lentAny ρ xs = true -> noMut r.d = true):Res K G (unlend σ ρ xs F') H' σ ρ v r:=by
 have tp:∀ b ys,F' b = some (.tup ys) -> unlend σ ρ xs F' b = some (.tup ys):=fun b ys e=>by
  have n:¬ LentA σ ρ xs b:=fun z=>by
   obtain ⟨_,_,o,_,_,_,_,h,w⟩:=z.own R
   have e2:=R'.sub0 b o (by show lend σ ρ xs F H b = some o; rw [lend_is z]; exact h)
   rw [e] at e2; cases e2
   exact w
  rw [unlend_not n]; exact e
 by_cases l:lentAny ρ xs = true
 ·cases r with
  | fz d=>exact Da.noMut tp q (hl l)
  | ow d =>
   obtain ⟨a,o,_,_,_,w,_⟩:=q
   have:=hl l
   rw [show (Sl.ow d).d = d from rfl,own_noMut w] at this; cases this
  | io d=>exact q.elim
 ·have e:unlend σ ρ xs F' = F':=funext fun b=>unlend_not fun z=>l (lentAny_of z)
  rw [e]
  cases r with
  | fz d=>exact q
  | io d=>exact q.elim
  | ow d =>
   obtain ⟨a,o,h1,h2,h3,h4,h5,_⟩:=q
   refine ⟨a,o,h1,h2,h3,h4,R.h0 h5,fun i s es w z=>?_⟩
   obtain ⟨a',o',g1,_,g3,_⟩:=R.ow i s es w
   rw [z] at g1; cases g1
   have h5:H a = none:=h5
   rw [h5] at g3; cases g3
theorem l_call {con:Con} {as:List AD} {E:XK} {Q:VK} (h:lift K (dCall con as) σ H Q):tCall (conSp K con) [] E (tArgs (as.map (argT K))) σ H Q:=by
 obtain ⟨G,F,ρ,Qd,R,w,k⟩:=h
 refine args_ok R w fun vs H1 F1 xs ρ1 s1 R1 o w1=>?_
 obtain ⟨ds,da,w1⟩:=lend_looks (xs:=xs) R1 (fun y hy=>hy) o w1
 rw [List.append_nil]
 refine ⟨_,_,ds.map Sl.fz,_,rel_call (lend_le R1) da,w1,fun v H' F' r ρ' s' R' r' q=>?_⟩
 obtain ⟨sb,R2⟩:=R1.called R'
 have hq:(lentAny ρ1 xs = true -> noMut r.d = true) /\ Qd r ρ1:=by
  split at q
  ·rename_i e; exact ⟨fun z=>(by rw [e] at z; cases z),q⟩
  ·exact ⟨fun _=>q.1,q.2⟩
 exact k v H' _ r ρ1 (s1.trans sb) R2 (Res.called R1 R' r' hq.1) hq.2
end
end L3
namespace L3
open PySem PySem.Spec L2
section
variable {K:Fg} {G:Gh} {F F' H H':Hp} {σ:St} {ρ:Ev} {xs:List Opd}
noncomputable def ioA (a:Addr):Nat -> Option Addr:=fun j=>if j = 0 then some a else none
theorem ioA_some {a b:Addr} {j:Nat} (h:ioA a j = some b):j = 0 /\ b = a:=by
 unfold ioA at h
 split at h
 ·rename_i z; cases h; exact ⟨z,rfl⟩
 ·cases h
theorem rel_callI {vs:List V} {ds:List D} {a:Addr} {o:HO} {d:D} (s:Sub F H) (h1:F a = none) (h2:H a = some o) (h3:Own1 K F o d) (da:DaAll K F vs ds) :
  Rel K ⟨H,F,ioA a⟩ F ((V.ref a :: vs).map some) H ((Sl.io d :: ds.map Sl.fz).map some) where
 len:=by simp [da.length]
 sub:=s
 sub0:=Sub.refl _
 fn:=fun _ _ e=>.inl e
 keep:=fun _ _ e _=>e
 fz:=fun i d' e=>by
  cases i with
  | zero=>simp at e
  | succ i =>
   have e:((ds.map Sl.fz).map some)[i]? = some (some (Sl.fz d')):=by simpa using e
   obtain ⟨d2,e1,e2⟩:=get_fz e
   cases e2
   obtain ⟨v,g1,g2⟩:=da.get e1
   exact ⟨v,by simpa using g1,g2⟩
 ow:=fun i s e w=>by
  cases i with
  | zero=>simp at e; subst e; exact ⟨a,o,by simp,h1,h2,h3⟩
  | succ i =>
   have e:((ds.map Sl.fz).map some)[i]? = some (some s):=by simpa using e
   obtain ⟨d2,e1,rfl⟩:=get_fz e
   cases w
 new:=fun i d' b e _=>by
  cases i with
  | zero=>simp at e
  | succ i =>
   have e:((ds.map Sl.fz).map some)[i]? = some (some (Sl.ow d')):=by simpa using e
   obtain ⟨d2,e1,e2⟩:=get_fz e
   cases e2
 io:=fun i b e=>by
  obtain ⟨rfl,rfl⟩:=ioA_some e
  exact ⟨d,by simp,by simp⟩
 ioi:=fun i d' e=>by
  cases i with
  | zero=>exact ⟨a,rfl⟩
  | succ i =>
   have e:((ds.map Sl.fz).map some)[i]? = some (some (Sl.io d')):=by simpa using e
   obtain ⟨d2,e1,e2⟩:=get_fz e
   cases e2
 ap:=fun i j s t b e1 w1 e2 w2 _ _=>by
  have f:∀ {i:Nat} {s:Sl},((Sl.io d :: ds.map Sl.fz).map some)[i]? = some (some s) -> isOw s = true -> i = 0:=fun {i s} e w=>by
   cases i with
   | zero=>rfl
   | succ i =>
    have e:((ds.map Sl.fz).map some)[i]? = some (some s):=by simpa using e
    obtain ⟨d2,e1,rfl⟩:=get_fz e
    cases w
  rw [f e1 w1,f e2 w2]
theorem Rel.calledI (R:Rel K G F σ H ρ) {i:Nat} {s:Sl} {a:Addr} {d':D} {σ1:St} {ρ1:Ev} (e:ρ[i]? = some (some s)) (w:isOw s = true) (ea:σ[i]? = some (some (V.ref a)))
  (R':Rel K ⟨H,F,ioA a⟩ F' (some (V.ref a) :: σ1) H' (some (Sl.io d') :: ρ1)):Rel K G F' σ H' (ρ.set i (some (s.put d'))):=by
 obtain ⟨a0,o0,g1,g2,g3,g4⟩:=R.ow i s e w
 rw [ea] at g1; cases g1
 have sb:Sub F F':=R'.sub0
 have hl:=lt_of_get e
 have kp:∀ {b:Addr} {o:HO},b ≠ a -> H b = some o -> H' b = some o:=fun {b o} n q=>R'.keep b o q fun j z=>n (ioA_some z).2
 have ow':∀ {j:Nat} {t:Sl},j ≠ i -> ρ[j]? = some (some t) -> isOw t = true -> ∃ b o,σ[j]? = some (some (V.ref b)) /\ F' b = none /\ H' b = some o /\ Own1 K F' o t.d:=fun {j t} n q wt=>by
  obtain ⟨b,o,q1,q2,q3,q4⟩:=R.ow j t q wt
  have nb:b ≠ a:=fun z=>n (R.ap j i t s a q wt e w (by rw [q1,z]) ea)
  refine ⟨b,o,q1,?_,kp nb q3,q4.mono sb⟩
  cases z:F' b with
  | none=>rfl
  | some u =>
   rcases R'.fn b u z with y | y
   ·have y:F b = some u:=y
    rw [q2] at y; cases y
   ·have y:H b = none:=y
    rw [q3] at y; cases y
 refine ⟨by rw [List.length_set]; exact R.len,R'.sub,R.sub0.trans sb,fun b o q=>?_,fun b o q n=>?_,fun j d q=>?_,fun j t q wt=>?_,fun j d b q eb=>?_,fun j b q=>?_,fun j d q=>?_,fun j k t u b e1 w1 e2 w2 e3 e4=>?_⟩
 ·rcases R'.fn b o q with y | y
  ·exact R.fn b o y
  ·exact .inr (R.h0 y)
 ·refine kp (fun z=>?_) (R.keep b o q n)
  subst z
  cases s with
  | fz d=>cases w
  | ow d=>rw [R.new i d b e ea] at q; cases q
  | io d =>
   obtain ⟨a',y⟩:=R.ioi i d e
   obtain ⟨_,_,y2⟩:=R.io i a' y
   rw [ea] at y2; cases y2
   exact n i y
 ·rcases get_set q with ⟨rfl,z⟩ | ⟨n,z⟩
  ·cases s <;> simp [Sl.put,isOw] at z w
  ·obtain ⟨v,y1,y2⟩:=R.fz j d z
   exact ⟨v,y1,y2.mono sb⟩
 ·rcases get_set q with ⟨rfl,z⟩ | ⟨n,z⟩
  ·cases z
   obtain ⟨b,o,y1,y2,y3,y4⟩:=R'.ow 0 (.io d') (by simp) rfl
   simp at y1; subst y1
   exact ⟨a,o,ea,y2,y3,by cases s <;> first | exact y4 | cases w⟩
  ·exact ow' n z wt
 ·rcases get_set q with ⟨rfl,z⟩ | ⟨n,z⟩
  ·cases s with
   | fz d=>cases w
   | ow d0=>exact R.new j d0 b e eb
   | io d0=>cases z
  ·exact R.new j d b z eb
 ·obtain ⟨d,y1,y2⟩:=R.io j b q
  by_cases z:j = i
  ·subst z
   rw [e] at y1; cases y1
   exact ⟨d',by rw [set_get hl]; rfl,y2⟩
  ·exact ⟨d,by rw [List.getElem?_set_ne (Ne.symm z)]; exact y1,y2⟩
 ·rcases get_set q with ⟨rfl,z⟩ | ⟨n,z⟩
  ·cases s with
   | fz d=>cases w
   | ow d0=>cases z
   | io d0=>exact R.ioi j d0 e
  ·exact R.ioi j d z
 ·have f:∀ (j:Nat) (t:Sl),(ρ.set i (some (s.put d')))[j]? = some (some t) -> isOw t = true -> ∃ t',ρ[j]? = some (some t') /\ isOw t' = true:=fun j t q wt=>by
   rcases get_set q with ⟨rfl,z⟩ | ⟨n,z⟩
   ·exact ⟨s,e,w⟩
   ·exact ⟨t,z,wt⟩
  obtain ⟨t',e1',w1'⟩:=f j t e1 w1
  obtain ⟨u',e2',w2'⟩:=f k u e2 w2
  exact R.ap j k t' u' b e1' w1' e2' w2' e3 e4
theorem noLent_looks (R:Rel K G F σ H ρ) {ys:List Opd} {vs:List V} {k:List D -> Prop} (m:lentAny ρ ys = false) (o:OpdsAt K F σ vs ys) (h:looksQ ρ ys k):∃ ds,DaAll K F vs ds /\ k ds:=by
 induction o generalizing k with
 | nil=>exact ⟨[],.nil,h⟩
 | @cons v x vs ys o t ih =>
  cases x with
  | inr d =>
   obtain ⟨ds,a,q⟩:=ih (k:=fun ds=>k (d :: ds)) m h
   exact ⟨d :: ds,.cons o a,q⟩
  | inl i =>
   unfold looksQ at h
   unfold lentAny at m
   simp only [Bool.or_eq_false_iff] at m
   split at h
   ·rename_i s e
    obtain ⟨ds,a,q⟩:=ih (k:=fun ds=>k (s.d :: ds)) m.2 h
    refine ⟨s.d :: ds,.cons ?_ a,q⟩
    have m1:=m.1
    rw [e] at m1
    cases s with
    | fz d =>
     obtain ⟨v',e1,e2⟩:=R.fz i d e
     have o:σ[i]? = some (some v):=o
     rw [o] at e1; cases e1
     exact e2
    | ow d=>cases m1
    | io d=>cases m1
   ·exact h.elim
theorem l_callI {con:Con} {i:Nat} {as:List AD} {E:XK} {Q:VK} (h:lift K (dCallI con i as) σ H Q):tCall (conSp K con) [] E (tArgs ((.inl i :: as).map (argT K))) σ H Q:=by
 obtain ⟨G,F,ρ,Qd,R,w,k⟩:=h
 unfold dCallI dArgs at w
 split at w
 ·rename_i s0 e0
  obtain ⟨v,ev⟩:=R.bound e0
  refine ⟨v,ev,args_ok R w fun vs H1 F1 xs ρ1 s1 R1 o w1=>?_⟩
  show conSp K con (v :: vs ++ []) H1 Q E
  rw [List.append_nil]
  have w1:callI con i xs ρ1 Qd:=w1
  unfold callI at w1
  split at w1
  ·rename_i s e
   split at w1
   ·rename_i p1 p2
    obtain ⟨a,o',g1,g2,g3,g4⟩:=R1.ow i s e p1
    rw [ev] at g1; cases g1
    obtain ⟨ds,da,w1⟩:=noLent_looks R1 p2 o w1
    refine ⟨_,F1,.io s.d :: ds.map Sl.fz,_,rel_callI R1.sub g2 g3 g4 da,w1,fun v H' F' r ρ' s' R' r' q=>?_⟩
    split at q
    ·rename_i d' ρ2
     have R2:=R1.calledI e p1 ev R'
     refine k v H' F' r _ (s1.trans s') R2 ?_ q
     cases r with
     | fz d=>exact r'
     | io d=>exact r'.elim
     | ow d =>
      obtain ⟨b,u,h1,h2,h3,h4,h5,_⟩:=r'
      have h5:H1 b = none:=h5
      refine ⟨b,u,h1,h2,h3,h4,R1.h0 h5,fun j t es w z=>?_⟩
      have own:∃ t',ρ1[j]? = some (some t') /\ isOw t' = true:=by
       rcases get_set es with ⟨rfl,y⟩ | ⟨n,y⟩
       ·exact ⟨s,e,p1⟩
       ·exact ⟨t,y,w⟩
      obtain ⟨t',y1,y2⟩:=own
      obtain ⟨a',o',q1,_,q3,_⟩:=R1.ow j t' y1 y2
      rw [z] at q1; cases q1
      rw [h5] at q3; cases q3
    ·exact q.elim
   ·exact w1.elim
  ·exact w1.elim
 ·exact w.elim
noncomputable def startE (n:Nat) (args:List Sl):Ev:=args.map some ++ List.replicate (n - args.length) none
noncomputable def outs:List Sl -> Ev -> Ev
 | [],_=>[]
 | .io _ :: as,ρ=>(ρ.headD none) :: outs as ρ.tail
 | .fz d :: as,ρ=>some (.fz d) :: outs as ρ.tail
 | .ow d :: as,ρ=>some (.ow d) :: outs as ρ.tail
theorem app_none {α:Type} {l:List (Option α)} {n i:Nat} {x:α} (h:(l ++ List.replicate n none)[i]? = some (some x)):l[i]? = some (some x):=by
 by_cases z:i < l.length
 ·rw [List.getElem?_append_left z] at h; exact h
 ·rw [List.getElem?_append_right (Nat.le_of_not_lt z),List.getElem?_replicate] at h
  split at h <;> cases h
theorem app_left {α:Type} {l m:List α} {i:Nat} {x:α} (h:l[i]? = some x):(l ++ m)[i]? = some x:=by rw [List.getElem?_append_left (lt_of_get h)]; exact h
theorem Rel.start {vs:List V} {args:List Sl} {N:List Str} (R:Rel K G F (vs.map some) H (args.map some)):Rel K G F (L2.start N vs) H (startE N.length args) where
 len:=by have:=R.len; simp [L2.start,startE] at this ⊢; omega
 sub:=R.sub
 sub0:=R.sub0
 fn:=R.fn
 keep:=R.keep
 fz:=fun i d e=>by
  obtain ⟨v,h1,h2⟩:=R.fz i d (app_none e)
  exact ⟨v,app_left h1,h2⟩
 ow:=fun i s e w=>by
  obtain ⟨a,o,h1,h2⟩:=R.ow i s (app_none e) w
  exact ⟨a,o,app_left h1,h2⟩
 new:=fun i d a e ea=>R.new i d a (app_none e) (app_none ea)
 io:=fun i a e=>by
  obtain ⟨d,h1,h2⟩:=R.io i a e
  exact ⟨d,app_left h1,app_left h2⟩
 ioi:=fun i d e=>R.ioi i d (app_none e)
 ap:=fun i j s t a e1 w1 e2 w2 e3 e4=>R.ap i j s t a (app_none e1) w1 (app_none e2) w2 (app_none e3) (app_none e4)
theorem outs_get:∀ {args:List Sl} {ρ:Ev} {i:Nat} {s:Sl},(outs args ρ)[i]? = some (some s) -> (∃ d,args[i]? = some (.io d) /\ ρ[i]? = some (some s)) \/ (args[i]? = some s /\ ∀ d,s ≠ .io d)
 | [],ρ,i,s,h=>by simp [outs] at h
 | .io d :: as,ρ,0,s,h=>by
  simp [outs] at h
  cases ρ with
  | nil=>simp at h
  | cons x ρ=>simp at h; exact .inl ⟨d,by simp,by simp [h]⟩
 | .fz d :: as,ρ,0,s,h=>by simp [outs] at h; subst h; exact .inr ⟨by simp,fun d z=>by cases z⟩
 | .ow d :: as,ρ,0,s,h=>by simp [outs] at h; subst h; exact .inr ⟨by simp,fun d z=>by cases z⟩
 | .io d :: as,ρ,i + 1,s,h=>by
  simp only [outs,List.getElem?_cons_succ] at h
  rcases outs_get h with ⟨d,h1,h2⟩ | ⟨h1,h2⟩
  ·exact .inl ⟨d,by simpa using h1,by cases ρ with | nil=>simp at h2 | cons x ρ=>simpa using h2⟩
  ·exact .inr ⟨by simpa using h1,h2⟩
 | .fz d :: as,ρ,i + 1,s,h=>by
  simp only [outs,List.getElem?_cons_succ] at h
  rcases outs_get h with ⟨d,h1,h2⟩ | ⟨h1,h2⟩
  ·exact .inl ⟨d,by simpa using h1,by cases ρ with | nil=>simp at h2 | cons x ρ=>simpa using h2⟩
  ·exact .inr ⟨by simpa using h1,h2⟩
 | .ow d :: as,ρ,i + 1,s,h=>by
  simp only [outs,List.getElem?_cons_succ] at h
  rcases outs_get h with ⟨d,h1,h2⟩ | ⟨h1,h2⟩
  ·exact .inl ⟨d,by simpa using h1,by cases ρ with | nil=>simp at h2 | cons x ρ=>simpa using h2⟩
  ·exact .inr ⟨by simpa using h1,h2⟩
theorem outs_of:∀ {args:List Sl} {ρ:Ev} {i:Nat} {d:D} {x:Option Sl},args[i]? = some (.io d) -> ρ[i]? = some x -> (outs args ρ)[i]? = some x
 | [],_,_,_,_,h,_=>by simp at h
 | _ :: _,[],_,_,_,_,h=>by simp at h
 | s :: as,y :: ρ,0,d,x,h,h'=>by simp at h h'; subst h h'; simp [outs]
 | s :: as,y :: ρ,i + 1,d,x,h,h'=>by
  have:=outs_of (args:=as) (ρ:=ρ) (i:=i) (by simpa using h) (by simpa using h')
  cases s <;> simpa [outs] using this
theorem outs_len:∀ (args:List Sl) (ρ:Ev),(outs args ρ).length = args.length
 | [],_=>rfl
 | s :: as,ρ=>by cases s <;> simp [outs,outs_len as]
theorem get_args {args:List Sl} {i:Nat} {s:Sl} (h:(args.map some)[i]? = some (some s)):args[i]? = some s:=by
 rw [List.getElem?_map] at h
 cases e:args[i]? with
 | none=>rw [e] at h; cases h
 | some x=>rw [e] at h; cases h; rfl
theorem args_get {args:List Sl} {i:Nat} {s:Sl} (h:args[i]? = some s):(args.map some)[i]? = some (some s):=by rw [List.getElem?_map,h]; rfl
theorem Rel.ret {vs:List V} {args:List Sl} {σ':St} {ρ':Ev} (hn:∀ s ∈ args,∀ d,s ≠ .ow d) (R:Rel K G F (vs.map some) H (args.map some)) (sb:Sub F F') (R':Rel K G F' σ' H' ρ'):Rel K G F' (vs.map some) H' (outs args ρ'):=by
 have own:∀ {i:Nat} {s:Sl},(outs args ρ')[i]? = some (some s) -> isOw s = true -> ∃ d a,args[i]? = some (.io d) /\ ρ'[i]? = some (some s) /\ G.io i = some a /\ (vs.map some)[i]? = some (some (V.ref a)) /\ σ'[i]? = some (some (V.ref a)):=fun {i s} e w=>by
  rcases outs_get e with ⟨d,h1,h2⟩ | ⟨h1,h2⟩
  ·obtain ⟨a,h3⟩:=R.ioi i d (args_get h1)
   obtain ⟨_,_,h4⟩:=R.io i a h3
   obtain ⟨_,_,h5⟩:=R'.io i a h3
   exact ⟨d,a,h1,h2,h3,h4,h5⟩
  ·cases s with
   | fz d=>cases w
   | ow d=>exact (hn _ (List.mem_of_getElem? h1) d rfl).elim
   | io d=>exact (h2 d rfl).elim
 refine ⟨by rw [outs_len]; simpa using R.len,R'.sub,R'.sub0,R'.fn,R'.keep,fun i d e=>?_,fun i s e w=>?_,fun i d a e ea=>?_,fun i a e=>?_,fun i d e=>?_,fun i j s t a e1 w1 e2 w2 e3 e4=>?_⟩
 ·rcases outs_get e with ⟨d',h1,h2⟩ | ⟨h1,h2⟩
  ·obtain ⟨a,h3⟩:=R.ioi i d' (args_get h1)
   obtain ⟨d2,h4,_⟩:=R'.io i a h3
   rw [h2] at h4; cases h4
  ·obtain ⟨v,h3,h4⟩:=R.fz i d (args_get h1)
   exact ⟨v,h3,h4.mono sb⟩
 ·obtain ⟨d,a,h1,h2,h3,h4,h5⟩:=own e w
  obtain ⟨b,o,g1,g2⟩:=R'.ow i s h2 w
  rw [h5] at g1; cases g1
  exact ⟨a,o,h4,g2⟩
 ·obtain ⟨d',b,h1,h2,h3,h4,h5⟩:=own e rfl
  rw [h4] at ea; cases ea
  exact R'.new i d _ h2 h5
 ·obtain ⟨d,h1,h2⟩:=R.io i a e
  obtain ⟨d',h3,h4⟩:=R'.io i a e
  exact ⟨d',outs_of (get_args h1) h3,h2⟩
 ·obtain ⟨d',a,h1,h2,h3,h4,h5⟩:=own e rfl
  exact ⟨a,h3⟩
 ·obtain ⟨_,a1,_,h2,_,h4,h5⟩:=own e1 w1
  obtain ⟨_,a2,_,g2,_,g4,g5⟩:=own e2 w2
  rw [h4] at e3; cases e3
  rw [g4] at e4; cases e4
  exact R'.ap i j s t a h2 w1 g2 w2 h5 g5
theorem Res.ret {vs:List V} {args:List Sl} {σ':St} {ρ':Ev} {v:V} {r:Sl} (hn:∀ s ∈ args,∀ d,s ≠ .ow d) (R:Rel K G F (vs.map some) H (args.map some)) (R':Rel K G F' σ' H' ρ') (q:Res K G F' H' σ' ρ' v r):Res K G F' H' (vs.map some) (outs args ρ') v r:=by
 cases r with
 | fz d=>exact q
 | io d=>exact q.elim
 | ow d =>
  obtain ⟨a,o,h1,h2,h3,h4,h5,h6⟩:=q
  refine ⟨a,o,h1,h2,h3,h4,h5,fun i s e w z=>?_⟩
  rcases outs_get e with ⟨d',g1,g2⟩ | ⟨g1,g2⟩
  ·obtain ⟨b,g3⟩:=R.ioi i d' (args_get g1)
   obtain ⟨_,_,g4⟩:=R.io i b g3
   obtain ⟨_,_,g5⟩:=R'.io i b g3
   rw [g4] at z; cases z
   exact h6 i s g2 w g5
  ·cases s with
   | fz d=>cases w
   | ow d=>exact (hn _ (List.mem_of_getElem? g1) d rfl).elim
   | io d=>exact (g2 d rfl).elim
noncomputable def endsOf (args:List Sl) (Qd:Sl -> Ev -> Prop):DE:={ nx:=fun ρ=>Qd (.fz .none) (outs args ρ),rt:=fun r ρ=>Qd r (outs args ρ),bk:=fun _=>False,ct:=fun _=>False }
theorem l_def {N:List Str} {con:Con} {ts:TDS} {vs:List V} {Q:VK} {E:XK} (hc:∀ args Qd,con args Qd -> (∀ s ∈ args,∀ d,s ≠ .ow d) /\ ts (endsOf args Qd) (startE N.length args)) (h:conSp K con vs H Q E):liftS K ts { nx:=fun _ H'=>Q .non H',rt:=Q } (L2.start N vs) H:=by
 obtain ⟨G,F,args,Qd,R,w,k⟩:=h
 obtain ⟨hn,w⟩:=hc args Qd w
 refine ⟨G,F,_,_,R.start,w,fun σ' H' F' ρ' s R' q=>?_,fun v σ' H' F' r ρ' s R' r' q=>?_,fun _ _ _ _ _ _ q=>q.elim,fun _ _ _ _ _ _ q=>q.elim⟩
 ·exact k .non H' F' (.fz .none) _ s (R.ret hn s R') Da.non q
 ·exact k v H' F' r _ s (R.ret hn s R') (r'.ret hn R R') q
end
end L3
namespace L3
open PySem PySem.Spec L2
section
variable {K:Fg} {F H:Hp} {v:V}
theorem At.int {i:Int} (h:At K F H v (.int i)):v = .int i:=by
 rcases h with h | ⟨a,o,rfl,_,_,h⟩
 ·cases h; rfl
 ·cases o <;> exact h.elim
theorem At.bool {b:Bool} (h:At K F H v (.bool b)):v = .bl b:=by
 rcases h with h | ⟨a,o,rfl,_,_,h⟩
 ·cases h; rfl
 ·cases o <;> exact h.elim
theorem At.str {x:Str} (h:At K F H v (.str x)):v = .str x:=by
 rcases h with h | ⟨a,o,rfl,_,_,h⟩
 ·cases h; rfl
 ·cases o <;> exact h.elim
theorem At.none (h:At K F H v .none):v = .non:=by
 rcases h with h | ⟨a,o,rfl,_,_,h⟩
 ·cases h; rfl
 ·cases o <;> exact h.elim
theorem At.list {ds:List D} (s:Sub F H) (h:At K F H v (.list ds)):∃ a xs,v = .ref a /\ H a = some (.lst xs) /\ DaAll K F xs ds:=by
 rcases h with h | ⟨a,o,rfl,_,e,h⟩
 ·cases h with
  | lst e t=>exact ⟨_,_,rfl,s _ _ e,t⟩
 ·cases o <;> first | exact h.elim | exact ⟨_,_,rfl,e,h⟩
theorem At.tuple {ds:List D} (s:Sub F H) (h:At K F H v (.tuple ds)):∃ a xs,v = .ref a /\ F a = some (.tup xs) /\ H a = some (.tup xs) /\ DaAll K F xs ds:=by
 rcases h with h | ⟨a,o,rfl,_,e,h⟩
 ·cases h with
  | tup e t=>exact ⟨_,_,rfl,e,s _ _ e,t⟩
 ·cases o <;> exact h.elim
theorem keyD_ne (k:Key):keyD k ≠ .none:=by cases k <;> (intro z; cases z)
theorem Da.scr_inv {ns:List Int}:∀ {d:D},Da K F v d -> d = scrD ns -> ∃ a,v = .ref a /\ SqL K F a (ns.map V.int)
 | _,.non,e=>by cases e
 | _,.bl _,e=>by cases e
 | _,.int _,e=>by cases e
 | _,.str _,e=>by cases e
 | _,.lst _ _,e=>by cases e
 | _,.tup _ _,e=>by cases e
 | _,.dk _ t,e=>by
  cases t with
  | nil=>injection e with e; cases e
  | cons _ _ =>
   injection e with e
   injection e with e _
   injection e with e _
   exact (keyD_ne _ e).elim
 | _,.dt _ t,e=>by
  cases t with
  | nil=>injection e with e; cases e
  | cons _ _ =>
   injection e with e
   injection e with e _
   injection e with e _
   cases e
 | _,.scr (ns:=ns') q,e=>by
  injection e with e
  injection e with e _
  injection e with _ e
  injection e with e2
  have:∀ (l m:List Int),l.map PyData.int = m.map PyData.int -> l = m:=by
   intro l
   induction l with
   | nil=>intro m e; cases m with | nil=>rfl | cons=>simp at e
   | cons a l ih=>intro m e; cases m with | nil=>simp at e | cons b m=>simp at e; rw [e.1,ih m e.2]
  rw [<- this _ _ e2]
  exact ⟨_,rfl,q⟩
theorem At.scr {ns:List Int} (s:Sub F H) (h:At K F H v (scrD ns)):∃ a,v = .ref a /\ SqL K H a (ns.map V.int):=by
 rcases h with h | ⟨a,o,rfl,_,e,h⟩
 ·obtain ⟨a,h1,h2⟩:=h.scr_inv rfl
  exact ⟨a,h1,s.sql h2⟩
 ·exfalso
  cases o <;> first | exact h.elim | skip
  ·rename_i kvs
   have h:DaKV K F kvs [(.none,.list (ns.map PyData.int))]:=h
   generalize q:[(PyData.none,PyData.list (ns.map PyData.int))] = es at h
   cases h with
   | nil=>cases q
   | cons _ _ =>
    injection q with q _
    injection q with q _
    exact keyD_ne _ q.symm
  ·rename_i kvs
   have h:DaKT K F kvs [(.none,.list (ns.map PyData.int))]:=h
   cases h
theorem AtAll.one {vs:List V} {d:D} (h:AtAll K F H vs [d]):∃ v,vs = [v] /\ At K F H v d:=by
 cases h with | cons a t=>cases t; exact ⟨_,rfl,a⟩
theorem AtAll.two {vs:List V} {d e:D} (h:AtAll K F H vs [d,e]):∃ v u,vs = [v,u] /\ At K F H v d /\ At K F H u e:=by
 cases h with | cons a t=>cases t with | cons b t=>cases t; exact ⟨_,_,rfl,a,b⟩
end
noncomputable def r2L (r:R2):List V -> Hp -> VK -> Prop:=fun vs H Q=>∃ x y,vs = [x,y] /\ r x y H Q
noncomputable def r1L (r:V -> Hp -> VK -> Prop):List V -> Hp -> VK -> Prop:=fun vs H Q=>∃ x,vs = [x] /\ r x H Q
theorem ok2 {K:Fg} {r:R2} {f:D -> D -> (Sl -> Prop) -> Prop} (h:∀ (G:Gh) (F:Hp) (σ:St) (H:Hp) (ρ:Ev) (x y:V) (d e:D) (Q:VK) (Qd:Sl -> Prop),Rel K G F σ H ρ -> At K F H x d -> At K F H y e -> f d e Qd ->
    (∀ v H' F' s,Sub F F' -> Rel K G F' σ H' ρ -> Res K G F' H' σ ρ v s -> Qd s -> Q v H') -> r x y H Q):OpOk K (r2L r) (o2 f):=by
 intro G F σ H ρ vs ds Q Qd R a w k
 match ds,a,w with
 | [d,e],a,w =>
  obtain ⟨v,u,rfl,h1,h2⟩:=a.two
  exact ⟨v,u,rfl,h G F σ H ρ v u d e Q Qd R h1 h2 w k⟩
theorem ok1 {K:Fg} {r:List V -> Hp -> VK -> Prop} {f:D -> (Sl -> Prop) -> Prop} (h:∀ (G:Gh) (F:Hp) (σ:St) (H:Hp) (ρ:Ev) (x:V) (d:D) (Q:VK) (Qd:Sl -> Prop),Rel K G F σ H ρ -> At K F H x d -> f d Qd ->
    (∀ v H' F' s,Sub F F' -> Rel K G F' σ H' ρ -> Res K G F' H' σ ρ v s -> Qd s -> Q v H') -> r [x] H Q):OpOk K r (o1 f):=by
 intro G F σ H ρ vs ds Q Qd R a w k
 match ds,a,w with
 | [d],a,w =>
  obtain ⟨v,rfl,h1⟩:=a.one
  exact h G F σ H ρ v d Q Qd R h1 w k
noncomputable def fI (C:Int -> Int -> Prop) (g:Int -> Int -> D):D -> D -> (Sl -> Prop) -> Prop
 | .int i,.int j,Q=>C i j /\ Q (.fz (g i j))
 | _,_,_=>False
noncomputable def fI0 (g:Int -> Int -> D):D -> D -> (Sl -> Prop) -> Prop
 | .int i,.int j,Q=>Q (.fz (g i j))
 | _,_,_=>False
theorem ok_I {K:Fg} {C:Int -> Int -> Prop} {g:Int -> Int -> V} {g':Int -> Int -> D} (hg:∀ F i j,Da K F (g i j) (g' i j)):OpOk K (r2L (rI C g)) (o2 (fI C g')):=ok2 fun G F σ H ρ x y d e Q Qd R h1 h2 w k=>by
 cases d <;> first | exact w.elim | skip
 cases e <;> first | exact w.elim | skip
 case int.int i j =>
  cases h1.int
  cases h2.int
  exact ⟨i,j,rfl,rfl,w.1,k _ H F (.fz _) (Sub.refl _) R (hg F i j) w.2⟩
theorem ok_I0 {K:Fg} {g:Int -> Int -> V} {g':Int -> Int -> D} (hg:∀ F i j,Da K F (g i j) (g' i j)):OpOk K (r2L (rI0 g)) (o2 (fI0 g')):=ok2 fun G F σ H ρ x y d e Q Qd R h1 h2 w k=>by
 cases d <;> first | exact w.elim | skip
 cases e <;> first | exact w.elim | skip
 case int.int i j =>
  cases h1.int
  cases h2.int
  exact ⟨i,j,rfl,rfl,k _ H F (.fz _) (Sub.refl _) R (hg F i j) w⟩
noncomputable def rAny (r r':R2):R2:=fun x y H Q=>r x y H Q \/ r' x y H Q
noncomputable def rCatB:R2:=fun x y H Q=>∃ (a b:Addr) (xs ys:List V),x = .ref a /\ y = .ref b /\ H a = some (.tup xs) /\ H b = some (.tup ys) /\ xs.length + ys.length <= sizeLine /\
 (xs = [] -> Q (.ref b) H) /\ (xs ≠ [] -> ys = [] -> Q (.ref a) H) /\ (xs ≠ [] -> ys ≠ [] -> ∀ p,H p = none -> Q (.ref p) (upd H p (.tup (xs ++ ys))))
noncomputable def fAdd:D -> D -> (Sl -> Prop) -> Prop
 | .int i,.int j,Q=>Q (.fz (.int (i + j)))
 | .tuple xs,.tuple ys,Q=>xs.length + ys.length <= sizeLine /\ Q (.fz (.tuple (xs ++ ys)))
 | .list xs,.list ys,Q=>xs.length + ys.length <= sizeLine /\ Q (.ow (.list (xs ++ ys)))
 | _,_,_=>False
theorem DaAll.nil_of {K:Fg} {F:Hp} {ds:List D} (h:DaAll K F [] ds):ds = []:=by cases h; rfl
theorem ok_add {K:Fg}:OpOk K (r2L (rAny (rI0 fun i j=>.int (i + j)) (rAny rCatB rCat))) (o2 fAdd):=ok2 fun G F σ H ρ x y d e Q Qd R h1 h2 w k=>by
 cases d <;> first | exact w.elim | (cases e <;> first | exact w.elim | skip)
 case int.int i j =>
  cases h1.int
  cases h2.int
  exact .inl ⟨i,j,rfl,rfl,k _ H F (.fz _) (Sub.refl _) R (Da.int _) w⟩
 case tuple.tuple xs ys =>
  obtain ⟨a,us,rfl,f1,e1,d1⟩:=h1.tuple R.sub
  obtain ⟨b,ws,rfl,f2,e2,d2⟩:=h2.tuple R.sub
  refine .inr (.inl ⟨a,b,us,ws,rfl,rfl,e1,e2,by rw [d1.length,d2.length]; exact w.1,fun z=>?_,fun _ z=>?_,fun _ _ p hp=>?_⟩)
  ·subst z
   have:=d1.nil_of
   subst this
   exact k _ H F (.fz _) (Sub.refl _) R (Da.tup f2 d2) w.2
  ·subst z
   have:=d2.nil_of
   subst this
   refine k _ H F (.fz _) (Sub.refl _) R (Da.tup f1 d1) ?_
   have:=w.2
   rw [List.append_nil] at this
   exact this
  ·obtain ⟨sb,R',dd⟩:=R.newTup hp (d1.append d2)
   exact k _ _ _ (.fz _) sb R' dd w.2
 case list.list xs ys =>
  obtain ⟨a,us,rfl,e1,d1⟩:=h1.list R.sub
  obtain ⟨b,ws,rfl,e2,d2⟩:=h2.list R.sub
  refine .inr (.inr ⟨a,b,us,ws,rfl,rfl,e1,e2,by rw [d1.length,d2.length]; exact w.1,fun p hp=>?_⟩)
  obtain ⟨R',r'⟩:=R.newOw (o:=.lst (us ++ ws)) (d:=.list (xs ++ ys)) hp (d1.append d2)
  exact k _ _ F _ (Sub.refl _) R' r' w.2
noncomputable def fMul:D -> D -> (Sl -> Prop) -> Prop
 | .int i,.int j,Q=>CMul i j /\ Q (.fz (.int (i * j)))
 | .list xs,.int k,Q=>-(2 ^ 63) <= k /\ k < 2 ^ 63 /\ xs.length * k.toNat <= sizeLine /\ Q (.ow (.list (List.replicate k.toNat xs).flatten))
 | _,_,_=>False
theorem ok_mul {K:Fg}:OpOk K (r2L (rAny (rI CMul fun i j=>.int (i * j)) rRep)) (o2 fMul):=ok2 fun G F σ H ρ x y d e Q Qd R h1 h2 w k=>by
 cases d <;> first | exact w.elim | (cases e <;> first | exact w.elim | skip)
 case int.int i j =>
  cases h1.int
  cases h2.int
  exact .inl ⟨i,j,rfl,rfl,w.1,k _ H F (.fz _) (Sub.refl _) R (Da.int _) w.2⟩
 case list.int xs j =>
  cases h2.int
  obtain ⟨a,us,rfl,e1,d1⟩:=h1.list R.sub
  refine .inr ⟨a,j,us,rfl,rfl,e1,w.1,w.2.1,by rw [d1.length]; exact w.2.2.1,fun p hp=>?_⟩
  obtain ⟨R',r'⟩:=R.newOw (o:=.lst (List.replicate j.toNat us).flatten) (d:=.list (List.replicate j.toNat xs).flatten) hp (d1.rep _)
  exact k _ _ F _ (Sub.refl _) R' r' w.2.2.2
noncomputable def fLen:D -> (Sl -> Prop) -> Prop
 | .list ds,Q=>Q (.fz (.int ds.length))
 | .tuple ds,Q=>Q (.fz (.int ds.length))
 | .dict [(.none,.list ds)],Q=>∃ ns:List Int,ds = ns.map PyData.int /\ Q (.fz (.int ns.length))
 | _,_=>False
theorem ok_len {K:Fg}:OpOk K (rLen K) (o1 fLen):=ok1 fun G F σ H ρ x d Q Qd R h1 w k=>by
 cases d <;> first | exact w.elim | skip
 case list ds =>
  obtain ⟨a,us,rfl,e1,d1⟩:=h1.list R.sub
  exact ⟨a,us,rfl,.inl (SqL.of e1),k _ H F (.fz _) (Sub.refl _) R (Da.int _) (by rw [d1.length]; exact w)⟩
 case tuple ds =>
  obtain ⟨a,us,rfl,_,e1,d1⟩:=h1.tuple R.sub
  exact ⟨a,us,rfl,.inr (SqT.of e1),k _ H F (.fz _) (Sub.refl _) R (Da.int _) (by rw [d1.length]; exact w)⟩
 case dict es =>
  rcases es with _ | ⟨⟨c1,c2⟩,_ | ⟨c3,c4⟩⟩
  ·exact w.elim
  ·cases c1 <;> first | exact w.elim | skip
   cases c2 <;> first | exact w.elim | skip
   obtain ⟨ns,rfl,w⟩:=w
   obtain ⟨a,rfl,q⟩:=h1.scr R.sub
   exact ⟨a,_,rfl,.inl q,k _ H F (.fz _) (Sub.refl _) R (Da.int _) (by rw [List.length_map]; exact w)⟩
  ·cases c1 <;> first | exact w.elim | (cases c2 <;> exact w.elim)
noncomputable def fIx:D -> D -> (Sl -> Prop) -> Prop
 | .list ds,.int i,Q=>∃ d,atI ds i = some d /\ Q (.fz d)
 | .tuple ds,.int i,Q=>∃ d,atI ds i = some d /\ Q (.fz d)
 | .dict [(.none,.list ds)],.int i,Q=>∃ (ns:List Int) (n:Int),ds = ns.map PyData.int /\ atI ns i = some n /\ Q (.fz (.int n))
 | _,_,_=>False
theorem DaAll.at {K:Fg} {F:Hp} {xs:List V} {ds:List D} {i:Int} {d:D} (h:DaAll K F xs ds) (e:atI ds i = some d):∃ v,atI xs i = some v /\ Da K F v d:=by
 unfold atI at e ⊢
 rw [h.length]
 cases q:ixN ds.length i with
 | none=>rw [q] at e; cases e
 | some j=>rw [q] at e; exact h.get e
theorem atI_map {α β:Type} (f:α -> β) {l:List α} {i:Int} {x:α} (h:atI l i = some x):atI (l.map f) i = some (f x):=by
 unfold atI at h ⊢
 rw [List.length_map]
 cases q:ixN l.length i with
 | none=>rw [q] at h; cases h
 | some j=>rw [q] at h; simp at h ⊢; exact ⟨x,h,rfl⟩
theorem ok_ix {K:Fg}:OpOk K (r2L (rAny (rIxL K) (rIxT K))) (o2 fIx):=ok2 fun G F σ H ρ x y d e Q Qd R h1 h2 w k=>by
 cases d <;> first | exact w.elim | skip
 case list ds =>
  cases e <;> first | exact w.elim | skip
  rename_i i
  obtain ⟨d,w1,w2⟩:=w
  cases h2.int
  obtain ⟨a,us,rfl,e1,d1⟩:=h1.list R.sub
  obtain ⟨v,g1,g2⟩:=d1.at w1
  exact .inl ⟨a,us,i,v,rfl,rfl,SqL.of e1,g1,k _ H F (.fz _) (Sub.refl _) R g2 w2⟩
 case tuple ds =>
  cases e <;> first | exact w.elim | skip
  rename_i i
  obtain ⟨d,w1,w2⟩:=w
  cases h2.int
  obtain ⟨a,us,rfl,_,e1,d1⟩:=h1.tuple R.sub
  obtain ⟨v,g1,g2⟩:=d1.at w1
  exact .inr ⟨a,us,i,v,rfl,rfl,SqT.of e1,g1,k _ H F (.fz _) (Sub.refl _) R g2 w2⟩
 case dict es =>
  rcases es with _ | ⟨⟨c1,c2⟩,_ | ⟨c3,c4⟩⟩
  ·exact w.elim
  ·cases c1 <;> first | exact w.elim | skip
   cases c2 <;> first | exact w.elim | skip
   cases e <;> first | exact w.elim | skip
   rename_i i
   obtain ⟨ns,n,e,w1,w2⟩:=w
   subst e
   cases h2.int
   obtain ⟨a,rfl,q⟩:=h1.scr R.sub
   exact .inl ⟨a,_,i,_,rfl,rfl,q,atI_map V.int w1,k _ H F (.fz _) (Sub.refl _) R (Da.int _) w2⟩
  ·cases c1 <;> first | exact w.elim | (cases c2 <;> exact w.elim)
noncomputable def fList:D -> (Sl -> Prop) -> Prop
 | .list ds,Q=>Q (.ow (.list ds))
 | .tuple ds,Q=>Q (.ow (.list ds))
 | _,_=>False
theorem ok_list {K:Fg}:OpOk K (rListOf K) (o1 fList):=ok1 fun G F σ H ρ x d Q Qd R h1 w k=>by
 match d,h1,w with
 | .list ds,h1,w =>
  obtain ⟨a,us,rfl,e1,d1⟩:=h1.list R.sub
  refine ⟨a,us,rfl,.inl (SqL.of e1),fun p hp=>?_⟩
  obtain ⟨R',r'⟩:=R.newOw (o:=.lst us) (d:=.list ds) hp d1
  exact k _ _ F _ (Sub.refl _) R' r' w
 | .tuple ds,h1,w =>
  obtain ⟨a,us,rfl,_,e1,d1⟩:=h1.tuple R.sub
  refine ⟨a,us,rfl,.inr (SqT.of e1),fun p hp=>?_⟩
  obtain ⟨R',r'⟩:=R.newOw (o:=.lst us) (d:=.list ds) hp d1
  exact k _ _ F _ (Sub.refl _) R' r' w
noncomputable def fTuple:D -> (Sl -> Prop) -> Prop
 | .list ds,Q=>Q (.fz (.tuple ds))
 | .tuple ds,Q=>Q (.fz (.tuple ds))
 | _,_=>False
theorem ok_tuple {K:Fg}:OpOk K (rTupleOf K) (o1 fTuple):=ok1 fun G F σ H ρ x d Q Qd R h1 w k=>by
 match d,h1,w with
 | .list ds,h1,w =>
  obtain ⟨a,us,rfl,e1,d1⟩:=h1.list R.sub
  refine ⟨a,us,rfl,.inl ⟨SqL.of e1,fun p hp=>?_⟩⟩
  obtain ⟨sb,R',dd⟩:=R.newTup hp d1
  exact k _ _ _ (.fz _) sb R' dd w
 | .tuple ds,h1,w =>
  obtain ⟨a,us,rfl,f1,e1,d1⟩:=h1.tuple R.sub
  exact ⟨a,us,rfl,.inr ⟨SqT.of e1,k _ H F (.fz _) (Sub.refl _) R (Da.tup f1 d1) w⟩⟩
noncomputable def fAbs:D -> (Sl -> Prop) -> Prop
 | .int i,Q=>Q (.fz (.int (if i < 0 then -i else i)))
 | _,_=>False
theorem ok_2I {K:Fg} {g:Int -> Int -> Int}:OpOk K (fun xs H Q=>∃ i j,xs = [V.int i,V.int j] /\ Q (V.int (g i j)) H) (o2 (fI0 fun i j=>.int (g i j))):=by
 intro G F σ H ρ vs ds Q Qd R a w k
 match ds,a,w with
 | [d,e],a,w =>
  obtain ⟨v,u,rfl,h1,h2⟩:=a.two
  have w:fI0 (fun i j=>.int (g i j)) d e Qd:=w
  unfold fI0 at w
  split at w
  rotate_left
  ·exact w.elim
  rename_i i j w
  cases h1.int
  cases h2.int
  exact ⟨i,j,rfl,k _ H F (.fz _) (Sub.refl _) R (Da.int _) w⟩
noncomputable def fInt:D -> (Sl -> Prop) -> Prop
 | .int i,Q=>Q (.fz (.int i))
 | .bool b,Q=>Q (.fz (.int (if b then 1 else 0)))
 | _,_=>False
theorem ok_int {K:Fg}:OpOk K (fun xs H Q=>(∃ i,xs = [V.int i] /\ Q (V.int i) H) \/ ∃ k,xs = [V.bl k] /\ Q (V.int (if k then 1 else 0)) H) (o1 fInt):=ok1 fun G F σ H ρ x d Q Qd R h1 w k=>by
 match d,h1,w with
 | .int i,h1,w=>cases h1.int; exact .inl ⟨i,rfl,k _ H F (.fz _) (Sub.refl _) R (Da.int _) w⟩
 | .bool b,h1,w=>cases h1.bool; exact .inr ⟨b,rfl,k _ H F (.fz _) (Sub.refl _) R (Da.int _) w⟩
noncomputable def fNeg:D -> (Sl -> Prop) -> Prop
 | .int i,Q=>Q (.fz (.int (-i)))
 | _,_=>False
theorem ok_neg {K:Fg}:OpOk K (r1L (rU fun i=>.int (-i))) (o1 fNeg):=ok1 fun G F σ H ρ x d Q Qd R h1 w k=>by
 match d,h1,w with
 | .int i,h1,w=>cases h1.int; exact ⟨_,rfl,i,rfl,k _ H F (.fz _) (Sub.refl _) R (Da.int _) w⟩
noncomputable def dOpF (as:List AD) (f:List D -> (Sl -> Prop) -> Prop):TD:=fun ρ Q=>dArgs as ρ fun xs ρ1=>match lentAny ρ1 xs with
 | false=>looksQ ρ1 xs fun ds=>f ds fun r=>Q r ρ1
 | true=>False
noncomputable def fTupD (ds:List D) (Q:Sl -> Prop):Prop:=Q (.fz (.tuple ds))
noncomputable def fLstD (ds:List D) (Q:Sl -> Prop):Prop:=Q (.ow (.list ds))
theorem le_size {n:Nat} (h:n <= 1000):n <= sizeLine:=Nat.le_trans h (by decide)
theorem l_tup {K:Fg} {as:List AD} (hl:as.length <= 1000) {σ:St} {H:Hp} {Q:VK} (h:lift K (dOpF as fTupD) σ H Q):tTup (tArgs (as.map (argT K))) σ H Q:=by
 obtain ⟨G,F,ρ,Qd,R,w,k⟩:=h
 refine args_okL R w fun vs H' F' xs ρ' sb R' o hn q=>?_
 split at q
 ·rename_i e
  obtain ⟨ds,da,q⟩:=noLent_looks R' e o q
  refine ⟨le_size (by omega),fun p hp=>?_⟩
  obtain ⟨s2,R2,dd⟩:=R'.newTup hp da
  exact k _ _ _ (.fz _) _ (sb.trans s2) R2 dd q
 ·exact q.elim
theorem l_lst {K:Fg} {as:List AD} (hl:as.length <= 1000) {σ:St} {H:Hp} {Q:VK} (h:lift K (dOpF as fLstD) σ H Q):tLst (tArgs (as.map (argT K))) σ H Q:=by
 obtain ⟨G,F,ρ,Qd,R,w,k⟩:=h
 refine args_okL R w fun vs H' F' xs ρ' sb R' o hn q=>?_
 split at q
 ·rename_i e
  obtain ⟨ds,da,q⟩:=noLent_looks R' e o q
  refine ⟨le_size (by omega),fun p hp=>?_⟩
  obtain ⟨R2,r2⟩:=R'.newOw (o:=.lst vs) (d:=.list ds) hp da
  exact k _ _ _ _ _ sb R2 r2 q
 ·exact q.elim
noncomputable def dChain (p q:Int -> Int -> Bool) (a b c:AD):TD:=fun ρ Q=>dArgs [a,b] ρ fun xs ρ1=>looksQ ρ1 xs fun ds=>match ds with
 | [.int i,.int j]=>if p i j = true then dArgs [c] ρ1 fun ys ρ2=>looksQ ρ2 ys fun es=>match es with
   | [.int k]=>Q (.fz (.bool (q j k))) ρ2
   | _=>False
  else Q (.fz (.bool false)) ρ1
 | _=>False
theorem l_chain {K:Fg} {p q:Int -> Int -> Bool} {a b c:AD} {σ:St} {H:Hp} {Q:VK} (h:lift K (dChain p q a b c) σ H Q) :
  tChain (rI0 fun i j=>.bl (p i j)) (rI0 fun i j=>.bl (q i j)) (argT K a) (argT K b) (argT K c) σ H Q:=by
 obtain ⟨G,F,ρ,Qd,R,w,k⟩:=h
 have main:tArgs ([a,b].map (argT K)) σ H fun vs H2=>∃ x y,vs = [x,y] /\ (rI0 fun i j=>V.bl (p i j)) x y H2 fun z H3=>∃ k,z = .bl k /\
   (if k = true then argT K c σ H3 fun w' H4=>(rI0 fun i j=>V.bl (q i j)) y w' H4 Q else Q (.bl false) H3):=by
  refine args_ok R w fun vs H' F' xs ρ' sb R' o w1=>?_
  obtain ⟨ds,ha,w1⟩:=looks_ok R' o w1
  split at w1
  ·rename_i i j
   obtain ⟨v,u,rfl,h1,h2⟩:=ha.two
   cases h1.int
   cases h2.int
   refine ⟨_,_,rfl,i,j,rfl,rfl,p i j,rfl,?_⟩
   by_cases e:p i j = true
   ·rw [if_pos e] at w1 ⊢
    have:=args_ok (as:=[c]) (Qv:=fun vs H4=>∃ w',vs = [w'] /\ (rI0 fun i j=>V.bl (q i j)) (V.int j) w' H4 Q) R' w1 fun vs H2 F2 ys ρ2 s2 R2 o2 w2=>by
     obtain ⟨es,hb,w2⟩:=looks_ok R2 o2 w2
     split at w2
     ·rename_i k'
      obtain ⟨v,rfl,h3⟩:=hb.one
      cases h3.int
      exact ⟨_,rfl,j,k',rfl,rfl,k _ H2 F2 (.fz _) ρ2 (sb.trans s2) R2 (Da.bl _) w2⟩
     ·exact w2.elim
    exact arg1 this
   ·rw [if_neg e] at w1 ⊢
    exact k _ H' F' (.fz _) ρ' sb R' (Da.bl _) w1
  ·exact w1.elim
 exact arg2 main
end L3
namespace L3
open PySem PySem.Spec L2
noncomputable def dMeth (i:Nat) (as:List AD) (f:List D -> List D -> (D -> D -> Prop) -> Prop):TD:=fun ρ Q=>match ρ[i]? with
 | some (some s0)=>match s0.d,isOw s0 with
  | .list _,true=>dArgs as ρ fun xs ρ1=>match ρ1[i]?,lentAny ρ1 xs with
   | some (some s),false=>match s.d,isOw s with
    | .list es,true=>looksQ ρ1 xs fun ds=>f es ds fun d' r=>Q (.fz r) (ρ1.set i (some (s.put d')))
    | _,_=>False
   | _,_=>False
  | _,_=>False
 | _=>False
noncomputable def MOk (K:Fg) (r:V -> List V -> Hp -> VK -> Prop) (f:List D -> List D -> (D -> D -> Prop) -> Prop):Prop :=
 ∀ (F H:Hp) (a:Addr) (xs:List V) (es:List D) (vs:List V) (ds:List D) (Q:VK) (k:D -> D -> Prop),Sub F H -> H a = some (.lst xs) -> DaAll K F xs es -> DaAll K F vs ds -> f es ds k ->
  (∀ v o' d' res,Own1 K F o' d' -> Da K F v res -> k d' res -> Q v (upd H a o')) -> r (.ref a) vs H Q
theorem l_meth {K:Fg} {i:Nat} {as:List AD} {r:V -> List V -> Hp -> VK -> Prop} {f:List D -> List D -> (D -> D -> Prop) -> Prop} (ok:MOk K r f) {σ:St} {H:Hp} {Q:VK} (h:lift K (dMeth i as f) σ H Q) :
  ∃ a xs,σ[i]? = some (some (V.ref a)) /\ SqL K H a xs /\ tArgs (as.map (argT K)) σ H fun vs H2=>r (.ref a) vs H2 Q:=by
 obtain ⟨G,F,ρ,Qd,R,w,k⟩:=h
 unfold dMeth at w
 split at w
 ·rename_i s0 e0
  split at w
  ·rename_i es0 p1 p2
   obtain ⟨a,o,g1,g2,g3,g4⟩:=R.ow i s0 e0 p2
   have gl:∃ xs,H a = some (.lst xs):=by
    rw [p1] at g4
    cases o <;> first | exact g4.elim | exact ⟨_,g3⟩
   obtain ⟨xs0,gl⟩:=gl
   refine ⟨a,xs0,g1,SqL.of gl,args_ok R w fun vs H1 F1 xs ρ1 s1 R1 o1 w1=>?_⟩
   split at w1
   ·rename_i s e en
    split at w1
    ·rename_i es q1 q2
     obtain ⟨ds,da,w1⟩:=noLent_looks R1 en o1 w1
     obtain ⟨a',o',h1,h2,h3,h4⟩:=R1.ow i s e q2
     rw [g1] at h1; cases h1
     rw [q1] at h4
     have hl:∃ us,o' = .lst us /\ DaAll K F1 us es:=by cases o' <;> first | exact h4.elim | exact ⟨_,rfl,h4⟩
     obtain ⟨us,rfl,h4⟩:=hl
     refine ok F1 H1 a us es vs ds Q _ R1.sub h3 h4 da w1 fun v o2 d2 res ho hv hk=>?_
     have R2:=R1.change (o':=o2) (d':=d2) e q2 g1 ho
     exact k v _ F1 (.fz res) _ s1 R2 hv hk
    ·exact w1.elim
   ·exact w1.elim
  ·exact w.elim
 ·exact w.elim
noncomputable def fAppend:List D -> List D -> (D -> D -> Prop) -> Prop
 | es,[x],k=>es.length < sizeLine /\ k (.list (es ++ [x])) .none
 | _,_,_=>False
theorem ok_append {K:Fg}:MOk K rAppend fAppend:=by
 intro F H a xs es vs ds Q k s e d1 d2 w q
 match ds,d2,w with
 | [x],.cons h .nil,w=>exact ⟨a,xs,_,rfl,rfl,e,by rw [d1.length]; exact w.1,q _ (.lst (xs ++ [_])) (.list (es ++ [x])) _ (d1.append (.cons h .nil)) .non w.2⟩
noncomputable def fInsert:List D -> List D -> (D -> D -> Prop) -> Prop
 | es,[.int i,x],k=>es.length < sizeLine /\ 0 <= i /\ i <= es.length /\ k (.list (es.take i.toNat ++ x :: es.drop i.toNat)) .none
 | _,_,_=>False
noncomputable def dSetIx (j:Nat) (ai:AD) (te:TD):TDS:=fun E ρ=>te ρ fun r ρ1=>match ρ1[j]? with
 | some (some _)=>dArgs [ai] ρ1 fun xs ρ2=>looksQ ρ2 xs fun ds=>match ds,ρ2[j]? with
  | [.int k],some (some s)=>match s.d,isOw s with
   | .list es,true=>∃ n,ixN es.length k = some n /\ E.nx (ρ2.set j (some (s.put (.list (es.set n r.d)))))
   | _,_=>False
  | _,_=>False
 | _=>False
theorem l_setIx {K:Fg} {j:Nat} {ai:AD} {te:TD} {σ:St} {H:Hp} {E:Ends} (h:liftS K (dSetIx j ai te) E σ H):tAsg (lift K te) (gSub (tVar j) (argT K ai) rSetL) E σ H:=by
 obtain ⟨G,F,ρ,D,R,w,n,r,b,c⟩:=h
 refine ⟨G,F,ρ,_,R,w,fun v H1 F1 x ρ1 s1 R1 r1 w1=>?_⟩
 obtain ⟨F2,s2,R2,d2⟩:=r1.frz R1
 split at w1
 ·rename_i s0 e0
  obtain ⟨u,eu⟩:=R2.bound e0
  refine ⟨u,eu,arg1 (P:=fun i H2=>rSetL u i v H2 fun H3=>E.nx σ H3) (args_ok R2 w1 fun vs H3 F3 xs ρ3 s3 R3 o3 w3=>?_)⟩
  obtain ⟨ds,ha,w3⟩:=looks_ok R3 o3 w3
  split at w3
  ·rename_i k s e
   obtain ⟨iv,rfl,hi⟩:=ha.one
   cases hi.int
   split at w3
   ·rename_i es p1 p2
    obtain ⟨m,w4,w5⟩:=w3
    obtain ⟨a,o,g1,g2,g3,g4⟩:=R3.ow j s e p2
    rw [eu] at g1; cases g1
    rw [p1] at g4
    have hl:∃ us,o = .lst us /\ DaAll K F3 us es:=by cases o <;> first | exact g4.elim | exact ⟨_,rfl,g4⟩
    obtain ⟨us,rfl,g4⟩:=hl
    refine ⟨_,rfl,a,us,k,m,rfl,rfl,g3,by rw [g4.length]; exact w4,?_⟩
    have R4:=R3.change (o':=.lst (us.set m v)) (d':=.list (es.set m x.d)) e p2 eu (g4.set (d2.mono s3) m)
    exact n σ _ F3 _ (s1.trans (s2.trans s3)) R4 w5
   ·exact w3.elim
  ·exact w3.elim
 ·exact w1.elim
noncomputable def iSeq (K:Fg) (tl:TE):TI:=fun σ H R=>tl σ H fun x H1=>∃ a,x = .ref a /\ (((∃ xs,SqL K H1 a xs) /\ R (Itl K a) H1) \/ ((∃ xs,SqT K H1 a xs) /\ R (Itt K a) H1))
noncomputable def dISeq (a:TD):TDI:=fun ρ Q=>a ρ fun r ρ1=>match r.d with
 | .list ds=>Q ds ρ1
 | .tuple ds=>Q ds ρ1
 | _=>False
theorem walks_list {K:Fg} {F:Hp} {a:Addr} {xs:List V} {ds:List D} (e:F a = some (.lst xs)) (h:DaAll K F xs ds):Walks K (Itl K a) F ds:=fun i H F1 s1 s2=>by
 have q:=SqL.of (K:=K) (s2 _ _ (s1 _ _ e))
 refine ⟨fun d ed=>?_,fun hl=>⟨xs,q,by rw [h.length]; omega⟩⟩
 obtain ⟨v,h1,h2⟩:=h.get ed
 refine ⟨⟨xs,v,q,h1⟩,fun x H' ⟨e1,e2⟩=>?_⟩
 subst e1
 have:=e2 xs q
 rw [h1] at this; cases this
 exact ⟨F1,Sub.refl _,fun _ _ z=>.inl z,s2,Sub.refl _,h2.mono s1⟩
theorem walks_tup {K:Fg} {F:Hp} {a:Addr} {xs:List V} {ds:List D} (e:F a = some (.tup xs)) (h:DaAll K F xs ds):Walks K (Itt K a) F ds:=fun i H F1 s1 s2=>by
 have q:=SqT.of (K:=K) (s2 _ _ (s1 _ _ e))
 refine ⟨fun d ed=>?_,fun hl=>⟨xs,q,by rw [h.length]; omega⟩⟩
 obtain ⟨v,h1,h2⟩:=h.get ed
 refine ⟨⟨xs,v,q,h1⟩,fun x H' ⟨e1,e2⟩=>?_⟩
 subst e1
 have:=e2 xs q
 rw [h1] at this; cases this
 exact ⟨F1,Sub.refl _,fun _ _ z=>.inl z,s2,Sub.refl _,h2.mono s1⟩
theorem l_iseq {K:Fg} {a:TD} {σ:St} {H:Hp} {R:It -> Hp -> Prop} (h:liftI K (dISeq a) σ H R):iSeq K (lift K a) σ H R:=by
 obtain ⟨G,F,ρ,Qd,Rl,w,k⟩:=h
 refine ⟨G,F,ρ,_,Rl,w,fun v H1 F1 r ρ1 s1 R1 r1 w1=>?_⟩
 obtain ⟨F2,s2,R2,d2⟩:=r1.frz R1
 split at w1
 ·rename_i ds e
  rw [e] at d2
  cases d2 with
  | lst q t=>exact ⟨_,rfl,.inl ⟨⟨_,SqL.of (R2.sub _ _ q)⟩,k _ H1 F2 ds ρ1 (s1.trans s2) R2 (walks_list q t) w1⟩⟩
 ·rename_i ds e
  rw [e] at d2
  cases d2 with
  | tup q t=>exact ⟨_,rfl,.inr ⟨⟨_,SqT.of (R2.sub _ _ q)⟩,k _ H1 F2 ds ρ1 (s1.trans s2) R2 (walks_tup q t) w1⟩⟩
 ·exact w1.elim
noncomputable def rangeD (lo:Int) (n:Nat):List D:=(List.range n).map fun (i:Nat)=>PyData.int (lo + i)
theorem walks_range {K:Fg} {F:Hp} {lo:Int} {n:Nat}:Walks K (Itr lo n) F (rangeD lo n):=fun i H F1 s1 s2=>by
 have hl:(rangeD lo n).length = n:=by simp [rangeD]
 refine ⟨fun d ed=>?_,fun h=>by rw [hl] at h; exact Nat.le_of_eq h⟩
 have hi:i < n:=by have:=lt_of_get ed; rw [hl] at this; exact this
 have e:(rangeD lo n)[i]? = some (.int (lo + i)):=by simp [rangeD,hi]
 rw [e] at ed; cases ed
 refine ⟨hi,fun x H' ⟨e1,e2⟩=>?_⟩
 subst e1 e2
 exact ⟨F1,Sub.refl _,fun _ _ z=>.inl z,s2,Sub.refl _,.int _⟩
noncomputable def dIRng1 (a:AD):TDI:=fun ρ Q=>dArgs [a] ρ fun xs ρ1=>looksQ ρ1 xs fun ds=>match ds with
 | [.int j]=>-(2 ^ 62) <= j /\ j < 2 ^ 62 /\ Q (rangeD 0 j.toNat) ρ1
 | _=>False
theorem l_rng1 {K:Fg} {a:AD} {σ:St} {H:Hp} {R:It -> Hp -> Prop} (h:liftI K (dIRng1 a) σ H R):iRng1 (tArgs ([a].map (argT K))) σ H R:=by
 obtain ⟨G,F,ρ,Qd,Rl,w,k⟩:=h
 refine args_ok Rl w fun vs H' F' xs ρ' sb R' o w1=>?_
 obtain ⟨ds,ha,w1⟩:=looks_ok R' o w1
 split at w1
 ·rename_i j
  obtain ⟨v,rfl,h1⟩:=ha.one
  cases h1.int
  exact ⟨j,rfl,w1.1,w1.2.1,k _ H' F' _ ρ' sb R' walks_range w1.2.2⟩
 ·exact w1.elim
noncomputable def SeqF (K:Fg) (F:Hp) (v:V) (ds:List D):Prop:=∃ k a xs,v = .ref a /\ (F a = some (match k with | Kd.l=>HO.lst xs | Kd.t=>HO.tup xs)) /\ DaAll K F xs ds
theorem sq_of {K:Fg} {H:Hp} {a:Addr} {xs:List V} {k:Kd} (e:H a = some (match k with | Kd.l=>HO.lst xs | Kd.t=>HO.tup xs)):Sq k K H a xs:=by
 cases k with
 | l=>exact SqL.of e
 | t=>exact SqT.of e
noncomputable def seqD:D -> Option (List D)
 | .list ds=>some ds
 | .tuple ds=>some ds
 | _=>none
theorem seqF_of {K:Fg} {F:Hp} {v:V} {d:D} {ds:List D} (h:Da K F v d) (e:seqD d = some ds):∃ k a xs,v = .ref a /\ (F a = some (match k with | Kd.l=>HO.lst xs | Kd.t=>HO.tup xs)) /\ DaAll K F xs ds:=by
 cases h with
 | lst q t=>cases e; exact ⟨.l,_,_,rfl,q,t⟩
 | tup q t=>cases e; exact ⟨.t,_,_,rfl,q,t⟩
 | non=>cases e
 | bl=>cases e
 | int=>cases e
 | str=>cases e
 | dk _ _=>cases e
 | dt _ _=>cases e
 | scr _=>cases e
 | exc _=>cases e
end L3
namespace L3
open PySem PySem.Spec L2
noncomputable def kOf:D -> Option Key
 | .int i=>some (.inl i)
 | .str x=>some (.inr x)
 | _=>none
theorem kOf_key (k:Key):kOf (keyD k) = some k:=by cases k <;> rfl
theorem kOf_inv {d:D} {k:Key} (h:kOf d = some k):d = keyD k:=by
 cases d <;> first | (cases h; rfl) | cases h
noncomputable def ksOf:List D -> Option (List Key)
 | []=>some []
 | d :: ds=>match kOf d,ksOf ds with
  | some k,some ks=>some (k :: ks)
  | _,_=>none
theorem ksOf_map:∀ ks:List Key,ksOf (ks.map keyD) = some ks
 | []=>rfl
 | k :: ks=>by simp [ksOf,kOf_key,ksOf_map ks]
theorem ksOf_inv:∀ {ds:List D} {ks:List Key},ksOf ds = some ks -> ds = ks.map keyD
 | [],ks,h=>by cases h; rfl
 | d :: ds,ks,h=>by
  unfold ksOf at h
  split at h
  ·rename_i k ks' e1 e2
   cases h
   rw [kOf_inv e1,ksOf_inv e2]; rfl
  ·cases h
noncomputable def getK (es:List (D × D)) (k:Key):Option D:=(es.find? fun e=>decide (kOf e.1 = some k)).map (·.2)
noncomputable def keyT:D -> Option (List Key)
 | .tuple ds=>ksOf ds
 | _=>none
noncomputable def getT (es:List (D × D)) (k:List Key):Option D:=(es.find? fun e=>decide (keyT e.1 = some k)).map (·.2)
section
variable {K:Fg} {F H:Hp}
theorem DaKV.val (k:Key):∀ {kvs:List (Key × V)} {es:List (D × D)},DaKV K F kvs es -> match getK es k,valV kvs k with | some d,some v=>Da K F v d | none,none=>True | _,_=>False
 | _,_,.nil=>trivial
 | _,_,.cons (k:=k') (v:=v) (d:=d) (kvs:=kvs) (es:=es) h t=>by
  have ih:=DaKV.val k t
  unfold getK valV at ih ⊢
  simp only [List.find?_cons,kOf_key,Option.some.injEq]
  by_cases e:k' = k
  ·subst e; simp; exact h
  ·have e':decide (k' = k) = false:=decide_eq_false e
   simp only [e']
   exact ih
theorem DaKT.val (k:List Key):∀ {kvs:List (List Key × V)} {es:List (D × D)},DaKT K F kvs es -> match getT es k,valV kvs k with | some d,some v=>Da K F v d | none,none=>True | _,_=>False
 | _,_,.nil=>trivial
 | _,_,.cons (ks:=k') (v:=v) (d:=d) (kvs:=kvs) (es:=es) h t=>by
  have ih:=DaKT.val k t
  unfold getT valV at ih ⊢
  simp only [List.find?_cons,keyT,ksOf_map,Option.some.injEq]
  by_cases e:k' = k
  ·subst e; simp; exact h
  ·have e':decide (k' = k) = false:=decide_eq_false e
   simp only [e']
   exact ih
theorem At.dict {v:V} {es:List (D × D)} (s:Sub F H) (h:At K F H v (.dict es)):∃ a,v = .ref a /\ ((∃ kvs,Rd H a (.dK kvs) /\ DaKV K F kvs es) \/ (∃ kvs,Rd H a (.dT kvs) /\ DaKT K F kvs es) \/ ∃ k0 d0,es = [(k0,d0)] /\ kOf k0 = Option.none /\ keyT k0 = Option.none):=by
 rcases h with h | ⟨a,o,rfl,_,e,h⟩
 ·cases h with
  | dk q t=>exact ⟨_,rfl,.inl ⟨_,s.rd q,t⟩⟩
  | dt q t=>exact ⟨_,rfl,.inr (.inl ⟨_,s.rd q,t⟩)⟩
  | scr q=>exact ⟨_,rfl,.inr (.inr ⟨_,_,rfl,rfl,rfl⟩)⟩
  | exc q=>exact ⟨_,rfl,.inr (.inr ⟨_,_,rfl,rfl,rfl⟩)⟩
 ·cases o <;> first | exact h.elim | exact ⟨_,rfl,.inl ⟨_,.inl e,h⟩⟩ | exact ⟨_,rfl,.inr (.inl ⟨_,.inl e,h⟩)⟩
theorem DaAll.keys:∀ {xs:List V} {ks:List Key},DaAll K F xs (ks.map keyD) -> xs = ks.map kV
 | [],[],_=>rfl
 | x :: xs,k :: ks,.cons h t=>by
  have e:x = kV k:=by cases k <;> (cases h; rfl)
  rw [e,DaAll.keys t]; rfl
theorem At.key {v:V} {d:D} {k:Key} (h:At K F H v d) (e:kOf d = some k):v = kV k:=by
 have:=kOf_inv e
 subst this
 cases k with
 | inl i=>exact h.int
 | inr x=>exact h.str
theorem At.keyTup {v:V} {d:D} {k:List Key} (s:Sub F H) (h:At K F H v d) (e:keyT d = some k):∃ b,v = .ref b /\ H b = some (.tup (k.map kV)):=by
 cases d <;> first | cases e | skip
 rename_i ds
 have:=ksOf_inv e
 subst this
 obtain ⟨a,xs,rfl,_,e1,d1⟩:=h.tuple s
 have:=d1.keys
 subst this
 exact ⟨a,rfl,e1⟩
theorem scr_noK {es:List (D × D)} {k0:D} (e:∃ d0,es = [(k0,d0)] /\ kOf k0 = none /\ keyT k0 = none) (k:Key):getK es k = none:=by obtain ⟨d0,rfl,e,_⟩:=e; simp [getK,e]
theorem scr_noT {es:List (D × D)} {k0:D} (e:∃ d0,es = [(k0,d0)] /\ kOf k0 = none /\ keyT k0 = none) (k:List Key):getT es k = none:=by obtain ⟨d0,rfl,_,e⟩:=e; simp [getT,e]
theorem getK_cons (e:D × D) (es:List (D × D)) (k:Key) (h:kOf e.1 = none):getK (e :: es) k = getK es k:=by simp [getK,List.find?_cons,h]
theorem getT_cons (e:D × D) (es:List (D × D)) (k:List Key) (h:keyT e.1 = none):getT (e :: es) k = getT es k:=by simp [getT,List.find?_cons,h]
theorem getK_T (k:Key):∀ {kvs:List (List Key × V)} {es:List (D × D)},DaKT K F kvs es -> getK es k = none
 | _,_,.nil=>rfl
 | _,_,.cons h t=>by rw [getK_cons _ _ _ rfl]; exact getK_T k t
theorem getT_K (k:List Key):∀ {kvs:List (Key × V)} {es:List (D × D)},DaKV K F kvs es -> getT es k = none
 | _,_,.nil=>rfl
 | _,_,.cons (k:=k') h t=>by rw [getT_cons _ _ _ (by cases k' <;> rfl)]; exact getT_K k t
end
noncomputable def getE (es:List (D × D)) (k:D):Option D:=match kOf k with
 | some k=>getK es k
 | none=>match keyT k with
  | some ks=>getT es ks
  | none=>none
noncomputable def fDGet:D -> D -> (Sl -> Prop) -> Prop
 | .dict es,k,Q=>∃ d,getE es k = some d /\ Q (.fz d)
 | _,_,_=>False
theorem dget_some {K:Fg} {F H:Hp} {x y:V} {es:List (D × D)} {k d:D} (s:Sub F H) (h1:At K F H x (.dict es)) (h2:At K F H y k) (e:getE es k = some d):∃ a v,x = .ref a /\ DGet H a y (some v) /\ Da K F v d:=by
 obtain ⟨a,rfl,h⟩:=h1.dict s
 unfold getE at e
 split at e
 ·rename_i k' ek
  have hy:=h2.key ek
  subst hy
  rcases h with ⟨kvs,q,t⟩ | ⟨kvs,q,t⟩ | ⟨ns,q⟩
  ·have:=t.val k'
   rw [e] at this
   cases ev:valV kvs k' with
   | none=>rw [ev] at this; exact this.elim
   | some v=>rw [ev] at this; exact ⟨a,v,rfl,.inl ⟨kvs,k',q,rfl,ev.symm⟩,this⟩
  ·rw [getK_T _ t] at e; cases e
  ·rw [scr_noK q] at e; cases e
 ·split at e
  ·rename_i ks ek
   obtain ⟨b,rfl,hb⟩:=h2.keyTup s ek
   rcases h with ⟨kvs,q,t⟩ | ⟨kvs,q,t⟩ | ⟨ns,q⟩
   ·rw [getT_K _ t] at e; cases e
   ·have:=t.val ks
    rw [e] at this
    cases ev:valV kvs ks with
    | none=>rw [ev] at this; exact this.elim
    | some v=>rw [ev] at this; exact ⟨a,v,rfl,.inr ⟨kvs,ks,b,q,rfl,hb,ev.symm⟩,this⟩
   ·rw [scr_noT q] at e; cases e
  ·cases e
noncomputable def rDGet:R2:=fun x y H Q=>∃ a v,x = .ref a /\ DGet H a y (some v) /\ Q v H
theorem ok_dget {K:Fg}:OpOk K (r2L rDGet) (o2 fDGet):=ok2 fun G F σ H ρ x y d e Q Qd R h1 h2 w k=>by
 match d,h1,w with
 | .dict es,h1,⟨d',w1,w2⟩ =>
  obtain ⟨a,v,rfl,g,dv⟩:=dget_some R.sub h1 h2 w1
  exact ⟨a,v,rfl,g,k _ H F (.fz _) (Sub.refl _) R dv w2⟩
end L3
namespace L3
open PySem PySem.Spec PyProof.Rows L2
noncomputable def notStar:Expr -> Bool
 | .Starred _ _=>false
 | _=>true
theorem starEach_of {e:Expr} {es:List Expr} {env:Env} (h:notStar e = true):starEach (e :: es) env = (false,eval e env) :: starEach es env:=by
 cases e <;> first | rfl | cases h
theorem plain_of {env:Env} {pos:Pos}:∀ {es:List Expr},es.all notStar = true -> (backTo pos (starEach es env)).any (·.1) = false:=by
 intro es
 induction es with
 | nil=>intro _; rfl
 | cons e es ih =>
  intro h
  simp only [List.all_cons,Bool.and_eq_true] at h
  rw [starEach_of h.1]
  have:=ih h.2
  simp [backTo] at this ⊢
  exact this
noncomputable def notSet:Expr -> Bool
 | .Set _ _ _=>false
 | _=>true
theorem folded_of {e:Expr} {env:Env} (h:notSet e = true) (x:Value):foldedSetIterable e env x = pure x:=by
 cases e <;> first | rfl | cases h
noncomputable def notComp:Expr -> Bool
 | .ListComp _ _ _ _=>false
 | .SetComp _ _ _ _=>false
 | .DictComp _ _ _ _ _=>false
 | _=>true
theorem swaps_of {e:Expr} {t:Option Expr} {n:Nat} {env:Env} (h:notComp e = true):swapsWith e t n env = pure false:=by
 cases e <;> first | rfl | cases h
section
variable {X:Cx} {K:Fg}
theorem peM {e:Expr} {t t':TE} (h:PE X e t) (m:∀ {σ H Q},t' σ H Q -> t σ H Q):PE X e t':=fun pins s σ H Q I w=>h pins s σ H Q I (m w)
theorem ptM {e:Expr} {t t':TT} (h:PT X e t) (m:∀ {σ H Q},t' σ H Q -> t σ H Q):PT X e t':=fun pins s σ H Q I w=>h pins s σ H Q I (m w)
theorem pwM {e:Expr} {t t':TT} (h:PW X e t) (m:∀ {σ H Q},t' σ H Q -> t σ H Q):PW X e t':=fun wh pins s σ H Q I w=>h wh pins s σ H Q I (m w)
theorem psM {e:Stmt} {t t':TS} (h:PS X e t) (m:∀ {D σ H},t' D σ H -> t D σ H):PS X e t':=fun pins s σ H D I w=>h pins s σ H D I (m w)
theorem pssM {e:List Stmt} {t t':TS} (h:PSs X e t) (m:∀ {D σ H},t' D σ H -> t D σ H):PSs X e t':=fun pins s σ H D I w=>h pins s σ H D I (m w)
theorem pgM {e:Expr} {t t':TG} (h:PG X e t) (m:∀ {v σ H Q},t' v σ H Q -> t v σ H Q):PG X e t':=by
 unfold PG at h ⊢
 intros
 exact h _ _ _ _ _ _ _ (by assumption) (by assumption) (m (by assumption))
theorem piM {g e:Expr} {t t':TI} (h:PI X g e t) (m:∀ {σ H R},t' σ H R -> t σ H R):PI X g e t':=fun pins s σ H R I w=>h pins s σ H R I (m w)
theorem pifM {es:List Expr} {t t':TT} (h:PIf X es t) (m:∀ {σ H Q},t' σ H Q -> t σ H Q):PIf X es t':=fun pins s σ H Q I w=>h pins s σ H Q I (m w)
theorem da_cons {e:Expr} {es:List Expr} {a:AD} {as:List AD} (ha:PE X e (argT K a)) (hr:PA X es (tArgs (as.map (argT K)))) (hs:starEach (e :: es) X.env = (false,eval e X.env) :: starEach es X.env:=by exact starEach_of rfl):PA X (e :: es) (tArgs ((a :: as).map (argT K))):=pa_cons ha hr hs
variable {e:Expr} {a b c:AD} {as:List AD} {td te:TD} {tc td':TTD}
theorem cv_var {i:Nat} (h:PE X e (tVar i)):PE X e (lift K (dVar i)):=peM h l_var
theorem cv_c {v:V} {d:D} (hv:∀ F,Da K F v d) (h:PE X e (tC v)):PE X e (lift K (dC d)):=peM h (l_c hv)
theorem cv2 {r:R2} {f:D -> D -> (Sl -> Prop) -> Prop} (ok:OpOk K (r2L r) (o2 f)) (h:PE X e (tOp r (argT K a) (argT K b))):PE X e (lift K (dOp [a,b] (o2 f))):=peM h fun q=>arg2 (l_op ok q)
theorem cvu {r:V -> Hp -> VK -> Prop} {f:D -> (Sl -> Prop) -> Prop} (ok:OpOk K (r1L r) (o1 f)) (h:PE X e (tUn r (argT K a))):PE X e (lift K (dOp [a] (o1 f))):=peM h fun q=>arg1 (l_op ok q)
theorem cvB {r:List V -> Hp -> VK -> Prop} {f:List D -> (Sl -> Prop) -> Prop} (ok:OpOk K r f) (h:PE X e (tCB r (tArgs (as.map (argT K))))):PE X e (lift K (dOp as f)):=peM h fun q=>l_op ok q
theorem cv_tup (hl:as.length <= 1000) (h:PE X e (tTup (tArgs (as.map (argT K))))):PE X e (lift K (dOpF as fTupD)):=peM h (l_tup hl)
theorem cv_lst (hl:as.length <= 1000) (h:PE X e (tLst (tArgs (as.map (argT K))))):PE X e (lift K (dOpF as fLstD)):=peM h (l_lst hl)
theorem cv_and (h:PE X e (tAndV (lift K td) (lift K te))):PE X e (lift K (dAndV td te)):=peM h l_andV
theorem cv_if (h:PE X e (tIf (liftT K tc) (lift K td) (lift K te))):PE X e (lift K (dIf tc td te)):=peM h l_if
theorem cv_fn {con:Con} {E:XK} (h:PE X e (tCall (conSp K con) [] E (tArgs (as.map (argT K))))):PE X e (lift K (dCall con as)):=peM h l_call
theorem cv_fnI {con:Con} {E:XK} {i:Nat} (h:PE X e (tCall (conSp K con) [] E (tArgs ((Sum.inl i :: as).map (argT K))))):PE X e (lift K (dCallI con i as)):=peM h l_callI
theorem cv_m {i:Nat} {r:V -> List V -> Hp -> VK -> Prop} {f:List D -> List D -> (D -> D -> Prop) -> Prop} (ok:MOk K r f) (h:PE X e (tBM K "list" r (tVar i) (tArgs (as.map (argT K))))):PE X e (lift K (dMeth i as f)):=peM h fun q=>by
 obtain ⟨a,xs,e1,sq,w⟩:=l_meth ok q
 exact ⟨_,e1,.inl ⟨rfl,xs,sq⟩,w⟩
theorem ct2 {r:R2} {f:D -> D -> (Sl -> Prop) -> Prop} (ok:OpOk K (r2L r) (o2 f)) (h:PT X e (tTest (tOp r (argT K a) (argT K b)))):PT X e (liftT K (dTst (dOp [a,b] (o2 f)))):=ptM h fun q=>l_tst (fun z=>arg2 (l_op ok z)) q
theorem ct_val (h:PT X e (tB (lift K td))):PT X e (liftT K (dTst td)):=ptM h fun q=>l_tst (fun z=>z) q
theorem ct_chain {p q:Int -> Int -> Bool} (h:PT X e (tTest (tChain (rI0 fun i j=>.bl (p i j)) (rI0 fun i j=>.bl (q i j)) (argT K a) (argT K b) (argT K c)))):PT X e (liftT K (dTst (dChain p q a b c))):=ptM h fun z=>l_tst (fun y=>l_chain y) z
theorem ct_not (h:PT X e (tNot (liftT K tc))):PT X e (liftT K (dNot tc)):=ptM h l_not
theorem cw_and (h:PW X e (tAnd (liftT K tc) (liftT K td'))):PW X e (liftT K (dAnd tc td')):=pwM h l_and
theorem cw_or (h:PW X e (tOr (liftT K tc) (liftT K td'))):PW X e (liftT K (dOr tc td')):=pwM h l_or
variable {st:Stmt} {sts:List Stmt} {t u:TDS}
theorem cs_next (h:PSs X sts tNext):PSs X sts (liftS K dNext):=pssM h l_next
theorem cs_seq (h:PSs X sts (tSeq (liftS K t) (liftS K u))):PSs X sts (liftS K (dSeq t u)):=pssM h l_seq
theorem cs_ret (h:PS X st (tRet (lift K td))):PS X st (liftS K (dRet td)):=psM h l_ret
theorem cs_retV {i:Nat} (h:PS X st (tRet (tVar i))):PS X st (liftS K (dRetV i)):=psM h l_retV
theorem cs_move {i j:Nat} (h:PS X st (tAsg (tVar j) (gName i))):PS X st (liftS K (dMove i j)):=psM h l_move
theorem cs_drop (h:PS X st (tDrop (lift K td))):PS X st (liftS K (dDrop td)):=psM h l_drop
theorem cs_if (h:PS X st (tIfS (liftT K tc) (liftS K t) (liftS K u))):PS X st (liftS K (dIfS tc t u)):=psM h l_ifS
theorem cs_set {i:Nat} (h:PS X st (tAsg (lift K td) (gName i))):PS X st (liftS K (dSet i td)):=psM h l_set
theorem cs_ix {j:Nat} (h:PS X st (tAsg (lift K td) (gSub (tVar j) (argT K a) rSetL))):PS X st (liftS K (dSetIx j a td)):=psM h l_setIx
theorem cs_while (h:PS X st (tWhile (liftT K tc) (liftS K t))):PS X st (liftS K (dWhile tc t)):=psM h l_while
theorem cg_name {i:Nat} (h:PG X e (gName i)):PG X e (liftG K (dGN i)):=pgM h l_gn
theorem cg_tup {n:Nat} {gs:List TDG} (h:PG X e (gTup K n (gAll (gs.map (liftG K))))) (hn:gs.length = n:=by rfl):PG X e (liftG K (dGT gs)):=pgM h (l_gt hn)
theorem cgs_cons {es:List Expr} {g:TDG} {gs:List TDG} (h1:PG X e (liftG K g)) (h2:PGs X es (gAll (gs.map (liftG K)))) (hs:(assignEach (e :: es) X.env).map (·.2) = assign e X.env :: (assignEach es X.env).map (·.2):=by rfl):PGs X (e :: es) (gAll ((g :: gs).map (liftG K))):=pgs_cons h1 h2 hs
theorem cif_nil:PIf X [] (liftT K dYes):=pifM if_nil l_yes
variable {tg:Expr}
theorem pi_seqD {l:Expr} {tl:TE} (hK:X.K = K) (hl:PE X l tl):PI X tg l (iSeq K tl):=by
 subst hK
 intro pins s σ H R I h
 refine thn (hl pins s σ H _ I h) fun v s1 ⟨x,H1,I1,r1,q1⟩=>?_
 obtain ⟨a,e,q1⟩:=q1
 subst e
 cases r1
 rcases q1 with ⟨⟨xs,hq⟩,q⟩ | ⟨⟨xs,hq⟩,q⟩
 ·obtain ⟨its,rv,p,hz⟩:=I1.list hq
  refine wpAny_pyIter_list p.isList ?_
  refine ⟨s1.heap.objs.size,[s1.heap.objs.size],_,_,H1,rfl,I1.kept (t':=s1.toks) fun b o e=>Heap.get?_push_of_some _ e,turn_list a _,⟨_,Heap.get?_push_size _ rfl,rfl,rfl⟩,fun b hb=>?_,q⟩
  have e:b = s1.heap.objs.size:=by simpa using hb
  subst e
  exact I1.fpOk (Nat.le_refl _) (I1.hok.fresh (Nat.le_refl _))
 ·obtain ⟨its,rv,p,hz⟩:=I1.tuple hq
  refine wpAny_pyIter_tuple (show s1.heap.IsTuple a its.toArray from p) ?_
  refine ⟨s1.heap.objs.size,[s1.heap.objs.size],_,_,H1,rfl,I1.kept (t':=s1.toks) fun b o e=>Heap.get?_push_of_some _ e,turn_tuple a _,⟨_,Heap.get?_push_size _ rfl,rfl,rfl⟩,fun b hb=>?_,q⟩
  have e:b = s1.heap.objs.size:=by simpa using hb
  subst e
  exact I1.fpOk (Nat.le_refl _) (I1.hok.fresh (Nat.le_refl _))
theorem ci_seq {l:Expr} (hK:X.K = K) (hl:PE X l (lift K td)):PI X tg l (liftI K (dISeq td)):=piM (pi_seqD hK hl) l_iseq
theorem ci_rng1 {l:Expr} (h:PI X tg l (iRng1 (tArgs ([a].map (argT K))))):PI X tg l (liftI K (dIRng1 a)):=piM h l_rng1
noncomputable def CMod (_ j:Int):Prop:=0 < j
theorem op_catB:OpR X (binaryOp .Add) rCatB:=by
 intro pins s σ H x y v u Q I rx ry h
 obtain ⟨a,b,xs,ys,rfl,rfl,ha,hb,hz,q1,q2,q3⟩:=h
 have ha':SqT X.K H a xs:=SqT.of ha
 have hb':SqT X.K H b ys:=SqT.of hb
 by_cases hx:xs = []
 ·subst hx
  cases rx
  cases ry
  obtain ⟨its,r1,p1,_⟩:=I.tuple ha'
  obtain ⟨its2,r2,p2,_⟩:=I.tuple hb'
  cases r1
  exact cat_tup0 p1 p2 ⟨.ref b,H,I,rfl,q1 rfl⟩
 ·exact op_catT pins s σ H (.ref a) (.ref b) v u Q I rx ry ⟨a,b,xs,ys,rfl,rfl,ha',hb',hx,hz,fun e=>q2 hx e,fun e p hp=>q3 hx e p hp⟩
theorem op_addD:OpR X (binaryOp .Add) (rAny (rI0 fun i j=>.int (i + j)) (rAny rCatB rCat)):=op_add.or (op_catB.or op_cat)
theorem op_mulD:OpR X (binaryOp .Mult) (rAny (rI CMul fun i j=>.int (i * j)) rRep):=op_mul.or op_rep
theorem ok_sub:OpOk K (r2L (rI0 fun i j=>.int (i - j))) (o2 (fI0 fun i j=>.int (i - j))):=ok_I0 fun _ _ _=>.int _
theorem ok_fdiv:OpOk K (r2L (rI CDiv fun i j=>.int (i / j))) (o2 (fI CDiv fun i j=>.int (i / j))):=ok_I fun _ _ _=>.int _
theorem ok_mod:OpOk K (r2L (rI (fun _ j=>0 < j) fun i j=>.int (i % j))) (o2 (fI CMod fun i j=>.int (i % j))):=ok_I (C:=CMod) fun _ _ _=>.int _
theorem ok_pow:OpOk K (r2L (rI CPow fun i j=>.int (i ^ j.toNat))) (o2 (fI CPow fun i j=>.int (i ^ j.toNat))):=ok_I fun _ _ _=>.int _
theorem ok_lt:OpOk K (r2L (rI0 fun i j=>.bl (decide (i < j)))) (o2 (fI0 fun i j=>.bool (decide (i < j)))):=ok_I0 fun _ _ _=>.bl _
theorem ok_le:OpOk K (r2L (rI0 fun i j=>.bl (decide (i <= j)))) (o2 (fI0 fun i j=>.bool (decide (i <= j)))):=ok_I0 fun _ _ _=>.bl _
theorem ok_gt:OpOk K (r2L (rI0 fun i j=>.bl (decide (j < i)))) (o2 (fI0 fun i j=>.bool (decide (j < i)))):=ok_I0 fun _ _ _=>.bl _
theorem ok_ge:OpOk K (r2L (rI0 fun i j=>.bl (decide (j <= i)))) (o2 (fI0 fun i j=>.bool (decide (j <= i)))):=ok_I0 fun _ _ _=>.bl _
theorem ix_seqD (hK:X.K = K):IxR X (rAny (rIxL K) (rIxT K)):=(ix_listK hK).or (ix_tupK hK)
end
mutual
noncomputable def plainD:D -> Bool
 | .none=>true
 | .bool _=>true
 | .int _=>true
 | .str _=>true
 | .list xs=>plainAll xs
 | .tuple xs=>plainAll xs
 | .dict _=>false
noncomputable def plainAll:List D -> Bool
 | []=>true
 | x :: xs=>plainD x && plainAll xs
end
section
variable {K:Fg} {F H:Hp}
mutual
theorem Da.is (s:Sub F H):∀ {v:V} {d:D},Da K F v d -> plainD d = true -> Is K H v d
 | _,_,.non,_=>.non
 | _,_,.bl b,_=>.bl b
 | _,_,.int i,_=>.int i
 | _,_,.str x,_=>.str x
 | _,_,.lst e t,z=>.lst (SqL.of (s _ _ e)) (DaAll.is s t (by simpa [plainD] using z))
 | _,_,.tup e t,z=>.tup (SqT.of (s _ _ e)) (DaAll.is s t (by simpa [plainD] using z))
 | _,_,.dk _ _,z=>by simp [plainD] at z
 | _,_,.dt _ _,z=>by simp [plainD] at z
 | _,_,.scr _,z=>by simp [plainD,scrD] at z
 | _,_,.exc _,z=>by simp [plainD,excD] at z
theorem DaAll.is (s:Sub F H):∀ {xs:List V} {ds:List D},DaAll K F xs ds -> plainAll ds = true -> IsAll K H xs ds
 | _,_,.nil,_=>.nil
 | _,_,.cons a t,z=>by
  simp [plainAll] at z
  exact .cons (Da.is s a z.1) (DaAll.is s t z.2)
end
theorem At.is {v:V} {d:D} (s:Sub F H) (h:At K F H v d) (p:plainD d = true):Is K H v d:=by
 rcases h with h | ⟨a,o,rfl,_,e,h⟩
 ·exact h.is s p
 ·cases o <;> cases d <;> first | exact h.elim | (simp [plainD] at p) | skip
  ·rename_i xs ds
   exact .lst (SqL.of e) (DaAll.is s h (by simpa [plainD] using p))
end
noncomputable def fEqG (x y:D) (Q:Sl -> Prop):Prop:=plainD x = true /\ plainD y = true /\ SeqAt.shaped x = true /\ SeqAt.shaped y = true /\ SeqAt.noMix x y = true /\ Q (.fz (.bool (same x y)))
noncomputable def fNeG (x y:D) (Q:Sl -> Prop):Prop:=plainD x = true /\ plainD y = true /\ SeqAt.shaped x = true /\ SeqAt.shaped y = true /\ SeqAt.noMix x y = true /\ Q (.fz (.bool (!same x y)))
noncomputable def fEq:D -> D -> (Sl -> Prop) -> Prop
 | .int i,.int j,Q=>Q (.fz (.bool (decide (i = j))))
 | .list xs,y,Q=>fEqG (.list xs) y Q
 | .tuple xs,y,Q=>fEqG (.tuple xs) y Q
 | .str x,.str y,Q=>Q (.fz (.bool (decide (x = y))))
 | x,y,Q=>fEqG x y Q
noncomputable def fNe:D -> D -> (Sl -> Prop) -> Prop
 | .int i,.int j,Q=>Q (.fz (.bool (!decide (i = j))))
 | .list xs,y,Q=>fNeG (.list xs) y Q
 | .tuple xs,y,Q=>fNeG (.tuple xs) y Q
 | .str x,.str y,Q=>Q (.fz (.bool (!decide (x = y))))
 | x,y,Q=>fNeG x y Q
theorem ok_eq {K:Fg}:OpOk K (r2L (rAny rEq (rEqD K false))) (o2 fEq):=ok2 fun G F σ H ρ x y d e Q Qd R h1 h2 w k=>by
 have gen:fEqG d e Qd -> rAny rEq (rEqD K false) x y H Q:=fun ⟨p1,p2,p3,p4,p5,w⟩=>.inr ⟨d,e,h1.is R.sub p1,h2.is R.sub p2,p3,p4,p5,k _ H F (.fz _) (Sub.refl _) R (Da.bl _) w⟩
 unfold fEq at w
 split at w
 ·rename_i i j
  cases h1.int
  cases h2.int
  refine .inl ⟨rfl,k _ H F (.fz _) (Sub.refl _) R (Da.bl _) ?_⟩
  have e:decide (V.int i = V.int j) = decide (i = j):=by rw [dec_int,Bool.beq_eq_decide_eq]
  rw [e]; exact w
 ·exact gen w
 ·exact gen w
 ·rename_i i j
  cases h1.str
  cases h2.str
  refine .inl ⟨rfl,k _ H F (.fz _) (Sub.refl _) R (Da.bl _) ?_⟩
  have e:decide (V.str i = V.str j) = decide (i = j):=by rw [dec_str,Bool.beq_eq_decide_eq]
  rw [e]; exact w
 ·exact gen w
theorem ok_ne {K:Fg}:OpOk K (r2L (rAny rNe (rEqD K true))) (o2 fNe):=ok2 fun G F σ H ρ x y d e Q Qd R h1 h2 w k=>by
 have gen:fNeG d e Qd -> rAny rNe (rEqD K true) x y H Q:=fun ⟨p1,p2,p3,p4,p5,w⟩=>.inr ⟨d,e,h1.is R.sub p1,h2.is R.sub p2,p3,p4,p5,k _ H F (.fz _) (Sub.refl _) R (Da.bl _) w⟩
 unfold fNe at w
 split at w
 ·rename_i i j
  cases h1.int
  cases h2.int
  refine .inl ⟨rfl,k _ H F (.fz _) (Sub.refl _) R (Da.bl _) ?_⟩
  have e:decide (V.int i = V.int j) = decide (i = j):=by rw [dec_int,Bool.beq_eq_decide_eq]
  rw [e]; exact w
 ·exact gen w
 ·exact gen w
 ·rename_i i j
  cases h1.str
  cases h2.str
  refine .inl ⟨rfl,k _ H F (.fz _) (Sub.refl _) R (Da.bl _) ?_⟩
  have e:decide (V.str i = V.str j) = decide (i = j):=by rw [dec_str,Bool.beq_eq_decide_eq]
  rw [e]; exact w
 ·exact gen w
theorem op_eqE {X:Cx} {K:Fg} (hK:X.K = K) (hu:X.A.units + 64 < cLine):OpR X (compareOp .Eq) (rAny rEq (rEqD K false)):=op_eq.or (op_eqDK hK hu)
theorem op_neE {X:Cx} {K:Fg} (hK:X.K = K) (hu:X.A.units + 64 < cLine):OpR X (compareOp .NotEq) (rAny rNe (rEqD K true)):=op_ne.or (op_neDK hK hu)
section
variable {P:Program} {w:World} {K:Fg} {mg:Str -> Option Value} {base:Heap}
theorem dfn {x qual:Str} {st:Stmt} {f:Addr} {fd:FuncData} {N ps:List Str} {k:Nat} {con:Con} {ts:TDS} (F:Fun K x qual st f fd) (S:FnScope N ps (defScope st))
  (hb:∀ (cdv:Value) (A:Around) (outer:List Env) (s:Shared) (H:Hp) (E:XK),Room k (A.deeper (envOfC qual (defScope st) s.heap.objs.size f cdv)) -> PSs (cxOf CX0 P w K mg base N qual (defScope st) f cdv A outer s H E).nox (defBody st) (liftS K ts))
  (hl:∀ args Qd,con args Qd -> args.length = ps.length) (hc:∀ args Qd,con args Qd -> (∀ s ∈ args,∀ d,s ≠ .ow d) /\ ts (endsOf args Qd) (startE N.length args)):FnOk P w K mg base CX0 (k + 1) f fd ps (conSp K con):=by
 refine F.ok S (fun vs H Q E h=>?_) (fun cdv A outer s H vs Q E hr h=>⟨_,hb cdv A outer s H E hr,l_def hc h⟩)
 obtain ⟨G,F',args,Qd,R,w',_⟩:=h
 have h1:=hl args Qd w'
 have h2:=R.len
 rw [List.length_map,List.length_map] at h2
 rw [h2,h1]
end
end L3
namespace L3
noncomputable def noOw:List Sl -> Bool
 | []=>true
 | .ow _ :: _=>false
 | _ :: as=>noOw as
theorem noOw_of:∀ {as:List Sl},noOw as = true -> ∀ s ∈ as,∀ d,s ≠ .ow d
 | .fz _ :: as,h,s,hs,d,z=>by
  rcases List.mem_cons.mp hs with e | e
  ·subst e; cases z
  ·exact noOw_of (as:=as) h s e d z
 | .io _ :: as,h,s,hs,d,z=>by
  rcases List.mem_cons.mp hs with e | e
  ·subst e; cases z
  ·exact noOw_of (as:=as) h s e d z
end L3
namespace L3
open PySem PySem.Spec PyProof.Rows L2
theorem DaAll.intsV {K:Fg} {F:Hp}:∀ {xs:List V} {ns:List Int},DaAll K F xs (ns.map PyData.int) -> xs = ns.map V.int
 | [],[],_=>rfl
 | x :: xs,b :: bs,.cons h t=>by cases h; simp [DaAll.intsV t]
end L3
namespace L3
open PySem PySem.Spec PyProof.Rows L2
noncomputable def RngB (i j:Int):Prop:=-(2 ^ 62) <= i /\ i < 2 ^ 62 /\ -(2 ^ 62) <= j /\ j < 2 ^ 62
noncomputable def rRng:List V -> Hp -> VK -> Prop:=fun xs H Q=>∃ i j:Int,(xs = [.int i,.int j] \/ (xs = [.int j] /\ i = 0)) /\ ∀ p,H p = none -> Q (.ref p) (upd H p (.rng i j))
theorem call_rng {X:Cx}:CallR X (.type "range") rRng:=by
 intro pins s σ H xs us Q I r h
 obtain ⟨i,j,hx,q⟩:=h
 have lay:∀ (t u v:Tok) (tk:Nat),EP X pins σ Q (.ref s.heap.objs.size) { s with heap:=s.heap.push { cls:=.type "range",data:=.fields #[.int i t,.int j u,.int 1 v] },toks:=tk }:=fun t u v tk =>
  ⟨.ref s.heap.objs.size,_,I.laid (t':=tk) (o:=.rng i j) (fun b o e=>Heap.get?_push_of_some _ e) (Nat.le_refl _) ⟨t,u,v,Heap.get?_push_size _ rfl⟩,rfl,q _ (I.hok.fresh (Nat.le_refl _))⟩
 rcases hx with rfl | ⟨rfl,rfl⟩
 ·obtain ⟨u,w,rfl,ru,rw'⟩:=vals2 r
  obtain ⟨t,rfl⟩:=ru
  obtain ⟨t',rfl⟩:=rw'
  exact call_range_2 (lay _ _ _ _)
 ·obtain ⟨u,rfl,ru⟩:=vals1 r
  obtain ⟨t,rfl⟩:=ru
  exact call_range_1 (lay _ _ _ _)
noncomputable def rLstRng:List V -> Hp -> VK -> Prop:=fun xs H Q=>∃ (p:Addr) (i j:Int),xs = [.ref p] /\ H p = some (.rng i j) /\ RngB i j /\ (j - i).toNat <= 2 ^ 24 /\ ∀ l,H l = none -> Q (.ref l) (upd H l (.lst ((List.range (j - i).toNat).map fun (n:Nat)=>V.int (i + n))))
theorem call_lstRng {X:Cx} (hc:X.calm = true):CallR X (.type "list") rLstRng:=by
 intro pins s σ H xs us Q I r h
 obtain ⟨p,i,j,rfl,hp,⟨b1,b2,b3,b4⟩,hz,q⟩:=h
 obtain ⟨u,rfl,ru⟩:=vals1 r
 cases ru
 obtain ⟨t,u,v,e⟩:=I.hok p _ hp
 have hn:Builtin.Range.rangeSize i j 1 = ((j - i).toNat:Int):=by rw [rangeSize_one]; split <;> omega
 refine call_list_range (I.ok.hd hc) e (small_one b1 b2 b3 b4) hn hz fun h' tk acc' c' hk hS hacc=>?_
 refine ⟨.ref s.heap.objs.size,_,I.laid (t':=tk) (o:=.lst ((List.range (j - i).toNat).map fun (n:Nat)=>V.int (i + n))) hk (Nat.le_refl _) ?_,rfl,q _ (I.hok.fresh (Nat.le_refl _))⟩
 refine ⟨by rw [List.length_map,List.length_range]; exact hz,acc'.toList,c',?_,by simpa using hS⟩
 have gen:∀ (n:Nat) (ys:List Value),ys.length = n -> (∀ (k:Nat) (y:Value),ys[k]? = some y -> ∃ t,y = .int (i + k * 1) t) -> Vals ((List.range n).map fun (n:Nat)=>V.int (i + n)) ys:=by
  intro n
  induction n with
  | zero=>intro ys hl _; cases ys with | nil=>exact .nil | cons=>simp at hl
  | succ n ih =>
   intro ys hl hy
   rcases List.eq_nil_or_concat ys with rfl | ⟨zs,z,rfl⟩
   ·simp at hl
   ·rw [List.concat_eq_append] at hl hy ⊢
    have hl':zs.length = n:=by simpa using hl
    rw [List.range_succ,List.map_append]
    refine Vals.append (ih zs hl' fun k y e=>hy k y (by rw [List.getElem?_append_left (lt_of_get e)]; exact e)) ?_
    obtain ⟨t,rfl⟩:=hy n z (by rw [<- hl']; simp)
    exact .cons ⟨t,by simp⟩ .nil
 refine gen _ _ (by rw [Array.length_toList]; exact hacc.1) fun k y e=>?_
 exact hacc.2 k y (by simpa using e)
section
variable {X:Cx} {K:Fg} {e:Expr} {a b:AD}
end
end L3
namespace L3
open PySem PySem.Spec PyProof.Rows L2
noncomputable def clean1 (ρ:Ev) (i:Nat):Ev:=match ρ[i]? with
 | some (some (.io _))=>ρ
 | some _=>ρ.set i none
 | none=>ρ
noncomputable def clean (ks:List Nat) (ρ:Ev):Ev:=match ks with
 | []=>ρ
 | i :: r=>clean r (clean1 ρ i)
section
variable {K:Fg} {G:Gh} {F H:Hp} {σ:L2.St} {ρ:Ev}
theorem Rel.drop (R:Rel K G F σ H ρ) {i:Nat} (hn:∀ d,ρ[i]? ≠ some (some (Sl.io d))):Rel K G F σ H (ρ.set i none):=by
 refine ⟨by rw [List.length_set]; exact R.len,R.sub,R.sub0,R.fn,R.keep,fun j d e=>?_,fun j t e wt=>?_,fun j d b e eb=>?_,fun j b e=>?_,fun j d e=>?_,fun j k t u b e1 w1 e2 w2 e3 e4=>?_⟩
 ·rcases get_set e with ⟨rfl,z⟩ | ⟨n,z⟩
  ·cases z
  ·exact R.fz j d z
 ·rcases get_set e with ⟨rfl,z⟩ | ⟨n,z⟩
  ·cases z
  ·exact R.ow j t z wt
 ·rcases get_set e with ⟨rfl,z⟩ | ⟨n,z⟩
  ·cases z
  ·exact R.new j d b z eb
 ·obtain ⟨d',e1,e2⟩:=R.io j b e
  have n:i ≠ j:=fun z=>by subst z; exact hn _ e1
  exact ⟨d',by rw [List.getElem?_set_ne n]; exact e1,e2⟩
 ·rcases get_set e with ⟨rfl,z⟩ | ⟨n,z⟩
  ·cases z
  ·exact R.ioi j d z
 ·rcases get_set e1 with ⟨rfl,z⟩ | ⟨n,z⟩
  ·cases z
  ·rcases get_set e2 with ⟨rfl,z'⟩ | ⟨n',z'⟩
   ·cases z'
   ·exact R.ap j k t u b z w1 z' w2 e3 e4
theorem Rel.clean1 (R:Rel K G F σ H ρ) (i:Nat):Rel K G F σ H (clean1 ρ i):=by
 unfold L3.clean1
 split
 ·exact R
 ·rename_i e1 e2
  exact R.drop fun d z=>by rw [e2] at z; cases z; exact e1 _ rfl
 ·exact R
theorem Rel.clean (ks:List Nat):∀ {ρ:Ev},Rel K G F σ H ρ -> Rel K G F σ H (clean ks ρ):=by
 induction ks with
 | nil=>intro ρ R; exact R
 | cons i r ih=>intro ρ R; exact ih (R.clean1 i)
end
noncomputable def dLoopC (ks:List Nat) (g:TDG) (tb:TDS) (E:DE):List D -> Ev -> Prop
 | [],ρ=>E.nx ρ
 | d :: ds,ρ=>g d ρ fun ρ'=>tb { nx:=fun ρ2=>dLoopC ks g tb E ds (clean ks ρ2),rt:=E.rt,bk:=fun ρ2=>E.nx (clean ks ρ2),ct:=fun ρ2=>dLoopC ks g tb E ds (clean ks ρ2) } ρ'
noncomputable def dForC (ks:List Nat) (ti:TDI) (g:TDG) (tb:TDS):TDS:=fun E ρ=>ti ρ fun ds ρ'=>dLoopC ks g tb E ds (clean ks ρ')
theorem l_forC {K:Fg} {ks:List Nat} {ti:TDI} {g:TDG} {tb:TDS} {E:Ends} {σ:L2.St} {H:Hp} (h:liftS K (dForC ks ti g tb) E σ H):tFor (liftI K ti) (liftG K g) (liftS K tb) E σ H:=by
 obtain ⟨G,F,ρ,D,R,w,n,r,b,c⟩:=h
 refine ⟨G,F,ρ,_,R,w,fun J H1 F1 ds ρ1 s1 R1 wk w1=>?_⟩
 refine ⟨fun i m σ H=>m = ds.length - i /\ i <= ds.length /\ ∃ F' ρ',Sub F1 F' /\ Rel K G F' σ H ρ' /\ dLoopC ks g tb D (ds.drop i) ρ',⟨ds.length,rfl,Nat.zero_le _,F1,_,Sub.refl _,R1.clean ks,w1⟩,?_⟩
 rintro i m σ H ⟨rfl,hi,F',ρ',s',R',w'⟩
 obtain ⟨hgo,hst⟩:=wk i H F' s' R'.sub
 cases e:ds[i]? with
 | none =>
  have hl:ds.length <= i:=List.getElem?_eq_none_iff.mp e
  refine .inl ⟨hst (by omega),?_⟩
  rw [List.drop_of_length_le hl] at w'
  exact n σ H F' ρ' (s1.trans s') R' w'
 | some d =>
  obtain ⟨go,yl⟩:=hgo d e
  have hl:=lt_of_get e
  rw [drop_get e] at w'
  refine .inr ⟨go,fun σ2 H2=>∃ F2 ρ2,Sub F1 F2 /\ Rel K G F2 σ2 H2 ρ2 /\ dLoopC ks g tb D (ds.drop (i + 1)) ρ2,fun σ2 H2 ⟨F2,ρ2,z1,z2,z3⟩=>⟨ds.length - (i + 1),by omega,rfl,hl,F2,ρ2,z1,z2,z3⟩,fun x H2 y=>?_⟩
  obtain ⟨F2,t1,t2,t3,t4,t5⟩:=yl x H2 y
  have R2:=R'.turn t1 t2 t3 t4
  refine ⟨G,F2,ρ',d,_,R2,t5,w',fun σ3 ρ3 R3 w3=>?_⟩
  refine ⟨G,F2,ρ3,_,R3,w3,fun σ4 H4 F4 ρ4 s4 R4 q=>?_,fun v σ4 H4 F4 x4 ρ4 s4 R4 r4 q=>?_,fun σ4 H4 F4 ρ4 s4 R4 q=>?_,fun σ4 H4 F4 ρ4 s4 R4 q=>?_⟩
  ·exact ⟨F4,_,s'.trans (t1.trans s4),R4.clean ks,q⟩
  ·exact r v σ4 H4 F4 x4 ρ4 (s1.trans (s'.trans (t1.trans s4))) R4 r4 q
  ·exact n σ4 H4 F4 _ (s1.trans (s'.trans (t1.trans s4))) (R4.clean ks) q
  ·exact ⟨F4,_,s'.trans (t1.trans s4),R4.clean ks,q⟩
theorem cs_forC {X:Cx} {K:Fg} {st:Stmt} {t:TDS} (ks:List Nat) {ti:TDI} {g:TDG} (h:PS X st (tFor (liftI K ti) (liftG K g) (liftS K t))):PS X st (liftS K (dForC ks ti g t)):=psM h l_forC
theorem loopC {ks:List Nat} {g:TDG} {tb:TDS} {E:DE} (J:List D -> Ev -> Prop)
  (hs:∀ d ds ρ,J (d :: ds) ρ -> ∀ N:Ev -> Prop,(∀ ρ2,J ds ρ2 -> N ρ2) -> g d ρ fun ρ'=>tb { nx:=fun ρ2=>N (clean ks ρ2),rt:=E.rt,bk:=fun ρ2=>E.nx (clean ks ρ2),ct:=fun ρ2=>N (clean ks ρ2) } ρ')
  (hd:∀ ρ,J [] ρ -> E.nx ρ):∀ {ds:List D} {ρ:Ev},J ds ρ -> dLoopC ks g tb E ds ρ
 | [],ρ,h=>hd ρ h
 | d :: ds,ρ,h=>hs d ds ρ h _ fun ρ2 h2=>loopC J hs hd h2
noncomputable def dCompLC (n:Nat) (g:TDG) (tc:TTD) (te:TD):List D -> List D -> Ev -> (List D -> Ev -> Prop) -> Prop
 | [],acc,τ,Q=>Q acc τ
 | d :: ds,acc,τ,Q=>g d τ fun τ1=>tc τ1 fun b τ2=>if b = true then te τ2 fun r τ3=>dCompLC n g tc te ds (acc ++ [r.d]) (clean (List.range n) τ3) Q else dCompLC n g tc te ds acc (clean (List.range n) τ2) Q
noncomputable def dCompC (ti:TDI) (own:List Str) (fr:List Nat) (g:TDG) (tc:TTD) (te:TD):TD:=fun ρ Q=>ti ρ fun ds ρ1=>ds.length <= sizeLine /\ dCompLC own.length g tc te ds [] (innerE own fr ρ1) fun ys τ=>Q (.ow (.list ys)) (wbGo fr (τ.drop own.length) 0 ρ1)
theorem l_compC {K:Fg} {ti:TDI} {own:List Str} {fr:List Nat} {g:TDG} {tc:TTD} {te:TD} (nd:fr.Nodup) {σ:L2.St} {H:Hp} {Q:VK} (h:lift K (dCompC ti own fr g tc te) σ H Q):tCompW (liftI K ti) own fr (liftG K g) (liftT K tc) (lift K te) σ H Q:=by
 obtain ⟨G,F,ρ,Qd,R,w,k⟩:=h
 refine ⟨G,F,ρ,_,R,w,fun J H1 F1 ds ρ1 s1 R1 wk ⟨hz,w1⟩=>?_⟩
 have Ri:=R1.inner (own:=own) nd
 refine ⟨fun i m ys τ H=>m = ds.length - i /\ i <= ds.length /\ ∃ F' ρ' acc,Rel K (ghC own fr F1 H1 σ ρ1) F' τ H ρ' /\ DaAll K F' ys acc /\ acc.length <= i /\ dCompLC own.length g tc te (ds.drop i) acc ρ' (fun ys τ=>Qd (.ow (.list ys)) (wbGo fr (τ.drop own.length) 0 ρ1)),
   ⟨ds.length,rfl,Nat.zero_le _,F1,_,[],Ri,.nil,Nat.zero_le _,w1⟩,?_⟩
 rintro i m ys τ H' ⟨rfl,hi,F',ρ',acc,R',da,hl,w'⟩
 obtain ⟨hgo,hst⟩:=wk i H' F' R'.sub0 R'.sub
 cases e:ds[i]? with
 | none =>
  have hl':ds.length <= i:=List.getElem?_eq_none_iff.mp e
  refine .inl ⟨hst (by omega),fun Dd hD=>?_⟩
  rw [List.drop_of_length_le hl'] at w'
  have Ro:=R1.outer R' nd
  obtain ⟨Rn,rn⟩:=Ro.newOw (o:=.lst ys) (d:=.list acc) hD da
  exact k _ _ F' _ _ (s1.trans R'.sub0) Rn rn w'
 | some d =>
  obtain ⟨go,yl⟩:=hgo d e
  have hlt:=lt_of_get e
  rw [drop_get e] at w'
  refine .inr ⟨go,by rw [da.length]; omega,fun ys2 τ2 H2=>∃ F2 ρ2 acc2,Rel K (ghC own fr F1 H1 σ ρ1) F2 τ2 H2 ρ2 /\ DaAll K F2 ys2 acc2 /\ acc2.length <= i + 1 /\ dCompLC own.length g tc te (ds.drop (i + 1)) acc2 ρ2 (fun ys τ=>Qd (.ow (.list ys)) (wbGo fr (τ.drop own.length) 0 ρ1)),
    fun ys2 τ2 H2 ⟨F2,ρ2,acc2,z1,z2,z3,z4⟩=>⟨ds.length - (i + 1),by omega,rfl,hlt,F2,ρ2,acc2,z1,z2,z3,z4⟩,fun x H2 y=>?_⟩
  obtain ⟨F2,t1,t2,t3,t4,t5⟩:=yl x H2 y
  have R2:=R'.turn t1 t2 t3 t4
  refine ⟨_,F2,ρ',d,_,R2,t5,w',fun τ3 ρ3 R3 w3=>?_⟩
  refine ⟨_,F2,ρ3,_,R3,w3,fun b H4 F4 ρ4 s4 R4 w4=>?_⟩
  cases b with
  | false=>exact ⟨F4,_,acc,R4.clean _,da.mono (t1.trans s4),by omega,w4⟩
  | true =>
   refine ⟨_,F4,ρ4,_,R4,w4,fun v H5 F5 r ρ5 s5 R5 r5 w5=>?_⟩
   obtain ⟨F6,s6,R6,d6⟩:=r5.frz R5
   exact ⟨F6,_,acc ++ [r.d],R6.clean _,(da.mono (t1.trans (s4.trans (s5.trans s6)))).append (.cons d6 .nil),by simp; omega,w5⟩
section
variable {X:Cx} {K:Fg} {e:Expr} {st:Stmt} {ti:TDI} {own:List Str} {fr:List Nat} {g:TDG} {tc:TTD} {te:TD}
theorem cv_compC (nd:fr.Nodup) (h:PE X e (tCompW (liftI K ti) own fr (liftG K g) (liftT K tc) (lift K te))):PE X e (lift K (dCompC ti own fr g tc te)):=peM h (l_compC nd)
theorem cs_setCC {i:Nat} (nd:fr.Nodup) (h:PS X st (tAsg (tCompW (liftI K ti) own fr (liftG K g) (liftT K tc) (lift K te)) (gName i))):PS X st (liftS K (dSet i (dCompC ti own fr g tc te))):=psM h fun q=>l_compC nd (l_set q)
end
theorem compC {n:Nat} {g:TDG} {tc:TTD} {te:TD} {Q:List D -> Ev -> Prop} (J:List D -> List D -> Ev -> Prop)
  (hs:∀ d ds acc τ,J (d :: ds) acc τ -> ∀ N:List D -> Ev -> Prop,(∀ acc2 τ2,J ds acc2 τ2 -> N acc2 τ2) -> g d τ fun τ1=>tc τ1 fun b τ2=>if b = true then te τ2 fun r τ3=>N (acc ++ [r.d]) (clean (List.range n) τ3) else N acc (clean (List.range n) τ2))
  (hd:∀ acc τ,J [] acc τ -> Q acc τ):∀ {ds acc:List D} {τ:Ev},J ds acc τ -> dCompLC n g tc te ds acc τ Q
 | [],acc,τ,h=>hd acc τ h
 | d :: ds,acc,τ,h=>hs d ds acc τ h _ fun acc2 τ2 h2=>compC J hs hd h2
theorem compN {n:Nat} {g:TDG} {te:TD} {Q:List D -> Ev -> Prop} (J:List D -> List D -> Ev -> Prop)
  (hs:∀ d ds acc τ,J (d :: ds) acc τ -> ∀ N:List D -> Ev -> Prop,(∀ acc2 τ2,J ds acc2 τ2 -> N acc2 τ2) -> g d τ fun τ1=>te τ1 fun r τ3=>N (acc ++ [r.d]) (clean (List.range n) τ3))
  (hd:∀ acc τ,J [] acc τ -> Q acc τ) {ds acc:List D} {τ:Ev} (h:J ds acc τ):dCompLC n g dYes te ds acc τ Q :=
 compC J (fun d ds acc τ h N hN=>by
   have q:=hs d ds acc τ h N hN
   have e:(fun τ1=>te τ1 fun r τ3=>N (acc ++ [r.d]) (clean (List.range n) τ3)) = fun τ1=>dYes τ1 fun b τ2=>if b = true then te τ2 (fun r τ3=>N (acc ++ [r.d]) (clean (List.range n) τ3)) else N acc (clean (List.range n) τ2):=by
     funext τ1
     show _ = (if true = true then te τ1 (fun r τ3=>N (acc ++ [r.d]) (clean (List.range n) τ3)) else N acc (clean (List.range n) τ1))
     rw [if_pos rfl]
   rw [<- e]
   exact q) hd h
theorem mapC {n:Nat} {g:TDG} {te:TD} {Q:List D -> Ev -> Prop} (f:D -> D) {τ:Ev} {ds:List D}
  (hs:∀ d ∈ ds,∀ N:D -> Ev -> Prop,N (f d) τ -> g d τ fun τ1=>te τ1 fun r τ3=>N r.d (clean (List.range n) τ3))
  (hd:Q (ds.map f) τ):dCompLC n g dYes te ds [] τ Q:=by
 refine compN (fun rest acc τ'=>τ' = τ /\ ∃ pre,ds = pre ++ rest /\ acc = pre.map f) ?_ ?_ ⟨rfl,[],rfl,rfl⟩
 ·rintro d ds' acc τ' ⟨rfl,pre,e,rfl⟩ N hN
  exact hs d (by rw [e]; simp) (fun x τ3=>N (pre.map f ++ [x]) τ3) (hN _ _ ⟨rfl,pre ++ [d],by rw [e]; simp,by simp⟩)
 ·rintro acc τ' ⟨rfl,pre,e,rfl⟩
  rw [List.append_nil] at e
  subst e
  exact hd
theorem filC {n:Nat} {g:TDG} {tc:TTD} {te:TD} {Q:List D -> Ev -> Prop} (p:D -> Bool) (f:D -> D) {τ:Ev} {ds:List D}
  (hs:∀ d ∈ ds,∀ (N:D -> Ev -> Prop) (M:Ev -> Prop),(p d = true -> N (f d) τ) -> (p d = false -> M τ) -> g d τ fun τ1=>tc τ1 fun b τ2=>if b = true then te τ2 fun r τ3=>N r.d (clean (List.range n) τ3) else M (clean (List.range n) τ2))
  (hd:Q ((ds.filter p).map f) τ):dCompLC n g tc te ds [] τ Q:=by
 refine compC (fun rest acc τ'=>τ' = τ /\ ∃ pre,ds = pre ++ rest /\ acc = (pre.filter p).map f) ?_ ?_ ⟨rfl,[],rfl,rfl⟩
 ·rintro d ds' acc τ' ⟨rfl,pre,e,rfl⟩ N hN
  exact hs d (by rw [e]; simp) (fun x τ3=>N ((pre.filter p).map f ++ [x]) τ3) (fun τ3=>N ((pre.filter p).map f) τ3) (fun hp=>hN _ _ ⟨rfl,pre ++ [d],by rw [e]; simp,by simp [hp]⟩)
   (fun hp=>hN _ _ ⟨rfl,pre ++ [d],by rw [e]; simp,by simp [hp]⟩)
 ·rintro acc τ' ⟨rfl,pre,e,rfl⟩
  rw [List.append_nil] at e
  subst e
  exact hd
end L3
namespace L3
open PySem PySem.Spec PyProof.Rows L2
noncomputable def rRepr (K:Fg):List V -> Hp -> VK -> Prop:=fun xs H Q=>∃ (x:V) (d:PyData),xs = [x] /\ Is K H x d /\ d.showable = true /\ d.hasDict = false /\ d.depth + 1 <= 64 /\ d.shown.length <= sizeLine /\ Q (.str d.shown) H
theorem call_reprK {X:Cx} {K:Fg} {k:Nat} (hK:X.K = K) (hr:Room k X.A):CallR X (.builtin "repr") (rRepr K):=by
 subst hK
 intro pins s σ H xs us Q I r h
 obtain ⟨x,d,rfl,hd,hs,hn,hz,hl,q⟩:=h
 obtain ⟨u,rfl,ru⟩:=vals1 r
 obtain ⟨as,ra⟩:=hd.reads I ru
 have hu:=hr.units
 cases hd with
 | non=>cases ru; exact PySem.P.repr_of_none ⟨.str _,H,I.tok _,⟨_,rfl⟩,q⟩
 | bl b=>cases ru; exact PySem.P.repr_of_bool ⟨.str _,H,I.tok _,⟨_,rfl⟩,by cases b <;> exact q⟩
 | int i =>
  obtain ⟨t,rfl⟩:=ru
  exact PySem.P.repr_of_int (by simpa [PyData.showable] using hs) ⟨.str _,H,I.tok _,⟨_,rfl⟩,q⟩
 | str x =>
  obtain ⟨t,rfl⟩:=ru
  exact PySem.P.repr_of_str ⟨.str _,H,I.tok _,⟨_,rfl⟩,q⟩ hl
 | lst _ _ =>
  cases ru
  exact repr_of_reads' ra hs (fun z=>by rw [hn] at z; cases z) hr.gd (by omega) (fun _ _ e=>e) (fun h' u tk hk=>⟨.str _,H,I.kept hk,⟨u,rfl⟩,q⟩) hl
 | tup _ _ =>
  cases ru
  exact repr_of_reads' ra hs (fun z=>by rw [hn] at z; cases z) hr.gd (by omega) (fun _ _ e=>e) (fun h' u tk hk=>⟨.str _,H,I.kept hk,⟨u,rfl⟩,q⟩) hl
noncomputable def fRepr (d:D) (Q:Sl -> Prop):Prop:=plainD d = true /\ d.showable = true /\ d.depth + 1 <= 64 /\ d.shown.length <= sizeLine /\ Q (.fz (.str d.shown))
mutual
theorem plain_noDict:∀ {d:D},plainD d = true -> d.hasDict = false
 | .none,_=>rfl
 | .bool _,_=>rfl
 | .int _,_=>rfl
 | .str _,_=>rfl
 | .list xs,h=>by
  have:=plainAll_noDict (xs:=xs) (by simpa [plainD] using h)
  simpa [PyData.hasDict] using this
 | .tuple xs,h=>by
  have:=plainAll_noDict (xs:=xs) (by simpa [plainD] using h)
  simpa [PyData.hasDict] using this
 | .dict _,h=>by simp [plainD] at h
theorem plainAll_noDict:∀ {xs:List D},plainAll xs = true -> PyData.hasDictAll xs = false
 | [],_=>rfl
 | x :: xs,h=>by
  simp [plainAll] at h
  simp [PyData.hasDictAll,plain_noDict h.1,plainAll_noDict h.2]
end
theorem ok_repr {K:Fg}:OpOk K (rRepr K) (o1 fRepr):=ok1 fun G F σ H ρ x d Q Qd R h1 w k=>by
 obtain ⟨p1,p2,p3,p4,w⟩:=w
 exact ⟨x,d,rfl,h1.is R.sub p1,p2,plain_noDict p1,p3,p4,k _ H F (.fz _) (Sub.refl _) R (Da.str _) w⟩
end L3
namespace L3
open PySem PySem.Spec PyProof.Rows L2
structure WE (X:Cx) (e:Expr) (t:TE):Prop where
 h:PE X e t
structure WA (X:Cx) (es:List Expr) (t:TA):Prop where
 h:PA X es t
structure WT (X:Cx) (e:Expr) (t:TT):Prop where
 h:PT X e t
structure WW (X:Cx) (e:Expr) (t:TT):Prop where
 h:PW X e t
structure WS (X:Cx) (s:Stmt) (t:TS):Prop where
 h:PS X s t
structure WSs (X:Cx) (s:List Stmt) (t:TS):Prop where
 h:PSs X s t
structure WG (X:Cx) (e:Expr) (t:TG):Prop where
 h:PG X e t
structure WGs (X:Cx) (es:List Expr) (t:TGs):Prop where
 h:PGs X es t
structure WI (X:Cx) (g e:Expr) (t:TI):Prop where
 h:PI X g e t
structure WIf (X:Cx) (es:List Expr) (t:TT):Prop where
 h:PIf X es t
section
variable {X:Cx} {K:Fg} {e e1 e2 e3:Expr} {es:List Expr} {a b c:AD} {as:List AD} {td te tf:TD} {tc tc':TTD} {st:Stmt} {sts:List Stmt} {t u:TDS} {p pos pos' p2 apos cpos tpos:Pos} {x:Str} {tg:Expr}
theorem wn (i:Nat) (hN:X.N[i]? = some x:=by rfl) (hv:Vis X.env.scope x:=by first | exact Or.inl rfl | exact Or.inr (Or.inl rfl) | exact Or.inr (Or.inr rfl)) (hd:(x == ("__debug__":Str)) = false:=by decide)
  (hcd:(x == ("__classdict__":Str)) = false:=by decide):WE X (.Name x pos) (argT K (.inl i)):=⟨pe_var hN hv hd hcd⟩
theorem wv (i:Nat) (hN:X.N[i]? = some x:=by rfl) (hv:Vis X.env.scope x:=by first | exact Or.inl rfl | exact Or.inr (Or.inl rfl) | exact Or.inr (Or.inr rfl)) (hd:(x == ("__debug__":Str)) = false:=by decide)
  (hcd:(x == ("__classdict__":Str)) = false:=by decide):WE X (.Name x pos) (lift K (dVar i)):=⟨cv_var (pe_var hN hv hd hcd)⟩
theorem wx (h:WE X e (lift K td)):WE X e (argT K (.inr td)):=⟨h.h⟩
theorem wa_nil:WA X [] (tArgs (([]:List AD).map (argT K))):=⟨pa_nil⟩
theorem wa_cons (ha:WE X e (argT K a)) (hr:WA X es (tArgs (as.map (argT K)))) (hs:notStar e = true:=by rfl):WA X (e :: es) (tArgs ((a :: as).map (argT K))):=⟨da_cons ha.h hr.h (starEach_of hs)⟩
theorem w_int {i:Int} {k:Nat}:WE X (.Constant (.int i) k pos) (lift K (dC (.int i))):=⟨cv_c (fun _=>.int _) pe_int⟩
theorem w_bl {b:Bool} {k:Nat}:WE X (.Constant (.bool b) k pos) (lift K (dC (.bool b))):=⟨cv_c (fun _=>.bl _) pe_bl⟩
theorem w_non {k:Nat}:WE X (.Constant .none k pos) (lift K (dC .none)):=⟨cv_c (fun _=>.non) pe_non⟩
theorem w_bin {op:Operator} {r:R2} {f:D -> D -> (Sl -> Prop) -> Prop} (ok:OpOk K (r2L r) (o2 f)) (ho:OpR X (binaryOp op) r) (ha:WE X e1 (argT K a)) (hb:WE X e2 (argT K b)):WE X (.BinOp e1 op e2 pos) (lift K (dOp [a,b] (o2 f))):=⟨cv2 ok (pe_op ho ha.h hb.h)⟩
theorem w_neg (ha:WE X e1 (argT K a)):WE X (.UnaryOp .USub e1 pos) (lift K (dOp [a] (o1 fNeg))):=⟨cvu ok_neg (pe_un un_neg ha.h)⟩
theorem w_cmp {op:CmpOp} {r:R2} {f:D -> D -> (Sl -> Prop) -> Prop} (ok:OpOk K (r2L r) (o2 f)) (ho:OpR X (compareOp op) r) (ha:WE X e1 (argT K a)) (hb:WE X e2 (argT K b)) (hm:op ≠ .In:=by decide) (hm2:op ≠ .NotIn:=by decide):WE X (.Compare e1 [op] [e2] pos) (lift K (dOp [a,b] (o2 f))):=⟨cv2 ok (pe_cmpR ho ha.h hb.h (nomark _ hm hm2))⟩
theorem w_one {op:BoolOp} {tr:TE} (h:WE X e tr):WE X (.BoolOp op [e] pos) tr:=⟨pe_one h.h⟩
theorem w_and {rest:List Expr} (ha:WE X e1 (lift K td)) (hb:WE X (.BoolOp .And (e2 :: rest) pos) (lift K te)):WE X (.BoolOp .And (e1 :: e2 :: rest) pos) (lift K (dAndV td te)):=⟨cv_and (pe_and ha.h hb.h)⟩
theorem w_ifE (hc:WT X e1 (liftT K tc)) (ha:WE X e2 (lift K td)) (hb:WE X e3 (lift K te)):WE X (.IfExp e1 e2 e3 pos) (lift K (dIf tc td te)):=⟨cv_if (pe_ifExp hc.h ha.h hb.h)⟩
theorem w_fn {k:Nat} {ps:List Str} {con:Con} (C:Cal X.prog X.w X.K X.mg X.base k x ps (conSp K con)) (hr:Room k X.A) (ha:WA X (e :: es) (tArgs (as.map (argT K)))) (hg:Gl X x:=by rfl) (hdb:(x == ("__debug__":Str)) = false:=by decide)
  (he:notStar e = true:=by rfl) (hpl:es.all notStar = true:=by rfl):WE X (.Call (.Name x p) (e :: es) [] pos) (lift K (dCall con as)):=⟨cv_fn (pe_fn C hr ha.h hg hdb (starEach_of he) (plain_of hpl))⟩
theorem w_fnI {k i:Nat} {ps:List Str} {con:Con} (C:Cal X.prog X.w X.K X.mg X.base k x ps (conSp K con)) (hr:Room k X.A) (ha:WA X (e :: es) (tArgs ((Sum.inl i :: as).map (argT K)))) (hg:Gl X x:=by rfl) (hdb:(x == ("__debug__":Str)) = false:=by decide)
  (he:notStar e = true:=by rfl) (hpl:es.all notStar = true:=by rfl):WE X (.Call (.Name x p) (e :: es) [] pos) (lift K (dCallI con i as)):=⟨cv_fnI (pe_fn C hr ha.h hg hdb (starEach_of he) (plain_of hpl))⟩
theorem w_callB {id:String} {r:List V -> Hp -> VK -> Prop} {f:List D -> (Sl -> Prop) -> Prop} (ok:OpOk K r f) (hc:CallR X (.builtin id) r) (hm:X.mg x = none) (hv:bootBuiltins x = some (.builtin id)) (ha:WA X (e :: es) (tArgs (as.map (argT K)))) (hg:Gl X x:=by rfl) (hn:x ≠ "__name__":=by decide) (hdb:(x == ("__debug__":Str)) = false:=by decide)
  (he:notStar e = true:=by rfl) (hpl:es.all notStar = true:=by rfl):WE X (.Call (.Name x p) (e :: es) [] pos) (lift K (dOp as f)):=⟨cvB ok (pe_callB hc hg hm hv ha.h hn hdb (starEach_of he) (plain_of hpl))⟩
theorem w_callT {T:String} {r:List V -> Hp -> VK -> Prop} {f:List D -> (Sl -> Prop) -> Prop} (ok:OpOk K r f) (hc:CallR X (.type T) r) (hm:X.mg x = none) (hv:bootBuiltins x = some (.type T)) (ha:WA X (e :: es) (tArgs (as.map (argT K)))) (hg:Gl X x:=by rfl) (hn:x ≠ "__name__":=by decide) (hdb:(x == ("__debug__":Str)) = false:=by decide)
  (he:notStar e = true:=by rfl) (hpl:es.all notStar = true:=by rfl):WE X (.Call (.Name x p) (e :: es) [] pos) (lift K (dOp as f)):=⟨cvB ok (pe_callTy hc hg hm hv ha.h hn hdb (starEach_of he) (plain_of hpl))⟩
theorem w_ix (hK:X.K = K) (ha:WE X e1 (argT K a)) (hb:WE X e2 (argT K b)) (hs:PlainIx e2:=by exact fun _ _=>rfl):WE X (.Subscript e1 e2 pos) (lift K (dOp [a,b] (o2 fIx))):=⟨cv2 ok_ix (pe_ix (ix_seqD hK) ha.h hb.h hs)⟩
theorem w_dget (hu:X.A.units + 1 < cLine) (ha:WE X e1 (argT K a)) (hb:WE X e2 (argT K b)) (hs:NoSl e2:=by exact fun _ _=>rfl):WE X (.Subscript e1 e2 pos) (lift K (dOp [a,b] (o2 fDGet))):=⟨cv2 ok_dget (pe_dget hu ha.h hb.h hs)⟩
theorem w_tup {k:Nat} (h:WA X es (tArgs (as.map (argT K)))) (hl:as.length <= 1000:=by decide):WE X (.Tuple es k pos) (lift K (dOpF as fTupD)):=⟨cv_tup hl (pe_tup h.h)⟩
theorem w_lst (h:WA X es (tArgs (as.map (argT K)))) (hl:as.length <= 1000:=by decide):WE X (.List es pos) (lift K (dOpF as fLstD)):=⟨cv_lst hl (pe_lst h.h)⟩
theorem w_comp {elt iter:Expr} {ifs:List Expr} {sc:Scope} {own:List Str} {fr:List Nat} {ti:TDI} {g:TDG} (hc:X.calm = true) (S:compOk X.env.scope X.N fr sc = true) (hi:WI X tg iter (liftI K ti)) (hg:∀ C s H ex,WG (cxComp X own fr sc C s H ex) tg (liftG K g))
  (hif:∀ C s H ex,WIf (cxComp X own fr sc C s H ex) ifs (liftT K tc)) (he:∀ C s H ex,WE (cxComp X own fr sc C s H ex) elt (lift K te)) (nd:fr.Nodup:=by decide) (hs:notSet iter = true:=by rfl):WE X (.ListComp elt [⟨tg,iter,ifs,0⟩] sc pos) (lift K (dCompC ti own fr g tc te)) :=
 ⟨cv_compC nd (pe_compW hc (compSc_of S) hi.h (fun C s H ex=>(hg C s H ex).h) (fun C s H ex=>(hif C s H ex).h) (fun C s H ex=>(he C s H ex).h) (folded_of hs))⟩
theorem w_m {name:Str} {id:String} {i:Nat} {r:V -> List V -> Hp -> VK -> Prop} {f:List D -> List D -> (D -> D -> Prop) -> Prop} (ok:MOk K r f) (hK:X.K = K) (slot:Slot "list" name id) (hty:typeOf (.builtin id) = pure (.type "method_descriptor")) (hm:MtR X id r) (ho:WE X (.Name x p) (argT K (.inl i))) (ha:WA X (e :: es) (tArgs (as.map (argT K))))
  (hbase:attributeBase (.Name x p) name X.env (eval (.Name x p) X.env) = eval (.Name x p) X.env:=by rfl)
  (hfew:((backTo cpos (starEach (e :: es) X.env)).all (fun x=>!x.1) && (backToKw cpos (keywordEach [] X.env)).all (fun x=>x.1.isSome) && decide ((e :: es).length + ([]:List Keyword).length + (if ([]:List Keyword).isEmpty then 0 else 1) < 30)) = true:=by rfl)
  (hline:(apos.endLine == cpos.line) = true:=by rfl) (he:notStar e = true:=by rfl) (hpl:es.all notStar = true:=by rfl):WE X (.Call (.Attribute (.Name x p) name apos) (e :: es) [] cpos) (lift K (dMeth i as f)):=by
 subst hK
 exact ⟨cv_m ok (pe_bm PySem.F.plainAttrs_list slot hty hm ho.h ha.h hbase hfew hline (starEach_of he) (plain_of hpl))⟩
theorem t_cmp {op:CmpOp} {r:R2} {f:D -> D -> (Sl -> Prop) -> Prop} (ok:OpOk K (r2L r) (o2 f)) (ho:OpR X (compareOp op) r) (ha:WE X e1 (argT K a)) (hb:WE X e2 (argT K b)) (hm:op ≠ .In:=by decide) (hm2:op ≠ .NotIn:=by decide):WT X (.Compare e1 [op] [e2] pos) (liftT K (dTst (dOp [a,b] (o2 f)))):=⟨ct2 ok (pt_cmpR ho ha.h hb.h (nomark _ hm hm2))⟩
theorem t_chain {op op':CmpOp} {p q:Int -> Int -> Bool} (ho:OpR X (compareOp op) (rI0 fun i j=>.bl (p i j))) (ho':OpR X (compareOp op') (rI0 fun i j=>.bl (q i j))) (ha:WE X e1 (argT K a)) (hb:WE X e2 (argT K b)) (hc:WE X e3 (argT K c))
  (hm:lastMarks [op,op'] [e2,e3] = false:=by with_unfolding_all rfl):WT X (.Compare e1 [op,op'] [e2,e3] pos) (liftT K (dTst (dChain p q a b c))):=⟨ct_chain (pt_chain ho ho' ha.h hb.h hc.h hm)⟩
theorem t_not (h:WT X e (liftT K tc)):WT X (.UnaryOp .Not e pos) (liftT K (dNot tc)):=⟨ct_not (pt_not h.h)⟩
theorem t_and1 (h:WT X e (liftT K tc)):WW X (.BoolOp .And [e] pos) (liftT K tc):=⟨pw_and1 h.h⟩
theorem t_or1 (h:WT X e (liftT K tc)):WW X (.BoolOp .Or [e] pos) (liftT K tc):=⟨pw_or1 h.h⟩
theorem t_and {rest:List Expr} (ha:WT X e1 (liftT K tc)) (hb:WW X (.BoolOp .And (e2 :: rest) pos) (liftT K tc')):WW X (.BoolOp .And (e1 :: e2 :: rest) pos) (liftT K (dAnd tc tc')):=⟨cw_and (pw_and ha.h hb.h)⟩
theorem t_or {rest:List Expr} (ha:WT X e1 (liftT K tc)) (hb:WW X (.BoolOp .Or (e2 :: rest) pos) (liftT K tc')):WW X (.BoolOp .Or (e1 :: e2 :: rest) pos) (liftT K (dOr tc tc')):=⟨cw_or (pw_or ha.h hb.h)⟩
theorem t_w {tt:TT} (h:WW X e tt):WT X e tt:=⟨h.h.pt⟩
theorem t_val (h:WE X e (lift K td)) (he:∀ whole,isTrue e X.env whole = (do let v <- whole; standAt e.pos; holding [v] (truthy v)):=by intro _; rfl):WT X e (liftT K (dTst td)):=⟨ct_val (pt_val h.h he)⟩
theorem g_name {i:Nat} (hN:X.N.Nodup) (hi:X.N[i]? = some x) (hx:Loc X.env.scope x) (hf:X.fn x = true \/ X.env.scope.names.lookup x = some .local:=by first | exact .inl rfl | exact .inr rfl | assumption):WG X (.Name x pos) (liftG K (dGN i)):=⟨cg_name (pg_name hN hi hx hf)⟩
theorem gs_nil:WGs X [] (gAll (([]:List TDG).map (liftG K))):=⟨pgs_nil⟩
theorem gs_cons {g:TDG} {gs:List TDG} (h1:WG X e (liftG K g)) (h2:WGs X es (gAll (gs.map (liftG K)))) (hs:(assignEach (e :: es) X.env).map (·.2) = assign e X.env :: (assignEach es X.env).map (·.2):=by rfl):WGs X (e :: es) (gAll ((g :: gs).map (liftG K))):=⟨cgs_cons h1.h h2.h hs⟩
theorem g_tup {gs:List TDG} {k:Nat} (hK:X.K = K) (hc:X.calm = true) (hh:WGs X es (gAll (gs.map (liftG K)))) (hn:(assignEach es X.env).length = gs.length:=by rfl) (hst:(assignEach es X.env).findIdx? (·.1) = none:=by rfl):WG X (.Tuple es k pos) (liftG K (dGT gs)):=⟨cg_tup (pg_tupK hK hc hh.h hn hst) rfl⟩
theorem if0:WIf X [] (liftT K dYes):=⟨cif_nil⟩
theorem if1 (h:WT X e (liftT K tc)):WIf X [e] (liftT K tc):=⟨if_one h.h⟩
theorem i_seq (hK:X.K = K) (hl:WE X e (lift K td)):WI X tg e (liftI K (dISeq td)):=⟨ci_seq hK hl.h⟩
theorem i_rng1 (hm:X.mg "range" = none) (ha:WA X [e1] (tArgs ([a].map (argT K)))) (hg:Gl X "range":=by rfl) (he:notStar e1 = true:=by rfl):WI X tg (.Call (.Name "range" p) [e1] [] pos) (liftI K (dIRng1 a)):=⟨ci_rng1 (pi_range1 hg hm ha.h (by rw [starEach_of he]; rfl))⟩
theorem s_nil:WSs X [] (liftS K dNext):=⟨cs_next pss_nil⟩
theorem s_one {tr:TS} (h:WS X st tr):WSs X [st] tr:=⟨pss_one h.h⟩
theorem s_cons (h:WS X st (liftS K t)) (h2:WSs X sts (liftS K u)):WSs X (st :: sts) (liftS K (dSeq t u)):=⟨cs_seq (pss_cons h.h h2.h)⟩
theorem s_ret (h:WE X e (lift K td)):WS X (.Return (some e) pos) (liftS K (dRet td)):=⟨cs_ret (ps_ret h.h)⟩
theorem s_retV {i:Nat} (h:WE X e (argT K (.inl i))):WS X (.Return (some e) pos) (liftS K (dRetV i)):=⟨cs_retV (ps_ret h.h)⟩
theorem s_expr (h:WE X e (lift K td)) (hs:notComp e = true:=by rfl):WS X (.Expr e pos) (liftS K (dDrop td)):=⟨cs_drop (ps_expr h.h (swaps_of hs))⟩
theorem s_if {sa sb:List Stmt} (hc:WT X e (liftT K tc)) (ha:WSs X sa (liftS K t)) (hb:WSs X sb (liftS K u)):WS X (.If e sa sb pos) (liftS K (dIfS tc t u)):=⟨cs_if (ps_if hc.h ha.h hb.h)⟩
theorem s_for {iter:Expr} {body:List Stmt} (ks:List Nat) {ti:TDI} {g:TDG} (hp:PassesOwn (model X.prog X.w) X.A X.env X.xe) (hc:X.calm = true) (hi:WI X tg iter (liftI K ti)) (hg:WG X tg (liftG K g)) (hb:WSs X body (liftS K t)) (hs:notSet iter = true:=by rfl):WS X (.For tg iter body [] pos) (liftS K (dForC ks ti g t)):=⟨cs_forC ks (ps_for hp hc hi.h hg.h hb.h (folded_of hs))⟩
theorem s_while {body:List Stmt} (hp:PassesOwn (model X.prog X.w) X.A X.env X.xe) (hc:WT X e (liftT K tc)) (hb:WSs X body (liftS K t)):WS X (.While e body [] pos) (liftS K (dWhile tc t)):=⟨cs_while (ps_while hp hc.h hb.h)⟩
theorem s_set {i:Nat} (hN:X.N.Nodup) (hi:X.N[i]? = some x) (hx:Loc X.env.scope x) (he:WE X e (lift K td)) (hs:notComp e = true:=by rfl) (hf:X.fn x = true \/ X.env.scope.names.lookup x = some .local:=by first | exact .inl rfl | exact .inr rfl | assumption):WS X (.Assign [.Name x pos'] e pos) (liftS K (dSet i td)):=⟨cs_set (ps_set hN hi hx he.h (swaps_of hs) hf)⟩
theorem s_move {i j:Nat} (hN:X.N.Nodup) (hi:X.N[i]? = some x) (hx:Loc X.env.scope x) (he:WE X e (argT K (.inl j))) (hs:notComp e = true:=by rfl) (hf:X.fn x = true \/ X.env.scope.names.lookup x = some .local:=by first | exact .inl rfl | exact .inr rfl | assumption):WS X (.Assign [.Name x pos'] e pos) (liftS K (dMove i j)):=⟨cs_move (ps_set hN hi hx he.h (swaps_of hs) hf)⟩
theorem s_setC {elt iter:Expr} {ifs:List Expr} {sc:Scope} {own:List Str} {fr:List Nat} {ti:TDI} {g:TDG} {i:Nat} (hN:X.N.Nodup) (hy:X.N[i]? = some x) (hl:X.env.scope.names.lookup x = some .local) (hc:X.calm = true) (S:compOk X.env.scope X.N fr sc = true) (hi:WI X tg iter (liftI K ti)) (hg:∀ C s H ex,WG (cxComp X own fr sc C s H ex) tg (liftG K g))
  (hif:∀ C s H ex,WIf (cxComp X own fr sc C s H ex) ifs (liftT K tc)) (he:∀ C s H ex,WE (cxComp X own fr sc C s H ex) elt (lift K te)) (nd:fr.Nodup:=by decide) (hs:notSet iter = true:=by rfl) (hsw:swapsWith (.ListComp elt [⟨tg,iter,ifs,0⟩] sc p) (some (.Name x pos')) pos.line X.env = pure true:=by rfl) :
  WS X (.Assign [.Name x pos'] (.ListComp elt [⟨tg,iter,ifs,0⟩] sc p) pos) (liftS K (dSet i (dCompC ti own fr g tc te))) :=
 ⟨cs_setCC nd (ps_setCompW hN hy hl hc (compSc_of S) hi.h (fun C s H ex=>(hg C s H ex).h) (fun C s H ex=>(hif C s H ex).h) (fun C s H ex=>(he C s H ex).h) hsw (folded_of hs))⟩
theorem s_ix {j:Nat} (he:WE X e (lift K td)) (ho:WE X e1 (argT K (.inl j))) (hi:WE X e2 (argT K a)) (hs:swapsWithSole [.Subscript e1 e2 pos'] e pos.line X.env = pure false:=by rfl) (hw:swappedStores [.Subscript e1 e2 pos'] e X.env = pure none:=by rfl)
  (ha:∀ v,assign (.Subscript e1 e2 pos') X.env v = (do
    let ov <- holding [v] (eval e1 X.env)
    let iv <- holding [v,ov] (eval e2 X.env)
    standAt pos'
    holding [v,ov,iv] (setItem ov iv v)
    release [v,ov,iv] []):=by intro _; rfl) (h1:(assignEach [.Subscript e1 e2 pos'] X.env).map (·.2) = [assign (.Subscript e1 e2 pos') X.env]:=by rfl):WS X (.Assign [.Subscript e1 e2 pos'] e pos) (liftS K (dSetIx j a td)):=⟨cs_ix (ps_asg he.h (pg_sub ho.h hi.h set_list ha) hs hw h1)⟩
end
section
variable {P:Program} {w:World} {K:Fg} {mg:Str -> Option Value} {base:Heap}
theorem wfn {x qual:Str} {st:Stmt} {f:Addr} {fd:FuncData} {N ps:List Str} {k:Nat} {con:Con} {ts:TDS} (F:Fun K x qual st f fd) (S:FnScope N ps (defScope st))
  (hb:∀ (cdv:Value) (A:Around) (outer:List Env) (s:Shared) (H:Hp) (E:XK),Room k (A.deeper (envOfC qual (defScope st) s.heap.objs.size f cdv)) -> WSs (cxOf CX0 P w K mg base N qual (defScope st) f cdv A outer s H E).nox (defBody st) (liftS K ts))
  (hl:∀ args Qd,con args Qd -> args.length = ps.length) (hc:∀ args Qd,con args Qd -> (∀ s ∈ args,∀ d,s ≠ .ow d) /\ ts (endsOf args Qd) (startE N.length args)):FnOk P w K mg base CX0 (k + 1) f fd ps (conSp K con) :=
 dfn F S (fun cdv A outer s H E hr=>(hb cdv A outer s H E hr).h) hl hc
end
end L3
namespace L2
open PySem PySem.Spec PyProof.Rows
theorem miss_list_keys:typeLookup (.type "list") "keys" = pure none:=by rw [typeLookup_type,builtinLookup_eq_fast]; kernel_rfl
theorem plain_upd_loop:plainId "dict.update.loop" = true:=by decide +kernel
theorem entry_upd_loop:entryFor table "dict.update.loop" = some Builtin.«dict.update.loop»:=entryFor_of_tree (by kernel_rfl)
section
variable {prog:Program} {w:World} {A:Around} {E:Value -> Shared -> Prop} {s:Shared}
theorem keys_none {a:Addr} {o:Obj} {xs:Array Value} {k:Nat} {Q:Option Value -> Shared -> Prop} (hx:s.heap.get? a = some o) (hc:o.cls = .type "list") (hdat:o.data = .seq xs k) (hd:o.dict = none) (hA:A.handled = none)
  (h:∀ h' tk,(∀ b o,s.heap.get? b = some o -> h'.get? b = some o) -> Q none { s with heap:=h',toks:=tk }) :
  wpAny (model prog w) A (getAttr? (.ref a) "keys") Q E s:=by
 obtain ⟨c,dct,dat,sl⟩:=o
 simp only at hc hdat hd
 subst hc hdat hd
 obtain ⟨hp,g,d,tk,os⟩:=s
 have hT:∀ tk',(⟨hp,g,d,tk',os⟩:Shared).TypeIs (.ref a) "list":=fun _=>⟨_,hx,rfl⟩
 have f1:=sub_AttributeError
 have f3:=F.slot_list_getattribute.lookup
 have f4:=F.slot_list_getattribute.bind (.ref a)
 have f5:=am_list_getattr_none
 unfold getAttr? getAttrBy? getAttrBy
 repeat (any_goals (first | assumption | exact hT _ | ((with_reducible show wpAny _ _ (call (Value.builtin "list.__getattribute__") _ _) _ _ _); refine call_meets F.slot_list_getattribute (hT _) am_entry_list_getattribute (F.args_list_getattribute_2 _ _) (meets_getattribute_miss_list a xs k sl "keys" _ miss_list_keys (by decide +kernel) (by decide +kernel)) ⟨hx,hA,fun h' tk' e hx'=>?_⟩) | wp_step))
 obtain ⟨t',u',he⟩:=hx'.there
 show wpAny _ _ (getattributeRaised _ _ _ _ _ _ _) _ _ _
 unfold getattributeRaised
 repeat (any_goals (first | assumption | wp_step))
 exact h _ _ hx'.keeps
end
section
variable {prog:Program} {w:World} {A:Around} {R:Result -> Shared -> Prop} {I:Addr} {fp wr:List Addr} {n:Nat} {P:Nat -> Value -> Prop} {St:Nat -> Heap -> Prop}
theorem upd_loop (W:Walks prog w A.in1 I fp wr n P St) (d:Addr) (hdf:d ∉ fp) (J:Nat -> Heap -> Prop)
  (hfr:∀ i h h',J i h -> (∀ b o,b ∉ wr -> h.get? b = some o -> h'.get? b = some o) -> J i h')
  (step:∀ (i:Nat) (v:Value) (s:Shared) (Q:Unit -> Shared -> Prop) (E:Value -> Shared -> Prop),i < n -> P i v -> J i s.heap ->
    (∀ h' tk,J (i + 1) h' -> Heap.SameBut d s.heap h' -> Q () { s with heap:=h',toks:=tk }) ->
    ∃ p x y,v = .ref p /\ s.heap.IsTuple p #[x,y] /\ wpAny (model prog w) A.in1 (dictSet d x y) Q E s) :
  ∀ (k i:Nat) (s:Shared) (tA:Tok),n - i = k -> i <= n -> St i s.heap -> J i s.heap ->
  (∀ h' tk,J n h' -> (∀ b o,b ∉ wr -> b ≠ d -> s.heap.get? b = some o -> h'.get? b = some o) -> R (.ok (.ret .none)) { s with heap:=h',toks:=tk }) ->
  codeAny (model prog w) A (.builtin "dict.update.loop" ⟨[.ref d,.ref I,.int i tA,.none],[]⟩) R s:=by
 intro k
 induction k with
 | zero =>
  intro i s tA hk hi hst hJ hR
  have hin:i = n:=by omega
  subst hin
  refine codeAny_builtin entry_upd_loop ?_
  rw [Around.under_plainId plain_upd_loop _]
  show wpAny _ A.in1 (pyNext (.ref I) >>= _) _ _ s
  refine wpAny_bind (W.done s _ _ hst fun h' tk hk'=>?_)
  show wpAny _ _ (Builtin.Dict.addKeywords d [] >>= _) _ _ _
  exact wpAny_bind (wpAny_pure (wpAny_pure (hR h' tk (hfr _ _ _ hJ hk') fun b o hbw _ e=>hk' b o hbw e)))
 | succ k ih =>
  intro i s tA hk hi hst hJ hR
  have hlt:i < n:=by omega
  refine codeAny_builtin entry_upd_loop ?_
  rw [Around.under_plainId plain_upd_loop _]
  show wpAny _ A.in1 (pyNext (.ref I) >>= _) _ _ s
  refine wpAny_bind (W.item i s _ _ hlt hst fun v h' tk hP hst' hk'=>?_)
  have hJ':=hfr _ _ _ hJ hk'
  obtain ⟨p,x,y,rfl,⟨ob,ho,hc,m,hd⟩,hw⟩:=step i v { s with heap:=h',toks:=tk } (fun _ s''=>∃ h'' tk',s'' = { s with heap:=h'',toks:=tk' } /\ J (i + 1) h'' /\ Heap.SameBut d h' h'') (fun _ _=>False) hlt hP hJ' fun h'' tk' j sb=>⟨h'',tk',rfl,j,sb⟩
  show wpAny _ A.in1 (holding [.ref p] _ >>= _) _ _ _
  refine wpAny_bind (wpAny_holding ?_)
  refine wpAny_bind (wpAny_tryCatch ?_)
  unfold Builtin.Dict.pairItems
  refine wpAny_bind (wpAny_typeOf (T:="tuple") ⟨_,ho,hc⟩ ?_)
  rw [if_pos (by decide)]
  refine wpAny_bind (wpAny_seqItems ho hd (wpAny_pure ?_))
  show wpAny _ A.in1 (holding [x,y] (dictSet d x y)) _ _ _
  refine wpAny_holding (wpAny_mono hw (fun _ s'' z=>?_) fun _ _ z=>z.elim)
  obtain ⟨h'',tk',rfl,j,sb⟩:=z
  refine wpAny_pure ⟨plainId_quiet plain_upd_loop _,?_⟩
  exact ih (i + 1) { s with heap:=h'',toks:=tk' } 0 (by omega) hlt (W.frame _ _ _ hst' fun b hb o e=>(sb.2 b fun q=>hdf (q ▸ hb)).trans e) j fun h3 tk3 j3 k3 =>
   hR h3 tk3 j3 fun b o hbw hbd e=>k3 b o hbw hbd ((sb.2 b hbd).trans (hk' b o hbw e))
end
end L2
namespace L2
open PySem PySem.Spec PyProof.Rows
section
variable {prog:Program} {w:World} {A:Around} {E:Value -> Shared -> Prop} {s:Shared}
theorem call_dict_pairs {a:Addr} {o:Obj} {xs:Array Value} {k:Nat} {Q:Value -> Shared -> Prop} (J:Nat -> Heap -> Prop) (hh:A.handled = none)
  (hx:s.heap.get? a = some o) (hc:o.cls = .type "list") (hdat:o.data = .seq xs k) (hd:o.dict = none)
  (h0:∀ h',(∀ b ob,s.heap.get? b = some ob -> h'.get? b = some ob) -> h'.get? s.heap.objs.size = some { cls:=.type "dict",data:=.dict #[] } -> J 0 h')
  (hfr:∀ i h h',J i h -> (∀ b ob,b < s.heap.objs.size + 1 -> h.get? b = some ob -> h'.get? b = some ob) -> J i h')
  (step:∀ (i:Nat) (v:Value) (s':Shared) (Q':Unit -> Shared -> Prop) (E':Value -> Shared -> Prop),xs[i]? = some v -> J i s'.heap -> (∀ b ob,s.heap.get? b = some ob -> s'.heap.get? b = some ob) ->
    (∀ h' tk,J (i + 1) h' -> Heap.SameBut s.heap.objs.size s'.heap h' -> Q' () { s' with heap:=h',toks:=tk }) ->
    ∃ p x y,v = .ref p /\ s'.heap.IsTuple p #[x,y] /\ wpAny (model prog w) A.in1.in1 (dictSet s.heap.objs.size x y) Q' E' s')
  (h:∀ h' tk,J xs.size h' -> (∀ b ob,s.heap.get? b = some ob -> h'.get? b = some ob) -> Q (.ref s.heap.objs.size) { s with heap:=h',toks:=tk }) :
  wpAny (model prog w) A (call (.type "dict") [.ref a]) Q E s:=by
 refine callType_codes (Q₁:=fun obj s₁=>obj = .ref s.heap.objs.size /\ s₁ = { s with heap:=s.heap.push { cls:=.type "dict",data:=.dict #[] } }) F.kt_called_dict (F.kt_typeCall_dict_1 _) F.entry_dict_init (kt_code_dict_new _ ⟨rfl,rfl⟩) ?_
 rintro obj s₁ ⟨rfl,rfl⟩
 have hnew:(s.heap.push { cls:=.type "dict",data:=.dict #[] }).get? s.heap.objs.size = some { cls:=.type "dict",data:=.dict #[] }:=Heap.get?_push_size _ rfl
 have hkp:∀ b ob,s.heap.get? b = some ob -> (s.heap.push { cls:=.type "dict",data:=.dict #[] }).get? b = some ob:=fun b ob e=>Heap.get?_push_of_some _ e
 refine ⟨⟨_,hnew,rfl⟩,F.args_dict_init_2 _ _,?_⟩
 unfold Builtin.«dict.__init__»
 refine wpAny_bind ?_
 unfold Builtin.Dict.selfAndRest
 refine wpAny_bind (wpAny_notOrdered_dict ⟨_,hnew,rfl⟩ ?_)
 show wpAny _ _ (pure (s.heap.objs.size,[Value.ref a])) _ _ _
 refine wpAny_pure ?_
 show wpAny _ _ (Builtin.Dict.updateFrom "dict.__init__" s.heap.objs.size (.ref a) [] .none) _ _ _
 unfold Builtin.Dict.updateFrom
 refine wpAny_bind (wpAny_typeOf (T:="list") ⟨_,hkp _ _ hx,hc⟩ ?_)
 rw [if_pos (by decide)]
 refine wpAny_bind (keys_none (hkp _ _ hx) hc hdat hd hh fun h1 tk1 k1=>?_)
 simp only [Option.isNone_none,if_true]
 refine wpAny_bind (wpAny_rule ?_)
 refine wpAny_bind (wpAny_pyIter_list (s:={ s with heap:=h1,toks:=tk1 }) ⟨_,k1 _ _ (hkp _ _ hx),hc,k,hdat⟩ ?_)
 have hlt:s.heap.objs.size < h1.objs.size:=Heap.lt_size (k1 _ _ hnew)
 have halt:a < s.heap.objs.size:=Heap.lt_size hx
 have hnf:s.heap.objs.size ∉ [h1.objs.size,a]:=fun hm=>by
  rcases List.mem_cons.mp hm with q | q
  ·exact Nat.ne_of_lt hlt q
  ·exact Nat.ne_of_gt halt (List.mem_singleton.mp q)
 refine wpAny_pure ⟨plainId_quiet plain_upd_loop _,upd_loop (Walks.list (A:=A.in1.in1) hh h1.objs.size a (Nat.ne_of_lt (Nat.lt_trans halt hlt)) xs) s.heap.objs.size hnf (fun i h'=>J i h' /\ ∀ b ob,s.heap.get? b = some ob -> h'.get? b = some ob) ?_ ?_ xs.size 0 _ 0 rfl (Nat.zero_le _) ?_ ?_ ?_⟩
 ·rintro i hp hp' ⟨j,kk⟩ kp
  refine ⟨hfr _ _ _ j fun b ob hb e=>kp b ob (fun hm=>Nat.ne_of_lt (Nat.lt_of_le_of_lt (Nat.le_of_lt_succ hb) hlt) (List.mem_singleton.mp hm)) e,fun b ob e=>kp b ob ?_ (kk b ob e)⟩
  exact fun hm=>Nat.ne_of_lt (Nat.lt_trans (Heap.lt_size e) hlt) (List.mem_singleton.mp hm)
 ·rintro i v s' Q' E' hi hP ⟨j,kk⟩ hq
  refine step i v s' Q' E' hP j kk fun h' tk j' sb=>hq h' tk ⟨j',fun b ob e=>(sb.2 b ?_).trans (kk b ob e)⟩ sb
  exact Nat.ne_of_lt (Heap.lt_size e)
 ·exact ⟨⟨_,Heap.get?_push_size _ rfl,rfl,rfl⟩,⟨_,Heap.get?_push_of_some _ (k1 _ _ (hkp _ _ hx)),hc,k,hdat⟩⟩
 ·exact ⟨hfr _ _ _ (h0 h1 (fun b ob e=>k1 b ob (hkp b ob e)) (k1 _ _ hnew)) fun b ob _ e=>Heap.get?_push_of_some _ e,fun b ob e=>Heap.get?_push_of_some _ (k1 b ob (hkp b ob e))⟩
 ·rintro h' tk ⟨j,kk⟩ _
  exact ⟨rfl,h h' tk j kk⟩
end
end L2
namespace L2
open PySem PySem.Spec PyProof.Rows
noncomputable def putAll {κ:Type} [DecidableEq κ] (kvs:List (κ × V)):List (κ × V):=kvs.foldl (fun m kv=>putK m kv.1 kv.2) []
theorem putAll_snoc {κ:Type} [DecidableEq κ] (kvs:List (κ × V)) (kv:κ × V):putAll (kvs ++ [kv]) = putK (putAll kvs) kv.1 kv.2:=by simp [putAll]
theorem putAll_take {κ:Type} [DecidableEq κ] {kvs:List (κ × V)} {kv:κ × V} {i:Nat} (h:kvs[i]? = some kv):putAll (kvs.take (i + 1)) = putK (putAll (kvs.take i)) kv.1 kv.2:=by
 rw [<- putAll_snoc,List.take_add_one,h]; rfl
theorem putAll_len {κ:Type} [DecidableEq κ] (kvs:List (κ × V)):(putAll kvs).length <= kvs.length:=by
 have gen:∀ (l m:List (κ × V)),(l.foldl (fun m kv=>putK m kv.1 kv.2) m).length <= m.length + l.length:=by
  intro l
  induction l with
  | nil=>intro m; simp
  | cons x l ih =>
   intro m
   have h1:=ih (putK m x.1 x.2)
   have h2:=length_putK m x.1 x.2
   simp only [List.foldl_cons,List.length_cons]
   omega
 simpa [putAll] using gen kvs []
theorem Vals.getV:∀ {xs:List V} {us:List Value} {i:Nat} {u:Value},Vals xs us -> us[i]? = some u -> ∃ x,xs[i]? = some x /\ RelV x u
 | _,_,0,_,.cons r _,e=>⟨_,rfl,by cases e; exact r⟩
 | _,_,i + 1,_,.cons _ t,e=>Vals.getV (i:=i) t e
noncomputable def PairK (H:Hp) (y:V) (kv:Key × V):Prop:=∃ q,y = .ref q /\ H q = some (.tup [kV kv.1,kv.2])
noncomputable def rDictK (K:PySem.W.Frag):List V -> Hp -> VK -> Prop:=fun xs H Q=>∃ (p:Addr) (ys:List V) (kvs:List (Key × V)),xs = [.ref p] /\ SqL K H p ys /\ ys.length = kvs.length /\ (∀ (i:Nat) y,ys[i]? = some y -> ∃ kv,kvs[i]? = some kv /\ PairK H y kv) /\
 ∀ l,H l = none -> Q (.ref l) (upd H l (.dK (putAll kvs)))
section
variable {X:Cx}
theorem call_dictK (hc:X.calm = true):CallR X (.type "dict") (rDictK X.K):=by
 intro pins s σ H xs us Q I r h
 obtain ⟨p,ys,kvs,rfl,hq,hl,hp,q⟩:=h
 obtain ⟨u,rfl,rx⟩:=vals1 r
 cases rx
 obtain ⟨its,r',⟨o,n,e1,e2,e3,e4⟩,hz⟩:=I.list hq
 have hb:(s.heap.objs.size == sysModules) = false:=beq_eq_false_iff_ne.mpr (Ne.symm (Nat.ne_of_lt I.big))
 have hk:=putAll_len kvs
 have hlen:=r'.length
 refine call_dict_pairs (fun i h=>∃ vs,KV (putAll (kvs.take i)) vs /\ h.DictOf (mixKind X.prog X.w) s.heap.objs.size vs) (I.ok.hd hc) e1 e2 e4 e3 ?_ ?_ ?_ ?_
 ·intro h' _ e
  obtain ⟨o',es,ep,ho,rest⟩:=Heap.DictOf.new (knd:=mixKind X.prog X.w) s.heap
  rw [Heap.get?_push_size _ rfl] at ho
  cases ho
  exact ⟨[],.nil,_,es,ep,e,rest⟩
 ·rintro i h1 h2 ⟨vs,rel,o',es,ep,ho,rest⟩ kp
  exact ⟨vs,rel,o',es,ep,kp _ _ (Nat.lt_succ_self _) ho,rest⟩
 ·rintro i v s' Q' E' hv ⟨vs,rel,dd⟩ kk hq'
  obtain ⟨y,ey,ry⟩:=r'.getV (by simpa using hv)
  obtain ⟨kv,ekv,qq,rfl,eq⟩:=hp i y ey
  cases ry
  obtain ⟨_,its2,r2,ob,h1,h2,m,h3,_⟩:=(show ObjOk X.prog X.w H s.heap qq (.tup [kV kv.1,kv.2]) from I.hok qq _ eq)
  obtain ⟨u1,u2,rfl,ru1,ru2⟩:=vals2 r2
  have hz2:vs.length <= sizeLine:=by
   have a1:=rel.length
   have a2:=putAll_len (kvs.take i)
   have a3:(kvs.take i).length <= kvs.length:=by simp only [List.length_take]; omega
   omega
  refine ⟨qq,u1,u2,rfl,⟨ob,kk _ _ h1,h2,m,h3⟩,wpAny_dictSet_pairs (hsz:=hz2) (kV_is ru1) dd fun h' dd' sb=>hq' h' _ ⟨_,?_,dd'⟩ sb⟩
  rw [putAll_take ekv]
  exact rel.put kv.1 ru2
 ·rintro h' tk ⟨vs,rel,dd⟩ kp
  have et:kvs.take its.toArray.size = kvs:=by rw [List.take_of_length_le]; simp only [List.size_toArray]; omega
  rw [et] at rel
  exact ⟨.ref s.heap.objs.size,_,I.laid (t':=tk) kp (Nat.le_refl _) (show ObjOk X.prog X.w _ h' _ (.dK (putAll kvs)) from ⟨by omega,hb,vs,rel,dd⟩),rfl,q _ (I.hok.fresh (Nat.le_refl _))⟩
end
end L2
namespace L2
open PySem PySem.Spec PyProof.Rows
section
variable {X:Cx}
end
end L2
namespace L2
section
theorem putAll_nodup {κ:Type} [DecidableEq κ] (kvs:List (κ × V)) (h:(kvs.map (·.1)).Nodup):putAll kvs = kvs:=by
 have gen:∀ (l m:List (κ × V)),((m ++ l).map (·.1)).Nodup -> l.foldl (fun m kv=>putK m kv.1 kv.2) m = m ++ l:=by
  intro l
  induction l with
  | nil=>intro m _; simp
  | cons x l ih =>
   intro m hn
   have e:putK m x.1 x.2 = m ++ [x]:=by
    unfold putK
    rw [if_neg]
    intro q
    obtain ⟨y,hy,hyx⟩:=List.any_eq_true.mp q
    have hyx:y.1 = x.1:=by simpa using hyx
    rw [List.map_append,List.nodup_append] at hn
    exact hn.2.2 y.1 (List.mem_map.mpr ⟨y,hy,rfl⟩) x.1 (by simp) hyx
   simp only [List.foldl_cons]
   rw [e,ih (m ++ [x]) (by simpa using hn)]
   simp
 simpa [putAll] using gen kvs [] (by simpa using h)
end
end L2
namespace L3
open PySem PySem.Spec L2
noncomputable abbrev prT (p:List Key × D):D:=.tuple [.tuple (p.1.map keyD),p.2]
noncomputable abbrev enT (p:List Key × D):D × D:=(.tuple (p.1.map keyD),p.2)
noncomputable abbrev prK (p:Key × D):D:=.tuple [keyD p.1,p.2]
noncomputable abbrev enK (p:Key × D):D × D:=(keyD p.1,p.2)
section
variable {K:Fg} {F H:Hp}
theorem pairsK (s:Sub F H):∀ {ps:List (Key × D)} {xs:List V},DaAll K F xs (ps.map prK) -> ∃ vk:List (Key × V),vk.map (·.1) = ps.map (·.1) /\ xs.length = vk.length /\ (∀ (i:Nat) y,xs[i]? = some y -> ∃ kv,vk[i]? = some kv /\ PairK H y kv) /\ DaKV K F vk (ps.map enK)
 | [],_,.nil=>⟨[],rfl,rfl,fun _ _ e=>by simp at e,.nil⟩
 | p :: ps,_,.cons h t=>by
  obtain ⟨vk,e1,e2,e3,e4⟩:=pairsK s t
  cases h with
  | tup q r =>
   cases r with
   | @cons x _ _ _ r1 r2 =>
    cases r2 with
    | cons r2 r3 =>
     cases r3
     have hx:x = kV p.1:=by
      obtain ⟨k,d⟩:=p
      cases k <;> (cases r1; rfl)
     subst hx
     refine ⟨(p.1,_) :: vk,by simp [e1],by simp [e2],fun i y e=>?_,.cons r2 e4⟩
     cases i with
     | zero=>cases e; exact ⟨_,rfl,_,rfl,s _ _ q⟩
     | succ i=>exact e3 i y e
end
noncomputable def fDictT:D -> (Sl -> Prop) -> Prop
 | .list ds,Q=>∃ ps:List (List Key × D),ds = ps.map prT /\ (ps.map (·.1)).Nodup /\ Q (.ow (.dict (ps.map enT)))
 | _,_=>False
noncomputable def fDictK:D -> (Sl -> Prop) -> Prop
 | .list ds,Q=>∃ ps:List (Key × D),ds = ps.map prK /\ (ps.map (·.1)).Nodup /\ Q (.ow (.dict (ps.map enK)))
 | _,_=>False
theorem ok_dictK {K:Fg}:OpOk K (rDictK K) (o1 fDictK):=ok1 fun G F σ H ρ x d Q Qd R h1 w k=>by
 match d,h1,w with
 | .list ds,h1,⟨ps,e,nd,w⟩ =>
  subst e
  obtain ⟨a,us,rfl,e1,d1⟩:=h1.list R.sub
  obtain ⟨vk,g1,g2,g3,g4⟩:=pairsK R.sub d1
  refine ⟨a,us,vk,rfl,SqL.of e1,g2,g3,fun p hp=>?_⟩
  rw [putAll_nodup vk (by rw [g1]; exact nd)]
  obtain ⟨R',r'⟩:=R.newOw (o:=.dK vk) (d:=.dict (ps.map enK)) hp g4
  exact k _ _ F _ (Sub.refl _) R' r' w
section
variable {X:Cx} {K:Fg} {e1 e2:Expr} {a b:AD} {pos:Pos}
end
end L3
namespace L2
open PySem PySem.Spec PyProof.Rows
section
variable {prog:Program} {w:World} {A:Around} {E:Value -> Shared -> Prop} {s:Shared}
end
end L2
namespace L2
open PySem PySem.Spec PyProof.Rows
section
variable {prog:Program} {w:World} {A:Around} {E:Value -> Shared -> Prop} {s:Shared}
end
structure ZG (xs1 xs2:Array Value) (lo:Addr) (h:Heap) (as:List Addr):Prop where
 rise:as.Pairwise (· < ·)
 above:∀ a ∈ as,lo < a
 pairs:∀ (j:Nat) (a:Addr),as[j]? = some a -> ∃ x y,xs1[j]? = some x /\ xs2[j]? = some y /\ IsTup2 h a x y
section
variable {prog:Program} {w:World} {A:Around} {s:Shared} {R:Result -> Shared -> Prop}
end
end L2
namespace L2
open PySem PySem.Spec PyProof.Rows
section
variable {prog:Program} {w:World} {A:Around} {s:Shared} {R:Result -> Shared -> Prop}
end
section
variable {prog:Program} {w:World} {A:Around} {E:Value -> Shared -> Prop} {s:Shared}
end
end L2
namespace L2
open PySem PySem.Spec PyProof.Rows
section
variable {X:Cx} {pins:List (Addr × Obj)} {σ:St} {H H':Hp} {s:Shared} {h':Heap}
end
end L2
namespace L2
open PySem PySem.Spec PyProof.Rows
end L2
namespace L3
open PySem PySem.Spec L2
section
variable {K:Fg} {F H:Hp}
end
section
variable {X:Cx} {K:Fg} {e e1 e2:Expr} {a b:AD} {p pos pos' p2:Pos}
theorem w_dictK (hK:X.K = K) (hc:X.calm = true) (hm:X.mg "dict" = none) (hv:bootBuiltins "dict" = some (.type "dict")) (ha:WA X [e] (tArgs ([a].map (argT K)))) (hg:Gl X "dict":=by rfl) (he:notStar e = true:=by rfl) :
  WE X (.Call (.Name "dict" p) [e] [] pos) (lift K (dOp [a] (o1 fDictK))):=by
 subst hK
 exact w_callT ok_dictK (call_dictK hc) hm hv ha hg (by decide) (by decide) he rfl
end
end L3
namespace L3
open PySem PySem.Spec L2
section
variable {K:Fg} {G:Gh} {F F' H H':Hp} {σ τ:St} {ρ μ:Ev} {own:List Str} {fr:List Nat} {xs:List Opd}
end
section
variable {X:Cx} {K:Fg} {tg e:Expr} {pos:Pos} {tc:TTD} {te:TD}
end
end L3
namespace L3
open PySem PySem.Spec L2
mutual
theorem noMix_self:∀ d:D,plainD d = true -> SeqAt.noMix d d = true
 | .none,_=>by simp [SeqAt.noMix]
 | .bool _,_=>by simp [SeqAt.noMix]
 | .int _,_=>by simp [SeqAt.noMix]
 | .str _,_=>by simp [SeqAt.noMix]
 | .list xs,h=>by simp [SeqAt.noMix]; exact noMixAll_self xs (by simpa [plainD] using h)
 | .tuple xs,h=>by simp [SeqAt.noMix]; exact noMixAll_self xs (by simpa [plainD] using h)
 | .dict _,h=>by simp [plainD] at h
theorem noMixAll_self:∀ xs:List D,plainAll xs = true -> SeqAt.noMixAll xs xs = true
 | [],_=>by simp [SeqAt.noMixAll]
 | x :: xs,h=>by
  simp [plainAll] at h
  simp [SeqAt.noMixAll]
  exact ⟨noMix_self x h.1,noMixAll_self xs h.2⟩
end
structure Nice (n:Nat) (d:D):Prop where
 p:plainD d = true
 c:d.canLay0 = true
 d:d.depth <= n
theorem Nice.int (n:Nat) (i:Int):Nice n (.int i):=⟨rfl,by simp [PyData.canLay0],by simp [PyData.depth]⟩
theorem nice_all {n:Nat}:∀ {l:List D},(∀ d ∈ l,Nice n d) -> plainAll l = true /\ PyData.canLayAll0 l = true /\ PyData.depthAll l <= n
 | [],_=>⟨rfl,by simp [PyData.canLayAll0],by simp [PyData.depthAll]⟩
 | x :: l,h=>by
  have h1:=h x List.mem_cons_self
  have h2:=nice_all (l:=l) fun d hd=>h d (List.mem_cons_of_mem _ hd)
  refine ⟨by simp [plainAll,h1.p,h2.1],by simp [PyData.canLayAll0,h1.c,h2.2.1],?_⟩
  have:=h1.d
  have:=h2.2.2
  simp [PyData.depthAll]
  omega
theorem Nice.list {n:Nat} {l:List D} (h:∀ d ∈ l,Nice n d):Nice (n + 1) (.list l):=by
 obtain ⟨a,b,c⟩:=nice_all h
 exact ⟨by simp [plainD,a],by simp [PyData.canLay0,b],by simp [PyData.depth]; omega⟩
theorem Nice.tuple {n:Nat} {l:List D} (h:∀ d ∈ l,Nice n d):Nice (n + 1) (.tuple l):=by
 obtain ⟨a,b,c⟩:=nice_all h
 exact ⟨by simp [plainD,a],by simp [PyData.canLay0,b],by simp [PyData.depth]; omega⟩
theorem Nice.ints (l:List Int):Nice 1 (.list (l.map PyData.int)):=.list fun d hd=>by
 obtain ⟨i,_,rfl⟩:=List.mem_map.mp hd
 exact .int 0 i
theorem Nice.tup (l:List Int):Nice 1 (.tuple (l.map PyData.int)):=.tuple fun d hd=>by
 obtain ⟨i,_,rfl⟩:=List.mem_map.mp hd
 exact .int 0 i
theorem Nice.sh {n:Nat} {d:D} (h:Nice n d) (k:n <= 64):SeqAt.shaped d = true:=by
 have:=h.d
 unfold SeqAt.shaped
 rw [h.c]
 simp
 omega
end L3
namespace L2
open PySem PySem.Spec PyProof.Rows
inductive PrsT (H:Hp):List (V × V) -> List (List Key × V) -> Prop
 | nil:PrsT H [] []
 | cons {b ks v ps kvs}:H b = some (.tup (ks.map kV)) -> PrsT H ps kvs -> PrsT H ((.ref b,v) :: ps) ((ks,v) :: kvs)
section
variable {X:Cx} {pins:List (Addr × Obj)} {σ:St} {a:Addr} {E:Value -> Shared -> Prop}
end
end L2
namespace L3
open PySem PySem.Spec PyProof.Rows L2
noncomputable def dNever:TDS:=fun _ _=>False
section
variable {X:Cx} {K:Fg} {e e1 e2:Expr} {a b:AD} {ta tb:TD} {st:Stmt} {p pos p2 pos' px py pt:Pos} {x y:Str}
theorem s_never:WS X st (liftS K dNever):=⟨fun pins s σ H D I h=>by obtain ⟨G,F,ρ,E,R,w,_⟩:=h; exact w.elim⟩
end
end L3
namespace L2
open PySem PySem.Spec PyProof.Rows
section
variable {X:Cx}
end
end L2
namespace L3
open PySem PySem.Spec PyProof.Rows L2
section
variable {X:Cx} {K:Fg} {x:Str} {pos:Pos}
end
end L3
namespace L2
open PySem PySem.Spec PyProof.Rows
end L2
namespace L3
open PySem PySem.Spec PyProof.Rows L2
section
variable {X:Cx} {K:Fg} {e1:Expr} {a:AD} {p pos p2 p3 p4:Pos}
end
end L3
namespace L3
open PySem PySem.Spec PyProof.Rows L2
theorem len_ofString (s:String):(Str.ofString s).length = s.length:=by
 rw [Str.ofString_eq_toList]
 simp only [Str.length,List.size_toArray,List.length_map]
 first | rfl | exact String.length_toList | exact String.length_toList _ | simp
theorem shown_int {i:Int} {k:Nat} (hk:0 < k) (h:i.natAbs < 10 ^ k):(PyData.int i).shown.length <= k + 1:=by
 show (Str.ofString (toString i)).length <= k + 1
 rw [len_ofString]
 cases i with
 | ofNat n =>
  show (Nat.repr n).length <= k + 1
  have:=(Nat.length_repr_le_iff (n:=n) hk).mpr h
  omega
 | negSucc m =>
  show ("-" ++ Nat.repr (m + 1)).length <= k + 1
  have h1:m + 1 < 10 ^ k:=by simpa using h
  have:=(Nat.length_repr_le_iff (n:=m + 1) hk).mpr h1
  rw [String.length_append]
  have e:("-":String).length = 1:=by decide
  omega
theorem join_len (sep:Str) (b:Nat):∀ ts:List Str,(∀ t ∈ ts,t.length <= b) -> (Str.join sep ts).length <= ts.length * (b + sep.length)
 | [],_=>by simp [Str.join,Str.length,Str.empty]
 | [x],h=>by
  have:=h x List.mem_cons_self
  show x.length <= _
  simp
  omega
 | x :: y :: r,h=>by
  have h1:=h x List.mem_cons_self
  have h2:=join_len sep b (y :: r) fun t ht=>h t (List.mem_cons_of_mem _ ht)
  show (x ++ sep ++ Str.join sep (y :: r)).length <= _
  rw [Str.length_append,Str.length_append,List.length_cons,Nat.succ_mul]
  omega
theorem shownAll_map:∀ l:List D,PyData.shownAll l = l.map PyData.shown
 | []=>rfl
 | x :: l=>by simp [PyData.shownAll,shownAll_map l]
theorem shown_tuple {b:Nat} {l:List D} (h:∀ d ∈ l,d.shown.length <= b):(PyData.tuple l).shown.length <= l.length * (b + 2) + 3:=by
 show (tupleText (PyData.shownAll l)).length <= _
 rw [shownAll_map]
 have hj:=join_len (Str.ofString ", ") b (l.map PyData.shown) fun t ht=>by
  obtain ⟨d,hd,rfl⟩:=List.mem_map.mp ht
  exact h d hd
 rw [List.length_map,len_ofString] at hj
 have e2:(", ":String).length = 2:=by decide
 rw [e2] at hj
 unfold tupleText
 rw [Str.length_append,Str.length_append,len_ofString,len_ofString]
 have e1:("(":String).length = 1:=by decide
 have e3:(if (((l.map PyData.shown).length == 1) = true) then ",)" else ")":String).length <= 2:=by split <;> decide
 omega
theorem shown_list {b:Nat} {l:List D} (h:∀ d ∈ l,d.shown.length <= b):(PyData.list l).shown.length <= l.length * (b + 2) + 3:=by
 have gen:∀ (ts:List Str) (k:Nat) (acc:Str),(∀ t ∈ ts,t.length <= b) -> (textFrom k acc ts).length <= acc.length + ts.length * (b + 2):=by
  intro ts
  induction ts with
  | nil=>intro k acc _; simp [textFrom]
  | cons t ts ih =>
   intro k acc ht
   have h1:=ht t List.mem_cons_self
   have h2:=ih (k + 1) (acc ++ Str.ofString (if k > 0 then ", " else "") ++ t) fun x hx=>ht x (List.mem_cons_of_mem _ hx)
   rw [Str.length_append,Str.length_append,len_ofString] at h2
   have e3:(if k > 0 then ", " else "":String).length <= 2:=by split <;> decide
   show (textFrom (k + 1) (acc ++ Str.ofString (if k > 0 then ", " else "") ++ t) ts).length <= _
   rw [List.length_cons,Nat.succ_mul]
   omega
 show (listText (PyData.shownAll l)).length <= _
 rw [shownAll_map]
 have hg:=gen (l.map PyData.shown) 0 (Str.ofString "[") fun t ht=>by
  obtain ⟨d,hd,rfl⟩:=List.mem_map.mp ht
  exact h d hd
 unfold listText
 rw [Str.length_append,len_ofString]
 rw [len_ofString,List.length_map] at hg
 have e1:("[":String).length = 1:=by decide
 have e2:("]":String).length = 1:=by decide
 omega
theorem showableAll_of:∀ {l:List D},(∀ d ∈ l,d.showable = true) -> PyData.showableAll l = true
 | [],_=>rfl
 | x :: l,h=>by
  simp [PyData.showableAll,h x List.mem_cons_self]
  exact showableAll_of fun d hd=>h d (List.mem_cons_of_mem _ hd)
theorem showable_int {i:Int} {k:Nat} (h:i.natAbs < 2 ^ k) (hk:k <= 1920):(PyData.int i).showable = true:=by
 show decide (i.natAbs.log2 < 1920) = true
 refine decide_eq_true ?_
 by_cases h0:i.natAbs = 0
 ·rw [h0]; decide
 ·exact Nat.lt_of_lt_of_le ((Nat.log2_lt h0).mpr h) hk
end L3
namespace L2
open PySem PySem.Spec PyProof.Rows
noncomputable def evT (H:Hp) (p:List Int) (y:Value):Bool:=@decide (∃ c,y = .ref c /\ H c = some (.tup (p.map V.int))) (Classical.propDecidable _)
theorem vals_intsAt {ns:List Int} {us:List Value} (r:Vals (ns.map V.int) us) {k:Nat} (h:k < us.length):∃ t,us[k] = .int (ns.getD k 0) t:=by
 have hl:=r.length
 rw [List.length_map] at hl
 have hk:k < ns.length:=by omega
 obtain ⟨u,hu,ru⟩:=r.get (i:=k) (x:=.int ns[k]) (by rw [List.getElem?_map,List.getElem?_eq_getElem hk]; rfl)
 obtain ⟨t,e⟩:=ru
 rw [List.getElem?_eq_getElem h] at hu
 have hu:=Option.some.inj hu
 refine ⟨t,?_⟩
 rw [hu,e,List.getD_eq_getElem?_getD,List.getElem?_eq_getElem hk]
 rfl
end L2
namespace L3
open PySem PySem.Spec PyProof.Rows L2
theorem upd_self {H:Hp} {a:Addr} {o:HO} (e:H a = some o):upd H a o = H:=by
 funext c; unfold upd; split
 ·rename_i z; rw [z,e]
 ·rfl
theorem DaAll.ints_of {K:Fg} {F:Hp} {ys:List V} {p:List Int} (h:DaAll K F ys (p.map PyData.int)):ys = p.map V.int:=by
 have e:p.map PyData.int = (p.map fun n=>(.inl n:Key)).map keyD:=by rw [List.map_map]; rfl
 rw [e] at h
 have:=h.keys
 rw [this,List.map_map]; rfl
end L3
namespace L3
open PySem PySem.Spec PyProof.Rows L2
section
variable {X:Cx} {K:Fg} {e1 e2:Expr} {a b:AD} {pos p2:Pos}
end
end L3
namespace L2
open PySem PySem.Spec PyProof.Rows
noncomputable def rSortI (K:PySem.W.Frag):List V -> Hp -> VK -> Prop:=fun xs H Q=>∃ (a:Addr) (ns:List Int),xs = [.ref a] /\ SqL K H a (ns.map V.int) /\ ns.length < 64 /\
 ∀ (p:Addr) (ns':List Int),H p = none -> ns'.Perm ns -> ns'.Pairwise (· <= ·) -> Q (.ref p) (upd H p (.lst (ns'.map V.int)))
theorem vals_of_ints:∀ {vs:List Value} {ns:List Int},IntsAre vs ns -> Vals (ns.map V.int) vs
 | _,_,.nil=>.nil
 | _,_,.cons n t r=>.cons ⟨t,rfl⟩ (vals_of_ints r)
theorem call_sortI {X:Cx}:CallR X (.builtin "sorted") (rSortI X.K):=by
 intro pins s σ H xs us Q I r h
 obtain ⟨a,ns,rfl,hs,h64,q⟩:=h
 obtain ⟨u,rfl,ru⟩:=vals1 r
 cases ru
 obtain ⟨its,rv,⟨o,n,e,c,d1,d2⟩,hz⟩:=I.list hs
 have hl:=rv.length
 rw [List.length_map] at hl
 refine sorted_ints (vs:=its) (ns:=ns) ⟨o,e,c,n,by first | exact d2 | exact d1⟩ (intsAre_of rv) (by omega) fun out ns' hI hp hw=>?_
 obtain ⟨ep,he⟩:=sortedAll_at s.heap its out
 have hn:H (s.heap.objs.size + 1) = none:=I.hok.fresh (Nat.le_succ _)
 have hl2:ns'.length = ns.length:=hp.length_eq
 refine ⟨.ref (s.heap.objs.size + 1),upd H (s.heap.objs.size + 1) (.lst (ns'.map V.int)),I.laid (t':=s.toks) (fun b u e=>sortedAll_old e) (Nat.le_succ _) ?_,rfl,q _ ns' hn hp hw⟩
 exact ⟨by rw [List.length_map,sizeLine_eq]; omega,out.toList,ep,vals_of_ints hI,by rw [he]⟩
end L2
namespace L3
open PySem PySem.Spec PyProof.Rows L2
noncomputable def fSortI:D -> (Sl -> Prop) -> Prop
 | .list ds,Q=>∃ ns:List Int,ds = ns.map PyData.int /\ ns.length < 64 /\ ∀ ns':List Int,ns'.Perm ns -> ns'.Pairwise (· <= ·) -> Q (.ow (.list (ns'.map PyData.int)))
 | _,_=>False
theorem ok_sortI {K:Fg}:OpOk K (rSortI K) (o1 fSortI):=ok1 fun G F σ H ρ x d Q Qd R h1 w k=>by
 match d,h1,w with
 | .list ds,h1,⟨ns,e,h64,w⟩ =>
  subst e
  obtain ⟨a,us,rfl,e1,d1⟩:=h1.list R.sub
  have:=d1.ints_of
  subst this
  refine ⟨a,ns,rfl,SqL.of e1,h64,fun p ns' hp h2 h3=>?_⟩
  obtain ⟨R',r'⟩:=R.newOw (o:=.lst (ns'.map V.int)) (d:=.list (ns'.map PyData.int)) hp (DaAll.ints ns')
  exact k _ _ F _ (Sub.refl _) R' r' (w ns' h2 h3)
theorem call_sortIK {X:Cx} {K:Fg} (h:X.K = K):CallR X (.builtin "sorted") (rSortI K):=by subst h; exact call_sortI
end L3
namespace L2
open PySem PySem.Spec PyProof.Rows
section
variable {prog:Program} {w:World} {A:Around} {E:Value -> Shared -> Prop} {s:Shared}
theorem max_tupD {l:Addr} {xs:Array (Int × Tok)} {Q:Value -> Shared -> Prop} (hh:A.handled = none) (ht:s.heap.IsTuple l (intItems xs)) (hne:0 < xs.size)
  (h:∀ v h' tk,(intItems xs)[argBest (fun i j=>decide (numAt xs i > numAt xs j)) (xs.size - 1)]? = some v -> (∀ b o,s.heap.get? b = some o -> h'.get? b = some o) -> Q v { s with heap:=h',toks:=tk }) :
  wpAny (model prog w) A (call (.builtin "max") [.ref l]) Q E s:=by
 obtain ⟨o,ho,hc,n,hd⟩:=id ht
 have hn:l ≠ s.heap.objs.size:=Nat.ne_of_lt (Heap.lt_size ho)
 refine call_max_walk (wpAny_pyIter_tuple ht ?_)
 refine ⟨s.heap.objs.size,_,_,_,_,_,_,rfl,Walks.tuple (A:=A.in1) hh _ l hn (intItems xs),⟨⟨_,Heap.get?_push_size _ rfl,rfl,rfl⟩,ht.push _⟩,fun b hb=>?_,by simpa [intItems] using hne,CmpOf.ints_gt (numAt xs) (fun _ _=>intItems_at),fun v h' tk hP hk=>?_⟩
 ·rcases List.mem_cons.mp hb with rfl | hb
  ·exact Heap.lt_size (Heap.get?_push_size _ rfl)
  ·obtain rfl:=List.mem_singleton.mp hb
   exact Heap.lt_size (Heap.get?_push_of_some _ ho)
 ·exact h v h' tk (by simpa [intItems] using hP) fun b o e=>hk b o (fun hb=>absurd (Heap.lt_size e) ((List.mem_singleton.mp hb) ▸ Nat.lt_irrefl _)) (Heap.get?_push_of_some _ e)
end
noncomputable def rMxI (K:PySem.W.Frag):List V -> Hp -> VK -> Prop:=fun xs H Q=>∃ (a:Addr) (ns:List Int),xs = [.ref a] /\ (SqL K H a (ns.map V.int) \/ SqT K H a (ns.map V.int)) /\ 0 < ns.length /\ ∀ M,M ∈ ns -> (∀ y ∈ ns,y <= M) -> Q (.int M) H
theorem call_mxI {X:Cx} {K:PySem.W.Frag} (hK:X.K = K) (hc:X.calm = true):CallR X (.builtin "max") (rMxI K):=by
 subst hK
 intro pins s σ H xs us Q I r h
 obtain ⟨a,ns,rfl,hq,hp,q⟩:=h
 obtain ⟨u,rfl,ru⟩:=vals1 r
 cases ru
 have hh:=I.ok.hd hc
 have fin:∀ {its:List Value} {zs:Array (Int × Tok)},Vals (ns.map V.int) its -> its.toArray = intItems zs -> 0 < zs.size /\ ∀ (v:Value) (h':Heap) (tk:Nat),(intItems zs)[argBest (fun i j=>decide (numAt zs i > numAt zs j)) (zs.size - 1)]? = some v -> (∀ b o,s.heap.get? b = some o -> h'.get? b = some o) -> EP X pins σ Q v { s with heap:=h',toks:=tk }:=by
  intro its zs rv e
  have hi:IntsAre its ns:=intsAre_of rv
  have hns:ns = zs.toList.map (·.1):=by rw [<- nums_intItems,<- e]; exact (show numsOf its.toArray.toList = ns from hi.numsOf).symm
  have hsz:0 < zs.size:=by have h3:=hp; rw [hns,List.length_map,Array.length_toList] at h3; exact h3
  refine ⟨hsz,fun v h' tk hv hk=>?_⟩
  obtain ⟨t,rfl⟩:=intItems_at hv
  obtain ⟨h1,h2⟩:=argBest_gt (numAt zs) (zs.size - 1)
  refine ⟨.int _,H,I.kept hk,⟨t,rfl⟩,q _ ?_ fun y hy=>?_⟩
  ·rw [hns,numAt_eq]; exact getD_mem (by rw [List.length_map,Array.length_toList]; omega)
  ·rw [hns] at hy
   obtain ⟨j,hj,rfl⟩:=mem_getD hy
   rw [List.length_map,Array.length_toList] at hj
   rw [<- numAt_eq]; exact h2 j (by omega)
 rcases hq with hq | hq
 ·obtain ⟨its,rv,p,hz⟩:=I.list hq
  obtain ⟨zs,hx⟩:=(intsAre_of rv).allInts.items
  obtain ⟨hs,f⟩:=fin rv hx
  exact max_intList hh (hx ▸ p.isList) hs f
 ·obtain ⟨its,rv,p,hz⟩:=I.tuple hq
  obtain ⟨zs,hx⟩:=(intsAre_of rv).allInts.items
  obtain ⟨hs,f⟩:=fin rv hx
  exact max_tupD hh (show s.heap.IsTuple a (intItems zs) from hx ▸ p) hs f
noncomputable def rCountT (n:Int):V -> Hp -> VK -> Prop:=fun x H Q=>∃ (a:Addr) (ns:List Int),x = .ref a /\ H a = some (.tup (ns.map V.int)) /\ Q (.int (ns.count n:Nat)) H
theorem pe_count {X:Cx} {o:Expr} {to:TE} {n:Int} {k:Nat} {p2 apos cpos:Pos} (ho:PE X o to)
  (hbase:attributeBase o "count" X.env (eval o X.env) = eval o X.env:=by rfl) (hline:(apos.endLine == cpos.line) = true:=by rfl) :
  PE X (.Call (.Attribute o "count" apos) [.Constant (.int n) k p2] [] cpos) (tUn (rCountT n) to):=by
 intro pins s σ H Q I h
 refine wpAny_Call_method_late hbase rfl hline rfl (thn (ho pins s σ H _ I h) fun v s1 ⟨x,H1,I1,r1,q1⟩=>?_)
 obtain ⟨a,ns,rfl,hH,q⟩:=q1
 cases r1
 obtain ⟨z,its,rv,⟨cls,dd,data,sl⟩,e,c,m,d,dn⟩:=(show ObjOk X.prog X.w H1 s1.heap a (.tup (ns.map V.int)) from I1.hok a _ hH)
 simp only at c d dn
 subst c d dn
 refine ⟨"tuple","tuple.count",PySem.F.plainAttrs_tuple,PySem.F.slot_tuple_count,PySem.F.type_tuple_count,⟨_,e,rfl⟩,fun b eb=>by cases eb; exact ⟨_,e,rfl⟩,?_⟩
 have hA:=(pa_cons (X:=X) (e:=.Constant (.int n) k p2) pe_int pa_nil (L3.starEach_of rfl)) cpos pins s1 σ H1 (fun xs H2=>xs = [.int n] /\ Q (.int (ns.count n:Nat)) H2 /\ H2 a = some (.tup (ns.map V.int))) I1 ⟨rfl,q,hH⟩
 have hs:starEach [Expr.Constant (.int n) k p2] X.env = [(false,eval (.Constant (.int n) k p2) X.env)]:=L3.starEach_of rfl
 rw [hs] at hA ⊢
 refine Calls.callWith_builtin rfl (Calls.evalArgs_plain ?_)
 refine thn hA fun us s2 ⟨vs,H2,I2,r2,q2⟩=>?_
 obtain ⟨rfl,q2,hH2⟩:=q2
 obtain ⟨u,rfl,⟨t,rfl⟩⟩:=vals1 r2
 obtain ⟨z,its,rv,⟨cls,dd,data,sl⟩,e,c,m,d,dn⟩:=(show ObjOk X.prog X.w H2 s2.heap a (.tup (ns.map V.int)) from I2.hok a _ hH2)
 simp only at c d dn
 subst c d dn
 have hi:IntsAre its ns:=intsAre_of rv
 refine call_meets PySem.F.slot_tuple_count ⟨_,e,rfl⟩ PySem.F.entry_tuple_count (PySem.F.args_tuple_count_2 _ _) (SeqAt.tuple_countAt a its.toArray m none sl (.int n t) (isInt n)) ⟨e,fun y hy=>(eq_isInt n t hi y (by simpa using hy)).at _ _,?_⟩
 rw [show its.toArray.toList = its from rfl,countP_isInt n hi]
 exact ⟨.int (ns.count n:Nat),H2,I2.tok _,⟨_,rfl⟩,q2⟩
end L2
namespace L3
open PySem PySem.Spec PyProof.Rows L2
section
variable {K:Fg} {σ:L2.St} {H:Hp} {v:V} {Q:L2.St -> Hp -> Prop}
end
noncomputable def fMnI:D -> (Sl -> Prop) -> Prop
 | .list ds,Q=>∃ ns:List Int,ds = ns.map PyData.int /\ 0 < ns.length /\ ∀ M,M ∈ ns -> (∀ y ∈ ns,M <= y) -> Q (.fz (.int M))
 | .tuple ds,Q=>∃ ns:List Int,ds = ns.map PyData.int /\ 0 < ns.length /\ ∀ M,M ∈ ns -> (∀ y ∈ ns,M <= y) -> Q (.fz (.int M))
 | _,_=>False
noncomputable def fMxI:D -> (Sl -> Prop) -> Prop
 | .list ds,Q=>∃ ns:List Int,ds = ns.map PyData.int /\ 0 < ns.length /\ ∀ M,M ∈ ns -> (∀ y ∈ ns,y <= M) -> Q (.fz (.int M))
 | .tuple ds,Q=>∃ ns:List Int,ds = ns.map PyData.int /\ 0 < ns.length /\ ∀ M,M ∈ ns -> (∀ y ∈ ns,y <= M) -> Q (.fz (.int M))
 | _,_=>False
theorem ok_mxI {K:Fg}:OpOk K (rMxI K) (o1 fMxI):=ok1 fun G F σ H ρ x d Q Qd R h1 w k=>by
 match d,h1,w with
 | .list ds,h1,⟨ns,e,hp,w⟩ =>
  subst e
  obtain ⟨a,us,rfl,e1,d1⟩:=h1.list R.sub
  have:=d1.intsV
  subst this
  exact ⟨a,ns,rfl,.inl (SqL.of e1),hp,fun M m1 m2=>k _ H F (.fz _) (Sub.refl _) R (Da.int _) (w M m1 m2)⟩
 | .tuple ds,h1,⟨ns,e,hp,w⟩ =>
  subst e
  obtain ⟨a,us,rfl,_,e1,d1⟩:=h1.tuple R.sub
  have:=d1.intsV
  subst this
  exact ⟨a,ns,rfl,.inr (SqT.of e1),hp,fun M m1 m2=>k _ H F (.fz _) (Sub.refl _) R (Da.int _) (w M m1 m2)⟩
noncomputable def fCountT (n:Int):D -> (Sl -> Prop) -> Prop
 | .tuple ds,Q=>∃ ns:List Int,ds = ns.map PyData.int /\ Q (.fz (.int (ns.count n:Nat)))
 | _,_=>False
theorem ok_countT {K:Fg} {n:Int}:OpOk K (r1L (rCountT n)) (o1 (fCountT n)):=ok1 fun G F σ H ρ x d Q Qd R h1 w k=>by
 match d,h1,w with
 | .tuple ds,h1,⟨ns,e,w⟩ =>
  subst e
  obtain ⟨a,us,rfl,_,e1,d1⟩:=h1.tuple R.sub
  have:=d1.intsV
  subst this
  exact ⟨_,rfl,a,ns,rfl,e1,k _ H F (.fz _) (Sub.refl _) R (Da.int _) w⟩
end L3
namespace L3
open PySem PySem.Spec L2
section
variable {K:Fg} {G:Gh} {F F' H H':Hp} {σ:L2.St} {ρ:Ev}
noncomputable def okRes:Sl -> Bool
 | .fz d=>noMut d
 | .ow (.list ds)=>noMutAll ds
 | _=>false
noncomputable def dCallL (con:Con) (as:List AD):TD:=fun ρ Q=>dArgs as ρ fun xs ρ1=>looksQ ρ1 xs fun ds=>con (ds.map Sl.fz) fun r _=>okRes r = true /\ Q r ρ1
theorem Res.calledL {xs:List Opd} (R:Rel K G F σ H ρ) {σ1:L2.St} {ρ1:Ev} {v:V} {r:Sl} (R':Rel K ⟨H,lend σ ρ xs F H,fun _=>none⟩ F' σ1 H' ρ1) (q:Res K ⟨H,lend σ ρ xs F H,fun _=>none⟩ F' H' σ1 ρ1 v r)
  (hl:okRes r = true):Res K G (unlend σ ρ xs F') H' σ ρ v r:=by
 have tp:∀ b ys,F' b = some (.tup ys) -> unlend σ ρ xs F' b = some (.tup ys):=fun b ys e=>by
  have n:¬ LentA σ ρ xs b:=fun z=>by
   obtain ⟨_,_,o,_,_,_,_,h,w⟩:=z.own R
   have e2:=R'.sub0 b o (by show lend σ ρ xs F H b = some o; rw [lend_is z]; exact h)
   rw [e] at e2; cases e2
   exact w
  rw [unlend_not n]; exact e
 cases r with
 | fz d=>exact Da.noMut tp q hl
 | io d=>exact q.elim
 | ow d =>
  obtain ⟨a,o,h1,h2,h3,h4,h5,_⟩:=q
  have h5:H a = none:=h5
  have nl:¬ LentA σ ρ xs a:=fun z=>by
   obtain ⟨_,_,o,_,_,_,_,h,w⟩:=z.own R
   rw [h5] at h; cases h
  refine ⟨a,o,h1,by rw [unlend_not nl]; exact h2,h3,?_,R.h0 h5,fun i s es w z=>?_⟩
  ·cases d with
   | list ds =>
    cases o with
    | lst ys=>exact DaAll.noMut tp h4 hl
    | _=>exact h4.elim
   | _=>cases hl
  ·obtain ⟨a',o',g1,_,g3,_⟩:=R.ow i s es w
   rw [z] at g1; cases g1
   rw [h5] at g3; cases g3
theorem l_callL {con:Con} {as:List AD} {E:XK} {Q:VK} (h:lift K (dCallL con as) σ H Q):tCall (conSp K con) [] E (tArgs (as.map (argT K))) σ H Q:=by
 obtain ⟨G,F,ρ,Qd,R,w,k⟩:=h
 refine args_ok R w fun vs H1 F1 xs ρ1 s1 R1 o w1=>?_
 obtain ⟨ds,da,w1⟩:=lend_looks (xs:=xs) R1 (fun y hy=>hy) o w1
 rw [List.append_nil]
 refine ⟨_,_,ds.map Sl.fz,_,rel_call (lend_le R1) da,w1,fun v H' F' r ρ' s' R' r' q=>?_⟩
 obtain ⟨sb,R2⟩:=R1.called R'
 exact k v H' _ r ρ1 (s1.trans sb) R2 (Res.calledL R1 R' r' q.1) q.2
end
section
variable {X:Cx} {K:Fg} {e:Expr} {es:List Expr} {as:List AD} {x:Str} {p pos:Pos}
theorem w_fnL {k:Nat} {ps:List Str} {con:Con} (C:Cal X.prog X.w X.K X.mg X.base k x ps (conSp K con)) (hr:Room k X.A) (ha:WA X (e :: es) (tArgs (as.map (argT K)))) (hg:Gl X x:=by rfl) (hdb:(x == ("__debug__":Str)) = false:=by decide)
  (he:notStar e = true:=by rfl) (hpl:es.all notStar = true:=by rfl):WE X (.Call (.Name x p) (e :: es) [] pos) (lift K (dCallL con as)):=⟨peM (pe_fn C hr ha.h hg hdb (starEach_of he) (plain_of hpl)) l_callL⟩
end
end L3
namespace L2
open PySem PySem.Spec PyProof.Rows PySem.W
section
variable {prog:Program} {w:World} {A:Around} {E:Value -> Shared -> Prop} {s:Shared} {κ:SortKind} {vs:List Value}
end
end L2
namespace L3
open PySem PySem.Spec PyProof.Rows L2
end L3
namespace SG
open PySem PyProof.Rows
noncomputable def gal:Bool -> Keyed -> Array Keyed -> Nat -> Nat -> Nat -> StateT SortSt Sem (Option Nat):=sortPriv% PySem.Builtin.gallop
noncomputable def mLo:Array Keyed -> Array Keyed -> StateT SortSt Sem (Array Keyed):=sortPriv% PySem.Builtin.mergeLo
noncomputable def mHi:Array Keyed -> Array Keyed -> StateT SortSt Sem (Array Keyed):=sortPriv% PySem.Builtin.mergeHi
noncomputable abbrev setG (z:SortSt) (g:Nat):SortSt:=SortSt.mk' (kindOf z) (arrOf z) (pendingOf z) g (failedOf z)
theorem gal_eq (lf:Bool) (ky:Keyed) (xs:Array Keyed) (bs n ht:Nat):gal lf ky xs bs n ht = (do
    let ov (i:Nat):StateT SortSt Sem (Option Bool):=do
      let z <- elem' xs (bs + i)
      if lf then lt' z ky else return (<- lt' ky z).map (!·)
    let mut la:=0
    let mut o:=1
    let mut l:=0
    let mut h:=0
    let some rt <- ov ht | return none
    if rt then
      let mx:=n - ht
      for _ in [0:n] do
        if o ≥ mx then break
        let some mo <- ov (ht + o) | return none
        if !mo then break
        la:=o
        o:=2 * o + 1
      l:=ht + la + 1
      h:=ht + min o mx
    else
      let mx:=ht + 1
      for _ in [0:n] do
        if o ≥ mx then break
        let some fo <- ov (ht - o) | return none
        if fo then break
        la:=o
        o:=2 * o + 1
      l:=ht + 1 - min o mx
      h:=ht - la
    for _ in [0:n] do
      if l ≥ h then break
      let m:=l + (h - l) / 2
      let some mo <- ov m | return none
      if mo then l:=m + 1 else h:=m
    return some h):=rfl
section
variable {prog:Program} {w:World} {A:Around} {E:Value -> Shared -> Prop} {s:Shared} {κ:SortKind} {rk:Keyed -> Nat} {S:Keyed -> Prop}
noncomputable def Asks (prog:Program) (w:World) (A:Around) (s:Shared) (κ:SortKind) (rk:Keyed -> Nat) (S:Keyed -> Prop):Prop :=
 ∀ x y:Keyed,S x -> S y -> ∀ Q:Bool -> Shared -> Prop,Q (decide (rk x < rk y)) s -> wpAny (model prog w) A (keyLt' κ x.1 y.1) Q (fun _ _=>False) s
theorem w_lt (q:Asks prog w A s κ rk S) {x y:Keyed} {st:SortSt} {Q:Option Bool -> SortSt -> Prop} (hk:kindOf st = κ) (hx:S x) (hy:S y) (h:Q (some (decide (rk x < rk y))) st) :
  wpS (model prog w) A E s (lt' x y) Q st:=by
 rw [lt'_eq]
 refine wpS_bind (wpS_get ?_)
 rw [hk]
 refine wpS_bind (wpS_lift (wpAny_attempt (wpAny_mono (q x y hx hy (fun b s'=>b = decide (rk x < rk y) /\ s' = s) ⟨rfl,rfl⟩) (fun b s' e=>?_) fun _ _ e=>e.elim)))
 obtain ⟨rfl,rfl⟩:=e
 exact ⟨rfl,wpS_pure h⟩
theorem w_elem {xs:Array Keyed} {i:Nat} {st:SortSt} {Q:Keyed -> SortSt -> Prop} (hi:i < xs.size) (h:Q xs[i] st):wpS (model prog w) A E s (elem' xs i) Q st:=by
 rw [elem'_eq,getElem?_pos xs i hi]
 exact wpS_pure h
noncomputable def Ov (prog:Program) (w:World) (A:Around) (E:Value -> Shared -> Prop) (s:Shared) (n:Nat) (b:Nat -> Bool) (st:SortSt) (ov:Nat -> StateT SortSt Sem (Option Bool)):Prop :=
 ∀ i,i < n -> ∀ Q:Option Bool -> SortSt -> Prop,Q (some (b i)) st -> wpS (model prog w) A E s (ov i) Q st
noncomputable def binL (ov:Nat -> StateT SortSt Sem (Option Bool)) (n l₀ h₀:Nat):StateT SortSt Sem (Option Nat):=do
 let mut l:=l₀
 let mut h:=h₀
 for _ in [0:n] do
  if l ≥ h then break
  let m:=l + (h - l) / 2
  let some mo <- ov m | return none
  if mo then l:=m + 1 else h:=m
 return some h
theorem w_bin {ov:Nat -> StateT SortSt Sem (Option Bool)} {n l h':Nat} {b:Nat -> Bool} {st:SortSt} {Q:Option Nat -> SortSt -> Prop} (hO:Ov prog w A E s n b st ov)
  (hm:∀ i j,i <= j -> j < n -> b j = true -> b i = true) (h1:l <= h') (h2:h' <= n) (h3:∀ i,i < l -> b i = true) (h4:∀ i,h' <= i -> i < n -> b i = false)
  (h:∀ k,k <= n -> (∀ i,i < k -> b i = true) -> (∀ i,k <= i -> i < n -> b i = false) -> Q (some k) st):wpS (model prog w) A E s (binL ov n l h') Q st:=by
 unfold binL
 refine wpS_bind (wpS_mono (wpS_forRange (I:=fun x c st'=>st' = st /\ ∃ l h',c = (none,l,h') /\ l <= h' /\ h' <= n /\ h' - l <= n - x /\ (∀ i,i < l -> b i = true) /\ ∀ i,h' <= i -> i < n -> b i = false)
   (Q:=fun c st'=>st' = st /\ ∃ k,c = (none,k,k) /\ k <= n /\ (∀ i,i < k -> b i = true) /\ ∀ i,k <= i -> i < n -> b i = false) ?step ?fin ⟨rfl,l,h',rfl,h1,h2,by omega,h3,h4⟩) ?post)
 case fin =>
  rintro c st' ⟨rfl,l,h',rfl,a1,a2,a3,a4,a5⟩
  have:l = h':=by omega
  subst this
  exact ⟨rfl,l,rfl,a2,a4,a5⟩
 case post =>
  rintro c st' ⟨rfl,k,rfl,a1,a2,a3⟩
  exact wpS_pure (h k a1 a2 a3)
 case step =>
  rintro x c st' _ hx ⟨rfl,l,h',rfl,a1,a2,a3,a4,a5⟩
  dsimp only
  by_cases hge:l ≥ h'
  ·rw [if_pos hge]
   have:l = h':=by omega
   subst this
   exact wpS_pure ⟨rfl,l,rfl,a2,a4,a5⟩
  ·rw [if_neg hge]
   refine wpS_bind (hO _ (by omega) _ ?_)
   cases hb:b (l + (h' - l) / 2) with
   | true =>
    refine wpS_pure ⟨rfl,_,_,rfl,by omega,a2,by omega,fun i hi=>hm _ _ (by omega) (by omega) hb,a5⟩
   | false =>
    refine wpS_pure ⟨rfl,_,_,rfl,by omega,by omega,by omega,a4,fun i i1 i2=>?_⟩
    cases hbi:b i with
    | false=>rfl
    | true=>rw [hm _ _ i1 i2 hbi] at hb; cases hb
theorem w_gal {lf:Bool} {ky:Keyed} {xs:Array Keyed} {bs n ht:Nat} {st:SortSt} {Q:Option Nat -> SortSt -> Prop} {b:Nat -> Bool}
  (hO:Ov prog w A E s n b st (fun i=>do
    let z <- elem' xs (bs + i)
    if lf then lt' z ky else return (<- lt' ky z).map (!·)))
  (hm:∀ i j,i <= j -> j < n -> b j = true -> b i = true) (hh:ht < n)
  (h:∀ k,k <= n -> (∀ i,i < k -> b i = true) -> (∀ i,k <= i -> i < n -> b i = false) -> Q (some k) st):wpS (model prog w) A E s (gal lf ky xs bs n ht) Q st:=by
 rw [gal_eq]
 generalize hov:(fun i=>(do
     let z <- elem' xs (bs + i)
     if lf then lt' z ky else return (<- lt' ky z).map (!·):StateT SortSt Sem (Option Bool))) = ov at hO
 dsimp only
 clear hov
 refine wpS_bind (hO ht hh _ ?_)
 cases hb:b ht with
 | true =>
  dsimp only
  rw [if_pos rfl]
  refine wpS_bind (wpS_mono (wpS_forRange (I:=fun x c st'=>st' = st /\ ∃ la o:Nat,c = (none,la,o) /\ la < o /\ x + 1 <= o /\ ht + la < n /\ b (ht + la) = true)
    (Q:=fun c st'=>st' = st /\ ∃ la o:Nat,c = (none,la,o) /\ la < o /\ ht + la < n /\ b (ht + la) = true /\ (n - ht <= o \/ b (ht + o) = false)) ?step ?fin ⟨rfl,0,1,rfl,by omega,by omega,by omega,hb⟩) ?post)
  case fin =>
   rintro c st' ⟨rfl,la,o,rfl,a1,a2,a3,a4⟩
   exact ⟨rfl,la,o,rfl,a1,a3,a4,.inl (by omega)⟩
  case step =>
   rintro x c st' _ hx ⟨rfl,la,o,rfl,a1,a2,a3,a4⟩
   dsimp only
   by_cases hge:o ≥ n - ht
   ·rw [if_pos hge]
    exact wpS_pure ⟨rfl,la,o,rfl,a1,a3,a4,.inl hge⟩
   ·rw [if_neg hge]
    refine wpS_bind (hO _ (by omega) _ ?_)
    cases hbo:b (ht + o) with
    | true=>exact wpS_pure ⟨rfl,o,2 * o + 1,rfl,by omega,by omega,by omega,hbo⟩
    | false=>exact wpS_pure ⟨rfl,la,o,rfl,a1,a3,a4,.inr hbo⟩
  case post =>
   rintro c st' ⟨rfl,la,o,rfl,a1,a3,a4,a5⟩
   refine w_bin hO hm (l:=ht + la + 1) (h':=ht + min o (n - ht)) (by omega) (by omega) (fun i hi=>hm _ _ (by omega) a3 a4) (fun i i1 i2=>?_) h
   rcases a5 with a5 | a5
   ·omega
   ·cases hbi:b i with
    | false=>rfl
    | true=>rw [hm (ht + o) i (by omega) i2 hbi] at a5; cases a5
 | false =>
  dsimp only
  rw [if_neg (by decide)]
  refine wpS_bind (wpS_mono (wpS_forRange (I:=fun x c st'=>st' = st /\ ∃ la o:Nat,c = (none,la,o) /\ la < o /\ x + 1 <= o /\ la <= ht /\ b (ht - la) = false)
    (Q:=fun c st'=>st' = st /\ ∃ la o:Nat,c = (none,la,o) /\ la < o /\ la <= ht /\ b (ht - la) = false /\ (ht + 1 <= o \/ b (ht - o) = true)) ?step2 ?fin2 ⟨rfl,0,1,rfl,by omega,by omega,by omega,hb⟩) ?post2)
  case fin2 =>
   rintro c st' ⟨rfl,la,o,rfl,a1,a2,a3,a4⟩
   exact ⟨rfl,la,o,rfl,a1,a3,a4,.inl (by omega)⟩
  case step2 =>
   rintro x c st' _ hx ⟨rfl,la,o,rfl,a1,a2,a3,a4⟩
   dsimp only
   by_cases hge:o ≥ ht + 1
   ·rw [if_pos hge]
    exact wpS_pure ⟨rfl,la,o,rfl,a1,a3,a4,.inl hge⟩
   ·rw [if_neg hge]
    refine wpS_bind (hO _ (by omega) _ ?_)
    cases hbo:b (ht - o) with
    | false=>exact wpS_pure ⟨rfl,o,2 * o + 1,rfl,by omega,by omega,by omega,hbo⟩
    | true=>exact wpS_pure ⟨rfl,la,o,rfl,a1,a3,a4,.inr hbo⟩
  case post2 =>
   rintro c st' ⟨rfl,la,o,rfl,a1,a3,a4,a5⟩
   have up:∀ i,ht - la <= i -> i < n -> b i = false:=fun i i1 i2=>by
    cases hbi:b i with
    | false=>rfl
    | true=>rw [hm (ht - la) i i1 i2 hbi] at a4; cases a4
   refine w_bin hO hm (l:=ht + 1 - min o (ht + 1)) (h':=ht - la) (by omega) (by omega) (fun i hi=>?_) up h
   rcases a5 with a5 | a5
   ·omega
   ·exact hm _ (ht - o) (by omega) (by omega) a5
theorem w_gallop (q:Asks prog w A s κ rk S) {lf:Bool} {ky:Keyed} {xs:Array Keyed} {bs n ht:Nat} {st:SortSt} {Q:Option Nat -> SortSt -> Prop} (hk:kindOf st = κ) (hy:S ky) (hS:∀ i (h:i < xs.size),S xs[i])
  (hn:bs + n <= xs.size) (hs:∀ i j (h:j < xs.size) (h2:i <= j),bs <= i -> j < bs + n -> rk (xs[i]'(by omega)) <= rk xs[j]) (hh:ht < n)
  (h:∀ k,k <= n -> (∀ i (h:i < xs.size),bs <= i -> i < bs + k -> if lf = true then rk xs[i] < rk ky else rk xs[i] <= rk ky) -> (∀ i (h:i < xs.size),bs + k <= i -> i < bs + n -> if lf = true then rk ky <= rk xs[i] else rk ky < rk xs[i]) -> Q (some k) st) :
  wpS (model prog w) A E s (gal lf ky xs bs n ht) Q st:=by
 refine w_gal (b:=fun i=>if hi:bs + i < xs.size then (if lf = true then decide (rk xs[bs + i] < rk ky) else !decide (rk ky < rk xs[bs + i])) else false) ?_ ?_ hh ?_
 ·intro i hi Q hQ
  have hi':bs + i < xs.size:=by omega
  simp only [dif_pos hi'] at hQ
  refine wpS_bind (w_elem hi' ?_)
  cases lf with
  | true=>exact w_lt q hk (hS _ _) hy hQ
  | false=>exact wpS_bind (w_lt q hk hy (hS _ _) (wpS_pure hQ))
 ·intro i j hij hj hb
  have hj':bs + j < xs.size:=by omega
  have hi':bs + i < xs.size:=by omega
  have hle:=hs (bs + i) (bs + j) hj' (by omega) (by omega) (by omega)
  simp only [dif_pos hj'] at hb
  simp only [dif_pos hi']
  cases lf with
  | true=>simp at hb ⊢; omega
  | false=>simp at hb ⊢; omega
 ·intro k hk h1 h2
  refine h k hk (fun i hi i1 i2=>?_) (fun i hi i1 i2=>?_)
  ·have:=h1 (i - bs) (by omega)
   have e:bs + (i - bs) = i:=by omega
   simp only [e,dif_pos hi] at this
   cases lf with
   | true=>simpa using this
   | false=>simpa using this
  ·have:=h2 (i - bs) (by omega) (by omega)
   have e:bs + (i - bs) = i:=by omega
   simp only [e,dif_pos hi] at this
   cases lf with
   | true=>simpa using this
   | false=>simpa using this
end
end SG
namespace SG
open PySem PyProof.Rows
section
variable {α:Type} {le:α -> α -> Prop} {a b out:List α} {i j:Nat}
structure Mg (le:α -> α -> Prop) (a b out:List α) (i j:Nat):Prop where
 perm:out.Perm (a.take i ++ b.take j)
 srt:out.Pairwise le
 la:∀ x ∈ out,∀ y ∈ a.drop i,le x y
 lb:∀ x ∈ out,∀ y ∈ b.drop j,le x y
theorem Mg.comm (h:Mg le a b out i j):Mg le b a out j i:=⟨h.perm.trans List.perm_append_comm,h.srt,h.lb,h.la⟩
theorem Mg.takeA (h:Mg le a b out i j) (ha:a.Pairwise le) (k:Nat) (hk:∀ x ∈ (a.drop i).take k,∀ y ∈ b.drop j,le x y):Mg le a b (out ++ (a.drop i).take k) (i + k) j where
 perm:=by
  rw [List.take_add]
  refine (h.perm.append_right _).trans ?_
  rw [List.append_assoc,List.append_assoc]
  exact List.Perm.append_left _ List.perm_append_comm
 srt:=List.pairwise_append.mpr ⟨h.srt,(ha.sublist (List.drop_sublist _ _)).sublist (List.take_sublist _ _),fun x hx y hy=>h.la x hx y (List.mem_of_mem_take hy)⟩
 la:=fun x hx y hy=>by
  rw [<- List.drop_drop] at hy
  rcases List.mem_append.mp hx with hx | hx
  ·exact h.la x hx y (List.mem_of_mem_drop hy)
  ·have p:=ha.sublist (List.drop_sublist i _)
   rw [<- List.take_append_drop k (a.drop i)] at p
   exact (List.pairwise_append.mp p).2.2 x hx y hy
 lb:=fun x hx y hy=>by
  rcases List.mem_append.mp hx with hx | hx
  ·exact h.lb x hx y hy
  ·exact hk x hx y hy
theorem Mg.oneA (h:Mg le a b out i j) (ha:a.Pairwise le) (hi:i < a.length) (hk:∀ y ∈ b.drop j,le a[i] y):Mg le a b (out ++ [a[i]]) (i + 1) j:=by
 have e:(a.drop i).take 1 = [a[i]]:=by rw [List.drop_eq_getElem_cons hi]; rfl
 have:=h.takeA ha 1 (by rw [e]; simpa using hk)
 rwa [e] at this
theorem Mg.fin (h:Mg le a b out i j) (ha:a.Pairwise le) (hb:b.Pairwise le) (hx:∀ x ∈ a.drop i,∀ y ∈ b.drop j,le x y):(out ++ a.drop i ++ b.drop j).Perm (a ++ b) /\ (out ++ a.drop i ++ b.drop j).Pairwise le:=by
 constructor
 ·have e:(a.take i ++ b.take j ++ a.drop i ++ b.drop j).Perm (a.take i ++ a.drop i ++ (b.take j ++ b.drop j)):=by
   simp only [List.append_assoc]
   refine List.Perm.append_left _ ?_
   rw [<- List.append_assoc,<- List.append_assoc]
   exact List.perm_append_comm.append_right _
  rw [List.take_append_drop,List.take_append_drop] at e
  exact ((h.perm.append_right _).append_right _).trans e
 ·rw [List.append_assoc]
  refine List.pairwise_append.mpr ⟨h.srt,List.pairwise_append.mpr ⟨ha.sublist (List.drop_sublist _ _),hb.sublist (List.drop_sublist _ _),hx⟩,fun x hx y hy=>?_⟩
  rcases List.mem_append.mp hy with hy | hy
  ·exact h.la x hx y hy
  ·exact h.lb x hx y hy
theorem Mg.finC (h:Mg le a b out i j) (ha:a.Pairwise le) (hb:b.Pairwise le) (hx:∀ x ∈ b.drop j,∀ y ∈ a.drop i,le x y):(out ++ b.drop j ++ a.drop i).Perm (a ++ b) /\ (out ++ b.drop j ++ a.drop i).Pairwise le:=by
 obtain ⟨h1,h2⟩:=h.comm.fin hb ha hx
 exact ⟨h1.trans List.perm_append_comm,h2⟩
end
noncomputable abbrev LoT:=Option (Array Keyed) × Array Keyed × Nat × Nat × Nat × Nat × Nat
noncomputable abbrev LoS:=Option (Array Keyed) × Array Keyed × Nat × Nat × Nat × Nat
noncomputable abbrev LoO:=Option (Array Keyed) × Array Keyed × Nat × Nat × Nat
section
variable (x y:Array Keyed)
noncomputable def dn (o:Array Keyed) (i j:Nat):Array Keyed:=o ++ x.extract i x.size ++ y.extract j y.size
noncomputable def ls (o:Array Keyed) (i j:Nat):Array Keyed:=o ++ y.extract j y.size ++ x.extract i x.size
noncomputable def lo2 (o:Array Keyed) (i j g ac bc:Nat):StateT SortSt Sem (ForInStep LoT):=do
 let z <- elem' x i
 if (i + 1 + 1 == x.size) = true then pure (.done (some (ls x y (o.push z) (i + 1) j),o.push z,i + 1,j,g,ac,bc))
 else if (decide (ac < 7) && decide (bc < 7)) = true then pure (.done (none,o.push z,i + 1,j,g,ac,bc))
 else pure (.yield (none,o.push z,i + 1,j,g,ac,bc))
noncomputable def lo1 (o:Array Keyed) (i j g ac bc:Nat):StateT SortSt Sem (ForInStep LoT):=do
 let z <- elem' y j
 if (j + 1 == y.size) = true then pure (.done (some (dn x y (o.push z) i (j + 1)),o.push z,i,j + 1,g,ac,bc))
 else do
  let u <- elem' x i
  let some k <- gal true u y (j + 1) (y.size - (j + 1)) 0 | pure (.done (some (dn x y (o.push z) i (j + 1)),o.push z,i,j + 1,g,ac,bc))
  if k > 0 then
   if (j + 1 + k == y.size) = true then pure (.done (some (dn x y (o.push z ++ y.extract (j + 1) (j + 1 + k)) i (j + 1 + k)),o.push z ++ y.extract (j + 1) (j + 1 + k),i,j + 1 + k,g,ac,k))
   else lo2 x y (o.push z ++ y.extract (j + 1) (j + 1 + k)) i (j + 1 + k) g ac k
  else lo2 x y (o.push z) i (j + 1) g ac k
noncomputable def lo0 (o:Array Keyed) (i j g ac bc:Nat):StateT SortSt Sem (ForInStep LoT):=do
 modify fun v=>setG v g
 let z <- elem' y j
 let some k <- gal false z x i (x.size - i) 0 | pure (.done (some (dn x y o i j),o,i,j,g,ac,bc))
 if k > 0 then
   if (i + k + 1 == x.size) = true then pure (.done (some (ls x y (o ++ x.extract i (i + k)) (i + k) j),o ++ x.extract i (i + k),i + k,j,g,k,bc))
   else if (i + k == x.size) = true then pure (.done (some (dn x y (o ++ x.extract i (i + k)) (i + k) j),o ++ x.extract i (i + k),i + k,j,g,k,bc))
   else lo1 x y (o ++ x.extract i (i + k)) (i + k) j g k bc
 else lo1 x y o i j g k bc
noncomputable def loG (t:LoT):StateT SortSt Sem (ForInStep LoT) :=
 if t.2.2.2.2.1 > 1 then lo0 x y t.2.1 t.2.2.1 t.2.2.2.1 (t.2.2.2.2.1 - 1) t.2.2.2.2.2.1 t.2.2.2.2.2.2
 else lo0 x y t.2.1 t.2.2.1 t.2.2.2.1 t.2.2.2.2.1 t.2.2.2.2.2.1 t.2.2.2.2.2.2
noncomputable def loS (g:Nat) (t:LoS):StateT SortSt Sem (ForInStep LoS):=do
 let z <- elem' y t.2.2.2.1
 let u <- elem' x t.2.2.1
 let some yw <- lt' z u | pure (.done (some (dn x y t.2.1 t.2.2.1 t.2.2.2.1),t.2.1,t.2.2.1,t.2.2.2.1,t.2.2.2.2.1,t.2.2.2.2.2))
 if yw = true then do
   let z <- elem' y t.2.2.2.1
   if (t.2.2.2.1 + 1 == y.size) = true then pure (.done (some (dn x y (t.2.1.push z) t.2.2.1 (t.2.2.2.1 + 1)),t.2.1.push z,t.2.2.1,t.2.2.2.1 + 1,0,t.2.2.2.2.2 + 1))
   else if t.2.2.2.2.2 + 1 ≥ g then pure (.done (none,t.2.1.push z,t.2.2.1,t.2.2.2.1 + 1,0,t.2.2.2.2.2 + 1))
   else pure (.yield (none,t.2.1.push z,t.2.2.1,t.2.2.2.1 + 1,0,t.2.2.2.2.2 + 1))
 else do
   let z <- elem' x t.2.2.1
   if (t.2.2.1 + 1 + 1 == x.size) = true then pure (.done (some (ls x y (t.2.1.push z) (t.2.2.1 + 1) t.2.2.2.1),t.2.1.push z,t.2.2.1 + 1,t.2.2.2.1,t.2.2.2.2.1 + 1,0))
   else if t.2.2.2.2.1 + 1 ≥ g then pure (.done (none,t.2.1.push z,t.2.2.1 + 1,t.2.2.2.1,t.2.2.2.2.1 + 1,0))
   else pure (.yield (none,t.2.1.push z,t.2.2.1 + 1,t.2.2.2.1,t.2.2.2.2.1 + 1,0))
noncomputable def loB (t:LoO):StateT SortSt Sem (ForInStep LoO):=do
 let v <- forIn [:x.size + y.size] ((none,t.2.1,t.2.2.1,t.2.2.2.1,0,0):LoS) fun _ v=>loS x y t.2.2.2.2 v
 match v.1 with
 | some r=>pure (.done (some r,v.2.1,v.2.2.1,v.2.2.2.1,t.2.2.2.2))
 | none=>do
  liftM (rule "list.sort.gallop")
  let u <- forIn [:x.size + y.size] ((none,v.2.1,v.2.2.1,v.2.2.2.1,t.2.2.2.2 + 1,v.2.2.2.2.1,v.2.2.2.2.2):LoT) fun _ u=>loG x y u
  match u.1 with
  | some r=>pure (.done (some r,u.2.1,u.2.2.1,u.2.2.2.1,u.2.2.2.2.1))
  | none=>do
   modify fun z=>setG z (u.2.2.2.2.1 + 1)
   pure (.yield (none,u.2.1,u.2.2.1,u.2.2.2.1,u.2.2.2.2.1 + 1))
end
theorem mLo_eq0 (x y:Array Keyed):mLo x y = (do
    rule "list.sort.merge-lo"
    let tt:=x.size + y.size
    let dn (o:Array Keyed) (i j:Nat):=o ++ x.extract i x.size ++ y.extract j y.size
    let ls (o:Array Keyed) (i j:Nat):=o ++ y.extract j y.size ++ x.extract i x.size
    let mut o:Array Keyed:=#[<- elem' y 0]
    let mut i:=0
    let mut j:=1
    if j == y.size then return dn o i j
    if i + 1 == x.size then return ls o i j
    let mut g:=gallopOf (<- get)
    for _ in [0:tt] do
      let mut ac:=0
      let mut bc:=0
      for _ in [0:tt] do
        let some yw <- lt' (<- elem' y j) (<- elem' x i) | return dn o i j
        if yw then
          o:=o.push (<- elem' y j); j:=j + 1; bc:=bc + 1; ac:=0
          if j == y.size then return dn o i j
          if bc ≥ g then break
        else
          o:=o.push (<- elem' x i); i:=i + 1; ac:=ac + 1; bc:=0
          if i + 1 == x.size then return ls o i j
          if ac ≥ g then break
      rule "list.sort.gallop"
      g:=g + 1
      for _ in [0:tt] do
        if g > 1 then g:=g - 1
        modify (setG · g)
        let some k <- gal false (<- elem' y j) x i (x.size - i) 0 | return dn o i j
        ac:=k
        if k > 0 then
          o:=o ++ x.extract i (i + k); i:=i + k
          if i + 1 == x.size then return ls o i j
          if i == x.size then return dn o i j
        o:=o.push (<- elem' y j); j:=j + 1
        if j == y.size then return dn o i j
        let some k <- gal true (<- elem' x i) y j (y.size - j) 0 | return dn o i j
        bc:=k
        if k > 0 then
          o:=o ++ y.extract j (j + k); j:=j + k
          if j == y.size then return dn o i j
        o:=o.push (<- elem' x i); i:=i + 1
        if i + 1 == x.size then return ls o i j
        if ac < 7 && bc < 7 then break
      g:=g + 1
      modify (setG · g)
    unsupported "internal:list.sort.merge-bound"):=rfl
theorem mLo_eq (x y:Array Keyed):mLo x y = (do
    liftM (rule "list.sort.merge-lo")
    let z <- elem' y 0
    if (1 == y.size) = true then pure (dn x y #[z] 0 1)
    else if (0 + 1 == x.size) = true then pure (ls x y #[z] 0 1)
    else do
      let s <- get
      let v <- forIn [:x.size + y.size] ((none,#[z],0,1,gallopOf s):LoO) fun _ v=>loB x y v
      match v.1 with
      | some r=>pure r
      | none=>unsupported "internal:list.sort.merge-bound"):=by
 rw [mLo_eq0]
 dsimp only
 refine congrArg (bind _) (funext fun _=>?_)
 refine congrArg (bind _) (funext fun z=>?_)
 refine congr (congrArg _ rfl) ?_
 refine congr (congrArg _ rfl) ?_
 refine congrArg (bind _) (funext fun s=>?_)
 refine congr (congrArg bind ?A) (funext fun v=>by obtain ⟨r,v⟩:=v; cases r <;> rfl)
 refine congrArg _ (funext fun _=>funext fun v=>?_)
 unfold loB
 refine congr (congrArg bind rfl) (funext fun v=>?_)
 obtain ⟨r,v⟩:=v
 cases r with
 | some r=>rfl
 | none =>
  refine congrArg (bind _) (funext fun _=>?_)
  refine congr (congrArg bind ?A2) (funext fun v=>by obtain ⟨r,v⟩:=v; cases r <;> rfl)
  rfl
end SG
namespace SG
open PySem PyProof.Rows
section
variable {α:Type} {x y o:Array α} {i j k:Nat}
theorem ext_all:(x.extract i x.size).toList = x.toList.drop i:=by
 rw [Array.toList_extract,List.extract_eq_take_drop,List.take_of_length_le (by simp)]
theorem ext_k:(x.extract i (i + k)).toList = (x.toList.drop i).take k:=by
 rw [Array.toList_extract,List.extract_eq_take_drop,Nat.add_sub_cancel_left]
theorem mem_dropA {v:α} (h:v ∈ x.toList.drop i):∃ (n:Nat) (hn:n < x.size),i <= n /\ v = x[n]:=by
 obtain ⟨n,hn,e⟩:=List.getElem_of_mem h
 rw [List.length_drop,Array.length_toList] at hn
 refine ⟨i + n,by omega,by omega,?_⟩
 rw [<- e,List.getElem_drop,Array.getElem_toList]
theorem mem_dropTA {v:α} (h:v ∈ (x.toList.drop i).take k):∃ (n:Nat) (hn:n < x.size),i <= n /\ n < i + k /\ v = x[n]:=by
 obtain ⟨n,hn,e⟩:=List.getElem_of_mem h
 rw [List.length_take,List.length_drop,Array.length_toList] at hn
 refine ⟨i + n,by omega,by omega,by omega,?_⟩
 rw [<- e,List.getElem_take,List.getElem_drop,Array.getElem_toList]
end
theorem dn_list (x y o:Array Keyed) (i j:Nat):(dn x y o i j).toList = o.toList ++ x.toList.drop i ++ y.toList.drop j:=by
 unfold dn
 rw [Array.toList_append,Array.toList_append,ext_all,ext_all]
theorem ls_list (x y o:Array Keyed) (i j:Nat):(ls x y o i j).toList = o.toList ++ y.toList.drop j ++ x.toList.drop i:=by
 unfold ls
 rw [Array.toList_append,Array.toList_append,ext_all,ext_all]
section
variable {prog:Program} {w:World} {A:Around} {E:Value -> Shared -> Prop} {s:Shared} {κ:SortKind} {rk:Keyed -> Nat} {S:Keyed -> Prop} {x y:Array Keyed}
noncomputable abbrev leK (rk:Keyed -> Nat):Keyed -> Keyed -> Prop:=fun a b=>rk a <= rk b
structure Hy (rk:Keyed -> Nat) (S:Keyed -> Prop) (x y:Array Keyed):Prop where
 hx:x.toList.Pairwise (leK rk)
 hy:y.toList.Pairwise (leK rk)
 Sx:∀ i (h:i < x.size),S x[i]
 Sy:∀ i (h:i < y.size),S y[i]
 x0:0 < x.size
 y0:0 < y.size
 hl:∀ i (h:i < y.size),rk y[i] <= rk x[x.size - 1]
 hf:∀ i (h:i < x.size),rk y[0] <= rk x[i]
theorem srt_at {x:Array Keyed} (h:x.toList.Pairwise (leK rk)) {i j:Nat} (hj:j < x.size) (hij:i <= j):rk (x[i]'(by omega)) <= rk x[j]:=by
 rcases Nat.lt_or_ge i j with h1 | h1
 ·have:=List.pairwise_iff_getElem.mp h i j (by simpa using (by omega:i < x.size)) (by simpa using hj) h1
  simpa using this
 ·have:i = j:=by omega
  subst this
  exact Nat.le_refl _
noncomputable def Po (rk:Keyed -> Nat) (x y r:Array Keyed):Prop:=r.toList.Perm (x.toList ++ y.toList) /\ r.toList.Pairwise (leK rk)
theorem Po_dn (H:Hy rk S x y) {o:Array Keyed} {i j:Nat} (m:Mg (leK rk) x.toList y.toList o.toList i j) (h:y.size <= j \/ x.size <= i):Po rk x y (dn x y o i j):=by
 unfold Po
 rw [dn_list]
 refine m.fin H.hx H.hy fun v hv u hu=>?_
 obtain ⟨n,hn,n1,_⟩:=mem_dropA hv
 obtain ⟨k,hk,k1,_⟩:=mem_dropA hu
 omega
theorem Po_ls (H:Hy rk S x y) {o:Array Keyed} {i j:Nat} (m:Mg (leK rk) x.toList y.toList o.toList i j) (h:i + 1 = x.size):Po rk x y (ls x y o i j):=by
 unfold Po
 rw [ls_list]
 refine m.finC H.hx H.hy fun v hv u hu=>?_
 obtain ⟨n,hn,n1,rfl⟩:=mem_dropA hv
 obtain ⟨k,hk,k1,rfl⟩:=mem_dropA hu
 have:k = x.size - 1:=by omega
 subst this
 exact H.hl n hn
theorem push_list {α:Type} (o:Array α) (z:α):(o.push z).toList = o.toList ++ [z]:=Array.toList_push
structure J (rk:Keyed -> Nat) (x y:Array Keyed) (N:Nat) (o:Array Keyed) (i j:Nat):Prop where
 m:Mg (leK rk) x.toList y.toList o.toList i j
 hi:i + 1 < x.size
 hj:j < y.size
 hN:N <= i + j
theorem J.pushX (H:Hy rk S x y) {N:Nat} {o:Array Keyed} {i j:Nat} (m:Mg (leK rk) x.toList y.toList o.toList i j) (hi:i < x.size) (h:∀ n (hn:n < y.size),j <= n -> rk x[i] <= rk y[n]):Mg (leK rk) x.toList y.toList (o.push x[i]).toList (i + 1) j:=by
 rw [push_list]
 have:=m.oneA H.hx (by simpa using hi) fun v hv=>by
  obtain ⟨n,hn,n1,rfl⟩:=mem_dropA hv
  simpa using h n hn n1
 simpa using this
theorem J.pushY (H:Hy rk S x y) {N:Nat} {o:Array Keyed} {i j:Nat} (m:Mg (leK rk) x.toList y.toList o.toList i j) (hj:j < y.size) (h:∀ n (hn:n < x.size),i <= n -> rk y[j] <= rk x[n]):Mg (leK rk) x.toList y.toList (o.push y[j]).toList i (j + 1):=by
 rw [push_list]
 have:=m.comm.oneA H.hy (by simpa using hj) fun v hv=>by
  obtain ⟨n,hn,n1,rfl⟩:=mem_dropA hv
  simpa using h n hn n1
 have:=this.comm
 simpa using this
noncomputable def RT (rk:Keyed -> Nat) (x y:Array Keyed) (N:Nat) (c:LoT):Prop:=(∃ t,c.1 = some t /\ Po rk x y t) \/ (c.1 = none /\ J rk x y N c.2.1 c.2.2.1 c.2.2.2.1)
noncomputable def Gs (z z':SortSt):Prop:=∃ g,z' = setG z g
theorem Gs.refl (z:SortSt):Gs z z:=⟨gallopOf z,rfl⟩
theorem Gs.set {z z':SortSt} (h:Gs z z') (g:Nat):Gs z (setG z' g):=by obtain ⟨_,rfl⟩:=h; exact ⟨g,rfl⟩
theorem Gs.kind {z z':SortSt} (h:Gs z z'):kindOf z' = kindOf z:=by obtain ⟨_,rfl⟩:=h; rfl
noncomputable def StT (rk:Keyed -> Nat) (x y:Array Keyed) (N:Nat) (st:SortSt) (r:ForInStep LoT) (st':SortSt):Prop :=
 Gs st st' /\ match r with
  | .done c=>RT rk x y N c
  | .yield c=>c.1 = none /\ J rk x y N c.2.1 c.2.2.1 c.2.2.2.1
theorem w_lo2 (H:Hy rk S x y) {N:Nat} {o:Array Keyed} {i j g ac bc:Nat} {st st':SortSt} (hg:Gs st st') (m:Mg (leK rk) x.toList y.toList o.toList i j) (hi:i + 1 < x.size) (hj:j < y.size) (hN:N <= i + j + 1)
  (h:∀ n (hn:n < y.size),j <= n -> rk (x[i]'(by omega)) <= rk y[n]):wpS (model prog w) A E s (lo2 x y o i j g ac bc) (StT rk x y N st) st':=by
 unfold lo2
 have m':=J.pushX H (N:=N) m (by omega) h
 refine wpS_bind (w_elem (by omega) ?_)
 by_cases h1:i + 1 + 1 = x.size
 ·rw [if_pos (by simpa using h1)]
  exact wpS_pure ⟨hg,.inl ⟨_,rfl,Po_ls H m' h1⟩⟩
 ·rw [if_neg (by simpa using h1)]
  have jj:J rk x y N (o.push (x[i]'(by omega))) (i + 1) j:=⟨m',by omega,hj,by omega⟩
  by_cases h2:(decide (ac < 7) && decide (bc < 7)) = true
  ·rw [if_pos h2]
   exact wpS_pure ⟨hg,.inr ⟨rfl,jj⟩⟩
  ·rw [if_neg h2]
   exact wpS_pure ⟨hg,rfl,jj⟩
theorem w_lo1 (q:Asks prog w A s κ rk S) (H:Hy rk S x y) {N:Nat} {o:Array Keyed} {i j g ac bc:Nat} {st st':SortSt} (hk:kindOf st = κ) (hg:Gs st st') (m:Mg (leK rk) x.toList y.toList o.toList i j) (hi:i + 1 < x.size) (hj:j < y.size) (hN:N <= i + j + 1)
  (h:∀ n (hn:n < x.size),i <= n -> rk (y[j]'(by omega)) <= rk x[n]):wpS (model prog w) A E s (lo1 x y o i j g ac bc) (StT rk x y N st) st':=by
 unfold lo1
 have m':=J.pushY H (N:=N) m hj h
 refine wpS_bind (w_elem hj ?_)
 by_cases h1:j + 1 = y.size
 ·rw [if_pos (by simpa using h1)]
  exact wpS_pure ⟨hg,.inl ⟨_,rfl,Po_dn H m' (.inl (by omega))⟩⟩
 ·rw [if_neg (by simpa using h1)]
  refine wpS_bind (w_elem (by omega) ?_)
  refine wpS_bind (w_gallop q (hg.kind.trans hk) (H.Sx _ _) H.Sy (by omega) (fun a b hb hab _ _=>srt_at H.hy hb hab) (by omega) fun k kn k1 k2=>?_)
  dsimp only
  by_cases hk0:k > 0
  ·rw [if_pos hk0]
   have m2:Mg (leK rk) x.toList y.toList (o.push (y[j]'hj) ++ y.extract (j + 1) (j + 1 + k)).toList i (j + 1 + k):=by
    rw [Array.toList_append,ext_k]
    refine (m'.comm.takeA H.hy k fun v hv u hu=>?_).comm
    obtain ⟨n,hn,n1,n2,rfl⟩:=mem_dropTA hv
    obtain ⟨p,hp,p1,rfl⟩:=mem_dropA hu
    have:=k1 n hn n1 n2
    rw [if_pos rfl] at this
    have:=srt_at H.hx hp p1
    show rk _ <= rk _
    omega
   by_cases h2:j + 1 + k = y.size
   ·rw [if_pos (by simpa using h2)]
    exact wpS_pure ⟨hg,.inl ⟨_,rfl,Po_dn H m2 (.inl (by omega))⟩⟩
   ·rw [if_neg (by simpa using h2)]
    refine w_lo2 H hg m2 hi (by omega) (by omega) fun n hn n1=>?_
    have:=k2 n hn (by omega) (by omega)
    rw [if_pos rfl] at this
    exact this
  ·rw [if_neg hk0]
   refine w_lo2 H hg m' hi (by omega) (by omega) fun n hn n1=>?_
   have:=k2 n hn (by omega) (by omega)
   rw [if_pos rfl] at this
   exact this
theorem w_lo0 (q:Asks prog w A s κ rk S) (H:Hy rk S x y) {N:Nat} {o:Array Keyed} {i j g ac bc:Nat} {st st':SortSt} (hk:kindOf st = κ) (hg:Gs st st') (m:Mg (leK rk) x.toList y.toList o.toList i j) (hi:i + 1 < x.size) (hj:j < y.size) (hN:N <= i + j + 1) :
  wpS (model prog w) A E s (lo0 x y o i j g ac bc) (StT rk x y N st) st':=by
 unfold lo0
 refine wpS_bind (wpS_modify ?_)
 have hg':=hg.set g
 refine wpS_bind (w_elem hj ?_)
 refine wpS_bind (w_gallop q (hg'.kind.trans hk) (H.Sy _ _) H.Sx (by omega) (fun a b hb hab _ _=>srt_at H.hx hb hab) (by omega) fun k kn k1 k2=>?_)
 dsimp only
 by_cases hk0:k > 0
 ·rw [if_pos hk0]
  have m2:Mg (leK rk) x.toList y.toList (o ++ x.extract i (i + k)).toList (i + k) j:=by
   rw [Array.toList_append,ext_k]
   refine m.takeA H.hx k fun v hv u hu=>?_
   obtain ⟨n,hn,n1,n2,rfl⟩:=mem_dropTA hv
   obtain ⟨p,hp,p1,rfl⟩:=mem_dropA hu
   have:=k1 n hn n1 n2
   rw [if_neg (by decide)] at this
   have:=srt_at H.hy hp p1
   show rk _ <= rk _
   omega
  by_cases h2:i + k + 1 = x.size
  ·rw [if_pos (by simpa using h2)]
   exact wpS_pure ⟨hg',.inl ⟨_,rfl,Po_ls H m2 h2⟩⟩
  ·rw [if_neg (by simpa using h2)]
   by_cases h3:i + k = x.size
   ·rw [if_pos (by simpa using h3)]
    exact wpS_pure ⟨hg',.inl ⟨_,rfl,Po_dn H m2 (.inr (by omega))⟩⟩
   ·rw [if_neg (by simpa using h3)]
    refine w_lo1 q H hk hg' m2 (by omega) hj (by omega) fun n hn n1=>?_
    have:=k2 n hn (by omega) (by omega)
    rw [if_neg (by decide)] at this
    omega
 ·rw [if_neg hk0]
  refine w_lo1 q H hk hg' m hi hj (by omega) fun n hn n1=>?_
  have:=k2 n hn (by omega) (by omega)
  rw [if_neg (by decide)] at this
  omega
theorem w_loG (q:Asks prog w A s κ rk S) (H:Hy rk S x y) {N:Nat} {c:LoT} {st st':SortSt} (hk:kindOf st = κ) (hg:Gs st st') (hJ:J rk x y N c.2.1 c.2.2.1 c.2.2.2.1) :
  wpS (model prog w) A E s (loG x y c) (StT rk x y (N + 1) st) st':=by
 unfold loG
 have:=hJ.hN
 split
 ·exact w_lo0 q H hk hg hJ.m hJ.hi hJ.hj (by omega)
 ·exact w_lo0 q H hk hg hJ.m hJ.hi hJ.hj (by omega)
theorem w_loS (q:Asks prog w A s κ rk S) (H:Hy rk S x y) {N g:Nat} {c:LoS} {st:SortSt} (hk:kindOf st = κ) (hJ:J rk x y N c.2.1 c.2.2.1 c.2.2.2.1) :
  wpS (model prog w) A E s (loS x y g c) (fun r st'=>st' = st /\ match r with
    | .done c=>(∃ t,c.1 = some t /\ Po rk x y t) \/ (c.1 = none /\ J rk x y (N + 1) c.2.1 c.2.2.1 c.2.2.2.1)
    | .yield c=>c.1 = none /\ J rk x y (N + 1) c.2.1 c.2.2.1 c.2.2.2.1) st:=by
 unfold loS
 obtain ⟨m,hi,hj,hN⟩:=hJ
 refine wpS_bind (w_elem hj ?_)
 refine wpS_bind (w_elem (by omega) ?_)
 refine wpS_bind (w_lt q hk (H.Sy _ _) (H.Sx _ _) ?_)
 dsimp only
 by_cases hlt:rk (y[c.2.2.2.1]'hj) < rk (x[c.2.2.1]'(by omega))
 ·rw [if_pos (by simpa using hlt)]
  have m':=J.pushY H (N:=N) m hj fun n hn n1=>by have:=srt_at H.hx hn n1; omega
  refine wpS_bind (w_elem hj ?_)
  by_cases h1:c.2.2.2.1 + 1 = y.size
  ·rw [if_pos (by simpa using h1)]
   exact wpS_pure ⟨rfl,.inl ⟨_,rfl,Po_dn H m' (.inl (by omega))⟩⟩
  ·rw [if_neg (by simpa using h1)]
   have jj:J rk x y (N + 1) (c.2.1.push (y[c.2.2.2.1]'hj)) c.2.2.1 (c.2.2.2.1 + 1):=⟨m',hi,by omega,by omega⟩
   split
   ·exact wpS_pure ⟨rfl,.inr ⟨rfl,jj⟩⟩
   ·exact wpS_pure ⟨rfl,rfl,jj⟩
 ·rw [if_neg (by simpa using hlt)]
  have m':=J.pushX H (N:=N) m (by omega) fun n hn n1=>by have:=srt_at H.hy hn n1; omega
  refine wpS_bind (w_elem (by omega) ?_)
  by_cases h1:c.2.2.1 + 1 + 1 = x.size
  ·rw [if_pos (by simpa using h1)]
   exact wpS_pure ⟨rfl,.inl ⟨_,rfl,Po_ls H m' h1⟩⟩
  ·rw [if_neg (by simpa using h1)]
   have jj:J rk x y (N + 1) (c.2.1.push (x[c.2.2.1]'(by omega))) (c.2.2.1 + 1) c.2.2.2.1:=⟨m',by omega,hj,by omega⟩
   split
   ·exact wpS_pure ⟨rfl,.inr ⟨rfl,jj⟩⟩
   ·exact wpS_pure ⟨rfl,rfl,jj⟩
theorem w_loB (q:Asks prog w A s κ rk S) (H:Hy rk S x y) {N:Nat} {c:LoO} {st st':SortSt} (hk:kindOf st = κ) (hg:Gs st st') (hJ:J rk x y N c.2.1 c.2.2.1 c.2.2.2.1) :
  wpS (model prog w) A E s (loB x y c) (fun r st'=>Gs st st' /\ match r with
    | .done c=>∃ t,c.1 = some t /\ Po rk x y t
    | .yield c=>c.1 = none /\ J rk x y (N + 1) c.2.1 c.2.2.1 c.2.2.2.1) st':=by
 unfold loB
 refine wpS_bind (wpS_mono (wpS_forRange (I:=fun n c st''=>st'' = st' /\ c.1 = none /\ J rk x y (N + n) c.2.1 c.2.2.1 c.2.2.2.1)
   (Q:=fun c st''=>st'' = st' /\ ((∃ t,c.1 = some t /\ Po rk x y t) \/ (c.1 = none /\ J rk x y N c.2.1 c.2.2.1 c.2.2.2.1))) ?step ?fin ⟨rfl,rfl,hJ⟩) ?post)
 case fin =>
  rintro c st'' ⟨rfl,_,h⟩
  have h1:=h.hi
  have h2:=h.hj
  have h3:=h.hN
  omega
 case step =>
  rintro n c st'' _ _ ⟨rfl,_,h⟩
  refine wpS_mono (w_loS q H (hg.kind.trans hk) h) ?_
  rintro r st3 ⟨rfl,h⟩
  cases r with
  | done c =>
   refine ⟨rfl,h.imp id fun h=>⟨h.1,h.2.m,h.2.hi,h.2.hj,?_⟩⟩
   have:=h.2.hN
   omega
  | yield c=>exact ⟨rfl,h.1,h.2⟩
 case post =>
  rintro c st'' ⟨rfl,h⟩
  obtain ⟨r,c⟩:=c
  rcases h with ⟨t,e,h⟩ | ⟨e,h⟩
  ·cases e
   exact wpS_pure ⟨hg,_,rfl,h⟩
  ·cases e
   dsimp only
   refine wpS_bind (wpS_lift (wpAny_rule ⟨rfl,?_⟩))
   refine wpS_bind (wpS_mono (wpS_forRange (I:=fun n c st''=>Gs st st'' /\ c.1 = none /\ J rk x y (N + n) c.2.1 c.2.2.1 c.2.2.2.1)
     (Q:=fun c st''=>Gs st st'' /\ RT rk x y (N + 1) c) ?step2 ?fin2 ⟨hg,rfl,h⟩) ?post2)
   case fin2 =>
    rintro c st'' ⟨_,_,h⟩
    have h1:=h.hi
    have h2:=h.hj
    have h3:=h.hN
    omega
   case step2 =>
    rintro n c st'' _ _ ⟨hg2,_,h⟩
    refine wpS_mono (w_loG q H hk hg2 h) ?_
    rintro r st3 ⟨hg3,h⟩
    cases r with
    | done c =>
     refine ⟨hg3,Or.imp id (fun h=>⟨h.1,h.2.m,h.2.hi,h.2.hj,?_⟩) h⟩
     have:=h.2.hN
     omega
    | yield c=>exact ⟨hg3,h.1,h.2⟩
   case post2 =>
    rintro c st'' ⟨hg2,h⟩
    obtain ⟨r,c⟩:=c
    rcases h with ⟨t,e,h⟩ | ⟨e,h⟩
    ·cases e
     exact wpS_pure ⟨hg2,_,rfl,h⟩
    ·cases e
     exact wpS_bind (wpS_modify (wpS_pure ⟨hg2.set _,rfl,h⟩))
theorem w_mLo (q:Asks prog w A s κ rk S) (H:Hy rk S x y) {st:SortSt} {Q:Array Keyed -> SortSt -> Prop} (hk:kindOf st = κ) (h:∀ r st',Gs st st' -> Po rk x y r -> Q r st'):wpS (model prog w) A E s (mLo x y) Q st:=by
 rw [mLo_eq]
 refine wpS_bind (wpS_lift (wpAny_rule ⟨rfl,?_⟩))
 refine wpS_bind (w_elem H.y0 ?_)
 have m0:Mg (leK rk) x.toList y.toList (#[]:Array Keyed).toList 0 0:=⟨by simp,by simp,by simp,by simp⟩
 have m1:=J.pushY H (N:=0) m0 H.y0 fun n hn _=>H.hf n hn
 have e1:(#[]:Array Keyed).push (y[0]'H.y0) = #[y[0]'H.y0]:=rfl
 rw [e1] at m1
 have hy0:=H.y0
 have hx0:=H.x0
 by_cases h1:1 = y.size
 ·rw [if_pos (by simpa using h1)]
  exact wpS_pure (h _ _ (Gs.refl _) (Po_dn H m1 (.inl (by omega))))
 ·rw [if_neg (by simpa using h1)]
  by_cases h2:0 + 1 = x.size
  ·rw [if_pos (by simpa using h2)]
   exact wpS_pure (h _ _ (Gs.refl _) (Po_ls H m1 h2))
  ·rw [if_neg (by simpa using h2)]
   refine wpS_bind (wpS_get ?_)
   refine wpS_bind (wpS_mono (wpS_forRange (I:=fun n c st''=>Gs st st'' /\ c.1 = none /\ J rk x y n c.2.1 c.2.2.1 c.2.2.2.1)
     (Q:=fun c st''=>Gs st st'' /\ ∃ t,c.1 = some t /\ Po rk x y t) ?step ?fin ⟨Gs.refl _,rfl,m1,by show 0 + 1 < x.size; omega,by show 1 < y.size; omega,by omega⟩) ?post)
   case fin =>
    rintro c st'' ⟨_,_,h⟩
    have h1:=h.hi
    have h2:=h.hj
    have h3:=h.hN
    omega
   case step =>
    rintro n c st'' _ _ ⟨hg2,_,h⟩
    refine wpS_mono (w_loB q H hk hg2 h) ?_
    rintro r st3 ⟨hg3,h⟩
    cases r with
    | done c=>exact ⟨hg3,h⟩
    | yield c=>exact ⟨hg3,h⟩
   case post =>
    rintro c st'' ⟨hg2,t,e,hP⟩
    obtain ⟨r,c⟩:=c
    cases e
    exact wpS_pure (h _ _ hg2 hP)
end
end SG
namespace SG
open PySem PyProof.Rows
noncomputable abbrev HiT:=Option (Array Keyed) × Nat × Nat × Array Keyed × Nat × Nat × Nat
noncomputable abbrev HiS:=Option (Array Keyed) × Nat × Nat × Array Keyed × Nat × Nat
noncomputable abbrev HiO:=Option (Array Keyed) × Nat × Nat × Array Keyed × Nat
section
variable (x y:Array Keyed)
noncomputable def dnH (o:Array Keyed) (i j:Nat):Array Keyed:=x.extract 0 i ++ y.extract 0 j ++ o.reverse
noncomputable def lsH (o:Array Keyed) (i j:Nat):Array Keyed:=y.extract 0 j ++ x.extract 0 i ++ o.reverse
noncomputable def hi2 (i j:Nat) (o:Array Keyed) (g ac bc:Nat):StateT SortSt Sem (ForInStep HiT):=do
 let z <- elem' x (i - 1)
 if (i - 1 == 0) = true then pure (.done (some (dnH x y (o.push z) (i - 1) j),i - 1,j,o.push z,g,ac,bc))
 else if (decide (ac < 7) && decide (bc < 7)) = true then pure (.done (none,i - 1,j,o.push z,g,ac,bc))
 else pure (.yield (none,i - 1,j,o.push z,g,ac,bc))
noncomputable def hi1 (i j:Nat) (o:Array Keyed) (g ac bc:Nat):StateT SortSt Sem (ForInStep HiT):=do
 let z <- elem' y (j - 1)
 if (j - 1 == 1) = true then pure (.done (some (lsH x y (o.push z) i (j - 1)),i,j - 1,o.push z,g,ac,bc))
 else do
  let u <- elem' x (i - 1)
  let some p <- gal true u y 0 (j - 1) (j - 1 - 1) | pure (.done (some (dnH x y (o.push z) i (j - 1)),i,j - 1,o.push z,g,ac,bc))
  if j - 1 - p > 0 then
   if (p == 1) = true then pure (.done (some (lsH x y (o.push z ++ (y.extract p (j - 1)).reverse) i p),i,p,o.push z ++ (y.extract p (j - 1)).reverse,g,ac,j - 1 - p))
   else if (p == 0) = true then pure (.done (some (dnH x y (o.push z ++ (y.extract p (j - 1)).reverse) i p),i,p,o.push z ++ (y.extract p (j - 1)).reverse,g,ac,j - 1 - p))
   else hi2 x y i p (o.push z ++ (y.extract p (j - 1)).reverse) g ac (j - 1 - p)
  else hi2 x y i (j - 1) (o.push z) g ac (j - 1 - p)
noncomputable def hi0 (i j:Nat) (o:Array Keyed) (g ac bc:Nat):StateT SortSt Sem (ForInStep HiT):=do
 modify fun v=>setG v g
 let z <- elem' y (j - 1)
 let some p <- gal false z x 0 i (i - 1) | pure (.done (some (dnH x y o i j),i,j,o,g,ac,bc))
 if i - p > 0 then
   if (p == 0) = true then pure (.done (some (dnH x y (o ++ (x.extract p i).reverse) p j),p,j,o ++ (x.extract p i).reverse,g,i - p,bc))
   else hi1 x y p j (o ++ (x.extract p i).reverse) g (i - p) bc
 else hi1 x y i j o g (i - p) bc
noncomputable def hiG (t:HiT):StateT SortSt Sem (ForInStep HiT) :=
 if t.2.2.2.2.1 > 1 then hi0 x y t.2.1 t.2.2.1 t.2.2.2.1 (t.2.2.2.2.1 - 1) t.2.2.2.2.2.1 t.2.2.2.2.2.2
 else hi0 x y t.2.1 t.2.2.1 t.2.2.2.1 t.2.2.2.2.1 t.2.2.2.2.2.1 t.2.2.2.2.2.2
noncomputable def hiS (g:Nat) (t:HiS):StateT SortSt Sem (ForInStep HiS):=do
 let z <- elem' y (t.2.2.1 - 1)
 let u <- elem' x (t.2.1 - 1)
 let some xw <- lt' z u | pure (.done (some (dnH x y t.2.2.2.1 t.2.1 t.2.2.1),t.2.1,t.2.2.1,t.2.2.2.1,t.2.2.2.2.1,t.2.2.2.2.2))
 if xw = true then do
   let z <- elem' x (t.2.1 - 1)
   if (t.2.1 - 1 == 0) = true then pure (.done (some (dnH x y (t.2.2.2.1.push z) (t.2.1 - 1) t.2.2.1),t.2.1 - 1,t.2.2.1,t.2.2.2.1.push z,t.2.2.2.2.1 + 1,0))
   else if t.2.2.2.2.1 + 1 ≥ g then pure (.done (none,t.2.1 - 1,t.2.2.1,t.2.2.2.1.push z,t.2.2.2.2.1 + 1,0))
   else pure (.yield (none,t.2.1 - 1,t.2.2.1,t.2.2.2.1.push z,t.2.2.2.2.1 + 1,0))
 else do
   let z <- elem' y (t.2.2.1 - 1)
   if (t.2.2.1 - 1 == 1) = true then pure (.done (some (lsH x y (t.2.2.2.1.push z) t.2.1 (t.2.2.1 - 1)),t.2.1,t.2.2.1 - 1,t.2.2.2.1.push z,0,t.2.2.2.2.2 + 1))
   else if t.2.2.2.2.2 + 1 ≥ g then pure (.done (none,t.2.1,t.2.2.1 - 1,t.2.2.2.1.push z,0,t.2.2.2.2.2 + 1))
   else pure (.yield (none,t.2.1,t.2.2.1 - 1,t.2.2.2.1.push z,0,t.2.2.2.2.2 + 1))
noncomputable def hiB (t:HiO):StateT SortSt Sem (ForInStep HiO):=do
 let v <- forIn [:x.size + y.size] ((none,t.2.1,t.2.2.1,t.2.2.2.1,0,0):HiS) fun _ v=>hiS x y t.2.2.2.2 v
 match v.1 with
 | some r=>pure (.done (some r,v.2.1,v.2.2.1,v.2.2.2.1,t.2.2.2.2))
 | none=>do
  liftM (rule "list.sort.gallop")
  let u <- forIn [:x.size + y.size] ((none,v.2.1,v.2.2.1,v.2.2.2.1,t.2.2.2.2 + 1,v.2.2.2.2.1,v.2.2.2.2.2):HiT) fun _ u=>hiG x y u
  match u.1 with
  | some r=>pure (.done (some r,u.2.1,u.2.2.1,u.2.2.2.1,u.2.2.2.2.1))
  | none=>do
   modify fun z=>setG z (u.2.2.2.2.1 + 1)
   pure (.yield (none,u.2.1,u.2.2.1,u.2.2.2.1,u.2.2.2.2.1 + 1))
end
theorem mHi_eq0 (x y:Array Keyed):mHi x y = (do
    rule "list.sort.merge-hi"
    let tt:=x.size + y.size
    let dn (o:Array Keyed) (i j:Nat):=x.extract 0 i ++ y.extract 0 j ++ o.reverse
    let fs (o:Array Keyed) (i j:Nat):=y.extract 0 j ++ x.extract 0 i ++ o.reverse
    let mut i:=x.size - 1
    let mut j:=y.size
    let mut o:Array Keyed:=#[<- elem' x i]
    if i == 0 then return dn o i j
    if j == 1 then return fs o i j
    let mut g:=gallopOf (<- get)
    for _ in [0:tt] do
      let mut ac:=0
      let mut bc:=0
      for _ in [0:tt] do
        let some xw <- lt' (<- elem' y (j - 1)) (<- elem' x (i - 1)) | return dn o i j
        if xw then
          i:=i - 1; o:=o.push (<- elem' x i); ac:=ac + 1; bc:=0
          if i == 0 then return dn o i j
          if ac ≥ g then break
        else
          j:=j - 1; o:=o.push (<- elem' y j); bc:=bc + 1; ac:=0
          if j == 1 then return fs o i j
          if bc ≥ g then break
      rule "list.sort.gallop"
      g:=g + 1
      for _ in [0:tt] do
        if g > 1 then g:=g - 1
        modify (setG · g)
        let some p <- gal false (<- elem' y (j - 1)) x 0 i (i - 1) | return dn o i j
        let k:=i - p
        ac:=k
        if k > 0 then
          o:=o ++ (x.extract p i).reverse; i:=p
          if i == 0 then return dn o i j
        j:=j - 1; o:=o.push (<- elem' y j)
        if j == 1 then return fs o i j
        let some p <- gal true (<- elem' x (i - 1)) y 0 j (j - 1) | return dn o i j
        let k:=j - p
        bc:=k
        if k > 0 then
          o:=o ++ (y.extract p j).reverse; j:=p
          if j == 1 then return fs o i j
          if j == 0 then return dn o i j
        i:=i - 1; o:=o.push (<- elem' x i)
        if i == 0 then return dn o i j
        if ac < 7 && bc < 7 then break
      g:=g + 1
      modify (setG · g)
    unsupported "internal:list.sort.merge-bound"):=rfl
theorem mHi_eq (x y:Array Keyed):mHi x y = (do
    liftM (rule "list.sort.merge-hi")
    let z <- elem' x (x.size - 1)
    if (x.size - 1 == 0) = true then pure (dnH x y #[z] (x.size - 1) y.size)
    else if (y.size == 1) = true then pure (lsH x y #[z] (x.size - 1) y.size)
    else do
      let s <- get
      let v <- forIn [:x.size + y.size] ((none,x.size - 1,y.size,#[z],gallopOf s):HiO) fun _ v=>hiB x y v
      match v.1 with
      | some r=>pure r
      | none=>unsupported "internal:list.sort.merge-bound"):=by
 rw [mHi_eq0]
 dsimp only
 refine congrArg (bind _) (funext fun _=>?_)
 refine congrArg (bind _) (funext fun z=>?_)
 refine congr (congrArg _ rfl) ?_
 refine congr (congrArg _ rfl) ?_
 refine congrArg (bind _) (funext fun s=>?_)
 refine congr (congrArg bind ?A) (funext fun v=>by obtain ⟨r,v⟩:=v; cases r <;> rfl)
 refine congrArg _ (funext fun _=>funext fun v=>?_)
 unfold hiB
 refine congr (congrArg bind rfl) (funext fun v=>?_)
 obtain ⟨r,v⟩:=v
 cases r with
 | some r=>rfl
 | none =>
  refine congrArg (bind _) (funext fun _=>?_)
  refine congr (congrArg bind ?A2) (funext fun v=>by obtain ⟨r,v⟩:=v; cases r <;> rfl)
  rfl
section
variable {α:Type} {x:Array α} {i j k:Nat}
theorem rev_drop (hi:i <= x.size):x.toList.reverse.drop (x.size - i) = (x.toList.take i).reverse:=by
 rw [List.drop_reverse,Array.length_toList,Nat.sub_sub_self hi]
theorem mem_revD {v:α} (hi:i <= x.size) (h:v ∈ x.toList.reverse.drop (x.size - i)):∃ (n:Nat) (hn:n < x.size),n < i /\ v = x[n]:=by
 rw [rev_drop hi,List.mem_reverse] at h
 obtain ⟨n,hn,e⟩:=List.getElem_of_mem h
 rw [List.length_take,Array.length_toList] at hn
 refine ⟨n,by omega,by omega,?_⟩
 rw [<- e,List.getElem_take,Array.getElem_toList]
theorem rev_ext (hk:k <= i) (hi:i <= x.size):(x.extract k i).reverse.toList = (x.toList.reverse.drop (x.size - i)).take (i - k):=by
 rw [Array.toList_reverse,Array.toList_extract,List.extract_eq_take_drop,rev_drop hi,List.take_reverse,List.length_take,Array.length_toList,Nat.min_eq_left hi,Nat.sub_sub_self hk,List.drop_take]
theorem ext_0:(x.extract 0 i).toList = x.toList.take i:=by
 rw [Array.toList_extract,List.extract_eq_take_drop,List.drop_zero,Nat.sub_zero]
end
section
variable {prog:Program} {w:World} {A:Around} {E:Value -> Shared -> Prop} {s:Shared} {κ:SortKind} {rk:Keyed -> Nat} {S:Keyed -> Prop} {x y:Array Keyed}
noncomputable abbrev geK (rk:Keyed -> Nat):Keyed -> Keyed -> Prop:=fun a b=>rk b <= rk a
structure MH (rk:Keyed -> Nat) (x y:Array Keyed) (o:Array Keyed) (i j:Nat):Prop where
 m:Mg (geK rk) x.toList.reverse y.toList.reverse o.toList (x.size - i) (y.size - j)
 hi:i <= x.size
 hj:j <= y.size
theorem MH.comm {o:Array Keyed} {i j:Nat} (h:MH rk x y o i j):MH rk y x o j i:=⟨h.m.comm,h.hj,h.hi⟩
theorem MH.chunk (hx:x.toList.Pairwise (leK rk)) {o:Array Keyed} {i j p:Nat} (h:MH rk x y o i j) (hp:p <= i) (hk:∀ n (hn:n < x.size) k (hk:k < y.size),p <= n -> n < i -> k < j -> rk y[k] <= rk x[n]) :
  MH rk x y (o ++ (x.extract p i).reverse) p j:=by
 have hi:=h.hi
 refine ⟨?_,by omega,h.hj⟩
 rw [Array.toList_append,rev_ext hp hi]
 have e:x.size - p = x.size - i + (i - p):=by omega
 rw [e]
 refine h.m.takeA (List.pairwise_reverse.mpr hx) (i - p) fun v hv u hu=>?_
 obtain ⟨k,hk1,hk2,rfl⟩:=mem_revD h.hj hu
 rw [<- rev_ext hp hi,Array.toList_reverse,List.mem_reverse,Array.toList_extract,List.extract_eq_take_drop] at hv
 obtain ⟨n,hn,n1,n2,rfl⟩:=mem_dropTA hv
 exact hk n hn k hk1 n1 (by omega) hk2
theorem MH.push (hx:x.toList.Pairwise (leK rk)) {o:Array Keyed} {i j:Nat} (h:MH rk x y o i j) (h0:0 < i) (hk:∀ k (hk:k < y.size),k < j -> rk y[k] <= rk (x[i - 1]'(by have:=h.hi; omega))) :
  MH rk x y (o.push (x[i - 1]'(by have:=h.hi; omega))) (i - 1) j:=by
 have hi:=h.hi
 have e:o.push (x[i - 1]'(by omega)) = o ++ (x.extract (i - 1) i).reverse:=by
  apply Array.toList_inj.mp
  rw [Array.toList_push,Array.toList_append,rev_ext (by omega) hi,show i - (i - 1) = 1 by omega,List.drop_eq_getElem_cons (by simp; omega)]
  simp only [List.take_succ_cons,List.take_zero,List.getElem_reverse,Array.getElem_toList,Array.length_toList]
  congr 3
  omega
 rw [e]
 refine h.chunk hx (by omega) fun n hn k hk1 n1 n2 k2=>?_
 have:n = i - 1:=by omega
 subst this
 exact hk k hk1 k2
theorem rev_fin {a b o r:List Keyed} (h:(o ++ a ++ b).Perm (x.toList.reverse ++ y.toList.reverse) /\ (o ++ a ++ b).Pairwise (geK rk)) (e:r = (o ++ a ++ b).reverse):r.Perm (x.toList ++ y.toList) /\ r.Pairwise (leK rk):=by
 subst e
 exact ⟨((List.reverse_perm _).trans h.1).trans ((List.reverse_perm _).append (List.reverse_perm _)),List.pairwise_reverse.mpr h.2⟩
theorem Po_dnH (H:Hy rk S x y) {o:Array Keyed} {i j:Nat} (m:MH rk x y o i j) (h:i = 0 \/ j = 0):Po rk x y (dnH x y o i j):=by
 refine rev_fin (m.m.finC (List.pairwise_reverse.mpr H.hx) (List.pairwise_reverse.mpr H.hy) fun v hv u hu=>?_) ?_
 ·obtain ⟨n,hn,n1,_⟩:=mem_revD m.hj hv
  obtain ⟨k,hk,k1,_⟩:=mem_revD m.hi hu
  omega
 ·unfold dnH
  rw [Array.toList_append,Array.toList_append,ext_0,ext_0,rev_drop m.hi,rev_drop m.hj,Array.toList_reverse]
  simp
theorem Po_lsH (H:Hy rk S x y) {o:Array Keyed} {i j:Nat} (m:MH rk x y o i j) (h:j = 1):Po rk x y (lsH x y o i j):=by
 refine rev_fin (m.m.fin (List.pairwise_reverse.mpr H.hx) (List.pairwise_reverse.mpr H.hy) fun v hv u hu=>?_) ?_
 ·obtain ⟨n,hn,n1,rfl⟩:=mem_revD m.hi hv
  obtain ⟨k,hk,k1,rfl⟩:=mem_revD m.hj hu
  have:k = 0:=by omega
  subst this
  exact H.hf n hn
 ·unfold lsH
  rw [Array.toList_append,Array.toList_append,ext_0,ext_0,rev_drop m.hi,rev_drop m.hj,Array.toList_reverse]
  simp
structure JH (rk:Keyed -> Nat) (x y:Array Keyed) (N:Nat) (i j:Nat) (o:Array Keyed):Prop where
 m:MH rk x y o i j
 hi:1 <= i
 hj:2 <= j
 hN:N + i + j <= x.size + y.size
noncomputable def RH (rk:Keyed -> Nat) (x y:Array Keyed) (N:Nat) (c:HiT):Prop:=(∃ t,c.1 = some t /\ Po rk x y t) \/ (c.1 = none /\ JH rk x y N c.2.1 c.2.2.1 c.2.2.2.1)
noncomputable def StH (rk:Keyed -> Nat) (x y:Array Keyed) (N:Nat) (st:SortSt) (r:ForInStep HiT) (st':SortSt):Prop :=
 Gs st st' /\ match r with
  | .done c=>RH rk x y N c
  | .yield c=>c.1 = none /\ JH rk x y N c.2.1 c.2.2.1 c.2.2.2.1
theorem w_hi2 (H:Hy rk S x y) {N:Nat} {o:Array Keyed} {i j g ac bc:Nat} {st st':SortSt} (hg:Gs st st') (m:MH rk x y o i j) (hi:1 <= i) (hj:2 <= j) (hN:N + i + j <= x.size + y.size + 1)
  (h:∀ n (hn:n < y.size),n < j -> rk y[n] <= rk (x[i - 1]'(by have:=m.hi; omega))):wpS (model prog w) A E s (hi2 x y i j o g ac bc) (StH rk x y N st) st':=by
 unfold hi2
 have hi':=m.hi
 have m':=m.push H.hx hi h
 refine wpS_bind (w_elem (by omega) ?_)
 by_cases h1:i - 1 = 0
 ·rw [if_pos (by simpa using h1)]
  exact wpS_pure ⟨hg,.inl ⟨_,rfl,Po_dnH H m' (.inl h1)⟩⟩
 ·rw [if_neg (by simpa using h1)]
  have jj:JH rk x y N (i - 1) j (o.push (x[i - 1]'(by omega))):=⟨m',by omega,hj,by omega⟩
  by_cases h2:(decide (ac < 7) && decide (bc < 7)) = true
  ·rw [if_pos h2]
   exact wpS_pure ⟨hg,.inr ⟨rfl,jj⟩⟩
  ·rw [if_neg h2]
   exact wpS_pure ⟨hg,rfl,jj⟩
theorem w_hi1 (q:Asks prog w A s κ rk S) (H:Hy rk S x y) {N:Nat} {o:Array Keyed} {i j g ac bc:Nat} {st st':SortSt} (hk:kindOf st = κ) (hg:Gs st st') (m:MH rk x y o i j) (hi:1 <= i) (hj:2 <= j) (hN:N + i + j <= x.size + y.size + 1)
  (h:∀ n (hn:n < x.size),n < i -> rk x[n] <= rk (y[j - 1]'(by have:=m.hj; omega))):wpS (model prog w) A E s (hi1 x y i j o g ac bc) (StH rk x y N st) st':=by
 unfold hi1
 have hi':=m.hi
 have hj':=m.hj
 have m':=(m.comm.push H.hy (by omega) h).comm
 refine wpS_bind (w_elem (by omega) ?_)
 by_cases h1:j - 1 = 1
 ·rw [if_pos (by simpa using h1)]
  exact wpS_pure ⟨hg,.inl ⟨_,rfl,Po_lsH H m' h1⟩⟩
 ·rw [if_neg (by simpa using h1)]
  refine wpS_bind (w_elem (by omega) ?_)
  refine wpS_bind (w_gallop q (hg.kind.trans hk) (H.Sx _ _) H.Sy (by omega) (fun a b hb hab _ _=>srt_at H.hy hb hab) (by omega) fun p pn k1 k2=>?_)
  dsimp only
  have k1':∀ n (hn:n < y.size),n < p -> rk y[n] < rk (x[i - 1]'(by omega)):=fun n hn hp=>by
   have:=k1 n hn (Nat.zero_le _) (by omega)
   rw [if_pos rfl] at this
   exact this
  by_cases hk0:j - 1 - p > 0
  ·rw [if_pos hk0]
   have m2:=(m'.comm.chunk H.hy (p:=p) pn fun n hn k hk1 n1 n2 n3=>by
     have:=k2 n hn (by omega) (by omega)
     rw [if_pos rfl] at this
     have:=srt_at H.hx (i:=k) (j:=i - 1) (by omega) (by omega)
     omega).comm
   by_cases h2:p = 1
   ·rw [if_pos (by simpa using h2)]
    exact wpS_pure ⟨hg,.inl ⟨_,rfl,Po_lsH H m2 h2⟩⟩
   ·rw [if_neg (by simpa using h2)]
    by_cases h3:p = 0
    ·rw [if_pos (by simpa using h3)]
     exact wpS_pure ⟨hg,.inl ⟨_,rfl,Po_dnH H m2 (.inr h3)⟩⟩
    ·rw [if_neg (by simpa using h3)]
     exact w_hi2 H hg m2 hi (by omega) (by omega) fun n hn n1=>Nat.le_of_lt (k1' n hn n1)
  ·rw [if_neg hk0]
   exact w_hi2 H hg m' hi (by omega) (by omega) fun n hn n1=>Nat.le_of_lt (k1' n hn (by omega))
theorem w_hi0 (q:Asks prog w A s κ rk S) (H:Hy rk S x y) {N:Nat} {o:Array Keyed} {i j g ac bc:Nat} {st st':SortSt} (hk:kindOf st = κ) (hg:Gs st st') (m:MH rk x y o i j) (hi:1 <= i) (hj:2 <= j) (hN:N + i + j <= x.size + y.size + 1) :
  wpS (model prog w) A E s (hi0 x y i j o g ac bc) (StH rk x y N st) st':=by
 unfold hi0
 have hi':=m.hi
 have hj':=m.hj
 refine wpS_bind (wpS_modify ?_)
 have hg':=hg.set g
 refine wpS_bind (w_elem (by omega) ?_)
 refine wpS_bind (w_gallop q (hg'.kind.trans hk) (H.Sy _ _) H.Sx (by omega) (fun a b hb hab _ _=>srt_at H.hx hb hab) (by omega) fun p pn k1 k2=>?_)
 dsimp only
 have k1':∀ n (hn:n < x.size),n < p -> rk x[n] <= rk (y[j - 1]'(by omega)):=fun n hn hp=>by
  have:=k1 n hn (Nat.zero_le _) (by omega)
  rw [if_neg (by decide)] at this
  exact this
 by_cases hk0:i - p > 0
 ·rw [if_pos hk0]
  have m2:=m.chunk H.hx (p:=p) pn fun n hn k hk1 n1 n2 n3=>by
   have:=k2 n hn (by omega) (by omega)
   rw [if_neg (by decide)] at this
   have:=srt_at H.hy (i:=k) (j:=j - 1) (by omega) (by omega)
   omega
  by_cases h3:p = 0
  ·rw [if_pos (by simpa using h3)]
   exact wpS_pure ⟨hg',.inl ⟨_,rfl,Po_dnH H m2 (.inl h3)⟩⟩
  ·rw [if_neg (by simpa using h3)]
   exact w_hi1 q H hk hg' m2 (by omega) hj (by omega) k1'
 ·rw [if_neg hk0]
  exact w_hi1 q H hk hg' m hi hj (by omega) fun n hn n1=>k1' n hn (by omega)
theorem w_hiG (q:Asks prog w A s κ rk S) (H:Hy rk S x y) {N:Nat} {c:HiT} {st st':SortSt} (hk:kindOf st = κ) (hg:Gs st st') (hJ:JH rk x y N c.2.1 c.2.2.1 c.2.2.2.1) :
  wpS (model prog w) A E s (hiG x y c) (StH rk x y (N + 1) st) st':=by
 unfold hiG
 have:=hJ.hN
 split
 ·exact w_hi0 q H hk hg hJ.m hJ.hi hJ.hj (by omega)
 ·exact w_hi0 q H hk hg hJ.m hJ.hi hJ.hj (by omega)
theorem w_hiS (q:Asks prog w A s κ rk S) (H:Hy rk S x y) {N g:Nat} {c:HiS} {st:SortSt} (hk:kindOf st = κ) (hJ:JH rk x y N c.2.1 c.2.2.1 c.2.2.2.1) :
  wpS (model prog w) A E s (hiS x y g c) (fun r st'=>st' = st /\ match r with
    | .done c=>(∃ t,c.1 = some t /\ Po rk x y t) \/ (c.1 = none /\ JH rk x y (N + 1) c.2.1 c.2.2.1 c.2.2.2.1)
    | .yield c=>c.1 = none /\ JH rk x y (N + 1) c.2.1 c.2.2.1 c.2.2.2.1) st:=by
 unfold hiS
 obtain ⟨m,hi,hj,hN⟩:=hJ
 have hi':=m.hi
 have hj':=m.hj
 refine wpS_bind (w_elem (by omega) ?_)
 refine wpS_bind (w_elem (by omega) ?_)
 refine wpS_bind (w_lt q hk (H.Sy _ _) (H.Sx _ _) ?_)
 dsimp only
 by_cases hlt:rk (y[c.2.2.1 - 1]'(by omega)) < rk (x[c.2.1 - 1]'(by omega))
 ·rw [if_pos (by simpa using hlt)]
  have m':=m.push H.hx hi fun n hn n1=>by have:=srt_at H.hy (i:=n) (j:=c.2.2.1 - 1) (by omega) (by omega); omega
  refine wpS_bind (w_elem (by omega) ?_)
  by_cases h1:c.2.1 - 1 = 0
  ·rw [if_pos (by simpa using h1)]
   exact wpS_pure ⟨rfl,.inl ⟨_,rfl,Po_dnH H m' (.inl h1)⟩⟩
  ·rw [if_neg (by simpa using h1)]
   have jj:JH rk x y (N + 1) (c.2.1 - 1) c.2.2.1 (c.2.2.2.1.push (x[c.2.1 - 1]'(by omega))):=⟨m',by omega,hj,by omega⟩
   split
   ·exact wpS_pure ⟨rfl,.inr ⟨rfl,jj⟩⟩
   ·exact wpS_pure ⟨rfl,rfl,jj⟩
 ·rw [if_neg (by simpa using hlt)]
  have m':=(m.comm.push H.hy (by omega) fun n hn n1=>by have:=srt_at H.hx (i:=n) (j:=c.2.1 - 1) (by omega) (by omega); omega).comm
  refine wpS_bind (w_elem (by omega) ?_)
  by_cases h1:c.2.2.1 - 1 = 1
  ·rw [if_pos (by simpa using h1)]
   exact wpS_pure ⟨rfl,.inl ⟨_,rfl,Po_lsH H m' h1⟩⟩
  ·rw [if_neg (by simpa using h1)]
   have jj:JH rk x y (N + 1) c.2.1 (c.2.2.1 - 1) (c.2.2.2.1.push (y[c.2.2.1 - 1]'(by omega))):=⟨m',by omega,by omega,by omega⟩
   split
   ·exact wpS_pure ⟨rfl,.inr ⟨rfl,jj⟩⟩
   ·exact wpS_pure ⟨rfl,rfl,jj⟩
theorem JH.false {N i j:Nat} {o:Array Keyed} (h:JH rk x y N i j o) (hN:x.size + y.size <= N):False:=by
 have h1:=h.hi
 have h2:=h.hj
 have h3:=h.hN
 omega
theorem w_hiB (q:Asks prog w A s κ rk S) (H:Hy rk S x y) {N:Nat} {c:HiO} {st st':SortSt} (hk:kindOf st = κ) (hg:Gs st st') (hJ:JH rk x y N c.2.1 c.2.2.1 c.2.2.2.1) :
  wpS (model prog w) A E s (hiB x y c) (fun r st'=>Gs st st' /\ match r with
    | .done c=>∃ t,c.1 = some t /\ Po rk x y t
    | .yield c=>c.1 = none /\ JH rk x y (N + 1) c.2.1 c.2.2.1 c.2.2.2.1) st':=by
 unfold hiB
 refine wpS_bind (wpS_mono (wpS_forRange (I:=fun n c st''=>st'' = st' /\ c.1 = none /\ JH rk x y (N + n) c.2.1 c.2.2.1 c.2.2.2.1)
   (Q:=fun c st''=>st'' = st' /\ ((∃ t,c.1 = some t /\ Po rk x y t) \/ (c.1 = none /\ JH rk x y N c.2.1 c.2.2.1 c.2.2.2.1))) ?step ?fin ⟨rfl,rfl,hJ⟩) ?post)
 case fin =>
  rintro c st'' ⟨rfl,_,h⟩
  exact (h.false (by omega)).elim
 case step =>
  rintro n c st'' _ _ ⟨rfl,_,h⟩
  refine wpS_mono (w_hiS q H (hg.kind.trans hk) h) ?_
  rintro r st3 ⟨rfl,h⟩
  cases r with
  | done c =>
   refine ⟨rfl,h.imp id fun h=>⟨h.1,h.2.m,h.2.hi,h.2.hj,?_⟩⟩
   have:=h.2.hN
   omega
  | yield c=>exact ⟨rfl,h.1,h.2⟩
 case post =>
  rintro c st'' ⟨rfl,h⟩
  obtain ⟨r,c⟩:=c
  rcases h with ⟨t,e,h⟩ | ⟨e,h⟩
  ·cases e
   exact wpS_pure ⟨hg,_,rfl,h⟩
  ·cases e
   dsimp only
   refine wpS_bind (wpS_lift (wpAny_rule ⟨rfl,?_⟩))
   refine wpS_bind (wpS_mono (wpS_forRange (I:=fun n c st''=>Gs st st'' /\ c.1 = none /\ JH rk x y (N + n) c.2.1 c.2.2.1 c.2.2.2.1)
     (Q:=fun c st''=>Gs st st'' /\ RH rk x y (N + 1) c) ?step2 ?fin2 ⟨hg,rfl,h⟩) ?post2)
   case fin2 =>
    rintro c st'' ⟨_,_,h⟩
    exact (h.false (by omega)).elim
   case step2 =>
    rintro n c st'' _ _ ⟨hg2,_,h⟩
    refine wpS_mono (w_hiG q H hk hg2 h) ?_
    rintro r st3 ⟨hg3,h⟩
    cases r with
    | done c =>
     refine ⟨hg3,Or.imp id (fun h=>⟨h.1,h.2.m,h.2.hi,h.2.hj,?_⟩) h⟩
     have:=h.2.hN
     omega
    | yield c=>exact ⟨hg3,h.1,h.2⟩
   case post2 =>
    rintro c st'' ⟨hg2,h⟩
    obtain ⟨r,c⟩:=c
    rcases h with ⟨t,e,h⟩ | ⟨e,h⟩
    ·cases e
     exact wpS_pure ⟨hg2,_,rfl,h⟩
    ·cases e
     exact wpS_bind (wpS_modify (wpS_pure ⟨hg2.set _,rfl,h⟩))
theorem w_mHi (q:Asks prog w A s κ rk S) (H:Hy rk S x y) {st:SortSt} {Q:Array Keyed -> SortSt -> Prop} (hk:kindOf st = κ) (h:∀ r st',Gs st st' -> Po rk x y r -> Q r st'):wpS (model prog w) A E s (mHi x y) Q st:=by
 rw [mHi_eq]
 have hy0:=H.y0
 have hx0:=H.x0
 refine wpS_bind (wpS_lift (wpAny_rule ⟨rfl,?_⟩))
 refine wpS_bind (w_elem (by omega) ?_)
 have m0:MH rk x y #[] x.size y.size:=⟨⟨by simp,by simp,by simp,by simp⟩,Nat.le_refl _,Nat.le_refl _⟩
 have m1:=m0.push H.hx hx0 fun n hn _=>H.hl n hn
 have e1:(#[]:Array Keyed).push (x[x.size - 1]'(by omega)) = #[x[x.size - 1]'(by omega)]:=rfl
 rw [e1] at m1
 by_cases h1:x.size - 1 = 0
 ·rw [if_pos (by simpa using h1)]
  exact wpS_pure (h _ _ (Gs.refl _) (Po_dnH H m1 (.inl h1)))
 ·rw [if_neg (by simpa using h1)]
  by_cases h2:y.size = 1
  ·rw [if_pos (by simpa using h2)]
   exact wpS_pure (h _ _ (Gs.refl _) (Po_lsH H m1 h2))
  ·rw [if_neg (by simpa using h2)]
   refine wpS_bind (wpS_get ?_)
   refine wpS_bind (wpS_mono (wpS_forRange (I:=fun n c st''=>Gs st st'' /\ c.1 = none /\ JH rk x y n c.2.1 c.2.2.1 c.2.2.2.1)
     (Q:=fun c st''=>Gs st st'' /\ ∃ t,c.1 = some t /\ Po rk x y t) ?step ?fin ⟨Gs.refl _,rfl,m1,by show 1 <= x.size - 1; omega,by show 2 <= y.size; omega,by show 0 + (x.size - 1) + y.size <= _; omega⟩) ?post)
   case fin =>
    rintro c st'' ⟨_,_,h⟩
    exact (h.false (by omega)).elim
   case step =>
    rintro n c st'' _ _ ⟨hg2,_,h⟩
    refine wpS_mono (w_hiB q H hk hg2 h) ?_
    rintro r st3 ⟨hg3,h⟩
    cases r with
    | done c=>exact ⟨hg3,h⟩
    | yield c=>exact ⟨hg3,h⟩
   case post =>
    rintro c st'' ⟨hg2,t,e,hP⟩
    obtain ⟨r,c⟩:=c
    cases e
    exact wpS_pure (h _ _ hg2 hP)
end
end SG
namespace SG
open PySem PyProof.Rows
noncomputable def KR (rk:Keyed -> Nat) (xs:Array Keyed) (i:Nat):Nat:=match xs[i]? with
 | some p=>rk p
 | none=>0
theorem KR_at {rk:Keyed -> Nat} {xs:Array Keyed} {i:Nat} (h:i < xs.size):KR rk xs i = rk xs[i]:=by
 unfold KR; rw [getElem?_pos xs i h]
theorem KR_congr {rk:Keyed -> Nat} {xs ys:Array Keyed} {i j:Nat} (h:xs[i]? = ys[j]?):KR rk xs i = KR rk ys j:=by unfold KR; rw [h]
theorem KR_mirror {rk:Keyed -> Nat} {xs:Array Keyed} {i j:Nat} (hj:j <= xs.size) (k:Nat) :
  KR rk (mirror xs i j ((j - i) / 2)) k = if i <= k /\ k < j then KR rk xs (i + j - 1 - k) else KR rk xs k:=by
 have e:=getElem?_mirror_all (i:=i) hj k
 split
 ·rename_i h1; rw [if_pos h1] at e; exact KR_congr e
 ·rename_i h1; rw [if_neg h1] at e; exact KR_congr e
theorem KR_bubble {rk:Keyed -> Nat} {xs:Array Keyed} {c d:Nat} (hs:c < xs.size) (hd:d <= c) (k:Nat) :
  KR rk (bubble xs c d) k = if k = c - d then KR rk xs c else if c - d < k /\ k <= c then KR rk xs (k - 1) else KR rk xs k:=by
 have e:=getElem?_bubble hs d hd k
 split
 ·rename_i h1; rw [if_pos h1] at e; exact KR_congr e
 ·rename_i h1
  rw [if_neg h1] at e
  split
  ·rename_i h2; rw [if_pos h2] at e; exact KR_congr e
  ·rename_i h2; rw [if_neg h2] at e; exact KR_congr e
noncomputable def Sg (rk:Keyed -> Nat) (xs:Array Keyed) (lo n:Nat):Prop:=∀ i j,lo <= i -> i <= j -> j < lo + n -> KR rk xs i <= KR rk xs j
noncomputable def Dg (rk:Keyed -> Nat) (xs:Array Keyed) (lo n:Nat):Prop:=∀ i j,lo <= i -> i <= j -> j < lo + n -> KR rk xs j <= KR rk xs i
structure Bs (κ:SortKind) (st:SortSt) (lo n:Nat) (st':SortSt):Prop where
 perm:(arrOf st').Perm (arrOf st)
 kind:kindOf st' = κ
 failed:failedOf st' = none
 pend:pendingOf st' = pendingOf st
 keep:∀ i,i < lo \/ lo + n <= i -> (arrOf st')[i]? = (arrOf st)[i]?
theorem Bs.size {κ:SortKind} {st st':SortSt} {lo n:Nat} (h:Bs κ st lo n st'):(arrOf st').size = (arrOf st).size:=h.perm.size_eq
theorem Bs.mir {κ:SortKind} {st st':SortSt} {lo n i j:Nat} (h:Bs κ st lo n st') (hj:j <= (arrOf st).size) (h1:lo <= i) (h2:j <= lo + n):Bs κ st lo n (setArr st' (mirror (arrOf st') i j ((j - i) / 2))) :=
 ⟨(mirror_perm _ _ _ _).trans h.perm,h.kind,h.failed,h.pend,fun k hk=>by
   show (mirror (arrOf st') i j ((j - i) / 2))[k]? = _
   rw [getElem?_mirror_all (by rw [h.size]; exact hj),if_neg (by omega)]
   exact h.keep k hk⟩
section
variable {prog:Program} {w:World} {A:Around} {E:Value -> Shared -> Prop} {s:Shared} {κ:SortKind} {rk:Keyed -> Nat} {S:Keyed -> Prop} {st:SortSt}
noncomputable abbrev AllS (S:Keyed -> Prop) (xs:Array Keyed):Prop:=∀ p,p ∈ xs.toList -> S p
theorem Bs.inS {st':SortSt} {lo n:Nat} (hS:AllS S (arrOf st)) (h:Bs κ st lo n st') {i:Nat} (hi:i < (arrOf st').size):S (arrOf st')[i] :=
 hS _ ((Array.perm_iff_toList_perm.mp h.perm).mem_iff.mp (by simp))
theorem w_ltAt (q:Asks prog w A s κ rk S) {st':SortSt} {lo n i j:Nat} {Q:Option Bool -> SortSt -> Prop} (hS:AllS S (arrOf st)) (hB:Bs κ st lo n st') (hi:i < (arrOf st).size) (hj:j < (arrOf st).size)
  (h:Q (some (decide (KR rk (arrOf st') i < KR rk (arrOf st') j))) st'):wpS (model prog w) A E s (ltAt' i j) Q st':=by
 have hi':i < (arrOf st').size:=by rw [hB.size]; exact hi
 have hj':j < (arrOf st').size:=by rw [hB.size]; exact hj
 rw [ltAt'_eq]
 refine wpS_bind (wpS_get ?_)
 refine wpS_bind (w_elem hi' (wpS_bind (w_elem hj' ?_)))
 refine w_lt q hB.kind (hB.inS hS _) (hB.inS hS _) ?_
 rw [KR_at hi',KR_at hj'] at h
 exact h
noncomputable def ascL (lo a nrem:Nat):StateT SortSt Sem AscSt :=
 forIn [a:nrem] ((none,a):AscSt) fun _ z=>do
  let some sm <- ltAt' (lo + z.2) (lo + z.2 - 1) | pure (.done (some none,z.2))
  if sm = true then pure (.done (none,z.2)) else pure (.yield (none,z.2 + 1))
noncomputable def t3L (lo n nrem:Nat):StateT SortSt Sem (Option Nat):=do
 reverseSlice' lo (lo + n)
 let z <- ascL lo n nrem
 match z.1 with
 | some r=>pure r
 | none=>pure (some z.2)
noncomputable def descL (lo n nrem:Nat):StateT SortSt Sem DescSt :=
 forIn [n:nrem] ((none,n,0):DescSt) fun _ z=>do
  let some sm <- ltAt' (lo + z.2.1) (lo + z.2.1 - 1) | pure (.done (some none,z.2.1,z.2.2))
  if sm = true then
   if z.2.2 > 0 then do
    reverseSlice' (lo + z.2.1 - (z.2.2 + 1)) (lo + z.2.1)
    pure (.yield (none,z.2.1 + 1,0))
   else pure (.yield (none,z.2.1 + 1,0))
  else do
   let some la <- ltAt' (lo + z.2.1 - 1) (lo + z.2.1) | pure (.done (some none,z.2.1,z.2.2))
   if la = true then pure (.done (none,z.2.1,z.2.2)) else pure (.yield (none,z.2.1 + 1,z.2.2 + 1))
noncomputable def dpL (lo n nrem:Nat):StateT SortSt Sem (Option Nat):=do
 liftM (rule "list.sort.descending-run")
 let z <- descL lo (n + 1) nrem
 match z.1 with
 | some r=>pure r
 | none =>
  if z.2.2 > 0 then do
   reverseSlice' (lo + z.2.1 - (z.2.2 + 1)) (lo + z.2.1)
   t3L lo z.2.1 nrem
  else t3L lo z.2.1 nrem
theorem crL_eq (lo nrem:Nat):countRun' lo nrem = (do
    let z <- ascL lo 1 nrem
    match z.1 with
    | some r=>pure r
    | none =>
      if (z.2 == nrem) = true then pure (some z.2)
      else if z.2 > 1 then do
        let some ro <- ltAt' lo (lo + z.2 - 1) | pure none
        if ro = true then pure (some z.2) else do
          reverseSlice' lo (lo + z.2)
          dpL lo z.2 nrem
      else dpL lo z.2 nrem):=by
 have te:∀ m,(do
     reverseSlice' lo (lo + m)
     let z <- ascL lo m nrem
     match z.1 with
     | some r=>pure r
     | none=>pure (some z.2)) = t3L lo m nrem:=fun m=>rfl
 rw [countRun'_eq]
 unfold dpL t3L descL ascL
 refine congr (congrArg bind rfl) (funext fun z=>?_)
 obtain ⟨r,n⟩:=z
 cases r with
 | some r=>rfl
 | none =>
  dsimp only
  have tl:∀ z:AscSt,(match z.1 with | some r=>pure r | none=>pure (some z.2):StateT SortSt Sem (Option Nat)) = match z.1 with | some r=>pure r | none=>pure (some z.2):=fun z=>rfl
  split
  ·rfl
  ·split
   ·congr 1
    funext x
    cases x with
    | none=>rfl
    | some ro =>
     dsimp only
     split
     ·rfl
     ·congr 1
      funext _
      congr 1
      funext _
      congr 1
      funext z
      obtain ⟨r,m,q⟩:=z
      cases r with
      | some r=>rfl
      | none =>
       dsimp only
       split
       ·congr 1; funext _; congr 1; funext _; congr 1; funext z; obtain ⟨r,k⟩:=z; cases r <;> rfl
       ·congr 1; funext _; congr 1; funext z; obtain ⟨r,k⟩:=z; cases r <;> rfl
   ·congr 1
    funext _
    congr 1
    funext z
    obtain ⟨r,m,q⟩:=z
    cases r with
    | some r=>rfl
    | none =>
     dsimp only
     split
     ·congr 1; funext _; congr 1; funext _; congr 1; funext z; obtain ⟨r,k⟩:=z; cases r <;> rfl
     ·congr 1; funext _; congr 1; funext z; obtain ⟨r,k⟩:=z; cases r <;> rfl
theorem w_rev {i j:Nat} {st':SortSt} {Q:Unit -> SortSt -> Prop} (h:Q () (setArr st' (mirror (arrOf st') i j ((j - i) / 2)))):wpS (model prog w) A E s (reverseSlice' i j) Q st':=by
 rw [reverseSlice'_eq]
 exact wpS_modify h
theorem w_asc (q:Asks prog w A s κ rk S) {st':SortSt} {lo N a nrem:Nat} {Q:AscSt -> SortSt -> Prop} (hS:AllS S (arrOf st)) (hn:lo + nrem <= (arrOf st).size) (ha:1 <= a) (han:a <= nrem) (hB:Bs κ st lo N st') (hs:Sg rk (arrOf st') lo a)
  (h:∀ n,a <= n -> n <= nrem -> Sg rk (arrOf st') lo n -> (n = nrem \/ KR rk (arrOf st') (lo + n) < KR rk (arrOf st') (lo + n - 1)) -> Q (none,n) st'):wpS (model prog w) A E s (ascL lo a nrem) Q st':=by
 unfold ascL
 refine wpS_forRange (I:=fun x c z=>z = st' /\ c = (none,x) /\ Sg rk (arrOf st') lo x) ?step ?fin ⟨rfl,rfl,hs⟩
 case fin =>
  rintro c z ⟨rfl,rfl,h1⟩
  rw [show max a nrem = nrem by omega] at h1 ⊢
  exact h nrem han (Nat.le_refl _) h1 (.inl rfl)
 case step =>
  rintro x c z hax hxn ⟨rfl,rfl,h1⟩
  dsimp only
  refine wpS_bind (w_ltAt q hS hB (by omega) (by omega) ?_)
  dsimp only
  by_cases hl:KR rk (arrOf z) (lo + x) < KR rk (arrOf z) (lo + x - 1)
  ·rw [if_pos (by simpa using hl)]
   exact wpS_pure (h x hax (by omega) h1 (.inr hl))
  ·rw [if_neg (by simpa using hl)]
   refine wpS_pure ⟨rfl,rfl,fun i j hi hij hj=>?_⟩
   by_cases hjx:j < lo + x
   ·exact h1 i j hi hij hjx
   ·have:j = lo + x:=by omega
    subst this
    by_cases hi':i = lo + x
    ·subst hi'; exact Nat.le_refl _
    ·have:=h1 i (lo + x - 1) hi (by omega) (by omega)
     omega
theorem w_t3 (q:Asks prog w A s κ rk S) {st':SortSt} {lo n nrem:Nat} {Q:Option Nat -> SortSt -> Prop} (hS:AllS S (arrOf st)) (hn:lo + nrem <= (arrOf st).size) (h1:1 <= n) (hnn:n <= nrem) (hB:Bs κ st lo nrem st') (hs:Dg rk (arrOf st') lo n)
  (h:∀ m z,Bs κ st lo nrem z -> 1 <= m -> m <= nrem -> Sg rk (arrOf z) lo m -> Q (some m) z):wpS (model prog w) A E s (t3L lo n nrem) Q st':=by
 unfold t3L
 refine wpS_bind (w_rev ?_)
 have hz:lo + n <= (arrOf st').size:=by rw [hB.size]; omega
 have hB':=hB.mir (i:=lo) (j:=lo + n) (by omega) (Nat.le_refl _) (by omega)
 refine wpS_bind (w_asc q hS hn h1 hnn hB' (fun i j hi hij hj=>?_) fun m m1 m2 hm _=>wpS_pure (h m _ hB' (by omega) m2 hm))
 show KR rk (mirror _ _ _ _) i <= KR rk (mirror _ _ _ _) j
 rw [KR_mirror hz,KR_mirror hz,if_pos (by omega),if_pos (by omega)]
 exact hs _ _ (by omega) (by omega) (by omega)
theorem KR_alike {xs:Array Keyed} {i j:Nat} (hj:j <= xs.size) (he:∀ k,i <= k -> k < j -> KR rk xs k = KR rk xs (j - 1)) (k:Nat):KR rk (mirror xs i j ((j - i) / 2)) k = KR rk xs k:=by
 rw [KR_mirror hj]
 split
 ·rw [he _ (by omega) (by omega),he k (by omega) (by omega)]
 ·rfl
theorem w_desc (q:Asks prog w A s κ rk S) {st':SortSt} {lo n nrem:Nat} {Q:DescSt -> SortSt -> Prop} (hS:AllS S (arrOf st)) (hn:lo + nrem <= (arrOf st).size) (h1:1 <= n) (hnn:n <= nrem) (hB:Bs κ st lo nrem st') (hs:Dg rk (arrOf st') lo n)
  (h:∀ m e z,Bs κ st lo nrem z -> n <= m -> m <= nrem -> Dg rk (arrOf z) lo m -> e + 1 <= m -> (∀ i,lo + m - (e + 1) <= i -> i < lo + m -> KR rk (arrOf z) i = KR rk (arrOf z) (lo + m - 1)) -> Q (none,m,e) z) :
  wpS (model prog w) A E s (descL lo n nrem) Q st':=by
 unfold descL
 refine wpS_forRange (I:=fun x c z=>∃ e,c = (none,x,e) /\ Bs κ st lo nrem z /\ Dg rk (arrOf z) lo x /\ e + 1 <= x /\ ∀ i,lo + x - (e + 1) <= i -> i < lo + x -> KR rk (arrOf z) i = KR rk (arrOf z) (lo + x - 1)) ?step ?fin
  ⟨0,rfl,hB,hs,by omega,fun i i1 i2=>by congr 1; omega⟩
 case fin =>
  rintro c z ⟨e,rfl,b,d,e1,e2⟩
  rw [show max n nrem = nrem by omega] at d e1 e2 ⊢
  exact h nrem e z b hnn (Nat.le_refl _) d e1 e2
 case step =>
  rintro x c z hax hxn ⟨e,rfl,b,d,e1,e2⟩
  dsimp only
  have hz:lo + x <= (arrOf z).size:=by rw [b.size]; omega
  refine wpS_bind (w_ltAt q hS b (by omega) (by omega) ?_)
  dsimp only
  by_cases hl:KR rk (arrOf z) (lo + x) < KR rk (arrOf z) (lo + x - 1)
  ·rw [if_pos (by simpa using hl)]
   have st1:∀ xs:Array Keyed,(∀ k,KR rk xs k = KR rk (arrOf z) k) -> Dg rk xs lo (x + 1):=fun xs hk i j hi hij hj=>by
    rw [hk,hk]
    by_cases hjx:j < lo + x
    ·exact d i j hi hij hjx
    ·have:j = lo + x:=by omega
     subst this
     by_cases hi':i = lo + x
     ·subst hi'; exact Nat.le_refl _
     ·have:=d i (lo + x - 1) hi (by omega) (by omega)
      omega
   by_cases he:e > 0
   ·rw [if_pos he]
    exact wpS_bind (w_rev (wpS_pure ⟨0,rfl,b.mir (by omega) (by omega) (by omega),st1 _ (KR_alike hz e2),by omega,fun i i1 i2=>by congr 1; omega⟩))
   ·rw [if_neg he]
    exact wpS_pure ⟨0,rfl,b,st1 _ (fun _=>rfl),by omega,fun i i1 i2=>by congr 1; omega⟩
  ·rw [if_neg (by simpa using hl)]
   refine wpS_bind (w_ltAt q hS b (by omega) (by omega) ?_)
   dsimp only
   by_cases hg:KR rk (arrOf z) (lo + x - 1) < KR rk (arrOf z) (lo + x)
   ·rw [if_pos (by simpa using hg)]
    exact wpS_pure (h x e z b hax (by omega) d e1 e2)
   ·rw [if_neg (by simpa using hg)]
    refine wpS_pure ⟨e + 1,rfl,b,fun i j hi hij hj=>?_,by omega,fun i i1 i2=>?_⟩
    ·by_cases hjx:j < lo + x
     ·exact d i j hi hij hjx
     ·have:j = lo + x:=by omega
      subst this
      by_cases hi':i = lo + x
      ·subst hi'; exact Nat.le_refl _
      ·have:=d i (lo + x - 1) hi (by omega) (by omega)
       omega
    ·rw [show lo + (x + 1) - 1 = lo + x by omega]
     by_cases hix:i = lo + x
     ·subst hix; rfl
     ·have:=e2 i (by omega) (by omega)
      omega
theorem w_dp (q:Asks prog w A s κ rk S) {st':SortSt} {lo n nrem:Nat} {Q:Option Nat -> SortSt -> Prop} (hS:AllS S (arrOf st)) (hn:lo + nrem <= (arrOf st).size) (hnn:n + 1 <= nrem) (hB:Bs κ st lo nrem st') (hs:Dg rk (arrOf st') lo (n + 1))
  (h:∀ m z,Bs κ st lo nrem z -> 1 <= m -> m <= nrem -> Sg rk (arrOf z) lo m -> Q (some m) z):wpS (model prog w) A E s (dpL lo n nrem) Q st':=by
 unfold dpL
 refine wpS_bind (wpS_lift (wpAny_rule ⟨rfl,?_⟩))
 refine wpS_bind (w_desc q hS hn (by omega) hnn hB hs fun m e z b m1 m2 d e1 e2=>?_)
 dsimp only
 have hz:lo + m <= (arrOf z).size:=by rw [b.size]; omega
 by_cases he:e > 0
 ·rw [if_pos he]
  refine wpS_bind (w_rev (w_t3 q hS hn (by omega) m2 (b.mir (by omega) (by omega) (by omega)) (fun i j hi hij hj=>?_) h))
  show KR rk (mirror _ _ _ _) j <= KR rk (mirror _ _ _ _) i
  rw [KR_alike hz e2,KR_alike hz e2]
  exact d i j hi hij hj
 ·rw [if_neg he]
  exact w_t3 q hS hn (by omega) m2 b d h
theorem w_cr (q:Asks prog w A s κ rk S) {lo nrem:Nat} {Q:Option Nat -> SortSt -> Prop} (hS:AllS S (arrOf st)) (hn:lo + nrem <= (arrOf st).size) (h1:1 <= nrem) (hB:Bs κ st lo nrem st)
  (h:∀ m z,Bs κ st lo nrem z -> 1 <= m -> m <= nrem -> Sg rk (arrOf z) lo m -> Q (some m) z):wpS (model prog w) A E s (countRun' lo nrem) Q st:=by
 rw [crL_eq]
 refine wpS_bind (w_asc q hS hn (Nat.le_refl 1) h1 hB (fun i j hi hij hj=>by have:i = j:=(by omega); subst this; exact Nat.le_refl _) fun n n1 n2 sn hor=>?_)
 dsimp only
 by_cases hnn:n = nrem
 ·rw [if_pos (by simpa using hnn)]
  exact wpS_pure (h n st hB n1 n2 sn)
 ·rw [if_neg (by simpa using hnn)]
  have hlt:=hor.resolve_left hnn
  by_cases hgt:n > 1
  ·rw [if_pos hgt]
   refine wpS_bind (w_ltAt q hS hB (by omega) (by omega) ?_)
   dsimp only
   by_cases hr:KR rk (arrOf st) lo < KR rk (arrOf st) (lo + n - 1)
   ·rw [if_pos (by simpa using hr)]
    exact wpS_pure (h n st hB n1 n2 sn)
   ·rw [if_neg (by simpa using hr)]
    have hz:lo + n <= (arrOf st).size:=by omega
    have all:∀ k,lo <= k -> k < lo + n -> KR rk (arrOf st) k = KR rk (arrOf st) (lo + n - 1):=fun k k1 k2=>by
     have a1:=sn lo k (by omega) k1 k2
     have a2:=sn k (lo + n - 1) k1 (by omega) (by omega)
     omega
    refine wpS_bind (w_rev (w_dp q hS hn (by omega) (hB.mir (by omega) (by omega) (by omega)) (fun i j hi hij hj=>?_) h))
    show KR rk (mirror _ _ _ _) j <= KR rk (mirror _ _ _ _) i
    rw [KR_alike hz all,KR_alike hz all]
    by_cases hjn:j < lo + n
    ·have:=all i hi (by omega)
     have:=all j (by omega) hjn
     omega
    ·have:j = lo + n:=by omega
     subst this
     by_cases hi':i = lo + n
     ·subst hi'; exact Nat.le_refl _
     ·have:=all i hi (by omega)
      omega
  ·rw [if_neg hgt]
   have:n = 1:=by omega
   subst this
   refine w_dp q hS hn (by omega) hB (fun i j hi hij hj=>?_) h
   by_cases hi':i = j
   ·subst hi'; exact Nat.le_refl _
   ·have e1:i = lo:=by omega
    have e2:j = lo + 1:=by omega
    subst e1; subst e2
    exact Nat.le_of_lt hlt
theorem w_bins (q:Asks prog w A s κ rk S) {st':SortSt} {lo N n ok:Nat} {Q:Bool -> SortSt -> Prop} (hS:AllS S (arrOf st)) (hn:lo + n <= (arrOf st).size) (hnN:n <= N) (hok:ok <= n) (hB:Bs κ st lo N st') (hs:Sg rk (arrOf st') lo ok)
  (h:∀ z,Bs κ st lo N z -> Sg rk (arrOf z) lo n -> Q true z):wpS (model prog w) A E s (binarySort' lo n ok) Q st':=by
 rw [binarySort'_eq]
 refine wpS_bind (wpS_mono (wpS_forRange (I:=fun k c z=>c = (none,()) /\ Bs κ st lo N z /\ Sg rk (arrOf z) lo (min k n)) (Q:=fun c z=>c = (none,()) /\ Bs κ st lo N z /\ Sg rk (arrOf z) lo n) ?step ?fin ?init) ?post)
 case post =>
  rintro c z ⟨rfl,b,hs'⟩
  exact wpS_pure (h z b hs')
 case init =>
  refine ⟨rfl,hB,fun i j hi hij hj=>?_⟩
  by_cases h1:ok = 0
  ·have:i = j:=by omega
   subst this; exact Nat.le_refl _
  ·exact hs i j hi hij (by omega)
 case fin =>
  rintro c z ⟨hc,b,hs'⟩
  refine ⟨hc,b,?_⟩
  rwa [show min (max (max ok 1) n) n = n by omega] at hs'
 case step =>
  rintro k c z hak hkn ⟨rfl,b,hs'⟩
  rw [show min k n = k by omega] at hs'
  refine wpS_bind (wpS_mono (wpS_forRange (I:=fun x c z'=>z' = z /\ ∃ l r,c = (none,l,r) /\ l <= r /\ r <= k /\ r - l <= k - x /\ (∀ i,i < l -> KR rk (arrOf z) (lo + i) <= KR rk (arrOf z) (lo + k)) /\ (∀ i,r <= i -> i < k -> KR rk (arrOf z) (lo + k) < KR rk (arrOf z) (lo + i)))
    (Q:=fun c z'=>z' = z /\ ∃ l r,c = (none,l,r) /\ l <= k /\ (∀ i,i < l -> KR rk (arrOf z) (lo + i) <= KR rk (arrOf z) (lo + k)) /\ (∀ i,l <= i -> i < k -> KR rk (arrOf z) (lo + k) < KR rk (arrOf z) (lo + i))) ?istep ?ifin ?iinit) ?ipost)
  case iinit=>exact ⟨rfl,0,k,rfl,by omega,by omega,by omega,fun i hi=>by omega,fun i h1 h2=>by omega⟩
  case ifin =>
   rintro c z' ⟨rfl,l,r,rfl,hlr,hrk,hm,hlo,hhi⟩
   have:l = r:=by omega
   subst this
   exact ⟨rfl,l,l,rfl,hrk,hlo,hhi⟩
  case istep =>
   rintro x c z' _ hxk ⟨rfl,l,r,rfl,hlr,hrk,hm,hlo,hhi⟩
   dsimp only
   by_cases hge:l ≥ r
   ·rw [if_pos hge]
    have:l = r:=by omega
    subst this
    exact wpS_pure ⟨rfl,l,l,rfl,hrk,hlo,hhi⟩
   ·rw [if_neg hge]
    refine wpS_bind (w_ltAt q hS b (by omega) (by omega) ?_)
    dsimp only
    by_cases hl:KR rk (arrOf z') (lo + k) < KR rk (arrOf z') (lo + (l + r) / 2)
    ·rw [if_pos (by simpa using hl)]
     refine wpS_pure ⟨rfl,l,(l + r) / 2,rfl,by omega,by omega,by omega,hlo,fun i h1 h2=>?_⟩
     have:=hs' (lo + (l + r) / 2) (lo + i) (by omega) (by omega) (by omega)
     omega
    ·rw [if_neg (by simpa using hl)]
     refine wpS_pure ⟨rfl,(l + r) / 2 + 1,r,rfl,by omega,by omega,by omega,fun i h1=>?_,hhi⟩
     have:=hs' (lo + i) (lo + (l + r) / 2) (by omega) (by omega) (by omega)
     omega
  case ipost =>
   rintro c z' ⟨rfl,l,r,rfl,hlk,hlo,hhi⟩
   show wpS _ _ _ _ (do moveDown' (lo + k) (lo + l); pure (ForInStep.yield (none,()))) _ _
   rw [moveDown'_eq]
   have hks:lo + k < (arrOf z').size:=by rw [b.size]; omega
   refine wpS_bind (wpS_modify (wpS_pure ⟨rfl,⟨(bubble_perm _ _ _).trans b.perm,b.kind,b.failed,b.pend,fun i hi=>?_⟩,?_⟩))
   ·show (bubble (arrOf z') _ _)[i]? = _
    rw [getElem?_bubble hks _ (by omega),if_neg (by omega),if_neg (by omega)]
    exact b.keep i hi
   ·rw [show min (k + 1) n = k + 1 by omega]
    intro i j hi hij hj
    show KR rk (bubble (arrOf z') (lo + k) (lo + k - (lo + l))) i <= KR rk (bubble (arrOf z') (lo + k) (lo + k - (lo + l))) j
    rw [KR_bubble hks (by omega),KR_bubble hks (by omega),show lo + k - (lo + k - (lo + l)) = lo + l by omega]
    have hlo':∀ i,lo <= i -> i < lo + l -> KR rk (arrOf z') i <= KR rk (arrOf z') (lo + k):=fun i h1 h2=>by
     have:=hlo (i - lo) (by omega)
     rwa [show lo + (i - lo) = i by omega] at this
    have hhi':∀ i,lo + l <= i -> i < lo + k -> KR rk (arrOf z') (lo + k) < KR rk (arrOf z') i:=fun i h1 h2=>by
     have:=hhi (i - lo) (by omega) (by omega)
     rwa [show lo + (i - lo) = i by omega] at this
    repeat' split
    all_goals first
     | (exfalso; omega)
     | exact Nat.le_refl _
     | exact hlo' _ (by omega) (by omega)
     | exact Nat.le_of_lt (hhi' _ (by omega) (by omega))
     | exact hs' _ _ (by omega) (by omega) (by omega)
end
end SG
namespace SG
open PySem PyProof.Rows
noncomputable def wb (xs:Array Keyed) (c:Nat) (m:List Keyed) (n:Nat):Array Keyed:=(m.zipIdx n).foldl (fun a pj=>a.setIfInBounds (c + pj.2) pj.1) xs
theorem mAt_eq (i:Nat):mergeAt' i = (do
    let z <- get
    let (some (sa,na,pw),some (sb,nb,_)):=((pendingOf z)[i]?,(pendingOf z)[i + 1]?) | unsupported "internal:list.sort.pending"
    set (setPending z (((pendingOf z).setIfInBounds i (sa,na + nb,pw)).eraseIdxIfInBounds (i + 1)))
    let some k <- gal false (<- elem' (arrOf z) sb) (arrOf z) sa na 0 | return false
    let (sa,na):=(sa + k,na - k)
    if na == 0 then return true
    let some nb <- gal true (<- elem' (arrOf z) (sa + na - 1)) (arrOf z) sb nb (nb - 1) | return false
    if nb == 0 then return true
    let x:=(arrOf z).extract sa sb
    let y:=(arrOf z).extract sb (sb + nb)
    let r <- if na <= nb then mLo x y else mHi x y
    modify fun v=>setArr v (wb (arrOf v) sa r.toList 0)
    return (failedOf (<- get)).isNone):=rfl
theorem wb_get:∀ (m:List Keyed) (n c:Nat) (xs:Array Keyed),c + n + m.length <= xs.size -> ∀ k,(wb xs c m n)[k]? = if c + n <= k /\ k < c + n + m.length then m[k - (c + n)]? else xs[k]?
 | [],n,c,xs,_,k=>by
  show xs[k]? = _
  rw [if_neg (by simp)]
 | p :: m,n,c,xs,h,k=>by
  have hl:(p :: m).length = m.length + 1:=rfl
  show (wb (xs.setIfInBounds (c + n) p) c m (n + 1))[k]? = _
  rw [wb_get m (n + 1) c _ (by rw [Array.size_setIfInBounds]; omega),Array.getElem?_setIfInBounds]
  by_cases h1:c + n = k
  ·subst h1
   rw [if_neg (by omega),if_pos rfl,if_pos (by omega),if_pos (by omega)]
   simp
  ·by_cases h2:c + (n + 1) <= k /\ k < c + (n + 1) + m.length
   ·rw [if_pos h2,if_pos (by omega)]
    have e:k - (c + n) = (k - (c + (n + 1))) + 1:=by omega
    rw [e,List.getElem?_cons_succ]
   ·rw [if_neg h2,if_neg h1,if_neg (by omega)]
theorem wb_list {xs:Array Keyed} {c:Nat} {m:List Keyed} (h:c + m.length <= xs.size):(wb xs c m 0).toList = xs.toList.take c ++ m ++ xs.toList.drop (c + m.length):=by
 apply List.ext_getElem?
 intro k
 rw [Array.getElem?_toList,wb_get m 0 c xs (by omega)]
 have hl:(xs.toList.take c).length = c:=by rw [List.length_take,Array.length_toList]; omega
 rw [List.append_assoc]
 by_cases h1:k < c
 ·rw [if_neg (by omega),List.getElem?_append_left (by omega),List.getElem?_take_of_lt h1,Array.getElem?_toList]
 ·rw [List.getElem?_append_right (by omega),hl]
  by_cases h2:k - c < m.length
  ·rw [if_pos (by omega),List.getElem?_append_left h2]
   rfl
  ·rw [if_neg (by omega),List.getElem?_append_right (by omega),List.getElem?_drop,Array.getElem?_toList]
   congr 1
   omega
section
variable {prog:Program} {w:World} {A:Around} {E:Value -> Shared -> Prop} {s:Shared} {κ:SortKind} {rk:Keyed -> Nat} {S:Keyed -> Prop} {st:SortSt}
theorem ext_at {xs:Array Keyed} {a b i:Nat} (hb:b <= xs.size) (hi:i < (xs.extract a b).size):(xs.extract a b)[i] = xs[a + i]'(by rw [Array.size_extract] at hi; omega):=by
 rw [Array.getElem_extract]
theorem ext_pw {xs:Array Keyed} {a b:Nat} (hb:b <= xs.size) (h:∀ i j,a <= i -> i <= j -> j < b -> KR rk xs i <= KR rk xs j):(xs.extract a b).toList.Pairwise (leK rk):=by
 rw [List.pairwise_iff_getElem]
 intro i j hi hj hij
 rw [Array.length_toList] at hi hj
 rw [Array.getElem_toList,Array.getElem_toList,ext_at hb,ext_at hb]
 have hz:(xs.extract a b).size = b - a:=by rw [Array.size_extract]; omega
 have:=h (a + i) (a + j) (by omega) (by omega) (by omega)
 rwa [KR_at (by omega),KR_at (by omega)] at this
structure Mt (κ:SortKind) (rk:Keyed -> Nat) (st:SortSt) (i sa na nb pw:Nat) (st':SortSt):Prop where
 perm:(arrOf st').Perm (arrOf st)
 kind:kindOf st' = κ
 failed:failedOf st' = none
 pend:pendingOf st' = ((pendingOf st).setIfInBounds i (sa,na + nb,pw)).eraseIdxIfInBounds (i + 1)
 keep:∀ j,j < sa \/ sa + (na + nb) <= j -> (arrOf st')[j]? = (arrOf st)[j]?
 sg:Sg rk (arrOf st') sa (na + nb)
theorem w_mAt (q:Asks prog w A s κ rk S) {i sa na nb pw pw':Nat} {Q:Bool -> SortSt -> Prop} (hS:AllS S (arrOf st)) (hk:kindOf st = κ) (hF:failedOf st = none) (p1:(pendingOf st)[i]? = some (sa,na,pw)) (p2:(pendingOf st)[i + 1]? = some (sa + na,nb,pw'))
  (hz:sa + na + nb <= (arrOf st).size) (n1:1 <= na) (n2:1 <= nb) (s1:Sg rk (arrOf st) sa na) (s2:Sg rk (arrOf st) (sa + na) nb) (h:∀ st',Mt κ rk st i sa na nb pw st' -> Q true st') :
  wpS (model prog w) A E s (mergeAt' i) Q st:=by
 rw [mAt_eq]
 refine wpS_bind (wpS_get ?_)
 rw [p1,p2]
 dsimp only
 refine wpS_bind (wpS_modify (f:=fun _=>setPending st (((pendingOf st).setIfInBounds i (sa,na + nb,pw)).eraseIdxIfInBounds (i + 1))) ?_)
 generalize hst1:setPending st (((pendingOf st).setIfInBounds i (sa,na + nb,pw)).eraseIdxIfInBounds (i + 1)) = st1
 have hk1:kindOf st1 = κ:=by rw [<- hst1]; exact hk
 have hF1:failedOf st1 = none:=by rw [<- hst1]; exact hF
 have hA1:arrOf st1 = arrOf st:=by rw [<- hst1]
 have hP1:pendingOf st1 = ((pendingOf st).setIfInBounds i (sa,na + nb,pw)).eraseIdxIfInBounds (i + 1):=by rw [<- hst1]
 have hSi:∀ j (hj:j < (arrOf st).size),S (arrOf st)[j]:=fun j hj=>hS _ (by simp)
 have s1':∀ a b,sa <= a -> a <= b -> b < sa + na -> KR rk (arrOf st) a <= KR rk (arrOf st) b:=s1
 have s2':∀ a b,sa + na <= a -> a <= b -> b < sa + na + nb -> KR rk (arrOf st) a <= KR rk (arrOf st) b:=s2
 refine wpS_bind (w_elem (by omega) ?_)
 refine wpS_bind (w_gallop q hk1 (hSi _ _) hSi (by omega) (fun a b hb hab h1 h2=>by
   have:=s1' a b h1 hab h2
   rwa [KR_at (by omega),KR_at hb] at this) (by omega) fun k kn k1 k2=>?_)
 dsimp only
 have k1':∀ a,sa <= a -> a < sa + k -> KR rk (arrOf st) a <= KR rk (arrOf st) (sa + na):=fun a h1 h2=>by
  have:=k1 a (by omega) h1 h2
  rw [if_neg (by decide)] at this
  rwa [KR_at (by omega),KR_at (by omega)]
 have k2':∀ a,sa + k <= a -> a < sa + na -> KR rk (arrOf st) (sa + na) < KR rk (arrOf st) a:=fun a h1 h2=>by
  have:=k2 a (by omega) h1 h2
  rw [if_neg (by decide)] at this
  rwa [KR_at (by omega),KR_at (by omega)]
 by_cases h0:na - k = 0
 ·rw [if_pos (by simpa using h0)]
  refine wpS_pure (h st1 ⟨by rw [hA1],hk1,hF1,hP1,fun j _=>by rw [hA1],fun a b h1 h2 h3=>?_⟩)
  rw [hA1]
  by_cases hb:b < sa + na
  ·exact s1' a b h1 h2 hb
  ·by_cases ha:a < sa + na
   ·exact Nat.le_trans (k1' a h1 (by omega)) (s2' (sa + na) b (by omega) (by omega) (by omega))
   ·exact s2' a b (by omega) h2 (by omega)
 ·rw [if_neg (by simpa using h0)]
  refine wpS_bind (w_elem (by omega) ?_)
  refine wpS_bind (w_gallop q hk1 (hSi _ _) hSi (by omega) (fun a b hb hab h1 h2=>by
    have:=s2' a b h1 hab h2
    rwa [KR_at (by omega),KR_at hb] at this) (by omega) fun l ln l1 l2=>?_)
  dsimp only
  have l1':∀ a,sa + na <= a -> a < sa + na + l -> KR rk (arrOf st) a < KR rk (arrOf st) (sa + k + (na - k) - 1):=fun a h1 h2=>by
   have:=l1 a (by omega) h1 h2
   rw [if_pos rfl] at this
   rwa [KR_at (by omega),KR_at (by omega)]
  have l2':∀ a,sa + na + l <= a -> a < sa + na + nb -> KR rk (arrOf st) (sa + k + (na - k) - 1) <= KR rk (arrOf st) a:=fun a h1 h2=>by
   have:=l2 a (by omega) h1 h2
   rw [if_pos rfl] at this
   rwa [KR_at (by omega),KR_at (by omega)]
  have el:sa + k + (na - k) - 1 = sa + na - 1:=by omega
  rw [el] at l1' l2'
  by_cases hl0:l = 0
  ·rw [if_pos (by simpa using hl0)]
   refine wpS_pure (h st1 ⟨by rw [hA1],hk1,hF1,hP1,fun j _=>by rw [hA1],fun a b h1 h2 h3=>?_⟩)
   rw [hA1]
   by_cases hb:b < sa + na
   ·exact s1' a b h1 h2 hb
   ·by_cases ha:a < sa + na
    ·exact Nat.le_trans (s1' a (sa + na - 1) h1 (by omega) (by omega)) (l2' b (by omega) (by omega))
    ·exact s2' a b (by omega) h2 (by omega)
  ·rw [if_neg (by simpa using hl0)]
   have hxz:((arrOf st).extract (sa + k) (sa + na)).size = na - k:=by rw [Array.size_extract]; omega
   have hyz:((arrOf st).extract (sa + na) (sa + na + l)).size = l:=by rw [Array.size_extract]; omega
   have H:Hy rk S ((arrOf st).extract (sa + k) (sa + na)) ((arrOf st).extract (sa + na) (sa + na + l)):=by
    refine ⟨ext_pw (by omega) fun a b h1 h2 h3=>s1' a b (by omega) h2 h3,ext_pw (by omega) fun a b h1 h2 h3=>s2' a b h1 h2 (by omega),fun j hj=>?_,fun j hj=>?_,by omega,by omega,fun j hj=>?_,fun j hj=>?_⟩
    ·rw [ext_at (by omega)]; exact hSi _ _
    ·rw [ext_at (by omega)]; exact hSi _ _
    ·rw [ext_at (by omega),ext_at (by omega)]
     have:=l1' (sa + na + j) (by omega) (by omega)
     rw [KR_at (by omega),KR_at (by omega)] at this
     simp only [hxz]
     have e2:sa + k + (na - k - 1) = sa + na - 1:=by omega
     simp only [e2]
     exact Nat.le_of_lt this
    ·rw [ext_at (by omega),ext_at (by omega)]
     have:=k2' (sa + k + j) (by omega) (by omega)
     rw [KR_at (by omega),KR_at (by omega)] at this
     simp only [Nat.add_zero]
     exact Nat.le_of_lt this
   have go:∀ (r:Array Keyed) (st2:SortSt),Gs st1 st2 -> Po rk ((arrOf st).extract (sa + k) (sa + na)) ((arrOf st).extract (sa + na) (sa + na + l)) r -> wpS (model prog w) A E s (do
       modify fun v=>setArr v (wb (arrOf v) (sa + k) r.toList 0)
       let v <- get
       pure (failedOf v).isNone) Q st2:=by
    rintro r st2 ⟨g,rfl⟩ ⟨hp,hw⟩
    refine wpS_bind (wpS_modify (wpS_bind (wpS_get ?_)))
    have hlen:r.toList.length = na - k + l:=by rw [hp.length_eq,List.length_append,Array.length_toList,Array.length_toList,hxz,hyz]
    have hb:sa + k + r.toList.length <= (arrOf st).size:=by omega
    have eA:arrOf (setArr (setG st1 g) (wb (arrOf (setG st1 g)) (sa + k) r.toList 0)) = wb (arrOf st) (sa + k) r.toList 0:=by
     show wb (arrOf st1) _ _ _ = _
     rw [hA1]
    have eF:failedOf (setArr (setG st1 g) (wb (arrOf (setG st1 g)) (sa + k) r.toList 0)) = none:=hF1
    rw [eF]
    have gt:∀ j,(wb (arrOf st) (sa + k) r.toList 0)[j]? = if sa + k <= j /\ j < sa + k + r.toList.length then r.toList[j - (sa + k)]? else (arrOf st)[j]?:=fun j=>wb_get r.toList 0 (sa + k) (arrOf st) hb j
    have mid:∀ j,sa + k <= j -> j < sa + na + l -> ∃ n,sa + k <= n /\ n < sa + na + l /\ KR rk (wb (arrOf st) (sa + k) r.toList 0) j = KR rk (arrOf st) n:=fun j j1 j2=>by
     have hj:j - (sa + k) < r.toList.length:=by omega
     have e:KR rk (wb (arrOf st) (sa + k) r.toList 0) j = rk (r.toList[j - (sa + k)]'hj):=by
      unfold KR
      rw [gt,if_pos (by omega),List.getElem?_eq_getElem hj]
     have hm:=hp.mem_iff.mp (List.getElem_mem hj)
     rw [e]
     rcases List.mem_append.mp hm with hm | hm
     ·obtain ⟨n,hn,en⟩:=List.getElem_of_mem hm
      rw [Array.length_toList] at hn
      rw [Array.getElem_toList,ext_at (by omega)] at en
      refine ⟨sa + k + n,by omega,by omega,?_⟩
      rw [<- en,KR_at (by omega)]
     ·obtain ⟨n,hn,en⟩:=List.getElem_of_mem hm
      rw [Array.length_toList] at hn
      rw [Array.getElem_toList,ext_at (by omega)] at en
      refine ⟨sa + na + n,by omega,by omega,?_⟩
      rw [<- en,KR_at (by omega)]
    have out:∀ j,j < sa + k \/ sa + na + l <= j -> (wb (arrOf st) (sa + k) r.toList 0)[j]? = (arrOf st)[j]?:=fun j hj=>by rw [gt,if_neg (by omega)]
    refine wpS_pure (h _ ⟨?_,hk1,hF1,hP1,?_,?_⟩)
    ·rw [eA,Array.perm_iff_toList_perm,wb_list hb]
     have e:(arrOf st).toList = (arrOf st).toList.take (sa + k) ++ (((arrOf st).extract (sa + k) (sa + na)).toList ++ ((arrOf st).extract (sa + na) (sa + na + l)).toList) ++ (arrOf st).toList.drop (sa + k + r.toList.length):=by
      rw [Array.toList_extract,Array.toList_extract,List.extract_eq_take_drop,List.extract_eq_take_drop]
      have e1:(arrOf st).toList.drop (sa + na) = ((arrOf st).toList.drop (sa + k)).drop (na - k):=by rw [List.drop_drop]; congr 1; omega
      rw [e1,show sa + na - (sa + k) = na - k by omega,show sa + na + l - (sa + na) = l by omega,<- List.take_add,hlen]
      have e2:(arrOf st).toList.drop (sa + k + (na - k + l)) = ((arrOf st).toList.drop (sa + k)).drop (na - k + l):=by rw [List.drop_drop]
      rw [e2,List.append_assoc,List.take_append_drop,List.take_append_drop]
     conv=>rhs; rw [e]
     exact (hp.append_left _).append_right _
    ·intro j hj
     rw [eA]
     exact out j (by omega)
    ·rw [eA]
     intro a b h1 h2 h3
     have kA:∀ a,a < sa + k -> KR rk (wb (arrOf st) (sa + k) r.toList 0) a = KR rk (arrOf st) a:=fun a ha=>KR_congr (out a (.inl ha))
     have kB:∀ a,sa + na + l <= a -> KR rk (wb (arrOf st) (sa + k) r.toList 0) a = KR rk (arrOf st) a:=fun a ha=>KR_congr (out a (.inr ha))
     by_cases ha:a < sa + k
     ·rw [kA a ha]
      by_cases hb1:b < sa + k
      ·rw [kA b hb1]; exact s1' a b h1 h2 (by omega)
      ·by_cases hb2:b < sa + na + l
       ·obtain ⟨n,m1,m2,en⟩:=mid b (by omega) hb2
        rw [en]
        by_cases hn:n < sa + na
        ·exact s1' a n h1 (by omega) hn
        ·exact Nat.le_trans (k1' a h1 ha) (s2' (sa + na) n (by omega) (by omega) (by omega))
       ·rw [kB b (by omega)]
        exact Nat.le_trans (k1' a h1 ha) (s2' (sa + na) b (by omega) (by omega) (by omega))
     ·by_cases ha2:a < sa + na + l
      ·by_cases hb2:b < sa + na + l
       ·have ha':a - (sa + k) < r.toList.length:=by omega
        have hb':b - (sa + k) < r.toList.length:=by omega
        have ea:KR rk (wb (arrOf st) (sa + k) r.toList 0) a = rk (r.toList[a - (sa + k)]'ha'):=by
         unfold KR
         rw [gt,if_pos (by omega),List.getElem?_eq_getElem ha']
        have eb:KR rk (wb (arrOf st) (sa + k) r.toList 0) b = rk (r.toList[b - (sa + k)]'hb'):=by
         unfold KR
         rw [gt,if_pos (by omega),List.getElem?_eq_getElem hb']
        rw [ea,eb]
        rcases Nat.lt_or_ge a b with hab | hab
        ·exact List.pairwise_iff_getElem.mp hw _ _ ha' hb' (by omega)
        ·have:a = b:=by omega
         subst this
         exact Nat.le_refl _
       ·obtain ⟨n,m1,m2,en⟩:=mid a (by omega) ha2
        rw [en,kB b (by omega)]
        by_cases hn:n < sa + na
        ·exact Nat.le_trans (s1' n (sa + na - 1) (by omega) (by omega) (by omega)) (l2' b (by omega) (by omega))
        ·exact s2' n b (by omega) (by omega) (by omega)
      ·rw [kB a (by omega),kB b (by omega)]
       exact s2' a b (by omega) h2 (by omega)
   by_cases hle:na - k <= l
   ·simp only [if_pos hle]
    exact wpS_bind (w_mLo q H hk1 fun r st2 hg hP=>go r st2 hg hP)
   ·simp only [if_neg hle]
    exact wpS_bind (w_mHi q H hk1 fun r st2 hg hP=>go r st2 hg hP)
end
end SG
namespace SG
open PySem PyProof.Rows
noncomputable def Ch (rk:Keyed -> Nat) (xs:Array Keyed):List (Nat × Nat × Nat) -> Nat -> Nat -> Prop
 | [],b,e=>b = e
 | p :: l,b,e=>p.1 = b /\ 1 <= p.2.1 /\ Sg rk xs b p.2.1 /\ Ch rk xs l (b + p.2.1) e
theorem Ch.len {rk:Keyed -> Nat} {xs:Array Keyed}:∀ {l:List (Nat × Nat × Nat)} {b e:Nat},Ch rk xs l b e -> b + l.length <= e
 | [],b,e,h=>by cases h; simp
 | p :: l,b,e,h=>by
  have:=h.2.2.2.len
  have:=h.2.1
  rw [List.length_cons]
  omega
theorem Ch.append {rk:Keyed -> Nat} {xs:Array Keyed}:∀ {l l':List (Nat × Nat × Nat)} {b e:Nat},Ch rk xs (l ++ l') b e ↔ ∃ m,Ch rk xs l b m /\ Ch rk xs l' m e
 | [],l',b,e=>⟨fun h=>⟨b,rfl,h⟩,fun ⟨m,h1,h2⟩=>by cases h1; exact h2⟩
 | p :: l,l',b,e=>⟨fun ⟨h1,h2,h3,h4⟩=>by
     obtain ⟨m,h5,h6⟩:=Ch.append.mp h4
     exact ⟨m,⟨h1,h2,h3,h5⟩,h6⟩,fun ⟨m,⟨h1,h2,h3,h5⟩,h6⟩=>⟨h1,h2,h3,Ch.append.mpr ⟨m,h5,h6⟩⟩⟩
theorem Ch.congr {rk:Keyed -> Nat} {xs ys:Array Keyed}:∀ {l:List (Nat × Nat × Nat)} {b e:Nat},(∀ i,b <= i -> i < e -> ys[i]? = xs[i]?) -> Ch rk xs l b e -> Ch rk ys l b e
 | [],_,_,_,h=>h
 | p :: l,b,e,k,⟨h1,h2,h3,h4⟩=>by
  have:=h4.len
  refine ⟨h1,h2,fun i j hi hij hj=>?_,h4.congr fun i hi he=>k i (by omega) he⟩
  rw [KR_congr (k i hi (by omega)),KR_congr (k j (by omega) (by omega))]
  exact h3 i j hi hij hj
structure In (κ:SortKind) (rk:Keyed -> Nat) (st:SortSt) (lo:Nat) (st':SortSt):Prop where
 perm:(arrOf st').Perm (arrOf st)
 kind:kindOf st' = κ
 failed:failedOf st' = none
 ch:Ch rk (arrOf st') (pendingOf st').toList 0 lo
theorem In.size {κ:SortKind} {rk:Keyed -> Nat} {st st':SortSt} {lo:Nat} (h:In κ rk st lo st'):(arrOf st').size = (arrOf st).size:=h.perm.size_eq
section
variable {prog:Program} {w:World} {A:Around} {E:Value -> Shared -> Prop} {s:Shared} {κ:SortKind} {rk:Keyed -> Nat} {S:Keyed -> Prop} {st:SortSt}
theorem AllS.perm {xs ys:Array Keyed} (h:AllS S xs) (p:ys.Perm xs):AllS S ys:=fun q hq=>h q ((Array.perm_iff_toList_perm.mp p).mem_iff.mp hq)
theorem w_mIn (q:Asks prog w A s κ rk S) {i lo:Nat} {st':SortSt} {Q:Bool -> SortSt -> Prop} (hS:AllS S (arrOf st)) (hI:In κ rk st lo st') (hlo:lo <= (arrOf st).size) (hi:i + 1 < (pendingOf st').size)
  (h:∀ st'',In κ rk st lo st'' -> (pendingOf st'').size + 1 = (pendingOf st').size -> (∀ j,lo <= j -> (arrOf st'')[j]? = (arrOf st')[j]?) -> Q true st''):wpS (model prog w) A E s (mergeAt' i) Q st':=by
 obtain ⟨perm,kind,failed,ch⟩:=hI
 have hl:(pendingOf st').toList.length = (pendingOf st').size:=Array.length_toList
 obtain ⟨pre,p,p',post,e,ep⟩:∃ pre p p' post,(pendingOf st').toList = pre ++ p :: p' :: post /\ pre.length = i:=by
  refine ⟨(pendingOf st').toList.take i,(pendingOf st').toList[i]'(by omega),(pendingOf st').toList[i + 1]'(by omega),(pendingOf st').toList.drop (i + 2),?_,by rw [List.length_take]; omega⟩
  have e1:=List.drop_eq_getElem_cons (l:=(pendingOf st').toList) (i:=i) (by omega)
  have e2:=List.drop_eq_getElem_cons (l:=(pendingOf st').toList) (i:=i + 1) (by omega)
  rw [<- e2,<- e1,List.take_append_drop]
 rw [e] at ch
 obtain ⟨m,c1,c2⟩:=Ch.append.mp ch
 obtain ⟨sa,na,pw⟩:=p
 obtain ⟨sb,nb,pw'⟩:=p'
 obtain ⟨f1,f2,f3,g1,g2,g3,c3⟩:=c2
 dsimp only at f1 f2 f3 g1 g2 g3 c3
 subst f1
 subst g1
 have hlen:=c3.len
 have q1:(pendingOf st')[i]? = some (sa,na,pw):=by rw [<- Array.getElem?_toList,e,List.getElem?_append_right (by omega),ep,Nat.sub_self]; rfl
 have q2:(pendingOf st')[i + 1]? = some (sa + na,nb,pw'):=by rw [<- Array.getElem?_toList,e,List.getElem?_append_right (by omega),ep,Nat.add_sub_cancel_left]; rfl
 have hz:=perm.size_eq
 refine w_mAt q (hS.perm perm) kind failed q1 q2 (by omega) f2 g2 f3 g3 fun st'' M=>?_
 have el:(pendingOf st'').toList = pre ++ (sa,na + nb,pw) :: post:=by
  rw [M.pend,Array.toList_eraseIdxIfInBounds,Array.toList_setIfInBounds,e,<- ep,List.set_append_right _ _ (Nat.le_refl _),Nat.sub_self,List.eraseIdx_append_of_length_le (by omega),Nat.add_sub_cancel_left]
  rfl
 refine h st'' ⟨M.perm.trans perm,M.kind,M.failed,?_⟩ ?_ fun j hj=>M.keep j (.inr (by omega))
 ·rw [el]
  refine Ch.append.mpr ⟨sa,c1.congr fun j _ hj=>M.keep j (.inl hj),rfl,by show 1 <= na + nb; omega,M.sg,?_⟩
  show Ch rk _ post (sa + (na + nb)) lo
  rw [<- Nat.add_assoc]
  exact c3.congr fun j hj _=>M.keep j (.inr (by omega))
 ·have e1:=congrArg List.length el
  have e2:=congrArg List.length e
  rw [Array.length_toList] at e1 e2
  simp only [List.length_append,List.length_cons] at e1 e2
  omega
theorem Ch.modify {xs:Array Keyed} (pw:Nat):∀ {l:List (Nat × Nat × Nat)} {i b e:Nat},Ch rk xs l b e -> Ch rk xs (l.modify i fun x=>(x.1,x.2.1,pw)) b e
 | [],i,_,_,h=>by cases i <;> exact h
 | p :: l,0,_,_,h=>h
 | p :: l,i + 1,_,_,⟨h1,h2,h3,h4⟩=>⟨h1,h2,h3,h4.modify pw (i:=i)⟩
theorem In.put {lo n pw:Nat} {z:SortSt} (h:In κ rk st lo z):In κ rk st lo (setPending z ((pendingOf z).modify ((pendingOf z).size - 1) fun x=>(x.1,x.2.1,pw))) :=
 ⟨h.perm,h.kind,h.failed,by
   show Ch rk (arrOf z) ((pendingOf z).modify ((pendingOf z).size - 1) fun x=>(x.1,x.2.1,pw)).toList 0 lo
   rw [Array.toList_modify]
   exact h.ch.modify pw⟩
theorem In.push {lo n:Nat} {z:SortSt} (h:In κ rk st lo z) (hn:1 <= n) (hs:Sg rk (arrOf z) lo n):In κ rk st (lo + n) (setPending z ((pendingOf z).push (lo,n,0))) :=
 ⟨h.perm,h.kind,h.failed,by
   show Ch rk (arrOf z) ((pendingOf z).push (lo,n,0)).toList 0 (lo + n)
   rw [Array.toList_push]
   exact Ch.append.mpr ⟨lo,h.ch,rfl,hn,hs,rfl⟩⟩
theorem In.run {lo n:Nat} {z z':SortSt} (h:In κ rk st lo z) (b:Bs κ z lo n z'):In κ rk st lo z' :=
 ⟨b.perm.trans h.perm,b.kind,b.failed,by
   rw [b.pend]
   exact h.ch.congr fun i _ hi=>b.keep i (.inl hi)⟩
theorem Sg.congr {xs ys:Array Keyed} {lo n:Nat} (h:Sg rk xs lo n) (k:∀ j,lo <= j -> ys[j]? = xs[j]?):Sg rk ys lo n:=fun i j hi hij hj=>by
 rw [KR_congr (k i hi),KR_congr (k j (by omega))]
 exact h i j hi hij hj
theorem w_sort (q:Asks prog w A s κ rk S) {Q:Unit -> SortSt -> Prop} (hS:AllS S (arrOf st)) (hk:kindOf st = κ) (hF:failedOf st = none) (hP:pendingOf st = #[])
  (h:∀ st',(arrOf st').Perm (arrOf st) -> failedOf st' = none -> Sg rk (arrOf st') 0 (arrOf st).size -> Q () st'):wpS (model prog w) A E s sortRuns' Q st:=by
 rw [sortRuns'_eq]
 refine wpS_bind (wpS_get ?_)
 dsimp only
 have I0:In κ rk st 0 st:=⟨Array.Perm.refl _,hk,hF,by rw [hP]; rfl⟩
 refine wpS_bind (wpS_mono (wpS_forRange (I:=fun x c z=>∃ lo,c = (none,lo) /\ In κ rk st lo z /\ lo <= (arrOf st).size /\ (x <= lo \/ lo = (arrOf st).size)) (Q:=fun c z=>c = (none,(arrOf st).size) /\ In κ rk st (arrOf st).size z) ?step ?fin ⟨0,rfl,I0,Nat.zero_le _,.inl (Nat.le_refl _)⟩) ?post)
 case fin =>
  rintro c z ⟨lo,rfl,hI,h1,h2⟩
  have:lo = (arrOf st).size:=by omega
  subst this
  exact ⟨rfl,hI⟩
 case step =>
  rintro x c z _ hx ⟨lo,rfl,hI,h1,h2⟩
  dsimp only
  by_cases hge:lo ≥ (arrOf st).size
  ·rw [if_pos hge]
   have:lo = (arrOf st).size:=by omega
   subst this
   exact wpS_pure ⟨rfl,hI⟩
  ·rw [if_neg hge]
   have hz:=hI.size
   have hS':AllS S (arrOf z):=AllS.perm hS hI.perm
   refine wpS_bind (w_cr q hS' (by omega) (by omega) ⟨Array.Perm.refl _,hI.kind,hI.failed,rfl,fun _ _=>rfl⟩ fun n z1 b1 n1 n2 g1=>?_)
   dsimp only
   have rest:∀ (n:Nat) (z1:SortSt),In κ rk st lo z1 -> 1 <= n -> lo + n <= (arrOf st).size -> Sg rk (arrOf z1) lo n -> ∃ c,c = n /\ In κ rk st lo z1 /\ Sg rk (arrOf z1) lo c /\ 1 <= c /\ lo + c <= (arrOf st).size:=fun n z1 a b c d=>⟨n,rfl,a,d,b,c⟩
   by_cases hlt:n < minRun' (arrOf st).size (arrOf st).size 0
   case' pos =>
    rw [if_pos hlt]
    refine wpS_bind (wpS_lift (wpAny_rule ⟨rfl,?_⟩))
    refine wpS_bind (w_bins (N:=(arrOf st).size - lo) q hS' (n:=min ((arrOf st).size - lo) (minRun' (arrOf st).size (arrOf st).size 0)) (by omega) (by omega) (by omega) b1 g1 fun z2 b2 g2=>?_)
    simp only [Bool.not_true,Bool.false_eq_true,if_false]
    have hI2:=hI.run b2
    have m1:1 <= min ((arrOf st).size - lo) (minRun' (arrOf st).size (arrOf st).size 0):=by omega
    have m2:lo + min ((arrOf st).size - lo) (minRun' (arrOf st).size (arrOf st).size 0) <= (arrOf st).size:=by omega
    clear b2 b1 g1
    generalize min ((arrOf st).size - lo) (minRun' (arrOf st).size (arrOf st).size 0) = m at *
   case' neg =>
    rw [if_neg hlt]
    have hI2:=hI.run b1
    have m1:=n1
    have m2:lo + n <= (arrOf st).size:=by omega
    have g2:=g1
    clear b1 g1 n1 n2 hlt
    generalize n = m at *
    generalize z1 = z2 at *
   all_goals
    refine wpS_bind (wpS_get ?_)
    cases hb:(pendingOf z2).back? with
    | none=>exact wpS_bind (wpS_modify (wpS_pure ⟨lo + m,rfl,hI2.push m1 g2,m2,.inl (by omega)⟩))
    | some pb =>
     obtain ⟨s1,n1,pv⟩:=pb
     dsimp only
     refine wpS_bind (wpS_mono (wpS_forRange (I:=fun _ c z=>c = (none,()) /\ In κ rk st lo z /\ ∀ j,lo <= j -> (arrOf z)[j]? = (arrOf z2)[j]?) (Q:=fun c z=>c = (none,()) /\ In κ rk st lo z /\ ∀ j,lo <= j -> (arrOf z)[j]? = (arrOf z2)[j]?) ?_ (fun _ _ hh=>hh) ⟨rfl,hI2,fun _ _=>rfl⟩) ?_)
     ·rintro y c z _ _ ⟨rfl,hI3,k3⟩
      refine wpS_bind (wpS_get ?_)
      by_cases hp:(pendingOf z).size > 1
      ·rw [if_pos hp]
       cases hq:(pendingOf z)[(pendingOf z).size - 2]? with
       | none=>exact wpS_pure ⟨rfl,hI3,k3⟩
       | some pq =>
        obtain ⟨u1,u2,older⟩:=pq
        dsimp only
        split
        ·exact wpS_pure ⟨rfl,hI3,k3⟩
        ·refine wpS_bind (w_mIn q hS hI3 (by omega) (by omega) fun z4 hI4 _ k4=>?_)
         simp only [Bool.not_true,Bool.false_eq_true,if_false]
         exact wpS_pure ⟨rfl,hI4,fun j hj=>(k4 j hj).trans (k3 j hj)⟩
      ·rw [if_neg hp]
       exact wpS_pure ⟨rfl,hI3,k3⟩
     ·rintro c z ⟨rfl,hI3,k3⟩
      exact wpS_bind (wpS_modify (wpS_bind (wpS_modify (wpS_pure ⟨lo + m,rfl,(hI3.put (n:=0)).push m1 (g2.congr k3),m2,.inl (by omega)⟩))))
 case post =>
  rintro c z ⟨rfl,hI⟩
  dsimp only
  refine wpS_bind (wpS_mono (wpS_forRange (I:=fun x c z=>c = (none,()) /\ In κ rk st (arrOf st).size z /\ (pendingOf z).size + x <= (arrOf st).size) (Q:=fun c z=>c = (none,()) /\ In κ rk st (arrOf st).size z /\ (pendingOf z).size <= 1) ?_ ?_ ⟨rfl,hI,?_⟩) ?_)
  ·rintro x c z _ hx ⟨rfl,hI,hx2⟩
   refine wpS_bind (wpS_get ?_)
   by_cases hp:(pendingOf z).size <= 1
   ·rw [if_pos hp]
    exact wpS_pure ⟨rfl,hI,hp⟩
   ·rw [if_neg hp]
    refine wpS_bind (w_mIn q hS hI (Nat.le_refl _) (by (repeat' split) <;> omega) fun z4 hI4 hs4 _=>?_)
    simp only [Bool.not_true,Bool.false_eq_true,if_false]
    exact wpS_pure ⟨rfl,hI4,by omega⟩
  ·rintro c z ⟨rfl,hI,hx2⟩
   exact ⟨rfl,hI,by omega⟩
  ·have:=hI.ch.len
   rw [Array.length_toList] at this
   omega
  ·rintro c z ⟨rfl,hI,hp⟩
   refine wpS_pure (h z hI.perm hI.failed ?_)
   have hc:=hI.ch
   have hl:(pendingOf z).toList.length <= 1:=by rw [Array.length_toList]; exact hp
   match (pendingOf z).toList,hc,hl with
   | [],hc,_ =>
    have:0 = (arrOf st).size:=hc
    intro i j _ _ hj
    omega
   | [p],⟨h1,h2,h3,h4⟩,_ =>
    have h4:0 + p.2.1 = (arrOf st).size:=h4
    rw [Nat.zero_add] at h4
    rw [h4] at h3
    exact h3
end
end SG
namespace L2
open PySem PySem.Spec PyProof.Rows PySem.W
section
variable {prog:Program} {w:World} {A:Around} {E:Value -> Shared -> Prop} {s:Shared} {κ:SortKind} {vs:List Value} {rk:Value -> Nat}
theorem pairs_mem {p:Keyed} (h:p ∈ (pairsOf vs).toList):p.1 = p.2 /\ p.2 ∈ vs:=by
 have h:p ∈ (vs.toArray.zip vs.toArray).toList:=h
 rw [Array.toList_zip] at h
 obtain ⟨i,hi,e⟩:=List.getElem_of_mem h
 rw [List.getElem_zip] at e
 subst e
 exact ⟨rfl,List.getElem_mem _⟩
theorem list_sort_rk {a:Addr} {n:Nat} {P:Fin -> Shared -> Prop} (ho:s.heap.get? a = some (seqObj "list" vs.toArray n)) (hz:vs.length <= sizeLine)
  (hk:2 <= vs.length -> ∀ s':Shared,(∀ b o,b ≠ a -> s.heap.get? b = some o -> s'.heap.get? b = some o) -> ∀ Q':SortKind -> Shared -> Prop,Q' κ s' -> wpAny (model prog w) A (keyKind' vs.toArray) Q' E s')
  (hlt:∀ s':Shared,(∀ b o,b ≠ a -> s.heap.get? b = some o -> s'.heap.get? b = some o) -> ∀ x y,x ∈ vs -> y ∈ vs -> ∀ Q':Bool -> Shared -> Prop,Q' (decide (rk x < rk y)) s' -> wpAny (model prog w) A (keyLt' κ x y) Q' (fun _ _=>False) s')
  (h:∀ out:List Value,out.Perm vs -> out.Pairwise (fun x y=>rk x <= rk y) -> P (.done (.ret .none)) { s with heap:=sortedHeap s.heap a vs out.toArray }) :
  wpAny (model prog w) A (Builtin.«list.sort» ⟨[.ref a],[]⟩) P E s:=by
 rw [list_sort_plain]
 have ha:a < s.heap.objs.size:=Heap.lt_size ho
 refine wpAny_bind (listItems_at ho rfl ?_)
 refine wpAny_bind (listUpdate_at ho rfl ?_)
 obtain ⟨e1,ho1⟩:∃ e1,(s.heap.update a (Obj.mapSeq fun _=>#[])).get? a = some (seqObj "list" #[] e1):=⟨_,get?_update_seq ho (fun _=>#[])⟩
 refine wpAny_bind (seqEpoch_at ho1 rfl ?_)
 refine wpAny_bind (wpAny_newTuple ?_)
 refine wpAny_bind (wpAny_newList ?_)
 refine wpAny_holding ?_
 have ho6:(((s.heap.update a (Obj.mapSeq fun _=>#[])).push (seqObj "tuple" vs.toArray 0)).push (seqObj "list" #[] 0)).get? a = some (seqObj "list" #[] e1):=by
  rw [Heap.get?_push_ne _ _ _ (by rw [size_push',Heap.size_update]; exact Nat.ne_of_lt (Nat.lt_succ_of_lt ha)),Heap.get?_push_ne _ _ _ (by rw [Heap.size_update]; exact Nat.ne_of_lt ha)]
  exact ho1
 have kp:∀ b o,b ≠ a -> s.heap.get? b = some o -> (((s.heap.update a (Obj.mapSeq fun _=>#[])).push (seqObj "tuple" vs.toArray 0)).push (seqObj "list" #[] 0)).get? b = some o:=fun b o hb e=>by
  refine Heap.get?_push_of_some _ (Heap.get?_push_of_some _ ?_)
  rw [Heap.get?_update_ne _ _ _ _ hb]
  exact e
 show wpAny (model prog w) A _ P E { s with heap:=((s.heap.update a (Obj.mapSeq fun _=>#[])).push (seqObj "tuple" vs.toArray 0)).push (seqObj "list" #[] 0) }
 dsimp only
 have hsz:vs.toArray.size = vs.length:=by simp
 have out0:((pairsOf vs).map (·.2)) = vs.toArray:=by
  apply Array.toList_inj.mp
  rw [Array.toList_map]
  show (vs.toArray.zip vs.toArray).toList.map (·.2) = _
  simp only [Array.toList_zip]
  exact List.map_snd_zip (Nat.le_refl _)
 by_cases h2:vs.toArray.size < 2
 ·rw [if_pos h2,if_pos h2]
  refine wpAny_bind (wpAny_pure ?_)
  rw [StateT.run_pure]
  refine wpAny_bind (wpAny_pure ?_)
  dsimp only
  refine wpAny_bind (seqEpoch_at ho6 rfl ?_)
  refine wpAny_bind (listUpdate_at ho6 rfl ?_ (hsz2:=by rw [Array.size_map]; show (pairsOf vs).size <= _; rw [pairsOf_size]; exact Nat.le_succ_of_le hz))
  simp only [bne_self_eq_false,Bool.false_eq_true,if_false]
  have h':=h vs (List.Perm.refl _) (by
    match vs,h2 with
    | [],_=>exact .nil
    | [x],_=>exact List.pairwise_singleton _ _
    | x :: y :: z,h2=>simp at h2; omega)
  rw [<- out0] at h'
  exact wpAny_pure h'
 ·rw [if_neg h2,if_neg h2]
  have h2':2 <= vs.length:=by omega
  refine wpAny_bind (hk h2' _ kp _ ?_)
  have run:=SG.w_sort (prog:=prog) (w:=w) (A:=A) (E:=E) (κ:=κ) (rk:=fun p=>rk p.1) (S:=fun p=>p.1 ∈ vs) (st:=SortSt.mk' κ (pairsOf vs) #[] 7 none)
   (s:={ s with heap:=((s.heap.update a (Obj.mapSeq fun _=>#[])).push (seqObj "tuple" vs.toArray 0)).push (seqObj "list" #[] 0) })
   (Q:=fun _ st'=>(arrOf st').Perm (pairsOf vs) /\ failedOf st' = none /\ SG.Sg (fun p=>rk p.1) (arrOf st') 0 (pairsOf vs).size)
   (fun x y hx hy Q' hQ'=>hlt _ kp _ _ hx hy Q' hQ') (fun p hp=>by have:=pairs_mem hp; show p.1 ∈ vs; rw [this.1]; exact this.2) rfl rfl rfl fun st' p1 p2 p3=>⟨p1,p2,p3⟩
  refine wpAny_bind (wpAny_mono run ?_ fun _ _ e=>e)
  rintro ⟨⟨⟩,st'⟩ s' ⟨rfl,hp,hf,hs⟩
  dsimp only at hp hf hs ⊢
  refine wpAny_bind (seqEpoch_at ho6 rfl ?_)
  have hpl:=Array.perm_iff_toList_perm.mp hp
  have eq12:∀ p ∈ (arrOf st').toList,p.1 = p.2:=fun p h=>(pairs_mem (hpl.mem_iff.mp h)).1
  have hO:((arrOf st').map (·.2)).toList.Perm vs:=by
   rw [Array.toList_map]
   have e:(pairsOf vs).toList.map (·.2) = vs:=by rw [<- Array.toList_map,out0]
   have:=hpl.map (·.2)
   rw [e] at this
   exact this
  have hL:((arrOf st').map (·.2)).toList.length = vs.length:=hO.length_eq
  rw [Array.length_toList] at hL
  refine wpAny_bind (listUpdate_at ho6 rfl ?_ (hsz2:=by rw [hL]; exact Nat.le_succ_of_le hz))
  rw [hf]
  simp only [bne_self_eq_false,Bool.false_eq_true,if_false]
  refine wpAny_pure ?_
  have:=h ((arrOf st').map (·.2)).toList hO (by
    rw [Array.toList_map,List.pairwise_map,List.pairwise_iff_getElem]
    intro i j hi hj hij
    rw [Array.length_toList] at hi hj
    have hz2:(arrOf st').size = (pairsOf vs).size:=hp.size_eq
    have:=hs i j (Nat.zero_le _) (by omega) (by omega)
    rw [SG.KR_at hi,SG.KR_at hj] at this
    rw [Array.getElem_toList,Array.getElem_toList,<- eq12 _ (by simp),<- eq12 _ (by simp)]
    exact this)
  rw [Array.toArray_toList] at this
  exact this
theorem sorted_rk {l:Addr} {Q:Value -> Shared -> Prop} (hl:s.heap.IsList l vs.toArray) (hz:vs.length <= sizeLine)
  (hk:2 <= vs.length -> ∀ s':Shared,(∀ b o,s.heap.get? b = some o -> s'.heap.get? b = some o) -> ∀ (E:Value -> Shared -> Prop) (Q':SortKind -> Shared -> Prop),Q' κ s' -> wpAny (model prog w) A.in1.in1 (keyKind' vs.toArray) Q' E s')
  (hlt:∀ s':Shared,(∀ b o,s.heap.get? b = some o -> s'.heap.get? b = some o) -> ∀ x y,x ∈ vs -> y ∈ vs -> ∀ Q':Bool -> Shared -> Prop,Q' (decide (rk x < rk y)) s' -> wpAny (model prog w) A.in1.in1 (keyLt' κ x y) Q' (fun _ _=>False) s')
  (h:∀ out:List Value,out.Perm vs -> out.Pairwise (fun x y=>rk x <= rk y) -> Q (.ref (s.heap.objs.size + 1)) { s with heap:=sortedAll s.heap vs out.toArray }) :
  wpAny (model prog w) A (call (.builtin "sorted") [.ref l]) Q E s:=by
 refine Calls.call_function_entry kind_sorted plain_sorted entry_sorted (args_sorted1 _) ?_
 unfold Builtin.«sorted»
 refine wpAny_bind (m:=checkCount "sorted" 1 1 _) (wpAny_pure ?_)
 refine wpAny_bind (collect_list hl ?_ (hsz:=hz))
 refine wpAny_bind (wpAny_newList ?_ hz)
 have hsz:((s.heap.push (seqObj "list" #[] 0)).update s.heap.objs.size (Obj.mapSeq (· ++ vs.toArray))).objs.size = s.heap.objs.size + 1:=by
  rw [Heap.size_update,size_push']
 have hoL:(((s.heap.push (seqObj "list" #[] 0)).update s.heap.objs.size (Obj.mapSeq (· ++ vs.toArray))).push (seqObj "list" vs.toArray 0)).get? (s.heap.objs.size + 1) = some (seqObj "list" vs.toArray 0):=by
  rw [<- hsz]; exact Heap.get?_push_size _ rfl
 have keep:∀ b o,s.heap.get? b = some o -> b ≠ s.heap.objs.size + 1 /\ (((s.heap.push (seqObj "list" #[] 0)).update s.heap.objs.size (Obj.mapSeq (· ++ vs.toArray))).push (seqObj "list" vs.toArray 0)).get? b = some o:=fun b o q=>by
  have hlt:b < s.heap.objs.size:=Heap.lt_size q
  refine ⟨Nat.ne_of_lt (Nat.lt_succ_of_lt hlt),?_⟩
  rw [Heap.get?_push_ne _ _ _ (by rw [hsz]; exact Nat.ne_of_lt (Nat.lt_succ_of_lt hlt)),Heap.get?_update_ne _ _ _ _ (Nat.ne_of_lt hlt),Heap.get?_push_ne _ _ _ (Nat.ne_of_lt hlt)]
  exact q
 show wpAny _ _ _ _ _ { s with heap:=((s.heap.push (seqObj "list" #[] 0)).update s.heap.objs.size (Obj.mapSeq (· ++ vs.toArray))).push (seqObj "list" vs.toArray 0) }
 rw [hsz]
 refine wpAny_bind (wpAny_holding (wpAny_call_entry slot_list_sort ⟨_,hoL,rfl⟩ entry_list_sort (list_sort_rk (κ:=κ) (rk:=rk) hoL hz (fun h2 s' k Q' q=>hk h2 s' (fun b o e=>k b o (keep b o e).1 (keep b o e).2) _ Q' q)
   (fun s' k x y hx hy Q' q=>hlt s' (fun b o e=>k b o (keep b o e).1 (keep b o e).2) x y hx hy Q' q) fun out o1 o2=>⟨_,rfl,?_⟩) (args_list_sort _)))
 exact wpAny_pure ⟨_,rfl,h out o1 o2⟩
end
end L2
namespace SG
structure Wk {α:Type} (lt:α -> α -> Bool):Prop where
 irr:∀ a,lt a a = false
 tr:∀ a b c,lt a b = true -> lt b c = true -> lt a c = true
 nt:∀ a b c,lt a b = false -> lt b c = false -> lt a c = false
end SG
namespace L2
open PySem PySem.Spec PyProof.Rows PySem.W
section
variable {X:Cx} {α:Type} [Inhabited α]
end
end L2
namespace L2
open PySem PySem.Spec PyProof.Rows PySem.W
section
variable {X:Cx} {α:Type} [Inhabited α] {Rep:Hp -> Addr -> α -> Prop} {fn:Hp -> V -> α} {lt:α -> α -> Bool} {κ:SortKind}
noncomputable def ofVal (fn:Hp -> V -> α) (H:Hp):Value -> α
 | .ref c=>fn H (.ref c)
 | _=>default
end
section
variable {prog:Program} {w:World} {A:Around} {s:Shared}
end
end L2
namespace L3
open PySem PySem.Spec PyProof.Rows L2
end L3
namespace L2
open PySem PySem.Spec PyProof.Rows
end L2
namespace L3
open PySem PySem.Spec PyProof.Rows L2
end L3
namespace L2
open PySem PySem.Spec PyProof.Rows
end L2
namespace L3
open PySem PySem.Spec PyProof.Rows L2
section
variable {X:Cx} {K:Fg} {e1:Expr} {a:AD} {p pos p2 p3 p4:Pos}
end
end L3
namespace L2
open PySem PySem.Spec PyProof.Rows
theorem draws_at {P:Program} {w:World} {A:Around} (hh:A.handled = none) {k:Kd} {it l:Addr} (ne:l ≠ it) {xs:Array Value} :
  Draws P w A it [it,l] xs.size (fun i x=>xs[i]? = some x) (fun i h=>ItAt k h it l i /\ SqAt k h l xs) where
 live:=fun i h st=>by obtain ⟨o,e,_⟩:=st.1.obj; exact ⟨o,e⟩
 frame:=fun i h h' st kp=>⟨st.1.at fun o e=>kp it (by simp) o e,st.2.at fun o e=>kp l (by simp) o e⟩
 item:=fun i s Q E hi st hQ=>by
  refine nextOf_item st.1 st.2 (Array.getElem?_eq_getElem hi) fun h' t' s'=>?_
  exact hQ _ h' s.toks (Array.getElem?_eq_getElem hi) ⟨t',st.2.at fun o e=>(s'.2 l ne).trans e⟩ s'
 done:=fun s Q E st hE=>nextOf_end hh st.1 st.2 (by simp) hE
noncomputable def Ite (K:PySem.W.Frag) (k:Kd) (l:Addr):It :=
 ⟨fun i H=>∃ ys x,Sq k K H l ys /\ ys[i]? = some x,
  fun i H x H'=>∃ T y,H T = none /\ x = .ref T /\ H' = upd H T (.tup [.int (i:Nat),y]) /\ ∀ ys,Sq k K H l ys -> ys[i]? = some y,
  fun i H=>∃ ys,Sq k K H l ys /\ ys.length <= i⟩
theorem turn_enum {P:Program} {w:World} {K:PySem.W.Frag} {es:List Expr} {kk:Nat} {pos:Pos} (k:Kd) (e it l:Addr) (ne:e ≠ it) (nl:l ≠ it) (nel:e ≠ l):Turn P w K (.Tuple es kk pos) (Ite K k l) [e,it] e
  (fun i h=>(∃ old,IsEnum h e it (i:Nat) old) /\ ItAt k h it l i) where
 mem:=by simp
 obj:=fun i h st b hb=>by
  obtain ⟨⟨old,he⟩,t⟩:=st
  have hb:b = e \/ b = it:=by simpa using hb
  rcases hb with rfl | rfl
  ·exact ⟨_,he,fun v e=>by cases e⟩
  ·exact t.obj
 keep:=fun i h h' st kp=>by
  obtain ⟨⟨old,he⟩,t⟩:=st
  exact ⟨⟨old,kp _ (by simp) _ he⟩,t.at fun o e=>kp _ (by simp) _ e⟩
 item:=by
  intro X hP hw hK hc i pins s σ H E I hf st hg
  subst hP hw hK
  obtain ⟨⟨old,he⟩,t⟩:=st
  obtain ⟨ys,y,q1,e1⟩:=hg
  obtain ⟨its,rv,p1,z1⟩:=I.sq q1
  obtain ⟨u,hu,ru⟩:=rv.get e1
  have hh:X.A.in1.handled = none:=I.ok.hd hc
  have hlt:i < its.toArray.size:=by
   have:=(List.getElem?_eq_some_iff.mp hu).1
   simpa using this
  refine wpAny_pyNext_enum_itemD (draws_at hh nl (k:=k) (xs:=its.toArray)) he ⟨t,p1⟩ hlt ne (by simp [ne,nel]) fun x h' tk hx b1 b2 b3 b4 b5=>?_
  have hx:x = u:=by
   rw [show its.toArray[i]? = some u by simpa using hu] at hx
   exact (Option.some.inj hx).symm
  subst hx
  have hTn:s.heap.objs.size ≠ e:=Nat.ne_of_gt (Heap.lt_size he)
  refine ⟨_,rfl,wpAny_letOwnedTupleGo_enum (s:={ s with heap:=h',toks:=tk + 1 }) b1 fun h2 he2 hs2=>?_⟩
  have kp:∀ b o,b ∉ [e,it] -> s.heap.get? b = some o -> h2.get? b = some o:=fun b o hb eb=>by
   have hb:b ≠ e /\ b ≠ it:=by simpa using hb
   exact hs2.extBut _ _ hb.1 (b5 b o hb.1 hb.2 eb)
  have hT2:IsTup2 h2 s.heap.objs.size (.int (i:Nat) tk) x:=hs2.extBut _ _ hTn b3
  have hfr:H s.heap.objs.size = none:=I.hok.fresh (Nat.le_refl _)
  have I2:Inv X pins σ (upd H s.heap.objs.size (.tup [.int (i:Nat),y])) { s with heap:=h2 }:=by
   have nfp:∀ b u,H b = some u -> b ∉ [e,it]:=fun b u eb hb=>by have:=(hf b hb).1; rw [eb] at this; cases this
   refine I.step (g':=s.gens) (d':=s.drawn) (ch:=[e,it]) (fun b hb=>?_) (fun b o _ _ hc' eb _=>kp b o hc' eb) (fun b o _ _ hc' eb _=>⟨o.slots,kp b o hc' eb⟩) (fun b o _ eb n=>?_)
    (fun b o hc' eb=>⟨o,kp b o hc' eb⟩) (fun b xs eb=>?_) (fun b o xs eb=>?_) (fun b ps eb=>⟨#[],?_⟩) (fun m hm=>?_) (fun b o eb=>?_) I.bare
   ·obtain ⟨f0,f1,f2,f3,f4,f5⟩:=hf b hb
    exact ⟨f3,f1,f4,f5⟩
   ·rw [upd_ne (Nat.ne_of_lt (Heap.lt_size eb))]; exact n
   ·rw [upd_ne (ne_of_none eb hfr)]; exact eb
   ·rw [upd_ne (ne_of_none eb hfr)]; exact eb
   ·rw [upd_ne (ne_of_none eb hfr),eb]; simp
   ·obtain ⟨o,es',ep,ho,r⟩:=hm
    exact ⟨o,es',ep,kp _ o (fun hb=>(hf _ hb).2.1 rfl) ho,r⟩
   ·by_cases hb:b = s.heap.objs.size
    ·subst hb
     rw [upd_same] at eb
     cases eb
     exact ⟨by show 2 <= sizeLine; decide,[.int (i:Nat) tk,x],.cons ⟨tk,rfl⟩ (.cons ru .nil),_,hT2,rfl,_,rfl,rfl⟩
    ·rw [upd_ne hb] at eb
     refine (I.hok b o eb).stay (fun c v hc' q=>kp c v ?_ q) (fun c q=>by rw [upd_ne (ne_of_none q hfr)]; exact q) fun c xs q=>by rw [upd_ne (ne_of_none q hfr)]; exact q
     rcases hc' with rfl | hc'
     ·exact nfp _ _ eb
     ·exact nfp _ _ hc'
  refine ⟨.ref s.heap.objs.size,_,I2.tok (tk + 1),rfl,⟨_,y,hfr,rfl,rfl,fun ys' hy=>by rw [I.sq_inj hy q1]; exact e1⟩,⟨⟨x,by simpa using he2⟩,b2.1.at fun o eo=>hs2.extBut _ _ (Ne.symm ne) eo⟩,fun b hb=>?_⟩
  rw [upd_ne ?_]
  ·exact (hf b hb).1
  ·intro z
   subst z
   have hb:s.heap.objs.size = e \/ s.heap.objs.size = it:=by simpa using hb
   rcases hb with z | z
   ·exact hTn z
   ·obtain ⟨o,eo,_⟩:=t.obj
    exact Nat.ne_of_gt (Heap.lt_size eo) z
 done:=by
  intro X hP hw hK hc i pins s σ H E I hf st hg
  subst hP hw hK
  obtain ⟨⟨old,he⟩,t⟩:=st
  obtain ⟨ys,q1,hend⟩:=hg
  obtain ⟨its,rv,p1,z1⟩:=I.sq q1
  have hlen:=rv.length
  have hh:X.A.in1.handled = none:=I.ok.hd hc
  have hT:s.TypeIs (.ref e) "enumerate":=⟨_,he,rfl⟩
  unfold pyNext
  refine wpAny_bind (wpAny_attempt (wpAny_callSpecial?_slot (name:=Str.ofString "__next__") hT F.slot_enumerate_next (wpAny_call_entry F.slot_enumerate_next hT F.entry_enumerate_next ?_ (F.args_enumerate_next_1 _))))
  show wpAny _ _ (field (.ref e) 2 >>= _) _ _ _
  refine wpAny_bind (wpAny_field he rfl (x:=.ref it) rfl ?_)
  refine wpAny_bind (nextOf_end hh t p1 (by simp; omega) fun h' x kp hx'=>?_)
  obtain ⟨o,ho,hcl⟩:=hx'
  refine wpAny_bind (wpAny_isInstance (T:="StopIteration") (b:=true) ⟨o,ho,hcl⟩ isSubtype_stop ?_)
  refine wpAny_pure ⟨rfl,?_⟩
  have nfp:∀ b u,H b = some u -> b ∉ [e,it]:=fun b u eb hb=>by have:=(hf b hb).1; rw [eb] at this; cases this
  have kp':∀ b o,b ∉ [e,it] -> s.heap.get? b = some o -> h'.get? b = some o:=fun b o hb eb=>by
   have hb:b ≠ e /\ b ≠ it:=by simpa using hb
   exact kp b o hb.2 eb
  refine I.step (g':=s.gens) (d':=s.drawn) (ch:=[e,it]) (fun b hb=>?_) (fun b o _ _ hc' eb _=>kp' b o hc' eb) (fun b o _ _ hc' eb _=>⟨o.slots,kp' b o hc' eb⟩) (fun b o _ eb n=>n)
   (fun b o hc' eb=>⟨o,kp' b o hc' eb⟩) (fun b xs eb=>eb) (fun b o xs eb=>eb) (fun b ps eb=>⟨#[],by rw [eb]; simp⟩) (fun m hm=>?_) (fun b o eb=>?_) I.bare
  ·obtain ⟨f0,f1,f2,f3,f4,f5⟩:=hf b hb
   exact ⟨f3,f1,f4,f5⟩
  ·obtain ⟨o,es',ep,ho,r⟩:=hm
   exact ⟨o,es',ep,kp' _ o (fun hb=>(hf _ hb).2.1 rfl) ho,r⟩
  ·refine (I.hok b o eb).stay (fun c v hc' q=>kp' c v ?_ q) (fun _ q=>q) fun _ _ q=>q
   rcases hc' with rfl | hc'
   ·exact nfp _ _ eb
   ·exact nfp _ _ hc'
 self:=fun _ _ _ _ _ st h=>by obtain ⟨⟨old,he⟩,_⟩:=st; exact wpAny_pyIter_enum he h
noncomputable abbrev enZ (h:Heap) (k:Kd) (l:Addr):Heap:=(h.push (itObj k l)).push { cls:=.type "enumerate",data:=.fields #[.none,.bool false,.ref h.objs.size,rawInt 0,.none,.none] }
theorem enum_new (k:Kd) (l:Addr) (xs:Array Value) :
  Meets (Builtin.«enumerate.__new__» ⟨[.type "enumerate",.ref l],[]⟩) (fun _ R s=>SqAt k s.heap l xs /\ R (.ok (.ret (.ref (s.heap.push (itObj k l)).objs.size))) { s with heap:=enZ s.heap k l }) :=
 .of_wp fun prog w A R s h=>by
  obtain ⟨hp,g,d,tk,os⟩:=s; obtain ⟨hl,h⟩:=h
  have hsub:=sub_enumerate
  have hL:SqAt k (Shared.heap ⟨hp,g,d,tk,os⟩) l xs:=hl
  obtain ⟨o,ho⟩:∃ o,hp.get? l = some o:=by cases k <;> (obtain ⟨o,eo,_⟩:=hl; exact ⟨o,eo⟩)
  wp_walk using AutoSeq1.wpAny_loadPart' ho
  refine wpAny_stack_any fun st=>wpAny_pure ?_
  split
  ·rename_i c _ _ _ _ _
   cases (c == Value.type "enumerate")
   ·wp_walk using AutoSeq1.wpAny_loadPart' ho,iter_at hL
    exact ⟨_,rfl,h⟩
   ·wp_walk using AutoSeq1.wpAny_loadPart' ho,iter_at hL
    exact ⟨_,rfl,h⟩
  ·wp_walk using AutoSeq1.wpAny_loadPart' ho,iter_at hL
   exact ⟨_,rfl,h⟩
noncomputable def iEnum (K:PySem.W.Frag) (ta:TA):TI:=fun σ H R=>ta σ H fun vs H1=>∃ (k:Kd) (l:Addr) (ys:List V),vs = [.ref l] /\ Sq k K H1 l ys /\ R (Ite K k l) H1
theorem pi_enum {X:Cx} {es:List Expr} {kk:Nat} {tpos:Pos} {a:Expr} {ta:TA} {p pos:Pos} (hg:Gl X "enumerate") (hm:X.mg "enumerate" = none) (ha:PA X [a] ta) (hs:starEach [a] X.env = (false,eval a X.env) :: starEach [] X.env:=by rfl) (hpl:(backTo pos (starEach [] X.env)).any (·.1) = false:=by rfl) :
  PI X (.Tuple es kk tpos) (.Call (.Name "enumerate" p) [a] [] pos) (iEnum X.K ta):=by
 intro pins s σ H R I h
 refine Call_ (ld_blt I hg hm boot_enumerate (PyProof.Rows.callWith_type1 (thn (ha pos pins s σ H _ I h) fun us s1 ⟨vs,H1,I1,r1,q1⟩=>?_) hs hpl))
 obtain ⟨k,l,ys,e,q1,q⟩:=q1
 subst e
 obtain rfl:us = [.ref l]:=by cases r1 with | cons r rr=>cases r; cases rr; rfl
 obtain ⟨its,rv,p1,z1⟩:=I1.sq q1
 have lt:l < s1.heap.objs.size:=by
  cases k with
  | l=>obtain ⟨o,e,_⟩:=p1; exact Heap.lt_size e
  | t=>obtain ⟨o,e,_⟩:=p1; exact Heap.lt_size e
 refine callType_new F.called_enumerate (by decide) (F.typeCall_enumerate_1 _) (F.newCall_enumerate_1 _) (fun obj=>F.args_object_init_2 obj _) F.entry_enumerate_new (enum_new k l its.toArray) ⟨p1,?_⟩
 have zI:(s1.heap.push (itObj k l)).objs.size = s1.heap.objs.size + 1:=by simp [Heap.size_push]
 have gE:(enZ s1.heap k l).get? (s1.heap.push (itObj k l)).objs.size = some _:=Heap.get?_push_size _ rfl
 have g1:(enZ s1.heap k l).get? s1.heap.objs.size = some (itObj k l):=Heap.get?_push_of_some _ (Heap.get?_push_size _ (by cases k <;> rfl))
 rw [zI] at gE
 show _ /\ _
 rw [zI]
 have kp:∀ b o,s1.heap.get? b = some o -> (enZ s1.heap k l).get? b = some o:=fun b o e=>Heap.get?_push_of_some _ (Heap.get?_push_of_some _ e)
 refine ⟨⟨_,gE,rfl⟩,wpAny_pyIter_enum (s:={ s1 with heap:=enZ s1.heap k l }) gE ?_⟩
 have n1:(s1.heap.objs.size + 1:Nat) ≠ s1.heap.objs.size:=by omega
 have n2:l ≠ s1.heap.objs.size:=Nat.ne_of_lt lt
 have n3:(s1.heap.objs.size + 1:Nat) ≠ l:=Nat.ne_of_gt (Nat.lt_succ_of_lt lt)
 refine ⟨_,[s1.heap.objs.size + 1,s1.heap.objs.size],_,_,H1,rfl,I1.kept (t':=s1.toks) kp,turn_enum k _ _ l n1 n2 n3,⟨⟨_,gE⟩,ItAt.new k g1⟩,fun b hb=>?_,q⟩
 have hb:s1.heap.objs.size <= b:=by
  have hb:b = s1.heap.objs.size + 1 \/ b = s1.heap.objs.size:=by simpa using hb
  rcases hb with rfl | rfl
  ·exact Nat.le_add_right _ _
  ·exact Nat.le_refl _
 exact I1.fpOk hb (I1.hok.fresh hb)
end L2
namespace L3
open PySem PySem.Spec PyProof.Rows L2
noncomputable def enumD (ds:List D):List D:=ds.zipIdx.map fun p=>PyData.tuple [.int (p.2:Nat),p.1]
noncomputable def dIEnum (a:AD):TDI:=fun ρ Q=>dArgs [a] ρ fun xs ρ1=>match lentAny ρ1 xs with
 | false=>looksQ ρ1 xs fun ds=>match ds with
  | [x]=>match seqD x with
   | some us=>Q (enumD us) ρ1
   | _=>False
  | _=>False
 | true=>False
theorem walks_enum {K:Fg} {F:Hp} {a:Addr} {k1:Kd} {xs:List V} {ds:List D} (e1:F a = some (match k1 with | Kd.l=>HO.lst xs | Kd.t=>HO.tup xs)) (h1:DaAll K F xs ds):Walks K (Ite K k1 a) F (enumD ds):=fun i H F1 s1 s2=>by
 have q1:Sq k1 K H a xs:=sq_of (s2 _ _ (s1 _ _ e1))
 refine ⟨fun d ed=>?_,fun hl=>⟨xs,q1,?_⟩⟩
 ·simp only [enumD,List.getElem?_map,Option.map_eq_some_iff] at ed
  obtain ⟨⟨x,j⟩,ez,rfl⟩:=ed
  rw [List.getElem?_zipIdx,Option.map_eq_some_iff] at ez
  obtain ⟨x',ex,ep⟩:=ez
  cases ep
  obtain ⟨v,g1,g2⟩:=h1.get ex
  refine ⟨⟨xs,v,q1,g1⟩,fun z H' ⟨T,y,hT,ex,eH,f1⟩=>?_⟩
  subst ex eH
  have f1:=f1 xs q1
  rw [g1] at f1; cases f1
  have fT:F1 T = none:=by
   cases z:F1 T with
   | none=>rfl
   | some o=>rw [s2 _ _ z] at hT; cases hT
  refine ⟨upd F1 T (.tup [.int (i:Nat),v]),Sub.new fT,fun c o ec=>?_,fun c o ec=>?_,Sub.new hT,.tup upd_same (.cons (by rw [Nat.zero_add]; exact .int _) (.cons (g2.mono (s1.trans (Sub.new fT))) .nil))⟩
  ·by_cases z:c = T
   ·subst z; exact .inr hT
   ·rw [upd_ne z] at ec; exact .inl ec
  ·by_cases z:c = T
   ·subst z; rw [upd_same] at ec ⊢; exact ec
   ·rw [upd_ne z] at ec ⊢; exact s2 _ _ ec
 ·simp only [enumD,List.length_map,List.length_zipIdx] at hl
  rw [h1.length]
  omega
theorem l_enum {K:Fg} {a:AD} {σ:L2.St} {H:Hp} {R:It -> Hp -> Prop} (h:liftI K (dIEnum a) σ H R):iEnum K (tArgs ([a].map (argT K))) σ H R:=by
 obtain ⟨G,F,ρ,Qd,Rl,w,k⟩:=h
 refine args_ok Rl w fun vs H' F' xs ρ' sb R' o w1=>?_
 split at w1
 ·rename_i e
  obtain ⟨ds,da,w1⟩:=noLent_looks R' e o w1
  split at w1
  ·rename_i x
   split at w1
   ·rename_i us p1
    cases da with
    | cons d1 t =>
     cases t
     obtain ⟨k1,a1,us',rfl,e1,g1⟩:=seqF_of d1 p1
     exact ⟨k1,a1,us',rfl,sq_of (R'.sub _ _ e1),k _ H' F' _ ρ' sb R' (walks_enum e1 g1) w1⟩
   ·exact w1.elim
  ·exact w1.elim
 ·exact w1.elim
section
variable {X:Cx} {K:Fg} {e1:Expr} {a:AD} {p pos tpos:Pos}
theorem i_enum {ts:List Expr} {kk:Nat} (hK:X.K = K) (hm:X.mg "enumerate" = none) (ha:WA X [e1] (tArgs ([a].map (argT K)))) (hg:Gl X "enumerate":=by rfl) (he:notStar e1 = true:=by rfl):WI X (.Tuple ts kk tpos) (.Call (.Name "enumerate" p) [e1] [] pos) (liftI K (dIEnum a)):=by
 subst hK
 exact ⟨piM (pi_enum hg hm ha.h (starEach_of he) (by rfl)) l_enum⟩
end
end L3
namespace L3
open PySem PySem.Spec PyProof.Rows L2
section
variable {K:Fg} {G:Gh} {F H:Hp} {σ:L2.St} {ρ:Ev} {j:Nat} {a:Addr} {d:D}
end
section
variable {X:Cx} {K:Fg} {e e1 e2:Expr} {a b:AD} {td:TD} {t:TDS} {p pos pos' tpos:Pos}
end
end L3
namespace L2
open PySem PySem.Spec PyProof.Rows
end L2
namespace L3
open PySem PySem.Spec PyProof.Rows L2
section
variable {X:Cx} {K:Fg} {e e1 e2 e3 e4:Expr} {a b:AD} {td:TD} {pos p2 pos' p1 pt:Pos}
end
end L3
namespace L3
open PySem PySem.Spec PyProof.Rows L2
section
variable {X:Cx} {K:Fg} {e1 e2:Expr} {a b:AD} {pos:Pos}
end
end L3
namespace L3
open PySem PySem.Spec PyProof.Rows L2
section
variable {X:Cx} {K:Fg} {e1 e2 ec:Expr} {pos p p2 p3 p4 p5 p6 p7 p8:Pos} {x xw y z:Str} {tc:TTD} {td1 td2:TD}
end
end L3
namespace L3
open PySem PySem.Spec PyProof.Rows L2
noncomputable def frz (ρ:Ev):Ev:=ρ.map fun x=>x.map fun s=>Sl.fz s.d
theorem frz_get {ρ:Ev} {i:Nat} {t:Sl} (h:(frz ρ)[i]? = some (some t)):∃ s,ρ[i]? = some (some s) /\ t = .fz s.d:=by
 unfold frz at h
 rw [List.getElem?_map,Option.map_eq_some_iff] at h
 obtain ⟨x,h1,h2⟩:=h
 cases x with
 | none=>cases h2
 | some s=>cases h2; exact ⟨s,h1,rfl⟩
theorem At.da {K:Fg} {F H:Hp} {v:V} {d:D} (s:Sub F H) (h:At K F H v d):Da K H v d:=by
 rcases h with h | ⟨a,o,rfl,_,h2,h3⟩
 ·exact h.mono s
 ·exact (h3.mono s).da h2
section
variable {K:Fg} {G:Gh} {F H H':Hp} {σ:L2.St} {ρ:Ev} {a:Addr} {o:HO} {d:D} {v:V}
theorem Rel.all (R:Rel K G F σ H ρ):Rel K ⟨H,H,fun _=>none⟩ H σ H (frz ρ) where
 len:=by rw [frz,List.length_map]; exact R.len
 sub:=Sub.refl _
 sub0:=Sub.refl _
 fn:=fun _ _ e=>.inl e
 keep:=fun _ _ e _=>e
 fz:=fun i d e=>by
  obtain ⟨s,e1,e2⟩:=frz_get e
  cases e2
  obtain ⟨v,ev⟩:=R.bound e1
  exact ⟨v,ev,(R.at e1 ev).da R.sub⟩
 ow:=fun i s e w=>by obtain ⟨s',_,rfl⟩:=frz_get e; cases w
 new:=fun i d a e _=>by obtain ⟨s',_,e2⟩:=frz_get e; cases e2
 io:=fun i a e=>by cases e
 ioi:=fun i d e=>by obtain ⟨s',_,e2⟩:=frz_get e; cases e2
 ap:=fun i j s t a e w=>by obtain ⟨s',_,rfl⟩:=frz_get e; cases w
theorem Rel.more (R:Rel K G F σ H ρ) (s:Sub H H'):Rel K G F σ H' ρ:=R.turn (Sub.refl F) (fun _ _ e=>.inl e) (R.sub.trans s) s
theorem Rel.scrap (R:Rel K G F σ H ρ) (h1:F a = none) (h2:G.H0 a = none) (h3:∀ (i:Nat) (s:Sl),ρ[i]? = some (some s) -> isOw s = true -> σ[i]? ≠ some (some (V.ref a))):Rel K G F σ (upd H a o) ρ where
 len:=R.len
 sub:=fun b u e=>by
  have:b ≠ a:=fun z=>by subst z; rw [h1] at e; cases e
  rw [upd_ne this]; exact R.sub b u e
 sub0:=R.sub0
 fn:=R.fn
 keep:=fun b u e n=>by
  have:b ≠ a:=fun z=>by subst z; rw [h2] at e; cases e
  rw [upd_ne this]; exact R.keep b u e n
 fz:=R.fz
 ow:=fun i s e w=>by
  obtain ⟨b,u,g1,g2,g3,g4⟩:=R.ow i s e w
  have:b ≠ a:=fun z=>h3 i s e w (by rw [g1,z])
  exact ⟨b,u,g1,g2,by rw [upd_ne this]; exact g3,g4⟩
 new:=R.new
 io:=R.io
 ioi:=R.ioi
 ap:=R.ap
theorem Rel.nobody (R:Rel K G F σ H ρ) (h:H a = none):∀ (i:Nat) (s:Sl),ρ[i]? = some (some s) -> isOw s = true -> σ[i]? ≠ some (some (V.ref a)):=fun i s e w z=>by
 obtain ⟨b,u,g1,g2,g3,g4⟩:=R.ow i s e w
 rw [z] at g1
 cases g1
 rw [h] at g3; cases g3
theorem Rel.blank (R:Rel K G F σ H ρ) {i:Nat} (hi:noIo ρ i):Rel K G F (σ.set i (some v)) H (ρ.set i none):=by
 have ni:∀ d,ρ[i]? ≠ some (some (Sl.io d)):=fun d e=>by unfold noIo at hi; rw [e] at hi; exact hi
 have R':=R.drop ni
 have no:∀ {j:Nat} {s:Sl},(ρ.set i none)[j]? = some (some s) -> j ≠ i:=fun {j s} e z=>by
  subst z
  rcases get_set e with ⟨_,q⟩ | ⟨n,_⟩
  ·cases q
  ·exact n rfl
 refine ⟨by rw [List.length_set]; exact R'.len,R'.sub,R'.sub0,R'.fn,R'.keep,fun j d e=>?_,fun j t e wt=>?_,fun j d b e eb=>?_,fun j b e=>?_,R'.ioi,fun j k t u b e1 w1 e2 w2 e3 e4=>?_⟩
 ·obtain ⟨v',h1,h2⟩:=R'.fz j d e
  exact ⟨v',by rw [List.getElem?_set_ne (Ne.symm (no e))]; exact h1,h2⟩
 ·obtain ⟨b,u,g1,g2,g3,g4⟩:=R'.ow j t e wt
  exact ⟨b,u,by rw [List.getElem?_set_ne (Ne.symm (no e))]; exact g1,g2,g3,g4⟩
 ·rw [List.getElem?_set_ne (Ne.symm (no e))] at eb
  exact R'.new j d b e eb
 ·obtain ⟨d,g1,g2⟩:=R'.io j b e
  exact ⟨d,g1,by rw [List.getElem?_set_ne (Ne.symm (no g1))]; exact g2⟩
 ·rw [List.getElem?_set_ne (Ne.symm (no e1))] at e3
  rw [List.getElem?_set_ne (Ne.symm (no e2))] at e4
  exact R'.ap j k t u b e1 w1 e2 w2 e3 e4
end
noncomputable def only (a:Addr) (o:HO):Hp:=fun b=>if b = a then some o else none
theorem only_is {a b:Addr} {o u:HO} (h:only a o b = some u):b = a /\ u = o:=by
 unfold only at h
 split at h
 ·rename_i e; exact ⟨e,by cases h; rfl⟩
 ·cases h
theorem ints_only {K:Fg} {F F':Hp} {xs:List V} {ns:List Int} (h:DaAll K F xs (ns.map PyData.int)):xs = ns.map V.int /\ DaAll K F' xs (ns.map PyData.int):=by
 have e:=h.intsV
 subst e
 exact ⟨rfl,DaAll.ints ns⟩
section
variable {X:Cx} {K:Fg} {ec:Expr} {p p1 p2 p3 p4 p5 p6 p7 p8 p9 pa pb pc pd pe pf pg ph pi' pj:Pos} {x y a b:Str} {tc:TTD}
end
end L3
namespace L2
open PySem PySem.Spec PyProof.Rows
noncomputable abbrev mroV:List Value:=[.type "ValueError",.type "Exception",.type "BaseException",.type "object"]
noncomputable abbrev ExcC (K:PySem.W.Frag) (C:Addr):Prop:=PySem.W.excIn K C mroV "ValueError.__new__" = true
theorem exc_obj {K:PySem.W.Frag} {h:Heap} {C:Addr} (X:K.In h) (q:ExcC K C):∃ bm N nm qn bs hd sn sub ab col dd k0 k1 k2 k3 k5 mN,K.lookup C = some (excClassObj nm qn C N bs bm hd sn sub ab col dd k0 k1 k2 k3 k5 "ValueError.__new__") /\ h.Ns N mN /\ mN "__init__" = none /\ OwnTail h mroV bm:=by
 unfold ExcC PySem.W.excIn at q
 split at q
 ·rename_i dd cd sl ho
  split at q
  ·rename_i C' bm k0 k1 k2 k3 i k5 e1 e2
   simp only [Bool.and_eq_true,beq_iff_eq,Bool.not_eq_true'] at q
   obtain ⟨⟨⟨⟨⟨z1,z2⟩,z3⟩,z4⟩,z5⟩,z6⟩:=q
   cases cd with
   | mk nm bs mro ns qn hd sn sub ab col del =>
    simp only at e1 z3 z5 z6
    subst e1 z1 z2 z3
    cases sl with
    | mk l =>
     simp only at e2
     subst e2
     exact ⟨bm,ns,nm,qn,bs,hd,sn,sub,ab,col,dd,k0,k1,k2,k3,k5,_,ho,.of_isNs (PySem.W.isNs_of_in X z5),PySem.W.nsMap_none_of_in X z5 z6,PySem.W.tail_of_in X z4⟩
  ·cases q
 ·cases q
section
variable {P:Program} {w:World} {H:Hp} {h:Heap} {a:Addr} {o:HO}
theorem ObjOk.ob (x:ObjOk P w H h a o):∃ u,h.get? a = some u:=by
 cases o with
 | lst xs=>obtain ⟨_,_,_,_,e⟩:=x; exact ⟨_,e⟩
 | tup xs=>obtain ⟨_,_,_,_,e,_⟩:=x; exact ⟨_,e⟩
 | dK kvs=>obtain ⟨_,_,_,_,o,_,_,e,_⟩:=x; exact ⟨_,e⟩
 | dT kvs=>obtain ⟨_,_,_,_,o,_,_,e,_⟩:=x; exact ⟨_,e⟩
 | set S n=>obtain ⟨o,_,_,_,e,_⟩:=x; exact ⟨_,e⟩
 | ins C dx fs=>obtain ⟨_,_,_,e,_⟩:=x; exact ⟨_,e⟩
 | own y=>exact x
 | xd fs=>obtain ⟨_,⟨_,_,_,e,_⟩,_⟩:=x; exact ⟨_,e⟩
 | rng lo hi=>obtain ⟨_,_,_,e⟩:=x; exact ⟨_,e⟩
 | frz ob u=>obtain ⟨e,_⟩:=x; exact ⟨_,e⟩
 | tbl ps=>exact ⟨_,(show h.get? a = some _ from x)⟩
 | met f y=>exact ⟨_,(show h.get? a = some _ from x)⟩
 | ext φ=>exact x.2.1
theorem HOk.gone (x:HOk P w H h) (e:h.get? a = none):H a = none:=by
 cases q:H a with
 | none=>rfl
 | some u=>obtain ⟨ob,z⟩:=(x a u q).ob; rw [e] at z; cases z
end
noncomputable def FlewAt (h:Heap) (a T:Addr) (C:Value):Prop:=∃ oe vs oT ts a0,h.get? a = some oe /\ (oe.cls = C /\ vs[0]? = some a0) /\ oe.data = .fields vs /\ vs[1]? = some (.ref T) /\ T ≠ a /\ h.get? T = some oT /\ oT.data = .fields ts /\ ts[3]? = some .none
noncomputable def CXE (P:Program) (w:World):CXT:=fun outer H s E e s'=>∃ (a T:Addr) (C:Value) (H':Hp),e = .ref a /\ s'.os = s.os /\ AllBare s'.gens /\ Un (frs outer) [] H H' s.heap s'.heap /\ HOk P w H' s'.heap /\
 s.heap.get? a = none /\ s.heap.get? T = none /\ H' a = none /\ H' T = none /\ FlewAt s'.heap a T C /\ E C none H'
section
variable {X:Cx} {pins:List (Addr × Obj)} {σ:St} {H:Hp} {s:Shared}
theorem leaves_exc (I:Inv X pins σ H s) (hst:X.stack = X.env :: X.outer) (hfr:X.env.frame = some X.env.locals) (hex:X.ex = []) {h3:Heap} {e:Addr} {C:Value} {args:List Value} (hx:Heap.MadeExcOf s.heap h3 e C args)
  {E:XK} (q:E C none H) {M:Model} {E':Value -> Shared -> Prop}:wpAny M X.A (leaving X.env (.ref e)) (fun _ s2=>CXE X.prog X.w X.outer X.H₀ X.s₀ E (.ref e) s2) E' { s with heap:=h3 }:=by
 have hF:=I.stack
 have nex:∀ b,b ∉ X.ex:=fun b z=>by rw [hex] at z; cases z
 have sub:∀ b,b ∈ X.fs -> b ∈ frs X.stack:=fun b z=>by rw [hst]; unfold frs; rw [List.filterMap_cons,hfr]; exact List.mem_cons_of_mem _ z
 have hin:∀ env ∈ X.env :: X.outer,∀ b,env.frame = some b -> b ∈ frs X.stack:=fun env he b hb=>by rw [hst]; exact List.mem_filterMap.mpr ⟨env,he,hb⟩
 refine wpAny_leaves_madeW (base:=PySem.W.hideAll s.heap (frs X.stack)) (h:=s.heap) (by rw [I.ok.frames,hst]) hfr (fun b o z=>PySem.W.of_hideAll _ z) (PySem.W.funFrames_hide (hst ▸ hF) hin) hx fun h' t fl tup tn up=>?_
 obtain ⟨k1,k2,k3,oe,vs,T,oT,ts,g1,g2,g3,g4,g5,g6,g7,g8,g9⟩:=fl
 have kept:∀ b o,s.heap.get? b = some o -> b ∉ frs X.stack -> h'.get? b = some o:=fun b o z nb=>k1 b o (PySem.W.hideAll_get _ z nb)
 have slot:∀ b o,s.heap.get? b = some o -> b ∈ frs X.stack -> (∃ sl,h'.get? b = some { o with slots:=sl }) /\ ∀ vs,o.data ≠ .fields vs:=fun b o z hb=>by
  obtain ⟨_,o',z',nf⟩:=hF.mem hb
  rw [z] at z'
  cases z'
  exact ⟨up b o (hx.keeps b o z) nf,nf⟩
 have fT:s.heap.get? T = none:=by
  cases z:s.heap.get? T with
  | none=>rfl
  | some o =>
   exfalso
   by_cases hb:T ∈ frs X.stack
   ·obtain ⟨⟨sl,y⟩,nf⟩:=slot T o z hb
    rw [g7] at y
    cases y
    exact nf ts g8
   ·have:=PySem.W.hideAll_get (frs X.stack) z hb
    rw [g5] at this
    cases this
 have old:∀ b,s.heap.get? b = none -> X.s₀.heap.get? b = none:=fun b z=>by
  cases y:X.s₀.heap.get? b with
  | none=>rfl
  | some o =>
   obtain ⟨o',y'⟩:=I.base.there b o y (nex b)
   rw [z] at y'
   cases y'
 have neL:∀ b o,X.s₀.heap.get? b = some o -> b ∉ X.fs -> b ∉ frs X.stack:=fun b o y nb z=>by
  rcases List.mem_cons.mp (I.stkSub b z) with z | z
  ·exact Nat.ne_of_lt (Nat.lt_of_lt_of_le (Heap.lt_size y) I.ok.above) z
  ·exact nb z
 refine ⟨e,T,C,H,rfl,I.os,I.bare,⟨fun b o y n nb _=>?_,fun b o y n hb _=>?_,fun b o y n _=>I.base.free b o y n (nex b),fun b o y _=>?_,I.base.tups,I.base.frzs,I.base.tbls⟩,fun b u y=>?_,old e hx.new,old T fT,I.hok.gone hx.new,I.hok.gone fT,⟨oe,vs,oT,ts,_,g1,g2,g3,g4,g6,g7,g8,g9⟩,q⟩
 ·exact kept b o (I.base.keep b o y n nb (nex b)) (neL b o y nb)
 ·obtain ⟨sl,y1⟩:=I.base.slot b o y n hb (nex b)
  obtain ⟨⟨sl2,y2⟩,_⟩:=slot b _ y1 (sub b hb)
  exact ⟨sl2,y2⟩
 ·obtain ⟨o',y1⟩:=I.base.there b o y (nex b)
  by_cases hb:b ∈ frs X.stack
  ·obtain ⟨⟨sl2,y2⟩,_⟩:=slot b _ y1 hb
   exact ⟨_,y2⟩
  ·exact ⟨_,kept b _ y1 hb⟩
 ·refine (I.hok b u y).stay (fun c v hc z=>kept c v z fun hb=>?_) (fun _ z=>z) fun _ _ z=>z
  have fr:=I.stkFree c hb
  rcases hc with rfl | hc
  ·rw [y] at fr; cases fr
  ·rw [hc] at fr; cases fr
noncomputable def tRaise (C:Addr) (E:XK):TS:=fun _ _ H=>E (.ref C) none H
theorem ps_raise {x t:Str} {C:Addr} {E:XK} {k:Nat} {np cpos pos p2:Pos} (hxe:∀ e s',wpAny (model X.prog X.w) X.A (leaving X.env e) (fun _ s2=>CXE X.prog X.w X.outer X.H₀ X.s₀ E e s2) (fun e2 s2=>CXE X.prog X.w X.outer X.H₀ X.s₀ E e2 s2) s' -> X.xe e s')
  (hst:X.stack = X.env :: X.outer) (hfr:X.env.frame = some X.env.locals) (hex:X.ex = []) (hc:X.calm = true) (hg:Gl X x) (hm:X.mg x = some (.ref C)) (hC:ExcC X.K C) (hdb:(x == ("__debug__":Str)) = false:=by decide) :
  PS X (.Raise (some (.Call (.Name x np) [.Constant (.str t) k p2] [] cpos)) none pos) (tRaise C E):=by
 intro pins s σ H D I h
 obtain ⟨bm,N,nm,qn,bs,hd,sn,sub,ab,col,dd,k0,k1,k2,k3,k5,mN,g1,g2,g3,g4⟩:=exc_obj I.mod.kin hC
 refine wpAny_Raise_call_subT (C:=C) (N:=N) (nm:=nm) (q:=qn) (bs:=bs) (hdct:=hd) (sn:=sn) (sub:=sub) (ab:=ab) (col:=col) (dd:=dd) (k0:=k0) (k1:=k1) (k2:=k2) (k3:=k3) (k5:=k5) PySem.F.excBase_ValueError (g4.hasType (by decide)) (I.ok.hd hc) rfl g3 (ld_glob I hg hm ⟨rfl,?_⟩ hdb)
 have hA:=(pa_cons (X:=X) (e:=.Constant (.str t) k p2) pe_str pa_nil (L3.starEach_of rfl)) cpos pins s σ H (fun xs H2=>xs = [.str t] /\ H2 = H) I ⟨rfl,rfl⟩
 have hs:starEach [Expr.Constant (.str t) k p2] X.env = [(false,eval (.Constant (.str t) k p2) X.env)]:=L3.starEach_of rfl
 rw [hs] at hA ⊢
 refine Calls.evalArgs_plain (thn hA fun us s2 ⟨vs,H2,I2,r2,q2⟩=>?_)
 obtain ⟨rfl,rfl⟩:=q2
 obtain ⟨u,rfl,_⟩:=vals1 r2
 refine ⟨rfl,by show 1 <= sizeLine; decide,I2.kIn _ _ g1,g2.keeps I2.bk,g4.keeps I2.bk,fun h' e hm2=>hxe _ _ (leaves_exc I2 hst hfr hex hm2 h)⟩
end
end L2
namespace L2
open PySem PySem.Spec PyProof.Rows
section
variable {M:Model} {A:Around} {E:Value -> Shared -> Prop}
variable {nm q:Str} {C N:Addr} {bs bm:List Value} {hdct:Bool} {sn:List Str} {sub:List Value} {ab:Bool} {col:Option Bool} {dd:Option Addr} {k0 k1 k2 k3 k5:Option Value} {newId:String}
variable {nm' q':Str} {B N':Addr} {bs' bm':List Value} {hdct':Bool} {sn':List Str} {sub':List Value} {ab':Bool} {col':Option Bool} {dd':Option Addr} {l0 l1 l2 l3 l5:Option Value} {newId':String}
theorem excMatches_ref {h:Heap} {g:Array GenState} {d:Drawn} {t:Nat} {os:OsState} {e:Addr} {oe:Obj} {b:Bool} {Q:Bool -> Shared -> Prop}
  (hC:h.get? C = some (excClassObj nm q C N bs bm hdct sn sub ab col dd k0 k1 k2 k3 k5 newId)) (hB:h.get? B = some (excClassObj nm' q' B N' bs' bm' hdct' sn' sub' ab' col' dd' l0 l1 l2 l3 l5 newId'))
  (he:h.get? e = some oe) (hcls:oe.cls = .ref C) (hbase:bm'.contains (.type "BaseException") = true) (hb:(Value.ref C :: bm).contains (.ref B) = b)
  (hq:Q b ⟨h,g,d,t,os⟩):wpAny M A (excMatches (.ref e) (.ref B)) Q E ⟨h,g,d,t,os⟩:=by
 have hcB:(Value.ref B :: bm').contains (.type "BaseException") = true:=by rw [List.contains_cons,hbase,Bool.or_true]
 have f:=tc_notTuple
 unfold excMatches
 repeat (first | (with_reducible refine wpAny_loadPart_at he ?_; rw [hcls]) | with_reducible refine wpAny_loadPart_at hB ?_ | (with_reducible refine wpAny_isSubtype_exc hB ?_; rw [hcB]) | (with_reducible refine wpAny_isSubtype_exc hC ?_; rw [hb]) | wp_step)
 cases b <;> (wp_walk; exact hq)
end
end L2
namespace L2
open PySem PySem.Spec PyProof.Rows
noncomputable def subIn (K:PySem.W.Frag) (C B:Addr):Bool:=match K.lookup C with
 | some ⟨_,_,.cls cd,_⟩=>cd.mro.contains (.ref B)
 | _=>false
section
variable {X:Cx} {pins:List (Addr × Obj)} {σ:St} {H H':Hp} {s s':Shared} {a T:Addr}
theorem Inv.back (I:Inv X pins σ H s) (un:Un (frs X.stack) [] H H' s.heap s'.heap) (hok:HOk X.prog X.w H' s'.heap) (bare:AllBare s'.gens) (os:s'.os = s.os) (fa:s.heap.get? a = none) (fT:s.heap.get? T = none) (na:H' a = none) (nT:H' T = none) {h5:Heap}
  (k:∀ b o,s'.heap.get? b = some o -> b ≠ a -> b ≠ T -> b ∉ frs X.stack -> h5.get? b = some o) (up:∀ b o,s'.heap.get? b = some o -> b ∈ frs X.stack -> ∃ sl,h5.get? b = some { o with slots:=sl }) :
  Inv X pins σ H' { s' with heap:=h5 }:=by
 have ne:∀ {b o},s.heap.get? b = some o -> b ≠ a /\ b ≠ T:=fun {b o} e=>⟨fun z=>(by rw [z,fa] at e; cases e),fun z=>(by rw [z,fT] at e; cases e)⟩
 have frf:∀ b ∈ frs X.stack,H' b = none:=fun b hb=>by
  obtain ⟨_,o,e,_⟩:=I.stack.mem hb
  exact un.free b o e (I.stkFree b hb) (by simp)
 refine I.call' (s':={ s' with heap:=h5 }) (ch:=[]) os ⟨fun b o e n nb _=>?_,fun b o e n hb _=>?_,un.free,fun b o e _=>?_,un.tups,un.frzs,un.tbls⟩ (fun b u y=>?_) bare (fun b z=>(by cases z))
 ·exact k b o (un.keep b o e n nb (by simp)) (ne e).1 (ne e).2 nb
 ·obtain ⟨sl,e1⟩:=un.slot b o e n hb (by simp)
  obtain ⟨sl2,e2⟩:=up b _ e1 hb
  exact ⟨sl2,e2⟩
 ·obtain ⟨o1,e1⟩:=un.there b o e (by simp)
  by_cases hb:b ∈ frs X.stack
  ·obtain ⟨sl2,e2⟩:=up b _ e1 hb
   exact ⟨_,e2⟩
  ·exact ⟨_,k b _ e1 (ne e).1 (ne e).2 hb⟩
 ·have good:∀ c v,H' c = some v -> c ≠ a /\ c ≠ T /\ c ∉ frs X.stack:=fun c v q=>⟨fun z=>(by rw [z,na] at q; cases q),fun z=>(by rw [z,nT] at q; cases q),fun z=>(by rw [frf c z] at q; cases q)⟩
  refine (hok b u y).stay (fun c v hc z=>?_) (fun _ z=>z) fun _ _ z=>z
  obtain ⟨g1,g2,g3⟩:c ≠ a /\ c ≠ T /\ c ∉ frs X.stack:=by
   rcases hc with rfl | hc
   ·exact good c u y
   ·exact good c _ hc
  exact k c v z g1 g2 g3
noncomputable abbrev Cx.mk2 (X:Cx) (v:Option Value):Cx:={ X with A:=X.A.mark v,calm:=false,xe:=fun _ _=>False }
theorem Inv.mk2 (I:Inv X pins σ H s) (v:Option Value):Inv (X.mk2 v) pins σ H s :=
 ⟨⟨I.ok.mod,I.ok.kind,I.ok.glob,I.ok.blt,I.ok.above,I.ok.inj,I.ok.has,I.ok.cab,fun z=>(by cases z),I.ok.frames,I.ok.stk,I.ok.exf,I.ok.bs,I.ok.bsz,I.ok.noex,I.ok.exfs,I.ok.funs,I.ok.frf⟩,I.os,I.bare,I.base,I.loc,I.cell,I.free,I.freeC,I.pin,I.hok,I.len⟩
theorem Inv.un2 {v:Option Value} (hd:X.calm = true -> X.A.handled = none) (I:Inv (X.mk2 v) pins σ H s):Inv X pins σ H s :=
 ⟨⟨I.ok.mod,I.ok.kind,I.ok.glob,I.ok.blt,I.ok.above,I.ok.inj,I.ok.has,I.ok.cab,hd,I.ok.frames,I.ok.stk,I.ok.exf,I.ok.bs,I.ok.bsz,I.ok.noex,I.ok.exfs,I.ok.funs,I.ok.frf⟩,I.os,I.bare,I.base,I.loc,I.cell,I.free,I.freeC,I.pin,I.hok,I.len⟩
theorem Inv.goes {M:Model} {A:Around} {E:Value -> Shared -> Prop} {i:Nat} {n:Str} {pos:Pos} {Q:Unit -> Shared -> Prop} (I:Inv X pins σ H s) (hN:X.N.Nodup) (hi:X.N[i]? = some n) (hl:X.env.kindOf n = some .local)
  (q:∀ s',Inv X pins (σ.set i none) H s' -> Q () s'):wpAny M A (do bindName X.env n .none; unbindBehindTheSuite X.env n pos) Q E s:=by
 obtain ⟨m,hn,hL⟩:=id I.loc
 obtain ⟨oL,_,_,hoL,_⟩:=id hn
 have hcls:(X.env.scope.kind == .class || (X.env.scope.kind == .module && X.env.locals != X.env.globals)) = false:=by rw [I.ok.kind]; rfl
 refine wpAny_nameGoes_keeps hl hn hcls fun h' v hn' hs=>q _ ?_
 have neL:∀ b o,X.s₀.heap.get? b = some o -> b ≠ X.env.locals:=fun b o e=>Nat.ne_of_lt (Nat.lt_of_lt_of_le (Heap.lt_size e) I.ok.above)
 refine ⟨I.ok,I.os,I.bare,⟨fun b o e n hb hx=>(hs.2 b (neL b o e)).trans (I.base.keep b o e n hb hx),fun b o e n hb hx=>?_,I.base.free,fun b o e hx=>?_,I.base.tups,I.base.frzs,I.base.tbls⟩,⟨_,hn',fun j y v' e1 e2 e3=>?_⟩,fun y c e=>?_,I.free,I.freeC,fun p hp=>?_,fun b u e=>?_,by simpa using I.len⟩
 ·obtain ⟨sl,e1⟩:=I.base.slot b o e n hb hx
  exact ⟨sl,(hs.2 b (neL b o e)).trans e1⟩
 ·obtain ⟨o',e1⟩:=I.base.there b o e hx
  exact ⟨o',(hs.2 b (neL b o e)).trans e1⟩
 ·by_cases hj:j = i
  ·subst hj
   rw [List.getElem?_set] at e2
   split at e2
   ·split at e2 <;> cases e2
   ·contradiction
  ·rw [List.getElem?_set_ne (Ne.symm hj)] at e2
   obtain ⟨u',r',z⟩:=hL j y v' e1 e2 e3
   refine ⟨u',r',?_⟩
   rcases z with ⟨k,e⟩ | ⟨k,c,e,z⟩
   ·refine .inl ⟨k,?_⟩
    have:y ≠ n:=fun e=>hj (nodup_ix hN e1 (e ▸ hi))
    simp [this,e]
   ·exact .inr ⟨k,c,e,z.sameBut hs (I.cne y c e)⟩
 ·obtain ⟨w',z⟩:=I.cell y c e
  exact ⟨w',z.sameBut hs (I.cne y c e)⟩
 ·obtain ⟨e,n,ne,nf,d⟩:=I.pin p hp
  exact ⟨(hs.2 p.1 ne).trans e,n,ne,nf,d⟩
 ·refine (I.hok b u e).stay (fun c w' hc z=>(hs.2 c ?_).trans z) (fun _ z=>z) fun _ _ z=>z
  rintro rfl
  rcases hc with rfl | hc
  ·rw [I.free] at e; cases e
  ·rw [I.free] at hc; cases hc
theorem Inv.track {o:HO} (I:Inv X pins σ H s) (na:H a = none) (f0:X.s₀.heap.get? a = none) (nl:a ≠ X.env.locals) (nc:∀ x c,X.env.cells.lookup x = some c -> c ≠ a) (np:∀ p ∈ X.pn ++ pins,p.1 ≠ a) (new:ObjOk X.prog X.w (upd H a o) s.heap a o):Inv X pins σ (upd H a o) s:=by
 have ne:∀ {b u},H b = some u -> b ≠ a:=fun e=>ne_of_none e na
 refine ⟨I.ok,I.os,I.bare,⟨I.base.keep,I.base.slot,fun b u e n hx=>?_,I.base.there,fun b xs e=>?_,fun b u v e=>?_,fun b ps e=>?_⟩,I.loc,I.cell,by rw [upd_ne (Ne.symm nl)]; exact I.free,fun x c e=>by rw [upd_ne (nc x c e)]; exact I.freeC x c e,fun p hp=>?_,fun b u e=>?_,I.len⟩
 ·rw [upd_ne fun z=>(by rw [z,f0] at e; cases e)]
  exact I.base.free b u e n hx
 ·have:=I.base.tups b xs e
  rw [upd_ne (ne this)]
  exact this
 ·have:=I.base.frzs b u v e
  rw [upd_ne (ne this)]
  exact this
 ·obtain ⟨more,this⟩:=I.base.tbls b ps e
  exact ⟨more,by rw [upd_ne (ne this)]; exact this⟩
 ·obtain ⟨e,n,r⟩:=I.pin p hp
  exact ⟨e,by rw [upd_ne (np p hp)]; exact n,r⟩
 ·by_cases hb:b = a
  ·subst hb
   rw [upd_same] at e
   cases e
   exact new
  ·rw [upd_ne hb] at e
   exact (I.hok b u e).stay (fun _ _ _ z=>z) (fun c z=>by rw [upd_ne (ne z)]; exact z) fun c xs z=>by rw [upd_ne (ne z)]; exact z
theorem sub_of {K:PySem.W.Frag} {C B N:Addr} {nm qn:Str} {bs bm:List Value} {hd:Bool} {sn:List Str} {sub:List Value} {ab:Bool} {col:Option Bool} {dd:Option Addr} {k0 k1 k2 k3 k5:Option Value} {i:String} (h:K.lookup C = some (excClassObj nm qn C N bs bm hd sn sub ab col dd k0 k1 k2 k3 k5 i)):(Value.ref C :: bm).contains (.ref B) = subIn K C B:=by
 unfold subIn
 rw [h]
theorem caught {n b c:Str} {pb pn pc p3 hpos:Pos} {iE iC:Nat} {B:Addr} {E:XK} {D:Ends} {Eo:Value -> Shared -> Prop} {e:Value} (I:Inv X pins σ H s) (hst:X.stack = X.env :: X.outer) (hfr:X.env.frame = some X.env.locals) (hex:X.ex = []) (hN:X.N.Nodup)
  (hiE:X.N[iE]? = some n) (hlE:X.env.scope.names.lookup n = some .local) (hiC:X.N[iC]? = some c) (hlC:X.env.scope.names.lookup c = some .local) (hgb:Gl X b) (hmb:X.mg b = some (.ref B)) (hB:ExcC X.K B) (hcx:CXE X.prog X.w X.stack H s E e s')
  (hE:∀ Cv o H',E Cv o H' -> ∃ C,Cv = .ref C /\ ExcC X.K C /\ subIn X.K C B = true /\ ∀ a,H' a = none -> D.nx (((σ.set iE (some (.ref a))).set iC (some (.ref a))).set iE none) (upd H' a (excO a C)))
  (hs3:swapsWith (.Name n pn) (some (.Name c pc)) p3.line X.env = pure false:=by rfl) (hdb:(b == ("__debug__":Str)) = false:=by decide) (hd1:(n == ("__debug__":Str)) = false:=by decide) (hd2:(n == ("__classdict__":Str)) = false:=by decide) :
  wpAny (model X.prog X.w) X.A (noteFrame e X.env) (fun _ s2=>wpAny (model X.prog X.w) X.A (setFlight e none) (fun _ s3=>wpAny (model X.prog X.w) X.A (handleBy e X.env [.ExceptHandler (some (.Name b pb)) (some n) [.Assign [.Name c pc] (.Name n pn) p3] hpos]) (SP X pins D) Eo s3) Eo s2) Eo s':=by
 obtain ⟨a,T,Cv,H',rfl,os,bare,un,hok,fa,fT,na,nT,⟨oe,vs,oT,ts,a0,g1,g2,g3,g4,g5,g6,g7,g8⟩,hEE⟩:=hcx
 obtain ⟨C,rfl,hC,hsub,q⟩:=hE _ _ _ hEE
 have I':Inv X pins σ H' s':=I.call' os un hok bare (ch:=[]) (fun b z=>(by cases z))
 have FF:=I'.stack
 have ha:a ∈ a :: T :: frs X.stack:=List.mem_cons_self
 have hT:T ∈ a :: T :: frs X.stack:=List.mem_cons_of_mem _ List.mem_cons_self
 have fly:Heap.FlyingW (PySem.W.hideAll s'.heap (a :: T :: frs X.stack)) X.stack a (.ref C) a0 s'.heap :=
  ⟨fun b o z=>PySem.W.of_hideAll _ z,PySem.W.hideAll_none _ ha,PySem.W.funFrames_hide FF fun env he b hb=>List.mem_cons_of_mem _ (List.mem_cons_of_mem _ (List.mem_filterMap.mpr ⟨env,he,hb⟩)),oe,vs,T,oT,ts,g1,g2,g3,g4,PySem.W.hideAll_none _ hT,g5,g6,g7,g8⟩
 have mkI:∀ h5:Heap,(PySem.W.hideAll s'.heap (a :: T :: frs X.stack)).StaysIn h5 -> s'.heap.UpToSlots h5 -> Inv X pins σ H' { s' with heap:=h5 }:=fun h5 st up=>by
  refine I.back un hok bare os fa fT na nT (fun b o z n1 n2 n3=>st b o (PySem.W.hideAll_get _ z fun y=>?_)) fun b o z hb=>?_
  ·rcases List.mem_cons.mp y with y | y
   ·exact n1 y
   ·rcases List.mem_cons.mp y with y | y
    ·exact n2 y
    ·exact n3 y
  ·obtain ⟨_,o',z',nf⟩:=FF.mem hb
   rw [z] at z'
   cases z'
   exact up b o z nf
 rw [hst] at fly
 refine wpAny_looks_onW (by rw [I.ok.frames,hst]) hfr fly fun h4 held4 up4=>?_
 refine wpAny_landsW held4 fun h5 fly5 up5=>?_
 have I5:=mkI h5 (by rw [hst]; exact fly5.1) (up4.trans up5)
 obtain ⟨ob,hob,hobc⟩:=fly5.there
 refine wpAny_handleBy_cons (codeAny_handlers_test (Calls.Name_function_global I5.ok.kind hgb (Calls.loadGlobal_global (by rw [I5.ok.glob]; exact I5.mod.glob.keeps I5.bk) hmb ?_) hdb)) (by intro z; cases z)
 obtain ⟨bm,N,nm,qn,bs,hd,sn,sub,ab,col,dd,k0,k1,k2,k3,k5,mN,e1,e2,e3,e4⟩:=exc_obj I5.kIn hC
 obtain ⟨bm',N',nm',qn',bs',hd',sn',sub',ab',col',dd',l0,l1,l2,l3,l5,mN',f1,f2,f3,f4⟩:=exc_obj I5.kIn hB
 refine excMatches_ref (I5.kIn _ _ e1) (I5.kIn _ _ f1) hob hobc (f4.hasType (by decide)) ((sub_of e1).trans hsub) ?_
 refine codeAny_handlers_suite_as ?_
 refine lands_againW fly5 fun h6 fly6 up6=>?_
 have I6:=mkI h6 (by rw [hst]; exact fly6.1) ((up4.trans up5).trans up6)
 have old:X.s₀.heap.get? a = none:=by
  cases y:X.s₀.heap.get? a with
  | none=>rfl
  | some o =>
   obtain ⟨o',y'⟩:=I.base.there a o y (by rw [hex]; simp)
   rw [fa] at y'
   cases y'
 obtain ⟨o6,v6,z1,z2,z3,_⟩:=fly6.first
 have I7:Inv X pins σ (upd H' a (excO a C)) { s' with heap:=h6 }:=by
  refine I6.track na old (fun z=>?_) (fun x c y z=>?_) (fun p hp z=>?_) ⟨⟨o6,v6,z1,z2,z3⟩,⟨o6,z1⟩,fun h1 h2 ⟨o,v,y1,y2,y3⟩ k=>⟨o,v,k o y1,y2,y3⟩⟩
  ·obtain ⟨m,⟨o,_,_,y,_⟩,_⟩:=I.loc
   rw [<- z,fa] at y
   cases y
  ·obtain ⟨v,o,y1,_⟩:=I.cell x c y
   rw [z,fa] at y1
   cases y1
  ·have:=(I.pin p hp).1
   rw [z,fa] at this
   cases this
 refine store_ok I7 hN hiE (.inl hlE) (v:=.ref a) rfl (fun s8 I8=>?_) (.inr hlE)
 have hi8:(σ.set iE (some (V.ref a)))[iE]? = some (some (V.ref a)):=List.getElem?_set_self (by rw [I.len]; exact (List.getElem?_eq_some_iff.mp hiE).1)
 have P9:=(pss_one (ps_set (X:=X.mk2 (some (.ref a))) (pos:=p3) (pos':=pc) hN hiC (.inl hlC) (pe_var (pos:=pn) hiE (.inl hlE) hd1 hd2) hs3 (.inr hlC))) pins s8 _ _ { nx:=fun σ9 H9=>σ9 = (σ.set iE (some (V.ref a))).set iC (some (V.ref a)) /\ H9 = upd H' a (excO a C),rt:=fun _ _=>False } (I8.mk2 _) ⟨_,hi8,rfl,rfl⟩
 refine wpAny_mono P9 (fun f s9 q9=>?_) (fun _ _ z=>z.elim)
 cases f with
 | next =>
  obtain ⟨σ9,H9,I9,rfl,rfl⟩:=q9
  exact (I9.un2 I.ok.hd).goes hN hiE hlE fun s10 I10=>⟨_,_,I10,q a na⟩
 | ret v=>obtain ⟨_,_,_,_,_,z⟩:=q9; exact z.elim
 | brk=>obtain ⟨_,_,_,z⟩:=q9; exact z.elim
 | cont=>obtain ⟨_,_,_,z⟩:=q9; exact z.elim
end
end L2
namespace L2
open PySem PySem.Spec PyProof.Rows
noncomputable def qTail (K:PySem.W.Frag) (n:Str):List Value -> Bool
 | []=>mroV == []
 | v :: r=>(v :: r) == mroV || match v with
  | .ref A=>(match K.lookup A with
    | some ⟨_,_,.cls cd,_⟩=>PySem.W.nsOkIn K cd.ns && (PySem.W.nsIn K cd.ns n == some none) && qTail K n r
    | _=>false)
  | _=>false
noncomputable def qIn (K:PySem.W.Frag) (C:Addr) (n:Str):Bool:=match K.lookup C with
 | some ⟨_,_,.cls cd,_⟩=>(match cd.mro with
   | _ :: bm=>qTail K n bm && PySem.W.nsOkIn K cd.ns && (PySem.W.nsIn K cd.ns n == some none)
   | _=>false)
 | _=>false
structure ExcQ (K:PySem.W.Frag) (C:Addr):Prop where
 c:ExcC K C
 q1:qIn K C "__getattribute__" = true
 q2:qIn K C "__getattr__" = true
 q3:qIn K C "__class__" = true
section
variable {M:Model} {A:Around} {E:Value -> Shared -> Prop} {h:Heap} {g:Array GenState} {d:Drawn} {t:Nat} {os:OsState} {K:PySem.W.Frag}
theorem along_q {n:Str} {y:Option Value} {Q:Option Value -> Shared -> Prop} (X:K.In h) (hv:lookupAlong mroV n = pure y) (q:Q y ⟨h,g,d,t,os⟩):∀ {l:List Value},qTail K n l = true -> wpAny M A (lookupAlong l n) Q E ⟨h,g,d,t,os⟩
 | [],e=>by cases e
 | v :: r,e=>by
  unfold qTail at e
  rcases Bool.or_eq_true_iff.mp e with z | z
  ·rw [beq_iff_eq.mp z,hv]
   exact wpAny_pure q
  ·split at z
   ·split at z
    ·rename_i ho
     simp only [Bool.and_eq_true,beq_iff_eq] at z
     rw [lookupAlong_cons]
     refine wpAny_bind (wpAny_classOwn_cls (X _ _ ho) (.of_isNs (PySem.W.isNs_of_in X z.1.1)) ?_)
     rw [PySem.W.nsMap_none_of_in X z.1.1 z.1.2]
     exact along_q X hv q z.2
    ·cases z
   ·cases z
theorem look_q {C:Addr} {n:Str} {y:Option Value} {Q:Option Value -> Shared -> Prop} (X:K.In h) (hC:ExcC K C) (hq:qIn K C n = true) (hB:typeLookup (.type "ValueError") n = pure y) (q:Q y ⟨h,g,d,t,os⟩) :
  wpAny M A (typeLookup (.ref C) n) Q E ⟨h,g,d,t,os⟩:=by
 have hv:lookupAlong mroV n = pure y:=by rw [typeLookup_eq,PySem.F.excBase_ValueError.mroIs] at hB; exact hB
 obtain ⟨bm,N,nm,qn,bs,hd,sn,sub,ab,col,dd,k0,k1,k2,k3,k5,mN,e1,e2,e3,e4⟩:=exc_obj X hC
 unfold qIn at hq
 rw [e1] at hq
 simp only [Bool.and_eq_true,beq_iff_eq] at hq
 rw [typeLookup_eq]
 refine wpAny_bind (wpAny_mroOf_exc (X _ _ e1) ?_)
 rw [lookupAlong_cons]
 refine wpAny_bind (wpAny_classOwn_cls (X _ _ e1) (.of_isNs (PySem.W.isNs_of_in X hq.1.2)) ?_)
 rw [PySem.W.nsMap_none_of_in X hq.1.2 hq.2]
 exact along_q X hv q hq.1.1
theorem sub_q {C:Addr} {v:Value} {b:Bool} {Q:Bool -> Shared -> Prop} (X:K.In h) {N:Addr} {nm qn:Str} {bs bm:List Value} {hd:Bool} {sn:List Str} {sub:List Value} {ab:Bool} {col:Option Bool} {dd:Option Addr} {k0 k1 k2 k3 k5:Option Value} {i:String} (e1:K.lookup C = some (excClassObj nm qn C N bs bm hd sn sub ab col dd k0 k1 k2 k3 k5 i)) (hb:(Value.ref C :: bm).contains v = b) (q:Q b ⟨h,g,d,t,os⟩) :
  wpAny M A (isSubtype (.ref C) v) Q E ⟨h,g,d,t,os⟩:=wpAny_isSubtype_exc (X _ _ e1) (by rw [hb]; exact q)
end
theorem lkV_class:typeLookup (.type "ValueError") "__class__" = pure (some (.builtin "object.__class__")):=by rw [typeLookup_type,builtinLookup_eq_fast]; kernel_rfl
section
variable {prog:Program} {w:World} {A:Around} {E:Value -> Shared -> Prop} {h:Heap} {g:Array GenState} {d:Drawn} {t:Nat} {os:OsState} {K:PySem.W.Frag} {a C:Addr} {o:Obj}
theorem clsE_get {R:Result -> Shared -> Prop} (X:K.In h) (hC:ExcQ K C) (hx:h.get? a = some o) (hc:o.cls = .ref C) (q:R (.ok (.ret (.ref C))) ⟨h,g,d,t,os⟩) :
  codeAny (model prog w) A (.call (.builtin "getset_descriptor.__get__") ⟨[.builtin "object.__class__",.ref a,.ref C],[]⟩) R ⟨h,g,d,t,os⟩:=by
 have tq:(⟨h,g,d,t,os⟩:Shared).TypeIs (.builtin "object.__class__") "getset_descriptor":=PySem.F.typeOf_object_class
 obtain ⟨bm,N,nm,qn,bs,hd,sn,sub,ab,col,dd,k0,k1,k2,k3,k5,mN,e1,e2,e3,e4⟩:=exc_obj X hC.c
 have cb:(Value.ref C :: bm).contains (.type (".".intercalate ("object.__class__".cutAt '.').dropLast)) = true:=by rw [PySem.F.owner_object_class,List.contains_cons,e4.hasType (b:=true) (by decide)]; rfl
 refine codeAny_call_builtin PySem.F.slot_gs_get.plain PySem.F.entry_gs_get (PySem.F.slot_gs_get.check _ _ _ _ _ _ _ _ tq (PySem.F.args_gs_get _ _ _) ?_)
 repeat (any_goals (first | assumption | (with_reducible refine wpAny_loadPart_at hx ?_; rw [hc]) | (with_reducible refine sub_q X e1 cb ?_) | wp_step))
 refine ⟨Code.quiet_builtin _ (by decide +kernel),codeAny_builtin PySem.F.entry_object_class ?_⟩
 repeat (any_goals (first | assumption | (with_reducible refine wpAny_loadPart_at hx ?_; rw [hc]) | wp_step))
theorem clsE_entry {tk:Tok} {Q:Fin -> Shared -> Prop} (X:K.In h) (hC:ExcQ K C) (hx:h.get? a = some o) (hc:o.cls = .ref C) (q:Q (.done (.ret (.ref C))) ⟨h,g,d,t,os⟩) :
  wpAny (model prog w) A (Builtin.«object.__getattribute__» ⟨[.ref a,.str "__class__" tk],[]⟩) Q E ⟨h,g,d,t,os⟩:=by
 have tq:(⟨h,g,d,t,os⟩:Shared).TypeIs (.builtin "object.__class__") "getset_descriptor":=PySem.F.typeOf_object_class
 have r1:=PySem.F.typeOf_object_class
 have r2:=PySem.F.slot_gs_get.lookup
 have r3:=PySem.F.slot_gs_set.lookup
 repeat (any_goals (first | assumption | (with_reducible refine wpAny_loadPart_at hx ?_; rw [hc]) | with_reducible refine look_q X hC.c hC.q3 lkV_class ?_ | wp_step))
 refine clsE_get X hC hx hc ?_
 repeat (any_goals (first | assumption | wp_step))
theorem clsE_check {M:Model} {v:Value} {Q:Unit -> Shared -> Prop} (X:K.In h) (hC:ExcQ K C) (hx:h.get? a = some o) (hc:o.cls = .ref C) (q:Q () ⟨h,g,d,t,os⟩):wpAny M A (checkBuiltinCall "BaseException.__getattribute__" ⟨[.ref a,v],[]⟩) Q E ⟨h,g,d,t,os⟩:=by
 obtain ⟨bm,N,nm,qn,bs,hd,sn,sub,ab,col,dd,k0,k1,k2,k3,k5,mN,e1,e2,e3,e4⟩:=exc_obj X hC.c
 have y1:builtinKind "BaseException.__getattribute__" = some .slot:=by decide +kernel
 have y2:splitId "BaseException.__getattribute__" = some ("BaseException","__getattribute__"):=by decide +kernel
 have cb:(Value.ref C :: bm).contains (.type "BaseException") = true:=by rw [List.contains_cons,e4.hasType (b:=true) (by decide)]; rfl
 have y3:=PySem.F.args_bexc_ga (.ref a) v
 simp only [checkBuiltinCall,y1,y2]
 refine wpAny_bind ?_
 unfold isInstance
 repeat (first | (with_reducible refine wpAny_loadPart_at hx ?_; rw [hc]) | (with_reducible refine sub_q X e1 cb ?_) | wp_step)
 exact q
theorem clsE_by {tk:Tok} {Q:Value -> Shared -> Prop} {fill:Bool} (X:K.In h) (hC:ExcQ K C) (hx:h.get? a = some o) (hc:o.cls = .ref C) (q:Q (.ref C) ⟨h,g,d,t,os⟩):wpAny (model prog w) A (getAttrBy (.ref a) (.str "__class__" tk) fill) Q E ⟨h,g,d,t,os⟩:=by
 have y1:=PySem.F.attrBase_ValueError.ga.bind (.ref a)
 have y2:(Value.builtin "BaseException.__getattribute__" == Value.builtin "object.__getattribute__") = false:=by decide +kernel
 have y3:(onTheHeap (Value.ref C) && Value.builtin "BaseException.__getattribute__" == Value.builtin "object.__getattribute__") = false:=by rw [y2]; rfl
 repeat (any_goals (first | assumption | (with_reducible refine wpAny_loadPart_at hx ?_; rw [hc]) | with_reducible refine look_q X hC.c hC.q1 PySem.F.attrBase_ValueError.ga.lookup ?_ | with_reducible refine look_q X hC.c hC.q2 PySem.F.attrBase_ValueError.noGetattr ?_ | wp_step))
 refine codeAny_call_builtin PySem.F.attrBase_ValueError.ga.plain PySem.F.entry_bexc_ga (clsE_check X hC hx hc (clsE_entry X hC hx hc ?_))
 repeat (any_goals (first | assumption | wp_step))
theorem clsE_attr {Q:Option Value -> Shared -> Prop} (X:K.In h) (hC:ExcQ K C) (hx:h.get? a = some o) (hc:o.cls = .ref C) (q:Q (some (.ref C)) ⟨h,g,d,t + 1,os⟩):wpAny (model prog w) A (getAttr? (.ref a) "__class__") Q E ⟨h,g,d,t,os⟩:=by
 unfold getAttr? getAttrBy?
 repeat (any_goals (first | assumption | with_reducible apply clsE_by X hC hx hc | wp_step))
end
end L2
namespace L2
open PySem PySem.Spec PyProof.Rows
noncomputable def clsIn (K:PySem.W.Frag) (D:Addr):Bool:=match K.lookup D with
 | some ⟨.type "type",_,.cls _,_⟩=>true
 | _=>false
theorem cls_obj {K:PySem.W.Frag} {D:Addr} (q:clsIn K D = true):∃ dd cd sl,K.lookup D = some ⟨.type "type",dd,.cls cd,sl⟩:=by
 unfold clsIn at q
 split at q
 ·rename_i ho
  exact ⟨_,_,_,ho⟩
 ·cases q
theorem type_sub:isSubtype (.type "type") (.type "type") = pure true:=by rw [isSubtype_type]; kernel_rfl
theorem typeOf_V:typeOf (.type "ValueError") = pure (.type "type"):=by kernel_rfl
section
variable {prog:Program} {w:World} {A:Around} {E:Value -> Shared -> Prop} {h:Heap} {g:Array GenState} {d:Drawn} {t:Nat} {os:OsState} {K:PySem.W.Frag} {a C D:Addr} {o:Obj} {b:Bool}
theorem nestE {dep:Int} {tk:Tok} {Q:Fin -> Shared -> Prop} (X:K.In h) (hC:ExcQ K C) (hD:clsIn K D = true) (hb:subIn K C D = b) (hx:h.get? a = some o) (hc:o.cls = .ref C) (q:∀ tk',Q (.done (.ret (.bool b))) ⟨h,g,d,tk',os⟩) :
  wpAny (model prog w) A (Builtin.«isinstance.nested» ⟨[.ref a,.ref D,.int dep tk],[]⟩) Q E ⟨h,g,d,t,os⟩:=by
 obtain ⟨bm,N,nm,qn,bs,hd,sn,sub,ab,col,dd,k0,k1,k2,k3,k5,mN,e1,e2,e3,e4⟩:=exc_obj X hC.c
 obtain ⟨dD,cD,sD,f1⟩:=cls_obj hD
 have cb:(Value.ref C :: bm).contains (.ref D) = b:=(sub_of e1).trans hb
 have hD2:=X _ _ f1
 have hC2:=X _ _ e1
 have r1:=type_sub
 by_cases z:C = D
 ·subst z
  have:b = true:=by rw [<- cb,List.contains_cons]; simp
  subst this
  have ee:(Value.ref C == Value.ref C) = true:=by simp
  have q1:=q t
  repeat (any_goals (first | assumption | (with_reducible refine wpAny_loadPart_at hx ?_; rw [hc]) | wp_step))
 ·have ee:(Value.ref C == Value.ref D) = false:=by simp [z]
  have q1:=q t
  have q2:=q (t + 1)
  cases b with
  | true=>repeat (any_goals (first | assumption | (with_reducible refine wpAny_loadPart_at hx ?_; rw [hc]) | with_reducible refine wpAny_loadPart_at hD2 ?_ | (with_reducible refine sub_q X e1 cb ?_) | wp_step))
  | false=>repeat (any_goals (first | assumption | (with_reducible refine wpAny_loadPart_at hx ?_; rw [hc]) | with_reducible refine wpAny_loadPart_at hD2 ?_ | (with_reducible refine wpAny_loadPart_at hC2 ?_) | (with_reducible refine sub_q X e1 cb ?_) | with_reducible refine clsE_attr X hC hx hc ?_ | wp_step))
end
end L2
namespace L2
open PySem PySem.Spec PyProof.Rows
section
variable {prog:Program} {w:World} {A:Around} {E:Value -> Shared -> Prop} {h:Heap} {g:Array GenState} {d:Drawn} {t:Nat} {os:OsState} {K:PySem.W.Frag} {a C D:Addr} {o:Obj} {b:Bool}
theorem nestV {dep:Int} {tk:Tok} {Q:Fin -> Shared -> Prop} (X:K.In h) (hC:ExcQ K C) (hx:h.get? a = some o) (hc:o.cls = .ref C) (q:∀ tk',Q (.done (.ret (.bool true))) ⟨h,g,d,tk',os⟩) :
  wpAny (model prog w) A (Builtin.«isinstance.nested» ⟨[.ref a,.type "ValueError",.int dep tk],[]⟩) Q E ⟨h,g,d,t,os⟩:=by
 obtain ⟨bm,N,nm,qn,bs,hd,sn,sub,ab,col,dd,k0,k1,k2,k3,k5,mN,e1,e2,e3,e4⟩:=exc_obj X hC.c
 have cb:(Value.ref C :: bm).contains (.type "ValueError") = true:=by rw [List.contains_cons,e4.hasType (b:=true) (by decide)]; rfl
 have r1:=typeOf_V
 have ee:(Value.ref C == Value.type "ValueError") = false:=by rfl
 have q1:=q t
 repeat (any_goals (first | assumption | (with_reducible refine wpAny_loadPart_at hx ?_; rw [hc]) | (with_reducible refine sub_q X e1 cb ?_) | wp_step))
theorem nestT {tp:Addr} {cs:List Value} {vs:List Bool} {n:Nat} {oT:Obj} {tk:Tok} {P:Shared -> Prop} (hP:∀ s tk,P s -> P { s with toks:=tk }) {Q:Fin -> Shared -> Prop} (hx:h.get? a = some o) (hc:o.cls = .ref C) (ne:C ≠ tp)
  (hT:h.get? tp = some oT) (hTc:oT.cls = .type "tuple") (hTd:oT.data = .seq cs.toArray n) (ha:AnswersAll P (.ref a) cs vs) (hs:P ⟨h,g,d,t,os⟩) (q:∀ tk',Q (.done (.ret (.bool (vs.any id)))) ⟨h,g,d,tk',os⟩) :
  wpAny (model prog w) A (Builtin.«isinstance.nested» ⟨[.ref a,.ref tp,.int 0 tk],[]⟩) Q E ⟨h,g,d,t,os⟩:=by
 have tt:(⟨h,g,d,t,os⟩:Shared).TypeIs (.ref tp) "tuple":=⟨_,hT,hTc⟩
 have r1:=PySem.F.isi_sub_tuple
 have ee:(Value.ref C == Value.ref tp) = false:=by simp [ne]
 obtain ⟨c0,d0,data0,sl0⟩:=oT
 simp only at hTc hTd
 subst hTc hTd
 repeat (any_goals (first | assumption | (with_reducible refine wpAny_loadPart_at hx ?_; rw [hc]) | wp_step))
 refine wpAny_arrayLoop ?_
 simp only [Option.getD_some,List.toList_toArray]
 refine isinstance_items (dep:=0) hP cs vs _ _ ha hs fun tk'=>?_
 cases hv:vs.any id with
 | true =>
  rw [if_pos rfl]
  have:=q tk'
  rw [hv] at this
  repeat (any_goals (first | assumption | wp_step))
 | false =>
  rw [if_neg (by decide)]
  have:=q tk'
  rw [hv] at this
  repeat (any_goals (first | assumption | wp_step))
end
noncomputable def rIsiE (K:PySem.W.Frag):List V -> Hp -> VK -> Prop:=fun xs H Q=>∃ a C D:Addr,xs = [.ref a,.ref D] /\ H a = some (excO a C) /\ ExcQ K C /\ clsIn K D = true /\ Q (.bl (subIn K C D)) H
noncomputable def rIsiEV (K:PySem.W.Frag):List V -> Hp -> VK -> Prop:=fun xs H Q=>∃ a C:Addr,xs = [.ref a,.ty "ValueError"] /\ H a = some (excO a C) /\ ExcQ K C /\ Q (.bl true) H
noncomputable def rIsiET (K:PySem.W.Frag):List V -> Hp -> VK -> Prop:=fun xs H Q=>∃ (a C p:Addr) (Ds:List Addr),xs = [.ref a,.ref p] /\ H a = some (excO a C) /\ H p = some (.tup (Ds.map V.ref)) /\ ExcQ K C /\ (∀ D ∈ Ds,clsIn K D = true) /\ Q (.bl (Ds.any (subIn K C))) H
section
variable {X:Cx}
theorem exc_at {pins:List (Addr × Obj)} {σ:St} {H:Hp} {s:Shared} {a C:Addr} (I:Inv X pins σ H s) (h:H a = some (excO a C)):∃ o,s.heap.get? a = some o /\ o.cls = .ref C:=by
 obtain ⟨⟨o,vs,e1,e2,_⟩,_⟩:=(show ObjOk X.prog X.w H s.heap a (excO a C) from I.hok a _ h)
 exact ⟨o,e1,e2⟩
theorem call_isiE:CallR X (.builtin "isinstance") (rIsiE X.K):=by
 intro pins s σ H xs us Q I r h
 obtain ⟨a,C,D,rfl,hH,hC,hD,q⟩:=h
 obtain ⟨u1,u2,rfl,r1,r2⟩:=vals2 r
 cases r1
 cases r2
 obtain ⟨o,e1,e2⟩:=exc_at I hH
 obtain ⟨h,g,d,t,os⟩:=s
 exact call_isinstance_of (nestE I.kIn hC hD rfl e1 e2 fun tk'=>⟨.bl _,H,I.tok tk',rfl,q⟩)
theorem call_isiEV:CallR X (.builtin "isinstance") (rIsiEV X.K):=by
 intro pins s σ H xs us Q I r h
 obtain ⟨a,C,rfl,hH,hC,q⟩:=h
 obtain ⟨u1,u2,rfl,r1,r2⟩:=vals2 r
 cases r1
 cases r2
 obtain ⟨o,e1,e2⟩:=exc_at I hH
 obtain ⟨h,g,d,t,os⟩:=s
 exact call_isinstance_of (nestV I.kIn hC e1 e2 fun tk'=>⟨.bl _,H,I.tok tk',rfl,q⟩)
theorem refs_of:∀ {Ds:List Addr} {us:List Value},Vals (Ds.map V.ref) us -> us = Ds.map Value.ref
 | [],_,r=>by cases r; rfl
 | D :: Ds,_,r=>by
  cases r with
  | cons r1 r2=>cases r1; rw [refs_of r2]; rfl
theorem ans_all {K:PySem.W.Frag} {a C:Addr} {o:Obj} (hC:ExcQ K C) (hc:o.cls = .ref C):∀ {Ds:List Addr},(∀ D ∈ Ds,clsIn K D = true) -> AnswersAll (fun s=>K.In s.heap /\ s.heap.get? a = some o) (.ref a) (Ds.map Value.ref) (Ds.map (subIn K C))
 | [],_=>trivial
 | D :: Ds,h=>by
  refine ⟨fun _ _ _ _ _ _ s hs=>?_,ans_all hC hc fun D hD=>h D (List.mem_cons_of_mem _ hD)⟩
  obtain ⟨hh,g,d,t,os⟩:=s
  exact nestE hs.1.1 hC (h D List.mem_cons_self) rfl hs.1.2 hc fun tk'=>hs.2 tk'
theorem call_isiET:CallR X (.builtin "isinstance") (rIsiET X.K):=by
 intro pins s σ H xs us Q I r h
 obtain ⟨a,C,p,Ds,rfl,hH,hp,hC,hD,q⟩:=h
 obtain ⟨u1,u2,rfl,r1,r2⟩:=vals2 r
 cases r1
 cases r2
 obtain ⟨o,e1,e2⟩:=exc_at I hH
 obtain ⟨_,its,rv,oT,f1,f2,n,f3,_⟩:=(show ObjOk X.prog X.w H s.heap p (.tup (Ds.map V.ref)) from I.hok p _ hp)
 have:=refs_of rv
 subst this
 have ne:C ≠ p:=fun z=>by
  obtain ⟨bm,N,nm,qn,bs,hd,sn,sub,ab,col,dd,k0,k1,k2,k3,k5,mN,g1,_⟩:=exc_obj I.kIn hC.c
  have:=I.kIn _ _ g1
  rw [z,f1] at this
  cases this
  exact absurd (Value.type.inj f2) (by decide)
 have hv:(Ds.map (subIn X.K C)).any id = Ds.any (subIn X.K C):=by rw [List.any_map]; rfl
 obtain ⟨h,g,d,t,os⟩:=s
 refine call_isinstance_of (nestT (vs:=Ds.map (subIn X.K C)) (P:=fun s=>X.K.In s.heap /\ s.heap.get? a = some o) (fun _ _ z=>z) e1 e2 ne f1 f2 f3 (ans_all hC e2 hD) ⟨I.kIn,e1⟩ fun tk'=>⟨.bl _,H,I.tok tk',rfl,?_⟩)
 rw [hv]
 exact q
end
end L2
namespace L2
open PySem PySem.Spec PyProof.Rows
structure CalX (P:Program) (w:World) (K:PySem.W.Frag) (mg:Str -> Option Value) (base:Heap) (k:Nat) (x:Str) (ps:List Str) (sp:Sp):Prop where
 ex:∃ (f:Addr) (fd:FuncData),FnOk P w K mg base (CXE P w) k f fd ps sp /\ mg x = some (.ref f) /\ PySem.W.keepIn K (.ref f) = true /\ Binds K fd ps []
noncomputable def xkT (K:PySem.W.Frag) (iE iC:Nat) (B:Addr) (D:Ends) (σ:St):XK:=fun Cv _ H2=>∃ C,Cv = .ref C /\ ExcC K C /\ subIn K C B = true /\ ∀ a,H2 a = none -> D.nx (((σ.set iE (some (.ref a))).set iC (some (.ref a))).set iE none) (upd H2 a (excO a C))
noncomputable def tTryR (K:PySem.W.Frag) (iE iC:Nat) (B:Addr) (sp:Sp) (t:TA):TS:=fun D σ H=>t σ H fun vs H1=>sp vs H1 (fun _ _=>False) (xkT K iE iC B D σ)
section
variable {X:Cx} {k iE iC:Nat} {f n b c y:Str} {ps:List Str} {sp:Sp} {t:TA} {B:Addr} {e1:Expr} {es:List Expr} {p cpos pb pn pc p3 hpos apos pos py:Pos}
noncomputable abbrev hdl (b n c:Str) (pb pn pc p3 hpos:Pos):ExceptHandler:=.ExceptHandler (some (.Name b pb)) (some n) [.Assign [.Name c pc] (.Name n pn) p3] hpos
structure Tr (X:Cx) (b n c:Str) (pn pc p3:Pos) (iE iC:Nat) (B:Addr):Prop where
 hst:X.stack = X.env :: X.outer
 hfr:X.env.frame = some X.env.locals
 hex:X.ex = []
 hN:X.N.Nodup
 hiE:X.N[iE]? = some n
 hlE:X.env.scope.names.lookup n = some .local
 hiC:X.N[iC]? = some c
 hlC:X.env.scope.names.lookup c = some .local
 hgb:Gl X b
 hmb:X.mg b = some (.ref B)
 hB:ExcC X.K B
 hs3:swapsWith (.Name n pn) (some (.Name c pc)) p3.line X.env = pure false
 hdb:(b == ("__debug__":Str)) = false
 hd1:(n == ("__debug__":Str)) = false
 hd2:(n == ("__classdict__":Str)) = false
theorem call_caught {pins:List (Addr × Obj)} {σ:St} {H:Hp} {s:Shared} {D:Ends} {Eo:Value -> Shared -> Prop} {Qv:Value -> Shared -> Prop} (T:Tr X b n c pn pc p3 iE iC B) (C:CalX X.prog X.w X.K X.mg X.base k f ps sp) (hr:Room k X.A) (ha:PA X.nox (e1 :: es) t) (hg:Gl X f) (hdf:(f == ("__debug__":Str)) = false)
  (he:starEach (e1 :: es) X.env = (false,eval e1 X.env) :: starEach es X.env) (hpl:(backTo cpos (starEach es X.env)).any (·.1) = false) (I:Inv X pins σ H s) (h:tTryR X.K iE iC B sp t D σ H) :
  wpAny (model X.prog X.w) X.A (eval (.Call (.Name f p) (e1 :: es) [] cpos) X.env) Qv (fun e s1=>wpAny (model X.prog X.w) X.A (noteFrame e X.env) (fun _ s2=>wpAny (model X.prog X.w) X.A (setFlight e none) (fun _ s3=>wpAny (model X.prog X.w) X.A (handleBy e X.env [hdl b n c pb pn pc p3 hpos]) (SP X pins D) Eo s3) Eo s2) Eo s1) s:=by
 obtain ⟨fa,fd,F,hm,hk,hb⟩:=C.ex
 refine wpAny_Call_Name_kw (ld_glob I hg hm ?_ hdf)
 refine PySem.W.callWith_K (h₀:=X.base) I.ok.mod.kin hk (wpAny_mono (ha cpos pins s σ H _ (I.wish _) h) (fun us s1 ⟨vs,H1,I1,r,q⟩=>⟨I1.kIn,?_⟩) fun _ _ z=>z.elim) he hpl
 have J1:=I1.unwish
 have hl:us.length = ps.length:=by rw [<- r.length]; exact F.len _ _ _ _ q
 have hbb:=hb s1 us J1.kIn (by rw [List.append_nil]; exact hl)
 rw [List.append_nil] at hbb
 refine wpAny_call (codeAny_mono (F.run X.A X.stack s1 H1 ⟨us,[]⟩ us vs _ _ hr J1.env0 hbb r q) fun rr s' hq=>?_)
 cases rr with
 | error e =>
  have hq:CXE X.prog X.w X.stack H1 s1 (xkT X.K iE iC B D σ) e s':=hq
  exact caught J1 T.hst T.hfr T.hex T.hN T.hiE T.hlE T.hiC T.hlC T.hgb T.hmb T.hB hq (fun Cv o H2 z=>z) T.hs3 T.hdb T.hd1 T.hd2
 | ok fl =>
  cases fl with
  | ret u=>obtain ⟨_,_,_,_,_,_,_,z⟩:=hq; exact z.elim
  | next=>exact False.elim hq
  | brk=>exact False.elim hq
  | cont=>exact False.elim hq
theorem ps_tryX (T:Tr X b n c pn pc p3 iE iC B) (C:CalX X.prog X.w X.K X.mg X.base k f ps sp) (hr:Room k X.A) (ha:PA X.nox (e1 :: es) t) (hg:Gl X f) (hdf:(f == ("__debug__":Str)) = false)
  (he:starEach (e1 :: es) X.env = (false,eval e1 X.env) :: starEach es X.env) (hpl:(backTo cpos (starEach es X.env)).any (·.1) = false) (hs:swapsWith (.Call (.Name f p) (e1 :: es) [] cpos) none apos.line X.env = pure false) :
  PS X (.Try [.Expr (.Call (.Name f p) (e1 :: es) [] cpos) apos] [hdl b n c pb pn pc p3 hpos] [] [] pos) (tTryR X.K iE iC B sp t):=by
 intro pins s σ H D I h
 exact wpAny_Try_except (wpAny_execs_cons (wpAny_Expr_any (call_caught T C hr ha hg hdf he hpl I h) I.quiet hs))
end
end L2
namespace L2
open PySem PySem.Spec PyProof.Rows
noncomputable def PR (X:Cx) (sts:List Stmt) (E:XK) (C:Addr) (t:TS):Prop:=∀ (pins:List (Addr × Obj)) (s:Shared) (σ:St) (H:Hp) (D D':Ends),Inv X pins σ H s -> t D σ H -> (∀ σ H,D.nx σ H -> E (.ref C) none H) -> (∀ v H,¬ D.rt v H) -> (∀ σ H,¬ D.bk σ H) -> (∀ σ H,¬ D.ct σ H) ->
 wpAny (model X.prog X.w) X.A (execs sts X.env) (SP X pins D') X.xe s
end L2
namespace L3
open PySem PySem.Spec PyProof.Rows L2
noncomputable abbrev ConX:=List Sl -> Addr -> Prop
noncomputable def conSpX (K:Fg) (con:ConX):Sp:=fun vs H _ E=>∃ (G:Gh) (F:Hp) (args:List Sl) (C:Addr),Rel K G F (vs.map some) H (args.map some) /\ con args C /\ ∀ σ' H' F' ρ',Sub F F' -> Rel K G F' σ' H' ρ' -> E (.ref C) none H'
theorem Rel.off {K:Fg} {G:Gh} {F H:Hp} {σ σ':L2.St} {ρ:Ev} {i:Nat} (R:Rel K G F σ H ρ) (h:ρ[i]? = some none) (hl:σ'.length = σ.length) (hs:∀ j,j ≠ i -> σ'[j]? = σ[j]?):Rel K G F σ' H ρ:=by
 have ne:∀ {j s},ρ[j]? = some (some s) -> j ≠ i:=fun {j s} e z=>by rw [z,h] at e; cases e
 refine ⟨by rw [hl]; exact R.len,R.sub,R.sub0,R.fn,R.keep,fun j d e=>?_,fun j s e w=>?_,fun j d a e eb=>?_,fun j a e=>?_,R.ioi,fun j k s t a e1 w1 e2 w2 e3 e4=>?_⟩
 ·rw [hs j (ne e)]; exact R.fz j d e
 ·rw [hs j (ne e)]; exact R.ow j s e w
 ·rw [hs j (ne e)] at eb; exact R.new j d a e eb
 ·obtain ⟨d,e1,e2⟩:=R.io j a e
  exact ⟨d,e1,by rw [hs j (ne e1)]; exact e2⟩
 ·rw [hs j (ne e1)] at e3
  rw [hs k (ne e2)] at e4
  exact R.ap j k s t a e1 w1 e2 w2 e3 e4
noncomputable def dTryR (K:Fg) (iE iC:Nat) (B:Addr) (con:ConX) (as:List AD):TDS:=fun E ρ=>dArgs as ρ fun xs ρ1=>looksQ ρ1 xs fun ds=>∃ C,con (ds.map Sl.fz) C /\ ExcC K C /\ subIn K C B = true /\ ρ1[iE]? = some none /\ iE ≠ iC /\ noIo ρ1 iC /\ E.nx (ρ1.set iC (some (.fz (excD C))))
theorem l_tryR {K:Fg} {iE iC:Nat} {B:Addr} {con:ConX} {as:List AD} {D:Ends} {σ:L2.St} {H:Hp} (h:liftS K (dTryR K iE iC B con as) D σ H):tTryR K iE iC B (conSpX K con) (tArgs (as.map (argT K))) D σ H:=by
 obtain ⟨G,F,ρ,Ed,R,w,n,r,b,c⟩:=h
 refine args_ok R w fun vs H1 F1 xs ρ1 s1 R1 o w1=>?_
 obtain ⟨ds,da,C,w2,hC,hsub,hE,hne,hio,w3⟩:=lend_looks (xs:=xs) R1 (fun y hy=>hy) o w1
 refine ⟨_,_,ds.map Sl.fz,C,rel_call (lend_le R1) da,w2,fun σ' H' F' ρ' s' R'=>⟨C,rfl,hC,hsub,fun a na=>?_⟩⟩
 obtain ⟨sb,R2⟩:=R1.called R'
 have R3:=R2.laid (o:=excO a C) na
 obtain ⟨sb3,R4⟩:=R3.grow (a:=a) (o:=excO a C) (R2.h0 na) upd_same fun i s e w z=>by
  obtain ⟨a',o',g1,g2,g3,g4⟩:=R2.ow i s e w
  rw [z] at g1
  cases g1
  rw [na] at g3
  cases g3
 have R5:=R4.asg (s:=.fz (excD C)) (v:=.ref a) hio (Da.exc upd_same)
 have hi:iE < σ.length:=by rw [R1.len]; exact lt_of_get hE
 refine n _ _ _ _ (s1.trans (sb.trans sb3)) (R5.off (i:=iE) (by rw [List.getElem?_set_ne (Ne.symm hne)]; exact hE) (by simp) fun j hj=>?_) w3
 rw [List.getElem?_set_ne (Ne.symm hj)]
 by_cases z:j = iC
 ·subst z
  rw [List.getElem?_set,List.getElem?_set]
  simp [List.getElem?_set]
 ·rw [List.getElem?_set_ne (Ne.symm z),List.getElem?_set_ne (Ne.symm hj),List.getElem?_set_ne (Ne.symm z)]
noncomputable def dRz (tc:TTD):TDS:=fun E ρ=>tc ρ fun b ρ'=>b = true /\ E.nx ρ'
structure WR (X:Cx) (sts:List Stmt) (E:XK) (C:Addr) (t:TS):Prop where
 h:PR X sts E C t
section
variable {X:Cx} {K:Fg} {st:Stmt} {rest:List Stmt} {E:XK} {C:Addr} {t u:TDS} {tc:TTD} {c:Expr} {x tx:Str} {k:Nat} {np cpos rpos pos p2:Pos}
theorem r_if (hxe:∀ e s',wpAny (model X.prog X.w) X.A (leaving X.env e) (fun _ s2=>CXE X.prog X.w X.outer X.H₀ X.s₀ E e s2) (fun e2 s2=>CXE X.prog X.w X.outer X.H₀ X.s₀ E e2 s2) s' -> X.xe e s') (hc:WT X.nox c (liftT K tc)) (hm:X.mg x = some (.ref C)) (hC:ExcC X.K C)
  (hst:X.stack = X.env :: X.outer:=by rfl) (hfr:X.env.frame = some X.env.locals:=by rfl) (hex:X.ex = []:=by rfl) (hca:X.calm = true:=by rfl) (hg:Gl X x:=by rfl) (hdb:(x == ("__debug__":Str)) = false:=by decide) :
  WR X (.If c [.Raise (some (.Call (.Name x np) [.Constant (.str tx) k p2] [] cpos)) none rpos] [] pos :: rest) E C (liftS K (dRz tc)):=by
 refine ⟨fun pins s σ H D D' I h n r b cc=>?_⟩
 obtain ⟨G,F,ρ,Ed,R,w,dn,dr,db,dc⟩:=h
 have P1:=ps_if (pos:=pos) (X:=X) (PT.nox hc.h) (pss_one (ps_raise (E:=E) (t:=tx) (k:=k) (np:=np) (cpos:=cpos) (pos:=rpos) (p2:=p2) hxe hst hfr hex hca hg hm hC hdb)) (pss_nil (X:=X)) pins s σ H { nx:=fun _ _=>False,rt:=fun _ _=>False } I
  ⟨G,F,ρ,_,R,w,fun bb H' F' ρ' sb R' q=>by obtain ⟨rfl,q⟩:=q; exact n σ H' (dn σ H' F' ρ' sb R' q)⟩
 refine wpAny_execs_cons (thn P1 fun f s1 q=>?_)
 cases f with
 | next=>obtain ⟨_,_,_,z⟩:=q; exact z.elim
 | ret v=>obtain ⟨_,_,_,_,_,z⟩:=q; exact z.elim
 | brk=>obtain ⟨_,_,_,z⟩:=q; exact z.elim
 | cont=>obtain ⟨_,_,_,z⟩:=q; exact z.elim
end
section
variable {P:Program} {w:World} {K:PySem.W.Frag} {mg:Str -> Option Value} {base:Heap}
theorem wfnR {x qual:Str} {st:Stmt} {f:Addr} {fd:FuncData} {N ps:List Str} {k:Nat} {con:ConX} {ts:TDS} {C:Addr} (F:Fun K x qual st f fd) (S:FnScope N ps (defScope st))
  (hb:∀ (cdv:Value) (A:Around) (outer:List Env) (s:Shared) (H:Hp) (E:XK),Room k (A.deeper (envOfC qual (defScope st) s.heap.objs.size f cdv)) -> WR (cxOf (CXE P w) P w K mg base N qual (defScope st) f cdv A outer s H E) (defBody st) E C (liftS K ts))
  (hl:∀ args C',con args C' -> args.length = ps.length) (hc:∀ args C',con args C' -> C' = C /\ (∀ s ∈ args,∀ d,s ≠ .ow d) /\ ts { nx:=fun _=>True,rt:=fun _ _=>False,bk:=fun _=>False,ct:=fun _=>False } (startE N.length args)):FnOk P w K mg base (CXE P w) (k + 1) f fd ps (conSpX K con):=by
 obtain ⟨oc,od,kV,doc,pm,an,cdv,ct,osl,rfl,lk,hcd⟩:=F.ex
 refine fn_of lk hcd S (fun vs H Q E h=>?_) fun A outer s H vs Q E hr hsp=>?_
 ·obtain ⟨G,F',args,C',R,w',_⟩:=h
  have h1:=hl args C' w'
  have h2:=R.len
  rw [List.length_map,List.length_map] at h2
  rw [h2,h1]
 ·refine ⟨fun D σ H=>∃ D0:Ends,liftS K ts D0 σ H /\ (∀ σ H,D0.nx σ H -> E (.ref C) none H) /\ (∀ v H,¬ D0.rt v H) /\ (∀ σ H,¬ D0.bk σ H) /\ ∀ σ H,¬ D0.ct σ H,fun pins s1 σ H1 D I h=>?_,?_⟩
  ·obtain ⟨D0,h,n,r,b,c⟩:=h
   exact (hb cdv A outer s H E hr).h pins s1 σ H1 D0 D I h n r b c
  ·obtain ⟨G,F',args,C',R,w',q⟩:=hsp
   obtain ⟨rfl,hn,w2⟩:=hc args C' w'
   refine ⟨{ nx:=fun _ H'=>E (.ref C') none H',rt:=fun _ _=>False },⟨G,F',_,_,R.start,w2,fun σ' H' F2 ρ' s' R' _=>q σ' H' F2 ρ' s' R',fun _ _ _ _ _ _ _ _ _ z=>z,fun _ _ _ _ _ _ z=>z,fun _ _ _ _ _ _ z=>z⟩,fun _ _ z=>z,fun _ _ z=>z,fun _ _ z=>z,fun _ _ z=>z⟩
end
end L3
namespace L3
open PySem PySem.Spec PyProof.Rows L2
noncomputable def cA (mg:Str -> Option Value) (x:Str):Addr:=match mg x with
 | some (.ref a)=>a
 | _=>0
theorem cA_of {mg:Str -> Option Value} {x:Str} {a:Addr} (h:mg x = some (.ref a)):cA mg x = a:=by unfold cA; rw [h]
theorem cA_mg {mg:Str -> Option Value} {x:Str} {a:Addr} (h:mg x = some (.ref a)):mg x = some (.ref (cA mg x)):=by rw [cA_of h]; exact h
theorem kv_nb {K:Fg} {F:Hp} {kvs:List (Key × V)} {es:List (D × D)} (h:DaKV K F kvs es) {b:Bool} {d:D} {r:List (D × D)} (e:es = (.bool b,d) :: r):False:=by
 cases h with
 | nil=>cases e
 | @cons k _ _ _ _ _ _=>cases k <;> cases e
theorem kt_nb {K:Fg} {F:Hp} {kvs:List (List Key × V)} {es:List (D × D)} (h:DaKT K F kvs es) {b:Bool} {d:D} {r:List (D × D)} (e:es = (.bool b,d) :: r):False:=by
 cases h <;> cases e
theorem At.exc {K:Fg} {F H:Hp} {v:V} {C:Addr} (s:Sub F H) (h:At K F H v (excD C)):∃ a,v = .ref a /\ H a = some (excO a C):=by
 rcases h with h | ⟨a,o,rfl,_,e,h⟩
 ·have gen:∀ {d:D},Da K F v d -> d = excD C -> ∃ a,v = .ref a /\ H a = some (excO a C):=fun {d} h e=>by
   cases h with
   | dk q t =>
    injection e with e
    exact (kv_nb t e).elim
   | dt q t =>
    injection e with e
    exact (kt_nb t e).elim
   | scr q=>cases e
   | @exc a C' q =>
    injection e with e
    injection e with e _
    injection e with _ e
    injection e with e
    have:C' = C:=Int.ofNat.inj e
    subst this
    exact ⟨a,rfl,s _ _ q⟩
   | _=>cases e
  exact gen h rfl
 ·cases o with
  | dK kvs =>
   exact (kv_nb (show DaKV K F kvs [(.bool true,.int (C:Nat))] from h) rfl).elim
  | dT kvs =>
   exact (kt_nb (show DaKT K F kvs [(.bool true,.int (C:Nat))] from h) rfl).elim
  | _=>exact h.elim
noncomputable def fIsX (K:Fg) (B:Addr):D -> (Sl -> Prop) -> Prop
 | .dict [(.bool true,.int c)],Q=>∃ C:Addr,c = ((C:Nat):Int) /\ ExcQ K C /\ clsIn K B = true /\ Q (.fz (.bool (subIn K C B)))
 | _,_=>False
noncomputable def fIsXT (K:Fg) (Bs:List Addr):D -> (Sl -> Prop) -> Prop
 | .dict [(.bool true,.int c)],Q=>∃ C:Addr,c = ((C:Nat):Int) /\ ExcQ K C /\ (∀ B ∈ Bs,clsIn K B = true) /\ Q (.fz (.bool (Bs.any (subIn K C))))
 | _,_=>False
noncomputable def fIsXV (K:Fg):D -> (Sl -> Prop) -> Prop
 | .dict [(.bool true,.int c)],Q=>∃ C:Addr,c = ((C:Nat):Int) /\ ExcQ K C /\ Q (.fz (.bool true))
 | _,_=>False
theorem ok_isX {K:Fg} {B:Addr}:OpOk K (fun vs H Q=>∃ x,vs = [x] /\ rIsiE K [x,.ref B] H Q) (o1 (fIsX K B)):=ok1 fun G F σ H ρ x d Q Qd R h1 w k=>by
 unfold fIsX at w
 split at w
 ·obtain ⟨C,rfl,hC,hB,w⟩:=w
  obtain ⟨a,rfl,e⟩:=At.exc R.sub h1
  exact ⟨_,rfl,a,C,B,rfl,e,hC,hB,k _ H F (.fz _) (Sub.refl _) R (Da.bl _) w⟩
 ·exact w.elim
theorem ok_isXV {K:Fg}:OpOk K (fun vs H Q=>∃ x,vs = [x] /\ rIsiEV K [x,.ty "ValueError"] H Q) (o1 (fIsXV K)):=ok1 fun G F σ H ρ x d Q Qd R h1 w k=>by
 unfold fIsXV at w
 split at w
 ·obtain ⟨C,rfl,hC,w⟩:=w
  obtain ⟨a,rfl,e⟩:=At.exc R.sub h1
  exact ⟨_,rfl,a,C,rfl,e,hC,k _ H F (.fz _) (Sub.refl _) R (Da.bl _) w⟩
 ·exact w.elim
theorem ok_isXT {K:Fg} {Bs:List Addr}:OpOk K (fun vs H Q=>∃ x,vs = [x] /\ (Bs.map V.ref).length <= sizeLine /\ ∀ p,H p = none -> rIsiET K [x,.ref p] (upd H p (.tup (Bs.map V.ref))) Q) (o1 fun d Q=>Bs.length <= 1000 /\ fIsXT K Bs d Q):=ok1 fun G F σ H ρ x d Q Qd R h1 w k=>by
 obtain ⟨hl,w⟩:=w
 unfold fIsXT at w
 split at w
 ·obtain ⟨C,rfl,hC,hB,w⟩:=w
  obtain ⟨a,rfl,e⟩:=At.exc R.sub h1
  exact ⟨_,rfl,by rw [List.length_map]; exact le_size hl,fun p hp=>⟨a,C,p,Bs,rfl,by rw [upd_ne (ne_of_none e hp)]; exact e,upd_same,hC,hB,k _ _ F (.fz _) (Sub.refl _) (R.laid hp) (Da.bl _) w⟩⟩
 ·exact w.elim
noncomputable def isN:D -> Bool
 | .none=>true
 | _=>false
noncomputable def fIsN (neg:Bool):D -> D -> (Sl -> Prop) -> Prop
 | x,.none,Q=>Q (.fz (.bool (if neg then !isN x else isN x)))
 | _,_,_=>False
theorem isN_of {K:Fg} {F H:Hp} {v:V} {d:D} (s:Sub F H) (h:At K F H v d):decide (v = .non) = isN d:=by
 cases d with
 | none=>cases h.none; rfl
 | bool b=>cases h.bool; rfl
 | int i=>cases h.int; rfl
 | str x=>cases h.str; rfl
 | list ds=>obtain ⟨a,_,rfl,_⟩:=h.list s; rfl
 | tuple ds=>obtain ⟨a,_,rfl,_⟩:=h.tuple s; rfl
 | dict es=>obtain ⟨a,rfl,_⟩:=h.dict s; rfl
theorem ok_isN {K:Fg}:OpOk K (r2L fun x y H Q=>y = .non /\ Q (.bl (decide (x = .non))) H) (o2 (fIsN false)):=ok2 fun G F σ H ρ x y d e Q Qd R h1 h2 w k=>by
 cases e <;> first | exact w.elim | skip
 cases h2.none
 have w:Qd (.fz (.bool (isN d))):=w
 rw [<- isN_of R.sub h1] at w
 exact ⟨rfl,k _ H F (.fz _) (Sub.refl _) R (Da.bl _) w⟩
structure WC (X:Cx) (es:List Expr) (Bs:List Addr):Prop where
 h:PA X es (fun _ H Q=>Q (Bs.map V.ref) H)
section
variable {X:Cx} {K:Fg} {e1:Expr} {es:List Expr} {a:AD} {as:List AD} {B:Addr} {Bs:List Addr} {y f n b c:Str} {p pos p2 p3 p4 pb pn pc hpos cpos apos py:Pos} {k iE iC:Nat} {ps:List Str} {con:ConX} {t:TDS}
theorem wc_nil:WC X [] []:=⟨pa_nil⟩
theorem wc_cons (hm:X.mg y = some (.ref B)) (h:WC X es Bs) (hg:Gl X y:=by rfl) (hd:(y == ("__debug__":Str)) = false:=by decide):WC X (.Name y p :: es) (B :: Bs) :=
 ⟨pa_cons (pe_glob hg hm (v:=.ref B) rfl hd) h.h (starEach_of rfl)⟩
theorem w_isX (hK:X.K = K) (hm:X.mg "isinstance" = none) (hm2:X.mg y = some (.ref B)) (ha:WE X e1 (argT K a)) (hg:Gl X "isinstance":=by rfl) (hg2:Gl X y:=by rfl) (hd:(y == ("__debug__":Str)) = false:=by decide) (he:notStar e1 = true:=by rfl) :
  WE X (.Call (.Name "isinstance" p) [e1,.Name y p2] [] pos) (lift K (dOp [a] (o1 (fIsX K B)))):=by
 subst hK
 exact ⟨peM (pe_callB call_isiE hg hm boot_isinstance (pa_cons ha.h (pa_cons (pe_glob hg2 hm2 (v:=.ref B) rfl hd) pa_nil (starEach_of rfl)) (starEach_of he)) (by decide) (by decide) (starEach_of he) (plain_of rfl)) fun q=>arg1 (P:=fun x H1=>rIsiE X.K [x,.ref B] H1 _) (l_op ok_isX q)⟩
theorem w_isXV (hK:X.K = K) (hm:X.mg "isinstance" = none) (hm2:X.mg "ValueError" = none) (ha:WE X e1 (argT K a)) (hg:Gl X "isinstance":=by rfl) (hg2:Gl X "ValueError":=by rfl) (he:notStar e1 = true:=by rfl) :
  WE X (.Call (.Name "isinstance" p) [e1,.Name "ValueError" p2] [] pos) (lift K (dOp [a] (o1 (fIsXV K)))):=by
 subst hK
 exact ⟨peM (pe_callB call_isiEV hg hm boot_isinstance (pa_cons ha.h (pa_cons (pe_bltn hg2 hm2 (u:=.type "ValueError") (by decide +kernel) (v:=.ty "ValueError") rfl) pa_nil (starEach_of rfl)) (starEach_of he)) (by decide) (by decide) (starEach_of he) (plain_of rfl)) fun q=>arg1 (P:=fun x H1=>rIsiEV X.K [x,.ty "ValueError"] H1 _) (l_op ok_isXV q)⟩
theorem w_isXT (hK:X.K = K) (hm:X.mg "isinstance" = none) (ht:WC X es Bs) (ha:WE X e1 (argT K a)) (hg:Gl X "isinstance":=by rfl) (he:notStar e1 = true:=by rfl) :
  WE X (.Call (.Name "isinstance" p) [e1,.Tuple es k p2] [] pos) (lift K (dOp [a] (o1 fun d Q=>Bs.length <= 1000 /\ fIsXT K Bs d Q))):=by
 subst hK
 exact ⟨peM (pe_callB call_isiET hg hm boot_isinstance (pa_cons ha.h (pa_cons (pe_tup ht.h) pa_nil (starEach_of rfl)) (starEach_of he)) (by decide) (by decide) (starEach_of he) (plain_of rfl)) fun q=>arg1 (P:=fun x H1=>(Bs.map V.ref).length <= sizeLine /\ ∀ p,H1 p = none -> rIsiET X.K [x,.ref p] (upd H1 p (.tup (Bs.map V.ref))) _) (l_op ok_isXT q)⟩
theorem s_tryX (hK:X.K = K) (T:Tr X b n c pn pc p3 iE iC B) (C:CalX X.prog X.w X.K X.mg X.base k f ps (conSpX K con)) (hr:Room k X.A) (ha:WA X.nox (e1 :: es) (tArgs (as.map (argT K)))) (hg:Gl X f:=by rfl) (hdf:(f == ("__debug__":Str)) = false:=by decide) (he:notStar e1 = true:=by rfl) (hpl:es.all notStar = true:=by rfl)
  (hs:swapsWith (.Call (.Name f p) (e1 :: es) [] cpos) none apos.line X.env = pure false:=by rfl):WS X (.Try [.Expr (.Call (.Name f p) (e1 :: es) [] cpos) apos] [hdl b n c pb pn pc p3 hpos] [] [] pos) (liftS K (dTryR K iE iC B con as)):=by
 subst hK
 exact ⟨fun pins s σ H D I h=>ps_tryX T C hr ha.h hg hdf (starEach_of he) (plain_of hpl) hs pins s σ H D I (l_tryR h)⟩
end
end L3
namespace L2
open PySem PySem.Spec PyProof.Rows
end L2
namespace L3
open PySem PySem.Spec PyProof.Rows L2
section
variable {X:Cx} {K:Fg} {e1:Expr} {a:AD} {p pos p2 p3 p4:Pos}
end
end L3
namespace L2
open PySem PySem.Spec PyProof.Rows
noncomputable def rIndexI:V -> List V -> Hp -> VK -> Prop:=fun x vs H Q=>∃ (a:Addr) (ns:List Int) (n:Int) (j:Nat),x = .ref a /\ vs = [.int n] /\ H a = some (.lst (ns.map V.int)) /\ ns[j]? = some n /\ (∀ i,i < j -> ns[i]? ≠ some n) /\ Q (.int j) H
noncomputable def evI (n:Int):Value -> Bool
 | .int i _=>i == n
 | _=>false
theorem mt_indexI {X:Cx}:MtR X "list.index" rIndexI:=by
 intro pins s σ H x vs v us Q I rx rv h
 obtain ⟨a,ns,m,j,rfl,rfl,hH,hj,hno,q⟩:=h
 cases rx
 obtain ⟨u,rfl,ru⟩:=rv.one
 obtain ⟨t,rfl⟩:=ru
 obtain ⟨z,its,n,r,hlen,e⟩:=I.lstM hH
 have hjl:j < ns.length:=(List.getElem?_eq_some_iff.mp hj).1
 have rl:=r.length
 rw [List.length_map] at rl
 have at':∀ (i:Nat) (hi:i < its.length),∃ t,its[i] = .int (ns.getD i 0) t:=fun i hi=>vals_intsAt r hi
 have gd:∀ i,i < ns.length -> ns[i]? = some (ns.getD i 0):=fun i hi=>by rw [List.getD_eq_getElem?_getD,List.getElem?_eq_getElem hi]; rfl
 rw [List.length_map] at z
 refine call_meets F.slot_list_index ⟨_,e,rfl⟩ F.entry_list_index (F.args_list_index_2 _ _) (SeqAt.list_indexAt a its.toArray n none #[] (.int m t) (evI m) j (by simp; omega) (by rw [sizeLine_eq] at z; omega) ?_ ?_) ⟨e,?_,?_⟩
 ·obtain ⟨t1,h1⟩:=at' j (by omega)
  simp only [List.getElem_toArray]
  rw [h1]
  show (ns.getD j 0 == m) = true
  rw [gd j hjl] at hj
  rw [Option.some.inj hj]
  exact beq_self_eq_true m
 ·intro k hk hkj
  have hk':k < its.length:=by simpa using hk
  obtain ⟨t1,h1⟩:=at' k hk'
  simp only [List.getElem_toArray]
  rw [h1]
  show (ns.getD k 0 == m) = false
  rw [beq_eq_false_iff_ne]
  intro z
  exact hno k hkj (by rw [gd k (by omega),z])
 ·intro y hy
  obtain ⟨i,hi,rfl⟩:=List.getElem_of_mem (show y ∈ its by simpa using hy)
  obtain ⟨t1,h1⟩:=at' i hi
  rw [h1]
  exact SeqAt.EqAt.int_int _ _ _ _
 ·exact ⟨.int j,H,I.tok _,⟨_,rfl⟩,q⟩
end L2
namespace L3
open PySem PySem.Spec PyProof.Rows L2
noncomputable def fIndexI:List D -> List D -> (D -> D -> Prop) -> Prop
 | es,[.int n],k=>∃ (ns:List Int) (j:Nat),es = ns.map PyData.int /\ ns[j]? = some n /\ (∀ i,i < j -> ns[i]? ≠ some n) /\ k (.list es) (.int j)
 | _,_,_=>False
theorem ok_indexI {K:Fg}:MOk K rIndexI fIndexI:=by
 intro F H a xs es vs ds Q k s e d1 d2 w q
 match ds,d2,w with
 | [.int n],.cons h .nil,⟨ns,j,e1,hj,hno,w⟩ =>
  subst e1
  cases h
  have:=d1.ints_of
  subst this
  refine ⟨a,ns,n,j,rfl,rfl,e,hj,hno,?_⟩
  have z:=q (.int j) (.lst _) (.list (ns.map PyData.int)) (.int j) (show Own1 K F (.lst _) (.list _) from d1) (.int _) w
  rw [upd_self e] at z
  exact z
end L3
namespace L2
open PySem
noncomputable def Ris (xs:Array Nat):Prop:=∀ a b,a < b -> b < xs.size -> ∀ d,xs.getD a d < xs.getD b d
theorem getD_of {xs:Array Nat} {i d d':Nat} (h:i < xs.size):xs.getD i d = xs.getD i d':=by
 simp [Array.getD,h]
theorem go_spec (xs:Array Nat) (j:Nat) (R:Ris xs):∀ (fuel lo hi:Nat),hi - lo <= fuel -> lo <= hi -> hi <= xs.size -> (∀ i,i < lo -> xs.getD i j < j) -> (∀ i,hi <= i -> i < xs.size -> ¬ xs.getD i j < j) ->
  SetTable.below.go xs j fuel lo hi <= xs.size /\ (∀ i,i < SetTable.below.go xs j fuel lo hi -> xs.getD i j < j) /\ ∀ i,SetTable.below.go xs j fuel lo hi <= i -> i < xs.size -> ¬ xs.getD i j < j
 | 0,lo,hi,hf,hl,hh,h1,h2=>by
  have:lo = hi:=by omega
  subst this
  exact ⟨hh,h1,h2⟩
 | fuel + 1,lo,hi,hf,hl,hh,h1,h2=>by
  unfold SetTable.below.go
  by_cases hlt:lo < hi
  ·rw [if_pos hlt]
   dsimp only
   by_cases hm:xs.getD ((lo + hi) / 2) j < j
   ·rw [if_pos hm]
    refine go_spec xs j R fuel _ hi (by omega) (by omega) hh (fun i hi'=>?_) h2
    by_cases e:i = (lo + hi) / 2
    ·rw [e]; exact hm
    ·have:=R i ((lo + hi) / 2) (by omega) (by omega) j
     omega
   ·rw [if_neg hm]
    refine go_spec xs j R fuel lo _ (by omega) (by omega) (by omega) h1 (fun i hi' hs=>?_)
    by_cases e:i = (lo + hi) / 2
    ·rw [e]; exact hm
    ·have:=R ((lo + hi) / 2) i (by omega) hs j
     omega
  ·rw [if_neg hlt]
   have:lo = hi:=by omega
   subst this
   exact ⟨hh,h1,h2⟩
theorem below_spec {xs:Array Nat} (R:Ris xs) (j:Nat):SetTable.below xs j <= xs.size /\ (∀ i,i < SetTable.below xs j -> xs.getD i j < j) /\ ∀ i,SetTable.below xs j <= i -> i < xs.size -> ¬ xs.getD i j < j :=
 go_spec xs j R xs.size 0 xs.size (by omega) (Nat.zero_le _) (Nat.le_refl _) (fun i h=>absurd h (Nat.not_lt_zero _)) (fun i h1 h2=>absurd h2 (by omega))
theorem below_next {xs:Array Nat} (R:Ris xs) {i:Nat} (h:i < xs.size):SetTable.below xs (xs.getD i 0 + 1) = i + 1:=by
 obtain ⟨h1,h2,h3⟩:=below_spec R (xs.getD i 0 + 1)
 have a1:¬ SetTable.below xs (xs.getD i 0 + 1) <= i:=fun z=>by
  have:=h3 i z h
  rw [getD_of (d':=0) h] at this
  omega
 by_cases z:i + 1 < SetTable.below xs (xs.getD i 0 + 1)
 ·have b1:=h2 (i + 1) z
  have b2:=R i (i + 1) (by omega) (by omega) 0
  rw [getD_of (d':=0) (by omega)] at b1
  omega
 ·omega
theorem below_zero {xs:Array Nat} (R:Ris xs):SetTable.below xs 0 = 0:=by
 obtain ⟨h1,h2,h3⟩:=below_spec R 0
 by_cases z:0 < SetTable.below xs 0
 ·exact absurd (h2 0 z) (Nat.not_lt_zero _)
 ·omega
theorem ris_iff {xs:Array Nat}:Ris xs ↔ xs.toList.Pairwise (· < ·):=by
 rw [List.pairwise_iff_getElem]
 constructor
 ·intro R i j hi hj hij
  have:=R i j hij (by simpa using hj) 0
  simpa [Array.getD,show i < xs.size by simpa using hi,show j < xs.size by simpa using hj] using this
 ·intro P a b hab hb d
  have ha:a < xs.size:=by omega
  have:=P a b (by simpa using ha) (by simpa using hb) hab
  simpa [Array.getD,ha,hb] using this
end L2
namespace L2
open PySem
theorem ris_insert {xs:Array Nat} (R:Ris xs) {j:Nat} (hj:xs[SetTable.below xs j]? ≠ some j):Ris (SetTable.insertAt xs (SetTable.below xs j) j):=by
 obtain ⟨h1,h2,h3⟩:=below_spec R j
 have P:=ris_iff.mp R
 rw [ris_iff,SetTable.toList_insertAt]
 have e:xs.toList.take (SetTable.below xs j) ++ xs.toList.drop (SetTable.below xs j) = xs.toList:=List.take_append_drop _ _
 rw [<- e,List.pairwise_append] at P
 obtain ⟨p1,p2,p3⟩:=P
 have lo:∀ a ∈ xs.toList.take (SetTable.below xs j),a < j:=fun a ha=>by
  obtain ⟨i,hi,rfl⟩:=List.mem_iff_getElem.mp ha
  rw [List.length_take] at hi
  have:=h2 i (by omega)
  rw [List.getElem_take]
  simpa [Array.getD,show i < xs.size by simp at hi; omega] using this
 have hi':∀ a ∈ xs.toList.drop (SetTable.below xs j),j < a:=fun a ha=>by
  obtain ⟨i,hi,rfl⟩:=List.mem_iff_getElem.mp ha
  rw [List.length_drop] at hi
  have hs:SetTable.below xs j + i < xs.size:=by simp at hi; omega
  have:=h3 (SetTable.below xs j + i) (by omega) hs
  rw [List.getElem_drop]
  have g:xs.getD (SetTable.below xs j + i) j = xs.toList[SetTable.below xs j + i]'(by simpa using hs):=by simp [Array.getD,hs]
  rw [g] at this
  by_cases z:xs.toList[SetTable.below xs j + i]'(by simpa using hs) = j
  ·exfalso
   by_cases i0:i = 0
   ·subst i0
    apply hj
    rw [Array.getElem?_eq_getElem (by simpa using hs)]
    simpa using z
   ·have r:=R (SetTable.below xs j) (SetTable.below xs j + i) (by omega) hs j
    have:=h3 (SetTable.below xs j) (Nat.le_refl _) (by omega)
    rw [g,z] at r
    exact this r
  ·omega
 rw [List.pairwise_append]
 refine ⟨p1,List.pairwise_cons.mpr ⟨hi',p2⟩,fun a ha b hb=>?_⟩
 rcases List.mem_cons.mp hb with rfl | hb
 ·exact lo a ha
 ·exact p3 a ha b hb
noncomputable def NL (t:SetTable) (j:Nat):Prop:=t.place[SetTable.below t.place j]? ≠ some j
theorem slot_nl {t:SetTable} {j:Nat} (h:∀ i,t.slot j ≠ .live i):NL t j:=fun z=>by
 unfold SetTable.slot at h
 dsimp only at h
 rw [if_pos (by rw [z]; simp)] at h
 exact h _ rfl
theorem advance_dummy (t:SetTable) (p:SetTable.Probe):(t.advance p).dummy = p.dummy:=by
 unfold SetTable.advance
 split <;> rfl
theorem probe_go (t:SetTable) (ha:Nat -> Int) (h:Int):∀ (fuel:Nat) (p:SetTable.Probe),(∀ d,p.dummy = some d -> NL t d) -> ∀ j dm,SetTable.probe.go t ha h fuel p = some (.empty j dm) -> NL t j /\ ∀ d,dm = some d -> NL t d
 | 0,p,_,j,dm,e=>by cases e
 | fuel + 1,p,hp,j,dm,e=>by
  unfold SetTable.probe.go at e
  cases hs:t.slot p.j with
  | empty =>
   rw [hs] at e
   cases e
   exact ⟨slot_nl (fun i z=>by rw [hs] at z; cases z),hp⟩
  | dummy =>
   rw [hs] at e
   refine probe_go t ha h fuel _ (fun d hd=>?_) j dm e
   rw [advance_dummy] at hd
   cases hd
   exact slot_nl fun i z=>by rw [hs] at z; cases z
  | live i =>
   rw [hs] at e
   dsimp only at e
   split at e
   ·cases e
   ·exact probe_go t ha h fuel _ (fun d hd=>by rw [advance_dummy] at hd; exact hp d hd) j dm e
theorem free_nl {t:SetTable} {h:Int} {j:Nat} {wd:Bool} (e:t.freeSlot h = some (j,wd)):NL t j:=by
 unfold SetTable.freeSlot at e
 split at e
 ·rename_i j' dm hp
  have:=probe_go t _ h _ _ (fun d hd=>by cases hd) j' dm hp
  cases e
  cases dm with
  | none=>exact this.1
  | some d=>exact this.2 d rfl
 ·cases e
theorem standIn_ris (t:SetTable) (n:Nat):Ris (t.standIn n).place:=by
 show Ris (Array.range n)
 rw [ris_iff,Array.toList_range]
 exact List.pairwise_lt_range
theorem orStandIn_ris {t:SetTable} {n:Nat} (R:Ris t.place):Ris (t.orStandIn n).place:=by
 unfold SetTable.orStandIn
 split
 ·exact R
 ·exact standIn_ris t n
theorem layNew_ris {t:SetTable} {es:Array (Int × Value)} {h:Int} {x:Value} (R:Ris t.place):Ris (layNew t es h x).2.1.place:=by
 unfold layNew
 cases e:t.freeSlot h with
 | none=>exact standIn_ris t _
 | some p =>
  obtain ⟨j,wd⟩:=p
  exact orStandIn_ris (ris_insert R (free_nl e))
theorem laid_ris {mask finger moves:Nat} {led plain:Bool} {hs:Array Int} {t:SetTable} {o:Array Nat} (e:SetTable.laid mask finger moves led plain hs = some (t,o)):Ris t.place:=by
 unfold SetTable.laid at e
 cases ho:SetTable.layClean mask hs with
 | none=>rw [ho] at e; cases e
 | some owner =>
  rw [ho] at e
  cases e
  rw [ris_iff]
  dsimp only
  have gen:∀ (g:Nat -> Option Nat) (l:List Nat),(l.filterMap fun j=>(g j).map (j,·)).map (·.1) = l.filter fun j=>(g j).isSome:=by
   intro g l
   induction l with
   | nil=>rfl
   | cons a l ih =>
    cases hg:g a with
    | none=>simp [hg,ih]
    | some b=>simp [hg,ih]
  rw [gen]
  exact List.Pairwise.sublist List.filter_sublist List.pairwise_lt_range
theorem relayAll_ris {t:SetTable} {es:Array (Int × Value)} {wanted:Nat}:Ris (relayAll t es wanted).2.1.place:=by
 unfold relayAll
 cases e:t.relaid (es.map (·.1)) wanted with
 | none=>exact standIn_ris t _
 | some p =>
  obtain ⟨t',o⟩:=p
  dsimp only
  split
  ·exact laid_ris e
  ·exact standIn_ris t _
theorem layNew_led (t:SetTable) (es:Array (Int × Value)) (h:Int) (x:Value):(layNew t es h x).2.1.led = t.led:=by
 unfold layNew
 cases e:t.freeSlot h with
 | none=>rfl
 | some p =>
  obtain ⟨j,wd⟩:=p
  show (SetTable.orStandIn _ _).led = t.led
  unfold SetTable.orStandIn
  split <;> rfl
theorem relayAll_led (t:SetTable) (es:Array (Int × Value)) (wanted:Nat):(relayAll t es wanted).2.1.led = t.led:=by
 unfold relayAll
 cases e:t.relaid (es.map (·.1)) wanted with
 | none=>rfl
 | some p =>
  obtain ⟨t',o⟩:=p
  dsimp only
  split
  ·show t'.led = t.led
   unfold SetTable.relaid SetTable.laid at e
   cases ho:SetTable.layClean (SetTable.sizeAbove wanted - 1) (es.map (·.1)) with
   | none=>rw [ho] at e; cases e
   | some owner=>rw [ho] at e; cases e; rfl
  ·rfl
end L2
namespace L2
open PySem PySem.Spec PyProof.Rows
noncomputable def valI:Value -> Int
 | .int n _=>n
 | _=>0
noncomputable def IS (P:Program) (w:World) (ld:Bool) (h:Heap) (a:Addr) (σ:List Int):Prop :=
 ∃ o es ep t,h.get? a = some o /\ o.ExactSet /\ o.data = .set es ep t /\ ElemsOf (intKind P w) es.toList /\ (es.toList.map fun e=>valI e.2).Perm σ /\ es.size < scanBound /\ t.fits es.size = true /\ Ris t.place /\ t.led = ld
section
variable {P:Program} {w:World} {A:Around} {E:Value -> Shared -> Prop} {s:Shared} {a:Addr} {σ:List Int} {ld:Bool}
theorem elem_int {l:List (Int × Value)} (h:ElemsOf (intKind P w) l) {e:Int × Value} (he:e ∈ l):∃ tk,e.2 = .int (valI e.2) tk:=by
 obtain ⟨⟨k,hk,_⟩,_⟩:=h e he
 obtain ⟨tk,z⟩:=Value.isInt_shape hk
 rw [z]
 exact ⟨tk,rfl⟩
theorem find_none {l:List (Int × Value)} {k:Int} (hl:ElemsOf (intKind P w) l) (hp:(l.map fun e=>valI e.2).Perm σ) (hf:l.findIdx? (fun e=>(intKind P w).is k e.2) = none):σ.any (· == k) = false:=by
 rw [Bool.eq_false_iff]
 intro z
 obtain ⟨m,hm,hk⟩:=List.any_eq_true.mp z
 obtain rfl:m = k:=by simpa using hk
 obtain ⟨e,he,rfl⟩:=List.mem_map.mp (hp.mem_iff.mpr hm)
 have:=List.findIdx?_eq_none_iff.mp hf e he
 obtain ⟨tk,q⟩:=elem_int hl he
 rw [q] at this
 rw [show valI (Value.int (valI e.2) tk) = valI e.2 from rfl,intKind_is] at this
 cases this
theorem find_some {l:List (Int × Value)} {k:Int} {j:Nat} (hp:(l.map fun e=>valI e.2).Perm σ) (hf:l.findIdx? (fun e=>(intKind P w).is k e.2) = some j):σ.any (· == k) = true:=by
 obtain ⟨hj,hk,_⟩:=List.findIdx?_eq_some_iff_getElem.mp hf
 obtain ⟨tk,q⟩:=Value.isInt_shape hk
 refine List.any_eq_true.mpr ⟨k,hp.mem_iff.mp (List.mem_map.mpr ⟨_,List.getElem_mem hj,?_⟩),by simp⟩
 rw [q]; rfl
theorem is_store {h:Heap} {o:Obj} {es:Array (Int × Value)} {ep:Nat} {t:SetTable} (q1:h.get? a = some o) (q2:o.ExactSet) (q3:o.data = .set es ep t) {fs:Array (Int × Value)} {u:SetTable} {τ:List Int}
  (r1:ElemsOf (intKind P w) fs.toList) (r2:(fs.toList.map fun e=>valI e.2).Perm τ) (r3:fs.size < scanBound) (r4:u.fits fs.size = true) (r5:Ris u.place) (r6:u.led = ld) :
  (h.update a (Obj.putSet fs u)).get? a = some { o with data:=.set fs (ep + 1) u } /\ IS P w ld (h.update a (Obj.putSet fs u)) a τ:=by
 have g:=(SetOf_store (knd:=intKind P w) (S':=fun k=>decide (∃ e ∈ fs.toList,(intKind P w).is k e.2 = true)) q1 q2 q3 r1 (fun k=>by rw [decide_eq_true_eq]) r3 r4).1
 exact ⟨g,_,fs,ep + 1,u,g,q2,rfl,r1,r2,r3,r4,r5,r6⟩
end
end L2
namespace L2
open PySem PySem.Spec PyProof.Rows
section
variable {P:Program} {w:World} {A:Around} {E:Value -> Shared -> Prop} {s:Shared} {a:Addr} {σ:List Int} {ld:Bool}
theorem gave_way (b:Bool) {s₁:Shared} {R:Unit -> Shared -> Prop} (r:R () s₁):wpAny (model P w) A (match b with | true=>rule "set.scan.the-table-gave-way" | false=>pure ()) R E s₁:=by
 cases b
 ·exact wpAny_pure r
 ·exact wpAny_rule r
theorem tail_is {g:Bool -> Sem Unit} (hg:∀ (b:Bool) (s₁:Shared) (R:Unit -> Shared -> Prop),R () s₁ -> wpAny (model P w) A (g b) R E s₁) {o:Obj} {es:Array (Int × Value)} {ep:Nat} {t:SetTable}
  (q1:s.heap.get? a = some o) (q2:o.ExactSet) (q3:o.data = .set es ep t) {fs:Array (Int × Value)} {u:SetTable} {τ:List Int} (r1:ElemsOf (intKind P w) fs.toList) (r2:(fs.toList.map fun e=>valI e.2).Perm τ)
  (r3:fs.size < scanBound) (r4:u.fits fs.size = true) (r5:Ris u.place) (r6:u.led = ld) {wd:Bool} {R:Option Bool -> Shared -> Prop} (k:∀ h',Heap.SameBut a s.heap h' -> IS P w ld h' a τ -> R (some true) { s with heap:=h' }) :
  wpAny (model P w) A (do
    storeSet a fs u
    if (!wd && u.tooFull) = true then do
      g (relayAll u fs (SetTable.grown fs.size)).2.2
      storeSet a (relayAll u fs (SetTable.grown fs.size)).1 (relayAll u fs (SetTable.grown fs.size)).2.1
      pure (some true)
    else pure (some true)) R E s:=by
 obtain ⟨g1,g2⟩:=is_store q1 q2 q3 r1 r2 r3 r4 r5 r6
 have sb:=Heap.SameBut.update s.heap a (Obj.putSet fs u)
 refine wpAny_bind (wpAny_storeSet_of q1 q3 ?_ (fits_of_scanBound r3))
 by_cases hb:(!wd && u.tooFull) = true
 ·rw [if_pos hb]
  have pm:=relayAll_perm u fs (SetTable.grown fs.size)
  have ft:=relayAll_fits u fs (SetTable.grown fs.size)
  have rs:=relayAll_ris (t:=u) (es:=fs) (wanted:=SetTable.grown fs.size)
  have lr:=relayAll_led u fs (SetTable.grown fs.size)
  revert pm ft rs lr
  generalize relayAll u fs (SetTable.grown fs.size) = L
  intro pm ft rs lr
  have sz:L.1.size = fs.size:=by have:=pm.length_eq; simpa using this
  refine wpAny_bind (hg _ _ _ ?_)
  refine wpAny_bind (wpAny_storeSet_of g1 rfl ?_ (fits_of_scanBound (by rw [sz]; exact r3)))
  obtain ⟨_,z⟩:=is_store (P:=P) (w:=w) g1 q2 rfl (r1.perm pm) ((pm.map _).trans r2) (by rw [sz]; exact r3) ft rs (lr.trans r6)
  exact wpAny_pure (k _ (sb.trans (Heap.SameBut.update _ a _)) z)
 ·rw [if_neg hb]
  exact wpAny_pure (k _ sb g2)
theorem add_is {k:Int} {tk:Tok} {Q:Bool -> Shared -> Prop} (hS:IS P w ld s.heap a σ) (hroom:σ.length + 1 < scanBound) (hQ:∀ h' b,Heap.SameBut a s.heap h' -> IS P w ld h' a (step_dedup σ k) -> Q b { s with heap:=h' }) :
  wpAny (model P w) A (setAddHashed a (.int k tk) ((intKind P w).hash k)) Q E s:=by
 have hS0:=hS
 obtain ⟨o,es,ep,t,q1,q2,q3,q4,q5,q6,q7,q8,q9⟩:=hS
 have hsz:es.size = σ.length:=by have:=q5.length_eq; simpa using this
 unfold setAddHashed setAddHashedIn
 refine wpAny_holding (wpAny_bind (wpAny_setState_of q1 q3 q7 ?_))
 dsimp only
 rw [byScan_of (knd:=intKind P w) (x:=.int k tk) rfl q6 q4]
 simp only [↓reduceIte]
 unfold setAddByScan
 refine wpAny_bind (wpAny_bind (wpAny_rule ?_))
 refine wpAny_bind (wpAny_setScan_of (knd:=intKind P w) (intKind_is P w k tk) q1 q3 q7 q4 ?_)
 cases hr:es.toList.findIdx? (fun e=>(intKind P w).is k e.2) with
 | some j =>
  dsimp only
  refine wpAny_pure (wpAny_pure ?_)
  have e:step_dedup σ k = σ:=by unfold step_dedup; rw [if_pos (find_some q5 hr)]
  have z:=hQ s.heap false (Heap.SameBut.refl a s.heap) (by rw [e]; exact hS0)
  cases s
  exact z
 | none =>
  dsimp only
  have e:step_dedup σ k = σ ++ [k]:=by unfold step_dedup; rw [find_none q4 q5 hr]; rfl
  rw [e] at hQ
  have pm:=layNew_perm t es ((intKind P w).hash k) (.int k tk)
  have ft:=layNew_fits t es ((intKind P w).hash k) (.int k tk)
  have rs:=layNew_ris (es:=es) (h:=(intKind P w).hash k) (x:=.int k tk) q8
  have lr:=(layNew_led t es ((intKind P w).hash k) (.int k tk)).trans q9
  revert pm ft rs lr
  generalize layNew t es ((intKind P w).hash k) (.int k tk) = L
  intro pm ft rs lr
  obtain ⟨fs,u,wd,gv⟩:=L
  dsimp only at pm ft rs lr ⊢
  rw [Array.toList_push] at pm
  have r1:ElemsOf (intKind P w) fs.toList:=(q4.push (intKind_is P w k tk) rfl).perm pm
  have r2:(fs.toList.map fun e=>valI e.2).Perm (σ ++ [k]):=(pm.map _).trans (by rw [List.map_append]; exact q5.append_right _)
  have r3:fs.size < scanBound:=by have:=r2.length_eq; simp at this; omega
  refine wpAny_bind (gave_way _ ?_)
  by_cases hp:u.plain = true
  ·rw [if_pos hp,hashByValue_scannable 8 rfl]
   refine wpAny_bind (wpAny_pure ?_)
   refine tail_is (fun b s₁ R r=>gave_way b r) q1 q2 q3 r1 r2 r3 ?_ ?_ ?_ fun h' sb z=>wpAny_pure (hQ h' _ sb z)
   ·split
    ·exact ft
    ·exact SetTable.fits_plain_off ft
   ·split
    ·exact rs
    ·exact rs
   ·split
    ·exact lr
    ·exact lr
  ·rw [if_neg hp]
   refine wpAny_bind (wpAny_pure ?_)
   simp only [↓reduceIte]
   exact tail_is (fun b s₁ R r=>gave_way b r) q1 q2 q3 r1 r2 r3 ft rs lr fun h' sb z=>wpAny_pure (hQ h' _ sb z)
end
end L2
namespace L2
open PySem PySem.Spec PyProof.Rows
theorem IS.keeps {P:Program} {w:World} {ld:Bool} {h h':Heap} {a:Addr} {σ:List Int} (x:IS P w ld h a σ) (k:∀ o,h.get? a = some o -> h'.get? a = some o):IS P w ld h' a σ:=by
 obtain ⟨o,es,ep,t,q1,r⟩:=x
 exact ⟨o,es,ep,t,k o q1,r⟩
section
variable {P:Program} {w:World} {A:Around} {R:Result -> Shared -> Prop} {I:Addr} {fp wr:List Addr} {G:Array GenState -> Array GenState -> Prop} {n:Nat} {Pv:Nat -> Value -> Prop} {St:Nat -> Shared -> Prop} {ld:Bool}
theorem loop_is (W:WalksS P w A.in1 I fp wr G n Pv St) {S:Addr} (nS:S ∉ fp) {val:Nat -> Int} (hv:∀ i v,Pv i v -> ∃ tk,v = .int (val i) tk) (hb:n + 1 < scanBound) :
  ∀ (m i:Nat) (s:Shared),i + m = n -> St i s -> IS P w ld s.heap S (firstMet val i) -> (∀ s',Moved (S :: wr) G s s' -> IS P w ld s'.heap S (firstMet val n) -> R (.ok (.ret .none)) s') ->
   codeAny (model P w) A (.builtin "set.update.loop" ⟨[.ref S,.ref I],[]⟩) R s:=by
 have nw:S ∉ wr:=fun z=>nS (W.sub _ z)
 have up:∀ b ∈ wr,b ∈ S :: wr:=fun b z=>List.mem_cons_of_mem _ z
 intro m
 induction m with
 | zero =>
  intro i s e st x k
  obtain rfl:i = n:=by omega
  refine codeAny_builtin F.entry_set_update_loop ?_; rw [Around.under_plainId F.plain_set_update_loop _]; show wpAny _ A.in1 (pyNext (.ref I) >>= _) _ _ s
  refine wpAny_bind (W.done s _ _ st fun s' mv=>?_)
  show wpAny _ A.in1 (ret Value.none) _ _ s'
  exact wpAny_pure (k s' (mv.mono up) (x.keeps fun o q=>mv.heap S o nw q))
 | succ m ih =>
  intro i s e st x k
  refine codeAny_builtin F.entry_set_update_loop ?_; rw [Around.under_plainId F.plain_set_update_loop _]; show wpAny _ A.in1 (pyNext (.ref I) >>= _) _ _ s
  refine wpAny_bind (W.item i s _ _ (by omega) st fun v s1 hp st1 mv=>?_)
  obtain ⟨tk,rfl⟩:=hv i v hp
  have x1:IS P w ld s1.heap S (firstMet val i):=x.keeps fun o q=>mv.heap S o nw q
  show wpAny _ A.in1 (holding [Value.int (val i) tk] (setAdd S (.int (val i) tk)) >>= _) _ _ s1
  refine wpAny_bind (wpAny_holding ?_)
  unfold setAdd
  refine wpAny_holding (wpAny_bind ((intKind P w).pyHash (k:=val i) (intKind_is _ _ _ _) ?_))
  have rm:(firstMet val i).length + 1 < scanBound:=by have:=firstMet_length_le val i; omega
  refine add_is (s:={ s1 with toks:=s1.toks + 1 }) x1 rm fun h' b sb x2=>?_
  rw [<- firstMet_succ] at x2
  have oth:∀ b o,b ≠ S -> s1.heap.get? b = some o -> h'.get? b = some o:=fun b o nb q=>(sb.2 b nb).trans q
  refine wpAny_pure ⟨plainId_quiet F.plain_set_update_loop _,ih (i + 1) _ (by omega) (W.frame _ s1 h' _ st1 (Nat.le_succ _) fun b z o q=>oth b o (fun y=>nS (y ▸ z)) q) x2 fun s2 mv2 x3=>?_⟩
  exact k s2 (((mv.mono up).then_heap (Nat.le_succ _) fun b o nb q=>oth b o (fun y=>nb (y ▸ List.mem_cons_self)) q).trans W.gtrans mv2) x3
end
end L2
namespace L2
open PySem PySem.Spec PyProof.Rows
noncomputable abbrev set0 (led:Bool):Obj:={ cls:=.type "set",dict:=none,data:=.set #[] 0 (.fresh 0 0 led) }
theorem is_new {P:Program} {w:World} {h:Heap} {a:Addr} {led:Bool} (e:h.get? a = some (set0 led)):IS P w led h a [] :=
 ⟨_,#[],0,_,e,⟨rfl,rfl,rfl⟩,rfl,(fun x z=>by simp at z),List.Perm.refl _,by decide,rfl,fun a b _ z=>absurd z (Nat.not_lt_zero _),rfl⟩
section
variable {P:Program} {w:World} {A:Around} {E:Value -> Shared -> Prop} {s:Shared}
theorem init_is {led:Bool} {l:Addr} {items:Array Value} {ns:List Int} {Q:Value -> Shared -> Prop} (hh:A.handled = none) (hl:s.heap.IsList l items) (hi:IntsAre items.toList ns) (hb:items.size + 1 < scanBound)
  (k:∀ h' tk,IS P w led h' s.heap.objs.size (firstMet (fun i=>ns.getD i 0) items.size) -> (∀ b o,b < s.heap.objs.size -> s.heap.get? b = some o -> h'.get? b = some o) -> Q .none { s with heap:=h',toks:=tk }) :
  codeAny (model P w) A (.call (.builtin "set.__init__") ⟨[.ref s.heap.objs.size,.ref l],[]⟩) (wants Q E) { s with heap:=s.heap.push (set0 led) }:=by
 have e0:(s.heap.push (set0 led)).get? s.heap.objs.size = some (set0 led):=Heap.get?_push_size _ rfl
 refine codeAny_call_builtin F.called_set.init.plain F.entry_set_init (check_set_init_1 ⟨_,e0,rfl⟩ ?_)
 have hl1:(s.heap.push (set0 led)).IsList l items:=hl.push _
 have hlS:l < s.heap.objs.size:=by obtain ⟨ol,q,_⟩:=hl; exact Heap.lt_size q
 have z1:=F.sub_list_set
 have z2:=F.sub_list_frozenset
 have z3:(Value.type "list" == Value.type "dict") = false:=by decide
 have hl2:=hl1
 obtain ⟨⟨oc,odc,odt,osl⟩,q1,q2,nl,q3⟩:=hl2
 obtain rfl:oc = .type "list":=q2
 obtain rfl:odt = .seq items nl:=q3
 unfold Builtin.«set.__init__» noKeywords Builtin.Frozenset.updateFrom
 generalize hPI:pyIter = PI
 wp_walk
 subst hPI
 refine wpAny_pyIter_list hl1 ?_
 refine wpAny_bind (wpAny_runValue ?_)
 have sz:(s.heap.push (set0 led)).objs.size = s.heap.objs.size + 1:=Heap.size_push ..
 have n1:l ≠ (s.heap.push (set0 led)).objs.size:=Nat.ne_of_lt (by rw [sz]; exact Nat.lt_succ_of_lt hlS)
 have n2:s.heap.objs.size ∉ [(s.heap.push (set0 led)).objs.size,l]:=by
  rw [sz]
  simp only [List.mem_cons,List.not_mem_nil,or_false,not_or]
  exact ⟨Nat.ne_of_lt (Nat.lt_succ_self _),Nat.ne_of_gt hlS⟩
 have vi:∀ (i:Nat) (v:Value),items[i]? = some v -> ∃ tk,v = .int ((fun i=>ns.getD i 0) i) tk:=fun i v hv=>IntsAre.int_at hi i v (by rw [Array.getElem?_toList]; exact hv)
 refine loop_is (ld:=led) ((Walks.list (by simp [hh]) _ l n1 items).toS) n2 vi hb items.size 0 _ (Nat.zero_add _) ⟨⟨_,Heap.get?_push_size _ rfl,rfl,rfl⟩,hl1.push _⟩ ?x ?y
 case x =>
  rw [firstMet_zero]
  exact is_new (Heap.get?_push_of_some _ e0)
 case y =>
  intro s' mv x
  obtain ⟨h',g',d',tk',os'⟩:=s'
  obtain rfl:g' = s.gens:=mv.gens
  obtain rfl:d' = s.drawn:=mv.drawn
  obtain rfl:os' = s.os:=mv.os
  show wpAny _ _ _ _ _ _
  refine wpAny_pure ?_
  show wpAny _ _ (ret Value.none) _ _ _
  refine wpAny_pure (k h' tk' x fun b o lb q=>mv.heap b o ?_ (Heap.get?_push_of_some _ (Heap.get?_push_of_some _ q)))
  rw [sz]
  simp only [List.mem_cons,List.not_mem_nil,or_false,not_or]
  exact ⟨Nat.ne_of_lt lb,Nat.ne_of_lt (Nat.lt_succ_of_lt lb)⟩
theorem new_is (a:Value) {Q:Value -> Shared -> Prop} (k:Q (.ref s.heap.objs.size) { s with heap:=s.heap.push (set0 (!w.params.followText "set-order")) }) :
  codeAny (model P w) A (.call (.builtin "set.__new__") ⟨[.type "set",a],[]⟩) (wants Q E) s:=by
 refine codeAny_of_tree ?_
 show wpAny _ A.in1 (do checkBuiltinCall "set.__new__" ⟨[.type "set",a],[]⟩; again (.builtin "set.__new__" ⟨[.type "set",a],[]⟩)) _ _ s
 refine wpAny_bind (wpAny_of_eq (F.newCall_set_1 a) (wpAny_pure ⟨plainId_quiet F.plain_set_new _,codeAny_builtin F.entry_set_new ?_⟩)); rw [Around.under_plainId F.plain_set_new _]
 unfold Builtin.«set.__new__» Builtin.Frozenset.newClass
 have y:=sub_set_self
 cases s
 dsimp only
 wp_walk
 refine wpAny_askSetting (wpAny_pure ?_)
 dsimp only
 simp only [newObj]
 exact wpAny_bind (wpAny_alloc (wpAny_pure (wpAny_pure k)))
theorem call_set_is {l:Addr} {items:Array Value} {ns:List Int} {Q:Value -> Shared -> Prop} (hh:A.handled = none) (hl:s.heap.IsList l items) (hi:IntsAre items.toList ns) (hb:items.size + 1 < scanBound)
  (k:∀ h' tk,IS P w (!w.params.followText "set-order") h' s.heap.objs.size (firstMet (fun i=>ns.getD i 0) items.size) -> (∀ b o,b < s.heap.objs.size -> s.heap.get? b = some o -> h'.get? b = some o) -> Q (.ref s.heap.objs.size) { s with heap:=h',toks:=tk }) :
  wpAny (model P w) A (call (.type "set") [.ref l]) Q E s:=by
 obtain ⟨c,tl,y1⟩:=F.called_set.mro
 have y2:=F.called_set.made
 have y3:=F.called_set.sub
 have y4:=F.called_set.notType
 have y5:=F.called_set.canCreate
 have y6:=F.typeCall_set_1 (.ref l)
 refine wpAny_call (codeAny_of_tree ?_)
 show wpAny _ _ (callAny (.type "set") _) _ _ _
 refine wpAny_pure ⟨Code.quiet_builtin _ (by decide +kernel),codeAny_builtin F.entry_type_call ?_⟩
 rw [Around.under_plain (weight_type_call_type "set" [.ref l] []) rfl]
 repeat (any_goals (first | assumption | wp_step))
 refine codeAny_mono (new_is (.ref l) (E:=E) (Q:=fun v s1=>v = .ref s.heap.objs.size /\ s1 = { s with heap:=s.heap.push (set0 (!w.params.followText "set-order")) }) ⟨rfl,rfl⟩) fun r s1 hr=>?_
 match r,hr with
 | .error e,hr=>exact hr
 | .ok (.ret v),⟨e1,e2⟩ =>
  subst e1
  subst e2
  generalize hld:(!w.params.followText "set-order") = led at *
  have e0:(s.heap.push (set0 led)).get? s.heap.objs.size = some (set0 led):=Heap.get?_push_size _ rfl
  have T:Shared.TypeIs { s with heap:=s.heap.push (set0 led) } (.ref s.heap.objs.size) "set":=⟨_,e0,rfl⟩
  have i1:=F.called_set.init.lookup
  have i2:=F.called_set.init.bind (.ref s.heap.objs.size)
  repeat (any_goals (first | assumption | wp_step))
  refine codeAny_mono (init_is (s:=s) (led:=led) (E:=E) (Q:=fun v s2=>v = .none /\ ∃ h' tk,s2 = { s with heap:=h',toks:=tk } /\ IS P w led h' s.heap.objs.size (firstMet (fun i=>ns.getD i 0) items.size) /\ ∀ b o,b < s.heap.objs.size -> s.heap.get? b = some o -> h'.get? b = some o)
    (by simp [hh]) hl hi hb fun h' tk x kp=>⟨rfl,h',tk,rfl,x,kp⟩) fun r2 s2 hr2=>?_
  match r2,hr2 with
  | .error e,hr2=>exact hr2
  | .ok (.ret v),⟨e3,h',tk,e4,x,kp⟩ =>
   subst e3
   subst e4
   repeat (any_goals (first | assumption | wp_step))
   exact k _ _ x kp
  | .ok .next,hr2=>exact hr2.elim
  | .ok .brk,hr2=>exact hr2.elim
  | .ok .cont,hr2=>exact hr2.elim
 | .ok .next,hr=>exact hr.elim
 | .ok .brk,hr=>exact hr.elim
 | .ok .cont,hr=>exact hr.elim
end
end L2
namespace L2
open PySem PySem.Spec PyProof.Rows
theorem erase_perm {α:Type}:∀ (l:List α) (i:Nat) (h:i < l.length),(l[i] :: l.eraseIdx i).Perm l
 | a :: l,0,h=>List.Perm.refl _
 | a :: l,i + 1,h=>by
  rw [List.eraseIdx_cons_succ,List.getElem_cons_succ]
  exact (List.Perm.swap a _ _).trans ((erase_perm l i (by simpa using h)).cons a)
theorem pick_go {α:Type} (next:Nat -> Nat):∀ (fuel k:Nat) (left:List α) (out:Array α),left.length = fuel -> (pickOrder.go next fuel k left out).toList.Perm (out.toList ++ left)
 | 0,k,left,out,e=>by
  have:left = []:=List.length_eq_zero_iff.mp e
  subst this
  rw [List.append_nil]
  exact List.Perm.refl _
 | fuel + 1,k,left,out,e=>by
  have hlt:next k % left.length < left.length:=Nat.mod_lt _ (by omega)
  unfold pickOrder.go
  rw [List.getElem?_eq_getElem hlt]
  dsimp only
  refine (pick_go next fuel (k + 1) _ _ (by rw [List.length_eraseIdx_of_lt hlt]; omega)).trans ?_
  rw [Array.toList_push,List.append_assoc]
  refine List.Perm.append_left _ ?_
  exact erase_perm left _ hlt
theorem pick_perm {α:Type} (next:Nat -> Nat) (xs:Array α):(pickOrder next xs).toList.Perm xs.toList:=by
 have z:=pick_go next xs.size 0 xs.toList #[] (by simp)
 exact z
end L2
namespace L2
open PySem PySem.Spec PyProof.Rows
section
variable {M:Model} {A:Around} {E:Value -> Shared -> Prop} {s:Shared}
theorem choose_any {src:Source} {n:Nat} {Q:Nat -> Shared -> Prop} (hn:n ≠ 0) (h:∀ i d,i < n -> Q i { s with drawn:=d }):wpAny M A (choose src n) Q E s:=fun Γ p hΓ =>
 ⟨hn,h _ _ (Nat.mod_lt _ (Nat.pos_of_ne_zero hn))⟩
theorem draw_any {α:Type}:∀ (n:Nat) (xs:List α) {s:Shared} {Q:List α -> Shared -> Prop},xs.length = n -> (∀ ys d,ys.Perm xs -> Q ys { s with drawn:=d }) -> wpAny M A (drawOrder n xs) Q E s
 | 0,xs,s,Q,e,h=>by
  have:xs = []:=List.length_eq_zero_iff.mp e
  subst this
  unfold drawOrder
  exact wpAny_pure (h [] s.drawn (List.Perm.refl _))
 | n + 1,[],s,Q,e,h=>by cases e
 | n + 1,x :: xs,s,Q,e,h=>by
  unfold drawOrder
  refine wpAny_bind (choose_any (by simp) fun i d hi=>?_)
  rw [List.getElem?_eq_getElem hi]
  dsimp only
  refine wpAny_bind (draw_any n _ (by rw [List.length_eraseIdx_of_lt hi]; simp at e ⊢; omega) fun ys d' hp=>?_)
  exact wpAny_pure (h _ d' ((hp.cons _).trans (erase_perm _ i hi)))
end
end L2
namespace L2
open PySem PySem.Spec PyProof.Rows
theorem slot_siter:Slot "set" "__iter__" "set.__iter__":=.of (owner:="set") (n:="__iter__") (by rw [typeLookup_type,builtinLookup_eq_fast]; kernel_rfl) (by decide +kernel) (by decide +kernel) (by decide +kernel) (by first | exact .inl (by decide +kernel) | exact .inr (by decide +kernel)) (by rw [isSubtype_type]; kernel_rfl)
theorem slot_snext:Slot "set_iterator" "__next__" "set_iterator.__next__":=.of (owner:="set_iterator") (n:="__next__") (by rw [typeLookup_type,builtinLookup_eq_fast]; kernel_rfl) (by decide +kernel) (by decide +kernel) (by decide +kernel) (by first | exact .inl (by decide +kernel) | exact .inr (by decide +kernel)) (by rw [isSubtype_type]; kernel_rfl)
theorem entry_siter:entryFor table "set.__iter__" = some Builtin.«frozenset.__iter__»:=entryFor_alias (id':="frozenset.__iter__") (by kernel_rfl) rfl (by decide +kernel) (by kernel_rfl)
theorem entry_snext:entryFor table "set_iterator.__next__" = some Builtin.«set_iterator.__next__»:=entryFor_of_fast (by kernel_rfl)
theorem args_siter (a:Value):argsOk "set.__iter__" ⟨[a],[]⟩:=by unfold argsOk; kernel_rfl
theorem args_snext (a:Value):argsOk "set_iterator.__next__" ⟨[a],[]⟩:=by unfold argsOk; kernel_rfl
noncomputable abbrev sit (first:Value) (i:Nat) (S:Addr) (n ep:Nat):Obj:={ cls:=.type "set_iterator",data:=.fields #[first,rawInt i,.ref S,rawInt n,rawInt ep] }
section
variable {P:Program} {w:World} {A:Around} {E:Value -> Shared -> Prop} {s:Shared} {S:Addr} {σ:List Int} {ld:Bool}
theorem iter_set {o:Obj} {es:Array (Int × Value)} {ep:Nat} {t:SetTable} {Q:Value -> Shared -> Prop} (q1:s.heap.get? S = some o) (q2:o.ExactSet) (q3:o.data = .set es ep t) (q4:t.fits es.size = true) (q5:es.size < scanBound)
  (k1:(!w.params.followText "set-order" && (!t.plain && decide (es.size > 1))) = false -> Q (.ref s.heap.objs.size) { s with heap:=s.heap.push (sit (rawInt 0) 0 S es.size ep) })
  (k2:(!w.params.followText "set-order" && (!t.plain && decide (es.size > 1))) = true -> ∀ (ys:List Nat) d,ys.Perm (List.range es.size) ->
    Q (.ref (s.heap.objs.size + 1)) { s with heap:=(s.heap.push { cls:=.type "tuple",data:=.seq (ys.map fun (i:Nat)=>rawInt i).toArray }).push (sit (.ref s.heap.objs.size) 0 S es.size ep),drawn:=d }) :
  wpAny (model P w) A (pyIter (.ref S)) Q E s:=by
 have hT:s.TypeIs (.ref S) "set":=⟨o,q1,q2.1⟩
 refine wpAny_pyIter_slot hT slot_siter (wpAny_call_entry slot_siter hT entry_siter ?_ (args_siter _))
 unfold Builtin.«frozenset.__iter__»
 show wpAny _ _ (Builtin.Frozenset.sizeOf S >>= _) _ _ s
 refine wpAny_bind ?_
 unfold Builtin.Frozenset.sizeOf
 refine wpAny_bind (wpAny_setEntries_of q1 q3 q4 (wpAny_pure ?_))
 refine wpAny_bind ?_
 unfold setDrawn setsByText
 refine wpAny_bind (wpAny_setState_of q1 q3 q4 ?_)
 refine wpAny_bind (wpAny_bind (wpAny_askSetting (wpAny_pure ?_)))
 refine wpAny_pure ?_
 show wpAny _ _ (if (!w.params.followText "set-order" && (!t.plain && decide (es.size > 1))) = true then _ else _) _ _ s
 have ne:∀ (fv:Value) (s1:Shared) (o1:s1.heap.get? S = some o) (kq:Q (.ref s1.heap.objs.size) { s1 with heap:=s1.heap.push (sit fv 0 S es.size ep) }),
   wpAny (model P w) A.in1 (do let e <- setEpoch S; let v <- newFields "set_iterator" [fv,rawInt 0,Value.ref S,rawInt (es.size:Nat),rawInt (e:Nat)]; ret v)
    (fun fin s'=>∃ v,fin = Fin.done (Flow.ret v) /\ ∃ T' r,s'.TypeIs v T' /\ typeLookup (Value.type T') (Str.ofString "__next__") = pure (some r) /\ Q v s') E s1:=fun fv s1 o1 kq=>by
  unfold setEpoch newFields
  refine wpAny_bind (wpAny_bind (wpAny_setState_of o1 q3 q4 (wpAny_pure ?_)))
  refine wpAny_bind (wpAny_newObj_type (wpAny_pure ⟨_,rfl,"set_iterator",_,⟨_,Heap.get?_push_size _ rfl,rfl⟩,slot_snext.lookup,kq⟩))
 by_cases hb:(!w.params.followText "set-order" && (!t.plain && decide (es.size > 1))) = true
 ·rw [if_pos hb]
  refine wpAny_bind (draw_any _ _ (List.length_range) fun ys d hp=>?_)
  unfold newTuple
  have ysz:(ys.map fun (i:Nat)=>rawInt i).toArray.size = es.size:=by have:=hp.length_eq; simpa using this
  refine wpAny_bind (wpAny_newObj_type ?_ (by unfold sizeOk; dsimp only; rw [ysz]; exact fits_of_scanBound q5))
  have z:=ne (.ref s.heap.objs.size) { s with heap:=s.heap.push { cls:=.type "tuple",data:=.seq (ys.map fun (i:Nat)=>rawInt i).toArray },drawn:=d } (Heap.get?_push_of_some _ q1)
  refine z ?_
  have e1:(s.heap.push { cls:=.type "tuple",data:=.seq (ys.map fun (i:Nat)=>rawInt i).toArray }).objs.size = s.heap.objs.size + 1:=Heap.size_push ..
  rw [e1]
  exact k2 hb ys d hp
 ·rw [if_neg hb]
  exact ne (rawInt 0) s q1 (k1 (Bool.eq_false_iff.mpr hb))
end
end L2
namespace L2
open PySem PySem.Spec PyProof.Rows
section
variable {P:Program} {w:World} {A:Around} {E:Value -> Shared -> Prop} {s:Shared} {S:Addr} {σ:List Int} {ld:Bool} {o:Obj} {es:Array (Int × Value)} {ep:Nat} {t:SetTable}
theorem next_text {slot i:Nat} {Q:Option (Value × Nat) -> Shared -> Prop} (q1:s.heap.get? S = some o) (q3:o.data = .set es ep t) (q4:t.fits es.size = true) (hb:w.params.followText "set-order" = true)
  (k:Q ((pickOrder (w.params.setOrder S ep) es)[i]?.map fun e=>(e.2,slot)) s):wpAny (model P w) A (setNext S slot i ep) Q E s:=by
 unfold setNext setWalk setsByText
 refine wpAny_bind (wpAny_setState_of q1 q3 q4 ?_)
 refine wpAny_bind (wpAny_bind (wpAny_askSetting (wpAny_pure ?_)))
 show wpAny _ _ (if w.params.followText "set-order" = true then _ else _) _ _ s
 rw [if_pos hb]
 show wpAny _ _ (if (ep != ep) = true then _ else _) _ _ s
 rw [if_neg (by simp)]
 refine wpAny_bind (wpAny_bind (wpAny_setState_of q1 q3 q4 ?_))
 refine wpAny_bind (wpAny_bind (wpAny_askSetting (wpAny_pure ?_)))
 show wpAny _ _ (if w.params.followText "set-order" = true then _ else _) _ _ s
 rw [if_pos hb]
 refine wpAny_bind (wpAny_askSetting (wpAny_pure ?_))
 exact wpAny_pure k
theorem next_place {slot i g:Nat} {Q:Option (Value × Nat) -> Shared -> Prop} (q1:s.heap.get? S = some o) (q3:o.data = .set es ep t) (q4:t.fits es.size = true) (hb:w.params.followText "set-order" = false) (hp:(!t.plain && decide (es.size > 1)) = false) (hl:t.led = true)
  (hi:SetTable.below t.place slot = i) (k:Q (match es[i]?,t.place[i]? with | some (_,x),some j=>some (x,j + 1) | _,_=>none) s):wpAny (model P w) A (setNext S slot g ep) Q E s:=by
 unfold setNext setsByText
 refine wpAny_bind (wpAny_setState_of q1 q3 q4 ?_)
 refine wpAny_bind (wpAny_bind (wpAny_askSetting (wpAny_pure ?_)))
 show wpAny _ _ (if w.params.followText "set-order" = true then _ else _) _ _ s
 rw [if_neg (by rw [hb]; decide)]
 show wpAny _ _ (if (!t.plain && decide (es.size > 1)) = true then _ else _) _ _ s
 rw [if_neg (by rw [hp]; decide)]
 refine wpAny_bind ?_
 show wpAny _ _ (if (!t.led && !es.isEmpty) = true then _ else _) _ _ s
 rw [if_neg (by rw [hl]; simp)]
 refine wpAny_pure ?_
 dsimp only
 rw [hi]
 exact wpAny_pure k
end
end L2
namespace L2
open PySem PySem.Spec PyProof.Rows
section
variable {P:Program} {w:World} {A:Around} {E:Value -> Shared -> Prop} {s:Shared} {S:Addr} {σ:List Int} {ld:Bool} {o:Obj} {es:Array (Int × Value)} {ep:Nat} {t:SetTable}
theorem next_draw {p:Nat} {e:Int × Value} {Q:Value -> Shared -> Prop} (q1:s.heap.get? S = some o) (q3:o.data = .set es ep t) (q4:t.fits es.size = true) (hx:es[p]? = some e) (k:Q e.2 s) :
  wpAny (model P w) A (setNextDrawn S p ep) Q E s:=by
 unfold setNextDrawn
 refine wpAny_bind (wpAny_setState_of q1 q3 q4 ?_)
 show wpAny _ _ (if (ep != ep) = true then _ else _) _ _ s
 rw [if_neg (by simp)]
 show wpAny _ _ (match es[p]? with | some (_,x)=>_ | _=>_) _ _ s
 rw [hx]
 exact wpAny_pure k
theorem item_int {I:Addr} {slot i nx:Nat} {x:Value} {Q:Option Value -> Shared -> Prop} (hI:s.heap.get? I = some (sit (rawInt slot) i S es.size ep)) (q1:s.heap.get? S = some o) (q3:o.data = .set es ep t) (q4:t.fits es.size = true)
  (hn:∀ {A':Around} {E':Value -> Shared -> Prop} {Q':Option (Value × Nat) -> Shared -> Prop},Q' (some (x,nx)) s -> wpAny (model P w) A' (setNext S slot i ep) Q' E' s)
  (k:∀ h',h'.get? I = some (sit (rawInt nx) (i + 1) S es.size ep) -> Heap.SameBut I s.heap h' -> Q (some x) { s with heap:=h' }):wpAny (model P w) A (pyNext (.ref I)) Q E s:=by
 have hT:s.TypeIs (.ref I) "set_iterator":=⟨_,hI,rfl⟩
 unfold pyNext
 refine wpAny_bind (wpAny_attempt (wpAny_callSpecial?_slot (name:=Str.ofString "__next__") hT slot_snext (wpAny_call_entry slot_snext hT entry_snext ?_ (args_snext _))))
 unfold Builtin.«set_iterator.__next__»
 show wpAny _ _ (fieldsOf (.ref I) >>= _) _ _ s
 refine wpAny_bind (wpAny_fieldsOf hI rfl ?_)
 show wpAny _ _ (setEntries S >>= _) _ _ s
 refine wpAny_bind (wpAny_setEntries_of q1 q3 q4 ?_)
 show wpAny _ _ (if (((es.size:Nat):Int) != ((es.size:Nat):Int)) = true then _ else _) _ _ s
 rw [if_neg (by simp)]
 show wpAny _ _ (setNext S slot i ep >>= _) _ _ s
 refine wpAny_bind (hn ?_)
 refine wpAny_bind (wpAny_setField hI rfl (by simp) ?_)
 have g1:(s.heap.update I (Obj.mapFields (·.setIfInBounds 0 (rawInt nx)))).get? I = some (sit (rawInt nx) i S es.size ep):=Heap.get?_update_self _ hI (Obj.isFreed_of_fields (Obj.data_mapFields rfl _))
 refine wpAny_bind (wpAny_setField g1 rfl (by simp) ?_)
 have g2:((s.heap.update I (Obj.mapFields (·.setIfInBounds 0 (rawInt nx)))).update I (Obj.mapFields (·.setIfInBounds 1 (rawInt ((i:Int) + 1))))).get? I = some (sit (rawInt nx) (i + 1) S es.size ep):=Heap.get?_update_self _ g1 (Obj.isFreed_of_fields (Obj.data_mapFields rfl _))
 exact wpAny_pure ⟨x,rfl,wpAny_pure (k _ g2 ((Heap.SameBut.update _ I _).trans (Heap.SameBut.update _ I _)))⟩
end
end L2
namespace L2
open PySem PySem.Spec PyProof.Rows
section
variable {P:Program} {w:World} {A:Around} {E:Value -> Shared -> Prop} {s:Shared} {S:Addr} {σ:List Int} {ld:Bool} {o:Obj} {es:Array (Int × Value)} {ep:Nat} {t:SetTable}
theorem item_draw {I T:Addr} {i p:Nat} {ys:List Nat} {e:Int × Value} {ot:Obj} {c:Nat} {Q:Option Value -> Shared -> Prop} (hI:s.heap.get? I = some (sit (.ref T) i S es.size ep)) (q1:s.heap.get? S = some o) (q3:o.data = .set es ep t) (q4:t.fits es.size = true)
  (hT1:s.heap.get? T = some ot) (hT2:ot.data = .seq (ys.map fun (i:Nat)=>rawInt i).toArray c) (hy:ys[i]? = some p) (hx:es[p]? = some e)
  (k:∀ h',h'.get? I = some (sit (.ref T) (i + 1) S es.size ep) -> Heap.SameBut I s.heap h' -> Q (some e.2) { s with heap:=h' }):wpAny (model P w) A (pyNext (.ref I)) Q E s:=by
 have hT:s.TypeIs (.ref I) "set_iterator":=⟨_,hI,rfl⟩
 unfold pyNext
 refine wpAny_bind (wpAny_attempt (wpAny_callSpecial?_slot (name:=Str.ofString "__next__") hT slot_snext (wpAny_call_entry slot_snext hT entry_snext ?_ (args_snext _))))
 unfold Builtin.«set_iterator.__next__»
 show wpAny _ _ (fieldsOf (.ref I) >>= _) _ _ s
 refine wpAny_bind (wpAny_fieldsOf hI rfl ?_)
 show wpAny _ _ (setEntries S >>= _) _ _ s
 refine wpAny_bind (wpAny_setEntries_of q1 q3 q4 ?_)
 show wpAny _ _ (if (((es.size:Nat):Int) != ((es.size:Nat):Int)) = true then _ else _) _ _ s
 rw [if_neg (by simp)]
 show wpAny _ _ (seqItems? (.ref T) >>= _) _ _ s
 refine wpAny_bind (wpAny_seqItems hT1 hT2 ?_)
 show wpAny _ _ (match (ys.map fun (i:Nat)=>rawInt i).toArray[i]? with | some (.int place _)=>_ | some _=>_ | none=>_) _ _ s
 rw [show (ys.map fun (i:Nat)=>rawInt i).toArray[i]? = some (rawInt p) by simp [hy]]
 show wpAny _ _ (setNextDrawn S p ep >>= _) _ _ s
 refine wpAny_bind (next_draw q1 q3 q4 hx ?_)
 refine wpAny_bind (wpAny_setField hI rfl (by simp) ?_)
 have g1:(s.heap.update I (Obj.mapFields (·.setIfInBounds 1 (rawInt ((i:Int) + 1))))).get? I = some (sit (.ref T) (i + 1) S es.size ep):=Heap.get?_update_self _ hI (Obj.isFreed_of_fields (Obj.data_mapFields rfl _))
 exact wpAny_pure ⟨e.2,rfl,wpAny_pure (k _ g1 (Heap.SameBut.update _ I _))⟩
theorem stop_new {Q:PySem.Fin -> Shared -> Prop} (hh:A.handled = none) (k:∀ h' e,(∀ b o,s.heap.get? b = some o -> h'.get? b = some o) -> (∃ oe,h'.get? e = some oe /\ oe.cls = .type "StopIteration") -> E (.ref e) { s with heap:=h' }) :
  wpAny (model P w) A (do let e <- newExc (.type "StopIteration") []; raiseNew e) Q E s:=by
 refine wpAny_bind ?_
 simp only [newExc,newTuple]
 refine wpAny_bind (wpAny_newObj_type ?_ (by size_fits)); refine wpAny_bind (m:=firstArgMember _ _) (wpAny_of_eq (a:=Value.none) (by first | rfl | (simp only [firstArgMember]; rfl)) ?_)
 refine wpAny_newObj_type ?_ (by size_fits); simp only [raiseNew]
 refine wpAny_bind (wpAny_handled ?_); rw [hh]
 refine wpAny_bind (wpAny_pure (wpAny_throw ?_))
 exact k _ _ (fun b o q=>Heap.get?_push_of_some _ (Heap.get?_push_of_some _ q)) ⟨_,Heap.get?_push_size _ rfl,rfl⟩
end
end L2
namespace L2
open PySem PySem.Spec PyProof.Rows
section
variable {P:Program} {w:World} {A:Around} {E:Value -> Shared -> Prop} {s:Shared} {S:Addr} {σ:List Int} {ld:Bool} {o:Obj} {es:Array (Int × Value)} {ep:Nat} {t:SetTable}
theorem upd_oth {h:Heap} {I:Addr} {f:Obj -> Obj} {b:Addr} {u:Obj} (n:b ≠ I) (q:h.get? b = some u):(h.update I f).get? b = some u:=(Heap.get?_update_other _ _ (Ne.symm n)).trans q
theorem end_int {I:Addr} {slot i:Nat} {Q:Option Value -> Shared -> Prop} (hh:A.handled = none) (hI:s.heap.get? I = some (sit (rawInt slot) i S es.size ep)) (q1:s.heap.get? S = some o) (q3:o.data = .set es ep t) (q4:t.fits es.size = true)
  (hn:∀ {A':Around} {E':Value -> Shared -> Prop} {Q':Option (Value × Nat) -> Shared -> Prop},Q' none s -> wpAny (model P w) A' (setNext S slot i ep) Q' E' s)
  (k:∀ h',(∀ b u,b ≠ I -> s.heap.get? b = some u -> h'.get? b = some u) -> Q none { s with heap:=h' }):wpAny (model P w) A (pyNext (.ref I)) Q E s:=by
 have hT:s.TypeIs (.ref I) "set_iterator":=⟨_,hI,rfl⟩
 unfold pyNext
 refine wpAny_bind (wpAny_attempt (wpAny_callSpecial?_slot (name:=Str.ofString "__next__") hT slot_snext (wpAny_call_entry slot_snext hT entry_snext ?_ (args_snext _))))
 unfold Builtin.«set_iterator.__next__»
 show wpAny _ _ (fieldsOf (.ref I) >>= _) _ _ s
 refine wpAny_bind (wpAny_fieldsOf hI rfl ?_)
 show wpAny _ _ (setEntries S >>= _) _ _ s
 refine wpAny_bind (wpAny_setEntries_of q1 q3 q4 ?_)
 show wpAny _ _ (if (((es.size:Nat):Int) != ((es.size:Nat):Int)) = true then _ else _) _ _ s
 rw [if_neg (by simp)]
 show wpAny _ _ (setNext S slot i ep >>= _) _ _ s
 refine wpAny_bind (hn ?_)
 refine wpAny_bind (wpAny_setField hI rfl (by simp) ?_)
 refine stop_new (by simp [hh]) fun h' e kp he=>?_
 refine wpAny_bind (wpAny_isInstance (T:="StopIteration") (b:=true) he isSubtype_stop ?_)
 exact wpAny_pure (k h' fun b u nb q=>kp b u (upd_oth nb q))
theorem end_draw {I T:Addr} {i:Nat} {ys:List Nat} {ot:Obj} {c:Nat} {Q:Option Value -> Shared -> Prop} (hh:A.handled = none) (hI:s.heap.get? I = some (sit (.ref T) i S es.size ep)) (q1:s.heap.get? S = some o) (q3:o.data = .set es ep t) (q4:t.fits es.size = true)
  (hT1:s.heap.get? T = some ot) (hT2:ot.data = .seq (ys.map fun (i:Nat)=>rawInt i).toArray c) (hy:ys[i]? = none)
  (k:∀ h',(∀ b u,b ≠ I -> s.heap.get? b = some u -> h'.get? b = some u) -> Q none { s with heap:=h' }):wpAny (model P w) A (pyNext (.ref I)) Q E s:=by
 have hT:s.TypeIs (.ref I) "set_iterator":=⟨_,hI,rfl⟩
 unfold pyNext
 refine wpAny_bind (wpAny_attempt (wpAny_callSpecial?_slot (name:=Str.ofString "__next__") hT slot_snext (wpAny_call_entry slot_snext hT entry_snext ?_ (args_snext _))))
 unfold Builtin.«set_iterator.__next__»
 show wpAny _ _ (fieldsOf (.ref I) >>= _) _ _ s
 refine wpAny_bind (wpAny_fieldsOf hI rfl ?_)
 show wpAny _ _ (setEntries S >>= _) _ _ s
 refine wpAny_bind (wpAny_setEntries_of q1 q3 q4 ?_)
 show wpAny _ _ (if (((es.size:Nat):Int) != ((es.size:Nat):Int)) = true then _ else _) _ _ s
 rw [if_neg (by simp)]
 show wpAny _ _ (seqItems? (.ref T) >>= _) _ _ s
 refine wpAny_bind (wpAny_seqItems hT1 hT2 ?_)
 show wpAny _ _ (match (ys.map fun (i:Nat)=>rawInt i).toArray[i]? with | some (.int place _)=>_ | some _=>_ | none=>_) _ _ s
 rw [show (ys.map fun (i:Nat)=>rawInt i).toArray[i]? = none by simp at hy ⊢; exact hy]
 refine wpAny_bind (wpAny_setField hI rfl (by simp) ?_)
 have g1:(s.heap.update I (Obj.mapFields (·.setIfInBounds 0 (rawInt 0)))).get? I = some (sit (rawInt 0) i S es.size ep):=Heap.get?_update_self _ hI (Obj.isFreed_of_fields (Obj.data_mapFields rfl _))
 refine wpAny_bind (wpAny_setField g1 rfl (by simp) ?_)
 refine stop_new (by simp [hh]) fun h' e kp he=>?_
 refine wpAny_bind (wpAny_isInstance (T:="StopIteration") (b:=true) he isSubtype_stop ?_)
 exact wpAny_pure (k h' fun b u nb q=>kp b u (upd_oth nb (upd_oth nb q)))
end
end L2
namespace L2
open PySem PySem.Spec PyProof.Rows
theorem slot_sself:Slot "set_iterator" "__iter__" "set_iterator.__iter__":=.of (owner:="set_iterator") (n:="__iter__") (by rw [typeLookup_type,builtinLookup_eq_fast]; kernel_rfl) (by decide +kernel) (by decide +kernel) (by decide +kernel) (by first | exact .inl (by decide +kernel) | exact .inr (by decide +kernel)) (by rw [isSubtype_type]; kernel_rfl)
theorem entry_sself:entryFor table "set_iterator.__iter__" = some Builtin.«dict_keyiterator.__iter__»:=entryFor_alias (id':="dict_keyiterator.__iter__") (by kernel_rfl) rfl (by decide +kernel) (by kernel_rfl)
theorem args_sself (a:Value):argsOk "set_iterator.__iter__" ⟨[a],[]⟩:=by unfold argsOk; kernel_rfl
section
variable {P:Program} {w:World} {A:Around} {S I:Addr} {o:Obj} {es:Array (Int × Value)} {ep:Nat} {t:SetTable} {ord:List Value}
theorem self_sit {E:Value -> Shared -> Prop} {s:Shared} {Q:Value -> Shared -> Prop} (hT:s.TypeIs (.ref I) "set_iterator") (k:Q (.ref I) s):wpAny (model P w) A (pyIter (.ref I)) Q E s:=by
 refine wpAny_pyIter_slot hT slot_sself (wpAny_call_entry slot_sself hT entry_sself ?_ (args_sself _))
 unfold Builtin.«dict_keyiterator.__iter__»
 exact wpAny_pure ⟨_,rfl,"set_iterator",_,hT,slot_snext.lookup,k⟩
theorem walk_int (C:Nat -> Nat -> Prop) (hh:A.handled = none) (nI:S ≠ I) (q3:o.data = .set es ep t) (q4:t.fits es.size = true)
  (step:∀ i slot,C i slot -> i < es.size -> ∃ x nx,ord[i]? = some x /\ C (i + 1) nx /\ ∀ {s:Shared} {A':Around} {E':Value -> Shared -> Prop} {Q':Option (Value × Nat) -> Shared -> Prop},s.heap.get? S = some o -> Q' (some (x,nx)) s -> wpAny (model P w) A' (setNext S slot i ep) Q' E' s)
  (stop:∀ slot,C es.size slot -> ∀ {s:Shared} {A':Around} {E':Value -> Shared -> Prop} {Q':Option (Value × Nat) -> Shared -> Prop},s.heap.get? S = some o -> Q' none s -> wpAny (model P w) A' (setNext S slot es.size ep) Q' E' s) :
  WalksS P w A I [I,S] [I] (fun a b=>b = a) es.size (fun i v=>ord[i]? = some v) (fun i s=>s.heap.get? S = some o /\ ∃ slot,C i slot /\ s.heap.get? I = some (sit (rawInt slot) i S es.size ep)) where
 sub:=fun b z=>by rw [List.mem_singleton.mp z]; exact List.mem_cons_self
 grefl:=fun _=>rfl
 gtrans:=fun _ _ _ h1 h2=>h2.trans h1
 frame:=fun i s h' tk ⟨g1,slot,c,g2⟩ _ kp=>⟨kp S (by simp) _ g1,slot,c,kp I (by simp) _ g2⟩
 item:=fun i s Q E hi ⟨g1,slot,c,g2⟩ k=>by
  obtain ⟨x,nx,h1,h2,h3⟩:=step i slot c hi
  refine item_int g2 g1 q3 q4 (fun r=>h3 g1 r) fun h' g3 sb=>k x _ h1 ⟨(sb.2 S nI).trans g1,nx,h2,g3⟩ ⟨fun b u nb q=>(sb.2 b (by simpa using nb)).trans q,rfl,rfl,rfl,Nat.le_refl _⟩
 done:=fun s Q E ⟨g1,slot,c,g2⟩ k=>end_int hh g2 g1 q3 q4 (fun r=>stop slot c g1 r) fun h' kp=>k _ ⟨fun b u nb q=>kp b u (by simpa using nb) q,rfl,rfl,rfl,Nat.le_refl _⟩
 self:=fun i s Q E ⟨g1,slot,c,g2⟩ k=>self_sit ⟨_,g2,rfl⟩ k
theorem walk_draw {T:Addr} {ys:List Nat} {ot:Obj} {c:Nat} (hh:A.handled = none) (nI:S ≠ I) (nT:T ≠ I) (q3:o.data = .set es ep t) (q4:t.fits es.size = true) (hT2:ot.data = .seq (ys.map fun (i:Nat)=>rawInt i).toArray c) (hl:ys.length = es.size)
  (step:∀ (i p:Nat),ys[i]? = some p -> ∃ e,es[p]? = some e /\ ord[i]? = some e.2) :
  WalksS P w A I [I,S,T] [I] (fun a b=>b = a) es.size (fun i v=>ord[i]? = some v) (fun i s=>s.heap.get? S = some o /\ s.heap.get? T = some ot /\ s.heap.get? I = some (sit (.ref T) i S es.size ep)) where
 sub:=fun b z=>by rw [List.mem_singleton.mp z]; exact List.mem_cons_self
 grefl:=fun _=>rfl
 gtrans:=fun _ _ _ h1 h2=>h2.trans h1
 frame:=fun i s h' tk ⟨g1,g0,g2⟩ _ kp=>⟨kp S (by simp) _ g1,kp T (by simp) _ g0,kp I (by simp) _ g2⟩
 item:=fun i s Q E hi ⟨g1,g0,g2⟩ k=>by
  obtain ⟨p,hp⟩:∃ p,ys[i]? = some p:=⟨_,List.getElem?_eq_getElem (by omega)⟩
  obtain ⟨e,h1,h2⟩:=step i p hp
  exact item_draw g2 g1 q3 q4 g0 hT2 hp h1 fun h' g3 sb=>k e.2 _ h2 ⟨(sb.2 S nI).trans g1,(sb.2 T nT).trans g0,g3⟩ ⟨fun b u nb q=>(sb.2 b (by simpa using nb)).trans q,rfl,rfl,rfl,Nat.le_refl _⟩
 done:=fun s Q E ⟨g1,g0,g2⟩ k=>end_draw hh g2 g1 q3 q4 g0 hT2 (by rw [List.getElem?_eq_none_iff]; omega) fun h' kp=>k _ ⟨fun b u nb q=>kp b u (by simpa using nb) q,rfl,rfl,rfl,Nat.le_refl _⟩
 self:=fun i s Q E ⟨g1,g0,g2⟩ k=>self_sit ⟨_,g2,rfl⟩ k
end
end L2
namespace L2
open PySem PySem.Spec PyProof.Rows
theorem look_slen:typeLookup (.type "set") "__len__" = pure (some (.builtin "set.__len__")):=by rw [typeLookup_type,builtinLookup_eq_fast]; kernel_rfl
section
variable {P:Program} {w:World} {A:Around} {E:Value -> Shared -> Prop} {s:Shared} {S:Addr}
theorem hint_set {Q:Bool -> Shared -> Prop} (hT:s.TypeIs (.ref S) "set") (k:Q false s):wpAny (model P w) A (Builtin.List.listLengthHint (.ref S)) Q E s:=by
 unfold Builtin.List.listLengthHint
 refine wpAny_bind (wpAny_specialOf hT look_slen ?_)
 have sp:splitId "set.__len__" = some ("set","__len__"):=by decide +kernel
 simp only [sp]
 refine wpAny_bind (wpAny_isInstance hT sub_set_self ?_)
 simp only [Bool.not_true,Bool.false_eq_true,if_false]
 rw [if_pos (by decide +kernel)]
 refine wpAny_bind (wpAny_typeOf hT ?_)
 exact wpAny_pure k
theorem ext_rest {I l:Addr} {fp:List Addr} {n:Nat} {Pv:Nat -> Value -> Prop} {St:Nat -> Shared -> Prop} {R:Result -> Shared -> Prop} {E':Value -> Shared -> Prop} (W:WalksS P w A.in1 I fp [I] (fun a b=>b = a) n Pv St) (hn:n <= sizeLine) (nl:l ∉ fp)
  (hl:s.heap.get? l = some { cls:=.type "list",data:=.seq #[] 0 }) (st:St 0 s)
  (k:∀ s' acc c,Moved [l,I] (fun a b=>b = a) s s' -> s'.heap.get? l = some { cls:=.type "list",dict:=none,data:=.seq acc c,slots:=#[] } -> ItemsOf Pv acc n -> R (.ok (.ret (.ref l))) s') :
  wpAny (model P w) A.in1 (rule "list.extend.makes-room" >>= fun _=>Builtin.List.listTouch (.ref l) >>= fun _=>again (.builtin "list.extend.loop" ⟨[.ref l,.ref I,.ref l],[]⟩))
   (fun fin s'=>match fin with | .done f=>R (.ok f) s' | .again c=>c.quiet = true /\ codeAny (model P w) A c R s') E' s:=by
 refine wpAny_bind (wpAny_rule (wpAny_bind ?_))
 show wpAny _ A.in1 (updateSeq l (·.push .none) >>= fun _=>updateSeq l (·.pop)) _ _ _
 refine wpAny_bind (wpAny_updateSeq hl rfl ?_)
 have g1:=Heap.get?_update_self (Obj.mapSeq (·.push Value.none)) hl rfl
 refine wpAny_updateSeq g1 rfl ?_
 have g2:=Heap.get?_update_self (Obj.mapSeq (·.pop)) g1 rfl
 have oth:∀ b u,b ≠ l -> s.heap.get? b = some u -> ((s.heap.update l (Obj.mapSeq (·.push Value.none))).update l (Obj.mapSeq (·.pop))).get? b = some u:=fun b u nb q=>upd_oth nb (upd_oth nb q)
 refine wpAny_pure ⟨plainId_quiet F.plain_extend_loop _,codeAny_extend_loopS W hn l nl _ n 0 _ _ _ rfl (Nat.zero_le _) (W.frame 0 s _ s.toks st (Nat.le_refl _) fun b z u q=>oth b u (fun y=>nl (y ▸ z)) q) g2 (ItemsOf.nil Pv) fun s' acc c mv g3 it=>?_⟩
 have m0:Moved [l,I] (fun a b=>b = a) s { s with heap:=(s.heap.update l (Obj.mapSeq (·.push Value.none))).update l (Obj.mapSeq (·.pop)) }:=⟨fun b u nb q=>oth b u (fun y=>nb (by rw [y]; exact List.mem_cons_self)) q,rfl,rfl,rfl,Nat.le_refl _⟩
 exact k s' acc c (Moved.trans W.gtrans m0 mv) g3 it
end
end L2
namespace L2
open PySem PySem.Spec PyProof.Rows
theorem items_ord {ord:List Value} {acc:Array Value} {n:Nat} (h:ItemsOf (fun i v=>ord[i]? = some v) acc n) (hl:ord.length = n):acc.toList = ord:=by
 refine List.ext_getElem (by rw [Array.length_toList,h.1,hl]) fun i h1 h2=>?_
 have:=h.2 i (acc.toList[i]) (by rw [<- Array.getElem?_toList,List.getElem?_eq_getElem h1])
 have this:ord[i]? = some acc.toList[i]:=this
 rw [List.getElem?_eq_getElem h2] at this
 exact (Option.some.inj this).symm
theorem ints_ord:∀ {l:List Value},(∀ v ∈ l,∃ tk,v = .int (valI v) tk) -> IntsAre l (l.map valI)
 | [],_=>.nil
 | v :: l,h=>by
  obtain ⟨tk,e⟩:=h v List.mem_cons_self
  have r:=ints_ord (l:=l) fun x hx=>h x (List.mem_cons_of_mem _ hx)
  rw [List.map_cons]
  generalize valI v = m at e ⊢
  subst e
  exact .cons m tk r
section
variable {P:Program} {w:World} {A:Around} {E:Value -> Shared -> Prop} {s:Shared} {S:Addr} {σ:List Int}
theorem collect_set {Q:List Value -> Shared -> Prop} (hh:A.handled = none) (hS:IS P w (!w.params.followText "set-order") s.heap S σ)
  (k:∀ h' d tk vs ms,(∀ b u,s.heap.get? b = some u -> h'.get? b = some u) -> s.heap.objs.size < h'.objs.size -> IntsAre vs ms -> ms.Perm σ -> Q vs { s with heap:=h',drawn:=d,toks:=tk }):wpAny (model P w) A (collect (.ref S)) Q E s:=by
 obtain ⟨o,es,ep,t,q1,q2,q3,q4,q5,q6,q7,q8,q9⟩:=hS
 have lS:S < s.heap.objs.size:=Heap.lt_size q1
 have psz:t.place.size = es.size:=by unfold SetTable.fits at q7; simp at q7; exact q7.1
 have fin:∀ (ord:List Value),ord.Perm (es.toList.map (·.2)) -> IntsAre ord (ord.map valI) /\ (ord.map valI).Perm σ /\ ord.length = es.size:=fun ord hp=>by
  refine ⟨ints_ord fun v hv=>?_,?_,?_⟩
  ·obtain ⟨e,he,rfl⟩:=List.mem_map.mp (hp.mem_iff.mp hv)
   exact elem_int q4 he
  ·refine (hp.map valI).trans ?_
   rw [List.map_map]
   exact q5
  ·have:=hp.length_eq; simpa using this
 unfold collect
 refine wpAny_bind (wpAny_runValue (codeAny_builtin F.entry_proto_collect ?_)); rw [Around.under_plainId F.plain_proto_collect _]
 show wpAny _ A.in1 (newList [] >>= fun l=>again (.builtin "list.__iadd__" ⟨[l,.ref S],[]⟩)) _ _ s
 refine wpAny_bind (wpAny_newObj_type ?_)
 refine wpAny_pure ⟨plainId_quiet F.plain_list_iadd _,codeAny_builtin F.entry_list_iadd ?_⟩; rw [Around.under_plainId F.plain_list_iadd _]
 have nS:s.heap.objs.size ≠ S:=Nat.ne_of_gt lS
 have e0:=Heap.get?_push_of_some (h:=s.heap) { cls:=.type "list",data:=.seq ([]:List Value).toArray } q1
 have el:(s.heap.push { cls:=.type "list",data:=.seq ([]:List Value).toArray }).get? s.heap.objs.size = some { cls:=.type "list",data:=.seq ([]:List Value).toArray }:=Heap.get?_push_size _ rfl
 have sz:(s.heap.push { cls:=.type "list",data:=.seq ([]:List Value).toArray }).objs.size = s.heap.objs.size + 1:=Heap.size_push ..
 show wpAny _ A.in1 (Builtin.List.listExtendWith (.ref s.heap.objs.size) (.ref S) (.ref s.heap.objs.size)) _ _ _
 unfold Builtin.List.listExtendWith
 refine wpAny_bind (wpAny_typeOf (T:="set") ⟨o,e0,q2.1⟩ ?_)
 have h1:Builtin.List.listSameRef (.ref s.heap.objs.size) (.ref S) = false:=by simp [Builtin.List.listSameRef,nS]
 have h2:(Value.type "set" == Value.type "list") = false:=by decide
 have h3:(Value.type "set" == Value.type "tuple") = false:=by decide
 simp only [h1,h2,h3,Bool.or_false,Bool.false_eq_true,if_false]
 have done:∀ (ord:List Value) (I:Addr) (s2 s':Shared) (acc:Array Value) (c:Nat),ord.Perm (es.toList.map (·.2)) -> s.heap.objs.size <= I -> s2.gens = s.gens -> s2.os = s.os -> (∀ b u,s.heap.get? b = some u -> s2.heap.get? b = some u) -> Moved [s.heap.objs.size,I] (fun a b=>b = a) s2 s' ->
   s'.heap.get? s.heap.objs.size = some { cls:=.type "list",dict:=none,data:=.seq acc c,slots:=#[] } -> ItemsOf (fun i v=>ord[i]? = some v) acc es.size ->
   wpAny (model P w) A (load s.heap.objs.size >>= fun ob=>match ob.data with | .seq xs _=>pure xs.toList | _=>unsupported "internal:collect") Q E s':=fun ord I s2 s' acc c hp nI hg ho kp mv g it=>by
  obtain ⟨f1,f2,f3⟩:=fin ord hp
  obtain ⟨h',g',d',tk',os'⟩:=s'
  obtain rfl:g' = s.gens:=mv.gens.trans hg
  obtain rfl:os' = s.os:=mv.os.trans ho
  refine wpAny_bind (wpAny_load g (wpAny_pure ?_))
  rw [items_ord it f3]
  refine k h' d' tk' ord _ (fun b u q=>mv.heap b u ?_ (kp b u q)) (Heap.lt_size g) f1 f2
  have lb:=Heap.lt_size q
  simp only [List.mem_cons,List.not_mem_nil,or_false,not_or]
  exact ⟨Nat.ne_of_lt lb,Nat.ne_of_lt (Nat.lt_of_lt_of_le lb nI)⟩
 let RR:Result -> Shared -> Prop:=fun r s'=>match r with
  | .ok (.ret v)=>wpAny (model P w) A (match v with | .ref a=>(do let ob <- load a; match ob.data with | .seq xs _=>pure xs.toList | _=>unsupported "internal:collect") | _=>unsupported "internal:collect") Q E s'
  | .ok _=>False
  | .error e=>E e s'
 have nIS:S ≠ s.heap.objs.size + 1:=Nat.ne_of_lt (Nat.lt_succ_of_lt lS)
 have hn:=fits_of_scanBound q6
 refine wpAny_bind (iter_set e0 q2 q3 q7 q6 (fun hb=>?a) (fun hb ys d hp=>?b))
 case a =>
  refine wpAny_bind (wpAny_holding (hint_set ⟨o,Heap.get?_push_of_some _ e0,q2.1⟩ ?_))
  rw [if_pos (by decide +kernel)]
  rw [show (s.heap.push { cls:=.type "list",data:=.seq ([]:List Value).toArray }).objs.size = s.heap.objs.size + 1 from sz]
  have nl:s.heap.objs.size ∉ [s.heap.objs.size + 1,S]:=by
   simp only [List.mem_cons,List.not_mem_nil,or_false,not_or]
   exact ⟨Nat.ne_of_lt (Nat.lt_succ_self _),nS⟩
  have gI:((s.heap.push { cls:=.type "list",data:=.seq ([]:List Value).toArray }).push (sit (rawInt 0) 0 S es.size ep)).get? (s.heap.objs.size + 1) = some (sit (rawInt ((0:Nat):Int)) 0 S es.size ep):=by rw [<- sz]; exact Heap.get?_push_size _ rfl
  let s2:Shared:={ s with heap:=(s.heap.push { cls:=.type "list",data:=.seq ([]:List Value).toArray }).push (sit (rawInt 0) 0 S es.size ep) }
  cases ht:w.params.followText "set-order" with
  | true =>
   have pz:(pickOrder (w.params.setOrder S ep) es).size = es.size:=by have:=(pick_perm (w.params.setOrder S ep) es).length_eq; simpa using this
   refine wpAny_mono (ext_rest (R:=RR) (E':=fun e s'=>E e s') (s:=s2) (walk_int (ord:=(pickOrder (w.params.setOrder S ep) es).toList.map (·.2)) (fun _ _=>True) (A:=A.in1) hh nIS q3 q7 (fun i slot _ hi=>?_) (fun slot _=>?_)) hn nl (Heap.get?_push_of_some _ el) ⟨Heap.get?_push_of_some _ e0,0,trivial,gI⟩ fun s' acc c mv g it=>?_) (fun fin s' h=>by cases fin with | done f=>(cases f <;> exact h) | again c=>exact ⟨h.1,codeAny_mono h.2 fun r s3 hr=>by cases r with | error e=>exact hr | ok f=>(cases f <;> exact hr)⟩) (fun _ _ h=>h)
   ·obtain ⟨e,he⟩:∃ e,(pickOrder (w.params.setOrder S ep) es)[i]? = some e:=⟨_,Array.getElem?_eq_getElem (by rw [pz]; exact hi)⟩
    exact ⟨e.2,slot,by rw [List.getElem?_map,Array.getElem?_toList,he]; rfl,trivial,fun g1 r=>next_text g1 q3 q7 ht (by rw [he]; exact r)⟩
   ·exact fun g1 r=>next_text g1 q3 q7 ht (by rw [Array.getElem?_eq_none (by rw [pz]; exact Nat.le_refl _)]; exact r)
   ·exact done _ _ s2 s' acc c ((pick_perm _ es).map _) (Nat.le_succ _) rfl rfl (fun b u q=>Heap.get?_push_of_some _ (Heap.get?_push_of_some _ q)) mv g it
  | false =>
   rw [ht] at hb q9
   have hpl:(!t.plain && decide (es.size > 1)) = false:=hb
   have hld:t.led = true:=q9
   refine wpAny_mono (ext_rest (R:=RR) (E':=fun e s'=>E e s') (s:=s2) (walk_int (ord:=es.toList.map (·.2)) (fun i slot=>SetTable.below t.place slot = i) (A:=A.in1) hh nIS q3 q7 (fun i slot hc hi=>?_) (fun slot hc=>?_)) hn nl (Heap.get?_push_of_some _ el) ⟨Heap.get?_push_of_some _ e0,0,below_zero q8,gI⟩ fun s' acc c mv g it=>?_) (fun fin s' h=>by cases fin with | done f=>(cases f <;> exact h) | again c=>exact ⟨h.1,codeAny_mono h.2 fun r s3 hr=>by cases r with | error e=>exact hr | ok f=>(cases f <;> exact hr)⟩) (fun _ _ h=>h)
   ·obtain ⟨e,he⟩:∃ e,es[i]? = some e:=⟨_,Array.getElem?_eq_getElem hi⟩
    have hj:t.place[i]? = some (t.place.getD i 0):=by rw [Array.getElem?_eq_getElem (by rw [psz]; exact hi)]; simp [Array.getD,show i < t.place.size by rw [psz]; exact hi]
    exact ⟨e.2,t.place.getD i 0 + 1,by rw [List.getElem?_map,Array.getElem?_toList,he]; rfl,below_next q8 (by rw [psz]; exact hi),fun g1 r=>next_place g1 q3 q7 ht hpl hld hc (by rw [he,hj]; exact r)⟩
   ·exact fun g1 r=>next_place g1 q3 q7 ht hpl hld hc (by rw [Array.getElem?_eq_none (Nat.le_refl _)]; exact r)
   ·exact done _ _ s2 s' acc c (List.Perm.refl _) (Nat.le_succ _) rfl rfl (fun b u q=>Heap.get?_push_of_some _ (Heap.get?_push_of_some _ q)) mv g it
 case b =>
  refine wpAny_bind (wpAny_holding (hint_set ⟨o,Heap.get?_push_of_some _ (Heap.get?_push_of_some _ e0),q2.1⟩ ?_))
  rw [if_pos (by decide +kernel)]
  rw [show (s.heap.push { cls:=.type "list",data:=.seq ([]:List Value).toArray }).objs.size = s.heap.objs.size + 1 from sz]
  have nl:s.heap.objs.size ∉ [s.heap.objs.size + 1 + 1,S,s.heap.objs.size + 1]:=by
   simp only [List.mem_cons,List.not_mem_nil,or_false,not_or]
   exact ⟨Nat.ne_of_lt (Nat.lt_succ_of_lt (Nat.lt_succ_self _)),nS,Nat.ne_of_lt (Nat.lt_succ_self _)⟩
  let ot:Obj:={ cls:=.type "tuple",data:=.seq (ys.map fun (i:Nat)=>rawInt i).toArray }
  have gT:((s.heap.push { cls:=.type "list",data:=.seq ([]:List Value).toArray }).push ot).get? (s.heap.objs.size + 1) = some ot:=by rw [<- sz]; exact Heap.get?_push_size _ rfl
  have sz2:((s.heap.push { cls:=.type "list",data:=.seq ([]:List Value).toArray }).push ot).objs.size = s.heap.objs.size + 1 + 1:=by rw [Heap.size_push,sz]
  have gI:(((s.heap.push { cls:=.type "list",data:=.seq ([]:List Value).toArray }).push ot).push (sit (.ref (s.heap.objs.size + 1)) 0 S es.size ep)).get? (s.heap.objs.size + 1 + 1) = some (sit (.ref (s.heap.objs.size + 1)) 0 S es.size ep):=by rw [<- sz2]; exact Heap.get?_push_size _ rfl
  have hyl:ys.length = es.size:=by have:=hp.length_eq; simpa using this
  let s2:Shared:={ s with heap:=((s.heap.push { cls:=.type "list",data:=.seq ([]:List Value).toArray }).push ot).push (sit (.ref (s.heap.objs.size + 1)) 0 S es.size ep),drawn:=d }
  have hdf:∀ p,p ∈ ys -> p < es.size:=fun p z=>List.mem_range.mp (hp.mem_iff.mp z)
  have oe:(ys.map fun p=>(es.getD p (0,Value.none)).2).Perm (es.toList.map (·.2)):=by
   refine (hp.map _).trans (List.Perm.of_eq ?_)
   refine List.ext_getElem (by simp) fun i h1 h2=>?_
   have:i < es.size:=by simpa using h1
   simp [Array.getD,this]
  refine wpAny_mono (ext_rest (R:=RR) (E':=fun e s'=>E e s') (s:=s2) (walk_draw (ord:=ys.map fun p=>(es.getD p (0,Value.none)).2) (A:=A.in1) hh (Nat.ne_of_lt (Nat.lt_succ_of_lt (Nat.lt_succ_of_lt lS))) (Nat.ne_of_lt (Nat.lt_succ_self _)) q3 q7 (ot:=ot) rfl hyl (fun i p hy=>?_)) hn nl
    (Heap.get?_push_of_some _ (Heap.get?_push_of_some _ el)) ⟨Heap.get?_push_of_some _ (Heap.get?_push_of_some _ e0),Heap.get?_push_of_some _ gT,gI⟩ fun s' acc c mv g it=>?_) (fun fin s' h=>by cases fin with | done f=>(cases f <;> exact h) | again c=>exact ⟨h.1,codeAny_mono h.2 fun r s3 hr=>by cases r with | error e=>exact hr | ok f=>(cases f <;> exact hr)⟩) (fun _ _ h=>h)
  ·have hp2:p < es.size:=hdf p (List.mem_of_getElem? hy)
   refine ⟨es.getD p (0,Value.none),by rw [Array.getElem?_eq_getElem hp2]; simp [Array.getD,hp2],by rw [List.getElem?_map,hy]; rfl⟩
  ·exact done _ _ s2 s' acc c oe (Nat.le_succ_of_le (Nat.le_succ _)) rfl rfl (fun b u q=>Heap.get?_push_of_some _ (Heap.get?_push_of_some _ (Heap.get?_push_of_some _ q))) mv g it
end
end L2
namespace L2
open PySem PySem.Spec PyProof.Rows PySem.W
noncomputable def rkI (ns:List Int) (v:Value):Nat:=(ns.filter fun m=>decide (m < valI v)).length
theorem less_le {ns:List Int} {a b:Int} (h:a <= b):(ns.filter fun m=>decide (m < a)).length <= (ns.filter fun m=>decide (m < b)).length:=by
 induction ns with
 | nil=>exact Nat.le_refl _
 | cons c ns ih =>
  by_cases h1:c < a
  ·have h2:c < b:=by omega
   simp [h1,h2]; exact ih
  ·by_cases h2:c < b
   ·simp [h1,h2]; omega
   ·simp [h1,h2]; exact ih
theorem less_lt {ns:List Int} {a b:Int} (h:a < b) (ha:a ∈ ns):(ns.filter fun m=>decide (m < a)).length < (ns.filter fun m=>decide (m < b)).length:=by
 induction ns with
 | nil=>cases ha
 | cons c ns ih =>
  by_cases e:a = c
  ·subst e
   have:=less_le (ns:=ns) (a:=a) (b:=b) (by omega)
   simp [h]; omega
  ·have ih:=ih (by rcases List.mem_cons.mp ha with z | z; exact absurd z e; exact z)
   by_cases h1:c < a
   ·have h2:c < b:=by omega
    simp [h1,h2]; exact ih
   ·by_cases h2:c < b
    ·simp [h1,h2]; omega
    ·simp [h1,h2]; exact ih
theorem rk_iff {ns:List Int} {x y:Value} (hx:valI x ∈ ns) (hy:valI y ∈ ns):rkI ns x < rkI ns y ↔ valI x < valI y:=by
 constructor
 ·intro h
  by_cases z:valI x < valI y
  ·exact z
  ·have:=less_le (ns:=ns) (a:=valI y) (b:=valI x) (by omega)
   unfold rkI at h
   omega
 ·intro h; exact less_lt h hx
theorem ints_val:∀ {vs:List Value} {ns:List Int},IntsAre vs ns -> vs.map valI = ns /\ ∀ v ∈ vs,∃ tk,v = .int (valI v) tk
 | _,_,.nil=>⟨rfl,fun v h=>by cases h⟩
 | _,_,.cons n t r=>by
  obtain ⟨h1,h2⟩:=ints_val r
  refine ⟨by rw [List.map_cons,h1]; rfl,fun v hv=>?_⟩
  rcases List.mem_cons.mp hv with rfl | hv
  ·exact ⟨t,rfl⟩
  ·exact h2 v hv
section
variable {P:Program} {w:World} {A:Around} {E:Value -> Shared -> Prop} {s:Shared}
theorem sort_any {a:Addr} {n:Nat} {vs:List Value} {ns:List Int} {R:PySem.Fin -> Shared -> Prop} (ho:s.heap.get? a = some (seqObj "list" vs.toArray n)) (hz:vs.length <= sizeLine) (hI:IntsAre vs ns)
  (k:∀ (out:List Value),out.Perm vs -> (out.map valI).Pairwise (· <= ·) -> R (.done (.ret .none)) { s with heap:=sortedHeap s.heap a vs out.toArray }):wpAny (model P w) A (Builtin.«list.sort» ⟨[.ref a],[]⟩) R E s:=by
 obtain ⟨v1,v2⟩:=ints_val hI
 have mem:∀ v ∈ vs,valI v ∈ ns:=fun v hv=>by rw [<- v1]; exact List.mem_map.mpr ⟨v,hv,rfl⟩
 refine list_sort_rk (κ:=oneType') (rk:=rkI ns) ho hz (fun h2 s' _ Q' q=>?_) (fun s' _ x y hx hy Q' q=>?_) fun out o1 o2=>k out o1 ?_
 ·match vs,h2,hI with
  | x :: y :: r,_,hI=>rw [keyKind_ints hI]; exact wpAny_pure q
  | [_],h2,_=>simp at h2
  | [],h2,_=>simp at h2
 ·obtain ⟨t1,e1⟩:=v2 x hx
  obtain ⟨t2,e2⟩:=v2 y hy
  have r:=rk_iff (mem x hx) (mem y hy)
  rw [show decide (rkI ns x < rkI ns y) = decide (valI x < valI y) from by simp only [r]] at q
  rw [keyLt'_oneType]
  generalize valI x = m1 at e1 q
  generalize valI y = m2 at e2 q
  subst e1
  subst e2
  exact oneLt_int q
 ·rw [List.pairwise_map]
  refine o2.imp_of_mem fun {x y} hx hy h=>?_
  have r:=rk_iff (mem y (o1.mem_iff.mp hy)) (mem x (o1.mem_iff.mp hx))
  omega
end
end L2
namespace L2
open PySem PySem.Spec PyProof.Rows PySem.W
theorem sh_at {h:Heap} {a:Addr} {vs:List Value} {n:Nat} {out:Array Value} (q:h.get? a = some (seqObj "list" vs.toArray n)):(∃ e,(sortedHeap h a vs out).get? a = some (seqObj "list" out e)) /\ ∀ b u,b ≠ a -> h.get? b = some u -> (sortedHeap h a vs out).get? b = some u:=by
 obtain ⟨e1,g1⟩:∃ e1,(h.update a (Obj.mapSeq fun _=>#[])).get? a = some (seqObj "list" #[] e1):=⟨_,get?_update_seq q (fun _=>#[])⟩
 have g2:=Heap.get?_push_of_some (seqObj "list" #[] 0) (Heap.get?_push_of_some (seqObj "tuple" vs.toArray 0) g1)
 exact ⟨⟨_,get?_update_seq g2 (fun _=>out)⟩,fun b u nb z=>upd_oth nb (Heap.get?_push_of_some _ (Heap.get?_push_of_some _ (upd_oth nb z)))⟩
section
variable {P:Program} {w:World} {A:Around} {E:Value -> Shared -> Prop} {s:Shared} {S:Addr} {σ:List Int}
theorem sorted_set {Q:Value -> Shared -> Prop} (hh:A.handled = none) (hS:IS P w (!w.params.followText "set-order") s.heap S σ) (hz:σ.length <= sizeLine)
  (k:∀ h' d tk p out e,(∀ b u,s.heap.get? b = some u -> h'.get? b = some u) -> s.heap.objs.size <= p -> h'.get? p = some (seqObj "list" out e) -> (∃ ms,IntsAre out.toList ms /\ ms.Perm σ /\ ms.Pairwise (· <= ·)) -> Q (.ref p) { s with heap:=h',drawn:=d,toks:=tk }) :
  wpAny (model P w) A (call (.builtin "sorted") [.ref S]) Q E s:=by
 refine Calls.call_function_entry kind_sorted plain_sorted entry_sorted (args_sorted1 _) ?_; unfold Builtin.«sorted»
 refine wpAny_bind (m:=checkCount "sorted" 1 1 _) (wpAny_pure (wpAny_bind (collect_set hh hS fun h1 d tk vs ms kp sz hI hp=>?_)))
 have vl:vs.length <= sizeLine:=by rw [IntsAre.length hI,hp.length_eq]; exact hz
 refine wpAny_bind (wpAny_newList ?_ vl)
 have g:(h1.push (seqObj "list" vs.toArray 0)).get? h1.objs.size = some (seqObj "list" vs.toArray 0):=Heap.get?_push_size _ rfl
 refine wpAny_bind (wpAny_holding (wpAny_call_entry slot_list_sort ⟨_,g,rfl⟩ entry_list_sort (sort_any g vl hI fun out o1 o2=>⟨_,rfl,?_⟩) (args_list_sort _)))
 obtain ⟨⟨e,z1⟩,z2⟩:=sh_at (out:=out.toArray) g
 obtain ⟨v1,v2⟩:=ints_val hI
 refine wpAny_pure ⟨_,rfl,k _ d tk _ out.toArray e (fun b u q=>z2 b u (Nat.ne_of_lt (Heap.lt_size (kp b u q))) (Heap.get?_push_of_some _ (kp b u q))) (Nat.le_of_lt sz) z1 ⟨out.map valI,?_,?_,o2⟩⟩
 ·exact ints_ord fun v hv=>v2 v (o1.mem_iff.mp hv)
 ·refine (o1.map valI).trans ?_
  rw [v1]
  exact hp
end
end L2
namespace L2
open PySem PySem.Spec PyProof.Rows
noncomputable abbrev setO (P:Program) (w:World) (p:Addr) (σ:List Int):HO:=.ext fun h=>IS P w (!w.params.followText "set-order") h p σ
noncomputable def rSetI (P:Program) (w:World) (K:PySem.W.Frag):List V -> Hp -> VK -> Prop:=fun xs H Q=>∃ (a:Addr) (ns:List Int),xs = [.ref a] /\ SqL K H a (ns.map V.int) /\ ns.length + 1 < scanBound /\
 ∀ p,H p = none -> Q (.ref p) (upd H p (setO P w p (firstMet (fun i=>ns.getD i 0) ns.length)))
theorem call_setI {X:Cx} (hc:X.calm = true):CallR X (.type "set") (rSetI X.prog X.w X.K):=by
 intro pins s σ H xs us Q I r h
 obtain ⟨a,ns,rfl,hs,hb,q⟩:=h
 obtain ⟨u,rfl,ru⟩:=vals1 r
 cases ru
 obtain ⟨its,rv,⟨o,n,e,c,d1,d2⟩,hz⟩:=I.list hs
 have hl:=rv.length
 rw [List.length_map] at hl
 refine call_set_is (I.ok.hd hc) (items:=its.toArray) (ns:=ns) ⟨o,e,c,n,by first | exact d2 | exact d1⟩ (by simpa using intsAre_of rv) (by simpa [<- hl] using hb) fun h' tk x kp=>?_
 have hn:H s.heap.objs.size = none:=I.hok.fresh (Nat.le_refl _)
 have x2:IS X.prog X.w (!X.w.params.followText "set-order") h' s.heap.objs.size (firstMet (fun i=>ns.getD i 0) ns.length):=by
  have z:its.toArray.size = ns.length:=by simp [hl]
  rw [z] at x
  exact x
 obtain ⟨oo,_,_,_,g1,_⟩:=id x2
 refine ⟨.ref s.heap.objs.size,upd H s.heap.objs.size (setO X.prog X.w s.heap.objs.size (firstMet (fun i=>ns.getD i 0) ns.length)),I.laid (t':=tk) (fun b u e=>kp b u (Heap.lt_size e) e) (Nat.le_refl _) ?_,rfl,q _ hn⟩
 exact ⟨x2,⟨oo,g1⟩,fun h1 h2 y z=>y.keeps z⟩
noncomputable def rSortS (P:Program) (w:World):List V -> Hp -> VK -> Prop:=fun xs H Q=>∃ (a:Addr) (σ:List Int),xs = [.ref a] /\ H a = some (setO P w a σ) /\ σ.length <= sizeLine /\ ∀ (p:Addr) (ms:List Int),H p = none -> ms.Perm σ -> ms.Pairwise (· <= ·) -> Q (.ref p) (upd H p (.lst (ms.map V.int)))
theorem call_sortS {X:Cx} (hc:X.calm = true):CallR X (.builtin "sorted") (rSortS X.prog X.w):=by
 intro pins s σ H xs us Q I r h
 obtain ⟨a,τ,rfl,hs,hz,q⟩:=h
 obtain ⟨u,rfl,ru⟩:=vals1 r
 cases ru
 have x:IS X.prog X.w (!X.w.params.followText "set-order") s.heap a τ:=(I.hok a _ hs).1
 refine sorted_set (I.ok.hd hc) x hz fun h' d tk p out e kp hp g ⟨ms,m1,m2,m3⟩=>?_
 have hn:H p = none:=I.hok.fresh hp
 have J:=I.laid (a:=p) (o:=.lst (ms.map V.int)) (h':=h') (t':=tk) kp hp ⟨by rw [List.length_map,m2.length_eq]; exact hz,out.toList,e,vals_of_ints m1,by rw [g]⟩
 exact ⟨.ref p,_,⟨J.ok,J.os,J.bare,J.base,J.loc,J.cell,J.free,J.freeC,J.pin,J.hok,J.len⟩,rfl,q p ms hn m2 m3⟩
end L2
namespace L3
open PySem PySem.Spec PyProof.Rows L2
noncomputable def fSS:D -> (Sl -> Prop) -> Prop
 | .list ds,Q=>∃ ns:List Int,ds = ns.map PyData.int /\ ns.length + 1 < scanBound /\ ∀ ms:List Int,ms.Perm (firstMet (fun i=>ns.getD i 0) ns.length) -> ms.Pairwise (· <= ·) -> Q (.ow (.list (ms.map PyData.int)))
 | _,_=>False
theorem ok_SS {P:Program} {wd:World} {K:Fg}:OpOk K (fun vs H Q=>rSetI P wd K vs H fun v H1=>rSortS P wd [v] H1 Q) (o1 fSS):=ok1 fun G F σ H ρ x d Q Qd R h1 w k=>by
 cases d with
 | list ds =>
  obtain ⟨ns,e,hb,w⟩:=w
  subst e
  obtain ⟨a,us,rfl,e1,d1⟩:=h1.list R.sub
  have:=d1.ints_of
  subst this
  have sl:(firstMet (fun i=>ns.getD i 0) ns.length).length <= sizeLine:=Nat.le_trans (firstMet_length_le _ _) (fits_of_scanBound (Nat.lt_of_succ_lt hb))
  refine ⟨a,ns,rfl,SqL.of e1,hb,fun p hp=>⟨p,_,rfl,upd_same,sl,fun p2 ms hp2 m1 m2=>?_⟩⟩
  have R1:=R.laid (o:=setO P wd p (firstMet (fun i=>ns.getD i 0) ns.length)) hp
  obtain ⟨R',r'⟩:=R1.newOw (o:=.lst (ms.map V.int)) (d:=.list (ms.map PyData.int)) hp2 (DaAll.ints ms)
  exact k _ _ F _ (Sub.refl _) R' r' (w ms m1 m2)
 | _=>exact (w:False).elim
section
variable {X:Cx} {K:Fg} {e1:Expr} {a:AD} {p p2 pos pos':Pos}
theorem w_sortSet (hc:X.calm = true) (hK:X.K = K) (hm:X.mg "sorted" = none) (hm2:X.mg "set" = none) (ha:WA X [e1] (tArgs ([a].map (argT K)))) (hg:Gl X "sorted":=by rfl) (hg2:Gl X "set":=by rfl) (he:notStar e1 = true:=by rfl) :
  WE X (.Call (.Name "sorted" p) [.Call (.Name "set" p2) [e1] [] pos'] [] pos) (lift K (dOp [a] (o1 fSS))):=by
 subst hK
 exact ⟨peM (pe_callB (call_sortS hc) hg hm boot_sorted (pa_cons (pe_callTy (call_setI hc) hg2 hm2 boot_set ha.h (by decide) (by decide) (starEach_of he) (plain_of rfl)) pa_nil (starEach_of rfl)) (by decide) (by decide) (starEach_of rfl) (plain_of rfl)) fun q=>l_op ok_SS q⟩
end
end L3
namespace L2
open PySem PySem.Spec PyProof.Rows PySem.W
section
variable {P:Program} {w:World} {A:Around} {E:Value -> Shared -> Prop} {s:Shared}
theorem kind_any {vs:List Value} {ns:List Int} (hI:IntsAre vs ns) (h2:2 <= vs.length) {Q:SortKind -> Shared -> Prop} (q:Q oneType' s):wpAny (model P w) A (keyKind' vs.toArray) Q E s:=by
 match vs,h2,hI with
 | x :: y :: r,_,hI=>rw [keyKind_ints hI]; exact wpAny_pure q
 | [_],h2,_=>simp at h2
 | [],h2,_=>simp at h2
theorem sorted_any {l:Addr} {vs:List Value} {ns:List Int} {Q:Value -> Shared -> Prop} (hl:s.heap.IsList l vs.toArray) (hz:vs.length <= sizeLine) (hI:IntsAre vs ns)
  (k:∀ (out:Array Value) (ns':List Int),IntsAre out.toList ns' -> ns'.Perm ns -> ns'.Pairwise (· <= ·) -> Q (.ref (s.heap.objs.size + 1)) { s with heap:=sortedAll s.heap vs out }) :
  wpAny (model P w) A (call (.builtin "sorted") [.ref l]) Q E s:=by
 obtain ⟨v1,v2⟩:=ints_val hI
 have mem:∀ v ∈ vs,valI v ∈ ns:=fun v hv=>by rw [<- v1]; exact List.mem_map.mpr ⟨v,hv,rfl⟩
 refine sorted_rk (κ:=oneType') (rk:=rkI ns) hl hz ?_ ?_ ?_
 ·exact fun h2 s' _ E' Q' q=>kind_any hI h2 q
 ·intro s' _ x y hx hy Q' q
  obtain ⟨t1,e1⟩:=v2 x hx
  obtain ⟨t2,e2⟩:=v2 y hy
  have r:=rk_iff (mem x hx) (mem y hy)
  rw [show decide (rkI ns x < rkI ns y) = decide (valI x < valI y) from by simp only [r]] at q
  rw [keyLt'_oneType]
  generalize valI x = m1 at e1 q
  generalize valI y = m2 at e2 q
  subst e1
  subst e2
  exact oneLt_int q
 ·intro out o1 o2
  have g1:IntsAre out.toArray.toList (out.map valI):=ints_ord fun v hv=>v2 v (o1.mem_iff.mp hv)
  have g2:(out.map valI).Perm ns:=by rw [<- v1]; exact o1.map valI
  refine k out.toArray (out.map valI) g1 g2 ?_
  rw [List.pairwise_map]
  refine o2.imp_of_mem fun {x y} hx hy h=>?_
  have r:=rk_iff (mem y (o1.mem_iff.mp hy)) (mem x (o1.mem_iff.mp hx))
  omega
end
noncomputable def rSortA (K:PySem.W.Frag):List V -> Hp -> VK -> Prop:=fun xs H Q=>∃ (a:Addr) (ns:List Int),xs = [.ref a] /\ SqL K H a (ns.map V.int) /\
 ∀ (p:Addr) (ns':List Int),H p = none -> ns'.Perm ns -> ns'.Pairwise (· <= ·) -> Q (.ref p) (upd H p (.lst (ns'.map V.int)))
theorem call_sortA {X:Cx}:CallR X (.builtin "sorted") (rSortA X.K):=by
 intro pins s σ H xs us Q I r h
 obtain ⟨a,ns,rfl,hs,q⟩:=h
 obtain ⟨u,rfl,ru⟩:=vals1 r
 cases ru
 obtain ⟨its,rv,⟨o,n,e,c,d1,d2⟩,hz⟩:=I.list hs
 have hl:=rv.length
 rw [List.length_map] at hl hz
 refine sorted_any (vs:=its) (ns:=ns) ⟨o,e,c,n,by first | exact d2 | exact d1⟩ (by rw [<- hl]; exact hz) (intsAre_of rv) fun out ns' hI hp hw=>?_
 obtain ⟨ep,he⟩:=sortedAll_at s.heap its out
 have hn:H (s.heap.objs.size + 1) = none:=I.hok.fresh (Nat.le_succ _)
 have hl2:ns'.length = ns.length:=hp.length_eq
 refine ⟨.ref (s.heap.objs.size + 1),upd H (s.heap.objs.size + 1) (.lst (ns'.map V.int)),I.laid (t':=s.toks) (fun b u e=>sortedAll_old e) (Nat.le_succ _) ?_,rfl,q _ ns' hn hp hw⟩
 exact ⟨by rw [List.length_map,hl2]; exact hz,out.toList,ep,vals_of_ints hI,by rw [he]⟩
end L2
namespace L3
open PySem PySem.Spec PyProof.Rows L2
noncomputable def fSortA:D -> (Sl -> Prop) -> Prop
 | .list ds,Q=>∃ ns:List Int,ds = ns.map PyData.int /\ ∀ ns':List Int,ns'.Perm ns -> ns'.Pairwise (· <= ·) -> Q (.ow (.list (ns'.map PyData.int)))
 | _,_=>False
theorem ok_sortA {K:Fg}:OpOk K (rSortA K) (o1 fSortA):=ok1 fun G F σ H ρ x d Q Qd R h1 w k=>by
 cases d with
 | list ds =>
  obtain ⟨ns,e,w⟩:=w
  subst e
  obtain ⟨a,us,rfl,e1,d1⟩:=h1.list R.sub
  have:=d1.ints_of
  subst this
  refine ⟨a,ns,rfl,SqL.of e1,fun p ns' hp h2 h3=>?_⟩
  obtain ⟨R',r'⟩:=R.newOw (o:=.lst (ns'.map V.int)) (d:=.list (ns'.map PyData.int)) hp (DaAll.ints ns')
  exact k _ _ F _ (Sub.refl _) R' r' (w ns' h2 h3)
 | _=>exact (w:False).elim
theorem call_sortAK {X:Cx} {K:Fg} (h:X.K = K):CallR X (.builtin "sorted") (rSortA K):=by subst h; exact call_sortA
end L3
namespace HT
open PySem PyProof.Rows
section
open PySem.SeqAt
open PySem.AutoSeq1 (wpAny_loadPart')
open PySem.MeetsSeq PySem.MeetsSeq2 PySem.MeetsSeq3
variable {prog:Program} {w:World} {A:Around} {E:Value -> Shared -> Prop} {s:Shared}
theorem whole_tup {t sl:Addr} {items:Array Value} {vl vu:Value} {lo hi:Option Int} {Q:Value -> Shared -> Prop} (hT:IsTup s.heap t items) (hS:s.heap.IsSliceOf sl vl vu .none) (p1:IsPart vl lo) (p2:IsPart vu hi)
  (z1:sIx items.size 0 lo = 0) (z2:sIx items.size items.size hi = items.size) (q:Q (.ref t) s):wpAny (model prog w) A (getItem (.ref t) (.ref sl)) Q E s:=by
 obtain ⟨os,g1,g2,g3⟩:=id hS
 have tS:s.TypeIs (.ref sl) "slice":=⟨os,g1,g2⟩
 unfold getItem
 try with_reducible refine wpAny_holding ?_
 first | refine wpAny_bind (wpAny_pure ?_) | skip
 refine wpAny_bind (wpAny_sequenceKey hT.typeIs (by decide) ?_)
 refine wpAny_bind (wpAny_callSpecial?_slot (name:=Str.ofString "__getitem__") hT.typeIs PyProof.Rows.slot_tuple_getitem (wpAny_call_entry PyProof.Rows.slot_tuple_getitem hT.typeIs entry_tuple_getitem ?_ (args_tuple_getitem _ _)))
 show wpAny _ _ (Builtin.Tuple.tupleItemsOf (.ref t) >>= _) _ _ s
 refine wpAny_bind (tupleItemsOf_ hT (wpAny_bind (wpAny_typeOf tS ?_)))
 rw [if_pos (by decide)]
 refine wpAny_bind (sliceApplied_gen hS p1 p2 ?_)
 have yes:((((sIx items.size 0 lo:Nat):Int) == 0 && (1:Int) == 1 && (sIx items.size items.size hi - sIx items.size 0 lo) == items.size) = true):=by
  rw [z1,z2]
  simp
 show wpAny _ _ (if (((sIx items.size 0 lo:Nat):Int) == 0 && (1:Int) == 1 && (sIx items.size items.size hi - sIx items.size 0 lo) == items.size) = true then _ else _) _ _ s
 rw [if_pos yes]
 refine wpAny_bind (m:=Builtin.Tuple.tupleIsExact _) (wpAny_bind (wpAny_typeOf hT.typeIs (wpAny_pure ?_)))
 rw [if_pos (by decide)]
 exact wpAny_bind (wpAny_rule (wpAny_pure ⟨_,rfl,wpAny_pure q⟩))
end
end HT
namespace L2
open PySem PySem.Spec PyProof.Rows
noncomputable def rSlA (K:PySem.W.Frag):V -> Option Int -> Option Int -> Hp -> VK -> Prop:=fun x lo hi H Q=>∃ a xs,x = .ref a /\ SqT K H a xs /\
 (cutV xs lo hi = xs -> Q (.ref a) H) /\ ∀ p,H p = none -> Q (.ref p) (upd H p (.tup (cutV xs lo hi)))
theorem sl_tupA {X:Cx}:SlR X (rSlA X.K):=by
 intro pins s σ H x v vl vu lo hi sl Q I rx hS p1 p2 h
 obtain ⟨a,xs,rfl,hx,q1,q2⟩:=h
 by_cases z:HT.sIx xs.length 0 lo = 0 /\ HT.sIx xs.length xs.length hi = xs.length
 ·cases rx
  obtain ⟨its,r,hT,hz⟩:=I.tuple hx
  have hl:its.toArray.size = xs.length:=by rw [List.size_toArray]; exact r.length.symm
  refine ⟨"tuple",_,PyProof.Rows.slot_tuple_getitem.lookup,hT.typeIs,HT.whole_tup hT hS p1 p2 (by rw [hl]; exact z.1) (by rw [hl]; exact z.2) ⟨.ref a,H,I,rfl,q1 ?_⟩⟩
  unfold cutV
  rw [z.1,z.2]
  simp
 ·exact sl_tup pins s σ H (.ref a) v vl vu lo hi sl Q I rx hS p1 p2 ⟨a,xs,rfl,hx,z,q2⟩
theorem cutV_nn (xs:List V) {i j:Int} (hi:0 <= i) (hj:0 <= j):cutV xs (some i) (some j) = (xs.take j.toNat).drop i.toNat:=by
 unfold cutV
 have e1:HT.sIx xs.length 0 (some i) = min i.toNat xs.length:=by
  show (if i < 0 then (i + (xs.length:Int)).toNat else min i.toNat xs.length) = _
  rw [if_neg (by omega)]
 have e2:HT.sIx xs.length xs.length (some j) = min j.toNat xs.length:=by
  show (if j < 0 then (j + (xs.length:Int)).toNat else min j.toNat xs.length) = _
  rw [if_neg (by omega)]
 rw [e1,e2,List.drop_take]
 by_cases h:i.toNat <= xs.length
 ·rw [Nat.min_eq_left h]
  by_cases h2:j.toNat <= xs.length
  ·rw [Nat.min_eq_left h2]
  ·rw [Nat.min_eq_right (by omega),List.take_of_length_le (by rw [List.length_drop]; omega),List.take_of_length_le (by rw [List.length_drop]; omega)]
 ·rw [List.drop_of_length_le (by omega),List.drop_of_length_le (by omega)]
  simp
theorem cutV_hi (xs:List V) {j:Int} (hj:0 <= j):cutV xs none (some j) = xs.take j.toNat:=by
 unfold cutV
 have e2:HT.sIx xs.length xs.length (some j) = min j.toNat xs.length:=by
  show (if j < 0 then (j + (xs.length:Int)).toNat else min j.toNat xs.length) = _
  rw [if_neg (by omega)]
 rw [e2]
 show (xs.drop 0).take (min j.toNat xs.length - 0) = _
 rw [List.drop_zero,Nat.sub_zero]
 by_cases h2:j.toNat <= xs.length
 ·rw [Nat.min_eq_left h2]
 ·rw [Nat.min_eq_right (by omega),List.take_of_length_le (by omega),List.take_of_length_le (by omega)]
noncomputable def rCount2:R2:=fun x y H Q=>∃ (a:Addr) (ns:List Int) (n:Int),x = .ref a /\ y = .int n /\ H a = some (.tup (ns.map V.int)) /\ Q (.int (ns.count n:Nat)) H
theorem pe_countV {X:Cx} {o e2:Expr} {to:TE} {j:Nat} {apos cpos:Pos} (ho:PE X o to) (h2:PE X e2 (tVar j)) (hn:L3.notStar e2 = true)
  (hbase:attributeBase o "count" X.env (eval o X.env) = eval o X.env:=by rfl) (hline:(apos.endLine == cpos.line) = true:=by rfl) :
  PE X (.Call (.Attribute o "count" apos) [e2] [] cpos) (tOp rCount2 to (tVar j)):=by
 intro pins s σ H Q I h
 have hS:starEach [e2] X.env = [(false,eval e2 X.env)]:=L3.starEach_of hn
 refine wpAny_Call_method_late hbase (by rw [hS]; rfl) hline rfl (thn (ho pins s σ H _ I h) fun v s1 ⟨x,H1,I1,r1,q1⟩=>?_)
 obtain ⟨y,ey,a,ns,n,rfl,rfl,hH,q⟩:=q1
 cases r1
 obtain ⟨z,its,rv,⟨cls,dd,data,sl⟩,e,c,m,d,dn⟩:=(show ObjOk X.prog X.w H1 s1.heap a (.tup (ns.map V.int)) from I1.hok a _ hH)
 simp only at c d dn
 subst c d dn
 refine ⟨"tuple","tuple.count",PySem.F.plainAttrs_tuple,PySem.F.slot_tuple_count,PySem.F.type_tuple_count,⟨_,e,rfl⟩,fun b eb=>by cases eb; exact ⟨_,e,rfl⟩,?_⟩
 have hA:=(pa_cons (X:=X) (e:=e2) h2 pa_nil hS) cpos pins s1 σ H1 (fun xs H2=>xs = [.int n] /\ Q (.int (ns.count n:Nat)) H2 /\ H2 a = some (.tup (ns.map V.int))) I1 ⟨_,ey,rfl,q,hH⟩
 rw [hS] at hA ⊢
 refine Calls.callWith_builtin rfl (Calls.evalArgs_plain ?_)
 refine thn hA fun us s2 ⟨vs,H2,I2,r2,q2⟩=>?_
 obtain ⟨rfl,q2,hH2⟩:=q2
 obtain ⟨u,rfl,⟨t,rfl⟩⟩:=vals1 r2
 obtain ⟨z,its,rv,⟨cls,dd,data,sl⟩,e,c,m,d,dn⟩:=(show ObjOk X.prog X.w H2 s2.heap a (.tup (ns.map V.int)) from I2.hok a _ hH2)
 simp only at c d dn
 subst c d dn
 have hi:IntsAre its ns:=intsAre_of rv
 refine call_meets PySem.F.slot_tuple_count ⟨_,e,rfl⟩ PySem.F.entry_tuple_count (PySem.F.args_tuple_count_2 _ _) (SeqAt.tuple_countAt a its.toArray m none sl (.int n t) (isInt n)) ⟨e,fun y hy=>(eq_isInt n t hi y (by simpa using hy)).at _ _,?_⟩
 rw [show its.toArray.toList = its from rfl,countP_isInt n hi]
 exact ⟨.int (ns.count n:Nat),H2,I2.tok _,⟨_,rfl⟩,q2⟩
end L2
namespace L3
open PySem PySem.Spec PyProof.Rows L2
noncomputable def dSl3 (a b c:AD) (f:D -> Int -> Int -> (Sl -> Prop) -> Prop):TD:=fun ρ Q=>dArgs [a,b] ρ fun xs ρ1=>looksQ ρ1 xs fun ds=>match ds with
 | [_,.int i]=>dArgs [c] ρ1 fun zs ρ2=>looksQ ρ2 (xs.take 1 ++ zs) fun es=>match es with
  | [d,.int j]=>f d i j fun r=>Q r ρ2
  | _=>False
 | _=>False
noncomputable def SlOk (K:Fg) (r:V -> Option Int -> Option Int -> Hp -> VK -> Prop) (f:D -> Int -> Int -> (Sl -> Prop) -> Prop):Prop :=
 ∀ (G:Gh) (F:Hp) (σ:L2.St) (H:Hp) (ρ:Ev) (x:V) (i j:Int) (d:D) (Q:VK) (Qd:Sl -> Prop),Rel K G F σ H ρ -> At K F H x d -> f d i j Qd ->
  (∀ v H' F' s,Sub F F' -> Rel K G F' σ H' ρ -> Res K G F' H' σ ρ v s -> Qd s -> Q v H') -> r x (some i) (some j) H Q
theorem l_sl3 {K:Fg} {a b c:AD} {r:V -> Option Int -> Option Int -> Hp -> VK -> Prop} {f:D -> Int -> Int -> (Sl -> Prop) -> Prop} (ok:SlOk K r f) {σ:L2.St} {H:Hp} {Q:VK} (h:lift K (dSl3 a b c f) σ H Q):tSl r (argT K a) (tPart (argT K b)) (tPart (argT K c)) σ H Q:=by
 obtain ⟨G,F,ρ,Qd,R,w,k⟩:=h
 have main:tArgs ([a,b].map (argT K)) σ H fun vs H2=>∃ x y,vs = [x,y] /\ ∃ i,y = .int i /\ argT K c σ H2 fun z H3=>∃ j,z = .int j /\ r x (some i) (some j) H3 Q:=by
  refine args_ok R w fun vs H' F' xs ρ' sb R' o w1=>?_
  obtain ⟨ds,ha,w1⟩:=looks_ok R' o w1
  split at w1
  ·rename_i dx i
   obtain ⟨v,u,rfl,h1,h2⟩:=ha.two
   cases h2.int
   refine ⟨_,_,rfl,i,rfl,?_⟩
   refine arg1 (args_ok (as:=[c]) (Qv:=fun vs H4=>∃ z,vs = [z] /\ ∃ j,z = .int j /\ r v (some i) (some j) H4 Q) R' w1 fun vs H2 F2 ys ρ2 s2 R2 o2 w2=>?_)
   cases o with | cons p1 t1=>?_
   cases t1 with | cons p2 t2=>?_
   cases t2
   obtain ⟨es,hb,w2⟩:=looks_ok R2 (OpdsAt.cons (p1.mono s2) o2) w2
   split at w2
   ·rename_i d j
    cases hb with | cons q1 t3=>?_
    obtain ⟨v3,rfl,h3⟩:=t3.one
    cases h3.int
    exact ⟨_,rfl,j,rfl,ok G F2 σ H2 ρ2 v i j d Q _ R2 q1 w2 fun v' H3 F3 s3 sb3 R3 r3 q3=>k v' H3 F3 s3 ρ2 (sb.trans (s2.trans sb3)) R3 r3 q3⟩
   ·exact w2.elim
  ·exact w1.elim
 exact arg2 main
noncomputable def rSl2 (r:V -> Option Int -> Option Int -> Hp -> VK -> Prop):R2:=fun x z H Q=>∃ j,z = .int j /\ r x none (some j) H Q
noncomputable def fSl3T:D -> Int -> Int -> (Sl -> Prop) -> Prop
 | .tuple ds,i,j,Q=>0 <= i /\ 0 <= j /\ Q (.fz (.tuple ((ds.take j.toNat).drop i.toNat)))
 | _,_,_,_=>False
noncomputable def fSl3L:D -> Int -> Int -> (Sl -> Prop) -> Prop
 | .list ds,i,j,Q=>0 <= i /\ 0 <= j /\ Q (.ow (.list ((ds.take j.toNat).drop i.toNat)))
 | _,_,_,_=>False
noncomputable def fSl2T:D -> D -> (Sl -> Prop) -> Prop
 | .tuple ds,.int j,Q=>0 <= j /\ Q (.fz (.tuple (ds.take j.toNat)))
 | _,_,_=>False
theorem ok_sl3T {K:Fg}:SlOk K (rSlA K) fSl3T:=fun G F σ H ρ x i j d Q Qd R h1 w k=>by
 cases d <;> first | exact w.elim | skip
 rename_i ds
 obtain ⟨w1,w2,w⟩:=w
 obtain ⟨a,us,rfl,f1,e1,d1⟩:=h1.tuple R.sub
 have dc:=(d1.take j.toNat).drop i.toNat
 refine ⟨a,us,rfl,SqT.of e1,fun z=>?_,fun p hp=>?_⟩
 ·rw [cutV_nn us w1 w2] at z
  refine k _ H F (.fz _) (Sub.refl _) R (Da.tup f1 ?_) w
  rw [z] at dc
  exact dc
 ·rw [cutV_nn us w1 w2]
  obtain ⟨sb,R',dd⟩:=R.newTup hp dc
  exact k _ _ _ (.fz _) sb R' dd w
theorem ok_sl3L {K:Fg}:SlOk K (rSlL K) fSl3L:=fun G F σ H ρ x i j d Q Qd R h1 w k=>by
 cases d <;> first | exact w.elim | skip
 rename_i ds
 obtain ⟨w1,w2,w⟩:=w
 obtain ⟨a,us,rfl,e1,d1⟩:=h1.list R.sub
 refine ⟨a,us,rfl,SqL.of e1,fun p hp=>?_⟩
 rw [cutV_nn us w1 w2]
 obtain ⟨R',r'⟩:=R.newOw (o:=.lst ((us.take j.toNat).drop i.toNat)) (d:=.list ((ds.take j.toNat).drop i.toNat)) hp ((d1.take j.toNat).drop i.toNat)
 exact k _ _ F _ (Sub.refl _) R' r' w
theorem ok_sl2T {K:Fg}:OpOk K (r2L (rSl2 (rSlA K))) (o2 fSl2T):=ok2 fun G F σ H ρ x y d e Q Qd R h1 h2 w k=>by
 cases d <;> first | exact w.elim | (cases e <;> first | exact w.elim | skip)
 rename_i ds j
 obtain ⟨w1,w⟩:=w
 cases h2.int
 obtain ⟨a,us,rfl,f1,e1,d1⟩:=h1.tuple R.sub
 have dc:=d1.take j.toNat
 refine ⟨j,rfl,a,us,rfl,SqT.of e1,fun z=>?_,fun p hp=>?_⟩
 ·rw [cutV_hi us w1] at z
  refine k _ H F (.fz _) (Sub.refl _) R (Da.tup f1 ?_) w
  rw [z] at dc
  exact dc
 ·rw [cutV_hi us w1]
  obtain ⟨sb,R',dd⟩:=R.newTup hp dc
  exact k _ _ _ (.fz _) sb R' dd w
noncomputable def fCount2:D -> D -> (Sl -> Prop) -> Prop
 | .tuple ds,.int n,Q=>∃ ns:List Int,ds = ns.map PyData.int /\ Q (.fz (.int (ns.count n:Nat)))
 | _,_,_=>False
theorem ok_count2 {K:Fg}:OpOk K (r2L rCount2) (o2 fCount2):=ok2 fun G F σ H ρ x y d e Q Qd R h1 h2 w k=>by
 cases d <;> first | exact w.elim | (cases e <;> first | exact w.elim | skip)
 rename_i ds n
 obtain ⟨ns,e,w⟩:=w
 subst e
 cases h2.int
 obtain ⟨a,us,rfl,_,e1,d1⟩:=h1.tuple R.sub
 have:=d1.intsV
 subst this
 exact ⟨a,ns,n,rfl,rfl,e1,k _ H F (.fz _) (Sub.refl _) R (Da.int _) w⟩
section
variable {X:Cx} {K:Fg} {e1 e2 e3:Expr} {a b c:AD} {p pos p2 apos cpos:Pos} {x:Str}
theorem w_sl3T (hK:X.K = K) (ha:WE X e1 (argT K a)) (hb:WE X e2 (argT K b)) (hc:WE X e3 (argT K c)):WE X (.Subscript e1 (.Slice (some e2) (some e3) none p2) pos) (lift K (dSl3 a b c fSl3T)):=by
 subst hK
 exact ⟨peM (pe_slice sl_tupA ha.h (po_some hb.h) (po_some hc.h)) fun q=>l_sl3 ok_sl3T q⟩
theorem w_sl3L (hK:X.K = K) (ha:WE X e1 (argT K a)) (hb:WE X e2 (argT K b)) (hc:WE X e3 (argT K c)):WE X (.Subscript e1 (.Slice (some e2) (some e3) none p2) pos) (lift K (dSl3 a b c fSl3L)):=by
 subst hK
 exact ⟨peM (pe_slice sl_list ha.h (po_some hb.h) (po_some hc.h)) fun q=>l_sl3 ok_sl3L q⟩
theorem w_sl2T (hK:X.K = K) (ha:WE X e1 (argT K a)) (hb:WE X e2 (argT K b)):WE X (.Subscript e1 (.Slice none (some e2) none p2) pos) (lift K (dOp [a,b] (o2 fSl2T))):=by
 subst hK
 exact ⟨peM (pe_slice sl_tupA ha.h po_none (po_some hb.h)) fun q=>arg2 (P:=fun x z H=>rSl2 (rSlA X.K) x z H _) (l_op ok_sl2T q)⟩
theorem w_countE {n:Int} {k:Nat} (ho:WE X e1 (argT K a)) (hbase:attributeBase e1 "count" X.env (eval e1 X.env) = eval e1 X.env:=by rfl) (hline:(apos.endLine == cpos.line) = true:=by rfl) :
  WE X (.Call (.Attribute e1 "count" apos) [.Constant (.int n) k p2] [] cpos) (lift K (dOp [a] (o1 (fCountT n)))):=⟨cvu ok_countT (pe_count ho.h hbase hline)⟩
theorem w_countV {j:Nat} (ho:WE X e1 (argT K a)) (h2:WE X (.Name x p) (argT K (.inl j))) (hbase:attributeBase e1 "count" X.env (eval e1 X.env) = eval e1 X.env:=by rfl) (hline:(apos.endLine == cpos.line) = true:=by rfl) :
  WE X (.Call (.Attribute e1 "count" apos) [.Name x p] [] cpos) (lift K (dOp [a,.inl j] (o2 fCount2))):=⟨cv2 ok_count2 (pe_countV ho.h h2.h rfl hbase hline)⟩
end
end L3
namespace L3
open PySem PySem.Spec PyProof.Rows L2
theorem rel_call4 {K:Fg} {H:Hp} {g:Addr} {ys:List V} {ds:List D} {k h n:Int} (hg:H g = some (.lst ys)) (hd:DaAll K (only g (.lst ys)) ys ds) :
  Rel K ⟨H,only g (.lst ys),fun _=>none⟩ (only g (.lst ys)) [some (.ref g),some (.int k),some (.int h),some (.int n)] H [some (.fz (.list ds)),some (.fz (.int k)),some (.fz (.int h)),some (.fz (.int n))]:=by
 refine ⟨rfl,fun b u e=>?_,Sub.refl _,fun _ _ e=>.inl e,fun _ _ e _=>e,fun i d e=>?_,fun i s e w=>?_,fun i d a e ea=>?_,fun i a e=>(by cases e),fun i d e=>?_,fun i j s u a e1 w1 e2 w2 _ _=>?_⟩
 ·obtain ⟨rfl,rfl⟩:=only_is e; exact hg
 ·match i,e with
  | 0,e=>cases e; exact ⟨_,rfl,.lst (by unfold only; rw [if_pos rfl]) hd⟩
  | 1,e=>cases e; exact ⟨_,rfl,.int _⟩
  | 2,e=>cases e; exact ⟨_,rfl,.int _⟩
  | 3,e=>cases e; exact ⟨_,rfl,.int _⟩
  | i + 4,e=>simp at e
 ·match i,e with
  | 0,e=>cases e; cases w
  | 1,e=>cases e; cases w
  | 2,e=>cases e; cases w
  | 3,e=>cases e; cases w
  | i + 4,e=>simp at e
 ·match i,e with
  | 0,e=>cases e
  | 1,e=>cases e
  | 2,e=>cases e
  | 3,e=>cases e
  | i + 4,e=>simp at e
 ·match i,e with
  | 0,e=>cases e
  | 1,e=>cases e
  | 2,e=>cases e
  | 3,e=>cases e
  | i + 4,e=>simp at e
 ·match i,e1 with
  | 0,e1=>cases e1; cases w1
  | 1,e1=>cases e1; cases w1
  | 2,e1=>cases e1; cases w1
  | 3,e1=>cases e1; cases w1
  | i + 4,e1=>simp at e1
noncomputable def dNest2 (x i j m:Nat) (con:Con) (c:TTD):TDS:=fun E ρ=>∃ (ns:List Int) (k h n:Int),ρ[i]? = some (some (.ow (.list (ns.map .int)))) /\ ρ[j]? = some (some (.fz (.tuple [.int k,.int h]))) /\ ρ[m]? = some (some (.fz (.int n))) /\ noIo ρ x /\
 con [.fz (.list (ns.map .int)),.fz (.int k),.fz (.int h),.fz (.int n)] fun r _=>∃ (v:Int) (t0 rest:List D),r = .fz (.tuple [.int v,.list (.tuple t0 :: rest)]) /\
  c ((frz ρ).set x (some (.fz (.tuple [.int v,.list (.tuple t0 :: rest)])))) fun b _=>if b = true then E.rt (.fz (.bool false)) (ρ.set x none) else E.nx (ρ.set x none)
theorem noIo_frz {ρ:Ev} {x:Nat} (nx:noIo ρ x):noIo (frz ρ) x:=by
 unfold noIo
 cases e:(frz ρ)[x]? with
 | none =>
  unfold noIo at nx
  unfold frz at e
  rw [List.getElem?_map,Option.map_eq_none_iff] at e
  rw [e] at nx
  exact nx
 | some y =>
  cases y with
  | none=>trivial
  | some s=>obtain ⟨s',_,rfl⟩:=frz_get e; trivial
theorem l_nest2 {K:Fg} {x i j m:Nat} {con:Con} {c:TTD} {E:Ends} {σ:L2.St} {H:Hp} (h:liftS K (dNest2 x i j m con c) E σ H) :
  tSeq (tAsg (tCall (conSp K con) [] E0 (tCons (tVar i) (tCons (tOp (rIxT K) (tVar j) (tC (.int 0))) (tCons (tOp (rIxT K) (tVar j) (tC (.int 1))) (tCons (tVar m) tNil))))) (gName x)) (tSeq (tIfS (liftT K c) (tRet (tC (.bl false))) tNext)
    (tDrop (tBM0 K "list" rClear (tOp (rIxT K) (tVar x) (tC (.int 1)))))) E σ H:=by
 obtain ⟨G,F,ρ,D,R,⟨ns,k,h,n,ei,ej,em,nx,w⟩,nn,r,b,ct⟩:=h
 obtain ⟨g,og,hvi,fg,hg,owg⟩:=R.ow i _ ei rfl
 obtain ⟨vj,hvj,dj⟩:=R.fz j _ ej
 obtain ⟨vm,hvm,dm⟩:=R.fz m _ em
 cases dm
 cases dj with
 | tup ht hd =>
  rename_i t xs
  have ht:=R.sub _ _ ht
  cases hd with
  | cons d1 hd =>
   cases hd with
   | cons d2 hd =>
    cases hd
    cases d1
    cases d2
    cases og with
    | lst ys =>
     have owg:DaAll K F ys (ns.map PyData.int):=owg
     have eys:=(ints_only (F':=F) owg).1
     have Rc:=rel_call4 (K:=K) (k:=k) (h:=h) (n:=n) hg (ints_only owg).2
     refine ⟨_,hvi,_,hvj,t,_,0,.int k,rfl,rfl,SqT.of ht,atI_nat (j:=0) rfl,_,hvj,t,_,1,.int h,rfl,rfl,SqT.of ht,atI_nat (j:=1) rfl,_,hvm,⟨_,_,_,_,Rc,w,fun v H1 F1 r1 ρ1 s1 R1 res1 ⟨vv,t0,rest,er,w1⟩=>?_⟩⟩
     subst er
     have res1:Da K F1 v (.tuple [.int vv,.list (.tuple t0 :: rest)]):=res1
     have hH:Sub H H1:=fun q u e=>R1.keep q u e fun k hk=>by cases hk
     have Rm:=R.more hH
     have Rb:=Rm.blank (v:=v) nx
     have hda:Da K H1 v (.tuple [.int vv,.list (.tuple t0 :: rest)]):=res1.mono R1.sub
     have Rt:=Rm.all.asg (s:=.fz (.tuple [.int vv,.list (.tuple t0 :: rest)])) (noIo_frz nx) hda
     refine ⟨_,_,_,_,Rt,w1,fun b2 H2 F2 ρ2 s2 R2 q2=>?_⟩
     have h12:Sub H1 H2:=s2.trans R2.sub
     have Rb2:=Rb.more h12
     have hlx:x < σ.length:=by
      unfold noIo at nx
      cases e:ρ[x]? with
      | none=>rw [e] at nx; exact nx.elim
      | some y=>rw [R.len]; exact lt_of_get e
     have sx:(σ.set x (some v))[x]? = some (some v):=set_get hlx
     cases b2 with
     | true=>exact r (.bl false) _ H2 F (.fz (.bool false)) _ (Sub.refl _) Rb2 (Da.bl false) q2
     | false =>
      cases res1 with
      | tup hta hda' =>
       rename_i ta xs'
       cases hda' with
       | cons e1 hda' =>
        cases hda' with
        | cons e2 hda' =>
         cases hda'
         cases e2 with
         | lst hb0 db0 =>
          rename_i b0 us
          have hb2:H2 b0 = some (.lst us):=h12 _ _ (R1.sub _ _ hb0)
          have hta2:=h12 _ _ (R1.sub _ _ hta)
          have nb0:H b0 = none:=by
           rcases R1.fn b0 _ hb0 with z | z
           ·exfalso
            obtain ⟨_,z⟩:=only_is z
            cases z
            cases db0 with
            | cons d0 _ =>
             cases d0 with
             | tup _ _ =>
              cases ns with
              | nil=>cases eys
              | cons y ns=>cases eys
           ·exact z
          have nobx:∀ (k:Nat) (s:Sl),(ρ.set x none)[k]? = some (some s) -> isOw s = true -> (σ.set x (some (V.ref ta)))[k]? ≠ some (some (V.ref b0)):=fun k s e w' z=>by
           rcases get_set e with ⟨rfl,u⟩ | ⟨nk,u⟩
           ·cases u
           ·rw [List.getElem?_set_ne (Ne.symm nk)] at z
            exact R.nobody nb0 k s u w' z
          have Rc1:=Rb2.scrap (o:=.lst []) (R.f0 nb0) (R.h0 nb0) nobx
          refine ⟨_,sx,ta,_,1,.ref b0,rfl,rfl,SqT.of hta2,atI_nat (j:=1) rfl,.inl ⟨rfl,_,SqL.of hb2⟩,b0,_,rfl,rfl,hb2,?_⟩
          exact nn _ _ F _ (Sub.refl _) Rc1 q2
    | _=>exact (owg:False).elim
section
variable {X:Cx} {K:Fg} {ec:Expr} {p p1 p2 p3 p4 p5 p6 p7 p8 p9 pa pb pc pd pe pf pg ph pi' pj pk pl:Pos} {x y a b c:Str} {tc:TTD}
theorem b_nest2 {i j m n k:Nat} {kk k2 k3 k4:Nat} {ps:List Str} {con:Con} (C:Cal X.prog X.w X.K X.mg X.base k y ps (conSp K con)) (hr:Room k X.A) (hK:X.K = K) (hi:WE X (.Name a p1) (argT K (.inl i))) (hj:WE X (.Name b p2) (argT K (.inl j))) (hj2:WE X (.Name b p4) (argT K (.inl j))) (hm:WE X (.Name c p5) (argT K (.inl m)))
  (hN:X.N.Nodup) (ht:X.N[n]? = some x) (hx:Loc X.env.scope x) (hv:WE X (.Name x p3) (argT K (.inl n))) (htc:WT X ec (liftT K tc))
  (hf:X.fn x = true \/ X.env.scope.names.lookup x = some .local:=by first | exact .inl rfl | exact .inr rfl | assumption) (hg:Gl X y:=by rfl) (hdb:(y == ("__debug__":Str)) = false:=by decide)
  (hb1:attributeBase (.Subscript (.Name x p3) (.Constant (.int 1) k2 pk) p6) "clear" X.env (eval (.Subscript (.Name x p3) (.Constant (.int 1) k2 pk) p6) X.env) = eval (.Subscript (.Name x p3) (.Constant (.int 1) k2 pk) p6) X.env:=by rfl)
  (hl1:(p7.endLine == p8.line) = true:=by rfl) :
  WSs X [.Assign [.Name x pc] (.Call (.Name y pd) [.Name a p1,.Subscript (.Name b p2) (.Constant (.int 0) k3 pl) p9,.Subscript (.Name b p4) (.Constant (.int 1) k4 pa) pb,.Name c p5] [] pe) pf,.If ec [.Return (some (.Constant (.bool false) kk pg)) ph] [] pi',
    .Expr (.Call (.Attribute (.Subscript (.Name x p3) (.Constant (.int 1) k2 pk) p6) "clear" p7) [] [] p8) pj] (liftS K (dNest2 n i j m con tc)):=by
 subst hK
 exact ⟨pssM (pss_cons (ps_set hN ht hx (pe_fn C hr (pa_cons hi.h (pa_cons (pe_ix ix_tup hj.h pe_int (fun _ _=>rfl)) (pa_cons (pe_ix ix_tup hj2.h pe_int (fun _ _=>rfl)) (pa_cons hm.h pa_nil)))) hg hdb) rfl hf) (pss_cons (ps_if htc.h (pss_one (ps_ret pe_bl)) pss_nil)
   (pss_one (ps_expr (pe_bm0 PySem.F.plainAttrs_list PySem.F.slot_list_clear PySem.F.type_list_clear mt_clear (pe_ix ix_tup hv.h pe_int (fun _ _=>rfl)) hb1 hl1))))) l_nest2⟩
end
noncomputable def fLR1:D -> (Sl -> Prop) -> Prop
 | .int j,Q=>RngB 0 j /\ j.toNat <= 2 ^ 24 /\ Q (.ow (.list (rangeD 0 j.toNat)))
 | _,_=>False
theorem ok_LR1a {K:Fg} {G:Gh} {F:Hp} {σ:L2.St} {H:Hp} {ρ:Ev} {x:V} {j:Int} {Q:VK} {Qd:Sl -> Prop} (R:Rel K G F σ H ρ) (h1:At K F H x (.int j)) (w:fLR1 (.int j) Qd) (k:∀ v H' F' s,Sub F F' -> Rel K G F' σ H' ρ -> Res K G F' H' σ ρ v s -> Qd s -> Q v H'):rRng [x] H fun v H1=>rLstRng [v] H1 Q:=by
 cases h1.int
 refine ⟨0,j,.inr ⟨rfl,rfl⟩,fun p hp=>⟨p,0,j,rfl,upd_same,w.1,by have:=w.2.1; omega,fun l hl=>?_⟩⟩
 have ej:(j - 0).toNat = j.toNat:=by omega
 rw [ej]
 have R1:Rel K G F σ (upd H p (.rng 0 j)) ρ:=R.laid hp
 have da:DaAll K F ((List.range j.toNat).map fun (n:Nat)=>V.int (0 + n)) (rangeD 0 j.toNat):=by
  have:=DaAll.ints (K:=K) (F:=F) ((List.range j.toNat).map fun (n:Nat)=>(0:Int) + (n:Int))
  simpa [rangeD,List.map_map,Function.comp_def] using this
 obtain ⟨R',r'⟩:=R1.newOw (o:=.lst _) (d:=.list (rangeD 0 j.toNat)) hl da
 exact k _ _ F _ (Sub.refl _) R' r' w.2.2
theorem ok_LR1 {K:Fg}:OpOk K (fun vs H Q=>rRng vs H fun v H1=>rLstRng [v] H1 Q) (o1 fLR1):=ok1 fun G F σ H ρ x d Q Qd R h1 w k=>by
 cases d with
 | int j=>exact ok_LR1a R h1 w k
 | _=>exact w.elim
section
variable {X:Cx} {K:Fg} {e e1:Expr} {a:AD} {p p2 pos pos':Pos}
theorem cv_LR1 (h:PE X e (tCB rLstRng (tCons (tCB rRng (tArgs ([a].map (argT K)))) tNil))):PE X e (lift K (dOp [a] (o1 fLR1))):=peM h fun q=>l_op ok_LR1 q
theorem w_LR1 (hc:X.calm = true) (hm:X.mg "list" = none) (hm2:X.mg "range" = none) (ha:WA X [e1] (tArgs ([a].map (argT K)))) (hg:Gl X "list":=by rfl) (hg2:Gl X "range":=by rfl) (he:notStar e1 = true:=by rfl) :
  WE X (.Call (.Name "list" p) [.Call (.Name "range" p2) [e1] [] pos'] [] pos) (lift K (dOp [a] (o1 fLR1))) :=
 ⟨cv_LR1 (pe_callTy (call_lstRng hc) hg hm boot_list (pa_cons (pe_callTy call_rng hg2 hm2 boot_range ha.h (by decide) (by decide) (starEach_of he) (plain_of rfl)) pa_nil (starEach_of rfl)) (by decide) (by decide) (starEach_of rfl) (plain_of rfl))⟩
end
end L3
namespace R40
open PySem L2 L3 PyProof.Rows
noncomputable def top (i:Nat):Stmt:=PySem.Challenge.pw_boxsums_k40_the_so_manieth.main.body.getD i (.Pass ⟨0,0,0,0⟩)
structure Txt (mg:Str -> Option Value):Prop where
 len_:mg "len" = none
 max_:mg "max" = none
 min_:mg "min" = none
 all_:mg "all" = none
 isinstance_:mg "isinstance" = none
 tuple_:mg "tuple" = none
 list_:mg "list" = none
 dict_:mg "dict" = none
 set_:mg "set" = none
 int_:mg "int" = none
 bool_:mg "bool" = none
 range_:mg "range" = none
 zip_:mg "zip" = none
 enumerate_:mg "enumerate" = none
 repr_:mg "repr" = none
 sorted_:mg "sorted" = none
 ValueError_:mg "ValueError" = none
 BoxError_:mg "BoxError" = some (.ref (cA mg "BoxError"))
 NoField_:mg "NoField" = some (.ref (cA mg "NoField"))
 NoBox_:mg "NoBox" = some (.ref (cA mg "NoBox"))
 NoNumber_:mg "NoNumber" = some (.ref (cA mg "NoNumber"))
 NoTurn_:mg "NoTurn" = some (.ref (cA mg "NoTurn"))
 NoText_:mg "NoText" = some (.ref (cA mg "NoText"))
 NoRow_:mg "NoRow" = some (.ref (cA mg "NoRow"))
 NoBack_:mg "NoBack" = some (.ref (cA mg "NoBack"))
structure Cls (K:PySem.W.Frag) (mg:Str -> Option Value):Prop where
 BoxError_e:ExcC K (cA mg "BoxError")
 NoNumber_e:ExcC K (cA mg "NoNumber")
 NoNumber_q:ExcQ K (cA mg "NoNumber")
 NoField_c:clsIn K (cA mg "NoField") = true
 NoBox_c:clsIn K (cA mg "NoBox") = true
 NoNumber_c:clsIn K (cA mg "NoNumber") = true
 NoTurn_c:clsIn K (cA mg "NoTurn") = true
 NoText_c:clsIn K (cA mg "NoText") = true
 NoRow_c:clsIn K (cA mg "NoRow") = true
 NoBack_c:clsIn K (cA mg "NoBack") = true
 NoNumber_BoxError:subIn K (cA mg "NoNumber") (cA mg "BoxError") = true
 NoNumber_NoField:subIn K (cA mg "NoNumber") (cA mg "NoField") = false
 NoNumber_NoBox:subIn K (cA mg "NoNumber") (cA mg "NoBox") = false
 NoNumber_NoNumber:subIn K (cA mg "NoNumber") (cA mg "NoNumber") = true
 NoNumber_NoTurn:subIn K (cA mg "NoNumber") (cA mg "NoTurn") = false
 NoNumber_NoText:subIn K (cA mg "NoNumber") (cA mg "NoText") = false
 NoNumber_NoRow:subIn K (cA mg "NoNumber") (cA mg "NoRow") = false
 NoNumber_NoBack:subIn K (cA mg "NoNumber") (cA mg "NoBack") = false
section
variable {P:Program} {w:World} {K:PySem.W.Frag} {mg:Str -> Option Value} {base:Heap}
noncomputable abbrev liD (l:List Int):PyData:=.list (l.map PyData.int)
noncomputable abbrev penD (a b c:Int):PyData:=.list [.int a,.int b,.int c]
noncomputable def cPen:Con:=fun args Q=>∃ (ns:List Int) (k:Int),args = [.fz (scrD ns),.fz (.int k)] /\ 0 <= k /\ k <= 1000 /\ ∀ (a b:Int) (o:Ev),0 <= a -> 0 <= b -> Q (.ow (penD a b 0)) o
theorem scPen:FnScope ["_law_script","_law_k","_law_cell"] ["_law_script","_law_k"] (defScope (top 22)):=⟨rfl,rfl,rfl,by decide +kernel,rfl,by decide +kernel,by decide +kernel⟩
theorem ok_pen {f:Addr} {fd:FuncData} (F:Fun K "_law_pen" "_law_pen" (top 22) f fd) (T:Txt mg):FnOk P w K mg base CX0 1 f fd ["_law_script","_law_k"] (conSp K cPen):=by
 have S:=scPen
 refine wfn F S (fun cdv A outer s H E hr=>(s_cons (s_set (i:=2) S.nd rfl (Or.inl rfl) w_int)
     (s_cons (s_if (t_cmp ok_gt op_gt (wx (w_callB ok_len (call_lenK (K:=K) rfl) T.len_ PySem.boot_len (wa_cons (wn 0) wa_nil))) (wx w_int)) (s_one (s_set (i:=2) S.nd rfl (Or.inl rfl) (w_ix rfl (wn 0) (wx (w_bin ok_mod op_mod (wn 1) (wx (w_callB ok_len (call_lenK (K:=K) rfl) T.len_ PySem.boot_len (wa_cons (wn 0) wa_nil)))))))) s_nil)
     (s_cons (s_if (t_w (t_and (t_cmp ok_lt op_lt (wn 1) (wx (w_callB ok_len (call_lenK (K:=K) rfl) T.len_ PySem.boot_len (wa_cons (wn 0) wa_nil)))) (t_and1 (t_cmp ok_ge op_ge (wn 2) (wx (w_bin ok_pow op_pow (wx w_int) (wx w_int))))))) (s_one (s_ret (w_lst (wa_cons (wx (wv 2)) (wa_cons (wx w_int) (wa_cons (wx w_int) wa_nil)))))) s_nil)
     (s_one (s_ret (w_lst (wa_cons (wx w_int) (wa_cons (wx (w_bin ok_add op_addD (wx (w_bin ok_mod op_mod (wn 2) (wx w_int))) (wx (w_bin ok_mul op_mulD (wx w_int) (wn 1))))) (wa_cons (wx w_int) wa_nil)))))))))) ?_ ?_
 ·rintro args Qd ⟨ns,k,rfl,_⟩; rfl
 ·rintro args Qd ⟨ns,k,rfl,k0,k1,q⟩
  have fin:∀ (c:Int) (o:Ev),Qd (.ow (penD 0 (c % 999999937 + 70001 * k) 0)) o:=fun c o=>by
   have:=Int.emod_nonneg c (show (999999937:Int) ≠ 0 by decide)
   exact q _ _ _ (by decide) (by omega)
  refine ⟨noOw_of rfl,?_⟩
  refine ⟨ns,rfl,?_⟩
  refine ite2 (fun h1=>?_) (fun h1=>?_)
  ·have hp:0 < ns.length:=by have:(0:Int) < (ns.length:Int):=of_decide_eq_true h1; omega
   have hb:=Int.emod_lt_of_pos k (show (0:Int) < ns.length by omega)
   have ha:=Int.emod_nonneg k (show (ns.length:Int) ≠ 0 by omega)
   obtain ⟨j,hj⟩:=Int.eq_ofNat_of_zero_le ha
   have hjl:j < ns.length:=by omega
   refine ⟨ns,rfl,by show (0:Int) < (ns.length:Int); omega,ns,ns[j],rfl,by rw [hj]; exact atI_nat (List.getElem?_eq_getElem hjl),?_⟩
   refine ⟨ns,rfl,?_⟩
   refine ite2 (fun h3=>?_) (fun h3=>?_)
   ·refine ⟨⟨by decide,by decide,by decide⟩,ite2 (fun h4=>?_) (fun h4=>?_)⟩
    ·have h4:(10:Int) ^ 18 <= ns[j]:=of_decide_eq_true h4
     exact q _ _ _ (by omega) (by decide)
    ·exact ⟨by show (0:Int) < 999999937; decide,.inl ⟨by decide,by decide⟩,fin _ _⟩
   ·exact ⟨by show (0:Int) < 999999937; decide,.inl ⟨by decide,by decide⟩,fin _ _⟩
  ·refine ⟨ns,rfl,?_⟩
   refine ite2 (fun h3=>?_) (fun h3=>?_)
   ·exfalso
    have h3:k < (ns.length:Int):=of_decide_eq_true h3
    exact h1 (decide_eq_true (by omega))
   ·exact ⟨by show (0:Int) < 999999937; decide,.inl ⟨by decide,by decide⟩,fin _ _⟩
noncomputable def cDraw:Con:=fun args Q=>∃ (a b c m:Int),args = [.io (penD a b c),.fz (.int m)] /\ 0 <= a /\ 0 <= b /\ 0 <= c /\ 0 < m /\ m <= 1000000000 /\
 ∀ (r a' b' c':Int) (o:Ev),0 <= r -> r < m -> 0 <= a' -> 0 <= b' -> 0 <= c' -> Q (.fz (.int r)) (some (.io (penD a' b' c')) :: o)
theorem scDraw:FnScope ["_law_pen_here","_law_many","_law_found","_law_number_here"] ["_law_pen_here","_law_many"] (defScope (top 23)):=⟨rfl,rfl,rfl,by decide +kernel,rfl,by decide +kernel,by decide +kernel⟩
theorem ok_draw {f:Addr} {fd:FuncData} (F:Fun K "_law_draw" "_law_draw" (top 23) f fd):FnOk P w K mg base CX0 1 f fd ["_law_pen_here","_law_many"] (conSp K cDraw):=by
 have S:=scDraw
 refine wfn F S (fun cdv A outer s H E hr=>(s_cons (s_if (t_cmp ok_gt op_gt (wx (w_ix rfl (wn 0) (wx w_int))) (wx w_int)) (s_cons (s_set (i:=2) S.nd rfl (Or.inl rfl) (w_bin ok_mod op_mod (wx (w_ix rfl (wn 0) (wx w_int))) (wn 1)))
     (s_cons (s_ix (w_bin ok_fdiv op_fdiv (wx (w_ix rfl (wn 0) (wx w_int))) (wn 1)) (wn 0) (wx w_int))
     (s_one (s_retV (wn 2))))) s_nil)
     (s_cons (s_ix (w_bin ok_add op_addD (wx (w_ix rfl (wn 0) (wx w_int))) (wx w_int)) (wn 0) (wx w_int))
     (s_cons (s_set (i:=3) S.nd rfl (Or.inl rfl) (w_bin ok_mod op_mod (wx (w_bin ok_add op_addD (wx (w_bin ok_add op_addD (wx (w_bin ok_mul op_mulD (wx (w_ix rfl (wn 0) (wx w_int))) (wx w_int))) (wx (w_bin ok_mul op_mulD (wx (w_ix rfl (wn 0) (wx w_int))) (wx w_int))))) (wx w_int))) (wx w_int)))
     (s_cons (s_set (i:=3) S.nd rfl (Or.inl rfl) (w_bin ok_mod op_mod (wx (w_bin ok_mul op_mulD (wn 3) (wx (w_bin ok_add op_addD (wx (w_bin ok_mod op_mod (wn 3) (wx w_int))) (wx (w_ix rfl (wn 0) (wx w_int))))))) (wx w_int)))
     (s_one (s_ret (w_bin ok_mod op_mod (wx (w_bin ok_fdiv op_fdiv (wn 3) (wx w_int))) (wn 1))))))))) ?_ ?_
 ·rintro args Qd ⟨a,b,c,m,rfl,_⟩; rfl
 ·rintro args Qd ⟨a,b,c,m,rfl,ha,hb,hc,m0,m1,q⟩
  have hmd:∀ x:Int,0 <= x % m /\ x % m < m:=fun x=>⟨Int.emod_nonneg _ (by omega),Int.emod_lt_of_pos _ m0⟩
  refine ⟨noOw_of rfl,?_⟩
  refine ⟨_,rfl,?_⟩
  refine ite2 (fun h1=>?_) (fun h1=>?_)
  ·refine ⟨_,rfl,m0,_,rfl,⟨m0,by omega⟩,0,rfl,?_⟩
   exact q _ _ _ _ _ (hmd _).1 (hmd _).2 (Int.ediv_nonneg ha (by omega)) hb hc
  refine ⟨_,rfl,2,rfl,?_⟩
  refine ⟨_,rfl,.inr ⟨by decide,by decide⟩,_,rfl,.inr ⟨by decide,by decide⟩,by show (0:Int) < 2147483647; decide,?_⟩
  have hx:∀ x:Int,0 <= x % 2147483647 /\ x % 2147483647 < 2147483647:=fun x=>⟨Int.emod_nonneg _ (by decide),Int.emod_lt_of_pos _ (by decide)⟩
  generalize ey:(b * 48271 + (c + 1) * 39373 + 11:Int) % 2147483647 = y
  have hy:=hx (b * 48271 + (c + 1) * 39373 + 11)
  rw [ey] at hy
  refine ⟨by show (0:Int) < 65521; decide,_,rfl,.inl ⟨by omega,by omega⟩,by show (0:Int) < 2147483629; decide,?_⟩
  exact ⟨⟨by decide,by decide⟩,m0,q _ _ _ _ _ (hmd _).1 (hmd _).2 ha hb (by omega)⟩
noncomputable def Big (c:Int):Prop:=-(10 ^ 30) < c /\ c < 10 ^ 30
structure CalsN (P:Program) (w:World) (K:PySem.W.Frag) (mg:Str -> Option Value) (base:Heap):Prop where
 law_draw:Cal P w K mg base 1 "_law_draw" ["_law_pen_here","_law_many"] (conSp K cDraw)
noncomputable def cNumber:Con:=fun args Q=>∃ (a b c:Int),args = [.io (penD a b c)] /\ 0 <= a /\ 0 <= b /\ 0 <= c /\
 ∀ (r a' b' c':Int) (o:Ev),Big r -> 0 <= a' -> 0 <= b' -> 0 <= c' -> Q (.fz (.int r)) (some (.io (penD a' b' c')) :: o)
theorem scNumber:FnScope ["_law_pen_here","_law_way"] ["_law_pen_here"] (defScope (top 24)):=⟨rfl,rfl,rfl,by decide +kernel,rfl,by decide +kernel,by decide +kernel⟩
theorem ok_number {f:Addr} {fd:FuncData} (F:Fun K "_law_number" "_law_number" (top 24) f fd) (C:CalsN P w K mg base):FnOk P w K mg base CX0 2 f fd ["_law_pen_here"] (conSp K cNumber):=by
 have S:=scNumber
 refine wfn F S (fun cdv A outer s H E hr=>(s_cons (s_set (i:=1) S.nd rfl (Or.inl rfl) (w_fnI C.law_draw (hr.mono (by first | decide | omega)) (wa_cons (wn 0) (wa_cons (wx w_int) wa_nil))))
     (s_cons (s_if (t_cmp ok_eq (op_eqE (K:=K) rfl hr.units) (wn 1) (wx w_int)) (s_one (s_ret (w_bin ok_mul op_mulD (wx (w_bin ok_add op_addD (wx (w_bin ok_pow op_pow (wx w_int) (wx w_int))) (wx (w_fnI C.law_draw (hr.mono (by first | decide | omega)) (wa_cons (wn 0) (wa_cons (wx w_int) wa_nil)))))) (wx (w_bin ok_sub op_sub (wx w_int) (wx (w_bin ok_mul op_mulD (wx w_int) (wx (w_fnI C.law_draw (hr.mono (by first | decide | omega)) (wa_cons (wn 0) (wa_cons (wx w_int) wa_nil))))))))))) s_nil)
     (s_cons (s_if (t_cmp ok_gt op_gt (wn 1) (wx w_int)) (s_one (s_ret (w_bin ok_sub op_sub (wx (w_fnI C.law_draw (hr.mono (by first | decide | omega)) (wa_cons (wn 0) (wa_cons (wx w_int) wa_nil)))) (wx w_int)))) s_nil)
     (s_one (s_ret (w_bin ok_sub op_sub (wx (w_fnI C.law_draw (hr.mono (by first | decide | omega)) (wa_cons (wn 0) (wa_cons (wx w_int) wa_nil)))) (wx w_int)))))))) ?_ ?_
 ·rintro args Qd ⟨a,b,c,rfl,_⟩; rfl
 ·rintro args Qd ⟨a,b,c,rfl,ha,hb,hc,q⟩
  refine ⟨noOw_of rfl,?_⟩
  refine ⟨a,b,c,_,rfl,ha,hb,hc,by decide,by decide,fun r a1 b1 c1 _ r0 r1 ha1 hb1 hc1=>?_⟩
  refine ite2 (fun h1=>?_) (fun h1=>?_)
  ·refine ⟨⟨by decide,by decide,by decide⟩,?_⟩
   refine ⟨a1,b1,c1,_,rfl,ha1,hb1,hc1,by decide,by decide,fun u a2 b2 c2 _ u0 u1 ha2 hb2 hc2=>?_⟩
   refine ⟨a2,b2,c2,_,rfl,ha2,hb2,hc2,by decide,by decide,fun v a3 b3 c3 _ v0 v1 ha3 hb3 hc3=>?_⟩
   refine ⟨.inl ⟨by decide,by decide⟩,.inr ⟨by omega,by omega⟩,?_⟩
   refine q _ _ _ _ _ ?_ ha3 hb3 hc3
   show Big ((10 ^ 29 + u) * (1 - 2 * v))
   have:v = 0 \/ v = 1:=by omega
   rcases this with rfl | rfl
   ·exact ⟨by omega,by omega⟩
   ·exact ⟨by omega,by omega⟩
  refine ite2 (fun h2=>?_) (fun h2=>?_)
  ·refine ⟨a1,b1,c1,_,rfl,ha1,hb1,hc1,by decide,by decide,fun u a2 b2 c2 _ u0 u1 ha2 hb2 hc2=>?_⟩
   exact q _ _ _ _ _ ⟨by omega,by omega⟩ ha2 hb2 hc2
  ·refine ⟨a1,b1,c1,_,rfl,ha1,hb1,hc1,by decide,by decide,fun u a2 b2 c2 _ u0 u1 ha2 hb2 hc2=>?_⟩
   exact q _ _ _ _ _ ⟨by omega,by omega⟩ ha2 hb2 hc2
structure CalsW (P:Program) (w:World) (K:PySem.W.Frag) (mg:Str -> Option Value) (base:Heap):Prop where
 law_draw:Cal P w K mg base 1 "_law_draw" ["_law_pen_here","_law_many"] (conSp K cDraw)
 law_number:Cal P w K mg base 2 "_law_number" ["_law_pen_here"] (conSp K cNumber)
noncomputable def cRow:Con:=fun args Q=>∃ (a b c m:Int),args = [.io (penD a b c),.fz (.int m)] /\ 0 <= a /\ 0 <= b /\ 0 <= c /\ 0 < m /\ m <= 120 /\
 ∀ (cs:List Int) (a' b' c':Int) (o:Ev),1 <= cs.length -> (cs.length:Int) <= m -> (∀ x ∈ cs,Big x) -> 0 <= a' -> 0 <= b' -> 0 <= c' -> Q (.ow (liD cs)) (some (.io (penD a' b' c')) :: o)
theorem scRow:FnScope ["_law_pen_here","_law_most"] ["_law_pen_here","_law_most"] (defScope (top 25)):=⟨rfl,rfl,rfl,by decide +kernel,rfl,by decide +kernel,by decide +kernel⟩
theorem ok_row {f:Addr} {fd:FuncData} (F:Fun K "_law_row" "_law_row" (top 25) f fd) (T:Txt mg) (C:CalsW P w K mg base):FnOk P w K mg base CX0 3 f fd ["_law_pen_here","_law_most"] (conSp K cRow):=by
 have S:=scRow
 refine wfn F S (fun cdv A outer s H E hr=>(s_one (s_ret (w_comp rfl (own:=["_law_k"]) (fr:=[0]) (by kernel_rfl) (i_rng1 T.range_ (wa_cons (wx (w_bin ok_add op_addD (wx w_int) (wx (w_fnI C.law_draw (hr.mono (by first | decide | omega)) (wa_cons (wn 0) (wa_cons (wn 1) wa_nil)))))) wa_nil)) (fun _ _ _ _=>(g_name (i:=0) (by decide +kernel:List.Nodup (["_law_k","_law_pen_here"]:List Str)) rfl (Or.inl rfl))) (fun _ _ _ _=>if0) (fun _ _ _ _=>(w_fnI C.law_number (hr.mono (by first | decide | omega)) (wa_cons (wn 1) wa_nil))))))) ?_ ?_
 ·rintro args Qd ⟨a,b,c,m,rfl,_⟩; rfl
 ·rintro args Qd ⟨a,b,c,m,rfl,ha,hb,hc,m0,m1,q⟩
  refine ⟨noOw_of rfl,?_⟩
  refine ⟨a,b,c,_,rfl,ha,hb,hc,m0,by omega,fun r a1 b1 c1 _ r0 r1 ha1 hb1 hc1=>?_⟩
  refine ⟨by omega,by omega,by rw [rangeD,List.length_map,List.length_range]; exact le_size (by omega),compN (fun rest acc τ=>∃ (cs:List Int) (a4 b4 c4:Int),τ = [none,some (.io (penD a4 b4 c4))] /\ acc = cs.map PyData.int /\ (cs.length + rest.length:Int) = 1 + r /\ (∀ x ∈ cs,Big x) /\ 0 <= a4 /\ 0 <= b4 /\ 0 <= c4) ?_ ?_
      ⟨[],a1,b1,c1,rfl,rfl,by simp [rangeD]; omega,fun c hc=>by simp at hc,ha1,hb1,hc1⟩⟩
  ·rintro d ds acc τ ⟨cs,a4,b4,c4,rfl,rfl,hlen,hB,ha4,hb4,hc4⟩ N hN
   refine ⟨a4,b4,c4,rfl,ha4,hb4,hc4,fun x a5 b5 c5 _ hx ha5 hb5 hc5=>?_⟩
   exact hN _ _ ⟨cs ++ [x],a5,b5,c5,rfl,by simp [Sl.d],by simp at hlen ⊢; omega,fun c' hc=>by rcases List.mem_append.mp hc with z | z; exact hB c' z; rw [List.mem_singleton.mp z]; exact hx,ha5,hb5,hc5⟩
  ·rintro acc τ ⟨cs,a4,b4,c4,rfl,rfl,hlen,hB,ha4,hb4,hc4⟩
   simp at hlen
   exact q cs a4 b4 c4 _ (by omega) (by omega) hB ha4 hb4 hc4
end
end R40
namespace R40
open PySem PySem.Spec L2 L3 PyProof.Rows
noncomputable def insW (x:Int):List Int -> List Int
 | []=>[x]
 | y :: ys=>if x < y then x :: y :: ys else if x = y then y :: ys else y :: insW x ys
noncomputable def wor (ns:List Int):List Int:=ns.foldr insW []
theorem insW_mem (x z:Int):∀ l:List Int,z ∈ insW x l ↔ z = x \/ z ∈ l
 | []=>by simp [insW]
 | y :: ys=>by
  unfold insW
  split
  ·simp
  ·split
   ·rename_i h; subst h; simp
   ·rw [List.mem_cons,insW_mem x z ys,List.mem_cons]
    constructor
    ·rintro (h | h | h)
     ·exact .inr (.inl h)
     ·exact .inl h
     ·exact .inr (.inr h)
    ·rintro (h | h | h)
     ·exact .inr (.inl h)
     ·exact .inl h
     ·exact .inr (.inr h)
theorem insW_rise (x:Int):∀ l:List Int,l.Pairwise (· < ·) -> (insW x l).Pairwise (· < ·)
 | [],_=>List.pairwise_singleton _ _
 | y :: ys,h=>by
  have h':=List.pairwise_cons.mp h
  unfold insW
  split
  ·rename_i hl
   refine List.pairwise_cons.mpr ⟨fun z hz=>?_,h⟩
   rcases List.mem_cons.mp hz with rfl | hz
   ·exact hl
   ·have:=h'.1 z hz; omega
  ·split
   ·exact h
   ·refine List.pairwise_cons.mpr ⟨fun z hz=>?_,insW_rise x ys h'.2⟩
    rcases (insW_mem x z ys).mp hz with rfl | hz
    ·omega
    ·exact h'.1 z hz
theorem insW_len (x:Int):∀ l:List Int,(insW x l).length <= l.length + 1
 | []=>by simp [insW]
 | y :: ys=>by
  have:=insW_len x ys
  unfold insW
  split
  ·simp
  ·split
   ·simp
   ·simp; omega
theorem wor_mem (z:Int):∀ ns:List Int,z ∈ wor ns ↔ z ∈ ns
 | []=>by simp [wor]
 | n :: ns=>by
  show z ∈ insW n (wor ns) ↔ _
  rw [insW_mem,wor_mem z ns,List.mem_cons]
theorem wor_rise:∀ ns:List Int,(wor ns).Pairwise (· < ·)
 | []=>.nil
 | n :: ns=>insW_rise n _ (wor_rise ns)
theorem wor_len:∀ ns:List Int,(wor ns).length <= ns.length
 | []=>Nat.le_refl _
 | n :: ns=>by
  have h1:=insW_len n (wor ns)
  have h2:=wor_len ns
  show (insW n (wor ns)).length <= _
  simp
  omega
theorem rise_uniq:∀ l m:List Int,l.Pairwise (· < ·) -> m.Pairwise (· < ·) -> (∀ z,z ∈ l ↔ z ∈ m) -> l = m
 | [],[],_,_,_=>rfl
 | [],y :: m,_,_,h=>absurd ((h y).mpr List.mem_cons_self) (by simp)
 | x :: l,[],_,_,h=>absurd ((h x).mp List.mem_cons_self) (by simp)
 | x :: l,y :: m,h1,h2,h=>by
  have a:=List.pairwise_cons.mp h1
  have b:=List.pairwise_cons.mp h2
  have e:x = y:=by
   rcases List.mem_cons.mp ((h x).mp List.mem_cons_self) with e | e
   ·exact e
   ·rcases List.mem_cons.mp ((h y).mpr List.mem_cons_self) with e' | e'
    ·exact e'.symm
    ·have:=b.1 x e; have:=a.1 y e'; omega
  subst e
  refine congrArg _ (rise_uniq l m a.2 b.2 fun z=>?_)
  constructor
  ·intro hz
   rcases List.mem_cons.mp ((h z).mp (List.mem_cons_of_mem _ hz)) with e | e
   ·subst e; have:=a.1 z hz; omega
   ·exact e
  ·intro hz
   rcases List.mem_cons.mp ((h z).mpr (List.mem_cons_of_mem _ hz)) with e | e
   ·subst e; have:=b.1 z hz; omega
   ·exact e
theorem wor_is {ns l:List Int} (h:l.Pairwise (· < ·)) (hm:∀ z,z ∈ l ↔ z ∈ ns):l = wor ns:=rise_uniq _ _ h (wor_rise ns) fun z=>by rw [hm,wor_mem]
theorem wor_pos {ns:List Int} (h:1 <= ns.length):1 <= (wor ns).length:=by
 cases ns with
 | nil=>simp at h
 | cons n ns=>exact List.length_pos_of_mem ((wor_mem n _).mpr List.mem_cons_self)
noncomputable def ixW (w:List Int) (x:Int):Nat:=w.idxOf x
theorem ixW_lt {w:List Int} {x:Int} (h:x ∈ w):ixW w x < w.length:=List.idxOf_lt_length_of_mem h
theorem ixW_at {w:List Int} {x:Int} (h:x ∈ w):w[ixW w x]? = some x:=by
 rw [List.getElem?_eq_getElem (ixW_lt h)]
 exact congrArg some (List.getElem_idxOf (ixW_lt h))
theorem rise_get {w:List Int} (h:w.Pairwise (· < ·)) {i j:Nat} {a b:Int} (e1:w[i]? = some a) (e2:w[j]? = some b):(i <= j ↔ a <= b) /\ (i < j ↔ a < b):=by
 have hp:=List.pairwise_iff_getElem.mp h
 obtain ⟨h1,rfl⟩:=List.getElem?_eq_some_iff.mp e1
 obtain ⟨h2,rfl⟩:=List.getElem?_eq_some_iff.mp e2
 by_cases z:i = j
 ·subst z; omega
 ·by_cases y:i < j
  ·have:=hp i j h1 h2 y; omega
  ·have:=hp j i h2 h1 (by omega); omega
noncomputable def stn (ns:List Int):List Int:=ns.map fun x=>(ixW (wor ns) x:Int)
noncomputable def flg (st:List Int) (p:Int × Int):List Int:=(st.filter fun x=>decide (p.1 <= x) && decide (x <= p.2)).map fun x=>if (p.1 + p.2) / 2 + 1 <= x then 1 else 0
end R40
namespace R40
open PySem PySem.Spec L2 L3 PyProof.Rows
noncomputable abbrev prD (p:Int × Int):PyData:=.tuple [.int p.1,.int p.2]
noncomputable abbrev rwD (r:List Int):PyData:=.tuple (r.map PyData.int)
section
variable {P:Program} {w:World} {K:PySem.W.Frag} {mg:Str -> Option Value} {base:Heap}
noncomputable def cTwo:Con:=fun args Q=>∃ a b:Int,args = [.fz (prD (a,b))] /\ 0 <= a /\ 0 <= b /\ a <= 10000 /\ b <= 10000 /\ ∀ o,Q (.ow (.list [prD (a,(a + b) / 2),prD ((a + b) / 2 + 1,b)])) o
theorem scTwo:FnScope ["stretch","middle"] ["stretch"] (defScope (top 10)):=⟨rfl,rfl,rfl,by decide +kernel,rfl,by decide +kernel,by decide +kernel⟩
theorem ok_two {f:Addr} {fd:FuncData} (F:Fun K "two_halves" "two_halves" (top 10) f fd):FnOk P w K mg base CX0 1 f fd ["stretch"] (conSp K cTwo):=by
 have S:=scTwo
 refine wfn F S (fun cdv A outer s H E hr=>(s_cons (s_set (i:=1) S.nd rfl (Or.inl rfl) (w_bin ok_fdiv op_fdiv (wx (w_bin ok_add op_addD (wx (w_ix rfl (wn 0) (wx w_int))) (wx (w_ix rfl (wn 0) (wx w_int))))) (wx w_int)))
     (s_one (s_ret (w_lst (wa_cons (wx (w_tup (wa_cons (wx (w_ix rfl (wn 0) (wx w_int))) (wa_cons (wx (wv 1)) wa_nil)))) (wa_cons (wx (w_tup (wa_cons (wx (w_bin ok_add op_addD (wn 1) (wx w_int))) (wa_cons (wx (w_ix rfl (wn 0) (wx w_int))) wa_nil)))) wa_nil))))))) ?_ ?_
 ·rintro args Qd ⟨a,b,rfl,_⟩; rfl
 ·rintro args Qd ⟨a,b,rfl,a0,b0,a1,b1,q⟩
  refine ⟨noOw_of rfl,?_⟩
  refine ⟨_,rfl,_,rfl,⟨by decide,by decide⟩,?_⟩
  refine ⟨_,rfl,_,rfl,?_⟩
  exact q _
end
theorem met_nodup (val:Nat -> Int):∀ i,(firstMet val i).Nodup
 | 0=>by rw [firstMet_zero]; exact List.nodup_nil
 | i + 1=>by
  rw [firstMet_succ]
  have ih:=met_nodup val i
  unfold step_dedup
  split
  ·exact ih
  ·rename_i h
   rw [List.nodup_append]
   refine ⟨ih,List.nodup_cons.mpr ⟨by simp,List.nodup_nil⟩,fun a ha b hb e=>?_⟩
   rw [List.mem_singleton] at hb
   subst hb
   subst e
   exact h (List.any_eq_true.mpr ⟨_,ha,by simp⟩)
theorem met_mem (ns:List Int) (z:Int):z ∈ firstMet (fun i=>ns.getD i 0) ns.length ↔ z ∈ ns:=by
 have e:(List.range ns.length).map (fun i=>ns.getD i 0) = ns:=by
  refine List.ext_getElem (by simp) fun i h1 h2=>?_
  simp [h2]
 have h:=firstMet_any (fun i=>ns.getD i 0) ns.length z
 rw [e] at h
 have t:∀ l:List Int,(l.any (· == z)) = true ↔ z ∈ l:=fun l=>by simp
 rw [<- t,h,t]
theorem met_wor {ns ms:List Int} (h1:ms.Perm (firstMet (fun i=>ns.getD i 0) ns.length)) (h2:ms.Pairwise (· <= ·)):ms = wor ns:=by
 refine wor_is ?_ fun z=>by rw [h1.mem_iff,met_mem]
 have nd:=h1.nodup_iff.mpr (met_nodup _ _)
 exact (h2.and nd).imp fun ⟨a,b⟩=>by omega
theorem noMutAll_ints:∀ l:List Int,noMutAll (l.map PyData.int) = true
 | []=>rfl
 | x :: l=>by
  show (noMut (.int x) && noMutAll (l.map PyData.int)) = true
  rw [noMutAll_ints l]
  rfl
section
variable {P:Program} {w:World} {K:PySem.W.Frag} {mg:Str -> Option Value} {base:Heap}
noncomputable def cWor:Con:=fun args Q=>∃ ns:List Int,args = [.fz (liD ns)] /\ ns.length <= 1000 /\ ∀ o,Q (.ow (liD (wor ns))) o
theorem scWor:FnScope ["numbers"] ["numbers"] (defScope (top 12)):=⟨rfl,rfl,rfl,by decide +kernel,rfl,by decide +kernel,by decide +kernel⟩
theorem ok_wor {f:Addr} {fd:FuncData} (F:Fun K "worths" "worths" (top 12) f fd) (T:Txt mg):FnOk P w K mg base CX0 1 f fd ["numbers"] (conSp K cWor):=by
 have S:=scWor
 refine wfn F S (fun cdv A outer s H E hr=>(s_one (s_ret (w_sortSet rfl rfl T.sorted_ T.set_ (wa_cons (wn 0) wa_nil))))) ?_ ?_
 ·rintro args Qd ⟨ns,rfl,_⟩; rfl
 ·rintro args Qd ⟨ns,rfl,hn,q⟩
  refine ⟨noOw_of rfl,?_⟩
  refine ⟨ns,rfl,by unfold scanBound; omega,fun ms m1 m2=>?_⟩
  rw [met_wor m1 m2]
  exact q _
noncomputable def diI:PyData -> Int
 | .int i=>i
 | _=>0
structure CalsA (P:Program) (w:World) (K:PySem.W.Frag) (mg:Str -> Option Value) (base:Heap):Prop where
 worths:Cal P w K mg base 1 "worths" ["numbers"] (conSp K cWor)
theorem getK_ix {ws:List Int} (nd:ws.Nodup) {x:Int} (hx:x ∈ ws):getE ((ws.zipIdx.map fun p=>((Sum.inl p.1:Key),PyData.int (p.2:Nat))).map enK) (.int x) = some (.int (ixW ws x:Nat)):=by
 have gen:∀ (ws:List Int) (k:Nat),x ∈ ws -> getK (((ws.zipIdx k).map fun p=>((Sum.inl p.1:Key),PyData.int (p.2:Nat))).map enK) (.inl x) = some (.int ((k + ws.idxOf x:Nat):Int)):=by
  intro ws
  induction ws with
  | nil=>intro k h; cases h
  | cons y ws ih =>
   intro k h
   unfold getK
   rw [List.zipIdx_cons,List.map_cons,List.map_cons,List.find?_cons]
   by_cases e:y = x
   ·subst e
    have:decide (kOf (enK ((Sum.inl y:Key),PyData.int ((k:Nat):Int))).1 = some (.inl y)) = true:=decide_eq_true rfl
    rw [this,List.idxOf_cons_self]
    rfl
   ·have:decide (kOf (enK ((Sum.inl y:Key),PyData.int ((k:Nat):Int))).1 = some (.inl x)) = false:=decide_eq_false (by
      intro z
      have z:some (Sum.inl y:Key) = some (.inl x):=z
      injection z with z
      injection z with z
      exact e z)
    rw [this]
    have h2:x ∈ ws:=by rcases List.mem_cons.mp h with z | z; exact absurd z.symm e; exact z
    have:=ih (k + 1) h2
    unfold getK at this
    dsimp only
    rw [this,List.idxOf_cons,show (y == x) = false from by simp [e],cond_false]
    congr 2
    omega
 have:=gen ws 0 hx
 rw [Nat.zero_add] at this
 exact this
noncomputable def cNum:Con:=fun args Q=>∃ ns:List Int,args = [.fz (liD ns)] /\ ns.length <= 1000 /\ ∀ o,Q (.ow (liD (stn ns))) o
theorem scNum:FnScope ["numbers","places"] ["numbers"] (defScope (top 13)):=⟨rfl,rfl,rfl,by decide +kernel,rfl,by decide +kernel,by decide +kernel⟩
theorem ok_num {f:Addr} {fd:FuncData} (F:Fun K "worth_numbers" "worth_numbers" (top 13) f fd) (T:Txt mg) (C:CalsA P w K mg base):FnOk P w K mg base CX0 2 f fd ["numbers"] (conSp K cNum):=by
 have S:=scNum
 refine wfn F S (fun cdv A outer s H E hr=>(s_cons (s_set (i:=1) S.nd rfl (Or.inr rfl) (w_dictK rfl rfl T.dict_ (by decide +kernel) (wa_cons (wx (w_comp rfl (own:=["place","worth"]) (fr:=[]) (by kernel_rfl) (i_enum rfl T.enumerate_ (wa_cons (wx (w_fnL C.worths (hr.mono (by first | decide | omega)) (wa_cons (wn 0) wa_nil))) wa_nil)) (fun _ _ _ _=>(g_tup rfl rfl (gs_cons (g_name (i:=0) (by decide +kernel:List.Nodup (["place","worth"]:List Str)) rfl (Or.inl rfl)) (gs_cons (g_name (i:=1) (by decide +kernel:List.Nodup (["place","worth"]:List Str)) rfl (Or.inl rfl)) gs_nil)))) (fun _ _ _ _=>if0) (fun _ _ _ _=>(w_tup (wa_cons (wx (wv 1)) (wa_cons (wx (wv 0)) wa_nil)))))) wa_nil)))
     (s_one (s_ret (w_comp rfl (own:=["number"]) (fr:=[1]) (by kernel_rfl) (i_seq rfl (wv 0)) (fun _ _ _ _=>(g_name (i:=0) (by decide +kernel:List.Nodup (["number","places"]:List Str)) rfl (Or.inl rfl))) (fun _ _ _ _=>if0) (fun _ _ _ _=>(w_dget (hu_of hr) (wn 1) (wn 0)))))))) ?_ ?_
 ·rintro args Qd ⟨ns,rfl,_⟩; rfl
 ·rintro args Qd ⟨ns,rfl,hn,q⟩
  refine ⟨noOw_of rfl,?_⟩
  have hw:=wor_len ns
  refine ⟨ns,rfl,hn,fun o=>⟨noMutAll_ints _,?_⟩⟩
  refine ⟨by simp only [enumD,List.length_map,List.length_zipIdx]; exact le_size (by omega),?_⟩
  refine mapC (fun d=>match d with | .tuple [a,b]=>.tuple [b,a] | _=>d) ?_ ?_
  ·intro d hd N hN
   obtain ⟨p,_,rfl⟩:=List.mem_map.mp hd
   exact ⟨rfl,hN⟩
  refine ⟨(wor ns).zipIdx.map fun p=>(Sum.inl p.1,PyData.int (p.2:Nat)),?_,?_,?_⟩
  ·simp only [enumD,List.zipIdx_map,List.map_map]
   rfl
  ·rw [List.map_map]
   have nd:=(wor_rise ns).imp (S:=(· ≠ ·)) fun h=>by omega
   have e:(List.map ((fun x=>x.fst) ∘ fun p:Int × Nat=>((Sum.inl p.1:Key),PyData.int (p.2:Nat))) (wor ns).zipIdx) = (wor ns).map Sum.inl:=by
    have:(wor ns).map (Sum.inl:Int -> Key) = ((wor ns).zipIdx.map (·.1)).map Sum.inl:=by rw [List.zipIdx_map_fst]
    rw [this,List.map_map]
    rfl
   rw [e]
   exact List.Pairwise.map _ (fun a b h z=>h (Sum.inl.inj z)) nd
  refine ⟨by rw [List.length_map]; exact le_size hn,?_⟩
  refine mapC (fun d=>.int (ixW (wor ns) (diI d):Nat)) ?_ ?_
  ·intro d hd N hN
   obtain ⟨x,hx,rfl⟩:=List.mem_map.mp hd
   refine ⟨_,getK_ix ((wor_rise ns).imp fun h=>by omega) ((wor_mem x ns).mpr hx),hN⟩
  ·have e:(ns.map PyData.int).map (fun d=>PyData.int (ixW (wor ns) (diI d):Nat)) = (stn ns).map PyData.int:=by
    unfold stn
    rw [List.map_map,List.map_map]
    rfl
   rw [e]
   exact q _
structure CalsF (P:Program) (w:World) (K:PySem.W.Frag) (mg:Str -> Option Value) (base:Heap):Prop where
 two_halves:Cal P w K mg base 1 "two_halves" ["stretch"] (conSp K cTwo)
noncomputable def cFlg:Con:=fun args Q=>∃ (st:List Int) (p:Int × Int),args = [.fz (liD st),.fz (prD p)] /\ st.length <= 1000 /\ 0 <= p.1 /\ p.1 <= 1000 /\ 0 <= p.2 /\ p.2 <= 1000 /\ ∀ o,Q (.fz (rwD (flg st p))) o
theorem scFlg:FnScope ["standing","stretch","second"] ["standing","stretch"] (defScope (top 14)):=⟨rfl,rfl,rfl,by decide +kernel,rfl,by decide +kernel,by decide +kernel⟩
theorem ok_flg {f:Addr} {fd:FuncData} (F:Fun K "flags_at" "flags_at" (top 14) f fd) (T:Txt mg) (C:CalsF P w K mg base):FnOk P w K mg base CX0 2 f fd ["standing","stretch"] (conSp K cFlg):=by
 have S:=scFlg
 refine wfn F S (fun cdv A outer s H E hr=>(s_cons (s_set (i:=2) S.nd rfl (Or.inr rfl) (w_ix rfl (wx (w_fn C.two_halves (hr.mono (by first | decide | omega)) (wa_cons (wn 1) wa_nil))) (wx w_int)))
     (s_one (s_ret (w_callT ok_tuple (call_tupleK (K:=K) rfl) T.tuple_ boot_tuple (wa_cons (wx (w_comp rfl (own:=["place"]) (fr:=[2,1]) (by kernel_rfl) (i_seq rfl (wv 0)) (fun _ _ _ _=>(g_name (i:=0) (by decide +kernel:List.Nodup (["place","second","stretch"]:List Str)) rfl (Or.inl rfl))) (fun _ _ _ _=>if1 (t_chain op_le op_le (wx (w_ix rfl (wn 2) (wx w_int))) (wn 0) (wx (w_ix rfl (wn 2) (wx w_int))))) (fun _ _ _ _=>(w_ifE (t_cmp ok_ge op_ge (wn 0) (wx (w_ix rfl (wn 1) (wx w_int)))) w_int w_int)))) wa_nil)))))) ?_ ?_
 ·rintro args Qd ⟨st,p,rfl,_⟩; rfl
 ·rintro args Qd ⟨st,⟨a,b⟩,rfl,hn,a0,a1,b0,b1,q⟩
  refine ⟨noOw_of rfl,?_⟩
  refine ⟨a,b,rfl,a0,b0,by omega,by omega,fun o=>?_⟩
  refine ⟨_,rfl,?_⟩
  refine ⟨by rw [List.length_map]; exact le_size hn,?_⟩
  refine filC (fun d=>decide (a <= diI d) && decide (diI d <= b)) (fun d=>.int (if (a + b) / 2 + 1 <= diI d then 1 else 0)) ?_ ?_
  ·intro d hd N M hN hM
   obtain ⟨x,_,rfl⟩:=List.mem_map.mp hd
   have hN:(decide (a <= x) && decide (x <= b)) = true -> N (.int (if (a + b) / 2 + 1 <= x then 1 else 0)) _:=hN
   have hM:(decide (a <= x) && decide (x <= b)) = false -> _:=hM
   refine ⟨_,rfl,ite2 (fun h3=>⟨_,rfl,ite2 (fun h4=>?_) (fun h4=>?_)⟩) (fun h3=>?_)⟩
   ·have h3:decide (a <= x) = true:=h3
    have h4:decide (x <= b) = true:=h4
    refine ⟨_,rfl,ite2 (fun h5=>?_) (fun h5=>?_)⟩
    ·have h5:(a + b) / 2 + 1 <= x:=of_decide_eq_true h5
     rw [if_pos h5] at hN
     exact hN (by rw [h3,h4]; rfl)
    ·have h5:¬ (a + b) / 2 + 1 <= x:=fun z=>h5 (decide_eq_true z)
     rw [if_neg h5] at hN
     exact hN (by rw [h3,h4]; rfl)
   ·have h4:¬ decide (x <= b) = true:=h4
    exact hM (by rw [Bool.eq_false_iff.mpr h4,Bool.and_false])
   ·have h3:¬ decide (a <= x) = true:=h3
    exact hM (by rw [Bool.eq_false_iff.mpr h3,Bool.false_and])
  ·have e:((st.map PyData.int).filter fun d=>decide (a <= diI d) && decide (diI d <= b)).map (fun d=>PyData.int (if (a + b) / 2 + 1 <= diI d then 1 else 0)) = (flg st (a,b)).map PyData.int:=by
    unfold flg
    rw [List.filter_map,List.map_map,List.map_map]
    rfl
   rw [e]
   exact q _
end
end R40
namespace R40
open PySem PySem.Spec L2 L3 PyProof.Rows
noncomputable def inn (a b:Int) (x:Int):Bool:=decide (a <= x) && decide (x <= b)
noncomputable def cn (st:List Int) (k:Nat) (a b:Int):Nat:=(st.take k).countP (inn a b)
theorem cn_mono (st:List Int) {k m:Nat} (h:k <= m) (a b:Int):cn st k a b <= cn st m a b:=by
 unfold cn
 have e:st.take k = (st.take m).take k:=by rw [List.take_take,Nat.min_eq_left h]
 rw [e]
 exact (List.take_sublist k (st.take m)).countP_le
theorem filter_take {α:Type} (p:α -> Bool):∀ (l:List α) (k:Nat),(l.filter p).take ((l.take k).countP p) = (l.take k).filter p
 | [],k=>by simp
 | x :: l,0=>by simp
 | x :: l,k + 1=>by
  have ih:=filter_take p l k
  rw [List.take_succ_cons,List.filter_cons,List.filter_cons,List.countP_cons]
  by_cases h:p x = true
  ·rw [if_pos h,if_pos h,if_pos h,List.take_succ_cons,ih]
  ·rw [if_neg h,if_neg h,if_neg h,Nat.add_zero,ih]
theorem flg_take (st:List Int) (k:Nat) (p:Int × Int):(flg st p).take (cn st k p.1 p.2) = flg (st.take k) p:=by
 unfold flg cn
 rw [<- List.map_take]
 exact congrArg _ (filter_take _ st k)
theorem flg_count1 {a b:Int} (h:a < b):∀ l:List Int,(flg l (a,b)).count 1 = l.countP (inn ((a + b) / 2 + 1) b)
 | []=>rfl
 | x :: l=>by
  have ih:=flg_count1 h l
  unfold flg at ih ⊢
  rw [List.filter_cons,List.countP_cons]
  by_cases h1:(decide (a <= x) && decide (x <= b)) = true
  ·rw [if_pos h1,List.map_cons,List.count_cons,ih]
   simp only [Bool.and_eq_true,decide_eq_true_eq] at h1
   by_cases h2:(a + b) / 2 + 1 <= x
   ·rw [if_pos h2,if_pos (by rfl),if_pos (by unfold inn; simp; omega)]
   ·rw [if_neg h2,if_neg (by decide),if_neg (by unfold inn; simp; omega)]
  ·rw [if_neg h1,ih,if_neg]
   ·rfl
   ·simp only [Bool.and_eq_true,decide_eq_true_eq] at h1
    unfold inn
    simp
    omega
theorem flg_count0 {a b:Int} (h:a < b):∀ l:List Int,(flg l (a,b)).count 0 = l.countP (inn a ((a + b) / 2))
 | []=>rfl
 | x :: l=>by
  have ih:=flg_count0 h l
  unfold flg at ih ⊢
  rw [List.filter_cons,List.countP_cons]
  by_cases h1:(decide (a <= x) && decide (x <= b)) = true
  ·rw [if_pos h1,List.map_cons,List.count_cons,ih]
   simp only [Bool.and_eq_true,decide_eq_true_eq] at h1
   by_cases h2:(a + b) / 2 + 1 <= x
   ·rw [if_pos h2,if_neg (by decide),if_neg (by unfold inn; simp; omega)]
   ·rw [if_neg h2,if_pos (by rfl),if_pos (by unfold inn; simp; omega)]
  ·rw [if_neg h1,ih,if_neg]
   ·rfl
   ·simp only [Bool.and_eq_true,decide_eq_true_eq] at h1
    unfold inn
    simp
    omega
theorem cut_count (fl:List Int) {i j:Nat} (h:i <= j) (n:Int):((fl.take j).drop i).count n = (fl.take j).count n - (fl.take i).count n:=by
 have e:fl.take j = fl.take i ++ (fl.take j).drop i:=by
  have:=List.take_append_drop i (fl.take j)
  rw [List.take_take,Nat.min_eq_left h] at this
  exact this.symm
 have:=congrArg (List.count n) e
 rw [List.count_append] at this
 omega
noncomputable def prt (ns:List Int) (k m:Nat):List Int:=(ns.take m).drop k
theorem prt_count (st:List Int) {k m:Nat} (h:k <= m) (p:Int -> Bool):((st.take k).countP p:Nat) + (prt st k m).countP p = (st.take m).countP p:=by
 have e:st.take m = st.take k ++ prt st k m:=by
  have:=List.take_append_drop k (st.take m)
  rw [List.take_take,Nat.min_eq_left h] at this
  exact this.symm
 rw [e,List.countP_append]
theorem count_split (l:List Int) {a m b:Int} (h1:a <= m) (h2:m <= b):l.countP (inn a b) = l.countP (inn a m) + l.countP (inn (m + 1) b):=by
 induction l with
 | nil=>rfl
 | cons x l ih =>
  rw [List.countP_cons,List.countP_cons,List.countP_cons,ih]
  have key:(if inn a b x = true then 1 else 0:Nat) = (if inn a m x = true then 1 else 0) + (if inn (m + 1) b x = true then 1 else 0):=by
   unfold inn
   simp only [Bool.and_eq_true,decide_eq_true_eq]
   split <;> split <;> split <;> omega
  omega
theorem count_less (l:List Int) {a m:Int} (h1:a <= m):l.countP (fun x=>decide (x < m + 1)) = l.countP (fun x=>decide (x < a)) + l.countP (inn a m):=by
 induction l with
 | nil=>rfl
 | cons x l ih =>
  rw [List.countP_cons,List.countP_cons,List.countP_cons,ih]
  have key:(if decide (x < m + 1) = true then 1 else 0:Nat) = (if decide (x < a) = true then 1 else 0) + (if inn a m x = true then 1 else 0):=by
   unfold inn
   simp only [Bool.and_eq_true,decide_eq_true_eq]
   split <;> split <;> split <;> omega
  omega
theorem stn_prt (ns:List Int) (k m:Nat):prt (stn ns) k m = (prt ns k m).map fun x=>(ixW (wor ns) x:Int):=by
 unfold prt stn
 rw [<- List.map_take,<- List.map_drop]
theorem mem_prt {ns:List Int} {k m:Nat} {x:Int} (h:x ∈ prt ns k m):x ∈ ns:=List.mem_of_mem_take (List.mem_of_mem_drop h)
theorem stn_less {ns:List Int} {k m:Nat} {a:Nat} {wa:Int} (ha:(wor ns)[a]? = some wa):(prt (stn ns) k m).countP (fun x=>decide (x < (a:Int))) = (prt ns k m).countP fun x=>decide (x < wa):=by
 rw [stn_prt,List.countP_map]
 refine List.countP_congr fun x hx=>?_
 have ix:=ixW_at ((wor_mem x ns).mpr (mem_prt hx))
 have:=(rise_get (wor_rise ns) ix ha).2
 simp only [Function.comp,decide_eq_true_eq]
 omega
theorem stn_lessE {ns:List Int} {k m:Nat} {a:Nat} {wa:Int} (ha:(wor ns)[a]? = some wa):(prt (stn ns) k m).countP (fun x=>decide (x < (a:Int) + 1)) = (prt ns k m).countP fun x=>decide (x <= wa):=by
 rw [stn_prt,List.countP_map]
 refine List.countP_congr fun x hx=>?_
 have ix:=ixW_at ((wor_mem x ns).mpr (mem_prt hx))
 have:=(rise_get (wor_rise ns) ix ha).1
 simp only [Function.comp,decide_eq_true_eq]
 omega
theorem stn_max {ns:List Int} {M:Int} (h1:M ∈ stn ns) (h2:∀ y ∈ stn ns,y <= M):M = (wor ns).length - 1:=by
 unfold stn at h1
 obtain ⟨x,hx,e⟩:=List.mem_map.mp h1
 have hl:=ixW_lt ((wor_mem x ns).mpr hx)
 have hlen:(wor ns).length - 1 < (wor ns).length:=by omega
 have hz:(wor ns)[(wor ns).length - 1] ∈ ns:=(wor_mem _ ns).mp (List.getElem_mem _)
 have:=h2 (ixW (wor ns) ((wor ns)[(wor ns).length - 1]):Int) (by unfold stn; exact List.mem_map.mpr ⟨_,hz,rfl⟩)
 have g1:(wor ns)[(wor ns).length - 1]? = some (wor ns)[(wor ns).length - 1]:=List.getElem?_eq_getElem hlen
 have g2:=ixW_at (List.getElem_mem hlen)
 have g3:=(rise_get (wor_rise ns) g1 g2).1
 have g4:=(rise_get (wor_rise ns) g2 g1).1
 omega
theorem stn_in {ns:List Int} {x:Int} (h:x ∈ stn ns):0 <= x /\ x < (wor ns).length:=by
 unfold stn at h
 obtain ⟨y,hy,rfl⟩:=List.mem_map.mp h
 have:=ixW_lt ((wor_mem y ns).mpr hy)
 omega
end R40
namespace R40
open PySem PySem.Spec L2 L3 PyProof.Rows
noncomputable abbrev gnD (a b:Int) (lo hi:Nat):PyData:=.tuple [prD (a,b),.int lo,.int hi]
section
variable {P:Program} {w:World} {K:PySem.W.Frag} {mg:Str -> Option Value} {base:Heap}
noncomputable def cAtF:Con:=fun args Q=>∃ (ns:List Int) (l h:Nat),args = [.fz (liD (stn ns)),.fz (.int l),.fz (.int h)] /\ 1 <= ns.length /\ ∀ o,Q (.fz (gnD 0 ((wor ns).length - 1) l (h + 1))) o
theorem scAtF:FnScope ["standing","low","high"] ["standing","low","high"] (defScope (top 16)):=⟨rfl,rfl,rfl,by decide +kernel,rfl,by decide +kernel,by decide +kernel⟩
theorem ok_atf {f:Addr} {fd:FuncData} (F:Fun K "at_first" "at_first" (top 16) f fd) (T:Txt mg):FnOk P w K mg base CX0 1 f fd ["standing","low","high"] (conSp K cAtF):=by
 have S:=scAtF
 refine wfn F S (fun cdv A outer s H E hr=>(s_one (s_ret (w_tup (wa_cons (wx (w_tup (wa_cons (wx w_int) (wa_cons (wx (w_callB ok_mxI (call_mxI (K:=K) rfl rfl) T.max_ boot_max (wa_cons (wn 0) wa_nil))) wa_nil)))) (wa_cons (wx (wv 1)) (wa_cons (wx (w_bin ok_add op_addD (wn 2) (wx w_int))) wa_nil))))))) ?_ ?_
 ·rintro args Qd ⟨ns,l,h,rfl,_⟩; rfl
 ·rintro args Qd ⟨ns,l,h,rfl,hn,q⟩
  refine ⟨noOw_of rfl,?_⟩
  have hsl:0 < (stn ns).length:=by unfold stn; rw [List.length_map]; omega
  refine ⟨stn ns,rfl,hsl,fun M m1 m2=>?_⟩
  rw [stn_max m1 m2]
  exact q _
noncomputable def cGo:Con:=fun args Q=>∃ (a b:Int) (l h:Nat),args = [.fz (gnD a b l h)] /\ ∀ o,Q (.fz (.bool (decide (a < b)))) o
theorem scGo:FnScope ["gone"] ["gone"] (defScope (top 17)):=⟨rfl,rfl,rfl,by decide +kernel,rfl,by decide +kernel,by decide +kernel⟩
theorem ok_go {f:Addr} {fd:FuncData} (F:Fun K "goes_on" "goes_on" (top 17) f fd):FnOk P w K mg base CX0 1 f fd ["gone"] (conSp K cGo):=by
 have S:=scGo
 refine wfn F S (fun cdv A outer s H E hr=>(s_one (s_ret (w_cmp ok_lt op_lt (wx (w_ix rfl (wx (w_ix rfl (wn 0) (wx w_int))) (wx w_int))) (wx (w_ix rfl (wx (w_ix rfl (wn 0) (wx w_int))) (wx w_int))))))) ?_ ?_
 ·rintro args Qd ⟨a,b,l,h,rfl,_⟩; rfl
 ·rintro args Qd ⟨a,b,l,h,rfl,q⟩
  refine ⟨noOw_of rfl,?_⟩
  exact ⟨_,rfl,_,rfl,_,rfl,_,rfl,q _⟩
noncomputable def cInF:Con:=fun args Q=>∃ (st:List Int) (a b:Int) (k m:Nat),args = [.fz (rwD (flg st (a,b))),.fz (gnD a b (cn st k a b) (cn st m a b))] /\ a < b /\ k <= m /\
 ∀ o,Q (.fz (.int ((cn st m a ((a + b) / 2) - cn st k a ((a + b) / 2):Nat):Int))) o
theorem scInF:FnScope ["flags","gone"] ["flags","gone"] (defScope (top 18)):=⟨rfl,rfl,rfl,by decide +kernel,rfl,by decide +kernel,by decide +kernel⟩
theorem ok_inf {f:Addr} {fd:FuncData} (F:Fun K "in_first_half" "in_first_half" (top 18) f fd):FnOk P w K mg base CX0 1 f fd ["flags","gone"] (conSp K cInF):=by
 have S:=scInF
 refine wfn F S (fun cdv A outer s H E hr=>(s_one (s_ret (w_countE (wx (w_sl3T rfl (wn 0) (wx (w_ix rfl (wn 1) (wx w_int))) (wx (w_ix rfl (wn 1) (wx w_int))))))))) ?_ ?_
 ·rintro args Qd ⟨st,a,b,k,m,rfl,_⟩; rfl
 ·rintro args Qd ⟨st,a,b,k,m,rfl,hab,hkm,q⟩
  refine ⟨noOw_of rfl,?_⟩
  refine ⟨_,rfl,_,rfl,by omega,by omega,?_⟩
  refine ⟨((flg st (a,b)).take (cn st m a b)).drop (cn st k a b),by rw [List.map_drop,List.map_take]; rfl,?_⟩
  have e:(((flg st (a,b)).take (cn st m a b)).drop (cn st k a b)).count 0 = cn st m a ((a + b) / 2) - cn st k a ((a + b) / 2):=by
   rw [cut_count _ (cn_mono st hkm a b),flg_take st m (a,b),flg_take st k (a,b),flg_count0 hab,flg_count0 hab]
   rfl
  rw [e]
  exact q _
noncomputable def cDn:Con:=fun args Q=>∃ (st:List Int) (a b:Int) (k m:Nat) (hf:Int),args = [.fz (rwD (flg st (a,b))),.fz (gnD a b (cn st k a b) (cn st m a b)),.fz (.int hf)] /\ a < b /\ 0 <= a /\ b <= 10000 /\
 ((hf = 0 /\ ∀ o,Q (.fz (gnD a ((a + b) / 2) (cn st k a ((a + b) / 2)) (cn st m a ((a + b) / 2)))) o) \/ (hf = 1 /\ ∀ o,Q (.fz (gnD ((a + b) / 2 + 1) b (cn st k ((a + b) / 2 + 1) b) (cn st m ((a + b) / 2 + 1) b))) o))
theorem scDn:FnScope ["flags","gone","half"] ["flags","gone","half"] (defScope (top 19)):=⟨rfl,rfl,rfl,by decide +kernel,rfl,by decide +kernel,by decide +kernel⟩
theorem ok_dn {f:Addr} {fd:FuncData} (F:Fun K "gone_down" "gone_down" (top 19) f fd) (C:CalsF P w K mg base):FnOk P w K mg base CX0 2 f fd ["flags","gone","half"] (conSp K cDn):=by
 have S:=scDn
 refine wfn F S (fun cdv A outer s H E hr=>(s_one (s_ret (w_tup (wa_cons (wx (w_ix rfl (wx (w_fn C.two_halves (hr.mono (by first | decide | omega)) (wa_cons (wx (w_ix rfl (wn 1) (wx w_int))) wa_nil))) (wn 2))) (wa_cons (wx (w_countV (wx (w_sl2T rfl (wn 0) (wx (w_ix rfl (wn 1) (wx w_int))))) (wn 2))) (wa_cons (wx (w_countV (wx (w_sl2T rfl (wn 0) (wx (w_ix rfl (wn 1) (wx w_int))))) (wn 2))) wa_nil))))))) ?_ ?_
 ·rintro args Qd ⟨st,a,b,k,m,hf,rfl,_⟩; rfl
 ·rintro args Qd ⟨st,a,b,k,m,hf,rfl,hab,a0,b1,q⟩
  refine ⟨noOw_of rfl,?_⟩
  refine ⟨_,rfl,?_⟩
  refine ⟨a,b,rfl,a0,by omega,by omega,b1,fun o=>?_⟩
  have tk:∀ j:Nat,((flg st (a,b)).map PyData.int).take (j:Int).toNat = ((flg st (a,b)).take j).map PyData.int:=fun j=>by rw [List.map_take]; rfl
  rcases q with ⟨rfl,q⟩ | ⟨rfl,q⟩
  ·refine ⟨_,rfl,?_⟩
   refine ⟨_,rfl,by omega,(flg st (a,b)).take (cn st k a b),tk _,?_⟩
   refine ⟨_,rfl,by omega,(flg st (a,b)).take (cn st m a b),tk _,?_⟩
   rw [flg_take st m (a,b),flg_take st k (a,b),flg_count0 hab,flg_count0 hab]
   exact q _
  ·refine ⟨_,rfl,?_⟩
   refine ⟨_,rfl,by omega,(flg st (a,b)).take (cn st k a b),tk _,?_⟩
   refine ⟨_,rfl,by omega,(flg st (a,b)).take (cn st m a b),tk _,?_⟩
   rw [flg_take st m (a,b),flg_take st k (a,b),flg_count1 hab,flg_count1 hab]
   exact q _
end
end R40
namespace R40
open PySem PySem.Spec L2 L3 PyProof.Rows
theorem cn_all {ns:List Int} {k:Nat} (h:k <= ns.length):cn (stn ns) k 0 ((wor ns).length - 1) = k:=by
 unfold cn
 rw [List.countP_eq_length.mpr,List.length_take]
 ·unfold stn; rw [List.length_map]; omega
 ·intro x hx
  have:=stn_in (List.mem_of_mem_take hx)
  unfold inn
  simp
  omega
theorem prt_len {ns:List Int} {k m:Nat} (h1:k <= m) (h2:m <= ns.length):(prt ns k m).length = m - k:=by
 unfold prt
 rw [List.length_drop,List.length_take]
 omega
theorem noMut_ints (l:List Int):noMut (rwD l) = true:=noMutAll_ints l
theorem stn_len (ns:List Int):(stn ns).length = ns.length:=by unfold stn; rw [List.length_map]
theorem cn_prt (st:List Int) {k m:Nat} (h:k <= m) (a b:Int):cn st m a b = cn st k a b + (prt st k m).countP (inn a b):=(prt_count st h (inn a b)).symm
noncomputable def trc (st:List Int) (k m:Nat) (a b t:Int):List PyData:=gnD a b (cn st k a b) (cn st m a b) :: if h:a < b then (if (a + b) / 2 < t then trc st k m ((a + b) / 2 + 1) b t else trc st k m a ((a + b) / 2) t) else []
termination_by (b - a).toNat
decreasing_by all_goals omega
theorem trc_lo {st:List Int} {k m:Nat} {a b t:Int} (h:a < b) (z:¬ (a + b) / 2 < t):trc st k m a b t = gnD a b (cn st k a b) (cn st m a b) :: trc st k m a ((a + b) / 2) t:=by rw [trc,dif_pos h,if_neg z]
theorem trc_hi {st:List Int} {k m:Nat} {a b t:Int} (h:a < b) (z:(a + b) / 2 < t):trc st k m a b t = gnD a b (cn st k a b) (cn st m a b) :: trc st k m ((a + b) / 2 + 1) b t:=by rw [trc,dif_pos h,if_pos z]
theorem trc_one {st:List Int} {k m:Nat} {a b t:Int} (h:¬ a < b):trc st k m a b t = [gnD a b (cn st k a b) (cn st m a b)]:=by rw [trc,dif_neg h]
theorem trc_cons (st:List Int) (k m:Nat) (a b t:Int):trc st k m a b t = gnD a b (cn st k a b) (cn st m a b) :: (trc st k m a b t).tail:=by rw [trc]; rfl
theorem trc_all (st:List Int) (k m:Nat) (t:Int):∀ (n:Nat) (a b:Int),(b - a).toNat = n -> a <= b -> (trc st k m a b t).length <= n + 1 /\ ∀ d ∈ trc st k m a b t,∃ c e:Int,a <= c /\ c <= e /\ e <= b /\ d = gnD c e (cn st k c e) (cn st m c e):=by
 intro n
 induction n using Nat.strongRecOn with
 | _ n ih =>
  intro a b e h
  by_cases hab:a < b
  ·by_cases z:(a + b) / 2 < t
   ·rw [trc_hi hab z]
    obtain ⟨h1,h2⟩:=ih _ (by omega) ((a + b) / 2 + 1) b rfl (by omega)
    refine ⟨by rw [List.length_cons]; omega,fun d hd=>?_⟩
    rcases List.mem_cons.mp hd with rfl | hd
    ·exact ⟨a,b,by omega,by omega,by omega,rfl⟩
    ·obtain ⟨c,e,q1,q2,q3,q4⟩:=h2 d hd
     exact ⟨c,e,by omega,q2,q3,q4⟩
   ·rw [trc_lo hab z]
    obtain ⟨h1,h2⟩:=ih _ (by omega) a ((a + b) / 2) rfl (by omega)
    refine ⟨by rw [List.length_cons]; omega,fun d hd=>?_⟩
    rcases List.mem_cons.mp hd with rfl | hd
    ·exact ⟨a,b,by omega,by omega,by omega,rfl⟩
    ·obtain ⟨c,e,q1,q2,q3,q4⟩:=h2 d hd
     exact ⟨c,e,q1,q2,by omega,q4⟩
  ·rw [trc_one hab]
   refine ⟨by simp,fun d hd=>?_⟩
   rw [List.mem_singleton.mp hd]
   exact ⟨a,b,by omega,by omega,by omega,rfl⟩
theorem cn_le (st:List Int) (k:Nat) (a b:Int):cn st k a b <= st.length:=by
 unfold cn
 have:=List.countP_le_length (p:=inn a b) (l:=st.take k)
 rw [List.length_take] at this
 omega
section
variable {P:Program} {w:World} {K:PySem.W.Frag} {mg:Str -> Option Value} {base:Heap}
structure CalsM (P:Program) (w:World) (K:PySem.W.Frag) (mg:Str -> Option Value) (base:Heap):Prop where
 worths:Cal P w K mg base 1 "worths" ["numbers"] (conSp K cWor)
 worth_numbers:Cal P w K mg base 2 "worth_numbers" ["numbers"] (conSp K cNum)
 at_first:Cal P w K mg base 1 "at_first" ["standing","low","high"] (conSp K cAtF)
 goes_on:Cal P w K mg base 1 "goes_on" ["gone"] (conSp K cGo)
 flags_at:Cal P w K mg base 2 "flags_at" ["standing","stretch"] (conSp K cFlg)
 two_halves:Cal P w K mg base 1 "two_halves" ["stretch"] (conSp K cTwo)
 in_first_half:Cal P w K mg base 1 "in_first_half" ["flags","gone"] (conSp K cInF)
 gone_down:Cal P w K mg base 2 "gone_down" ["flags","gone","half"] (conSp K cDn)
noncomputable def cSom:Con:=fun args Q=>∃ (ns:List Int) (k h n:Nat),args = [.fz (liD ns),.fz (.int k),.fz (.int h),.fz (.int n)] /\ k <= h /\ h < ns.length /\ ns.length <= 1000 /\ n <= h - k /\
 ∀ (x:Int) (t:Nat) (o:Ev),(wor ns)[t]? = some x -> (prt ns k (h + 1)).countP (fun y=>decide (y < x)) <= n -> n < (prt ns k (h + 1)).countP (fun y=>decide (y <= x)) -> Q (.fz (.tuple [.int x,.list (trc (stn ns) k (h + 1) 0 ((wor ns).length - 1) t)])) o
theorem scSom:FnScope ["numbers","low","high","many","standing","gone","trace","ahead","flags","first","half"] ["numbers","low","high","many"] (defScope (top 20)):=⟨rfl,rfl,rfl,by decide +kernel,rfl,by decide +kernel,by decide +kernel⟩
theorem ok_som {f:Addr} {fd:FuncData} (F:Fun K "so_manieth" "so_manieth" (top 20) f fd) (T:Txt mg) (C:CalsM P w K mg base):FnOk P w K mg base CX0 3 f fd ["numbers","low","high","many"] (conSp K cSom):=by
 have S:=scSom
 refine wfn F S (fun cdv A outer s H E hr=>(s_cons (s_if (t_w (t_or (t_cmp ok_lt op_lt (wn 3) (wx w_int)) (t_or1 (t_cmp ok_gt op_gt (wn 3) (wx (w_bin ok_sub op_sub (wn 2) (wn 1))))))) (s_one s_never) s_nil)
     (s_cons (s_set (i:=4) S.nd rfl (Or.inl rfl) (w_fn C.worth_numbers (hr.mono (by first | decide | omega)) (wa_cons (wn 0) wa_nil)))
     (s_cons (s_set (i:=5) S.nd rfl (Or.inl rfl) (w_fn C.at_first (hr.mono (by first | decide | omega)) (wa_cons (wn 4) (wa_cons (wn 1) (wa_cons (wn 2) wa_nil)))))
     (s_cons (s_set (i:=6) S.nd rfl (Or.inl rfl) (w_lst (wa_cons (wx (wv 5)) wa_nil)))
     (s_cons (s_move (i:=7) S.nd rfl (Or.inl rfl) (wn 3))
     (s_cons (s_while PassesOwn.never (t_val (w_fn C.goes_on (hr.mono (by first | decide | omega)) (wa_cons (wn 5) wa_nil))) (s_cons (s_set (i:=8) S.nd rfl (Or.inl rfl) (w_fn C.flags_at (hr.mono (by first | decide | omega)) (wa_cons (wn 4) (wa_cons (wx (w_ix rfl (wn 5) (wx w_int))) wa_nil))))
     (s_cons (s_set (i:=9) S.nd rfl (Or.inl rfl) (w_fn C.in_first_half (hr.mono (by first | decide | omega)) (wa_cons (wn 8) (wa_cons (wn 5) wa_nil))))
     (s_cons (s_set (i:=10) S.nd rfl (Or.inl rfl) (w_ifE (t_cmp ok_ge op_ge (wn 7) (wn 9)) w_int w_int))
     (s_cons (s_set (i:=7) S.nd rfl (Or.inl rfl) (w_bin ok_sub op_sub (wn 7) (wx (w_bin ok_mul op_mulD (wn 10) (wn 9)))))
     (s_cons (s_set (i:=5) S.nd rfl (Or.inl rfl) (w_fn C.gone_down (hr.mono (by first | decide | omega)) (wa_cons (wn 8) (wa_cons (wn 5) (wa_cons (wn 10) wa_nil)))))
     (s_one (s_expr (w_m ok_append rfl PySem.F.slot_list_append PySem.F.type_list_append mt_append (wn 6) (wa_cons (wx (wv 5)) wa_nil))))))))))
     (s_one (s_ret (w_tup (wa_cons (wx (w_ix rfl (wx (w_fn C.worths (hr.mono (by first | decide | omega)) (wa_cons (wn 0) wa_nil))) (wx (w_ix rfl (wx (w_ix rfl (wn 5) (wx w_int))) (wx w_int))))) (wa_cons (wx (wv 6)) wa_nil)))))))))))) ?_ ?_
 ·rintro args Qd ⟨ns,k,h,n,rfl,_⟩; rfl
 ·rintro args Qd ⟨ns,k,h,n,rfl,hkh,hh,hn,hnn,q⟩
  refine ⟨noOw_of rfl,?_⟩
  have hw:=wor_len ns
  have hw1:=wor_pos (ns:=ns) (by omega)
  have hstl:=stn_len ns
  refine ite2 (fun z=>?_) (fun _=>?_)
  ·exfalso
   have z:(h:Int) - k < n:=of_decide_eq_true z
   omega
  refine ⟨ns,rfl,hn,fun o=>?_⟩
  refine ⟨ns,k,h,rfl,by omega,fun o=>⟨rfl,?_⟩⟩
  refine ⟨fun m ρ=>∃ (a b:Int) (ah:Nat) (tr:List PyData) (x y z:Option Sl),ρ = [some (.fz (liD ns)),some (.fz (.int k)),some (.fz (.int h)),some (.fz (.int n)),some (.ow (liD (stn ns))),some (.fz (gnD a b (cn (stn ns) k a b) (cn (stn ns) (h + 1) a b))),some (.ow (.list tr)),some (.fz (.int ah)),x,y,z] /\
    0 <= a /\ a <= b /\ b < (wor ns).length /\ m = (b - a).toNat /\ tr.length + (b - a).toNat <= 1001 /\ (prt (stn ns) k (h + 1)).countP (fun x=>decide (x < a)) + ah = n /\ ah < (prt (stn ns) k (h + 1)).countP (inn a b) /\ ((x = none /\ y = none /\ z = none) \/ ∃ d e g,x = some (.fz d) /\ y = some (.fz e) /\ z = some (.fz g)) /\ (∀ t:Int,a <= t -> t <= b -> tr ++ (trc (stn ns) k (h + 1) a b t).tail = trc (stn ns) k (h + 1) 0 ((wor ns).length - 1) t),⟨_,0,(wor ns).length - 1,n,[gnD 0 ((wor ns).length - 1) k (h + 1)],none,none,none,?_,by omega,by omega,by omega,rfl,?_,?_,?_,.inl ⟨rfl,rfl,rfl⟩,?_⟩,?_⟩
  ·rw [cn_all (by omega),cn_all (by omega)]
   rfl
  ·simp only [List.length_cons,List.length_nil]; omega
  ·have e0:(prt (stn ns) k (h + 1)).countP (fun x=>decide (x < 0)) = 0:=List.countP_eq_zero.mpr fun x hx=>by
    have:=stn_in (mem_prt hx)
    simp
    omega
   rw [e0,Nat.zero_add]
  ·have:=cn_prt (stn ns) (show k <= h + 1 by omega) 0 ((wor ns).length - 1)
   rw [cn_all (by omega),cn_all (by omega)] at this
   omega
  ·intro t _ _
   have e:=trc_cons (stn ns) k (h + 1) 0 ((wor ns).length - 1) t
   rw [cn_all (by omega),cn_all (by omega)] at e
   exact e.symm
  rintro m ρ ⟨a,b,ah,tr,x,y,z,rfl,a0,ab,b1,rfl,htr,hah,hai,hx,hT⟩
  have key:=cn_prt (stn ns) (show k <= h + 1 by omega) a ((a + b) / 2)
  rcases hx with ⟨rfl,rfl,rfl⟩ | ⟨xd,yd,zd,rfl,rfl,rfl⟩
  all_goals
   refine ⟨a,b,_,_,rfl,fun o=>?_⟩
   refine ite2 (fun hab=>?_) (fun hab=>?_)
   ·have hab:a < b:=of_decide_eq_true hab
    have cl:=count_less (prt (stn ns) k (h + 1)) (show a <= (a + b) / 2 by omega)
    have cs:=count_split (prt (stn ns) k (h + 1)) (show a <= (a + b) / 2 by omega) (show (a + b) / 2 <= b by omega)
    refine ⟨fun ρ'=>∃ m',m' < (b - a).toNat /\ _,fun ρ' h=>h,?_⟩
    refine ⟨_,rfl,stn ns,(a,b),rfl,by omega,a0,by omega,by omega,by omega,fun o=>⟨noMut_ints _,?_⟩⟩
    refine ⟨stn ns,a,b,k,h + 1,rfl,hab,by omega,fun o=>?_⟩
    obtain ⟨fi,efi⟩:∃ fi:Nat,fi = cn (stn ns) (h + 1) a ((a + b) / 2) - cn (stn ns) k a ((a + b) / 2):=⟨_,rfl⟩
    rw [<- efi]
    refine ite2 (fun hf=>?_) (fun hf=>?_)
    ·have hf:(fi:Int) <= (ah:Int):=of_decide_eq_true hf
     refine ⟨.inl ⟨by decide,by decide⟩,?_⟩
     refine ⟨stn ns,a,b,k,h + 1,1,rfl,hab,a0,by omega,.inr ⟨rfl,fun o=>?_⟩⟩
     refine ⟨Nat.lt_of_le_of_lt (show tr.length <= 1001 by omega) (by decide),?_⟩
     have el:(ah:Int) - 1 * (fi:Int) = ((ah - fi:Nat):Int):=by omega
     exact ⟨(b - ((a + b) / 2 + 1)).toNat,by omega,(a + b) / 2 + 1,b,ah - fi,_,_,_,_,by rw [<- el]; rfl,by omega,by omega,b1,rfl,by rw [List.length_append,List.length_singleton]; omega,by omega,by omega,.inr ⟨_,_,_,rfl,rfl,rfl⟩,fun t t1 t2=>by rw [<- hT t (by omega) t2,trc_hi hab (by omega),List.tail_cons,trc_cons (stn ns) k (h + 1) ((a + b) / 2 + 1) b t,List.tail_cons,List.append_assoc]; rfl⟩
    ·have hf:¬ (fi:Int) <= (ah:Int):=fun y=>hf (decide_eq_true y)
     refine ⟨.inl ⟨by decide,by decide⟩,?_⟩
     refine ⟨stn ns,a,b,k,h + 1,0,rfl,hab,a0,by omega,.inl ⟨rfl,fun o=>?_⟩⟩
     refine ⟨Nat.lt_of_le_of_lt (show tr.length <= 1001 by omega) (by decide),?_⟩
     have el:(ah:Int) - 0 * (fi:Int) = (ah:Int):=by omega
     have el2:(fun i j:Int=>PyData.int (i - j)) (ah:Int) (0 * (fi:Int)) = PyData.int ah:=by show PyData.int ((ah:Int) - 0 * (fi:Int)) = _; rw [el]
     exact ⟨((a + b) / 2 - a).toNat,by omega,a,(a + b) / 2,ah,tr ++ [gnD a ((a + b) / 2) (cn (stn ns) k a ((a + b) / 2)) (cn (stn ns) (h + 1) a ((a + b) / 2))],some (.fz (rwD (flg (stn ns) (a,b)))),some (.fz (.int fi)),some (.fz (.int 0)),by rw [el2]; rfl,a0,by omega,by omega,rfl,by rw [List.length_append,List.length_singleton]; omega,hah,by omega,.inr ⟨_,_,_,rfl,rfl,rfl⟩,fun t t1 t2=>by rw [<- hT t t1 (by omega),trc_lo hab (by omega),List.tail_cons,trc_cons (stn ns) k (h + 1) a ((a + b) / 2) t,List.tail_cons,List.append_assoc]; rfl⟩
   ·have hab:¬ a < b:=fun y=>hab (decide_eq_true y)
    have eb:b = a:=by omega
    subst eb
    obtain ⟨a',ea⟩:=Int.eq_ofNat_of_zero_le a0
    subst ea
    have al:a' < (wor ns).length:=by omega
    have ha:(wor ns)[a']? = some (wor ns)[a']:=List.getElem?_eq_getElem al
    generalize (wor ns)[a'] = wa at ha
    have h1:=stn_less (k:=k) (m:=h + 1) ha
    have h2:=stn_lessE (k:=k) (m:=h + 1) ha
    have h3:=count_less (prt (stn ns) k (h + 1)) (show (a':Int) <= a' by omega)
    refine ⟨ns,rfl,hn,fun o=>?_⟩
    refine ⟨_,rfl,_,rfl,_,atI_nat (show ((wor ns).map PyData.int)[a']? = some (.int wa) by rw [List.getElem?_map,ha]; rfl),?_⟩
    have eT:=hT a' (by omega) (by omega)
    rw [trc_one hab,List.tail_cons,List.append_nil] at eT
    rw [eT]
    exact q wa a' _ ha (by omega) (by omega)
end
end R40
namespace R40
open PySem PySem.Spec L2 L3 PyProof.Rows
theorem ints_mix (l:List Int):SeqAt.noMix (.list (l.map PyData.int)) (.list []) = true:=by cases l <;> simp [SeqAt.noMix,SeqAt.noMixAll]
theorem ints_same (l:List Int):same (.list (l.map PyData.int)) (.list []) = decide (l = []):=by cases l <;> simp [same,sameAll]
section
variable {P:Program} {w:World} {K:PySem.W.Frag} {mg:Str -> Option Value} {base:Heap}
structure CalsPa (P:Program) (w:World) (K:PySem.W.Frag) (mg:Str -> Option Value) (base:Heap):Prop where
 law_draw:Cal P w K mg base 1 "_law_draw" ["_law_pen_here","_law_many"] (conSp K cDraw)
noncomputable def cPair:Con:=fun args Q=>∃ (a b c:Int) (n:Nat),args = [.io (penD a b c),.fz (.int n)] /\ 0 <= a /\ 0 <= b /\ 0 <= c /\ 0 < n /\ n <= 1000 /\
 ∀ (k h:Nat) (a' b' c':Int) (o:Ev),k <= h -> h < n -> 0 <= a' -> 0 <= b' -> 0 <= c' -> Q (.fz (prD (k,h))) (some (.io (penD a' b' c')) :: o)
theorem scPair:FnScope ["_law_pen_here","_law_size","_law_ends","_law_way"] ["_law_pen_here","_law_size"] (defScope (top 26)):=⟨rfl,rfl,rfl,by decide +kernel,rfl,by decide +kernel,by decide +kernel⟩
theorem ok_pair {f:Addr} {fd:FuncData} (F:Fun K "_law_pair" "_law_pair" (top 26) f fd) (T:Txt mg) (C:CalsPa P w K mg base):FnOk P w K mg base CX0 2 f fd ["_law_pen_here","_law_size"] (conSp K cPair):=by
 have S:=scPair
 refine wfn F S (fun cdv A outer s H E hr=>(s_cons (s_set (i:=2) S.nd rfl (Or.inl rfl) (w_callB ok_sortI (call_sortIK rfl) T.sorted_ boot_sorted (wa_cons (wx (w_lst (wa_cons (wx (w_fnI C.law_draw (hr.mono (by first | decide | omega)) (wa_cons (wn 0) (wa_cons (wn 1) wa_nil)))) (wa_cons (wx (w_fnI C.law_draw (hr.mono (by first | decide | omega)) (wa_cons (wn 0) (wa_cons (wn 1) wa_nil)))) wa_nil)))) wa_nil)))
     (s_cons (s_set (i:=3) S.nd rfl (Or.inl rfl) (w_fnI C.law_draw (hr.mono (by first | decide | omega)) (wa_cons (wn 0) (wa_cons (wx w_int) wa_nil))))
     (s_cons (s_if (t_cmp ok_eq (op_eqE (K:=K) rfl hr.units) (wn 3) (wx w_int)) (s_one (s_ret (w_tup (wa_cons (wx w_int) (wa_cons (wx (w_bin ok_sub op_sub (wn 1) (wx w_int))) wa_nil))))) s_nil)
     (s_cons (s_if (t_cmp ok_eq (op_eqE (K:=K) rfl hr.units) (wn 3) (wx w_int)) (s_one (s_ret (w_tup (wa_cons (wx (w_ix rfl (wn 2) (wx w_int))) (wa_cons (wx (w_ix rfl (wn 2) (wx w_int))) wa_nil))))) s_nil)
     (s_one (s_ret (w_tup (wa_cons (wx (w_ix rfl (wn 2) (wx w_int))) (wa_cons (wx (w_ix rfl (wn 2) (wx w_int))) wa_nil)))))))))) ?_ ?_
 ·rintro args Qd ⟨a,b,c,n,rfl,_⟩; rfl
 ·rintro args Qd ⟨a,b,c,n,rfl,ha,hb,hc,n0,n1,q⟩
  refine ⟨noOw_of rfl,?_⟩
  refine ⟨a,b,c,n,rfl,ha,hb,hc,by omega,by omega,fun r a1 b1 c1 _ r0 r1 ha1 hb1 hc1=>?_⟩
  refine ⟨a1,b1,c1,n,rfl,ha1,hb1,hc1,by omega,by omega,fun u a2 b2 c2 _ u0 u1 ha2 hb2 hc2=>?_⟩
  refine ⟨[r,u],rfl,by show 2 < 64; decide,fun ns' p1 p2=>?_⟩
  obtain ⟨x,y,rfl⟩:∃ x y,ns' = [x,y]:=by
   have:=p1.length_eq
   match ns',this with
   | [x,y],_=>exact ⟨x,y,rfl⟩
  have hx:x = r \/ x = u:=by simpa using p1.mem_iff.mp (show x ∈ [x,y] by simp)
  have hy:y = r \/ y = u:=by simpa using p1.mem_iff.mp (show y ∈ [x,y] by simp)
  have hxy:x <= y:=by simpa using p2
  obtain ⟨x',ex⟩:=Int.eq_ofNat_of_zero_le (show 0 <= x by omega)
  obtain ⟨y',ey⟩:=Int.eq_ofNat_of_zero_le (show 0 <= y by omega)
  subst ex
  subst ey
  refine ⟨a2,b2,c2,8,rfl,ha2,hb2,hc2,by decide,by decide,fun v a3 b3 c3 _ v0 v1 ha3 hb3 hc3=>?_⟩
  refine ite2 (fun z=>?_) (fun z=>?_)
  ·have e:(n:Int) - 1 = ((n - 1:Nat):Int):=by omega
   refine (?_:Qd (.fz (.tuple [.int 0,.int ((n:Int) - 1)])) _)
   rw [e]
   exact q 0 (n - 1) a3 b3 c3 _ (by omega) (by omega) ha3 hb3 hc3
  refine ite2 (fun z=>?_) (fun z=>?_)
  ·refine ⟨_,rfl,_,rfl,?_⟩
   exact q x' x' a3 b3 c3 _ (by omega) (by omega) ha3 hb3 hc3
  ·refine ⟨_,rfl,_,rfl,?_⟩
   exact q x' y' a3 b3 c3 _ (by omega) (by omega) ha3 hb3 hc3
noncomputable def cLWo:Con:=fun args Q=>∃ ns:List Int,args = [.fz (liD ns)] /\ ns.length <= 1000 /\ ∀ o,Q (.ow (liD (wor ns))) o
theorem scLWo:FnScope ["_law_numbers","_law_found","_law_number_here"] ["_law_numbers"] (defScope (top 28)):=⟨rfl,rfl,rfl,by decide +kernel,rfl,by decide +kernel,by decide +kernel⟩
theorem ok_lwo {f:Addr} {fd:FuncData} (F:Fun K "_law_worths" "_law_worths" (top 28) f fd) (T:Txt mg):FnOk P w K mg base CX0 1 f fd ["_law_numbers"] (conSp K cLWo):=by
 have S:=scLWo
 refine wfn F S (fun cdv A outer s H E hr=>(s_cons (s_set (i:=1) S.nd rfl (Or.inl rfl) (w_lst wa_nil))
     (s_cons (s_for [2] PassesOwn.never rfl (i_seq rfl (w_callB ok_sortA (call_sortAK rfl) T.sorted_ boot_sorted (wa_cons (wn 0) wa_nil))) (g_name (i:=2) S.nd rfl (Or.inl rfl)) (s_one (s_if (t_w (t_or (t_cmp ok_eq (op_eqE (K:=K) rfl hr.units) (wn 1) (wx (w_lst wa_nil))) (t_or1 (t_cmp ok_ne (op_neE (K:=K) rfl hr.units) (wx (w_ix rfl (wn 1) (wx (w_neg (wx w_int))))) (wn 2))))) (s_one (s_expr (w_m ok_append rfl PySem.F.slot_list_append PySem.F.type_list_append mt_append (wn 1) (wa_cons (wx (wv 2)) wa_nil)))) s_nil)))
     (s_one (s_retV (wn 1)))))) ?_ ?_
 ·rintro args Qd ⟨ns,rfl,_⟩; rfl
 ·rintro args Qd ⟨ns,rfl,hn,q⟩
  refine ⟨noOw_of rfl,?_⟩
  refine ⟨ns,rfl,fun ms m1 m2=>?_⟩
  have hml:=m1.length_eq
  refine loopC (fun rest ρ=>∃ pre suf fd:List Int,rest = suf.map PyData.int /\ ms = pre ++ suf /\ fd.Pairwise (· < ·) /\ (∀ z,z ∈ fd ↔ z ∈ pre) /\ fd.length <= pre.length /\ ρ = [some (.fz (liD ns)),some (.ow (liD fd)),none]) ?_ ?_ ⟨[],ms,[],rfl,rfl,.nil,by simp,Nat.le_refl _,rfl⟩
  ·rintro d ds ρ ⟨pre,suf,fd,e1,e2,hr,hm,hfl,rfl⟩ N hN
   cases suf with
   | nil=>cases e1
   | cons x suf =>
    cases e1
    subst e2
    have m3:=List.pairwise_append.mp m2
    have le:∀ z ∈ fd,z <= x:=fun z hz=>m3.2.2 z ((hm z).mp hz) x List.mem_cons_self
    have hz:fd.length < 1000:=by rw [List.length_append,List.length_cons] at hml; omega
    have nf:=Nice.ints fd
    have app:(∀ z ∈ fd,z < x) -> N [some (.fz (liD ns)),some (.ow (.list (fd.map PyData.int ++ [.int x]))),none]:=fun hlt=>by
     have e:fd.map PyData.int ++ [PyData.int x] = (fd ++ [x]).map PyData.int:=by simp
     rw [e]
     refine hN _ ⟨pre ++ [x],suf,fd ++ [x],rfl,by simp,?_,fun z=>by rw [List.mem_append,hm,List.mem_append],by simp; omega,rfl⟩
     rw [List.pairwise_append]
     exact ⟨hr,List.pairwise_singleton _ _,fun a ha b hb=>by rw [List.mem_singleton.mp hb]; exact hlt a ha⟩
    refine ⟨nf.p,rfl,nf.sh (by decide),rfl,ints_mix fd,ite2 (fun h=>?_) (fun h=>?_)⟩
    ·have h:same (.list (fd.map PyData.int)) (.list []) = true:=h
     rw [ints_same] at h
     have h:fd = []:=of_decide_eq_true h
     subst h
     refine ⟨by simp; decide,?_⟩
     exact app (by simp)
    ·have h:¬ same (.list (fd.map PyData.int)) (.list []) = true:=h
     rw [ints_same] at h
     have h:fd ≠ []:=fun z=>h (decide_eq_true z)
     obtain ⟨fd',y,rfl⟩:∃ fd' y,fd = fd' ++ [y]:=by
      rcases List.eq_nil_or_concat fd with e | ⟨a,b,e⟩
      ·exact absurd e h
      ·exact ⟨a,b,by simpa using e⟩
     have hat:atI ((fd' ++ [y]).map PyData.int) (-1) = some (.int y):=by
      unfold atI
      have:ixN ((fd' ++ [y]).map PyData.int).length (-1) = some fd'.length:=by
       simp [ixN]
       omega
      rw [this]
      simp
     refine ⟨_,hat,ite2 (fun h2=>?_) (fun h2=>?_)⟩
     ·have h2:(!decide (y = x)) = true:=h2
      have h2:y ≠ x:=by simpa using h2
      refine ⟨by rw [List.length_map]; exact Nat.lt_of_lt_of_le hz (by decide),?_⟩
      exact app fun z hzm=>by
       rcases List.mem_append.mp hzm with hz' | hz'
       ·have h5:=(List.pairwise_append.mp hr).2.2 z hz' y List.mem_cons_self
        have:=le y (by simp)
        omega
       ·rw [List.mem_singleton.mp hz']
        have:=le y (by simp)
        omega
     ·have h2:¬ (!decide (y = x)) = true:=h2
      have h2:y = x:=by simpa using h2
      subst h2
      refine hN _ ⟨pre ++ [y],suf,fd' ++ [y],rfl,by simp,hr,fun z=>?_,by simp at hfl ⊢; omega,rfl⟩
      rw [hm,List.mem_append]
      constructor
      ·exact fun z=>.inl z
      ·rintro (z' | z')
       ·exact z'
       ·rw [List.mem_singleton.mp z',<- hm]; simp
  ·rintro ρ ⟨pre,suf,fd,e1,e2,hr,hm,_,rfl⟩
   have:suf = []:=by cases suf with
    | nil=>rfl
    | cons=>cases e1
   subst this
   rw [List.append_nil] at e2
   subst e2
   rw [show fd = wor ns from wor_is hr fun z=>by rw [hm,m1.mem_iff]]
   exact q _
noncomputable def cSomX:(Str -> Option Value) -> ConX:=fun mg args C=>∃ (ns:List Int) (k h n:Int),args = [.fz (liD ns),.fz (.int k),.fz (.int h),.fz (.int n)] /\ (n < 0 \/ h - k < n) /\ C = cA mg "NoNumber"
theorem ok_somX {f:Addr} {fd:FuncData} (F:Fun K "so_manieth" "so_manieth" (top 20) f fd) (T:Txt mg) (L:Cls K mg) (C:CalsM P w K mg base):FnOk P w K mg base (CXE P w) 3 f fd ["numbers","low","high","many"] (conSpX K (cSomX mg)):=by
 have S:=scSom
 refine wfnR (C:=cA mg "NoNumber") F S (fun cdv A outer s H E hr=>(r_if (fun _ _ h=>h) (t_w (t_or (t_cmp ok_lt op_lt (wn 3) (wx w_int)) (t_or1 (t_cmp ok_gt op_gt (wn 3) (wx (w_bin ok_sub op_sub (wn 2) (wn 1))))))) T.NoNumber_ L.NoNumber_e)) ?_ ?_
 ·rintro args C' ⟨ns,k,h,n,rfl,_⟩; rfl
 ·rintro args C' ⟨ns,k,h,n,rfl,hb,rfl⟩
  refine ⟨rfl,noOw_of rfl,?_⟩
  refine ite2 (fun z=>⟨rfl,trivial⟩) (fun z=>?_)
  have z:¬ n < 0:=fun y=>z (decide_eq_true y)
  exact ⟨decide_eq_true (by omega),trivial⟩
structure CalsIr (P:Program) (w:World) (K:PySem.W.Frag) (mg:Str -> Option Value) (base:Heap):Prop where
 so_maniethX:CalX P w K mg base 3 "so_manieth" ["numbers","low","high","many"] (conSpX K (cSomX mg))
noncomputable def cIr:Con:=fun args Q=>∃ (ns:List Int) (k h n:Int),args = [.fz (liD ns),.fz (prD (k,h)),.fz (.int n)] /\ (n < 0 \/ h - k < n) /\ ∀ o,Q (.fz (.bool true)) o
theorem scIr:FnScope ["_law_numbers","_law_ends","_law_many","_law_caught","e"] ["_law_numbers","_law_ends","_law_many"] (defScope (top 31)):=⟨rfl,rfl,rfl,by decide +kernel,rfl,by decide +kernel,by decide +kernel⟩
theorem ok_ir {f:Addr} {fd:FuncData} (F:Fun K "_law_is_refused" "_law_is_refused" (top 31) f fd) (T:Txt mg) (L:Cls K mg) (C:CalsIr P w K mg base):FnOk P w K mg base CX0 4 f fd ["_law_numbers","_law_ends","_law_many"] (conSp K cIr):=by
 have S:=scIr
 refine wfn F S (fun cdv A outer s H E hr=>(s_cons (s_set (i:=3) S.nd rfl (Or.inl rfl) w_non)
     (s_cons (s_tryX (iE:=4) (iC:=3) rfl ⟨rfl,rfl,rfl,S.nd,rfl,rfl,rfl,rfl,rfl,T.BoxError_,L.BoxError_e,rfl,by decide,by decide,by decide⟩ C.so_maniethX (hr.mono (by first | decide | omega)) (wa_cons (wn 0) (wa_cons (wx (w_ix rfl (wn 1) (wx w_int))) (wa_cons (wx (w_ix rfl (wn 1) (wx w_int))) (wa_cons (wn 2) wa_nil)))))
     (s_cons (s_if (t_w (t_or (t_cmp ok_isN op_isN (wn 3) (wx w_non)) (t_or1 (t_val (w_isXT rfl T.isinstance_ (wc_cons T.NoBack_ (wc_cons T.NoBox_ (wc_cons T.NoField_ (wc_cons T.NoRow_ (wc_cons T.NoText_ (wc_cons T.NoTurn_ wc_nil)))))) (wn 3)))))) (s_one (s_ret w_bl)) s_nil)
     (s_one (s_ret (w_and (w_isX rfl T.isinstance_ T.NoNumber_ (wn 3)) (w_one (w_isXV rfl T.isinstance_ T.ValueError_ (wn 3)))))))))) ?_ ?_
 ·rintro args Qd ⟨ns,k,h,n,rfl,_⟩; rfl
 ·rintro args Qd ⟨ns,k,h,n,rfl,hb,q⟩
  refine ⟨noOw_of rfl,?_⟩
  refine ⟨_,rfl,_,rfl,_,⟨ns,k,h,n,rfl,hb,rfl⟩,L.NoNumber_e,L.NoNumber_BoxError,rfl,by decide,trivial,?_⟩
  refine ⟨by show 6 <= 1000; decide,_,rfl,L.NoNumber_q,fun B hB=>?_,?_⟩
  ·simp only [List.mem_cons,List.not_mem_nil,or_false] at hB
   rcases hB with rfl | rfl | rfl | rfl | rfl | rfl
   ·exact L.NoBack_c
   ·exact L.NoBox_c
   ·exact L.NoField_c
   ·exact L.NoRow_c
   ·exact L.NoText_c
   ·exact L.NoTurn_c
  have e:[cA mg "NoBack",cA mg "NoBox",cA mg "NoField",cA mg "NoRow",cA mg "NoText",cA mg "NoTurn"].any (subIn K (cA mg "NoNumber")) = false:=by simp only [List.any_cons,List.any_nil,L.NoNumber_NoBack,L.NoNumber_NoBox,L.NoNumber_NoField,L.NoNumber_NoRow,L.NoNumber_NoText,L.NoNumber_NoTurn,Bool.or_false]
  rw [e]
  refine ⟨_,rfl,L.NoNumber_q,L.NoNumber_c,?_⟩
  rw [L.NoNumber_NoNumber]
  exact ⟨_,rfl,L.NoNumber_q,q _⟩
end
end R40
namespace R40
open PySem PySem.Spec L2 L3 PyProof.Rows
theorem rng_take (p:Int -> Bool):∀ (l:List Int) (lo:Nat),((List.range l.length).filter fun k=>p (l.getD k 0)).countP (fun k=>decide (k < lo)) = (l.take lo).countP p
 | [],lo=>by simp
 | x :: l,0=>by
  rw [List.take_zero,List.countP_nil]
  exact List.countP_eq_zero.mpr fun k _=>by simp
 | x :: l,lo + 1=>by
  have ih:=rng_take p l lo
  rw [List.countP_filter] at ih ⊢
  rw [List.length_cons,List.range_succ_eq_map,List.countP_cons,List.countP_map,List.take_succ_cons,List.countP_cons,<- ih]
  have e:((fun k:Nat=>decide (k < lo + 1) && p ((x :: l).getD k 0)) ∘ Nat.succ) = fun k=>decide (k < lo) && p (l.getD k 0):=by
   funext k
   show (decide (k + 1 < lo + 1) && p ((x :: l).getD (k + 1) 0)) = _
   rw [List.getD_cons_succ]
   simp
  rw [e]
  have e0:(decide (0 < lo + 1) && p ((x :: l).getD 0 0)) = p x:=by simp
  rw [e0]
noncomputable def herP (ns:List Int) (wa wb:Int) (k:Nat):Bool:=decide (wa <= ns.getD k 0) && decide (ns.getD k 0 <= wb)
noncomputable def her (ns:List Int) (wa wb:Int):List Nat:=(List.range ns.length).filter (herP ns wa wb)
theorem her_cn {ns:List Int} {a b:Nat} {wa wb:Int} (ha:(wor ns)[a]? = some wa) (hb:(wor ns)[b]? = some wb) (lo:Nat):((her ns wa wb).filter fun k=>decide (k < lo)).length = cn (stn ns) lo a b:=by
 rw [<- List.countP_eq_length_filter]
 have h:=rng_take (fun x=>decide (wa <= x) && decide (x <= wb)) ns lo
 refine Eq.trans h ?_
 unfold cn stn
 rw [<- List.map_take,List.countP_map]
 refine List.countP_congr fun x hx=>?_
 have hm:=(wor_mem x ns).mpr (List.mem_of_mem_take hx)
 have h1:=rise_get (wor_rise ns) ha (ixW_at hm)
 have h2:=rise_get (wor_rise ns) (ixW_at hm) hb
 simp only [Function.comp,inn,Bool.and_eq_true,decide_eq_true_eq]
 omega
theorem her_le (ns:List Int) (wa wb:Int):(her ns wa wb).length <= ns.length:=by
 unfold her
 have:=List.length_filter_le (herP ns wa wb) (List.range ns.length)
 rw [List.length_range] at this
 exact this
theorem her_data (ns:List Int) (wa wb:Int) {n:Nat} (e:n = ns.length):((rangeD 0 n).filter fun d=>herP ns wa wb (diI d).toNat).map id = (her ns wa wb).map fun k=>PyData.int ((k:Nat):Int):=by
 subst e
 rw [List.map_id,rangeD,List.filter_map,her]
 have e1:((fun d=>herP ns wa wb (diI d).toNat) ∘ fun (i:Nat)=>PyData.int ((0:Int) + i)) = herP ns wa wb:=by
  funext i
  show herP ns wa wb ((0:Int) + (i:Int)).toNat = _
  rw [Int.zero_add,Int.toNat_natCast]
 rw [e1]
 refine List.map_congr_left fun i _=>?_
 rw [Int.zero_add]
theorem her_cut (l:List Nat) (p:Int -> Bool) (q:Nat -> Bool) (h:∀ k:Nat,p (k:Int) = q k):(((l.map fun k=>PyData.int ((k:Nat):Int)).filter fun d=>p (diI d)).map id).length = (l.filter q).length:=by
 rw [List.map_id,List.filter_map,List.length_map]
 congr 2
 funext k
 exact h k
theorem cutS {t u:TDS} {E:DE} {ρ:Ev} (J:Ev -> Prop) (h1:∀ N:Ev -> Prop,(∀ ρ',J ρ' -> N ρ') -> t { nx:=N,rt:=E.rt,bk:=E.bk,ct:=E.ct } ρ) (h2:∀ ρ',J ρ' -> u E ρ'):dSeq t u E ρ:=h1 _ h2
section
variable {P:Program} {w:World} {K:PySem.W.Frag} {mg:Str -> Option Value} {base:Heap}
structure CalsTr (P:Program) (w:World) (K:PySem.W.Frag) (mg:Str -> Option Value) (base:Heap):Prop where
 law_worths:Cal P w K mg base 1 "_law_worths" ["_law_numbers"] (conSp K cLWo)
noncomputable def cTrc:Con:=fun args Q=>∃ (ns:List Int) (k h:Nat) (t:Nat) (x:Int),args = [.fz (liD ns),.fz (prD (k,h)),.fz (.int x)] /\ (wor ns)[t]? = some x /\ k <= h /\ h < ns.length /\ ns.length <= 1000 /\
 ∀ o,Q (.ow (.list (trc (stn ns) k (h + 1) 0 ((wor ns).length - 1) t))) o
theorem scTrc:FnScope ["_law_numbers","_law_ends","_law_number_here","_law_some","_law_at","_law_found","_law_knot","_law_here","_law_begin","_law_middle"] ["_law_numbers","_law_ends","_law_number_here"] (defScope (top 30)):=⟨rfl,rfl,rfl,by decide +kernel,rfl,by decide +kernel,by decide +kernel⟩
theorem ok_trc {f:Addr} {fd:FuncData} (F:Fun K "_law_trace" "_law_trace" (top 30) f fd) (T:Txt mg) (C:CalsTr P w K mg base):FnOk P w K mg base CX0 2 f fd ["_law_numbers","_law_ends","_law_number_here"] (conSp K cTrc):=by
 have S:=scTrc
 refine wfn F S (fun cdv A outer s H E hr=>(s_cons (s_set (i:=3) S.nd rfl (Or.inr rfl) (w_fn C.law_worths (hr.mono (by first | decide | omega)) (wa_cons (wn 0) wa_nil)))
     (s_cons (s_set (i:=4) S.nd rfl (Or.inl rfl) (w_m ok_indexI rfl PySem.F.slot_list_index PySem.F.type_list_index mt_indexI (wn 3) (wa_cons (wx (wv 2)) wa_nil)))
     (s_cons (s_set (i:=5) S.nd rfl (Or.inl rfl) (w_lst wa_nil))
     (s_cons (s_set (i:=6) S.nd rfl (Or.inr rfl) (w_tup (wa_cons (wx w_int) (wa_cons (wx (w_bin ok_sub op_sub (wx (w_callB ok_len (call_lenK (K:=K) rfl) T.len_ PySem.boot_len (wa_cons (wn 3) wa_nil))) (wx w_int))) wa_nil))))
     (s_cons (s_while PassesOwn.never (t_cmp ok_ne (op_neE (K:=K) rfl hr.units) (wn 6) (wx (w_tup wa_nil))) (s_cons (s_setC (i:=7) S.nd rfl rfl rfl (own:=["_law_k"]) (fr:=[3,6,0]) (by kernel_rfl) (i_rng1 T.range_ (wa_cons (wx (w_callB ok_len (call_lenK (K:=K) rfl) T.len_ PySem.boot_len (wa_cons (wn 0) wa_nil))) wa_nil)) (fun _ _ _ _=>(g_name (i:=0) (by decide +kernel:List.Nodup (["_law_k","_law_some","_law_knot","_law_numbers"]:List Str)) rfl (Or.inl rfl))) (fun _ _ _ _=>if1 (t_chain op_le op_le (wx (w_ix rfl (wn 1) (wx (w_ix rfl (wn 2) (wx w_int))))) (wx (w_ix rfl (wn 3) (wn 0))) (wx (w_ix rfl (wn 1) (wx (w_ix rfl (wn 2) (wx w_int))))))) (fun _ _ _ _=>(wv 0)))
     (s_cons (s_set (i:=8) S.nd rfl (Or.inl rfl) (w_callB ok_len (call_lenK (K:=K) rfl) T.len_ PySem.boot_len (wa_cons (wx (w_comp rfl (own:=["_law_k"]) (fr:=[1]) (by kernel_rfl) (i_seq rfl (wv 7)) (fun _ _ _ _=>(g_name (i:=0) (by decide +kernel:List.Nodup (["_law_k","_law_ends"]:List Str)) rfl (Or.inl rfl))) (fun _ _ _ _=>if1 (t_cmp ok_lt op_lt (wn 0) (wx (w_ix rfl (wn 1) (wx w_int))))) (fun _ _ _ _=>(wv 0)))) wa_nil)))
     (s_cons (s_expr (w_m ok_append rfl PySem.F.slot_list_append PySem.F.type_list_append mt_append (wn 5) (wa_cons (wx (w_tup (wa_cons (wx (wv 6)) (wa_cons (wx (wv 8)) (wa_cons (wx (w_callB ok_len (call_lenK (K:=K) rfl) T.len_ PySem.boot_len (wa_cons (wx (w_comp rfl (own:=["_law_k"]) (fr:=[1]) (by kernel_rfl) (i_seq rfl (wv 7)) (fun _ _ _ _=>(g_name (i:=0) (by decide +kernel:List.Nodup (["_law_k","_law_ends"]:List Str)) rfl (Or.inl rfl))) (fun _ _ _ _=>if1 (t_cmp ok_le op_le (wn 0) (wx (w_ix rfl (wn 1) (wx w_int))))) (fun _ _ _ _=>(wv 0)))) wa_nil))) wa_nil))))) wa_nil)))
     (s_cons (s_set (i:=9) S.nd rfl (Or.inl rfl) (w_bin ok_fdiv op_fdiv (wx (w_bin ok_add op_addD (wx (w_ix rfl (wn 6) (wx w_int))) (wx (w_ix rfl (wn 6) (wx w_int))))) (wx w_int)))
     (s_one (s_if (t_cmp ok_eq (op_eqE (K:=K) rfl hr.units) (wx (w_ix rfl (wn 6) (wx w_int))) (wx (w_ix rfl (wn 6) (wx w_int)))) (s_one (s_set (i:=6) S.nd rfl (Or.inr rfl) (w_tup wa_nil))) (s_one (s_if (t_cmp ok_gt op_gt (wn 4) (wn 9)) (s_one (s_set (i:=6) S.nd rfl (Or.inr rfl) (w_tup (wa_cons (wx (w_bin ok_add op_addD (wn 9) (wx w_int))) (wa_cons (wx (w_ix rfl (wn 6) (wx w_int))) wa_nil))))) (s_one (s_set (i:=6) S.nd rfl (Or.inr rfl) (w_tup (wa_cons (wx (w_ix rfl (wn 6) (wx w_int))) (wa_cons (wx (wv 9)) wa_nil))))))))))))))
     (s_one (s_retV (wn 5))))))))) ?_ ?_
 ·rintro args Qd ⟨ns,k,h,t,x,rfl,_⟩; rfl
 ·rintro args Qd ⟨ns,k,h,t,x,rfl,ht,hkh,hh,hn,q⟩
  refine ⟨noOw_of rfl,?_⟩
  have hw:=wor_len ns
  have hw1:=wor_pos (ns:=ns) (by omega)
  refine ⟨ns,rfl,hn,fun o=>?_⟩
  have tl:t < (wor ns).length:=(List.getElem?_eq_some_iff.mp ht).1
  have hno:∀ i,i < t -> (wor ns)[i]? ≠ some x:=fun i hi e=>by
   have:=(rise_get (wor_rise ns) e ht).2
   omega
  refine ⟨wor ns,t,rfl,ht,hno,?_⟩
  obtain ⟨_,hall⟩:=trc_all (stn ns) k (h + 1) t _ 0 ((wor ns).length - 1) rfl (by omega)
  have hall1:=(trc_all (stn ns) k (h + 1) t _ 0 ((wor ns).length - 1) rfl (by omega)).1
  have ewl:((((wor ns).map PyData.int).length:Nat):Int) - 1 = ((wor ns).length:Int) - 1:=by rw [List.length_map]
  refine ⟨fun m ρ=>∃ (kn:PyData) (tr:List PyData) (y z u:Option Sl),ρ = [some (.fz (liD ns)),some (.fz (prD (k,h))),some (.fz (.int x)),some (.ow (liD (wor ns))),some (.fz (.int t)),some (.ow (.list tr)),some (.fz kn),y,z,u] /\
    ((y = none /\ z = none /\ u = none) \/ ∃ d e g,y = some (.fz d) /\ z = some (.fz e) /\ u = some (.fz g)) /\
    ((kn = .tuple [] /\ tr = trc (stn ns) k (h + 1) 0 ((wor ns).length - 1) t /\ m = 0) \/ ∃ a b:Nat,kn = prD (a,b) /\ a <= t /\ t <= b /\ b < (wor ns).length /\ tr ++ trc (stn ns) k (h + 1) a b t = trc (stn ns) k (h + 1) 0 ((wor ns).length - 1) t /\ m = b - a + 1),⟨(wor ns).length,_,[],none,none,none,rfl,.inl ⟨rfl,rfl,rfl⟩,.inr ⟨0,(wor ns).length - 1,?_,by omega,by omega,by omega,?_,by omega⟩⟩,?_⟩
  ·show PyData.tuple [.int 0,.int (((((wor ns).map PyData.int).length:Nat):Int) - 1)] = _
   rw [ewl]
   have:((wor ns).length:Int) - 1 = (((wor ns).length - 1:Nat):Int):=by omega
   rw [this]
   rfl
  ·have:((wor ns).length:Int) - 1 = (((wor ns).length - 1:Nat):Int):=by omega
   rw [List.nil_append,this]
   rfl
  rintro m ρ ⟨kn,tr,y,z,u,rfl,hyz,hk⟩
  have nk:∀ l:List Int,Nice 1 (rwD l):=fun l=>Nice.tup l
  rcases hk with ⟨rfl,rfl,rfl⟩ | ⟨a,b,rfl,hat,htb,hbw,eT,rfl⟩
  ·refine ⟨rfl,rfl,rfl,rfl,rfl,?_⟩
   exact q _
  have n2:=nk [(a:Int),(b:Int)]
  refine ⟨n2.p,rfl,n2.sh (by decide),rfl,rfl,?_⟩
  refine ⟨fun ρ'=>∃ m',m' < b - a + 1 /\ _,fun ρ' h=>h,?_⟩
  have ha:(wor ns)[a]? = some (wor ns)[a]:=List.getElem?_eq_getElem (by omega)
  have hb:(wor ns)[b]? = some (wor ns)[b]:=List.getElem?_eq_getElem hbw
  generalize (wor ns)[a] = wa at ha
  generalize (wor ns)[b] = wb at hb
  have at_:∀ {j:Nat} {x:Int},(wor ns)[j]? = some x -> atI ((wor ns).map PyData.int) (j:Int) = some (.int x):=fun {j x} e=>atI_nat (by rw [List.getElem?_map,e]; rfl)
  have hck:=her_cn ha hb k
  have hch:=her_cn ha hb (h + 1)
  have hhl:=her_le ns wa wb
  have trl:tr.length < 1000:=by
   have e1:=congrArg List.length eT
   rw [List.length_append,trc_cons,List.length_cons] at e1
   omega
  rcases hyz with ⟨rfl,rfl,rfl⟩ | ⟨yd,zd,ud,rfl,rfl,rfl⟩
  all_goals
   refine ⟨by rw [List.length_map]; omega,by rw [List.length_map]; omega,by rw [rangeD,List.length_map,List.length_range,List.length_map]; exact le_size (by omega),?_⟩
   refine filC (fun d=>herP ns wa wb (diI d).toNat) id ?_ ?_
   ·intro d hd N M hN hM
    rw [rangeD,List.length_map] at hd
    obtain ⟨i,hi,rfl⟩:=List.mem_map.mp hd
    have hi:i < ns.length:=by have:=List.mem_range.mp hi; omega
    have en:atI (ns.map PyData.int) ((0:Int) + (i:Int)) = some (.int (ns.getD i 0)):=by
     rw [Int.zero_add]
     exact atI_nat (by rw [List.getElem?_map,List.getElem?_eq_getElem hi,List.getD_eq_getElem?_getD,List.getElem?_eq_getElem hi]; rfl)
    have eh:herP ns wa wb (diI (.int ((0:Int) + (i:Int)))).toNat = (decide (wa <= ns.getD i 0) && decide (ns.getD i 0 <= wb)):=by
     show herP ns wa wb ((0:Int) + (i:Int)).toNat = _
     rw [Int.zero_add,Int.toNat_natCast]
     rfl
    rw [eh] at hN hM
    refine ⟨_,rfl,_,at_ ha,_,en,ite2 (fun h3=>⟨_,rfl,_,at_ hb,ite2 (fun h4=>?_) (fun h4=>?_)⟩) (fun h3=>?_)⟩
    ·have h3:decide (wa <= ns.getD i 0) = true:=h3
     have h4:decide (ns.getD i 0 <= wb) = true:=h4
     exact hN (by rw [h3,h4]; rfl)
    ·have h4:¬ decide (ns.getD i 0 <= wb) = true:=h4
     exact hM (by rw [Bool.eq_false_iff.mpr h4,Bool.and_false])
    ·have h3:¬ decide (wa <= ns.getD i 0) = true:=h3
     exact hM (by rw [Bool.eq_false_iff.mpr h3,Bool.false_and])
   rw [her_data ns wa wb (by simp)]
   refine ⟨by rw [List.length_map]; exact le_size (by omega),?_⟩
   refine filC (fun d=>decide (diI d < (k:Int))) id ?_ ?_
   ·intro d hd N M hN hM
    obtain ⟨i,_,rfl⟩:=List.mem_map.mp hd
    refine ⟨_,rfl,ite2 (fun z=>hN z) (fun z=>hM (Bool.eq_false_iff.mpr z))⟩
   have e1:=her_cut (her ns wa wb) (fun x=>decide (x < (k:Int))) (fun i=>decide (i < k)) fun i=>by simp
   rw [hck] at e1
   refine ⟨by rw [List.length_map]; exact le_size (by omega),?_⟩
   refine filC (fun d=>decide (diI d <= (h:Int))) id ?_ ?_
   ·intro d hd N M hN hM
    obtain ⟨i,_,rfl⟩:=List.mem_map.mp hd
    refine ⟨_,rfl,ite2 (fun z=>hN z) (fun z=>hM (Bool.eq_false_iff.mpr z))⟩
   have e2:=her_cut (her ns wa wb) (fun x=>decide (x <= (h:Int))) (fun i=>decide (i < h + 1)) fun i=>by
    by_cases z:i < h + 1
    ·rw [decide_eq_true z]; exact decide_eq_true (by omega)
    ·rw [decide_eq_false z]; exact decide_eq_false (by omega)
   rw [hch] at e2
   rw [e1]
   refine ⟨Nat.lt_of_lt_of_le trl (by decide),?_⟩
   refine ⟨_,rfl,_,rfl,⟨by decide,by decide⟩,?_⟩
   rw [e2]
   refine ⟨_,rfl,_,rfl,?_⟩
   have em:((a:Int) + b) / 2 = (((a + b) / 2:Nat):Int):=by omega
   refine ite2 (fun z=>?_) (fun z=>?_)
   ·have z:(a:Int) = b:=of_decide_eq_true z
    have z:a = b:=by omega
    subst z
    refine ⟨0,by omega,.tuple [],_,_,_,_,rfl,.inr ⟨_,_,_,rfl,rfl,rfl⟩,.inl ⟨rfl,?_,rfl⟩⟩
    rw [<- eT,trc_one (by omega)]
    rfl
   have z:¬ (a:Int) = b:=fun y=>z (decide_eq_true y)
   refine ite2 (fun v=>?_) (fun v=>?_)
   ·have v:((a:Int) + b) / 2 < t:=of_decide_eq_true v
    refine ⟨_,rfl,?_⟩
    refine ⟨b - ((a + b) / 2 + 1) + 1,by omega,_,_,_,_,_,rfl,.inr ⟨_,_,_,rfl,rfl,rfl⟩,.inr ⟨(a + b) / 2 + 1,b,?_,by omega,by omega,hbw,?_,rfl⟩⟩
    ·show PyData.tuple [.int (((a:Int) + b) / 2 + 1),.int b] = _
     rw [em]
     rfl
    ·rw [<- eT,trc_hi (by omega) v,List.append_assoc,em]
     rfl
   ·have v:¬ ((a:Int) + b) / 2 < t:=fun y=>v (decide_eq_true y)
    refine ⟨_,rfl,?_⟩
    refine ⟨(a + b) / 2 - a + 1,by omega,_,_,_,_,_,rfl,.inr ⟨_,_,_,rfl,rfl,rfl⟩,.inr ⟨a,(a + b) / 2,?_,by omega,by omega,by omega,?_,rfl⟩⟩
    ·show PyData.tuple [.int (a:Int),.int (((a:Int) + b) / 2)] = _
     rw [em]
    ·rw [<- eT,trc_lo (by omega) v,List.append_assoc,em]
     rfl
end
end R40
namespace R40
open PySem PySem.Spec L2 L3 PyProof.Rows
theorem nth_sorted {l:List Int} (h:l.Pairwise (· <= ·)) {n:Nat} {y:Int} (e:l[n]? = some y):l.countP (fun x=>decide (x < y)) <= n /\ n < l.countP (fun x=>decide (x <= y)):=by
 obtain ⟨hn,e⟩:=List.getElem?_eq_some_iff.mp e
 have es:l.take n ++ y :: l.drop (n + 1) = l:=by rw [<- e,List.getElem_cons_drop,List.take_append_drop]
 have lt:(l.take n).length = n:=by rw [List.length_take]; omega
 have h2:=h
 rw [<- es] at h2
 obtain ⟨_,h3,h4⟩:=List.pairwise_append.mp h2
 have h5:=(List.pairwise_cons.mp h3).1
 rw [<- es,List.countP_append,List.countP_append,List.countP_cons,List.countP_cons]
 constructor
 ·have z1:(l.drop (n + 1)).countP (fun x=>decide (x < y)) = 0:=List.countP_eq_zero.mpr fun x hx=>by
   have:=h5 x hx
   simp
   omega
  have z2:=List.countP_le_length (p:=fun x=>decide (x < y)) (l:=l.take n)
  rw [z1]
  simp only [Int.lt_irrefl,decide_false,Bool.false_eq_true,if_false]
  omega
 ·have z1:(l.take n).countP (fun x=>decide (x <= y)) = (l.take n).length:=List.countP_eq_length.mpr fun x hx=>by
   have:=h4 x hx y List.mem_cons_self
   exact decide_eq_true this
  rw [z1,lt]
  simp only [Int.le_refl,decide_true,if_true]
  omega
theorem nth_uniq {l:List Int} {n:Nat} {x y:Int} (h1:l.countP (fun z=>decide (z < x)) <= n) (h2:n < l.countP (fun z=>decide (z <= x))) (h3:l.countP (fun z=>decide (z < y)) <= n) (h4:n < l.countP (fun z=>decide (z <= y))):x = y:=by
 rcases Int.lt_trichotomy x y with z | z | z
 ·have:=List.countP_mono_left (l:=l) (p:=fun w=>decide (w <= x)) (q:=fun w=>decide (w < y)) fun w _ hw=>by
   have:=of_decide_eq_true hw
   exact decide_eq_true (by omega)
  omega
 ·exact z
 ·have:=List.countP_mono_left (l:=l) (p:=fun w=>decide (w <= y)) (q:=fun w=>decide (w < x)) fun w _ hw=>by
   have:=of_decide_eq_true hw
   exact decide_eq_true (by omega)
  omega
theorem due_fine {ns:List Int} {k m t:Nat} {y:Int} (hn:ns.length <= 120) (h1:1 <= ns.length) (hy:-(10 ^ 39) < y /\ y < 10 ^ 39) :
  Nice 4 (.tuple [.int y,.list (trc (stn ns) k m 0 ((wor ns).length - 1) t)]) /\ (PyData.tuple [.int y,.list (trc (stn ns) k m 0 ((wor ns).length - 1) t)]).showable = true /\ (PyData.tuple [.int y,.list (trc (stn ns) k m 0 ((wor ns).length - 1) t)]).shown.length <= sizeLine:=by
 have hw:=wor_len ns
 have hw1:=wor_pos h1
 have hsl:=stn_len ns
 obtain ⟨hl,hall⟩:=trc_all (stn ns) k m t _ 0 ((wor ns).length - 1) rfl (by omega)
 have hi:∀ i:Int,0 <= i -> i <= 1000 -> (PyData.int i).shown.length <= 5 /\ (PyData.int i).showable = true:=fun i i0 i1 =>
  ⟨shown_int (k:=4) (by decide) (by omega),showable_int (k:=10) (by omega) (by decide)⟩
 have ent:∀ d ∈ trc (stn ns) k m 0 ((wor ns).length - 1) t,Nice 2 d /\ d.showable = true /\ d.shown.length <= 60:=fun d hd=>by
  obtain ⟨c,e,q1,q2,q3,rfl⟩:=hall d hd
  have u1:=cn_le (stn ns) k c e
  have u2:=cn_le (stn ns) m c e
  have hp:(prD (c,e)).shown.length <= 17:=shown_tuple (l:=[PyData.int c,PyData.int e]) (b:=5) fun d hd=>by
   simp only [List.mem_cons,List.not_mem_nil,or_false] at hd
   rcases hd with rfl | rfl
   ·exact (hi _ q1 (by omega)).1
   ·exact (hi _ (by omega) (by omega)).1
  refine ⟨.tuple fun d hd=>?_,L3.showableAll_of fun d hd=>?_,?_⟩
  ·simp only [List.mem_cons,List.not_mem_nil,or_false] at hd
   rcases hd with rfl | rfl | rfl
   ·exact Nice.tup [c,e]
   ·exact .int _ _
   ·exact .int _ _
  ·simp only [List.mem_cons,List.not_mem_nil,or_false] at hd
   rcases hd with rfl | rfl | rfl
   ·refine L3.showableAll_of fun d hd=>?_
    simp only [List.mem_cons,List.not_mem_nil,or_false] at hd
    rcases hd with rfl | rfl
    ·exact (hi _ q1 (by omega)).2
    ·exact (hi _ (by omega) (by omega)).2
   ·exact (hi _ (by omega) (by omega)).2
   ·exact (hi _ (by omega) (by omega)).2
  ·exact shown_tuple (l:=[prD (c,e),.int ((cn (stn ns) k c e:Nat):Int),.int ((cn (stn ns) m c e:Nat):Int)]) (b:=17) fun d hd=>by
    simp only [List.mem_cons,List.not_mem_nil,or_false] at hd
    rcases hd with rfl | rfl | rfl
    ·exact hp
    ·exact Nat.le_trans (hi _ (by omega) (by omega)).1 (by decide)
    ·exact Nat.le_trans (hi _ (by omega) (by omega)).1 (by decide)
 have ha:y.natAbs < 10 ^ 39:=by omega
 refine ⟨.tuple fun d hd=>?_,L3.showableAll_of fun d hd=>?_,?_⟩
 ·simp only [List.mem_cons,List.not_mem_nil,or_false] at hd
  rcases hd with rfl | rfl
  ·exact .int _ _
  ·exact .list fun d hd=>(ent d hd).1
 ·simp only [List.mem_cons,List.not_mem_nil,or_false] at hd
  rcases hd with rfl | rfl
  ·exact showable_int (k:=140) (Nat.lt_of_lt_of_le ha (by decide)) (by decide)
  ·exact L3.showableAll_of fun d hd=>(ent d hd).2.1
 ·have h5:=shown_list (b:=60) fun d hd=>(ent d hd).2.2
  have h6:=shown_tuple (l:=[.int y,.list (trc (stn ns) k m 0 ((wor ns).length - 1) t)]) (b:=10000) fun d hd=>by
   simp only [List.mem_cons,List.not_mem_nil,or_false] at hd
   rcases hd with rfl | rfl
   ·exact Nat.le_trans (shown_int (k:=39) (by decide) ha) (by decide)
   ·omega
  exact Nat.le_trans h6 (show 2 * (10000 + 2) + 3 <= sizeLine by decide)
theorem ix_nat {n i:Nat} (h:i < n):ixN n (i:Int) = some i:=by
 unfold ixN
 rw [if_pos (by omega),if_pos (by omega)]
 simp
theorem at_last {l:List Int} {n:Nat} {y:Int} (e:l[n]? = some y) (hl:l.length = n + 1):atI (l.map PyData.int) (-1) = some (.int y):=by
 unfold atI ixN
 rw [if_neg (by decide),if_pos (by rw [List.length_map]; omega),List.length_map]
 have e2:((-1:Int) + (l.length:Int)).toNat = n:=by omega
 rw [e2]
 simp [e]
theorem prt_len' {ns:List Int} {k h:Nat} (h1:k <= h) (h2:h < ns.length):(prt ns k (h + 1)).length = h + 1 - k:=prt_len (by omega) (by omega)
theorem at_int {l:List Int} {n:Nat} {y:Int} (e:l[n]? = some y):atI (l.map PyData.int) (n:Int) = some (.int y):=atI_nat (by rw [List.getElem?_map,e]; rfl)
section
variable {P:Program} {w:World} {K:PySem.W.Frag} {mg:Str -> Option Value} {base:Heap}
structure CalsR (P:Program) (w:World) (K:PySem.W.Frag) (mg:Str -> Option Value) (base:Heap):Prop where
 law_draw:Cal P w K mg base 1 "_law_draw" ["_law_pen_here","_law_many"] (conSp K cDraw)
 law_trace:Cal P w K mg base 2 "_law_trace" ["_law_numbers","_law_ends","_law_number_here"] (conSp K cTrc)
 so_manieth:Cal P w K mg base 3 "so_manieth" ["numbers","low","high","many"] (conSp K cSom)
 law_is_refused:Cal P w K mg base 4 "_law_is_refused" ["_law_numbers","_law_ends","_law_many"] (conSp K cIr)
noncomputable def cRight:Con:=fun args Q=>∃ (a b c:Int) (ns:List Int) (k h:Nat),args = [.io (penD a b c),.fz (liD ns),.fz (prD (k,h))] /\ 0 <= a /\ 0 <= b /\ 0 <= c /\ k <= h /\ h < ns.length /\ ns.length <= 120 /\ (∀ x ∈ ns,-(10 ^ 39) < x /\ x < 10 ^ 39) /\
 ∀ (a' b' c':Int) (o:Ev),0 <= a' -> 0 <= b' -> 0 <= c' -> Q (.fz (.bool true)) (some (.io (penD a' b' c')) :: o)
theorem scRight:FnScope ["_law_pen_here","_law_numbers","_law_ends","_law_handed","_law_part","_law_some","_law_many","_law_due","_law_turn","_law_found"] ["_law_pen_here","_law_numbers","_law_ends"] (defScope (top 32)):=⟨rfl,rfl,rfl,by decide +kernel,rfl,by decide +kernel,by decide +kernel⟩
theorem ok_right {f:Addr} {fd:FuncData} (F:Fun K "_law_right" "_law_right" (top 32) f fd) (T:Txt mg) (C:CalsR P w K mg base):FnOk P w K mg base CX0 5 f fd ["_law_pen_here","_law_numbers","_law_ends"] (conSp K cRight):=by
 have S:=scRight
 refine wfn F S (fun cdv A outer s H E hr=>(s_cons (s_set (i:=3) S.nd rfl (Or.inl rfl) (w_callT ok_list (call_listK (K:=K) rfl) T.list_ boot_list (wa_cons (wn 1) wa_nil)))
     (s_cons (s_set (i:=4) S.nd rfl (Or.inr rfl) (w_callB ok_sortA (call_sortAK rfl) T.sorted_ boot_sorted (wa_cons (wx (w_sl3L rfl (wn 1) (wx (w_ix rfl (wn 2) (wx w_int))) (wx (w_bin ok_add op_addD (wx (w_ix rfl (wn 2) (wx w_int))) (wx w_int))))) wa_nil)))
     (s_cons (s_set (i:=5) S.nd rfl (Or.inl rfl) (w_LR1 rfl T.list_ T.range_ (wa_cons (wx (w_callB ok_len (call_lenK (K:=K) rfl) T.len_ PySem.boot_len (wa_cons (wn 4) wa_nil))) wa_nil)))
     (s_cons (s_if (t_cmp ok_gt op_gt (wx (w_callB ok_len (call_lenK (K:=K) rfl) T.len_ PySem.boot_len (wa_cons (wn 4) wa_nil))) (wx w_int)) (s_one (s_set (i:=5) S.nd rfl (Or.inl rfl) (w_bin ok_add op_addD (wx (w_comp rfl (own:=["_law_turn"]) (fr:=[0,4]) (by kernel_rfl) (i_rng1 T.range_ (wa_cons (wx w_int) wa_nil)) (fun _ _ _ _=>(g_name (i:=0) (by decide +kernel:List.Nodup (["_law_turn","_law_pen_here","_law_part"]:List Str)) rfl (Or.inl rfl))) (fun _ _ _ _=>if0) (fun _ _ _ _=>(w_fnI C.law_draw (hr.mono (by first | decide | omega)) (wa_cons (wn 1) (wa_cons (wx (w_callB ok_len (call_lenK (K:=K) rfl) T.len_ PySem.boot_len (wa_cons (wn 2) wa_nil))) wa_nil)))))) (wx (w_lst (wa_cons (wx w_int) (wa_cons (wx (w_bin ok_sub op_sub (wx (w_callB ok_len (call_lenK (K:=K) rfl) T.len_ PySem.boot_len (wa_cons (wn 4) wa_nil))) (wx w_int))) wa_nil))))))) s_nil)
     (s_cons (s_for [6,7,8] PassesOwn.never rfl (i_seq rfl (wv 5)) (g_name (i:=6) S.nd rfl (Or.inl rfl)) (s_cons (s_set (i:=7) S.nd rfl (Or.inl rfl) (w_tup (wa_cons (wx (w_ix rfl (wn 4) (wn 6))) (wa_cons (wx (w_fn C.law_trace (hr.mono (by first | decide | omega)) (wa_cons (wn 1) (wa_cons (wn 2) (wa_cons (wx (w_ix rfl (wn 4) (wn 6))) wa_nil))))) wa_nil))))
     (s_one (s_for [8,9] PassesOwn.never rfl (i_rng1 T.range_ (wa_cons (wx w_int) wa_nil)) (g_name (i:=8) S.nd rfl (Or.inl rfl)) (b_nest2 C.so_manieth (hr.mono (by first | decide | omega)) rfl (wn 3) (wn 2) (wn 2) (wn 6) S.nd rfl (Or.inl rfl) (wn 9) (t_cmp ok_ne (op_neE (K:=K) rfl hr.units) (wx (w_callB ok_repr (call_reprK (K:=K) rfl hr) T.repr_ boot_repr (wa_cons (wn 9) wa_nil))) (wx (w_callB ok_repr (call_reprK (K:=K) rfl hr) T.repr_ boot_repr (wa_cons (wn 7) wa_nil)))))))))
     (s_cons (s_for [6] PassesOwn.never rfl (i_seq rfl (w_tup (wa_cons (wx (w_callB ok_len (call_lenK (K:=K) rfl) T.len_ PySem.boot_len (wa_cons (wn 4) wa_nil))) (wa_cons (wx (w_bin ok_add op_addD (wx (w_bin ok_add op_addD (wx (w_callB ok_len (call_lenK (K:=K) rfl) T.len_ PySem.boot_len (wa_cons (wn 4) wa_nil))) (wx w_int))) (wx (w_fnI C.law_draw (hr.mono (by first | decide | omega)) (wa_cons (wn 0) (wa_cons (wx (w_bin ok_pow op_pow (wx w_int) (wx w_int))) wa_nil)))))) (wa_cons (wx (w_bin ok_sub op_sub (wx (w_neg (wx w_int))) (wx (w_fnI C.law_draw (hr.mono (by first | decide | omega)) (wa_cons (wn 0) (wa_cons (wx w_int) wa_nil)))))) wa_nil))))) (g_name (i:=6) S.nd rfl (Or.inl rfl)) (s_one (s_if (t_not (t_val (w_fn C.law_is_refused (hr.mono (by first | decide | omega)) (wa_cons (wn 3) (wa_cons (wn 2) (wa_cons (wn 6) wa_nil)))))) (s_one (s_ret w_bl)) s_nil)))
     (s_cons (s_if (t_cmp ok_ne (op_neE (K:=K) rfl hr.units) (wn 3) (wn 1)) (s_one (s_ret w_bl)) s_nil)
     (s_cons (s_ix (w_bin ok_add op_addD (wx (w_callB ok_mxI (call_mxI (K:=K) rfl rfl) T.max_ boot_max (wa_cons (wn 1) wa_nil))) (wx w_int)) (wn 3) (wx (w_ix rfl (wn 2) (wx w_int))))
     (s_cons (s_set (i:=4) S.nd rfl (Or.inr rfl) (w_callB ok_sortA (call_sortAK rfl) T.sorted_ boot_sorted (wa_cons (wx (w_sl3L rfl (wn 3) (wx (w_ix rfl (wn 2) (wx w_int))) (wx (w_bin ok_add op_addD (wx (w_ix rfl (wn 2) (wx w_int))) (wx w_int))))) wa_nil)))
     (s_one (s_ret (w_cmp ok_eq (op_eqE (K:=K) rfl hr.units) (wx (w_ix rfl (wx (w_fn C.so_manieth (hr.mono (by first | decide | omega)) (wa_cons (wx (wv 3)) (wa_cons (wx (w_ix rfl (wn 2) (wx w_int))) (wa_cons (wx (w_ix rfl (wn 2) (wx w_int))) (wa_cons (wx (w_bin ok_sub op_sub (wx (w_callB ok_len (call_lenK (K:=K) rfl) T.len_ PySem.boot_len (wa_cons (wn 4) wa_nil))) (wx w_int))) wa_nil)))))) (wx w_int))) (wx (w_ix rfl (wn 4) (wx (w_neg (wx w_int)))))))))))))))))) ?_ ?_
 ·rintro args Qd ⟨a,b,c,ns,k,h,rfl,_⟩; rfl
 ·rintro args Qd ⟨a,b,c,ns,k,h,rfl,ha,hb,hc,hkh,hh,hn,hB,q⟩
  refine ⟨noOw_of rfl,?_⟩
  have ep:∀ l:List Int,((l.map PyData.int).take ((h:Int) + 1).toNat).drop (k:Int).toNat = (prt l k (h + 1)).map PyData.int:=fun l=>by
   unfold prt
   rw [List.map_drop,List.map_take]
   rfl
  have hpl:=prt_len' hkh hh
  refine cutS (fun ρ=>ρ = [some (.io (penD a b c)),some (.fz (liD ns)),some (.fz (prD (k,h))),some (.ow (liD ns)),none,none,none,none,none,none]) (fun N hN=>hN _ rfl) ?_
  rintro ρ rfl
  refine cutS (fun ρ=>∃ ms:List Int,ms.Perm (prt ns k (h + 1)) /\ ms.Pairwise (· <= ·) /\ ρ = [some (.io (penD a b c)),some (.fz (liD ns)),some (.fz (prD (k,h))),some (.ow (liD ns)),some (.ow (liD ms)),none,none,none,none,none]) ?_ ?_
  ·intro N hN
   refine ⟨_,rfl,_,rfl,by omega,by omega,?_⟩
   rw [ep]
   refine ⟨prt ns k (h + 1),rfl,fun ms m1 m2=>?_⟩
   exact hN _ ⟨ms,m1,m2,rfl⟩
  rintro ρ ⟨ms,m1,m2,rfl⟩
  have hml:ms.length = h + 1 - k:=by rw [m1.length_eq,hpl]
  refine cutS (fun ρ=>ρ = [some (.io (penD a b c)),some (.fz (liD ns)),some (.fz (prD (k,h))),some (.ow (liD ns)),some (.ow (liD ms)),some (.ow (.list (rangeD 0 ms.length))),none,none,none,none]) ?_ ?_
  ·intro N hN
   refine ⟨⟨by decide,by decide,by rw [List.length_map]; omega,by rw [List.length_map]; omega⟩,by rw [List.length_map]; omega,?_⟩
   exact hN _ (by simp)
  rintro ρ rfl
  refine cutS (fun ρ=>∃ (sm:List Nat) (a b c:Int),0 <= a /\ 0 <= b /\ 0 <= c /\ (∀ i ∈ sm,i < ms.length) /\ ρ = [some (.io (penD a b c)),some (.fz (liD ns)),some (.fz (prD (k,h))),some (.ow (liD ns)),some (.ow (liD ms)),some (.ow (.list (sm.map fun i=>PyData.int ((i:Nat):Int)))),none,none,none,none]) ?_ ?_
  ·intro N hN
   refine ite2 (fun z=>?_) (fun z=>?_)
   ·refine ⟨by decide,by decide,by decide,compN (fun rest acc τ=>∃ (sm:List Nat) (a4 b4 c4:Int),τ = [none,some (.io (penD a4 b4 c4)),some (.io (liD ms))] /\ acc = sm.map (fun i=>PyData.int ((i:Nat):Int)) /\ (∀ i ∈ sm,i < ms.length) /\ sm.length + rest.length <= 8 /\ 0 <= a4 /\ 0 <= b4 /\ 0 <= c4) ?_ ?_ ⟨[],a,b,c,rfl,rfl,fun i hi=>(by cases hi),(by decide),ha,hb,hc⟩⟩
    ·rintro d ds acc τ ⟨sm,a4,b4,c4,rfl,rfl,hs,hl,ha4,hb4,hc4⟩ N hN
     refine ⟨a4,b4,c4,_,rfl,ha4,hb4,hc4,by rw [List.length_map]; omega,by rw [List.length_map]; omega,fun r a5 b5 c5 _ r0 r1 ha5 hb5 hc5=>?_⟩
     rw [List.length_map] at r1
     obtain ⟨r',er⟩:=Int.eq_ofNat_of_zero_le r0
     subst er
     refine hN _ _ ⟨sm ++ [r'],a5,b5,c5,rfl,by simp [Sl.d],fun i hi=>?_,by simp at hl ⊢; omega,ha5,hb5,hc5⟩
     rcases List.mem_append.mp hi with y | y
     ·exact hs i y
     ·rw [List.mem_singleton.mp y]; omega
    ·rintro acc τ ⟨sm,a4,b4,c4,rfl,rfl,hs,hl,ha4,hb4,hc4⟩
     have hl:sm.length <= 8:=by simpa using hl
     refine ⟨by rw [List.length_map]; exact le_size (show sm.length + 2 <= _ by omega),?_⟩
     refine hN _ ⟨sm ++ [0,ms.length - 1],a4,b4,c4,ha4,hb4,hc4,fun i hi=>?_,?_⟩
     ·rcases List.mem_append.mp hi with y | y
      ·exact hs i y
      ·simp at y
       omega
     ·have e:((((ms.map PyData.int).length:Nat):Int) - 1) = ((ms.length - 1:Nat):Int):=by rw [List.length_map]; omega
      have e2:(([0,ms.length - 1]:List Nat).map fun i=>PyData.int ((i:Nat):Int)) = [.int 0,.int ((((ms.map PyData.int).length:Nat):Int) - 1)]:=by rw [e]; rfl
      rw [List.map_append,e2]
      rfl
   ·exact hN _ ⟨List.range ms.length,a,b,c,ha,hb,hc,fun i hi=>List.mem_range.mp hi,by simp [rangeD]⟩
  rintro ρ ⟨sm,a,b,c,ha,hb,hc,hs,rfl⟩
  refine cutS (fun ρ=>∃ y:Option Sl,(y = some (.ow (.list (sm.map fun i=>PyData.int ((i:Nat):Int)))) \/ y = some (.fz (.list (sm.map fun i=>PyData.int ((i:Nat):Int))))) /\ ρ = [some (.io (penD a b c)),some (.fz (liD ns)),some (.fz (prD (k,h))),some (.ow (liD ns)),some (.ow (liD ms)),y,none,none,none,none]) ?_ ?_
  ·intro N hN
   refine loopC (fun rest ρ=>(∀ d ∈ rest,∃ i:Nat,d = .int i /\ i < ms.length) /\ ρ = [some (.io (penD a b c)),some (.fz (liD ns)),some (.fz (prD (k,h))),some (.ow (liD ns)),some (.ow (liD ms)),some (.fz (.list (sm.map fun i=>PyData.int ((i:Nat):Int)))),none,none,none,none]) ?_ ?_ ⟨?_,rfl⟩
   ·rintro d ds ρ ⟨hd,rfl⟩ N hN
    obtain ⟨n,rfl,hnn⟩:=hd d List.mem_cons_self
    have hd':∀ d ∈ ds,∃ i:Nat,d = .int i /\ i < ms.length:=fun d h=>hd d (List.mem_cons_of_mem _ h)
    have ey:ms[n]? = some ms[n]:=List.getElem?_eq_getElem hnn
    generalize ms[n] = y at ey
    obtain ⟨y1,y2⟩:=nth_sorted m2 ey
    rw [m1.countP_eq] at y1 y2
    have ym:y ∈ ns:=mem_prt (m1.mem_iff.mp (List.mem_of_getElem? ey))
    have yt:=ixW_at ((wor_mem y ns).mpr ym)
    obtain ⟨t,et⟩:∃ t,t = ixW (wor ns) y:=⟨_,rfl⟩
    rw [<- et] at yt
    refine ⟨_,at_int ey,_,at_int ey,ns,k,h,t,y,rfl,yt,hkh,hh,by omega,fun o=>?_⟩
    obtain ⟨nf,sf,lf⟩:=due_fine (k:=k) (m:=h + 1) (t:=t) hn (by omega) (hB y ym)
    have eL:=trc_cons (stn ns) k (h + 1) 0 ((wor ns).length - 1) t
    generalize (trc (stn ns) k (h + 1) 0 ((wor ns).length - 1) t).tail = rest at eL
    rw [eL] at nf sf lf ⊢
    refine ⟨by decide,by decide,?_⟩
    generalize rangeD 0 _ = rg
    refine loopC (fun _ ρ=>ρ = [some (.io (penD a b c)),some (.fz (liD ns)),some (.fz (prD (k,h))),some (.ow (liD ns)),some (.ow (liD ms)),some (.fz (.list (sm.map fun i=>PyData.int ((i:Nat):Int)))),some (.fz (.int n)),some (.fz (.tuple [.int y,.list (gnD 0 ((wor ns).length - 1) (cn (stn ns) k 0 ((wor ns).length - 1)) (cn (stn ns) (h + 1) 0 ((wor ns).length - 1)) :: rest)])),none,none]) ?_ ?_ rfl
    ·rintro d ds ρ rfl N hN
     refine ⟨ns,k,h,n,rfl,rfl,rfl,trivial,ns,k,h,n,rfl,hkh,hh,by omega,by omega,fun x t' o hx c1 c2=>?_⟩
     have exy:x = y:=nth_uniq c1 c2 y1 y2
     subst exy
     have ett:t' = t:=by
      have q1:=(rise_get (wor_rise ns) hx yt).1
      have q2:=(rise_get (wor_rise ns) yt hx).1
      omega
     subst ett
     rw [eL]
     refine ⟨x,_,rest,rfl,?_⟩
     refine ⟨nf.p,sf,Nat.le_trans (Nat.succ_le_succ nf.d) (by decide),lf,nf.p,sf,Nat.le_trans (Nat.succ_le_succ nf.d) (by decide),lf,?_⟩
     refine ite2 (fun z=>?_) (fun _=>?_)
     ·exfalso
      have z:(!decide ((PyData.tuple [.int x,.list (gnD 0 ((wor ns).length - 1) (cn (stn ns) k 0 ((wor ns).length - 1)) (cn (stn ns) (h + 1) 0 ((wor ns).length - 1)) :: rest)]).shown = (PyData.tuple [.int x,.list (gnD 0 ((wor ns).length - 1) (cn (stn ns) k 0 ((wor ns).length - 1)) (cn (stn ns) (h + 1) 0 ((wor ns).length - 1)) :: rest)]).shown)) = true:=z
      rw [decide_eq_true rfl] at z
      cases z
     ·exact hN _ rfl
    ·rintro ρ rfl
     exact hN _ ⟨hd',rfl⟩
   ·rintro ρ ⟨_,rfl⟩
    exact hN _ ⟨_,.inr rfl,rfl⟩
   ·intro d hd
    obtain ⟨i,hi,rfl⟩:=List.mem_map.mp hd
    exact ⟨i,rfl,hs i hi⟩
  rintro ρ ⟨y,hy,rfl⟩
  refine cutS (fun ρ=>∃ a b c:Int,0 <= a /\ 0 <= b /\ 0 <= c /\ ρ = [some (.io (penD a b c)),some (.fz (liD ns)),some (.fz (prD (k,h))),some (.ow (liD ns)),some (.ow (liD ms)),y,none,none,none,none]) ?_ ?_
  ·intro N hN
   refine ⟨⟨by decide,by decide,by decide⟩,?_⟩
   refine ⟨a,b,c,_,rfl,ha,hb,hc,by decide,by decide,fun r a1 b1 c1 _ r0 r1 ha1 hb1 hc1=>?_⟩
   refine ⟨a1,b1,c1,_,rfl,ha1,hb1,hc1,by decide,by decide,fun u a2 b2 c2 _ u0 u1 ha2 hb2 hc2=>?_⟩
   refine loopC (fun rest ρ=>(∀ d ∈ rest,∃ i:Int,d = .int i /\ (i < 0 \/ (h:Int) - k < i)) /\ ρ = [some (.io (penD a2 b2 c2)),some (.fz (liD ns)),some (.fz (prD (k,h))),some (.ow (liD ns)),some (.ow (liD ms)),y,none,none,none,none]) ?_ ?_ ⟨?_,rfl⟩
   ·rintro d ds ρ ⟨hd,rfl⟩ N hN
    obtain ⟨n,rfl,hnn⟩:=hd d List.mem_cons_self
    refine ⟨ns,k,h,n,rfl,hnn,fun o=>?_⟩
    exact ⟨rfl,hN _ ⟨fun d h=>hd d (List.mem_cons_of_mem _ h),rfl⟩⟩
   ·rintro ρ ⟨_,rfl⟩
    exact hN _ ⟨a2,b2,c2,ha2,hb2,hc2,rfl⟩
   ·have hl:((((ms.map PyData.int).length:Nat):Int)) = (h:Int) + 1 - k:=by rw [List.length_map]; omega
    intro d hd
    rcases List.mem_cons.mp hd with rfl | hd
    ·exact ⟨_,rfl,.inr (by omega)⟩
    rcases List.mem_cons.mp hd with rfl | hd
    ·exact ⟨_,rfl,.inr (by show (h:Int) - k < (((ms.map PyData.int).length:Nat):Int) + 1 + r; omega)⟩
    rcases List.mem_cons.mp hd with rfl | hd
    ·exact ⟨_,rfl,.inl (by show (-1:Int) - u < 0; omega)⟩
    cases hd
  rintro ρ ⟨a,b,c,ha,hb,hc,rfl⟩
  have nn:=Nice.ints ns
  refine cutS (fun ρ=>ρ = [some (.io (penD a b c)),some (.fz (liD ns)),some (.fz (prD (k,h))),some (.ow (liD ns)),some (.ow (liD ms)),y,none,none,none,none]) ?_ ?_
  ·intro N hN
   refine ⟨nn.p,nn.p,nn.sh (by decide),nn.sh (by decide),noMix_self _ nn.p,?_⟩
   refine ite2 (fun h=>absurd h (by have e:=same_self (liD ns); show ¬ (!same (liD ns) (liD ns)) = true; rw [e]; decide)) (fun _=>?_)
   exact hN _ rfl
  rintro ρ rfl
  refine cutS (fun ρ=>∃ ns':List Int,ns'.length = ns.length /\ ρ = [some (.io (penD a b c)),some (.fz (liD ns)),some (.fz (prD (k,h))),some (.ow (liD ns')),some (.ow (liD ms)),y,none,none,none,none]) ?_ ?_
  ·intro N hN
   refine ⟨ns,rfl,by omega,fun M _ _=>?_⟩
   refine ⟨_,rfl,k,ix_nat (by rw [List.length_map]; omega),?_⟩
   exact hN _ ⟨ns.set k (M + 1),by simp,by unfold liD; rw [List.map_set]; rfl⟩
  rintro ρ ⟨ns',hl',rfl⟩
  refine cutS (fun ρ=>∃ ms':List Int,ms'.Perm (prt ns' k (h + 1)) /\ ms'.Pairwise (· <= ·) /\ ρ = [some (.io (penD a b c)),some (.fz (liD ns)),some (.fz (prD (k,h))),some (.ow (liD ns')),some (.ow (liD ms')),y,none,none,none,none]) ?_ ?_
  ·intro N hN
   refine ⟨_,rfl,_,rfl,by omega,by omega,?_⟩
   rw [ep]
   refine ⟨prt ns' k (h + 1),rfl,fun ms' p1 p2=>?_⟩
   exact hN _ ⟨ms',p1,p2,rfl⟩
  rintro ρ ⟨ms',p1,p2,rfl⟩
  have hpl':=prt_len' (ns:=ns') hkh (by omega)
  have hml':ms'.length = (h - k) + 1:=by rw [p1.length_eq,hpl']; omega
  have ez:ms'[h - k]? = some ms'[h - k]:=List.getElem?_eq_getElem (by omega)
  generalize ms'[h - k] = z at ez
  obtain ⟨z1,z2⟩:=nth_sorted p2 ez
  rw [p1.countP_eq] at z1 z2
  have en:((((ms'.map PyData.int).length:Nat):Int) - 1) = ((h - k:Nat):Int):=by rw [List.length_map]; omega
  refine ⟨_,rfl,_,rfl,ns',k,h,h - k,?_,hkh,by omega,by omega,by omega,fun x t o hx c1 c2=>?_⟩
  ·show [Sl.fz (liD ns'),.fz (.int k),.fz (.int h),.fz (.int ((((ms'.map PyData.int).length:Nat):Int) - 1))] = _
   rw [en]
  have exz:x = z:=nth_uniq c1 c2 z1 z2
  subst exz
  refine ⟨_,rfl,_,at_last ez hml',?_⟩
  refine (?_:Qd (.fz (.bool (decide (x = x)))) _)
  rw [decide_eq_true rfl]
  exact q _ _ _ _ ha hb hc
end
end R40
namespace R40
open PySem PySem.Spec L2 L3 PyProof.Rows
section
variable {P:Program} {w:World} {K:PySem.W.Frag} {mg:Str -> Option Value} {base:Heap}
structure CalsL (P:Program) (w:World) (K:PySem.W.Frag) (mg:Str -> Option Value) (base:Heap):Prop where
 law_pen:Cal P w K mg base 1 "_law_pen" ["_law_script","_law_k"] (conSp K cPen)
 law_draw:Cal P w K mg base 1 "_law_draw" ["_law_pen_here","_law_many"] (conSp K cDraw)
 law_row:Cal P w K mg base 3 "_law_row" ["_law_pen_here","_law_most"] (conSp K cRow)
 law_pair:Cal P w K mg base 2 "_law_pair" ["_law_pen_here","_law_size"] (conSp K cPair)
 law_right:Cal P w K mg base 5 "_law_right" ["_law_pen_here","_law_numbers","_law_ends"] (conSp K cRight)
noncomputable def cLaw:Con:=fun args Q=>∃ ns:List Int,args = [.fz (scrD ns)] /\ ns.length <= 63 /\ ∀ o,Q (.fz (.bool true)) o
theorem cLaw_sp {K:PySem.W.Frag} {H:Hp} {a:Addr} {ns:List Int} (hl:ns.length <= 63) (h:SqL K H a (ns.map V.int)):conSp K cLaw [.ref a] H (fun v _=>v = .bl true) fun _ _ _=>False:=by
 refine ⟨⟨H,H,fun _=>none⟩,H,[.fz (scrD ns)],fun r _=>r = .fz (.bool true),?_,⟨ns,rfl,hl,fun _=>rfl⟩,?_⟩
 ·refine ⟨rfl,Sub.refl _,Sub.refl _,fun a o h=>.inl h,fun a o h _=>h,?_,?_,?_,?_,?_,?_⟩
  ·intro i d e
   cases i with
   | zero=>cases e; exact ⟨_,rfl,.scr h⟩
   | succ i=>cases e
  ·intro i s e w
   cases i with
   | zero=>cases e; cases w
   | succ i=>cases e
  ·intro i d a e
   cases i with
   | zero=>cases e
   | succ i=>cases e
  ·intro i a e; cases e
  ·intro i d e
   cases i with
   | zero=>cases e
   | succ i=>cases e
  ·intro i j s t a e w
   cases i with
   | zero=>cases e; cases w
   | succ i=>cases e
 ·intro v H' F' r ρ' _ _ hr e
  subst e
  have hr:Da K F' v (.bool true):=hr
  cases hr
  rfl
theorem scLaw:FnScope ["_law_script","_law_k","_law_pen_here","_law_most","_law_numbers","_law_turn"] ["_law_script"] (defScope (top 33)):=⟨rfl,rfl,rfl,by decide +kernel,rfl,by decide +kernel,by decide +kernel⟩
theorem ok_law {f:Addr} {fd:FuncData} (F:Fun K "law" "law" (top 33) f fd) (T:Txt mg) (C:CalsL P w K mg base):FnOk P w K mg base CX0 6 f fd ["_law_script"] (conSp K cLaw):=by
 have S:=scLaw
 refine wfn F S (fun cdv A outer s H E hr=>(s_cons (s_for [1,2,3,4,5] PassesOwn.never rfl (i_rng1 T.range_ (wa_cons (wx (w_callB ok_2I (call_max2 rfl) T.max_ boot_max (wa_cons (wx w_int) (wa_cons (wx (w_callB ok_2I (call_min2 rfl) T.min_ boot_min (wa_cons (wx w_int) (wa_cons (wx (w_callB ok_len (call_lenK (K:=K) rfl) T.len_ PySem.boot_len (wa_cons (wn 0) wa_nil))) wa_nil)))) wa_nil)))) wa_nil)) (g_name (i:=1) S.nd rfl (Or.inl rfl)) (s_cons (s_set (i:=2) S.nd rfl (Or.inl rfl) (w_fn C.law_pen (hr.mono (by first | decide | omega)) (wa_cons (wn 0) (wa_cons (wn 1) wa_nil))))
     (s_cons (s_set (i:=3) S.nd rfl (Or.inl rfl) (w_ix rfl (wx (w_lst (wa_cons (wx w_int) (wa_cons (wx w_int) wa_nil)))) (wx (w_callT ok_int call_int1 T.int_ boot_int (wa_cons (wx (w_and (w_cmp ok_eq (op_eqE (K:=K) rfl hr.units) (wx (w_fnI C.law_draw (hr.mono (by first | decide | omega)) (wa_cons (wn 2) (wa_cons (wx w_int) wa_nil)))) (wx w_int)) (w_one (w_cmp ok_eq (op_eqE (K:=K) rfl hr.units) (wn 1) (wx w_int))))) wa_nil)))))
     (s_cons (s_set (i:=4) S.nd rfl (Or.inl rfl) (w_fnI C.law_row (hr.mono (by first | decide | omega)) (wa_cons (wn 2) (wa_cons (wn 3) wa_nil))))
     (s_cons (s_if (t_cmp ok_eq (op_eqE (K:=K) rfl hr.units) (wx (w_fnI C.law_draw (hr.mono (by first | decide | omega)) (wa_cons (wn 2) (wa_cons (wx w_int) wa_nil)))) (wx w_int)) (s_one (s_setC (i:=4) S.nd rfl rfl rfl (own:=["_law_at","_law_number_here"]) (fr:=[]) (by kernel_rfl) (i_enum rfl T.enumerate_ (wa_cons (wx (wv 4)) wa_nil)) (fun _ _ _ _=>(g_tup rfl rfl (gs_cons (g_name (i:=0) (by decide +kernel:List.Nodup (["_law_at","_law_number_here"]:List Str)) rfl (Or.inl rfl)) (gs_cons (g_name (i:=1) (by decide +kernel:List.Nodup (["_law_at","_law_number_here"]:List Str)) rfl (Or.inl rfl)) gs_nil)))) (fun _ _ _ _=>if0) (fun _ _ _ _=>(w_bin ok_add op_addD (wx (w_bin ok_mul op_mulD (wn 1) (wx w_int))) (wn 0))))) s_nil)
     (s_one (s_for [5] PassesOwn.never rfl (i_rng1 T.range_ (wa_cons (wx w_int) wa_nil)) (g_name (i:=5) S.nd rfl (Or.inl rfl)) (s_one (s_if (t_not (t_val (w_fnI C.law_right (hr.mono (by first | decide | omega)) (wa_cons (wn 2) (wa_cons (wx (wv 4)) (wa_cons (wx (w_fnI C.law_pair (hr.mono (by first | decide | omega)) (wa_cons (wn 2) (wa_cons (wx (w_callB ok_len (call_lenK (K:=K) rfl) T.len_ PySem.boot_len (wa_cons (wn 4) wa_nil))) wa_nil)))) wa_nil)))))) (s_one (s_ret w_bl)) s_nil)))))))))
     (s_one (s_ret w_bl)))) ?_ ?_
 ·rintro args Qd ⟨ns,rfl,_⟩; rfl
 ·rintro args Qd ⟨ns,rfl,hn,q⟩
  refine ⟨noOw_of rfl,?_⟩
  refine ⟨ns,rfl,?_⟩
  have hj:∀ x:Int,0 <= x -> 3 <= (if (if x < 6 then x else 6) > 3 then (if x < 6 then x else 6) else 3) /\ (if (if x < 6 then x else 6) > 3 then (if x < 6 then x else 6) else 3) <= 6:=fun x hx=>by
   constructor <;> (split <;> (try split) <;> omega)
  have hj:=hj (ns.length:Int) (by omega)
  refine ⟨Int.le_trans (by decide) hj.1,Int.lt_of_le_of_lt hj.2 (by decide),?_⟩
  refine loopC (fun rest ρ=>(∀ d ∈ rest,∃ i:Int,d = .int i /\ 0 <= i /\ i <= 1000) /\ ρ = [some (.fz (scrD ns)),none,none,none,none,none]) ?_ ?_ ⟨?_,rfl⟩
  ·rintro d ds ρ ⟨hd,rfl⟩ N hN
   obtain ⟨k,rfl,k0,k1⟩:=hd d List.mem_cons_self
   have hd':∀ d ∈ ds,∃ i:Int,d = .int i /\ 0 <= i /\ i <= 1000:=fun d h=>hd d (List.mem_cons_of_mem _ h)
   refine ⟨ns,k,rfl,k0,k1,fun a b o ha hb=>?_⟩
   refine cutS (fun ρ=>ρ = [some (.fz (scrD ns)),some (.fz (.int k)),some (.ow (penD a b 0)),none,none,none]) (fun N hN=>hN _ rfl) ?_
   rintro ρ rfl
   refine cutS (fun ρ=>∃ m a b c:Int,0 <= a /\ 0 <= b /\ 0 <= c /\ 0 < m /\ m <= 120 /\ ρ = [some (.fz (scrD ns)),some (.fz (.int k)),some (.ow (penD a b c)),some (.fz (.int m)),none,none]) ?_ ?_
   ·intro N' hN'
    have pick:∀ b:Bool,∃ m:Int,atI [PyData.int 10,.int 80] (if b then 1 else 0) = some (.int m) /\ 0 < m /\ m <= 120:=fun b=>by
     cases b
     ·exact ⟨10,rfl,by decide,by decide⟩
     ·exact ⟨80,rfl,by decide,by decide⟩
    refine ⟨a,b,0,8,rfl,ha,hb,by decide,by decide,by decide,fun r a1 b1 c1 _ r0 r1 ha1 hb1 hc1=>?_⟩
    refine ite2 (fun h=>?_) (fun h=>?_)
    ·obtain ⟨m,em,m0,m1⟩:=pick (decide (k = 0))
     exact ⟨_,em,hN' _ ⟨m,a1,b1,c1,ha1,hb1,hc1,m0,m1,rfl⟩⟩
    ·obtain ⟨m,em,m0,m1⟩:=pick false
     exact ⟨_,em,hN' _ ⟨m,a1,b1,c1,ha1,hb1,hc1,m0,m1,rfl⟩⟩
   rintro ρ ⟨m,a,b,c,ha,hb,hc,m0,m1,rfl⟩
   refine ⟨a,b,c,m,rfl,ha,hb,hc,m0,m1,fun cs a1 b1 c1 _ l1 l2 hB ha1 hb1 hc1=>?_⟩
   refine cutS (fun ρ=>ρ = [some (.fz (scrD ns)),some (.fz (.int k)),some (.ow (penD a1 b1 c1)),some (.fz (.int m)),some (.ow (liD cs)),none]) (fun N hN=>hN _ rfl) ?_
   rintro ρ rfl
   refine cutS (fun ρ=>∃ (cs:List Int) (a b c:Int),1 <= cs.length /\ cs.length <= 120 /\ (∀ x ∈ cs,-(10 ^ 39) < x /\ x < 10 ^ 39) /\ 0 <= a /\ 0 <= b /\ 0 <= c /\ ρ = [some (.fz (scrD ns)),some (.fz (.int k)),some (.ow (penD a b c)),some (.fz (.int m)),some (.ow (liD cs)),none]) ?_ ?_
   ·intro N' hN'
    refine ⟨a1,b1,c1,3,rfl,ha1,hb1,hc1,by decide,by decide,fun r a2 b2 c2 _ r0 r1 ha2 hb2 hc2=>?_⟩
    refine ite2 (fun h=>?_) (fun h=>?_)
    ·refine ⟨by simp only [enumD,List.length_map,List.length_zipIdx]; exact le_size (by omega),?_⟩
     refine mapC (fun d=>match d with | .tuple [.int i,.int x]=>.int (x * 7 + i) | _=>d) ?_ ?_
     ·intro d hd N hN
      simp only [enumD,List.zipIdx_map,List.map_map] at hd
      obtain ⟨p,_,rfl⟩:=List.mem_map.mp hd
      refine ⟨rfl,.inr ⟨by decide,by decide⟩,?_⟩
      exact hN
     have e:(enumD (cs.map PyData.int)).map (fun d=>match d with | .tuple [.int i,.int x]=>PyData.int (x * 7 + i) | _=>d) = (cs.zipIdx.map fun p=>p.1 * 7 + (p.2:Int)).map PyData.int:=by
      simp only [enumD,List.zipIdx_map,List.map_map]
      rfl
     rw [e]
     exact hN' _ ⟨cs.zipIdx.map fun p=>p.1 * 7 + (p.2:Int),a2,b2,c2,by simp; omega,by simp; omega,fun x hx=>(by
       obtain ⟨p,hp,rfl⟩:=List.mem_map.mp hx
       have h1:=hB p.1 (List.fst_mem_of_mem_zipIdx hp)
       have h2:=List.snd_lt_of_mem_zipIdx hp
       unfold Big at h1
       omega),ha2,hb2,hc2,rfl⟩
    ·exact hN' _ ⟨cs,a2,b2,c2,l1,by omega,fun x hx=>(by have:=hB x hx; unfold Big at this; omega),ha2,hb2,hc2,rfl⟩
   rintro ρ ⟨cs,a,b,c,l1,l2,hG,ha,hb,hc,rfl⟩
   refine ⟨by decide,by decide,?_⟩
   generalize rangeD 0 _ = rg
   refine loopC (fun rest ρ=>∃ (a b c:Int) (x:Option Sl),0 <= a /\ 0 <= b /\ 0 <= c /\ (x = some (.ow (liD cs)) \/ x = some (.fz (liD cs))) /\ ρ = [some (.fz (scrD ns)),some (.fz (.int k)),some (.ow (penD a b c)),some (.fz (.int m)),x,none]) ?_ ?_ ⟨a,b,c,_,ha,hb,hc,.inl rfl,rfl⟩
   ·rintro d ds ρ ⟨a,b,c,x,ha,hb,hc,hx,rfl⟩ N' hN'
    rcases hx with rfl | rfl
    all_goals
     refine ⟨a,b,c,_,rfl,ha,hb,hc,by rw [List.length_map]; omega,by rw [List.length_map]; omega,fun u v a1 b1 c1 _ h1 h2 ha1 hb1 hc1=>?_⟩
     rw [List.length_map] at h2
     refine ⟨a1,b1,c1,cs,u,v,rfl,ha1,hb1,hc1,h1,h2,l2,hG,fun a2 b2 c2 _ ha2 hb2 hc2=>?_⟩
     exact hN' _ ⟨a2,b2,c2,_,ha2,hb2,hc2,.inr rfl,rfl⟩
   ·rintro ρ ⟨a,b,c,x,_,_,_,hx,rfl⟩
    rcases hx with rfl | rfl
    all_goals exact hN _ ⟨hd',rfl⟩
  ·rintro ρ ⟨_,rfl⟩
   exact q _
  ·intro d hd
   unfold rangeD at hd
   obtain ⟨i,hi,rfl⟩:=List.mem_map.mp hd
   have:=List.mem_range.mp hi
   have h2:=hj.2
   exact ⟨_,rfl,by omega,by omega⟩
end
end R40
namespace R40
open PySem L2 L3 PyProof.Rows
theorem len0 {p:List Value -> Prop} (h:p []):∀ us:List Value,us.length = 0 -> p us:=fun us e=>by
 cases us with
 | nil=>exact h
 | cons x us=>cases e
theorem len1 {p:List Value -> Prop} (h:∀ x0,p [x0]):∀ us:List Value,us.length = 1 -> p us:=fun us e=>by
 cases us with
 | nil=>cases e
 | cons x us=>exact len0 (p:=fun l=>p (x :: l)) (h x) us (Nat.succ.inj e)
theorem len2 {p:List Value -> Prop} (h:∀ x0 x1,p [x0,x1]):∀ us:List Value,us.length = 2 -> p us:=fun us e=>by
 cases us with
 | nil=>cases e
 | cons x us=>exact len1 (p:=fun l=>p (x :: l)) (fun x1=>h x x1) us (Nat.succ.inj e)
theorem len3 {p:List Value -> Prop} (h:∀ x0 x1 x2,p [x0,x1,x2]):∀ us:List Value,us.length = 3 -> p us:=fun us e=>by
 cases us with
 | nil=>cases e
 | cons x us=>exact len2 (p:=fun l=>p (x :: l)) (fun x1 x2=>h x x1 x2) us (Nat.succ.inj e)
theorem len4 {p:List Value -> Prop} (h:∀ x0 x1 x2 x3,p [x0,x1,x2,x3]):∀ us:List Value,us.length = 4 -> p us:=fun us e=>by
 cases us with
 | nil=>cases e
 | cons x us=>exact len3 (p:=fun l=>p (x :: l)) (fun x1 x2 x3=>h x x1 x2 x3) us (Nat.succ.inj e)
theorem all_mk {l:PySem.W.OpenLaw} {w:World} {K:PySem.W.Frag} {h:Heap} {mg:Str -> Option Value} {fa f0 f1 f2 f3 f4 f5 f6 f7 f8 f9 f10 f11 f12 f13 f14 f15 f16 f17 f18 f19 cl0 cl1 cl2 cl3 cl4 cl5 cl6 cl7:Addr} (X:K.In h) (G:h.Ns mainGlobals mg) (hfa:mg "law" = some (.ref fa))
  {od0 an0 od1 an1 od2 an2 od3 an3 od4 an4 od5 an5 od6 an6 od7 an7 od8 an8 od9 an9 od10 an10 od11 an11 od12 an12 od13 an13 od14 an14 od15 an15 od16 an16 od17 an17 od18 an18 od19 an19:Option Addr} {sl0 sl1 sl2 sl3 sl4 sl5 sl6 sl7 sl8 sl9 sl10 sl11 sl12 sl13 sl14 sl15 sl16 sl17 sl18 sl19:Array (Option Value)} {oc0 kV0 dc0 pm0 cd0 ct0 oc1 kV1 dc1 pm1 cd1 ct1 oc2 kV2 dc2 pm2 cd2 ct2 oc3 kV3 dc3 pm3 cd3 ct3 oc4 kV4 dc4 pm4 cd4 ct4 oc5 kV5 dc5 pm5 cd5 ct5 oc6 kV6 dc6 pm6 cd6 ct6 oc7 kV7 dc7 pm7 cd7 ct7 oc8 kV8 dc8 pm8 cd8 ct8 oc9 kV9 dc9 pm9 cd9 ct9 oc10 kV10 dc10 pm10 cd10 ct10 oc11 kV11 dc11 pm11 cd11 ct11 oc12 kV12 dc12 pm12 cd12 ct12 oc13 kV13 dc13 pm13 cd13 ct13 oc14 kV14 dc14 pm14 cd14 ct14 oc15 kV15 dc15 pm15 cd15 ct15 oc16 kV16 dc16 pm16 cd16 ct16 oc17 kV17 dc17 pm17 cd17 ct17 oc18 kV18 dc18 pm18 cd18 ct18 oc19 kV19 dc19 pm19 cd19 ct19:Value}
  (a0:PySem.W.nsIn K mainGlobals "_law_pen" = some (some (.ref f0))) (l0:K.lookup f0 = some ⟨oc0,od0,.func (PySem.W.fnOf "_law_pen" "_law_pen" (defArgs (top 22)) (defBody (top 22)) (defScope (top 22)) .none kV0 dc0 pm0 an0 cd0 ct0),sl0⟩) (c0:PySem.W.codeIn K cd0 "_law_pen" = true) (k0:PySem.W.keepIn K (.ref f0) = true)
  (a1:PySem.W.nsIn K mainGlobals "_law_draw" = some (some (.ref f1))) (l1:K.lookup f1 = some ⟨oc1,od1,.func (PySem.W.fnOf "_law_draw" "_law_draw" (defArgs (top 23)) (defBody (top 23)) (defScope (top 23)) .none kV1 dc1 pm1 an1 cd1 ct1),sl1⟩) (c1:PySem.W.codeIn K cd1 "_law_draw" = true) (k1:PySem.W.keepIn K (.ref f1) = true)
  (a2:PySem.W.nsIn K mainGlobals "_law_number" = some (some (.ref f2))) (l2:K.lookup f2 = some ⟨oc2,od2,.func (PySem.W.fnOf "_law_number" "_law_number" (defArgs (top 24)) (defBody (top 24)) (defScope (top 24)) .none kV2 dc2 pm2 an2 cd2 ct2),sl2⟩) (c2:PySem.W.codeIn K cd2 "_law_number" = true) (k2:PySem.W.keepIn K (.ref f2) = true)
  (a3:PySem.W.nsIn K mainGlobals "_law_row" = some (some (.ref f3))) (l3:K.lookup f3 = some ⟨oc3,od3,.func (PySem.W.fnOf "_law_row" "_law_row" (defArgs (top 25)) (defBody (top 25)) (defScope (top 25)) .none kV3 dc3 pm3 an3 cd3 ct3),sl3⟩) (c3:PySem.W.codeIn K cd3 "_law_row" = true) (k3:PySem.W.keepIn K (.ref f3) = true)
  (a4:PySem.W.nsIn K mainGlobals "_law_pair" = some (some (.ref f4))) (l4:K.lookup f4 = some ⟨oc4,od4,.func (PySem.W.fnOf "_law_pair" "_law_pair" (defArgs (top 26)) (defBody (top 26)) (defScope (top 26)) .none kV4 dc4 pm4 an4 cd4 ct4),sl4⟩) (c4:PySem.W.codeIn K cd4 "_law_pair" = true) (k4:PySem.W.keepIn K (.ref f4) = true)
  (a5:PySem.W.nsIn K mainGlobals "_law_worths" = some (some (.ref f5))) (l5:K.lookup f5 = some ⟨oc5,od5,.func (PySem.W.fnOf "_law_worths" "_law_worths" (defArgs (top 28)) (defBody (top 28)) (defScope (top 28)) .none kV5 dc5 pm5 an5 cd5 ct5),sl5⟩) (c5:PySem.W.codeIn K cd5 "_law_worths" = true) (k5:PySem.W.keepIn K (.ref f5) = true)
  (a6:PySem.W.nsIn K mainGlobals "_law_trace" = some (some (.ref f6))) (l6:K.lookup f6 = some ⟨oc6,od6,.func (PySem.W.fnOf "_law_trace" "_law_trace" (defArgs (top 30)) (defBody (top 30)) (defScope (top 30)) .none kV6 dc6 pm6 an6 cd6 ct6),sl6⟩) (c6:PySem.W.codeIn K cd6 "_law_trace" = true) (k6:PySem.W.keepIn K (.ref f6) = true)
  (a7:PySem.W.nsIn K mainGlobals "worths" = some (some (.ref f7))) (l7:K.lookup f7 = some ⟨oc7,od7,.func (PySem.W.fnOf "worths" "worths" (defArgs (top 12)) (defBody (top 12)) (defScope (top 12)) .none kV7 dc7 pm7 an7 cd7 ct7),sl7⟩) (c7:PySem.W.codeIn K cd7 "worths" = true) (k7:PySem.W.keepIn K (.ref f7) = true)
  (a8:PySem.W.nsIn K mainGlobals "worth_numbers" = some (some (.ref f8))) (l8:K.lookup f8 = some ⟨oc8,od8,.func (PySem.W.fnOf "worth_numbers" "worth_numbers" (defArgs (top 13)) (defBody (top 13)) (defScope (top 13)) .none kV8 dc8 pm8 an8 cd8 ct8),sl8⟩) (c8:PySem.W.codeIn K cd8 "worth_numbers" = true) (k8:PySem.W.keepIn K (.ref f8) = true)
  (a9:PySem.W.nsIn K mainGlobals "at_first" = some (some (.ref f9))) (l9:K.lookup f9 = some ⟨oc9,od9,.func (PySem.W.fnOf "at_first" "at_first" (defArgs (top 16)) (defBody (top 16)) (defScope (top 16)) .none kV9 dc9 pm9 an9 cd9 ct9),sl9⟩) (c9:PySem.W.codeIn K cd9 "at_first" = true) (k9:PySem.W.keepIn K (.ref f9) = true)
  (a10:PySem.W.nsIn K mainGlobals "goes_on" = some (some (.ref f10))) (l10:K.lookup f10 = some ⟨oc10,od10,.func (PySem.W.fnOf "goes_on" "goes_on" (defArgs (top 17)) (defBody (top 17)) (defScope (top 17)) .none kV10 dc10 pm10 an10 cd10 ct10),sl10⟩) (c10:PySem.W.codeIn K cd10 "goes_on" = true) (k10:PySem.W.keepIn K (.ref f10) = true)
  (a11:PySem.W.nsIn K mainGlobals "two_halves" = some (some (.ref f11))) (l11:K.lookup f11 = some ⟨oc11,od11,.func (PySem.W.fnOf "two_halves" "two_halves" (defArgs (top 10)) (defBody (top 10)) (defScope (top 10)) .none kV11 dc11 pm11 an11 cd11 ct11),sl11⟩) (c11:PySem.W.codeIn K cd11 "two_halves" = true) (k11:PySem.W.keepIn K (.ref f11) = true)
  (a12:PySem.W.nsIn K mainGlobals "flags_at" = some (some (.ref f12))) (l12:K.lookup f12 = some ⟨oc12,od12,.func (PySem.W.fnOf "flags_at" "flags_at" (defArgs (top 14)) (defBody (top 14)) (defScope (top 14)) .none kV12 dc12 pm12 an12 cd12 ct12),sl12⟩) (c12:PySem.W.codeIn K cd12 "flags_at" = true) (k12:PySem.W.keepIn K (.ref f12) = true)
  (a13:PySem.W.nsIn K mainGlobals "in_first_half" = some (some (.ref f13))) (l13:K.lookup f13 = some ⟨oc13,od13,.func (PySem.W.fnOf "in_first_half" "in_first_half" (defArgs (top 18)) (defBody (top 18)) (defScope (top 18)) .none kV13 dc13 pm13 an13 cd13 ct13),sl13⟩) (c13:PySem.W.codeIn K cd13 "in_first_half" = true) (k13:PySem.W.keepIn K (.ref f13) = true)
  (a14:PySem.W.nsIn K mainGlobals "gone_down" = some (some (.ref f14))) (l14:K.lookup f14 = some ⟨oc14,od14,.func (PySem.W.fnOf "gone_down" "gone_down" (defArgs (top 19)) (defBody (top 19)) (defScope (top 19)) .none kV14 dc14 pm14 an14 cd14 ct14),sl14⟩) (c14:PySem.W.codeIn K cd14 "gone_down" = true) (k14:PySem.W.keepIn K (.ref f14) = true)
  (a15:PySem.W.nsIn K mainGlobals "so_manieth" = some (some (.ref f15))) (l15:K.lookup f15 = some ⟨oc15,od15,.func (PySem.W.fnOf "so_manieth" "so_manieth" (defArgs (top 20)) (defBody (top 20)) (defScope (top 20)) .none kV15 dc15 pm15 an15 cd15 ct15),sl15⟩) (c15:PySem.W.codeIn K cd15 "so_manieth" = true) (k15:PySem.W.keepIn K (.ref f15) = true)
  (a16:PySem.W.nsIn K mainGlobals "so_manieth" = some (some (.ref f16))) (l16:K.lookup f16 = some ⟨oc16,od16,.func (PySem.W.fnOf "so_manieth" "so_manieth" (defArgs (top 20)) (defBody (top 20)) (defScope (top 20)) .none kV16 dc16 pm16 an16 cd16 ct16),sl16⟩) (c16:PySem.W.codeIn K cd16 "so_manieth" = true) (k16:PySem.W.keepIn K (.ref f16) = true)
  (a17:PySem.W.nsIn K mainGlobals "_law_is_refused" = some (some (.ref f17))) (l17:K.lookup f17 = some ⟨oc17,od17,.func (PySem.W.fnOf "_law_is_refused" "_law_is_refused" (defArgs (top 31)) (defBody (top 31)) (defScope (top 31)) .none kV17 dc17 pm17 an17 cd17 ct17),sl17⟩) (c17:PySem.W.codeIn K cd17 "_law_is_refused" = true) (k17:PySem.W.keepIn K (.ref f17) = true)
  (a18:PySem.W.nsIn K mainGlobals "_law_right" = some (some (.ref f18))) (l18:K.lookup f18 = some ⟨oc18,od18,.func (PySem.W.fnOf "_law_right" "_law_right" (defArgs (top 32)) (defBody (top 32)) (defScope (top 32)) .none kV18 dc18 pm18 an18 cd18 ct18),sl18⟩) (c18:PySem.W.codeIn K cd18 "_law_right" = true) (k18:PySem.W.keepIn K (.ref f18) = true)
  (a19:PySem.W.nsIn K mainGlobals "law" = some (some (.ref f19))) (l19:K.lookup f19 = some ⟨oc19,od19,.func (PySem.W.fnOf "law" "law" (defArgs (top 33)) (defBody (top 33)) (defScope (top 33)) .none kV19 dc19 pm19 an19 cd19 ct19),sl19⟩) (c19:PySem.W.codeIn K cd19 "law" = true) (k19:PySem.W.keepIn K (.ref f19) = true)
  (x0:PySem.W.nsIn K mainGlobals "BoxError" = some (some (.ref cl0))) (x1:PySem.W.nsIn K mainGlobals "NoField" = some (some (.ref cl1))) (x2:PySem.W.nsIn K mainGlobals "NoBox" = some (some (.ref cl2))) (x3:PySem.W.nsIn K mainGlobals "NoNumber" = some (some (.ref cl3))) (x4:PySem.W.nsIn K mainGlobals "NoTurn" = some (some (.ref cl4))) (x5:PySem.W.nsIn K mainGlobals "NoText" = some (some (.ref cl5))) (x6:PySem.W.nsIn K mainGlobals "NoRow" = some (some (.ref cl6))) (x7:PySem.W.nsIn K mainGlobals "NoBack" = some (some (.ref cl7))) (z0:PySem.W.nsIn K mainGlobals "len" = some none) (z1:PySem.W.nsIn K mainGlobals "max" = some none) (z2:PySem.W.nsIn K mainGlobals "min" = some none) (z3:PySem.W.nsIn K mainGlobals "all" = some none) (z4:PySem.W.nsIn K mainGlobals "isinstance" = some none) (z5:PySem.W.nsIn K mainGlobals "tuple" = some none) (z6:PySem.W.nsIn K mainGlobals "list" = some none) (z7:PySem.W.nsIn K mainGlobals "dict" = some none) (z8:PySem.W.nsIn K mainGlobals "set" = some none) (z9:PySem.W.nsIn K mainGlobals "int" = some none) (z10:PySem.W.nsIn K mainGlobals "bool" = some none) (z11:PySem.W.nsIn K mainGlobals "range" = some none) (z12:PySem.W.nsIn K mainGlobals "zip" = some none) (z13:PySem.W.nsIn K mainGlobals "enumerate" = some none) (z14:PySem.W.nsIn K mainGlobals "repr" = some none) (z15:PySem.W.nsIn K mainGlobals "sorted" = some none) (z16:PySem.W.nsIn K mainGlobals "ValueError" = some none) (e0:ExcC K cl0) (e1:ExcC K cl3) (e2:qIn K cl3 "__getattribute__" = true) (e3:qIn K cl3 "__getattr__" = true) (e4:qIn K cl3 "__class__" = true) (e5:clsIn K cl1 = true) (e6:clsIn K cl2 = true) (e7:clsIn K cl3 = true) (e8:clsIn K cl4 = true) (e9:clsIn K cl5 = true) (e10:clsIn K cl6 = true) (e11:clsIn K cl7 = true) (e12:subIn K cl3 cl0 = true) (e13:subIn K cl3 cl1 = false) (e14:subIn K cl3 cl2 = false) (e15:subIn K cl3 cl3 = true) (e16:subIn K cl3 cl4 = false) (e17:subIn K cl3 cl5 = false) (e18:subIn K cl3 cl6 = false) (e19:subIn K cl3 cl7 = false) :
  ∃ fd:FuncData,(∀ (s:Shared) (v:Value),BindsTo s fd ⟨[v],[]⟩ [("_law_script",v)]) /\ ∀ base:Heap,K.In base -> base.Ns mainGlobals mg -> FnOk l.prog w K mg base CX0 6 fa fd ["_law_script"] (conSp K cLaw):=by
 have e:=hfa.symm.trans (PySem.W.mg_of X G a19)
 cases e
 have T:Txt mg:=⟨PySem.W.mg_none_of X G z0,PySem.W.mg_none_of X G z1,PySem.W.mg_none_of X G z2,PySem.W.mg_none_of X G z3,PySem.W.mg_none_of X G z4,PySem.W.mg_none_of X G z5,PySem.W.mg_none_of X G z6,PySem.W.mg_none_of X G z7,PySem.W.mg_none_of X G z8,PySem.W.mg_none_of X G z9,PySem.W.mg_none_of X G z10,PySem.W.mg_none_of X G z11,PySem.W.mg_none_of X G z12,PySem.W.mg_none_of X G z13,PySem.W.mg_none_of X G z14,PySem.W.mg_none_of X G z15,PySem.W.mg_none_of X G z16,cA_mg (PySem.W.mg_of X G x0),cA_mg (PySem.W.mg_of X G x1),cA_mg (PySem.W.mg_of X G x2),cA_mg (PySem.W.mg_of X G x3),cA_mg (PySem.W.mg_of X G x4),cA_mg (PySem.W.mg_of X G x5),cA_mg (PySem.W.mg_of X G x6),cA_mg (PySem.W.mg_of X G x7)⟩
 have L:Cls K mg:=⟨by rw [(cA_of (PySem.W.mg_of X G x0))]; exact e0,
   by rw [(cA_of (PySem.W.mg_of X G x3))]; exact e1,
   by rw [(cA_of (PySem.W.mg_of X G x3))]; exact ⟨e1,e2,e3,e4⟩,
   by rw [(cA_of (PySem.W.mg_of X G x1))]; exact e5,
   by rw [(cA_of (PySem.W.mg_of X G x2))]; exact e6,
   by rw [(cA_of (PySem.W.mg_of X G x3))]; exact e7,
   by rw [(cA_of (PySem.W.mg_of X G x4))]; exact e8,
   by rw [(cA_of (PySem.W.mg_of X G x5))]; exact e9,
   by rw [(cA_of (PySem.W.mg_of X G x6))]; exact e10,
   by rw [(cA_of (PySem.W.mg_of X G x7))]; exact e11,
   by rw [(cA_of (PySem.W.mg_of X G x3)),(cA_of (PySem.W.mg_of X G x0))]; exact e12,
   by rw [(cA_of (PySem.W.mg_of X G x3)),(cA_of (PySem.W.mg_of X G x1))]; exact e13,
   by rw [(cA_of (PySem.W.mg_of X G x3)),(cA_of (PySem.W.mg_of X G x2))]; exact e14,
   by rw [(cA_of (PySem.W.mg_of X G x3))]; exact e15,
   by rw [(cA_of (PySem.W.mg_of X G x3)),(cA_of (PySem.W.mg_of X G x4))]; exact e16,
   by rw [(cA_of (PySem.W.mg_of X G x3)),(cA_of (PySem.W.mg_of X G x5))]; exact e17,
   by rw [(cA_of (PySem.W.mg_of X G x3)),(cA_of (PySem.W.mg_of X G x6))]; exact e18,
   by rw [(cA_of (PySem.W.mg_of X G x3)),(cA_of (PySem.W.mg_of X G x7))]; exact e19⟩
 have F0:=fun_mk (st:=(top 22)) l0 c0 k0
 have b0:=F0.binds (ps:=["_law_script","_law_k"]) fun _ _ _ _ _ _=>len2 (fun _ _=>rfl)
 have F1:=fun_mk (st:=(top 23)) l1 c1 k1
 have b1:=F1.binds (ps:=["_law_pen_here","_law_many"]) fun _ _ _ _ _ _=>len2 (fun _ _=>rfl)
 have F2:=fun_mk (st:=(top 24)) l2 c2 k2
 have b2:=F2.binds (ps:=["_law_pen_here"]) fun _ _ _ _ _ _=>len1 (fun _=>rfl)
 have F3:=fun_mk (st:=(top 25)) l3 c3 k3
 have b3:=F3.binds (ps:=["_law_pen_here","_law_most"]) fun _ _ _ _ _ _=>len2 (fun _ _=>rfl)
 have F4:=fun_mk (st:=(top 26)) l4 c4 k4
 have b4:=F4.binds (ps:=["_law_pen_here","_law_size"]) fun _ _ _ _ _ _=>len2 (fun _ _=>rfl)
 have F5:=fun_mk (st:=(top 28)) l5 c5 k5
 have b5:=F5.binds (ps:=["_law_numbers"]) fun _ _ _ _ _ _=>len1 (fun _=>rfl)
 have F6:=fun_mk (st:=(top 30)) l6 c6 k6
 have b6:=F6.binds (ps:=["_law_numbers","_law_ends","_law_number_here"]) fun _ _ _ _ _ _=>len3 (fun _ _ _=>rfl)
 have F7:=fun_mk (st:=(top 12)) l7 c7 k7
 have b7:=F7.binds (ps:=["numbers"]) fun _ _ _ _ _ _=>len1 (fun _=>rfl)
 have F8:=fun_mk (st:=(top 13)) l8 c8 k8
 have b8:=F8.binds (ps:=["numbers"]) fun _ _ _ _ _ _=>len1 (fun _=>rfl)
 have F9:=fun_mk (st:=(top 16)) l9 c9 k9
 have b9:=F9.binds (ps:=["standing","low","high"]) fun _ _ _ _ _ _=>len3 (fun _ _ _=>rfl)
 have F10:=fun_mk (st:=(top 17)) l10 c10 k10
 have b10:=F10.binds (ps:=["gone"]) fun _ _ _ _ _ _=>len1 (fun _=>rfl)
 have F11:=fun_mk (st:=(top 10)) l11 c11 k11
 have b11:=F11.binds (ps:=["stretch"]) fun _ _ _ _ _ _=>len1 (fun _=>rfl)
 have F12:=fun_mk (st:=(top 14)) l12 c12 k12
 have b12:=F12.binds (ps:=["standing","stretch"]) fun _ _ _ _ _ _=>len2 (fun _ _=>rfl)
 have F13:=fun_mk (st:=(top 18)) l13 c13 k13
 have b13:=F13.binds (ps:=["flags","gone"]) fun _ _ _ _ _ _=>len2 (fun _ _=>rfl)
 have F14:=fun_mk (st:=(top 19)) l14 c14 k14
 have b14:=F14.binds (ps:=["flags","gone","half"]) fun _ _ _ _ _ _=>len3 (fun _ _ _=>rfl)
 have F15:=fun_mk (st:=(top 20)) l15 c15 k15
 have b15:=F15.binds (ps:=["numbers","low","high","many"]) fun _ _ _ _ _ _=>len4 (fun _ _ _ _=>rfl)
 have F16:=fun_mk (st:=(top 20)) l16 c16 k16
 have b16:=F16.binds (ps:=["numbers","low","high","many"]) fun _ _ _ _ _ _=>len4 (fun _ _ _ _=>rfl)
 have F17:=fun_mk (st:=(top 31)) l17 c17 k17
 have b17:=F17.binds (ps:=["_law_numbers","_law_ends","_law_many"]) fun _ _ _ _ _ _=>len3 (fun _ _ _=>rfl)
 have F18:=fun_mk (st:=(top 32)) l18 c18 k18
 have b18:=F18.binds (ps:=["_law_pen_here","_law_numbers","_law_ends"]) fun _ _ _ _ _ _=>len3 (fun _ _ _=>rfl)
 have F19:=fun_mk (st:=(top 33)) l19 c19 k19
 have b19:=F19.binds (ps:=["_law_script"]) fun _ _ _ _ _ _=>len1 (fun _=>rfl)
 refine ⟨PySem.W.fnOf "law" "law" (defArgs (top 33)) (defBody (top 33)) (defScope (top 33)) .none kV19 dc19 pm19 an19 cd19 ct19,fun s v=>.of_eq rfl,fun base _ _=>?_⟩
 have C0:Cal l.prog w K mg base 1 "_law_pen" ["_law_script","_law_k"] (conSp K cPen):=⟨⟨_,_,ok_pen F0 T,PySem.W.mg_of X G a0,k0,b0⟩⟩
 have C1:Cal l.prog w K mg base 1 "_law_draw" ["_law_pen_here","_law_many"] (conSp K cDraw):=⟨⟨_,_,ok_draw F1,PySem.W.mg_of X G a1,k1,b1⟩⟩
 have C2:Cal l.prog w K mg base 2 "_law_number" ["_law_pen_here"] (conSp K cNumber):=⟨⟨_,_,ok_number F2 ⟨C1⟩,PySem.W.mg_of X G a2,k2,b2⟩⟩
 have C3:Cal l.prog w K mg base 3 "_law_row" ["_law_pen_here","_law_most"] (conSp K cRow):=⟨⟨_,_,ok_row F3 T ⟨C1,C2⟩,PySem.W.mg_of X G a3,k3,b3⟩⟩
 have C4:Cal l.prog w K mg base 2 "_law_pair" ["_law_pen_here","_law_size"] (conSp K cPair):=⟨⟨_,_,ok_pair F4 T ⟨C1⟩,PySem.W.mg_of X G a4,k4,b4⟩⟩
 have C5:Cal l.prog w K mg base 1 "_law_worths" ["_law_numbers"] (conSp K cLWo):=⟨⟨_,_,ok_lwo F5 T,PySem.W.mg_of X G a5,k5,b5⟩⟩
 have C6:Cal l.prog w K mg base 2 "_law_trace" ["_law_numbers","_law_ends","_law_number_here"] (conSp K cTrc):=⟨⟨_,_,ok_trc F6 T ⟨C5⟩,PySem.W.mg_of X G a6,k6,b6⟩⟩
 have C7:Cal l.prog w K mg base 1 "worths" ["numbers"] (conSp K cWor):=⟨⟨_,_,ok_wor F7 T,PySem.W.mg_of X G a7,k7,b7⟩⟩
 have C8:Cal l.prog w K mg base 2 "worth_numbers" ["numbers"] (conSp K cNum):=⟨⟨_,_,ok_num F8 T ⟨C7⟩,PySem.W.mg_of X G a8,k8,b8⟩⟩
 have C9:Cal l.prog w K mg base 1 "at_first" ["standing","low","high"] (conSp K cAtF):=⟨⟨_,_,ok_atf F9 T,PySem.W.mg_of X G a9,k9,b9⟩⟩
 have C10:Cal l.prog w K mg base 1 "goes_on" ["gone"] (conSp K cGo):=⟨⟨_,_,ok_go F10,PySem.W.mg_of X G a10,k10,b10⟩⟩
 have C11:Cal l.prog w K mg base 1 "two_halves" ["stretch"] (conSp K cTwo):=⟨⟨_,_,ok_two F11,PySem.W.mg_of X G a11,k11,b11⟩⟩
 have C12:Cal l.prog w K mg base 2 "flags_at" ["standing","stretch"] (conSp K cFlg):=⟨⟨_,_,ok_flg F12 T ⟨C11⟩,PySem.W.mg_of X G a12,k12,b12⟩⟩
 have C13:Cal l.prog w K mg base 1 "in_first_half" ["flags","gone"] (conSp K cInF):=⟨⟨_,_,ok_inf F13,PySem.W.mg_of X G a13,k13,b13⟩⟩
 have C14:Cal l.prog w K mg base 2 "gone_down" ["flags","gone","half"] (conSp K cDn):=⟨⟨_,_,ok_dn F14 ⟨C11⟩,PySem.W.mg_of X G a14,k14,b14⟩⟩
 have C15:Cal l.prog w K mg base 3 "so_manieth" ["numbers","low","high","many"] (conSp K cSom):=⟨⟨_,_,ok_som F15 T ⟨C7,C8,C9,C10,C12,C11,C13,C14⟩,PySem.W.mg_of X G a15,k15,b15⟩⟩
 have C16:CalX l.prog w K mg base 3 "so_manieth" ["numbers","low","high","many"] (conSpX K (cSomX mg)):=⟨⟨_,_,ok_somX F16 T L ⟨C7,C8,C9,C10,C12,C11,C13,C14⟩,PySem.W.mg_of X G a16,k16,b16⟩⟩
 have C17:Cal l.prog w K mg base 4 "_law_is_refused" ["_law_numbers","_law_ends","_law_many"] (conSp K cIr):=⟨⟨_,_,ok_ir F17 T L ⟨C16⟩,PySem.W.mg_of X G a17,k17,b17⟩⟩
 have C18:Cal l.prog w K mg base 5 "_law_right" ["_law_pen_here","_law_numbers","_law_ends"] (conSp K cRight):=⟨⟨_,_,ok_right F18 T ⟨C1,C6,C15,C17⟩,PySem.W.mg_of X G a18,k18,b18⟩⟩
 exact ok_law F19 T ⟨C0,C1,C3,C4,C18⟩
theorem walk {l:PySem.W.OpenLaw} {q:Program} {loose:List Str} {XP:(Str -> Option Value) -> Heap -> Prop} {YP:World -> Heap -> Prop} {d:DefRec} {K:Params -> PySem.W.Frag} (hn:l.most = some 63) (hdf:d.params.defaults = [])
  (hY:∀ (w:World) (h:Heap),YP w h -> (K w.params).In h)
  (F:∀ (w:World) (mg:Str -> Option Value) (fa:Addr) (h:Heap),(K w.params).In h -> h.Ns mainGlobals mg -> mg d.name = some (.ref fa) ->
    ∃ fd:FuncData,(∀ (s:Shared) (u:Value),BindsTo s fd ⟨[u],[]⟩ [("_law_script",u)]) /\ ∀ base:Heap,(K w.params).In base -> base.Ns mainGlobals mg -> FnOk l.prog w (K w.params) mg base CX0 6 fa fd ["_law_script"] (conSp (K w.params) cLaw)) :
  PySem.W.WalkO q loose XP YP l.row.toRowW d [] (fun f vs=>PySem.call f vs) :=
 L2.walk_of (n:=63) (k:=6) (x:="_law_script") (CX:=fun _=>CX0) (sp:=fun w=>conSp (K w.params) cLaw) hn (by decide) hdf ⟨rfl,by decide,by decide,rfl⟩ hY F (fun _ _ a ns hl _ hS=>cLaw_sp hl hS) fun _ _ _ _ _ z=>z
end R40
open PySem PySem.W PyProof.Rows
namespace PySem.W.Fast
noncomputable def tw14136041282731835851:Unit:=()
noncomputable def tw2082033484304816286:Unit:=()
noncomputable def tw2608809536056188640:Unit:=()
noncomputable def tw16117418347403626467:Unit:=()
noncomputable def tw1244656875815905376:Unit:=()
noncomputable def tw1340435632148651599:Unit:=()
noncomputable def tw8562322904872629560:Unit:=()
noncomputable def tw10634763868618771480:Unit:=()
noncomputable def tw13628877040547418073:Unit:=()
noncomputable def tw5826518697875963671:Unit:=()
noncomputable def tw13426256552239914250:Unit:=()
noncomputable def tw4642892843349247771:Unit:=()
noncomputable def tw12096585031429932054:Unit:=()
noncomputable def tw8459988300542325328:Unit:=()
noncomputable def tw8132003176577582226:Unit:=()
noncomputable def tw13567321568076738082:Unit:=()
noncomputable def tw2784384168457643661:Unit:=()
noncomputable def tw12463412877315602131:Unit:=()
noncomputable def tw3138282565109101101:Unit:=()
noncomputable def tw17448311966965491837:Unit:=()
noncomputable def tw5222902612394635055:Unit:=()
noncomputable def tw7450346512735532185:Unit:=()
noncomputable def tw8134174308485987193:Unit:=()
noncomputable def tw15305292212296178878:Unit:=()
noncomputable def tw1710397476739217942:Unit:=()
noncomputable def tw18389540999025796319:Unit:=()
noncomputable def tw7643180802127978783:Unit:=()
noncomputable def tw840904321313113849:Unit:=()
noncomputable def tw12095186211002117397:Unit:=()
noncomputable def tw9811285458494681317:Unit:=()
noncomputable def tw5066490035878564499:Unit:=()
noncomputable def tw9009712202655664850:Unit:=()
noncomputable def tw15166901871612788793:Unit:=()
noncomputable def tw571469021480707958:Unit:=()
noncomputable def tw4362507582945461405:Unit:=()
noncomputable def tw5525395137600308010:Unit:=()
noncomputable def tw7430001578670555391:Unit:=()
noncomputable def tw6470584706587275051:Unit:=()
noncomputable def tw2238663807059900194:Unit:=()
noncomputable def tw15283383305947526145:Unit:=()
noncomputable def tw17317147143483288237:Unit:=()
noncomputable def tw8637935235747886420:Unit:=()
noncomputable def tw3144768485253264159:Unit:=()
noncomputable def tw11097462517310679620:Unit:=()
noncomputable def tw2174393094991605034:Unit:=()
noncomputable def tw18012408779643602267:Unit:=()
noncomputable def tw10165072538866038500:Unit:=()
noncomputable def tw1646382519051808819:Unit:=()
noncomputable def tw9493691076565646611:Unit:=()
noncomputable def tw8519880724452767045:Unit:=()
noncomputable def tw10655313385204456654:Unit:=()
noncomputable def tw15458862526670545370:Unit:=()
noncomputable def tw7183253838254479813:Unit:=()
noncomputable def tw3847711357917344705:Unit:=()
noncomputable def tw831264113301893953:Unit:=()
noncomputable def tw2433526896527317530:Unit:=()
noncomputable def tw13281880601233127257:Unit:=()
noncomputable def tw166618542633897375:Unit:=()
noncomputable def tw11569495167660657701:Unit:=()
noncomputable def tw567140315047868020:Unit:=()
noncomputable def tw16608685206513055488:Unit:=()
noncomputable def tw7699930342767969468:Unit:=()
noncomputable def tw8559584506098558095:Unit:=()
noncomputable def tw8617629901644370969:Unit:=()
noncomputable def tw1380513535851436228:Unit:=()
noncomputable def tw16044763916043903168:Unit:=()
noncomputable def tw15805339145730460105:Unit:=()
noncomputable def tw9462009974011090697:Unit:=()
noncomputable def tw7814552039437856264:Unit:=()
noncomputable def tw8181793013303255204:Unit:=()
noncomputable def tw6026913068868600288:Unit:=()
noncomputable def tw12951456888804843675:Unit:=()
noncomputable def tw6496524314486755018:Unit:=()
noncomputable def tw9614479975393617309:Unit:=()
noncomputable def tw5473157580183087225:Unit:=()
noncomputable def tw16449318053235955798:Unit:=()
noncomputable def tw9307898448642122584:Unit:=()
noncomputable def tw15031458125073822094:Unit:=()
noncomputable def tw11105517299534285562:Unit:=()
noncomputable def tw4871261443759295750:Unit:=()
noncomputable def tw11696484068062437940:Unit:=()
noncomputable def tw1225241519709056594:Unit:=()
noncomputable def tw6027954598862331973:Unit:=()
noncomputable def tw11189359278198021765:Unit:=()
noncomputable def tw4375671171369258418:Unit:=()
noncomputable def tw13883989255378376944:Unit:=()
noncomputable def tw7356166410427743858:Unit:=()
noncomputable def tw12537187617063574189:Unit:=()
noncomputable def tw8814973957220599570:Unit:=()
noncomputable def tw9178778503168288071:Unit:=()
noncomputable def tw16840114730869038678:Unit:=()
noncomputable def tw12966719401233195845:Unit:=()
noncomputable def tw4500658871187349504:Unit:=()
noncomputable def tw12614483822861838855:Unit:=()
noncomputable def tw1674235579259809902:Unit:=()
noncomputable def tw1629526061805896751:Unit:=()
noncomputable def tw5711477594660721175:Unit:=()
noncomputable def tw16950511020053505441:Unit:=()
noncomputable def tw12163796539787404691:Unit:=()
noncomputable def tw7261095893879039001:Unit:=()
noncomputable def tw4090478343817972611:Unit:=()
noncomputable def tw13732977351782107058:Unit:=()
noncomputable def tw7993094220559982923:Unit:=()
noncomputable def tw4250543233268788469:Unit:=()
noncomputable def tw1993742666495509626:Unit:=()
noncomputable def tw16053103113323797727:Unit:=()
noncomputable def tw4249721929575556347:Unit:=()
noncomputable def tw9830798852020149132:Unit:=()
noncomputable def tw10151100332869948757:Unit:=()
noncomputable def tw9573049929653861896:Unit:=()
noncomputable def tw11695934876171367182:Unit:=()
noncomputable def tw5283443655918133755:Unit:=()
noncomputable def tw216184569233287422:Unit:=()
noncomputable def tw18353682750725454508:Unit:=()
noncomputable def tw12531105101657447685:Unit:=()
noncomputable def tw2222613938720397137:Unit:=()
noncomputable def tw8819459870672053311:Unit:=()
noncomputable def tw14225269827085544736:Unit:=()
noncomputable def tw15135412762582776110:Unit:=()
noncomputable def tw13159809132713599980:Unit:=()
noncomputable def tw9251126876820004728:Unit:=()
noncomputable def tw1719890838976808853:Unit:=()
noncomputable def tw3805306103471203889:Unit:=()
noncomputable def tw13306823831776704074:Unit:=()
noncomputable def tw3491488968666712066:Unit:=()
noncomputable def tw2903103804415993224:Unit:=()
noncomputable def tw3788653293630576930:Unit:=()
noncomputable def tw3858960616341225144:Unit:=()
noncomputable def tw13041823476364545766:Unit:=()
noncomputable def tw17556187410791162249:Unit:=()
noncomputable def tw9660910611830748018:Unit:=()
noncomputable def tw17911842644657897938:Unit:=()
noncomputable def tw2806581231876735969:Unit:=()
noncomputable def tw15691581776920664033:Unit:=()
noncomputable def tw12475413332363238865:Unit:=()
noncomputable def tw9451956164964745448:Unit:=()
noncomputable def tw18122090864397264110:Unit:=()
noncomputable def tw14098289646148966893:Unit:=()
noncomputable def tw10092208538340072140:Unit:=()
noncomputable def tw3054234185330658827:Unit:=()
noncomputable def tw14520872350933455264:Unit:=()
noncomputable def tw6124623494962189772:Unit:=()
end PySem.W.Fast
set_option maxRecDepth 100000 in
set_option maxHeartbeats 0 in
theorem PySem.Challenge.cw_boxsums_k40_the_so_manieth_holds : PySem.Challenge.rw_boxsums_k40_the_so_manieth.Holds := by
 w_on; o_law; k_head; (case hw=>w_witness2)
 k_fill
 refine R40.walk (l:=PySem.Challenge.rw_boxsums_k40_the_so_manieth) rfl rfl (fun w h Y=>PySem.W.kIn_of Y) ?F
 case F =>
  intro w mg fa h KX G hmg
  refine' R40.all_mk KX G hmg ?a0 ?l0 ?c0 ?k0 ?a1 ?l1 ?c1 ?k1 ?a2 ?l2 ?c2 ?k2 ?a3 ?l3 ?c3 ?k3 ?a4 ?l4 ?c4 ?k4 ?a5 ?l5 ?c5 ?k5 ?a6 ?l6 ?c6 ?k6 ?a7 ?l7 ?c7 ?k7 ?a8 ?l8 ?c8 ?k8 ?a9 ?l9 ?c9 ?k9 ?a10 ?l10 ?c10 ?k10 ?a11 ?l11 ?c11 ?k11 ?a12 ?l12 ?c12 ?k12 ?a13 ?l13 ?c13 ?k13 ?a14 ?l14 ?c14 ?k14 ?a15 ?l15 ?c15 ?k15 ?a16 ?l16 ?c16 ?k16 ?a17 ?l17 ?c17 ?k17 ?a18 ?l18 ?c18 ?k18 ?a19 ?l19 ?c19 ?k19 ?x0 ?x1 ?x2 ?x3 ?x4 ?x5 ?x6 ?x7 ?z0 ?z1 ?z2 ?z3 ?z4 ?z5 ?z6 ?z7 ?z8 ?z9 ?z10 ?z11 ?z12 ?z13 ?z14 ?z15 ?z16 ?e0 ?e1 ?e2 ?e3 ?e4 ?e5 ?e6 ?e7 ?e8 ?e9 ?e10 ?e11 ?e12 ?e13 ?e14 ?e15 ?e16 ?e17 ?e18 ?e19
  (case a0=>k_is); (case l0=>k_is); (case c0=>k_is); (case k0=>k_is); (case a1=>k_is); (case l1=>k_is)
  (case c1=>k_is); (case k1=>k_is); (case a2=>k_is); (case l2=>k_is); (case c2=>k_is); (case k2=>k_is)
  (case a3=>k_is); (case l3=>k_is); (case c3=>k_is); (case k3=>k_is); (case a4=>k_is); (case l4=>k_is)
  (case c4=>k_is); (case k4=>k_is); (case a5=>k_is); (case l5=>k_is); (case c5=>k_is); (case k5=>k_is)
  (case a6=>k_is); (case l6=>k_is); (case c6=>k_is); (case k6=>k_is); (case a7=>k_is); (case l7=>k_is)
  (case c7=>k_is); (case k7=>k_is); (case a8=>k_is); (case l8=>k_is); (case c8=>k_is); (case k8=>k_is)
  (case a9=>k_is); (case l9=>k_is); (case c9=>k_is); (case k9=>k_is); (case a10=>k_is); (case l10=>k_is)
  (case c10=>k_is); (case k10=>k_is); (case a11=>k_is); (case l11=>k_is); (case c11=>k_is); (case k11=>k_is)
  (case a12=>k_is); (case l12=>k_is); (case c12=>k_is); (case k12=>k_is); (case a13=>k_is); (case l13=>k_is)
  (case c13=>k_is); (case k13=>k_is); (case a14=>k_is); (case l14=>k_is); (case c14=>k_is); (case k14=>k_is)
  (case a15=>k_is); (case l15=>k_is); (case c15=>k_is); (case k15=>k_is); (case a16=>k_is); (case l16=>k_is)
  (case c16=>k_is); (case k16=>k_is); (case a17=>k_is); (case l17=>k_is); (case c17=>k_is); (case k17=>k_is)
  (case a18=>k_is); (case l18=>k_is); (case c18=>k_is); (case k18=>k_is); (case a19=>k_is); (case l19=>k_is)
  (case c19=>k_is); (case k19=>k_is); (case x0=>k_is); (case x1=>k_is); (case x2=>k_is); (case x3=>k_is)
  (case x4=>k_is); (case x5=>k_is); (case x6=>k_is); (case x7=>k_is); (case z0=>k_is); (case z1=>k_is)
  (case z2=>k_is); (case z3=>k_is); (case z4=>k_is); (case z5=>k_is); (case z6=>k_is); (case z7=>k_is)
  (case z8=>k_is); (case z9=>k_is); (case z10=>k_is); (case z11=>k_is); (case z12=>k_is); (case z13=>k_is)
  (case z14=>k_is); (case z15=>k_is); (case z16=>k_is); (case e0=>kernel_rfl); (case e1=>kernel_rfl); (case e2=>kernel_rfl)
  (case e3=>kernel_rfl); (case e4=>kernel_rfl); (case e5=>kernel_rfl); (case e6=>kernel_rfl); (case e7=>kernel_rfl); (case e8=>kernel_rfl)
  (case e9=>kernel_rfl); (case e10=>kernel_rfl); (case e11=>kernel_rfl); (case e12=>kernel_rfl); (case e13=>kernel_rfl); (case e14=>kernel_rfl)
  (case e15=>kernel_rfl); (case e16=>kernel_rfl); (case e17=>kernel_rfl); (case e18=>kernel_rfl); (case e19=>kernel_rfl)
