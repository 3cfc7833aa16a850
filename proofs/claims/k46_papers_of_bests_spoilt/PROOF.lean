import PyProof.Rows.All
import Wide.All
import OpenK.AllK
import Wide.FinOn
import Lean
import PyProof.EqAt
import PyProof.EqKinds
import PyProof.TupleCall
import PyProof.Draws
import PyProof.EnumMake
import KE.KRevSl
import PySem.Challenge.RW_boxsums_k46_papers_of_bests_spoilt
set_option Elab.async false
set_option linter.all false
set_option maxRecDepth 100000
set_option maxHeartbeats 4000000
namespace L2
open PySem PySem.Spec PyProof.Rows
noncomputable abbrev Key:=Sum Int Str
noncomputable def keyIs:Key -> Value -> Bool
 | .inl k,v=>Value.isInt k v
 | .inr x,v=>Value.isStrOf x v
noncomputable def keyH (w:World):Key -> Int
 | .inl k=>hashInt k
 | .inr x=>hashStr w x
theorem keyIs_shape:∀ {k:Key} {v:Value},keyIs k v = true -> (∃ i t,k = Sum.inl i /\ v = Value.int i t) \/ (∃ x t,k = Sum.inr x /\ v = Value.str x t)
 | .inl i,v,h=>by
  obtain ⟨t,e⟩:=Value.isInt_shape (k:=i) (v:=v) h
  exact .inl ⟨i,t,rfl,e⟩
 | .inr x,v,h=>by
  obtain ⟨t,e⟩:=Value.isStrOf_shape (x:=x) (v:=v) h
  exact .inr ⟨x,t,rfl,e⟩
theorem keyIs_int (i:Int) (t:Tok):keyIs (.inl i) (.int i t) = true:=by simp [keyIs,Value.isInt]
theorem keyIs_str (x:Str) (t:Tok):keyIs (.inr x) (.str x t) = true:=by simp [keyIs,Value.isStrOf]
theorem key_ll (a b:Int):decide ((Sum.inl a:Key) = Sum.inl b) = (a == b):=by
 by_cases e:a = b
 ·subst e; simp
 ·have h:¬ (Sum.inl a:Key) = Sum.inl b:=fun q=>e (Sum.inl.inj q)
  rw [decide_eq_false h]
  exact (beq_eq_false_iff_ne.mpr e).symm
theorem key_rr (a b:Str):decide ((Sum.inr a:Key) = Sum.inr b) = decide (a = b):=by
 by_cases e:a = b
 ·subst e; simp
 ·have h:¬ (Sum.inr a:Key) = Sum.inr b:=fun q=>e (Sum.inr.inj q)
  rw [decide_eq_false h,decide_eq_false e]
theorem key_lr (a:Int) (b:Str):decide ((Sum.inl a:Key) = Sum.inr b) = false:=decide_eq_false (fun q=>nomatch q)
theorem key_rl (a:Str) (b:Int):decide ((Sum.inr a:Key) = Sum.inl b) = false:=decide_eq_false (fun q=>nomatch q)
noncomputable def mixKind (prog:Program) (w:World):PySem.KeyKind prog w Key where
 is:=keyIs
 hash:=keyH w
 inj:=fun v a b ha hb=>by
  rcases keyIs_shape ha with ⟨i,t,rfl,rfl⟩ | ⟨x,t,rfl,rfl⟩
  ·rcases keyIs_shape hb with ⟨j,u,rfl,e⟩ | ⟨y,u,rfl,e⟩
   ·injection e with e1 _; rw [e1]
   ·exact nomatch e
  ·rcases keyIs_shape hb with ⟨j,u,rfl,e⟩ | ⟨y,u,rfl,e⟩
   ·exact nomatch e
   ·injection e with e1 _; rw [e1]
 byValue:=fun k v h=>by
  rcases keyIs_shape h with ⟨i,t,rfl,rfl⟩ | ⟨x,t,rfl,rfl⟩ <;> rfl
 pyHash:=fun hv h=>by
  rcases keyIs_shape hv with ⟨i,t,rfl,rfl⟩ | ⟨x,t,rfl,rfl⟩
  ·exact wpAny_pyHash_int h
  ·exact wpAny_pyHash_str h
 eqBool:=fun hu hv h=>by
  rcases keyIs_shape hu with ⟨i,t,rfl,rfl⟩ | ⟨x,t,rfl,rfl⟩
  ·rcases keyIs_shape hv with ⟨j,u,rfl,rfl⟩ | ⟨y,u,rfl,rfl⟩
   ·rw [key_ll] at h; exact wpAny_eqBool_int h
   ·rw [key_lr] at h; exact SeqAt.EqAt.int_str i t y u _ _ _ _ h
  ·rcases keyIs_shape hv with ⟨j,u,rfl,rfl⟩ | ⟨y,u,rfl,rfl⟩
   ·rw [key_rl] at h; exact SeqAt.EqAt.str_int x t j u _ _ _ _ h
   ·rw [key_rr] at h; exact wpAny_eqBool_str h
 «strs»:=fun k x t v h=>by
  rcases keyIs_shape h with ⟨i,u,rfl,e⟩ | ⟨y,u,rfl,e⟩
  ·exact nomatch e
  ·injection e with e1 _
   subst e1
   cases v <;> rfl
theorem mixKind_int (prog:Program) (w:World) (i:Int) (t:Tok):(mixKind prog w).is (.inl i) (.int i t) = true:=keyIs_int i t
theorem mixKind_str (prog:Program) (w:World) (x:Str) (t:Tok):(mixKind prog w).is (.inr x) (.str x t) = true:=keyIs_str x t
end L2
namespace L2
open PySem PySem.Spec PyProof.Rows
inductive V where
 | non | bl (b:Bool) | int (i:Int) | str (x:Str) | byt (b:Array UInt8) | flt (b:UInt64) | ref (a:Addr) | ty (n:String)
 deriving DecidableEq
noncomputable def RelV:V -> Value -> Prop
 | .non,u=>u = Value.none
 | .bl b,u=>u = Value.bool b
 | .int i,u=>∃ t,u = Value.int i t
 | .str x,u=>∃ t,u = Value.str x t
 | .byt b,u=>∃ t,u = Value.bytes b t
 | .flt b,u=>∃ t,u = Value.float b t
 | .ref a,u=>u = Value.ref a
 | .ty n,u=>u = Value.type n
noncomputable abbrev Vals:List V -> List Value -> Prop:=Paired RelV
theorem Vals.length {xs:List V} {us:List Value} (r:Vals xs us):xs.length = us.length:=Paired.length r
theorem Vals.get:∀ {xs:List V} {us:List Value} {i:Nat} {x:V},Vals xs us -> xs[i]? = some x -> ∃ u,us[i]? = some u /\ RelV x u
 | _,_,_,_,.nil,e=>by simp at e
 | _,_,0,_,.cons r _,e=>by simp at e; subst e; exact ⟨_,rfl,r⟩
 | _,_,i + 1,x,.cons _ t,e=>by
  obtain ⟨u,h1,h2⟩:=Vals.get (i:=i) (x:=x) t (by simpa using e)
  exact ⟨u,by simpa using h1,h2⟩
theorem Vals.set {x:V} {u:Value} (r:RelV x u):∀ {xs:List V} {us:List Value} (i:Nat),Vals xs us -> Vals (xs.set i x) (us.set i u)
 | _,_,_,.nil=>.nil
 | _,_,0,.cons _ t=>.cons r t
 | _,_,i + 1,.cons q t=>.cons q (Vals.set r i t)
theorem Vals.append:∀ {xs ys:List V} {us ws:List Value},Vals xs us -> Vals ys ws -> Vals (xs ++ ys) (us ++ ws)
 | _,_,_,_,.nil,s=>s
 | _,_,_,_,.cons r t,s=>.cons r (Vals.append t s)
theorem Vals.take:∀ {xs:List V} {us:List Value} (n:Nat),Vals xs us -> Vals (xs.take n) (us.take n)
 | _,_,0,_=>.nil
 | _,_,_ + 1,.nil=>.nil
 | _,_,n + 1,.cons r t=>.cons r (Vals.take n t)
theorem Vals.drop:∀ {xs:List V} {us:List Value} (n:Nat),Vals xs us -> Vals (xs.drop n) (us.drop n)
 | _,_,0,r=>r
 | _,_,_ + 1,.nil=>.nil
 | _,_,n + 1,.cons _ t=>Vals.drop n t
theorem Vals.none_of:∀ {xs:List V} {us:List Value} {i:Nat},Vals xs us -> xs[i]? = none -> us[i]? = none:=fun {xs us i} r e=>by
 have h1:=r.length
 have h2:xs.length <= i:=List.getElem?_eq_none_iff.mp e
 exact List.getElem?_eq_none_iff.mpr (by omega)
noncomputable def RelO:Option V -> Option Value -> Prop
 | some v,some u=>RelV v u
 | none,none=>True
 | _,_=>False
noncomputable def KV {κ:Type}:List (κ × V) -> List (κ × Value) -> Prop:=Paired fun (p:κ × V) (q:κ × Value)=>p.1 = q.1 /\ RelV p.2 q.2
noncomputable def kV:Key -> V
 | .inl i=>.int i
 | .inr x=>.str x
inductive HO where
 | lst (xs:List V)
 | tup (xs:List V)
 | dK (kvs:List (Key × V)) | dT (kvs:List (List Key × V))
 | set (S:Int -> Bool) (n:Nat)
 | ins (C dx:Addr) (fs:List (Str × V))
 | own (x:Addr)
 | xd (fs:List (Str × V))
 | met (f x:Addr)
 | rng (lo hi:Int)
 | frz (o:Obj) (u:HO)
 | tbl (ps:Array Value)
 | ext (φ:Heap -> Prop)
noncomputable abbrev Hp:=Addr -> Option HO
noncomputable def upd (H:Hp) (a:Addr) (o:HO):Hp:=fun b=>if b = a then some o else H b
theorem upd_same {H:Hp} {a:Addr} {o:HO}:upd H a o a = some o:=by unfold upd; rw [if_pos rfl]
theorem upd_ne {H:Hp} {a b:Addr} {o:HO} (h:b ≠ a):upd H a o b = H b:=by unfold upd; rw [if_neg h]
theorem upd_upd {H:Hp} {a:Addr} {o u:HO}:upd (upd H a o) a u = upd H a u:=by
 funext b; unfold upd; split <;> rfl
theorem ne_of {H:Hp} {a b:Addr} {o u:HO} (h:H a = some o) (h':H b = some u) (d:o ≠ u):a ≠ b:=by
 intro e; subst e; rw [h] at h'; exact d (Option.some.inj h')
theorem ne_of_none {H:Hp} {a b:Addr} {o:HO} (h:H a = some o) (h':H b = none):a ≠ b:=by
 intro e; subst e; rw [h] at h'; cases h'
noncomputable def IsTupD (h:Heap) (a:Addr) (items:Array Value):Prop:=∃ o,h.get? a = some o /\ o.cls = .type "tuple" /\ ∃ n,o.data = .seq items n /\ o.dict = none
theorem IsTupD.t {h:Heap} {a:Addr} {items:Array Value}:IsTupD h a items -> IsTup h a items:=fun ⟨o,e,c,n,d,_⟩=>⟨o,e,c,n,d⟩
theorem IsTupD.new (h:Heap) (items:Array Value):IsTupD (h.push { cls:=.type "tuple",data:=.seq items }) h.objs.size items:=⟨_,Heap.get?_push_size _ rfl,rfl,_,rfl,rfl⟩
section
variable (P:Program) (w:World)
noncomputable def ObjOk (H:Hp) (h:Heap) (a:Addr):HO -> Prop
 | .lst xs=>xs.length <= sizeLine /\ ∃ (its:List Value) (n:Nat),Vals xs its /\ h.get? a = some { cls:=.type "list",data:=.seq its.toArray n }
 | .tup xs=>xs.length <= sizeLine /\ ∃ its:List Value,Vals xs its /\ IsTupD h a its.toArray
 | .dK kvs=>kvs.length <= sizeLine /\ (a == sysModules) = false /\ ∃ vs,KV kvs vs /\ h.DictOf (mixKind P w) a vs
 | .dT kvs=>kvs.length <= sizeLine /\ (a == sysModules) = false /\ ∃ xs:List (List Key × Addr × Value),
   Paired (fun (p:List Key × V) (q:List Key × Addr × Value)=>p.1 = q.1 /\ H q.2.1 = some (.tup (p.1.map kV)) /\ RelV p.2 q.2.2) kvs xs /\
   ∃ o es ep,h.get? a = some o /\ o.ExactDict /\ o.data = .dict es ep /\ es.toList = xs.map (entryOfKey (tupleKind (mixKind P w))) /\ (xs.map (·.1)).Nodup
 | .set S n=>h.SetOf (intKind P w) a S n
 | .ins C dx fs=>H dx = some (.own a) /\ fs.length <= 1000 /\ dx ≠ a /\ h.get? a = some (PySem.W.instObj C dx) /\
   ∃ mA,h.Ns1 dx mA /\ (∀ f,RelO (fs.lookup f) (mA f)) /\ PySem.Within mA (fs.map (·.1))
 | .own _=>∃ o,h.get? a = some o
 | .xd fs=>∃ mA,h.Ns1 a mA /\ ∀ f,RelO (fs.lookup f) (mA f)
 | .rng lo hi=>∃ t u v,h.get? a = some { cls:=.type "range",data:=.fields #[.int lo t,.int hi u,.int 1 v] }
 | .frz o u=>h.get? a = some o /\ ObjOk H h a u
 | .tbl ps=>h.get? a = some { cls:=.none,data:=.fields ps }
 | .met f x=>h.get? a = some (PySem.W.methodObj (.ref f) (.ref x))
 | .ext φ=>φ h /\ (∃ o,h.get? a = some o) /\ ∀ h1 h2:Heap,φ h1 -> (∀ o,h1.get? a = some o -> h2.get? a = some o) -> φ h2
noncomputable def HOk (H:Hp) (h:Heap):Prop:=∀ a o,H a = some o -> ObjOk P w H h a o
end
section
variable {P:Program} {w:World} {H H':Hp} {h h':Heap} {a:Addr} {o:HO}
theorem ObjOk.lt (x:ObjOk P w H h a o):a < h.objs.size:=by
 cases o with
 | lst xs=>obtain ⟨_,_,_,_,e⟩:=x; exact Heap.lt_size e
 | tup xs=>obtain ⟨_,_,_,p⟩:=x; exact p.t.lt
 | dK kvs=>obtain ⟨_,_,_,_,o,_,_,e,_⟩:=x; exact Heap.lt_size e
 | dT kvs=>obtain ⟨_,_,_,_,o,_,_,e,_⟩:=x; exact Heap.lt_size e
 | set S n=>obtain ⟨o,_,_,_,e,_⟩:=x; exact Heap.lt_size e
 | ins C dx fs=>obtain ⟨_,_,_,e,_⟩:=x; exact Heap.lt_size e
 | own y=>obtain ⟨_,e⟩:=x; exact Heap.lt_size e
 | xd fs=>obtain ⟨_,⟨_,_,_,e,_⟩,_⟩:=x; exact Heap.lt_size e
 | rng lo hi=>obtain ⟨_,_,_,e⟩:=x; exact Heap.lt_size e
 | frz ob u=>obtain ⟨e,_⟩:=x; exact Heap.lt_size e
 | tbl ps=>exact Heap.lt_size (show h.get? a = some _ from x)
 | met f y=>exact Heap.lt_size (show h.get? a = some _ from x)
 | ext φ=>obtain ⟨_,⟨_,e⟩,_⟩:=x; exact Heap.lt_size e
theorem Paired.mapP {α β:Type} {F G:α -> β -> Prop}:∀ {l₁:List α} {l₂:List β},Paired F l₁ l₂ -> (∀ a b,F a b -> G a b) -> Paired G l₁ l₂
 | _,_,.nil,_=>.nil
 | _,_,.cons r t,f=>.cons (f _ _ r) (Paired.mapP t f)
theorem ObjOk.stay (x:ObjOk P w H h a o) (k:∀ b u,(b = a \/ H b = some (.own a)) -> h.get? b = some u -> h'.get? b = some u)
  (ho:∀ b,H b = some (.own a) -> H' b = some (.own a)) (ht:∀ b xs,H b = some (.tup xs) -> H' b = some (.tup xs)):ObjOk P w H' h' a o:=by
 induction o with
 | lst xs=>obtain ⟨z,its,n,r,e⟩:=x; exact ⟨z,its,n,r,k _ _ (.inl rfl) e⟩
 | tup xs=>obtain ⟨z,its,r,ob,e,c⟩:=x; exact ⟨z,its,r,ob,k _ _ (.inl rfl) e,c⟩
 | dK kvs=>obtain ⟨z,y,vs,r,ob,es,ep,e,c⟩:=x; exact ⟨z,y,vs,r,ob,es,ep,k _ _ (.inl rfl) e,c⟩
 | dT kvs =>
  obtain ⟨z,y,xs,r,ob,es,ep,e,c⟩:=x
  exact ⟨z,y,xs,Paired.mapP r fun p q z=>⟨z.1,ht _ _ z.2.1,z.2.2⟩,ob,es,ep,k _ _ (.inl rfl) e,c⟩
 | set S n=>obtain ⟨ob,es,ep,t,e,c⟩:=x; exact ⟨ob,es,ep,t,k _ _ (.inl rfl) e,c⟩
 | ins C dx fs =>
  obtain ⟨d,z,ne,e,mA,⟨od,es,ep,e2,c⟩,r⟩:=x
  exact ⟨ho _ d,z,ne,k _ _ (.inl rfl) e,mA,⟨od,es,ep,k _ _ (.inr d) e2,c⟩,r⟩
 | own y=>obtain ⟨ob,e⟩:=x; exact ⟨ob,k _ _ (.inl rfl) e⟩
 | xd fs=>obtain ⟨mA,⟨od,es,ep,e,c⟩,r⟩:=x; exact ⟨mA,⟨od,es,ep,k _ _ (.inl rfl) e,c⟩,r⟩
 | rng lo hi=>obtain ⟨t,u,v,e⟩:=x; exact ⟨t,u,v,k _ _ (.inl rfl) e⟩
 | frz ob u ih=>obtain ⟨e,q⟩:=x; exact ⟨k _ _ (.inl rfl) e,ih q⟩
 | tbl ps =>
  have e:h.get? a = some { cls:=.none,data:=.fields ps }:=x
  show h'.get? a = some { cls:=.none,data:=.fields ps }
  exact k a _ (.inl rfl) e
 | met f y =>
  have e:h.get? a = some (PySem.W.methodObj (.ref f) (.ref y)):=x
  show h'.get? a = some (PySem.W.methodObj (.ref f) (.ref y))
  exact k a _ (.inl rfl) e
 | ext φ=>obtain ⟨p,⟨o,e⟩,st⟩:=x; exact ⟨st _ _ p fun o q=>k _ _ (.inl rfl) q,⟨o,k _ _ (.inl rfl) e⟩,st⟩
theorem HOk.lt (x:HOk P w H h) (e:H a = some o):a < h.objs.size:=(x a o e).lt
theorem HOk.fresh (x:HOk P w H h) (e:h.objs.size <= a):H a = none:=by
 cases q:H a with
 | none=>rfl
 | some u=>exact absurd (Nat.lt_of_lt_of_le (x.lt q) e) (Nat.lt_irrefl _)
theorem HOk.kept (x:HOk P w H h) (k:∀ b u,h.get? b = some u -> h'.get? b = some u):HOk P w H h':=fun a o e =>
 (x a o e).stay (fun b u _ q=>k b u q) (fun _ q=>q) fun _ _ q=>q
theorem HOk.laid (x:HOk P w H h) (k:∀ b u,h.get? b = some u -> h'.get? b = some u) (hp:h.objs.size <= a) (new:ObjOk P w (upd H a o) h' a o):HOk P w (upd H a o) h':=fun b u e=>by
 have hn:=x.fresh hp
 by_cases hb:b = a
 ·subst hb; rw [upd_same] at e; cases e; exact new
 ·rw [upd_ne hb] at e
  exact (x b u e).stay (fun c v _ q=>k c v q) (fun c q=>by rw [upd_ne (ne_of_none q hn)]; exact q) fun c xs q=>by rw [upd_ne (ne_of_none q hn)]; exact q
end
noncomputable def Rd (H:Hp) (a:Addr) (u:HO):Prop:=H a = some u \/ ∃ o,H a = some (.frz o u)
theorem Rd.ok {P:Program} {w:World} {H:Hp} {h:Heap} {a:Addr} {u:HO} (r:Rd H a u) (x:HOk P w H h):ObjOk P w H h a u:=by
 rcases r with r | ⟨o,r⟩
 ·exact x a u r
 ·obtain ⟨_,q⟩:=x a _ r
  exact q
noncomputable def Mut:Option HO -> Prop
 | some (.lst _)=>True
 | some (.dK _)=>True
 | some (.dT _)=>True
 | some (.set _ _)=>True
 | some (.ins _ _ _)=>True
 | some (.ext _)=>True
 | _=>False
section
variable {P:Program} {w:World} {H:Hp} {h h':Heap} {x e:Addr} {o':HO}
theorem HOk.write (ok:HOk P w H h) (mu:Mut (H x)) (he:e = x \/ H e = some (.own x)) (k:∀ b u,b ≠ e -> h.get? b = some u -> h'.get? b = some u) (heo:∃ u,h'.get? e = some u)
  (new:ObjOk P w (upd H x o') h' x o'):HOk P w (upd H x o') h':=fun b u q=>by
 have nown:∀ c y,H c = some (.own y) -> c ≠ x:=fun c y r z=>by subst z; rw [r] at mu; exact mu
 have ntup:∀ c xs,H c = some (.tup xs) -> c ≠ x:=fun c xs r z=>by subst z; rw [r] at mu; exact mu
 by_cases hb:b = x
 ·subst hb; rw [upd_same] at q; cases q; exact new
 ·rw [upd_ne hb] at q
  by_cases hbe:b = e
  ·have q':H b = some (.own x):=by
    rcases he with z | z
    ·exact absurd (hbe.trans z) hb
    ·rw [hbe]; exact z
   rw [q] at q'; cases q'
   obtain ⟨v,hv⟩:=heo
   exact ⟨v,by rw [hbe]; exact hv⟩
  ·refine (ok b u q).stay (fun c v hc r=>k c v ?_ r) (fun c r=>by rw [upd_ne (nown c b r)]; exact r) fun c xs r=>by rw [upd_ne (ntup c xs r)]; exact r
   rcases hc with rfl | hc
   ·exact hbe
   ·rintro rfl
    rcases he with z | z
    ·exact nown c b hc z
    ·rw [hc] at z; cases z; exact hb rfl
end
structure Un (fs ex:List Addr) (H H':Hp) (h h':Heap):Prop where
 keep:∀ b o,h.get? b = some o -> H b = none -> b ∉ fs -> b ∉ ex -> h'.get? b = some o
 slot:∀ b o,h.get? b = some o -> H b = none -> b ∈ fs -> b ∉ ex -> ∃ sl,h'.get? b = some { o with slots:=sl }
 free:∀ b o,h.get? b = some o -> H b = none -> b ∉ ex -> H' b = none
 there:∀ b o,h.get? b = some o -> b ∉ ex -> ∃ o',h'.get? b = some o'
 tups:∀ b xs,H b = some (.tup xs) -> H' b = some (.tup xs)
 frzs:∀ b o u,H b = some (.frz o u) -> H' b = some (.frz o u)
 tbls:∀ b ps,H b = some (.tbl ps) -> ∃ more,H' b = some (.tbl (ps ++ more))
section
variable {fs fs' ex ex':List Addr} {H H1 H2:Hp} {h h1 h2 h':Heap} {a x e:Addr} {o:HO}
theorem Un.any (u:Un fs ex H H1 h h1) {b:Addr} {ob:Obj} (q:h.get? b = some ob) (n:H b = none) (hx:b ∉ ex):∃ sl,h1.get? b = some { ob with slots:=sl }:=by
 by_cases hb:b ∈ fs
 ·exact u.slot b ob q n hb hx
 ·exact ⟨ob.slots,u.keep b ob q n hb hx⟩
theorem Un.kept (k:∀ b u,h.get? b = some u -> h'.get? b = some u):Un fs ex H H h h' :=
 ⟨fun b ob q _ _ _=>k b ob q,fun b ob q _ _ _=>⟨ob.slots,k b ob q⟩,fun _ _ _ n _=>n,fun b ob q _=>⟨ob,k b ob q⟩,fun _ _ q=>q,fun _ _ _ q=>q,fun _ ps q=>⟨#[],by rw [q]; simp⟩⟩
theorem Un.refl:Un fs ex H H h h:=Un.kept fun _ _ q=>q
theorem Un.laid (k:∀ b u,h.get? b = some u -> h'.get? b = some u) (hp:h.objs.size <= a) (hn:H a = none):Un fs ex H (upd H a o) h h' where
 keep:=fun b u q _ _ _=>k b u q
 slot:=fun b u q _ _ _=>⟨u.slots,k b u q⟩
 free:=fun b u q n _=>by rw [upd_ne (Nat.ne_of_lt (Nat.lt_of_lt_of_le (Heap.lt_size q) hp))]; exact n
 there:=fun b u q _=>⟨u,k b u q⟩
 tups:=fun b xs q=>by rw [upd_ne (ne_of_none q hn)]; exact q
 frzs:=fun b u xs q=>by rw [upd_ne (ne_of_none q hn)]; exact q
 tbls:=fun b ps q=>⟨#[],by rw [upd_ne (ne_of_none q hn),q]; simp⟩
theorem Un.write (mu:Mut (H x)) (he:e = x \/ H e = some (.own x)) (k:∀ b u,b ≠ e -> h.get? b = some u -> h'.get? b = some u) (heo:∃ u,h'.get? e = some u):Un fs ex H (upd H x o) h h':=by
 have hx:∀ b,H b = none -> b ≠ x:=fun b n z=>by subst z; rw [n] at mu; exact mu
 have hb:∀ b,H b = none -> b ≠ e:=fun b n z=>by
  subst z
  rcases he with r | r
  ·exact hx b n r
  ·rw [n] at r; cases r
 have hm:∀ b u,H b = some u -> ¬ Mut (some u) -> b ≠ x:=fun b u q nm z=>by subst z; rw [q] at mu; exact nm mu
 refine ⟨fun b u q n _ _=>k b u (hb b n) q,fun b u q n _ _=>⟨u.slots,k b u (hb b n) q⟩,fun b u q n _=>by rw [upd_ne (hx b n)]; exact n,fun b u q _=>?_,
   fun b xs q=>by rw [upd_ne (hm b _ q fun z=>z)]; exact q,fun b u xs q=>by rw [upd_ne (hm b _ q fun z=>z)]; exact q,fun b ps q=>⟨#[],by rw [upd_ne (hm b _ q fun z=>z),q]; simp⟩⟩
 by_cases hbe:b = e
 ·subst hbe; exact heo
 ·exact ⟨u,k b u hbe q⟩
end
noncomputable def trk (h:Heap) (H:Hp):List Addr:=(List.range h.objs.size).filter fun a=>(H a).isSome
noncomputable def hidT (h:Heap) (H:Hp):Heap:=PySem.W.hideAll h (trk h H)
theorem hidT_size (h:Heap) (H:Hp):(hidT h H).objs.size = h.objs.size:=PySem.W.hideAll_size _ _
theorem hidT_get {h:Heap} {H:Hp} {b:Addr} {o:Obj} (e:h.get? b = some o) (n:H b = none):(hidT h H).get? b = some o :=
 PySem.W.hideAll_get _ e fun hm=>by
  have q:(H b).isSome = true:=(List.mem_filter.mp hm).2
  rw [n] at q; simp at q
theorem of_hidT {h:Heap} {H:Hp} {b:Addr} {o:Obj} (e:(hidT h H).get? b = some o):h.get? b = some o /\ H b = none:=by
 have e':h.get? b = some o:=PySem.W.of_hideAll (trk h H) e
 refine ⟨e',?_⟩
 cases q:H b with
 | none=>rfl
 | some x =>
  have hm:b ∈ trk h H:=List.mem_filter.mpr ⟨List.mem_range.mpr (Heap.lt_size e'),by simp [q]⟩
  have z:(hidT h H).get? b = none:=PySem.W.hideAll_none (trk h H) hm
  rw [z] at e; cases e
noncomputable def allNews (g h:Heap) (L:Addr):List (Addr × Obj):=(List.range h.objs.size).filterMap fun a=>if a = L \/ (g.get? a).isSome = true then none else (h.get? a).map fun o=>(a,o)
noncomputable def rest (g h:Heap) (L d:Addr):List (Addr × Obj):=(allNews g h L).filter fun p=>decide (p.1 ≠ d)
end L2
namespace L2
open PySem PySem.Spec PyProof.Rows
structure Mod (K:PySem.W.Frag) (mg:Str -> Option Value) (base:Heap):Prop where
 kin:K.In base
 glob:base.Ns mainGlobals mg
 blt:∃ mb,base.Ns builtinsNs mb /\ ∀ x:Str,x ≠ "__name__" -> mb x = bootBuiltins x
 nolimit:base.NoLimit
structure Cx where
 prog:Program
 w:World
 K:PySem.W.Frag
 mg:Str -> Option Value
 base:Heap
 A:Around
 N:List Str
 s₀:Shared
 H₀:Hp
 env:Env
 outer:List Env
 stack:List Env
 ex:List Addr
 fn:Str -> Bool
 calm:Bool
 pn:List (Addr × Obj)
 xe:Value -> Shared -> Prop
noncomputable def frs (l:List Env):List Addr:=l.filterMap (·.frame)
noncomputable abbrev Cx.fs (X:Cx):List Addr:=frs X.outer
noncomputable def Vis (sc:Scope) (x:Str):Prop:=sc.names.lookup x = some .local \/ sc.names.lookup x = some .cell \/ sc.names.lookup x = some .free
noncomputable def Loc (sc:Scope) (x:Str):Prop:=sc.names.lookup x = some .local \/ sc.names.lookup x = some .cell
noncomputable def Look (env:Env) (h:Heap) (m:Str -> Option Value) (x:Str) (u:Value):Prop :=
 (env.kindOf x = some .local /\ m x = some u) \/ ((env.kindOf x = some .cell \/ env.kindOf x = some .free) /\ ∃ c,env.cells.lookup x = some c /\ h.IsCell c (some u))
structure Cx.Ok (X:Cx):Prop where
 mod:Mod X.K X.mg X.base
 kind:X.env.scope.kind = .function
 glob:X.env.globals = mainGlobals
 blt:X.env.builtins = builtinsNs
 above:X.s₀.heap.objs.size <= X.env.locals
 inj:∀ x y c,X.env.cells.lookup x = some c -> X.env.cells.lookup y = some c -> x = y
 has:∀ x,(X.env.kindOf x = some .cell \/ X.env.kindOf x = some .free) -> ∃ c,X.env.cells.lookup x = some c
 cab:∀ x c,X.fn x = true -> X.env.cells.lookup x = some c -> X.s₀.heap.objs.size <= c
 hd:X.calm = true -> X.A.handled = none
 frames:X.A.frames = some X.stack
 stk:X.stack = X.outer \/ (X.stack = X.env :: X.outer /\ X.env.frame = some X.env.locals)
 exf:∀ b ∈ X.ex,b ≠ X.env.locals /\ ∀ x c,X.env.cells.lookup x = some c -> c ≠ b
 bs:∀ b o,X.base.get? b = some o -> X.s₀.heap.get? b = some o /\ X.H₀ b = none
 bsz:X.base.objs.size <= X.s₀.heap.objs.size
 noex:∀ b o,X.base.get? b = some o -> b ∉ X.ex
 exfs:∀ b ∈ X.ex,b ∉ X.fs
 funs:X.s₀.heap.FunFrames X.base X.outer
 frf:∀ b ∈ X.fs,X.H₀ b = none
structure Inv (X:Cx) (pins:List (Addr × Obj)) (σ:List (Option V)) (H:Hp) (s:Shared):Prop where
 ok:X.Ok
 os:s.os = X.s₀.os
 bare:AllBare s.gens
 base:Un X.fs X.ex X.H₀ H X.s₀.heap s.heap
 loc:∃ m,s.heap.Ns X.env.locals m /\ ∀ (i:Nat) (x:Str) (v:V),X.N[i]? = some x -> σ[i]? = some (some v) -> Vis X.env.scope x -> ∃ u,RelV v u /\ Look X.env s.heap m x u
 cell:∀ x c,X.env.cells.lookup x = some c -> ∃ v,s.heap.IsCell c v
 free:H X.env.locals = none
 freeC:∀ x c,X.env.cells.lookup x = some c -> H c = none
 pin:∀ p ∈ X.pn ++ pins,s.heap.get? p.1 = some p.2 /\ H p.1 = none /\ p.1 ≠ X.env.locals /\ p.1 ∉ X.fs /\ ∀ v,p.2.data ≠ .cell v
 hok:HOk X.prog X.w H s.heap
 len:σ.length = X.N.length
section
variable {X:Cx} {pins:List (Addr × Obj)} {σ:List (Option V)} {H H':Hp} {s:Shared} {h':Heap}
theorem Cx.Ok.nofr (ok:X.Ok) {b:Addr} {o:Obj} (e:X.base.get? b = some o):b ∉ X.fs:=fun hb=>by
 have:=(ok.funs.mem hb).1
 rw [e] at this; cases this
theorem Inv.bs (I:Inv X pins σ H s):∀ b o,X.base.get? b = some o -> s.heap.get? b = some o /\ H b = none:=fun b o e =>
 ⟨I.base.keep b o (I.ok.bs b o e).1 (I.ok.bs b o e).2 (I.ok.nofr e) (I.ok.noex b o e),I.base.free b o (I.ok.bs b o e).1 (I.ok.bs b o e).2 (I.ok.noex b o e)⟩
theorem Inv.bk (I:Inv X pins σ H s):∀ b o,X.base.get? b = some o -> s.heap.get? b = some o:=fun b o e=>(I.bs b o e).1
theorem Inv.mod (I:Inv X pins σ H s):Mod X.K X.mg X.base:=I.ok.mod
theorem Inv.kIn (I:Inv X pins σ H s):X.K.In s.heap:=I.ok.mod.kin.keeps I.bk
theorem Inv.lt (I:Inv X pins σ H s):X.env.locals < s.heap.objs.size:=let ⟨_,hn,_⟩:=I.loc; hn.lt
theorem Inv.sz (I:Inv X pins σ H s):X.s₀.heap.objs.size <= s.heap.objs.size:=Nat.le_trans I.ok.above (Nat.le_of_lt I.lt)
theorem Inv.nofs (I:Inv X pins σ H s) {a:Addr} (h:s.heap.objs.size <= a):a ∉ X.fs:=fun hb=>by
 obtain ⟨_,o,ho,_⟩:=I.ok.funs.mem hb
 exact absurd (Nat.lt_of_lt_of_le (Heap.lt_size ho) (Nat.le_trans I.sz h)) (Nat.lt_irrefl _)
theorem Inv.cne (I:Inv X pins σ H s):∀ x c,X.env.cells.lookup x = some c -> c ≠ X.env.locals:=fun x c e z=>by
 obtain ⟨v,o,ho,hd⟩:=I.cell x c e
 obtain ⟨m,⟨o',es,ep,ho',hd',_⟩,_⟩:=I.loc
 rw [z,ho'] at ho; cases ho; rw [hd'] at hd; cases hd
theorem Inv.funs (I:Inv X pins σ H s):s.heap.FunFrames X.base X.outer:=by
 have all:∀ (l:List Env),(∀ b ∈ frs l,b ∈ X.fs) -> X.s₀.heap.FunFrames X.base l -> s.heap.FunFrames X.base l:=by
  intro l
  induction l with
  | nil=>intro _ _; trivial
  | cons env r ih =>
   intro hs hl
   obtain ⟨hk,⟨L,o,hf,hn,ho,hd⟩,hr⟩:=hl
   have hL:L ∈ X.fs:=hs L (by unfold frs; rw [List.filterMap_cons,hf]; exact List.mem_cons_self)
   obtain ⟨sl,e⟩:=I.base.slot L o ho (I.ok.frf L hL) hL fun z=>I.ok.exfs L z hL
   exact ⟨hk,⟨L,_,hf,hn,e,hd⟩,ih (fun b hb=>hs b (by unfold frs; rw [List.filterMap_cons,hf]; exact List.mem_cons_of_mem _ hb)) hr⟩
 exact all X.outer (fun _ hb=>hb) I.ok.funs
theorem Inv.stack (I:Inv X pins σ H s):s.heap.FunFrames X.base X.stack:=by
 rcases I.ok.stk with e | ⟨e,hf⟩
 ·rw [e]; exact I.funs
 ·rw [e]
  obtain ⟨m,hn,_⟩:=I.loc
  refine .cons (by rw [I.ok.kind]; decide) hf hn ?_ I.funs
  exact Heap.get?_none_of_le (Nat.le_trans I.ok.bsz I.ok.above)
theorem Inv.stkSub (I:Inv X pins σ H s):∀ b ∈ frs X.stack,b ∈ X.env.locals :: X.fs:=fun b hb=>by
 rcases I.ok.stk with e | ⟨e,hf⟩
 ·rw [e] at hb; exact List.mem_cons_of_mem _ hb
 ·rw [e] at hb
  unfold frs at hb
  rw [List.filterMap_cons,hf] at hb
  exact hb
theorem Inv.stkFree (I:Inv X pins σ H s):∀ b ∈ frs X.stack,H b = none:=fun b hb=>by
 rcases List.mem_cons.mp (I.stkSub b hb) with e | hb
 ·rw [e]; exact I.free
 ·obtain ⟨_,o,ho,_⟩:=I.ok.funs.mem hb
  exact I.base.free b o ho (I.ok.frf b hb) fun z=>I.ok.exfs b z hb
theorem Inv.step {g':Array GenState} {t':Nat} {d':Drawn} {ch:List Addr} (I:Inv X pins σ H s)
  (hch:∀ b ∈ ch,(b ∈ X.ex \/ X.s₀.heap.objs.size <= b) /\ b ≠ X.env.locals /\ (∀ x c,X.env.cells.lookup x = some c -> c ≠ b) /\ ∀ p ∈ X.pn ++ pins,p.1 ≠ b)
  (keep:∀ b o,b ≠ X.env.locals -> b ∉ X.fs -> b ∉ ch -> s.heap.get? b = some o -> H b = none -> h'.get? b = some o)
  (slot:∀ b o,b ≠ X.env.locals -> b ∈ X.fs -> b ∉ ch -> s.heap.get? b = some o -> H b = none -> ∃ sl,h'.get? b = some { o with slots:=sl }) (free:∀ b o,b ∉ ch -> s.heap.get? b = some o -> H b = none -> H' b = none)
  (there:∀ b o,b ∉ ch -> s.heap.get? b = some o -> ∃ o',h'.get? b = some o')
  (tups:∀ b xs,H b = some (.tup xs) -> H' b = some (.tup xs)) (frzs:∀ b o u,H b = some (.frz o u) -> H' b = some (.frz o u)) (tbls:∀ b ps,H b = some (.tbl ps) -> ∃ more,H' b = some (.tbl (ps ++ more)))
  (ns:∀ m,s.heap.Ns X.env.locals m -> h'.Ns X.env.locals m) (hok:HOk X.prog X.w H' h') (hg:AllBare g') :
  Inv X pins σ H' { s with heap:=h',gens:=g',drawn:=d',toks:=t' }:=by
 have neL:∀ b o,X.s₀.heap.get? b = some o -> b ≠ X.env.locals:=fun b o e=>Nat.ne_of_lt (Nat.lt_of_lt_of_le (Heap.lt_size e) I.ok.above)
 have neC:∀ b o,X.s₀.heap.get? b = some o -> b ∉ X.ex -> b ∉ ch:=fun b o e hx hb=>by
  rcases (hch b hb).1 with z | z
  ·exact hx z
  ·exact absurd (Nat.lt_of_lt_of_le (Heap.lt_size e) z) (Nat.lt_irrefl _)
 have cellK:∀ x c,X.env.cells.lookup x = some c -> ∀ v,s.heap.IsCell c v -> h'.IsCell c v:=fun x c e v ⟨o,ho,hd⟩=>by
  have nch:c ∉ ch:=fun z=>(hch c z).2.2.1 x c e rfl
  by_cases hc:c ∈ X.fs
  ·obtain ⟨sl,q⟩:=slot c o (I.cne x c e) hc nch ho (I.freeC x c e)
   exact ⟨_,q,hd⟩
  ·exact ⟨o,keep c o (I.cne x c e) hc nch ho (I.freeC x c e),hd⟩
 refine ⟨I.ok,I.os,hg,⟨fun b o e n hb hx=>?_,fun b o e n hb hx=>?_,fun b o e n hx=>?_,fun b o e hx=>?_,fun b xs e=>tups b xs (I.base.tups b xs e),fun b o xs e=>frzs b o xs (I.base.frzs b o xs e),fun b ps e=>?_⟩,?_,fun x c e=>?_,?_,fun x c e=>?_,fun p hp=>?_,hok,I.len⟩
 ·exact keep b o (neL b o e) hb (neC b o e hx) (I.base.keep b o e n hb hx) (I.base.free b o e n hx)
 ·obtain ⟨sl,e1⟩:=I.base.slot b o e n hb hx
  obtain ⟨sl',e2⟩:=slot b _ (neL b o e) hb (neC b o e hx) e1 (I.base.free b o e n hx)
  exact ⟨sl',e2⟩
 ·obtain ⟨o',e1⟩:=I.base.there b o e hx
  exact free b o' (neC b o e hx) e1 (I.base.free b o e n hx)
 ·obtain ⟨o',e1⟩:=I.base.there b o e hx
  exact there b o' (neC b o e hx) e1
 ·obtain ⟨m1,e1⟩:=I.base.tbls b ps e
  obtain ⟨m2,e2⟩:=tbls b _ e1
  exact ⟨m1 ++ m2,by rw [e2,Array.append_assoc]⟩
 ·obtain ⟨m,hn,hl⟩:=I.loc
  refine ⟨m,ns m hn,fun i x v e1 e2 e3=>?_⟩
  obtain ⟨u,r,l⟩:=hl i x v e1 e2 e3
  refine ⟨u,r,?_⟩
  rcases l with l | ⟨k,c,e,z⟩
  ·exact .inl l
  ·exact .inr ⟨k,c,e,cellK x c e _ z⟩
 ·obtain ⟨v,z⟩:=I.cell x c e
  exact ⟨v,cellK x c e v z⟩
 ·obtain ⟨m,⟨o,_,_,ho,_⟩,_⟩:=I.loc
  exact free _ o (fun z=>(hch _ z).2.1 rfl) ho I.free
 ·obtain ⟨v,o,ho,hd⟩:=I.cell x c e
  exact free c o (fun z=>(hch c z).2.2.1 x c e rfl) ho (I.freeC x c e)
 ·obtain ⟨e,n,ne,nf,d⟩:=I.pin p hp
  have nch:p.1 ∉ ch:=fun z=>(hch p.1 z).2.2.2 p hp rfl
  exact ⟨keep p.1 p.2 ne nf nch e n,free p.1 p.2 nch e n,ne,nf,d⟩
theorem Inv.un {t':Nat} (I:Inv X pins σ H s) (u:Un X.fs [] H H' s.heap h') (hok:HOk X.prog X.w H' h'):Inv X pins σ H' { s with heap:=h',toks:=t' }:=by
 obtain ⟨m,⟨o,es,ep,ho,r⟩,_⟩:=id I.loc
 obtain ⟨sl,hL⟩:=u.any ho I.free (by simp)
 exact I.step (g':=s.gens) (d':=s.drawn) (ch:=[]) (fun _ z=>nomatch z) (fun b o _ hb _ e n=>u.keep b o e n hb (by simp)) (fun b o _ hb _ e n=>u.slot b o e n hb (by simp)) (fun b o _ e n=>u.free b o e n (by simp)) (fun b o _ e=>u.there b o e (by simp)) u.tups u.frzs u.tbls (fun m' hm=>by
   obtain ⟨o',es',ep',ho',r'⟩:=hm
   rw [ho] at ho'; cases ho'
   exact ⟨_,es',ep',hL,r'⟩) hok I.bare
theorem Inv.call {g':Array GenState} {t':Nat} {d':Drawn} {ch:List Addr} (I:Inv X pins σ H s) (u:Un (frs X.stack) ch H H' s.heap h') (hok:HOk X.prog X.w H' h') (hg:AllBare g')
  (hch:∀ b ∈ ch,(b ∈ X.ex \/ X.s₀.heap.objs.size <= b) /\ b ≠ X.env.locals /\ (∀ x c,X.env.cells.lookup x = some c -> c ≠ b) /\ ∀ p ∈ X.pn ++ pins,p.1 ≠ b) :
  Inv X pins σ H' { s with heap:=h',gens:=g',drawn:=d',toks:=t' }:=by
 obtain ⟨m,⟨o,es,ep,ho,r⟩,_⟩:=id I.loc
 obtain ⟨sl,hL⟩:=u.any ho I.free fun z=>(hch _ z).2.1 rfl
 exact I.step (ch:=ch) hch (fun b o hL hb hc e n=>u.keep b o e n (fun z=>(List.mem_cons.mp (I.stkSub b z)).elim hL hb) hc) (fun b o _ _ hc e n=>u.any e n hc) (fun b o hc e n=>u.free b o e n hc) (fun b o hc e=>u.there b o e hc) u.tups u.frzs u.tbls (fun m' hm=>by
   obtain ⟨o',es',ep',ho',r'⟩:=hm
   rw [ho] at ho'; cases ho'
   exact ⟨_,es',ep',hL,r'⟩) hok hg
theorem Inv.turned {t':Nat} {it:Addr} (I:Inv X pins σ H s) (k:∀ b o,b ≠ it -> s.heap.get? b = some o -> h'.get? b = some o) (hn:H it = none) (hL:it ≠ X.env.locals)
  (h1:it ∈ X.ex \/ X.s₀.heap.objs.size <= it) (h2:∀ x c,X.env.cells.lookup x = some c -> c ≠ it) (h3:∀ p ∈ X.pn ++ pins,p.1 ≠ it):Inv X pins σ H { s with heap:=h',toks:=t' }:=by
 have nit:∀ b u,H b = some u -> b ≠ it:=fun b u e z=>by rw [z,hn] at e; cases e
 refine I.step (g':=s.gens) (d':=s.drawn) (ch:=[it]) (fun b hb=>?_) (fun b o _ _ hc e _=>k b o (fun z=>hc (by simp [z])) e) (fun b o _ _ hc e _=>⟨o.slots,k b o (fun z=>hc (by simp [z])) e⟩) (fun _ _ _ _ n=>n)
  (fun b o hc e=>⟨o,k b o (fun z=>hc (by simp [z])) e⟩) (fun _ _ e=>e) (fun _ _ _ e=>e) (fun b ps e=>⟨#[],by rw [e]; simp⟩) (fun m hm=>?_) (fun b u e=>?_) I.bare
 ·have e:b = it:=by simpa using hb
  subst e
  exact ⟨h1,hL,h2,h3⟩
 ·obtain ⟨o,es,ep,ho,r⟩:=hm
  exact ⟨o,es,ep,k _ o (Ne.symm hL) ho,r⟩
 ·refine (I.hok b u e).stay (fun c v hc q=>k c v ?_ q) (fun _ q=>q) fun _ _ q=>q
  rcases hc with z | z
  ·rw [z]; exact nit b u e
  ·exact nit c _ z
theorem Inv.tok (I:Inv X pins σ H s) (t:Nat):Inv X pins σ H { s with toks:=t }:=I.un (h':=s.heap) (t':=t) Un.refl I.hok
theorem Inv.kept {t':Nat} (I:Inv X pins σ H s) (k:∀ b u,s.heap.get? b = some u -> h'.get? b = some u):Inv X pins σ H { s with heap:=h',toks:=t' }:=I.un (Un.kept k) (I.hok.kept k)
theorem Inv.laid {a:Addr} {o:HO} {t':Nat} (I:Inv X pins σ H s) (k:∀ b u,s.heap.get? b = some u -> h'.get? b = some u) (hp:s.heap.objs.size <= a) (new:ObjOk X.prog X.w (upd H a o) h' a o) :
  Inv X pins σ (upd H a o) { s with heap:=h',toks:=t' }:=I.un (Un.laid k hp (I.hok.fresh hp)) (I.hok.laid k hp new)
theorem Inv.write {x e:Addr} {o:HO} {t':Nat} (I:Inv X pins σ H s) (mu:Mut (H x)) (he:e = x \/ H e = some (.own x)) (k:∀ b u,b ≠ e -> s.heap.get? b = some u -> h'.get? b = some u) (heo:∃ u,h'.get? e = some u)
  (new:ObjOk X.prog X.w (upd H x o) h' x o):Inv X pins σ (upd H x o) { s with heap:=h',toks:=t' }:=I.un (Un.write mu he k heo) (I.hok.write mu he k heo new)
theorem Inv.pins_of {pins':List (Addr × Obj)} (I:Inv X pins σ H s) (h:∀ p ∈ pins',s.heap.get? p.1 = some p.2 /\ H p.1 = none /\ p.1 ≠ X.env.locals /\ p.1 ∉ X.fs /\ ∀ v,p.2.data ≠ .cell v):Inv X pins' σ H s :=
 ⟨I.ok,I.os,I.bare,I.base,I.loc,I.cell,I.free,I.freeC,fun p hp=>(List.mem_append.mp hp).elim (fun z=>I.pin p (List.mem_append_left _ z)) (h p),I.hok,I.len⟩
theorem nodup_ix {N:List Str} (hN:N.Nodup) {i j:Nat} {x:Str} (a:N[i]? = some x) (b:N[j]? = some x):i = j:=by
 obtain ⟨h1,e1⟩:=List.getElem?_eq_some_iff.mp a
 obtain ⟨h2,e2⟩:=List.getElem?_eq_some_iff.mp b
 exact (List.getElem_inj hN).mp (e1.trans e2.symm)
theorem store_ok2 {M:Model} {A:Around} {E:Value -> Shared -> Prop} {i:Nat} {x:Str} {v:V} {u:Value} {Q:Unit -> Shared -> Prop} (I:Inv X pins σ H s) (hN:X.N.Nodup) (hi:X.N[i]? = some x) (hx:Loc X.env.scope x) (r:RelV v u)
  (h:∀ s',Inv X pins (σ.set i (some v)) H s' -> (∃ a,Heap.SameBut a s.heap s'.heap /\ (a = X.env.locals \/ X.env.cells.lookup x = some a)) -> Q () s') (hf:X.fn x = true \/ X.env.scope.names.lookup x = some .local:=by first | exact .inl rfl | exact .inr rfl | assumption):wpAny M A (storeName X.env x u) Q E s:=by
 obtain ⟨m,hn,hl⟩:=id I.loc
 have hcls:(X.env.scope.kind == .class || (X.env.scope.kind == .module && X.env.locals != X.env.globals)) = false:=by rw [I.ok.kind]; rfl
 have hiσ:i < σ.length:=by rw [I.len]; exact (List.getElem?_eq_some_iff.mp hi).1
 have cne:=I.cne
 have tracked:∀ {a:Addr} {h':Heap},(∃ o,s.heap.get? a = some o /\ H a = none) -> Heap.SameBut a s.heap h' -> HOk X.prog X.w H h':=fun {a h'} ha hs b ob e=>by
  obtain ⟨_,_,hfree⟩:=ha
  refine (I.hok b ob e).stay (fun c w' hc q=>(hs.2 c ?_).trans q) (fun _ q=>q) fun _ _ q=>q
  rintro rfl
  rcases hc with rfl | hc
  ·rw [hfree] at e; cases e
  ·rw [hfree] at hc; cases hc
 rcases hx with hk | hk
 ·refine wpAny_storeName_local hk hn (fun h' hn' hs=>?_) hcls
  obtain ⟨oL,_,_,hoL,_⟩:=id hn
  refine h _ ⟨I.ok,I.os,I.bare,⟨fun b o e n hb hx=>?_,fun b o e n hb hx=>?_,I.base.free,fun b o e hx=>?_,I.base.tups,I.base.frzs,I.base.tbls⟩,⟨_,hn',fun j y v' e1 e2 e3=>?_⟩,fun y c e=>?_,I.free,I.freeC,fun p hp=>?_,tracked ⟨oL,hoL,I.free⟩ hs,by simpa using I.len⟩ ⟨_,hs,.inl rfl⟩
  ·exact (hs.2 b (Nat.ne_of_lt (Nat.lt_of_lt_of_le (Heap.lt_size e) I.ok.above))).trans (I.base.keep b o e n hb hx)
  ·obtain ⟨sl,e1⟩:=I.base.slot b o e n hb hx
   exact ⟨sl,(hs.2 b (Nat.ne_of_lt (Nat.lt_of_lt_of_le (Heap.lt_size e) I.ok.above))).trans e1⟩
  ·obtain ⟨o',e1⟩:=I.base.there b o e hx
   exact ⟨o',(hs.2 b (Nat.ne_of_lt (Nat.lt_of_lt_of_le (Heap.lt_size e) I.ok.above))).trans e1⟩
  ·by_cases hj:j = i
   ·subst hj
    rw [hi] at e1; cases e1
    rw [List.getElem?_set_self hiσ] at e2
    cases e2
    exact ⟨u,r,.inl ⟨hk,by simp⟩⟩
   ·rw [List.getElem?_set_ne (Ne.symm hj)] at e2
    obtain ⟨u',r',q⟩:=hl j y v' e1 e2 e3
    refine ⟨u',r',?_⟩
    rcases q with ⟨k,e⟩ | ⟨k,c,e,z⟩
    ·refine .inl ⟨k,?_⟩
     have:y ≠ x:=fun e=>hj (nodup_ix hN e1 (e ▸ hi))
     simp [this,e]
    ·exact .inr ⟨k,c,e,z.sameBut hs (cne y c e)⟩
  ·obtain ⟨w',z⟩:=I.cell y c e
   exact ⟨w',z.sameBut hs (cne y c e)⟩
  ·obtain ⟨e,n,ne,nf,d⟩:=I.pin p hp
   exact ⟨(hs.2 p.1 ne).trans e,n,ne,nf,d⟩
 ·have hfn:X.fn x = true:=by
   rcases hf with z | z
   ·exact z
   ·rw [z] at hk; cases hk
  obtain ⟨c,hc⟩:=I.ok.has x (.inl hk)
  obtain ⟨w',z⟩:=I.cell x c hc
  refine wpAny_storeName_cell I.ok.kind hk hc z (fun h' hc' hs=>?_)
  obtain ⟨oc,hoc,hocd⟩:=id z
  refine h { s with heap:=h' } ⟨I.ok,I.os,I.bare,⟨fun b o e n hb hx=>?_,fun b o e n hb hx=>?_,I.base.free,fun b o e hx=>?_,I.base.tups,I.base.frzs,I.base.tbls⟩,⟨m,hn.sameBut hs (Ne.symm (cne x c hc)),fun j y v' e1 e2 e3=>?_⟩,fun y c' e=>?_,I.free,I.freeC,fun p hp=>?_,tracked ⟨oc,hoc,I.freeC x c hc⟩ hs,by simpa using I.len⟩ ⟨c,hs,.inr hc⟩
  ·exact (hs.2 b (Nat.ne_of_lt (Nat.lt_of_lt_of_le (Heap.lt_size e) (I.ok.cab x c hfn hc)))).trans (I.base.keep b o e n hb hx)
  ·obtain ⟨sl,e1⟩:=I.base.slot b o e n hb hx
   exact ⟨sl,(hs.2 b (Nat.ne_of_lt (Nat.lt_of_lt_of_le (Heap.lt_size e) (I.ok.cab x c hfn hc)))).trans e1⟩
  ·obtain ⟨o',e1⟩:=I.base.there b o e hx
   exact ⟨o',(hs.2 b (Nat.ne_of_lt (Nat.lt_of_lt_of_le (Heap.lt_size e) (I.ok.cab x c hfn hc)))).trans e1⟩
  ·by_cases hj:j = i
   ·subst hj
    rw [hi] at e1; cases e1
    rw [List.getElem?_set_self hiσ] at e2
    cases e2
    exact ⟨u,r,.inr ⟨.inl hk,c,hc,hc'⟩⟩
   ·rw [List.getElem?_set_ne (Ne.symm hj)] at e2
    obtain ⟨u',r',q⟩:=hl j y v' e1 e2 e3
    refine ⟨u',r',?_⟩
    rcases q with q | ⟨k,c',e,z'⟩
    ·exact .inl q
    ·refine .inr ⟨k,c',e,z'.sameBut hs ?_⟩
     rintro rfl
     exact hj (nodup_ix hN e1 (I.ok.inj _ _ _ e hc ▸ hi))
  ·by_cases hcc:c' = c
   ·subst hcc; exact ⟨_,hc'⟩
   ·obtain ⟨w2,z2⟩:=I.cell y c' e
    exact ⟨w2,z2.sameBut hs hcc⟩
  ·obtain ⟨e,n,ne,nf,d⟩:=I.pin p hp
   refine ⟨(hs.2 p.1 ?_).trans e,n,ne,nf,d⟩
   intro q
   rw [q,hoc] at e
   have q':oc = p.2:=Option.some.inj e
   exact d w' (by rw [<- q']; exact hocd)
theorem store_ok {M:Model} {A:Around} {E:Value -> Shared -> Prop} {i:Nat} {x:Str} {v:V} {u:Value} {Q:Unit -> Shared -> Prop} (I:Inv X pins σ H s) (hN:X.N.Nodup) (hi:X.N[i]? = some x) (hx:Loc X.env.scope x) (r:RelV v u)
  (h:∀ s',Inv X pins (σ.set i (some v)) H s' -> Q () s') (hf:X.fn x = true \/ X.env.scope.names.lookup x = some .local:=by first | exact .inl rfl | exact .inr rfl | assumption):wpAny M A (storeName X.env x u) Q E s :=
 store_ok2 I hN hi hx r (fun s' I' _=>h s' I') hf
theorem Inv.call' {s':Shared} {ch:List Addr} (I:Inv X pins σ H s) (ho:s'.os = s.os) (u:Un (frs X.stack) ch H H' s.heap s'.heap) (hok:HOk X.prog X.w H' s'.heap) (hg:AllBare s'.gens)
  (hch:∀ b ∈ ch,(b ∈ X.ex \/ X.s₀.heap.objs.size <= b) /\ b ≠ X.env.locals /\ (∀ x c,X.env.cells.lookup x = some c -> c ≠ b) /\ ∀ p ∈ X.pn ++ pins,p.1 ≠ b):Inv X pins σ H' s':=by
 obtain ⟨h',g',d',t',o'⟩:=s'
 have e:o' = s.os:=ho
 subst e
 exact I.call (g':=g') (t':=t') (d':=d') u hok hg hch
end
noncomputable abbrev XK:=Value -> Option Addr -> Hp -> Prop
noncomputable abbrev St:=List (Option V)
noncomputable abbrev VK:=V -> Hp -> Prop
noncomputable abbrev TE:=St -> Hp -> VK -> Prop
noncomputable abbrev TT:=St -> Hp -> (Bool -> Hp -> Prop) -> Prop
noncomputable abbrev TA:=St -> Hp -> (List V -> Hp -> Prop) -> Prop
structure Ends where
 nx:St -> Hp -> Prop
 rt:VK
 bk:St -> Hp -> Prop:=fun _ _=>False
 ct:St -> Hp -> Prop:=fun _ _=>False
noncomputable abbrev TS:=Ends -> St -> Hp -> Prop
noncomputable def EP (X:Cx) (pins:List (Addr × Obj)) (σ:St) (Q:VK) (u:Value) (s':Shared):Prop:=∃ v H',Inv X pins σ H' s' /\ RelV v u /\ Q v H'
noncomputable def TP (X:Cx) (pins:List (Addr × Obj)) (σ:St) (Q:Bool -> Hp -> Prop) (b:Bool) (s':Shared):Prop:=∃ H',Inv X pins σ H' s' /\ Q b H'
noncomputable def AP (X:Cx) (pins:List (Addr × Obj)) (σ:St) (Q:List V -> Hp -> Prop) (us:List Value) (s':Shared):Prop:=∃ vs H',Inv X pins σ H' s' /\ Vals vs us /\ Q vs H'
noncomputable def SP (X:Cx) (pins:List (Addr × Obj)) (D:Ends) (f:Flow) (s':Shared):Prop :=
 match f with
 | .next=>∃ σ' H',Inv X pins σ' H' s' /\ D.nx σ' H'
 | .brk=>∃ σ' H',Inv X pins σ' H' s' /\ D.bk σ' H'
 | .cont=>∃ σ' H',Inv X pins σ' H' s' /\ D.ct σ' H'
 | .ret u=>∃ v σ' H',Inv X pins σ' H' s' /\ RelV v u /\ D.rt v H'
noncomputable def PE (X:Cx) (e:Expr) (t:TE):Prop :=
 ∀ (pins:List (Addr × Obj)) (s:Shared) (σ:St) (H:Hp) (Q:VK),Inv X pins σ H s -> t σ H Q -> wpAny (model X.prog X.w) X.A (eval e X.env) (EP X pins σ Q) X.xe s
noncomputable def PT (X:Cx) (e:Expr) (t:TT):Prop :=
 ∀ (pins:List (Addr × Obj)) (s:Shared) (σ:St) (H:Hp) (Q:Bool -> Hp -> Prop),Inv X pins σ H s -> t σ H Q -> wpAny (model X.prog X.w) X.A (isTrue e X.env (eval e X.env)) (TP X pins σ Q) X.xe s
noncomputable def PW (X:Cx) (e:Expr) (t:TT):Prop :=
 ∀ (whole:Sem Value) (pins:List (Addr × Obj)) (s:Shared) (σ:St) (H:Hp) (Q:Bool -> Hp -> Prop),Inv X pins σ H s -> t σ H Q -> wpAny (model X.prog X.w) X.A (isTrue e X.env whole) (TP X pins σ Q) X.xe s
theorem PW.pt {X:Cx} {e:Expr} {t:TT} (h:PW X e t):PT X e t:=h _
noncomputable def PA (X:Cx) (es:List Expr) (t:TA):Prop :=
 ∀ (pos:Pos) (pins:List (Addr × Obj)) (s:Shared) (σ:St) (H:Hp) (Q:List V -> Hp -> Prop),Inv X pins σ H s -> t σ H Q -> wpAny (model X.prog X.w) X.A (spliced (backTo pos (starEach es X.env))) (AP X pins σ Q) X.xe s
noncomputable def PS (X:Cx) (st:Stmt) (t:TS):Prop :=
 ∀ (pins:List (Addr × Obj)) (s:Shared) (σ:St) (H:Hp) (D:Ends),Inv X pins σ H s -> t D σ H -> wpAny (model X.prog X.w) X.A (exec st X.env) (SP X pins D) X.xe s
noncomputable def PSs (X:Cx) (st:List Stmt) (t:TS):Prop :=
 ∀ (pins:List (Addr × Obj)) (s:Shared) (σ:St) (H:Hp) (D:Ends),Inv X pins σ H s -> t D σ H -> wpAny (model X.prog X.w) X.A (execs st X.env) (SP X pins D) X.xe s
theorem thn {α:Type} {t:Sem α} {Q Q':α -> Shared -> Prop} {M:Model} {A:Around} {E:Value -> Shared -> Prop} {s:Shared} (h:wpAny M A t Q E s) (hQ:∀ a s,Q a s -> Q' a s):wpAny M A t Q' E s:=wpAny_mono h hQ fun _ _ x=>x
end L2
namespace L2
open PySem PySem.Spec PyProof.Rows
section
variable {X:Cx}
noncomputable def tVar (i:Nat):TE:=fun σ H Q=>∃ v,σ[i]? = some (some v) /\ Q v H
noncomputable def tC (v:V):TE:=fun _ H Q=>Q v H
theorem pe_var {i:Nat} {x:Str} {pos:Pos} (hN:X.N[i]? = some x) (hv:Vis X.env.scope x) (hd:(x == ("__debug__":Str)) = false:=by decide) (hcd:(x == ("__classdict__":Str)) = false:=by decide):PE X (.Name x pos) (tVar i):=by
 intro pins s σ H Q I h
 obtain ⟨v,e,h⟩:=h
 obtain ⟨m,hn,hl⟩:=I.loc
 obtain ⟨u,r,l⟩:=hl i x v hN e hv
 have fin:EP X pins σ Q u s:=⟨v,H,I,r,h⟩
 rcases l with ⟨hk,hm⟩ | ⟨hk,c,hc,hcell⟩
 ·exact wpAny_Name (wpAny_loadName_local I.ok.kind hk hn hm fin) hd
 ·rcases hk with hk | hk
  ·exact wpAny_Name (wpAny_loadName_cell I.ok.kind hk hc hcell fin) hd
  ·exact wpAny_Name (wpAny_loadName_free I.ok.kind hk hc hcell fin hcd) hd
theorem pe_int {i j pos}:PE X (.Constant (.int i) j pos) (tC (.int i)):=fun _ _ _ H _ I h=>wpAny_Constant_int ⟨.int i,H,I.tok _,⟨_,rfl⟩,h⟩
theorem pe_bl {b j pos}:PE X (.Constant (.bool b) j pos) (tC (.bl b)):=fun _ _ _ H _ I h=>Constant_bool ⟨.bl b,H,I,rfl,h⟩
theorem pe_non {j pos}:PE X (.Constant .none j pos) (tC .non):=fun _ _ _ H _ I h=>Constant_none ⟨.non,H,I,rfl,h⟩
theorem pe_str {x j pos}:PE X (.Constant (.str x) j pos) (tC (.str x)):=fun _ _ _ H _ I h=>Calls.Constant_str ⟨.str x,H,I.tok _,⟨_,rfl⟩,h⟩
noncomputable def Gl (X:Cx) (x:Str):Prop:=X.env.kindOf x = some .globalImplicit
theorem ld_glob {E:Value -> Shared -> Prop} {pins:List (Addr × Obj)} {s:Shared} {σ:St} {H:Hp} {x:Str} {u:Value} {pos:Pos} {Q:Value -> Shared -> Prop} (I:Inv X pins σ H s) (hg:Gl X x) (hm:X.mg x = some u) (h:Q u s)
  (hd:(x == ("__debug__":Str)) = false:=by decide):wpAny (model X.prog X.w) X.A (eval (.Name x pos) X.env) Q E s :=
 Calls.Name_function_global I.ok.kind hg (Calls.loadGlobal_global (by rw [I.ok.glob]; exact I.mod.glob.keeps I.bk) hm h) hd
theorem ld_blt {E:Value -> Shared -> Prop} {pins:List (Addr × Obj)} {s:Shared} {σ:St} {H:Hp} {x:Str} {u:Value} {pos:Pos} {Q:Value -> Shared -> Prop} (I:Inv X pins σ H s) (hg:Gl X x) (hm:X.mg x = none) (hv:bootBuiltins x = some u) (h:Q u s)
  (hn:x ≠ "__name__":=by decide) (hd:(x == ("__debug__":Str)) = false:=by decide):wpAny (model X.prog X.w) X.A (eval (.Name x pos) X.env) Q E s:=by
 obtain ⟨mb,h1,h2⟩:=I.mod.blt
 exact Calls.Name_function_global I.ok.kind hg (Calls.loadGlobal_builtin (by rw [I.ok.glob]; exact I.mod.glob.keeps I.bk) hm (by rw [I.ok.blt]; exact h1.keeps I.bk) ((h2 x hn).trans hv) h) hd
theorem pe_bltn {x:Str} {v:V} {u:Value} {pos:Pos} (hg:Gl X x) (hm:X.mg x = none) (hv:bootBuiltins x = some u) (r:RelV v u) (hn:x ≠ "__name__":=by decide) (hd:(x == ("__debug__":Str)) = false:=by decide):PE X (.Name x pos) (tC v) :=
 fun _ _ _ H _ I h=>ld_blt I hg hm hv ⟨v,H,I,r,h⟩ hn hd
variable {a b:Expr} {ta tb:TE} {pos:Pos}
noncomputable def tB (t:TE):TT:=fun σ H Q=>t σ H fun x H1=>∃ c,x = .bl c /\ Q c H1
theorem pt_val {e:Expr} {t:TE} (h:PE X e t) (he:∀ whole,isTrue e X.env whole = (do let v <- whole; standAt e.pos; holding [v] (truthy v)):=by intro _; rfl):PT X e (tB t):=by
 intro pins s σ H Q I hw
 refine isTrue_plain (thn (h pins s σ H _ I hw) fun v s1 ⟨x,H1,I1,r1,q1⟩=>?_) (he _)
 obtain ⟨d,rfl,q⟩:=q1
 cases r1
 exact wpAny_truthy_bool ⟨H1,I1,q⟩
variable {tA tB':TT} {rest:List Expr}
noncomputable def tAnd (t u:TT):TT:=fun σ H Q=>t σ H fun c H1=>if c = true then u σ H1 Q else Q false H1
noncomputable def tOr (t u:TT):TT:=fun σ H Q=>t σ H fun c H1=>if c = true then Q true H1 else u σ H1 Q
noncomputable def tNot (t:TT):TT:=fun σ H Q=>t σ H fun c H1=>Q (!c) H1
theorem pw_and1 (ha:PT X a tA):PW X (.BoolOp .And [a] pos) tA:=by
 intro wh pins s σ H Q I h
 refine isTrue_and (thn (ha pins s σ H Q I h) fun c s1 e=>?_)
 cases c with
 | true=>exact isTrue_and_nil e
 | false=>exact e
theorem pw_or1 (ha:PT X a tA):PW X (.BoolOp .Or [a] pos) tA:=by
 intro wh pins s σ H Q I h
 refine isTrue_or (thn (ha pins s σ H Q I h) fun c s1 e=>?_)
 cases c with
 | false=>exact isTrue_or_nil e
 | true=>exact e
theorem pw_and (ha:PT X a tA) (hb:PW X (.BoolOp .And (b :: rest) pos) tB'):PW X (.BoolOp .And (a :: b :: rest) pos) (tAnd tA tB'):=by
 intro wh pins s σ H Q I h
 refine isTrue_and (thn (ha pins s σ H _ I h) fun c s1 ⟨H1,I1,q1⟩=>?_)
 cases c with
 | true=>exact hb wh pins s1 σ H1 Q I1 q1
 | false=>exact ⟨H1,I1,q1⟩
theorem pw_or (ha:PT X a tA) (hb:PW X (.BoolOp .Or (b :: rest) pos) tB'):PW X (.BoolOp .Or (a :: b :: rest) pos) (tOr tA tB'):=by
 intro wh pins s σ H Q I h
 refine isTrue_or (thn (ha pins s σ H _ I h) fun c s1 ⟨H1,I1,q1⟩=>?_)
 cases c with
 | true=>exact ⟨H1,I1,q1⟩
 | false=>exact hb wh pins s1 σ H1 Q I1 q1
theorem pt_not (ha:PT X a tA):PT X (.UnaryOp .Not a pos) (tNot tA):=by
 intro pins s σ H Q I h
 exact isTrue_not (ha pins s σ H (fun c H1=>Q (!c) H1) I h)
noncomputable def tAndV (ta tb:TE):TE:=fun σ H Q=>ta σ H fun x H1=>∃ c,x = .bl c /\ if c = true then tb σ H1 Q else Q (.bl false) H1
noncomputable def tNotV (ta:TE):TE:=fun σ H Q=>ta σ H fun x H1=>∃ c,x = .bl c /\ Q (.bl (!c)) H1
theorem pe_one {op} {t:TE} (h:PE X a t):PE X (.BoolOp op [a] pos) t:=fun pins s σ H Q I hw=>BoolOp_one (h pins s σ H Q I hw)
theorem pe_and (ha:PE X a ta) (hb:PE X (.BoolOp .And (b :: rest) pos) tb):PE X (.BoolOp .And (a :: b :: rest) pos) (tAndV ta tb):=by
 intro pins s σ H Q I h
 refine BoolOp_and (thn (ha pins s σ H _ I h) fun v s1 ⟨x,H1,I1,r1,q1⟩=>?_)
 obtain ⟨c,rfl,q1⟩:=q1
 cases r1
 refine wpAny_truthy_bool ?_
 cases c with
 | true=>exact hb pins s1 σ H1 Q I1 q1
 | false=>exact ⟨.bl false,H1,I1,rfl,q1⟩
theorem pe_not (ha:PE X a ta):PE X (.UnaryOp .Not a pos) (tNotV ta):=by
 intro pins s σ H Q I h
 refine UnaryOp_ (thn (ha pins s σ H _ I h) fun v s1 ⟨x,H1,I1,r1,q1⟩=>?_)
 obtain ⟨c,rfl,q1⟩:=q1
 cases r1
 exact not_of (wpAny_truthy_bool ⟨.bl (!c),H1,I1,rfl,q1⟩)
end
end L2
namespace L2
open PySem PySem.Spec PyProof.Rows
noncomputable def SqL (K:PySem.W.Frag) (H:Hp) (a:Addr) (xs:List V):Prop :=
 Rd H a (.lst xs) \/
  ∃ (o:Obj) (its:Array Value) (n:Nat),K.lookup a = some o /\ o.cls = .type "list" /\ o.dict = none /\ o.data = .seq its n /\ its.size <= sizeLine /\ Vals xs its.toList
noncomputable def SqT (K:PySem.W.Frag) (H:Hp) (a:Addr) (xs:List V):Prop :=
 Rd H a (.tup xs) \/
  ∃ (o:Obj) (its:Array Value) (n:Nat),K.lookup a = some o /\ o.cls = .type "tuple" /\ o.data = .seq its n /\ its.size <= sizeLine /\ Vals xs its.toList
noncomputable def absV:Value -> Option V
 | .none=>some .non
 | .bool b=>some (.bl b)
 | .int i _=>some (.int i)
 | .str x _=>some (.str x)
 | .bytes b _=>some (.byt b)
 | .float b _=>some (.flt b)
 | .ref a=>some (.ref a)
 | .type n=>some (.ty n)
 | _=>none
theorem RelV.abs {x:V} {u:Value} (r:RelV x u):absV u = some x:=by
 cases x with
 | non=>cases r; rfl
 | bl _=>cases r; rfl
 | int _=>obtain ⟨t,rfl⟩:=r; rfl
 | str _=>obtain ⟨t,rfl⟩:=r; rfl
 | byt _=>obtain ⟨t,rfl⟩:=r; rfl
 | flt _=>obtain ⟨t,rfl⟩:=r; rfl
 | ref _=>cases r; rfl
 | ty _=>cases r; rfl
theorem RelV.inj {x y:V} {u:Value} (r:RelV x u) (q:RelV y u):x = y:=Option.some.inj (r.abs.symm.trans q.abs)
theorem Vals.inj:∀ {xs ys:List V} {us:List Value},Vals xs us -> Vals ys us -> xs = ys
 | _,_,_,.nil,.nil=>rfl
 | _,_,_,.cons r t,.cons r' t'=>by rw [r.inj r',Vals.inj t t']
section
variable {X:Cx} {pins:List (Addr × Obj)} {σ:St} {H:Hp} {s:Shared} {a:Addr} {xs ys:List V}
theorem SqL.of {K:PySem.W.Frag} (h:H a = some (.lst xs)):SqL K H a xs:=.inl (.inl h)
theorem SqT.of {K:PySem.W.Frag} (h:H a = some (.tup xs)):SqT K H a xs:=.inl (.inl h)
theorem Inv.list (I:Inv X pins σ H s) (h:SqL X.K H a xs):∃ its:List Value,Vals xs its /\ PlainL s.heap a its.toArray /\ xs.length <= sizeLine:=by
 rcases h with h | ⟨o,its,n,hk,hc,hd,hs,hz,r⟩
 ·obtain ⟨z,its,n,r,e⟩:=h.ok I.hok
  exact ⟨its,r,⟨_,n,e,rfl,rfl,rfl⟩,z⟩
 ·refine ⟨its.toList,r,⟨o,n,I.kIn a o hk,hc,hd,by simpa using hs⟩,?_⟩
  have e:=r.length
  simp only [Array.length_toList] at e
  omega
theorem Inv.tuple (I:Inv X pins σ H s) (h:SqT X.K H a xs):∃ its:List Value,Vals xs its /\ IsTup s.heap a its.toArray /\ xs.length <= sizeLine:=by
 rcases h with h | ⟨o,its,n,hk,hc,hs,hz,r⟩
 ·obtain ⟨z,its,r,p⟩:=h.ok I.hok
  exact ⟨its,r,p.t,z⟩
 ·refine ⟨its.toList,r,⟨o,I.kIn a o hk,hc,n,by simpa using hs⟩,?_⟩
  have e:=r.length
  simp only [Array.length_toList] at e
  omega
theorem Inv.list_inj (I:Inv X pins σ H s) (h:SqL X.K H a xs) (h':SqL X.K H a ys):xs = ys:=by
 obtain ⟨its,r,⟨o,n,e,_,_,d⟩,_⟩:=I.list h
 obtain ⟨its',r',⟨o',n',e',_,_,d'⟩,_⟩:=I.list h'
 rw [e] at e'; cases e'
 rw [d] at d'
 injection d' with d1 _
 have:its = its':=by simpa using congrArg Array.toList d1
 subst this
 exact r.inj r'
theorem Inv.tuple_inj (I:Inv X pins σ H s) (h:SqT X.K H a xs) (h':SqT X.K H a ys):xs = ys:=by
 obtain ⟨its,r,⟨o,e,_,n,d⟩,_⟩:=I.tuple h
 obtain ⟨its',r',⟨o',e',_,n',d'⟩,_⟩:=I.tuple h'
 rw [e] at e'; cases e'
 rw [d] at d'
 injection d' with d1 _
 have:its = its':=by simpa using congrArg Array.toList d1
 subst this
 exact r.inj r'
end
noncomputable abbrev Cx.wish (X:Cx) (E:Value -> Shared -> Prop):Cx:={ X with xe:=E }
noncomputable abbrev Cx.nox (X:Cx):Cx:=X.wish fun _ _=>False
theorem Cx.Ok.wish {X:Cx} (ok:X.Ok) (E:Value -> Shared -> Prop):(X.wish E).Ok :=
 ⟨ok.mod,ok.kind,ok.glob,ok.blt,ok.above,ok.inj,ok.has,ok.cab,ok.hd,ok.frames,ok.stk,ok.exf,ok.bs,ok.bsz,ok.noex,ok.exfs,ok.funs,ok.frf⟩
theorem Cx.Ok.unwish {X:Cx} {E:Value -> Shared -> Prop} (ok:(X.wish E).Ok):X.Ok :=
 ⟨ok.mod,ok.kind,ok.glob,ok.blt,ok.above,ok.inj,ok.has,ok.cab,ok.hd,ok.frames,ok.stk,ok.exf,ok.bs,ok.bsz,ok.noex,ok.exfs,ok.funs,ok.frf⟩
section
variable {X:Cx} {pins:List (Addr × Obj)} {σ:St} {H:Hp} {s:Shared} {E:Value -> Shared -> Prop}
theorem Inv.wish (I:Inv X pins σ H s) (E:Value -> Shared -> Prop):Inv (X.wish E) pins σ H s:=⟨I.ok.wish E,I.os,I.bare,I.base,I.loc,I.cell,I.free,I.freeC,I.pin,I.hok,I.len⟩
theorem Inv.unwish (I:Inv (X.wish E) pins σ H s):Inv X pins σ H s:=⟨I.ok.unwish,I.os,I.bare,I.base,I.loc,I.cell,I.free,I.freeC,I.pin,I.hok,I.len⟩
theorem SP.unwish {D:Ends} {f:Flow} {s':Shared} (h:SP (X.wish E) pins D f s'):SP X pins D f s':=by
 cases f with
 | next=>obtain ⟨σ',H',I,q⟩:=h; exact ⟨σ',H',I.unwish,q⟩
 | brk=>obtain ⟨σ',H',I,q⟩:=h; exact ⟨σ',H',I.unwish,q⟩
 | cont=>obtain ⟨σ',H',I,q⟩:=h; exact ⟨σ',H',I.unwish,q⟩
 | ret u=>obtain ⟨v,σ',H',I,r,q⟩:=h; exact ⟨v,σ',H',I.unwish,r,q⟩
theorem PSs.nox {st:List Stmt} {t:TS} (h:PSs X.nox st t):PSs X st t:=fun pins s σ H D I hw =>
 wpAny_mono (h pins s σ H D (I.wish _) hw) (fun _ _ q=>q.unwish) fun _ _ z=>False.elim z
end
section
variable {X:Cx} {st:Stmt} {rest:List Stmt} {t u:TS} {e:Expr} {te:TE} {pos:Pos}
noncomputable def tNext:TS:=fun D σ H=>D.nx σ H
noncomputable def tSeq (t u:TS):TS:=fun D σ H=>t { D with nx:=u D } σ H
theorem pss_nil:PSs X [] tNext:=fun _ _ σ H _ I h=>wpAny_execs_nil ⟨σ,H,I,h⟩
theorem pss_cons (h1:PS X st t) (h2:PSs X rest u):PSs X (st :: rest) (tSeq t u):=by
 intro pins s σ H D I h
 refine wpAny_execs_cons (thn (h1 pins s σ H { D with nx:=u D } I h) fun f s1 q=>?_)
 cases f with
 | next =>
  obtain ⟨σ',H',I',q⟩:=q
  exact h2 pins s1 σ' H' D I' q
 | ret v=>exact q
 | brk=>exact q
 | cont=>exact q
theorem pss_one (h1:PS X st t):PSs X [st] t:=by
 intro pins s σ H D I h
 refine wpAny_execs_cons (thn (h1 pins s σ H D I h) fun f s1 q=>?_)
 cases f with
 | next=>exact wpAny_execs_nil q
 | ret v=>exact q
 | brk=>exact q
 | cont=>exact q
theorem Inv.quiet {pins:List (Addr × Obj)} {σ:St} {H:Hp} {s:Shared} (I:Inv X pins σ H s):interactive X.env = false:=by simp [interactive,I.ok.kind]
noncomputable def tDrop (te:TE):TS:=fun D σ H=>te σ H fun _ H1=>D.nx σ H1
theorem ps_expr (he:PE X e te) (hs:swapsWith e none pos.line X.env = pure false:=by rfl):PS X (.Expr e pos) (tDrop te):=by
 intro pins s σ H D I h
 exact wpAny_Expr_any (thn (he pins s σ H _ I h) fun v s1 ⟨x,H1,I1,r1,q1⟩=>⟨σ,H1,I1,q1⟩) I.quiet hs
noncomputable def tRet (te:TE):TS:=fun D σ H=>te σ H D.rt
theorem ps_ret (he:PE X e te):PS X (.Return (some e) pos) (tRet te):=by
 intro pins s σ H D I h
 exact wpAny_Return_some (thn (he pins s σ H _ I h) fun v s1 ⟨x,H1,I1,r1,q1⟩=>⟨x,σ,H1,I1,r1,q1⟩)
noncomputable def tIfS (c:TT) (t u:TS):TS:=fun D σ H=>c σ H fun b H1=>if b = true then t D σ H1 else u D σ H1
theorem ps_if {c:Expr} {a b:List Stmt} {tc:TT} (hc:PT X c tc) (ha:PSs X a t) (hb:PSs X b u):PS X (.If c a b pos) (tIfS tc t u):=by
 intro pins s σ H D I h
 refine wpAny_If (thn (hc pins s σ H _ I h) fun d s1 ⟨H1,I1,q1⟩=>?_)
 cases d with
 | true=>exact ha pins s1 σ H1 D I1 q1
 | false=>exact hb pins s1 σ H1 D I1 q1
end
noncomputable abbrev TG:=V -> St -> Hp -> (St -> Hp -> Prop) -> Prop
noncomputable abbrev TGs:=List V -> St -> Hp -> (St -> Hp -> Prop) -> Prop
noncomputable def PG (X:Cx) (target:Expr) (t:TG):Prop :=
 ∀ (pins:List (Addr × Obj)) (s:Shared) (σ:St) (H:Hp) (v:V) (u:Value) (Q:St -> Hp -> Prop),Inv X pins σ H s -> RelV v u -> t v σ H Q ->
  wpAny (model X.prog X.w) X.A (assign target X.env u) (fun _ s'=>∃ σ' H',Inv X pins σ' H' s' /\ Q σ' H') X.xe s
noncomputable def PGs (X:Cx) (ts:List Expr) (t:TGs):Prop :=
 ∀ (pins:List (Addr × Obj)) (s:Shared) (σ:St) (H:Hp) (vs:List V) (us:List Value) (Q:St -> Hp -> Prop),Inv X pins σ H s -> Vals vs us -> t vs σ H Q ->
  wpAny (model X.prog X.w) X.A (assignInOrder ((assignEach ts X.env).map (·.2)) us) (fun _ s'=>∃ σ' H',Inv X pins σ' H' s' /\ Q σ' H') X.xe s
noncomputable abbrev TSet:=V -> V -> V -> Hp -> (Hp -> Prop) -> Prop
noncomputable def PSet (X:Cx) (t:TSet):Prop :=
 ∀ (pins:List (Addr × Obj)) (s:Shared) (σ:St) (H:Hp) (o i v:V) (ov iv u:Value) (Q:Hp -> Prop),Inv X pins σ H s -> RelV o ov -> RelV i iv -> RelV v u -> t o i v H Q ->
  wpAny (model X.prog X.w) X.A (setItem ov iv u) (fun _ s'=>∃ H',Inv X pins σ H' s' /\ Q H') X.xe s
section
variable {X:Cx} {pos:Pos}
noncomputable def gName (i:Nat):TG:=fun v σ H Q=>Q (σ.set i (some v)) H
theorem pg_name {i:Nat} {x:Str} (hN:X.N.Nodup) (hi:X.N[i]? = some x) (hx:Loc X.env.scope x) (hf:X.fn x = true \/ X.env.scope.names.lookup x = some .local:=by first | exact .inl rfl | exact .inr rfl | assumption):PG X (.Name x pos) (gName i):=by
 intro pins s σ H v u Q I r h
 exact wpAny_assign_Name (store_ok I hN hi hx r (fun s' I'=>⟨_,H,I',h⟩) hf)
noncomputable def gNil:TGs:=fun vs σ H Q=>vs = [] /\ Q σ H
noncomputable def gCons (t:TG) (u:TGs):TGs:=fun vs σ H Q=>∃ v r,vs = v :: r /\ t v σ H fun σ' H'=>u r σ' H' Q
theorem pgs_nil:PGs X [] gNil:=by
 intro pins s σ H vs us Q I r h
 obtain ⟨e,h⟩:=h
 subst e
 cases r
 exact assignInOrder_nil ⟨σ,H,I,h⟩
theorem pgs_cons {e:Expr} {es:List Expr} {t:TG} {u:TGs} (h1:PG X e t) (h2:PGs X es u)
  (hs:(assignEach (e :: es) X.env).map (·.2) = assign e X.env :: (assignEach es X.env).map (·.2):=by rfl):PGs X (e :: es) (gCons t u):=by
 intro pins s σ H vs us Q I r h
 obtain ⟨v,vr,e1,h⟩:=h
 subst e1
 cases r with
 | cons r rr =>
  rw [hs]
  refine assignInOrder_cons (thn (h1 pins s σ H _ _ _ I r h) fun _ s1 ⟨σ1,H1,I1,q1⟩=>?_)
  exact h2 pins s1 σ1 H1 _ _ Q I1 rr q1
noncomputable def gTup (K:PySem.W.Frag) (n:Nat) (t:TGs):TG:=fun v σ H Q=>∃ a xs,v = .ref a /\ SqT K H a xs /\ xs.length = n /\ t xs σ H Q
theorem pg_tup {es:List Expr} {k:Nat} {t:TGs} {n:Nat} (hc:X.calm = true) (h:PGs X es t)
  (hn:(assignEach es X.env).length = n:=by rfl) (hst:(assignEach es X.env).findIdx? (·.1) = none:=by rfl):PG X (.Tuple es k pos) (gTup X.K n t):=by
 intro pins s σ H v u Q I r hw
 obtain ⟨a,xs,e1,hq,hl,hw⟩:=hw
 subst e1
 cases r
 obtain ⟨its,rv,ht,hz⟩:=I.tuple hq
 refine assign_Tuple_tuple (I.ok.hd hc) ht (by simp [hn,<- hl,rv.length]) hst fun h' hx=>?_
 have I1:Inv X pins σ H { s with heap:=h' }:=I.kept (t':=s.toks) fun b o e=>hx b o (Nat.ne_of_lt (Heap.lt_size e)) e
 exact h pins _ σ H xs _ Q I1 (by simpa using rv) hw
noncomputable def gSub (to ti:TE) (t:TSet):TG:=fun v σ H Q=>to σ H fun o H1=>ti σ H1 fun i H2=>t o i v H2 fun H3=>Q σ H3
theorem pg_sub {o i:Expr} {to ti:TE} {t:TSet} (ho:PE X o to) (hi:PE X i ti) (hs:PSet X t)
  (ha:∀ v,assign (.Subscript o i pos) X.env v = (do
    let ov <- holding [v] (eval o X.env)
    let iv <- holding [v,ov] (eval i X.env)
    standAt pos
    holding [v,ov,iv] (setItem ov iv v)
    release [v,ov,iv] []):=by intro _; rfl):PG X (.Subscript o i pos) (gSub to ti t):=by
 intro pins s σ H v u Q I r h
 rw [ha]
 refine wpAny_bind (wpAny_holding (thn (ho pins s σ H _ I h) fun ov s1 ⟨x,H1,I1,r1,q1⟩=>?_))
 refine wpAny_bind (wpAny_holding (thn (hi pins s1 σ H1 _ I1 q1) fun iv s2 ⟨y,H2,I2,r2,q2⟩=>?_))
 refine wpAny_bind (wpAny_standAt (wpAny_bind (wpAny_holding (thn (hs pins s2 σ H2 x y v ov iv u _ I2 r1 r2 r q2) fun _ s3 ⟨H3,I3,q3⟩=>?_))))
 exact wpAny_release ⟨σ,H3,I3,q3⟩
noncomputable def tAsg (te:TE) (g:TG):TS:=fun D σ H=>te σ H fun x H1=>g x σ H1 D.nx
theorem ps_asg {tg e:Expr} {te:TE} {g:TG} (he:PE X e te) (hg:PG X tg g) (hs:swapsWithSole [tg] e pos.line X.env = pure false:=by rfl) (hw:swappedStores [tg] e X.env = pure none:=by rfl)
  (h1:(assignEach [tg] X.env).map (·.2) = [assign tg X.env]:=by rfl):PS X (.Assign [tg] e pos) (tAsg te g):=by
 intro pins s σ H D I h
 refine wpAny_Assign_stores (thn (he pins s σ H _ I h) fun v s1 ⟨x,H1,I1,r1,q1⟩=>?_) hs hw
 rw [h1]
 exact thn (hg pins s1 σ H1 x v _ I1 r1 q1) fun _ s2 q=>q
theorem ps_set {i:Nat} {x:Str} {e:Expr} {te:TE} {pos':Pos} (hN:X.N.Nodup) (hi:X.N[i]? = some x) (hx:Loc X.env.scope x) (he:PE X e te) (hs:swapsWith e (some (.Name x pos')) pos.line X.env = pure false:=by rfl) (hf:X.fn x = true \/ X.env.scope.names.lookup x = some .local:=by first | exact .inl rfl | exact .inr rfl | assumption) :
  PS X (.Assign [.Name x pos'] e pos) (tAsg te (gName i)):=by
 intro pins s σ H D I h
 refine wpAny_Assign_Name (thn (he pins s σ H _ I h) fun v s1 ⟨y,H1,I1,r1,q1⟩=>?_) hs
 exact store_ok I1 hN hi hx r1 (fun s2 I2=>⟨_,H1,I2,q1⟩) hf
end
section
variable {X:Cx} {pos:Pos}
end
structure It where
 go:Nat -> Hp -> Prop
 yld:Nat -> Hp -> V -> Hp -> Prop
 stop:Nat -> Hp -> Prop
noncomputable def FpOk (X:Cx) (pins:List (Addr × Obj)) (H:Hp) (b:Addr):Prop :=
 H b = none /\ b ≠ X.env.locals /\ b ∉ X.fs /\ (b ∈ X.ex \/ X.s₀.heap.objs.size <= b) /\ (∀ x c,X.env.cells.lookup x = some c -> c ≠ b) /\ ∀ p ∈ X.pn ++ pins,p.1 ≠ b
theorem Inv.fpOk {X:Cx} {pins:List (Addr × Obj)} {σ:St} {H H':Hp} {s:Shared} {b:Addr} (I:Inv X pins σ H s) (hb:s.heap.objs.size <= b) (hn:H' b = none):FpOk X pins H' b:=by
 refine ⟨hn,Nat.ne_of_gt (Nat.lt_of_lt_of_le I.lt hb),I.nofs hb,.inr (Nat.le_trans I.sz hb),fun x c e z=>?_,fun p hp z=>?_⟩
 ·obtain ⟨v,q⟩:=I.cell x c e
  exact absurd (Nat.lt_of_lt_of_le q.lt (by rw [z]; exact hb)) (Nat.lt_irrefl _)
 ·exact absurd (Nat.lt_of_lt_of_le (Heap.lt_size (I.pin p hp).1) (by rw [z]; exact hb)) (Nat.lt_irrefl _)
structure Turn (P:Program) (w:World) (K:PySem.W.Frag) (tg:Expr) (J:It) (fp:List Addr) (it:Addr) (tn:Nat -> Heap -> Prop):Prop where
 mem:it ∈ fp
 obj:∀ i h,tn i h -> ∀ b ∈ fp,∃ o,h.get? b = some o /\ ∀ v,o.data ≠ .cell v
 keep:∀ i h h',tn i h -> (∀ b ∈ fp,∀ o,h.get? b = some o -> h'.get? b = some o) -> tn i h'
 item:∀ (X:Cx),X.prog = P -> X.w = w -> X.K = K -> X.calm = true -> ∀ (i:Nat) (pins:List (Addr × Obj)) (s:Shared) (σ:St) (H:Hp) (E:Value -> Shared -> Prop),Inv X pins σ H s -> (∀ b ∈ fp,FpOk X pins H b) -> tn i s.heap -> J.go i H ->
  wpAny (model P w) X.A (pyNext (.ref it)) (fun r s1=>∃ u,r = some u /\
    wpAny (model P w) X.A (letOwnedTupleGo tg (.ref it) u) (fun _ s2=>∃ x H',Inv X pins σ H' s2 /\ RelV x u /\ J.yld i H x H' /\ tn (i + 1) s2.heap /\ ∀ b ∈ fp,H' b = none) E s1) E s
 done:∀ (X:Cx),X.prog = P -> X.w = w -> X.K = K -> X.calm = true -> ∀ (i:Nat) (pins:List (Addr × Obj)) (s:Shared) (σ:St) (H:Hp) (E:Value -> Shared -> Prop),Inv X pins σ H s -> (∀ b ∈ fp,FpOk X pins H b) -> tn i s.heap -> J.stop i H ->
  wpAny (model P w) X.A (pyNext (.ref it)) (fun r s1=>r = none /\ Inv X pins σ H s1) E s
 self:∀ (A:Around) (i:Nat) (s:Shared) (Q:Value -> Shared -> Prop) (E:Value -> Shared -> Prop),tn i s.heap -> Q (.ref it) s -> wpAny (model P w) A (pyIter (.ref it)) Q E s
noncomputable abbrev TI:=St -> Hp -> (It -> Hp -> Prop) -> Prop
noncomputable def PIE (X:Cx) (pins:List (Addr × Obj)) (σ:St) (tg:Expr) (R:It -> Hp -> Prop) (itv:Value) (s2:Shared):Prop :=
 ∃ (it:Addr) (fp:List Addr) (tn:Nat -> Heap -> Prop) (J:It) (H':Hp),itv = .ref it /\ Inv X pins σ H' s2 /\ Turn X.prog X.w X.K tg J fp it tn /\ tn 0 s2.heap /\ (∀ b ∈ fp,FpOk X pins H' b) /\ R J H'
noncomputable def PI (X:Cx) (tg iter:Expr) (wi:TI):Prop :=
 ∀ (pins:List (Addr × Obj)) (s:Shared) (σ:St) (H:Hp) (R:It -> Hp -> Prop),Inv X pins σ H s -> wi σ H R ->
  wpAny (model X.prog X.w) X.A (eval iter X.env) (fun v s1=>wpAny (model X.prog X.w) X.A (pyIter v) (PIE X pins σ tg R) X.xe s1) X.xe s
theorem go_of {M:Model} {A:Around} {E:Value -> Shared -> Prop} {s:Shared} {tg:Expr} {it:Addr} {u:Value} {o:Obj} {n:String} {vs:Array Value} {Q:Unit -> Shared -> Prop} (ho:s.heap.get? it = some o) (hc:o.cls = .type n) (hd:o.data = .fields vs)
  (hn:["enumerate","zip","dict_itemiterator","dict_reverseitemiterator","odict_iterator","itertools.zip_longest","itertools.pairwise"].contains n = false) (hQ:Q () s):wpAny M A (letOwnedTupleGo tg (.ref it) u) Q E s:=by
 unfold letOwnedTupleGo
 cases tg <;> first
  | exact wpAny_pure hQ
  | (cases u <;> first
      | exact wpAny_pure hQ
      | (refine wpAny_bind (wpAny_load ho ?_)
         rw [hc,hd]
         show wpAny M A (if (["enumerate","zip","dict_itemiterator","dict_reverseitemiterator","odict_iterator","itertools.zip_longest","itertools.pairwise"].contains n && vs[0]? == some (rawInt _)) = true then _ else _) Q E s
         rw [if_neg (by intro h; rw [hn,Bool.false_and] at h; cases h)]
         exact wpAny_pure hQ))
noncomputable def Itl (K:PySem.W.Frag) (a:Addr):It :=
 ⟨fun i H=>∃ xs x,SqL K H a xs /\ xs[i]? = some x,fun i H x H'=>H' = H /\ ∀ xs,SqL K H a xs -> xs[i]? = some x,fun i H=>∃ xs,SqL K H a xs /\ xs.length <= i⟩
noncomputable def Itt (K:PySem.W.Frag) (a:Addr):It :=
 ⟨fun i H=>∃ xs x,SqT K H a xs /\ xs[i]? = some x,fun i H x H'=>H' = H /\ ∀ xs,SqT K H a xs -> xs[i]? = some x,fun i H=>∃ xs,SqT K H a xs /\ xs.length <= i⟩
noncomputable def Itr (lo:Int) (n:Nat):It:=⟨fun i _=>i < n,fun i H x H'=>H' = H /\ x = .int (lo + i),fun i _=>n <= i⟩
theorem turn_list {P:Program} {w:World} {K:PySem.W.Frag} {tg:Expr} (a it:Addr):Turn P w K tg (Itl K a) [it] it (fun i h=>h.IsListIter it a i) where
 mem:=by simp
 obj:=fun i h st b hb=>by
  have e:b = it:=by simpa using hb
  subst e
  obtain ⟨o,e,c,d⟩:=st
  exact ⟨o,e,fun v z=>by rw [d] at z; cases z⟩
 keep:=fun i h h' st k=>st.at fun o e=>k it (by simp) o e
 item:=by
  intro X hP hw hK hc i pins s σ H E I hf st hg
  subst hP hw hK
  obtain ⟨xs,x,hq,hx⟩:=hg
  obtain ⟨its,rv,p,hz⟩:=I.list hq
  obtain ⟨u,hu,ru⟩:=rv.get hx
  obtain ⟨f0,f1,f2,f3,f4,f5⟩:=hf it (by simp)
  refine wpAny_pyNext_list_item st p.isList (x:=u) (by simpa using hu) fun h' st' sb=>?_
  have I1:Inv X pins σ H { s with heap:=h' }:=I.turned (t':=s.toks) (fun b o hb e=>(sb.2 b hb).trans e) f0 f1 f3 f4 f5
  obtain ⟨o,e,c,d⟩:=id st'
  exact ⟨u,rfl,go_of (s:={ s with heap:=h' }) e c d (by decide) ⟨x,H,I1,ru,⟨rfl,fun ys hy=>by rw [I.list_inj hy hq]; exact hx⟩,st',fun b hb=>(hf b hb).1⟩⟩
 done:=by
  intro X hP hw hK hc i pins s σ H E I hf st hg
  subst hP hw hK
  obtain ⟨xs,hq,hx⟩:=hg
  obtain ⟨its,rv,p,hz⟩:=I.list hq
  obtain ⟨f0,f1,f2,f3,f4,f5⟩:=hf it (by simp)
  have hl:=rv.length
  exact wpAny_pyNext_list_end (I.ok.hd hc) st p.isList (by simp; omega) fun h' eb=>⟨rfl,I.turned (t':=s.toks) (fun b o hb e=>eb b o hb e) f0 f1 f3 f4 f5⟩
 self:=fun _ _ _ _ _ st h=>wpAny_pyIter_listiter st h
theorem turn_tuple {P:Program} {w:World} {K:PySem.W.Frag} {tg:Expr} (a it:Addr):Turn P w K tg (Itt K a) [it] it (fun i h=>h.IsTupleIter it a i) where
 mem:=by simp
 obj:=fun i h st b hb=>by
  have e:b = it:=by simpa using hb
  subst e
  obtain ⟨o,e,c,d⟩:=st
  exact ⟨o,e,fun v z=>by rw [d] at z; cases z⟩
 keep:=fun i h h' st k=>st.at fun o e=>k it (by simp) o e
 item:=by
  intro X hP hw hK hc i pins s σ H E I hf st hg
  subst hP hw hK
  obtain ⟨xs,x,hq,hx⟩:=hg
  obtain ⟨its,rv,p,hz⟩:=I.tuple hq
  obtain ⟨u,hu,ru⟩:=rv.get hx
  obtain ⟨f0,f1,f2,f3,f4,f5⟩:=hf it (by simp)
  refine wpAny_pyNext_tuple_item st (show s.heap.IsTuple a its.toArray from p) (x:=u) (by simpa using hu) fun h' st' sb=>?_
  have I1:Inv X pins σ H { s with heap:=h' }:=I.turned (t':=s.toks) (fun b o hb e=>(sb.2 b hb).trans e) f0 f1 f3 f4 f5
  obtain ⟨o,e,c,d⟩:=id st'
  exact ⟨u,rfl,go_of (s:={ s with heap:=h' }) e c d (by decide) ⟨x,H,I1,ru,⟨rfl,fun ys hy=>by rw [I.tuple_inj hy hq]; exact hx⟩,st',fun b hb=>(hf b hb).1⟩⟩
 done:=by
  intro X hP hw hK hc i pins s σ H E I hf st hg
  subst hP hw hK
  obtain ⟨xs,hq,hx⟩:=hg
  obtain ⟨its,rv,p,hz⟩:=I.tuple hq
  obtain ⟨f0,f1,f2,f3,f4,f5⟩:=hf it (by simp)
  have hl:=rv.length
  exact wpAny_pyNext_tuple_end (I.ok.hd hc) st (show s.heap.IsTuple a its.toArray from p) (by simp; omega) fun h' eb=>⟨rfl,I.turned (t':=s.toks) (fun b o hb e=>eb b o hb e) f0 f1 f3 f4 f5⟩
 self:=fun _ _ _ _ _ st h=>wpAny_pyIter_tupleiter st h
theorem turn_range {P:Program} {w:World} {K:PySem.W.Frag} {tg:Expr} (it:Addr) (lo:Int) (n:Nat):Turn P w K tg (Itr lo n) [it] it (fun i h=>IsRangeIter h it (lo + (i:Nat) * 1) ((n:Int) - (i:Nat)) 1) where
 mem:=by simp
 obj:=fun i h st b hb=>by
  have e:b = it:=by simpa using hb
  subst e
  exact ⟨_,st,fun v z=>by
    have z':Data.fields _ = Data.cell v:=z
    cases z'⟩
 keep:=fun i h h' st k=>k it (by simp) _ st
 item:=by
  intro X hP hw hK hc i pins s σ H E I hf st hg
  subst hP hw hK
  obtain ⟨f0,f1,f2,f3,f4,f5⟩:=hf it (by simp)
  have W:=Walks.range (prog:=X.prog) (w:=X.w) (I.ok.hd hc) it lo 1 n
  refine W.item i s _ _ hg st fun v h' tk hv st' kk=>?_
  obtain ⟨t,rfl⟩:=hv
  have I1:Inv X pins σ H { s with heap:=h',toks:=tk }:=I.turned (fun b o hb e=>kk b o (by simpa using hb) e) f0 f1 f3 f4 f5
  refine ⟨_,rfl,go_of (s:={ s with heap:=h',toks:=tk }) (n:="range_iterator") st' rfl rfl (by decide) ⟨.int (lo + i),H,I1,⟨t,?_⟩,⟨rfl,rfl⟩,st',fun b hb=>(hf b hb).1⟩⟩
  rw [Int.mul_one]
 done:=by
  intro X hP hw hK hc i pins s σ H E I hf st hg
  subst hP hw hK
  obtain ⟨f0,f1,f2,f3,f4,f5⟩:=hf it (by simp)
  exact wpAny_pyNext_range_end (I.ok.hd hc) st (by have:n <= i:=hg; omega) fun h' eb=>⟨rfl,I.turned (t':=s.toks) (fun b o hb e=>eb b o hb e) f0 f1 f3 f4 f5⟩
 self:=fun _ _ _ _ _ st h=>wpAny_pyIter_rangeiter st h
end L2
namespace L2
open PySem PySem.Spec PyProof.Rows
section
variable {X:Cx} {tg:Expr}
theorem range_it {pins:List (Addr × Obj)} {σ:St} {H:Hp} {s:Shared} {R:It -> Hp -> Prop} {E:Value -> Shared -> Prop} {lo hi:Int} {t u v:Tok} {tk:Nat} (I:Inv X pins σ H s) (h1:-(2 ^ 62) <= lo) (h2:lo < 2 ^ 62) (h3:-(2 ^ 62) <= hi) (h4:hi < 2 ^ 62)
  (q:R (Itr lo (hi - lo).toNat) H):wpAny (model X.prog X.w) X.A (pyIter (.ref s.heap.objs.size)) (PIE X pins σ tg R) E { s with heap:=s.heap.push { cls:=.type "range",data:=.fields #[.int lo t,.int hi u,.int 1 v] },toks:=tk }:=by
 refine wpAny_pyIter_range (IsRange.new ..) (small_one h1 h2 h3 h4) ?_
 have I1:Inv X pins σ H { s with heap:=s.heap.push { cls:=.type "range",data:=.fields #[.int lo t,.int hi u,.int 1 v] },toks:=tk }:=I.kept fun b o e=>Heap.get?_push_of_some _ e
 refine ⟨(s.heap.push { cls:=.type "range",data:=.fields #[.int lo t,.int hi u,.int 1 v] }).objs.size,[(s.heap.push { cls:=.type "range",data:=.fields #[.int lo t,.int hi u,.int 1 v] }).objs.size],_,_,H,rfl,
   I1.kept (t':=tk) fun b o e=>Heap.get?_push_of_some _ e,turn_range _ lo (hi - lo).toNat,?_,fun b hb=>?_,q⟩
 ·have e1:lo + ((0:Nat):Int) * 1 = lo:=by simp
  have e2:(((hi - lo).toNat:Nat):Int) - ((0:Nat):Int) = Builtin.Range.rangeSize lo hi 1:=by rw [rangeSize_one]; split <;> omega
  show IsRangeIter _ _ (lo + ((0:Nat):Int) * 1) ((((hi - lo).toNat:Nat):Int) - ((0:Nat):Int)) 1
  rw [e1,e2]
  exact Heap.get?_push_size _ rfl
 ·have e:b = (s.heap.push { cls:=.type "range",data:=.fields #[.int lo t,.int hi u,.int 1 v] }).objs.size:=by simpa using hb
  subst e
  exact I1.fpOk (Nat.le_refl _) (I1.hok.fresh (Nat.le_refl _))
noncomputable def iRng1 (ta:TA):TI:=fun σ H R=>ta σ H fun vs H1=>∃ j:Int,vs = [.int j] /\ -(2 ^ 62) <= j /\ j < 2 ^ 62 /\ R (Itr 0 j.toNat) H1
noncomputable def iRng2 (ta:TA):TI:=fun σ H R=>ta σ H fun vs H1=>∃ i j:Int,vs = [.int i,.int j] /\ (-(2 ^ 62) <= i /\ i < 2 ^ 62 /\ -(2 ^ 62) <= j /\ j < 2 ^ 62) /\ R (Itr i (j - i).toNat) H1
theorem pi_range1 {a:Expr} {ta:TA} {p pos:Pos} (hg:Gl X "range") (hm:X.mg "range" = none) (ha:PA X [a] ta) (hs:starEach [a] X.env = [(false,eval a X.env)]:=by rfl):PI X tg (.Call (.Name "range" p) [a] [] pos) (iRng1 ta):=by
 intro pins s σ H R I h
 refine Call_ (ld_blt I hg hm boot_range (PyProof.Rows.callWith_type1 (thn (ha pos pins s σ H _ I h) fun us s1 ⟨vs,H1,I1,r1,q1⟩=>?_) hs rfl))
 obtain ⟨j,e,q1,q2,q⟩:=q1
 subst e
 cases r1 with
 | cons r rr =>
  cases rr
  obtain ⟨t,rfl⟩:=r
  exact call_range_1 (range_it I1 (by omega) (by omega) q1 q2 (by simpa using q))
theorem pi_range2 {a b:Expr} {ta:TA} {p pos:Pos} (hg:Gl X "range") (hm:X.mg "range" = none) (ha:PA X [a,b] ta) (hs:starEach [a,b] X.env = [(false,eval a X.env),(false,eval b X.env)]:=by rfl) (hs2:starEach [b] X.env = [(false,eval b X.env)]:=by rfl) :
  PI X tg (.Call (.Name "range" p) [a,b] [] pos) (iRng2 ta):=by
 intro pins s σ H R I h
 refine Call_ (ld_blt I hg hm boot_range (PyProof.Rows.callWith_type1 (thn (ha pos pins s σ H _ I h) fun us s1 ⟨vs,H1,I1,r1,q1⟩=>?_) (by rw [hs,hs2]) (by rw [hs2]; rfl)))
 obtain ⟨i,j,e,⟨q1,q2,q3,q4⟩,q⟩:=q1
 subst e
 cases r1 with
 | cons r rr =>
  cases rr with
  | cons r' rr =>
   cases rr
   obtain ⟨t,rfl⟩:=r
   obtain ⟨t',rfl⟩:=r'
   exact call_range_2 (range_it I1 q1 q2 q3 q4 q)
noncomputable def tFor (wi:TI) (g:TG) (tb:TS):TS:=fun D σ H=>wi σ H fun J H1=>∃ W:Nat -> Nat -> St -> Hp -> Prop,(∃ m,W 0 m σ H1) /\ ∀ i m σ H,W i m σ H ->
 (J.stop i H /\ D.nx σ H) \/ (J.go i H /\ ∃ N:St -> Hp -> Prop,(∀ σ' H',N σ' H' -> ∃ m',m' < m /\ W (i + 1) m' σ' H') /\ ∀ x H',J.yld i H x H' -> g x σ H' fun σ2 H2=>tb { D with nx:=N,ct:=N,bk:=D.nx } σ2 H2)
noncomputable def pinsAt (fp:List Addr) (h:Heap):List (Addr × Obj):=fp.filterMap fun b=>(h.get? b).map fun o=>(b,o)
theorem mem_pinsAt {fp:List Addr} {h:Heap} {b:Addr} {o:Obj} (hb:b ∈ fp) (e:h.get? b = some o):(b,o) ∈ pinsAt fp h:=List.mem_filterMap.mpr ⟨b,hb,by rw [e]; rfl⟩
theorem of_pinsAt {fp:List Addr} {h:Heap} {p:Addr × Obj} (hp:p ∈ pinsAt fp h):p.1 ∈ fp /\ h.get? p.1 = some p.2:=by
 obtain ⟨b,hb,e⟩:=List.mem_filterMap.mp hp
 cases q:h.get? b with
 | none=>rw [q] at e; cases e
 | some o =>
  rw [q] at e
  have e':(b,o) = p:=Option.some.inj e
  subst e'
  exact ⟨hb,q⟩
theorem Inv.pinned {pins:List (Addr × Obj)} {σ:St} {H:Hp} {s:Shared} {fp:List Addr} (I:Inv X pins σ H s) (hf:∀ b ∈ fp,FpOk X pins H b) (ho:∀ b ∈ fp,∃ o,s.heap.get? b = some o /\ ∀ v,o.data ≠ .cell v):Inv X (pins ++ pinsAt fp s.heap) σ H s :=
 I.pins_of fun p hp=>(List.mem_append.mp hp).elim (fun z=>I.pin p (List.mem_append_right _ z)) fun z=>by
  obtain ⟨hb,e⟩:=of_pinsAt z
  obtain ⟨f0,f1,f2,_⟩:=hf p.1 hb
  obtain ⟨o,e',d⟩:=ho p.1 hb
  rw [e] at e'; cases e'
  exact ⟨e,f0,f1,f2,d⟩
theorem Inv.unpinned {pins pl:List (Addr × Obj)} {σ:St} {H:Hp} {s:Shared} (I:Inv X (pins ++ pl) σ H s):Inv X pins σ H s:=I.pins_of fun p hp=>I.pin p (List.mem_append_right _ (List.mem_append_left _ hp))
theorem ps_for {iter:Expr} {body:List Stmt} {wi:TI} {g:TG} {tb:TS} {pos:Pos} (hp:PassesOwn (model X.prog X.w) X.A X.env X.xe) (hc:X.calm = true) (hi:PI X tg iter wi) (hg:PG X tg g) (hb:PSs X body tb)
  (hs:∀ x,foldedSetIterable iter X.env x = pure x:=by intro _; rfl):PS X (.For tg iter body [] pos) (tFor wi g tb):=by
 intro pins s σ H D I h
 refine wpAny_For (thn (hi pins s σ H _ I h) fun v s1 h1=>thn h1 fun itv s2 h2=>?_) hs
 obtain ⟨it,fp,tn,J,H2,e,I2,T,st2,f2,W,⟨m0,w0⟩,turn⟩:=h2
 subst e
 have stat:∀ {H':Hp},(∀ b ∈ fp,H' b = none) -> ∀ b ∈ fp,FpOk X pins H' b:=fun hn b hb=>⟨hn b hb,(f2 b hb).2⟩
 refine codeAny_forLoop_any (fun n s'=>∃ i σ' H',Inv X pins σ' H' s' /\ tn i s'.heap /\ (∀ b ∈ fp,H' b = none) /\ W i n σ' H') ?_ m0 ⟨0,σ,H2,I2,st2,fun b hb=>(f2 b hb).1,w0⟩
 rintro n s3 ⟨i,σ3,H3,I3,st3,fr3,w3⟩
 rcases turn i n σ3 H3 w3 with ⟨stop,qn⟩ | ⟨go,N,hN,step⟩
 ·refine wpAny_passesOwn hp (thn (T.done X rfl rfl rfl hc i pins s3 σ3 H3 X.xe I3 (stat fr3) st3 stop) fun r s4 ⟨hr,I4⟩=>?_)
  subst hr
  exact wpAny_execs_nil ⟨σ3,H3,I4,qn⟩
 ·refine wpAny_passesOwn hp (thn (T.item X rfl rfl rfl hc i pins s3 σ3 H3 X.xe I3 (stat fr3) st3 go) fun r s4 ⟨u,hr,h4⟩=>?_)
  subst hr
  refine wpAny_passesOwn hp (thn h4 fun _ s5 ⟨x,H5,I5,r5,y5,st5,fr5⟩=>?_)
  have I5':=I5.pinned (stat fr5) (T.obj _ _ st5)
  refine wpAny_passesOwn hp (thn (hg _ s5 σ3 H5 x u _ I5' r5 (step x H5 y5)) fun _ s6 ⟨σ6,H6,I6,q6⟩=>?_)
  refine wpAny_passesOwn hp (thn (hb _ s6 σ6 H6 _ I6 q6) fun f s7 q7=>?_)
  have again:∀ {σ7:St} {H7:Hp},Inv X (pins ++ pinsAt fp s5.heap) σ7 H7 s7 -> N σ7 H7 -> ∃ m,m < n /\ ∃ i σ' H',Inv X pins σ' H' s7 /\ tn i s7.heap /\ (∀ b ∈ fp,H' b = none) /\ W i m σ' H':=fun {σ7 H7} I7 n7=>by
   obtain ⟨m',hm,w7⟩:=hN σ7 H7 n7
   refine ⟨m',hm,i + 1,σ7,H7,I7.unpinned,T.keep _ _ _ st5 fun b hb o e=>(I7.pin (b,o) (List.mem_append_right _ (List.mem_append_right _ (mem_pinsAt hb e)))).1,fun b hb=>?_,w7⟩
   obtain ⟨o,e,d⟩:=T.obj _ _ st5 b hb
   exact (I7.pin (b,o) (List.mem_append_right _ (List.mem_append_right _ (mem_pinsAt hb e)))).2.1
  cases f with
  | next=>obtain ⟨σ7,H7,I7,n7⟩:=q7; exact again I7 n7
  | cont=>obtain ⟨σ7,H7,I7,n7⟩:=q7; exact again I7 n7
  | brk=>obtain ⟨σ7,H7,I7,q7⟩:=q7; exact ⟨σ7,H7,I7.unpinned,q7⟩
  | ret v=>obtain ⟨x7,σ7,H7,I7,r7,q7⟩:=q7; exact ⟨x7,σ7,H7,I7.unpinned,r7,q7⟩
end
end L2
namespace L2
open PySem PySem.Spec PyProof.Rows
noncomputable abbrev R2:=V -> V -> Hp -> VK -> Prop
noncomputable def OpR (X:Cx) (f:Value -> Value -> Sem Value) (r:R2):Prop :=
 ∀ (pins:List (Addr × Obj)) (s:Shared) (σ:St) (H:Hp) (x y:V) (v u:Value) (Q:VK),Inv X pins σ H s -> RelV x v -> RelV y u -> r x y H Q ->
  wpAny (model X.prog X.w) X.A (f v u) (EP X pins σ Q) X.xe s
noncomputable def UnR (X:Cx) (f:Value -> Sem Value) (r:V -> Hp -> VK -> Prop):Prop :=
 ∀ (pins:List (Addr × Obj)) (s:Shared) (σ:St) (H:Hp) (x:V) (v:Value) (Q:VK),Inv X pins σ H s -> RelV x v -> r x H Q ->
  wpAny (model X.prog X.w) X.A (f v) (EP X pins σ Q) X.xe s
noncomputable def CallR (X:Cx) (f:Value) (r:List V -> Hp -> VK -> Prop):Prop :=
 ∀ (pins:List (Addr × Obj)) (s:Shared) (σ:St) (H:Hp) (xs:List V) (us:List Value) (Q:VK),Inv X pins σ H s -> Vals xs us -> r xs H Q ->
  wpAny (model X.prog X.w) X.A (call f us) (EP X pins σ Q) X.xe s
noncomputable def tOp (r:R2) (ta tb:TE):TE:=fun σ H Q=>ta σ H fun x H1=>tb σ H1 fun y H2=>r x y H2 Q
noncomputable def tUn (r:V -> Hp -> VK -> Prop) (ta:TE):TE:=fun σ H Q=>ta σ H fun x H1=>r x H1 Q
noncomputable def rI (C:Int -> Int -> Prop) (g:Int -> Int -> V):R2:=fun x y H Q=>∃ i j,x = .int i /\ y = .int j /\ C i j /\ Q (g i j) H
noncomputable def rI0 (g:Int -> Int -> V):R2:=fun x y H Q=>∃ i j,x = .int i /\ y = .int j /\ Q (g i j) H
noncomputable def rU (g:Int -> V):V -> Hp -> VK -> Prop:=fun x H Q=>∃ i,x = .int i /\ Q (g i) H
section
variable {X:Cx} {a b c:Expr} {ta tb tc:TE} {pos:Pos}
theorem binT (ha:PE X a ta) (hb:PE X b tb) {pins:List (Addr × Obj)} {s:Shared} {σ:St} {H:Hp} {R:V -> V -> Hp -> Prop} (I:Inv X pins σ H s)
  (h:ta σ H fun x H1=>tb σ H1 fun y H2=>R x y H2) {Q:Value -> Shared -> Prop} {f:Value -> Value -> Sem Value}
  (hf:∀ v u s2 x y H2,Inv X pins σ H2 s2 -> RelV x v -> RelV y u -> R x y H2 -> wpAny (model X.prog X.w) X.A (f v u) Q X.xe s2) :
  wpAny (model X.prog X.w) X.A (eval a X.env) (fun v s₁=>wpAny (model X.prog X.w) X.A (eval b X.env) (fun u s₂=>wpAny (model X.prog X.w) X.A (f v u) Q X.xe s₂) X.xe s₁) X.xe s:=by
 refine thn (ha pins s σ H _ I h) fun v s1 ⟨x,H1,I1,r1,q1⟩=>?_
 refine thn (hb pins s1 σ H1 _ I1 q1) fun u s2 ⟨y,H2,I2,r2,q2⟩=>?_
 exact hf v u s2 x y H2 I2 r1 r2 q2
theorem pe_op {op:Operator} {r:R2} (ho:OpR X (binaryOp op) r) (ha:PE X a ta) (hb:PE X b tb):PE X (.BinOp a op b pos) (tOp r ta tb):=by
 intro pins s σ H Q I h
 exact wpAny_BinOp (binT ha hb I h fun v u s2 x y H2 I2 rx ry q=>ho pins s2 σ H2 x y v u Q I2 rx ry q)
theorem pe_un {op:UnaryOp} {r:V -> Hp -> VK -> Prop} (ho:UnR X (unaryOp op) r) (ha:PE X a ta):PE X (.UnaryOp op a pos) (tUn r ta):=by
 intro pins s σ H Q I h
 exact UnaryOp_ (thn (ha pins s σ H _ I h) fun v s1 ⟨x,H1,I1,r1,q1⟩=>ho pins s1 σ H1 x v Q I1 r1 q1)
theorem opI {f:Value -> Value -> Sem Value} {C:Int -> Int -> Prop} {g:Int -> Int -> Int}
  (rule:∀ (i j:Int) (t u:Tok) (s:Shared) (Q:Value -> Shared -> Prop) (E:Value -> Shared -> Prop),C i j -> Q (.int (g i j) s.toks) { s with toks:=s.toks + 1 } -> wpAny (model X.prog X.w) X.A (f (.int i t) (.int j u)) Q E s) :
  OpR X f (rI C fun i j=>.int (g i j)):=by
 intro pins s σ H x y v u Q I rx ry h
 obtain ⟨i,j,rfl,rfl,hc,q⟩:=h
 obtain ⟨t,rfl⟩:=rx
 obtain ⟨t',rfl⟩:=ry
 exact rule i j t t' s _ _ hc ⟨.int (g i j),H,I.tok _,⟨_,rfl⟩,q⟩
theorem opI0 {f:Value -> Value -> Sem Value} {g:Int -> Int -> Int}
  (rule:∀ (i j:Int) (t u:Tok) (s:Shared) (Q:Value -> Shared -> Prop) (E:Value -> Shared -> Prop),Q (.int (g i j) s.toks) { s with toks:=s.toks + 1 } -> wpAny (model X.prog X.w) X.A (f (.int i t) (.int j u)) Q E s) :
  OpR X f (rI0 fun i j=>.int (g i j)):=by
 intro pins s σ H x y v u Q I rx ry h
 obtain ⟨i,j,rfl,rfl,q⟩:=h
 obtain ⟨t,rfl⟩:=rx
 obtain ⟨t',rfl⟩:=ry
 exact rule i j t t' s _ _ ⟨.int (g i j),H,I.tok _,⟨_,rfl⟩,q⟩
theorem opB0 {f:Value -> Value -> Sem Value} {g:Int -> Int -> Bool}
  (rule:∀ (i j:Int) (t u:Tok) (s:Shared) (Q:Value -> Shared -> Prop) (E:Value -> Shared -> Prop),Q (.bool (g i j)) s -> wpAny (model X.prog X.w) X.A (f (.int i t) (.int j u)) Q E s) :
  OpR X f (rI0 fun i j=>.bl (g i j)):=by
 intro pins s σ H x y v u Q I rx ry h
 obtain ⟨i,j,rfl,rfl,q⟩:=h
 obtain ⟨t,rfl⟩:=rx
 obtain ⟨t',rfl⟩:=ry
 exact rule i j t t' s _ _ ⟨.bl (g i j),H,I,rfl,q⟩
noncomputable def CDiv (i j:Int):Prop:=0 < j /\ j < 1073741824
noncomputable def CPow (i j:Int):Prop:=0 <= j /\ j <= 1000000 /\ i.natAbs < 2 ^ 64
noncomputable def CMul (i j:Int):Prop:=(-(2 ^ 64) < i /\ i < 2 ^ 64) \/ (-(2 ^ 64) < j /\ j < 2 ^ 64)
theorem CMul.ok {i j:Int} (h:CMul i j):IntMulOk i j:=by
 rcases h with ⟨h1,h2⟩ | ⟨h1,h2⟩
 ·exact .of_left (intBits_le_64 h1 h2)
 ·exact .of_right (intBits_le_64 h1 h2)
theorem op_add:OpR X (binaryOp .Add) (rI0 fun i j=>.int (i + j)):=opI0 fun _ _ _ _ _ _ _ q=>add_int q
theorem op_sub:OpR X (binaryOp .Sub) (rI0 fun i j=>.int (i - j)):=opI0 fun _ _ _ _ _ _ _ q=>sub_int q
theorem op_mul:OpR X (binaryOp .Mult) (rI CMul fun i j=>.int (i * j)):=opI fun _ _ _ _ _ _ _ hc q=>mul_int q hc.ok
theorem op_fdiv:OpR X (binaryOp .FloorDiv) (rI CDiv fun i j=>.int (i / j)):=opI fun i j _ _ _ _ _ hc q=>by
 have h1:(0:Int) < j:=hc.1
 have h2:j < 1073741824:=hc.2
 exact floordiv_int (by omega) (by rw [Int.fdiv_eq_ediv_of_nonneg i (by omega)]; exact q) (.inl (PyProof.noPylong_small (by omega)))
theorem op_mod:OpR X (binaryOp .Mod) (rI (fun _ j=>0 < j) fun i j=>.int (i % j)):=opI fun i j _ _ _ _ _ hc q=>by
 have h1:(0:Int) < j:=hc
 exact mod_int' (by omega) (by rw [Int.fmod_eq_emod_of_nonneg i (by omega)]; exact q)
theorem op_pow:OpR X (binaryOp .Pow) (rI CPow fun i j=>.int (i ^ j.toNat)):=opI fun _ _ _ _ _ _ _ hc q=>pow_int_small hc.1 hc.2.1 hc.2.2 q
theorem unI {f:Value -> Sem Value} {g:Int -> Int}
  (rule:∀ (i:Int) (t:Tok) (s:Shared) (Q:Value -> Shared -> Prop) (E:Value -> Shared -> Prop),Q (.int (g i) s.toks) { s with toks:=s.toks + 1 } -> wpAny (model X.prog X.w) X.A (f (.int i t)) Q E s) :
  UnR X f (rU fun i=>.int (g i)):=by
 intro pins s σ H x v Q I rx h
 obtain ⟨i,rfl,q⟩:=h
 obtain ⟨t,rfl⟩:=rx
 exact rule i t s _ _ ⟨.int (g i),H,I.tok _,⟨_,rfl⟩,q⟩
theorem un_neg:UnR X (unaryOp .USub) (rU fun i=>.int (-i)):=unI fun _ _ _ _ _ q=>neg_int q
end
noncomputable def scal:V -> V -> Bool
 | .non,.non=>true | .non,.int _=>true | .int _,.non=>true | .non,.bl _=>true | .bl _,.non=>true | .non,.str _=>true | .str _,.non=>true
 | .int _,.int _=>true | .bl _,.bl _=>true | .str _,.str _=>true | .byt _,.byt _=>true
 | .int _,.str _=>true | .str _,.int _=>true | .bl _,.str _=>true | .str _,.bl _=>true
 | _,_=>false
noncomputable def rEq:R2:=fun x y H Q=>scal x y = true /\ Q (.bl (decide (x = y))) H
noncomputable def rNe:R2:=fun x y H Q=>scal x y = true /\ Q (.bl (!decide (x = y))) H
theorem dec_int {i j:Int}:decide (V.int i = V.int j) = (i == j):=by
 rw [Bool.eq_iff_iff]
 simp
theorem dec_bl {i j:Bool}:decide (V.bl i = V.bl j) = (i == j):=by
 rw [Bool.eq_iff_iff]
 simp
theorem dec_str {i j:Str}:decide (V.str i = V.str j) = (i == j):=by
 rw [Bool.eq_iff_iff]
 simp
theorem dec_byt {i j:Array UInt8}:decide (V.byt i = V.byt j) = (i.toList == j.toList):=by
 rw [Bool.eq_iff_iff]
 cases i
 cases j
 simp
section
variable {X:Cx} {a b c:Expr} {ta tb tc:TE} {pos:Pos}
theorem fin_bl {pins:List (Addr × Obj)} {σ:St} {H:Hp} {s:Shared} {Q:VK} {k k':Bool} (I:Inv X pins σ H s) (q:Q (.bl k) H) (e:k = k'):EP X pins σ Q (.bool k') s:=by
 subst e
 exact ⟨.bl k,H,I,rfl,q⟩
theorem op_eq:OpR X (compareOp .Eq) rEq:=by
 intro pins s σ H x y v u Q I rx ry h
 obtain ⟨hs,q⟩:=h
 cases x with
 | non =>
  cases rx
  cases y with
  | non=>cases ry; exact PySem.EqNone.eq_none_none (fin_bl I q (by simp))
  | bl j=>cases ry; exact PySem.EqNone.eq_none_bool (fin_bl I q (by simp))
  | int j=>obtain ⟨t',rfl⟩:=ry; exact PySem.EqNone.eq_none_int (fin_bl I q (by simp))
  | str j=>obtain ⟨t',rfl⟩:=ry; exact PySem.EqNone.eq_none_str (fin_bl I q (by simp))
  | _=>exact absurd (show false = true from hs) Bool.false_ne_true
 | bl i =>
  cases rx
  cases y with
  | non=>cases ry; exact PySem.EqNone.eq_bool_none (fin_bl I q (by simp))
  | bl j=>cases ry; exact eq_bool (fin_bl I q dec_bl)
  | str j=>obtain ⟨t',rfl⟩:=ry; exact PySem.EqMixed.eq_bool_str (fin_bl I q (by simp))
  | _=>exact absurd (show false = true from hs) Bool.false_ne_true
 | int i =>
  obtain ⟨t,rfl⟩:=rx
  cases y with
  | non=>cases ry; exact PySem.EqNone.eq_int_none (fin_bl I q (by simp))
  | int j=>obtain ⟨t',rfl⟩:=ry; exact eq_int (fin_bl I q dec_int)
  | str j=>obtain ⟨t',rfl⟩:=ry; exact PySem.EqMixed.eq_int_str (fin_bl I q (by simp))
  | _=>exact absurd (show false = true from hs) Bool.false_ne_true
 | str i =>
  obtain ⟨t,rfl⟩:=rx
  cases y with
  | non=>cases ry; exact PySem.EqNone.eq_str_none (fin_bl I q (by simp))
  | bl j=>cases ry; exact PySem.EqMixed.eq_str_bool (fin_bl I q (by simp))
  | int j=>obtain ⟨t',rfl⟩:=ry; exact PySem.EqMixed.eq_str_int (fin_bl I q (by simp))
  | str j=>obtain ⟨t',rfl⟩:=ry; exact eq_str (fin_bl I q dec_str)
  | _=>exact absurd (show false = true from hs) Bool.false_ne_true
 | byt i =>
  obtain ⟨t,rfl⟩:=rx
  cases y with
  | byt j=>obtain ⟨t',rfl⟩:=ry; exact PySem.W.eq_bytes (fin_bl I q dec_byt)
  | _=>exact absurd (show false = true from hs) Bool.false_ne_true
 | _=>cases y <;> exact absurd (show false = true from hs) Bool.false_ne_true
theorem op_ne:OpR X (compareOp .NotEq) rNe:=by
 intro pins s σ H x y v u Q I rx ry h
 obtain ⟨hs,q⟩:=h
 cases x with
 | non =>
  cases rx
  cases y with
  | non=>cases ry; exact PySem.EqNone.ne_none_none (fin_bl I q (by simp))
  | bl j=>cases ry; exact PySem.EqNone.ne_none_bool (fin_bl I q (by simp))
  | int j=>obtain ⟨t',rfl⟩:=ry; exact PySem.EqNone.ne_none_int (fin_bl I q (by simp))
  | str j=>obtain ⟨t',rfl⟩:=ry; exact PySem.EqNone.ne_none_str (fin_bl I q (by simp))
  | _=>exact absurd (show false = true from hs) Bool.false_ne_true
 | bl i =>
  cases rx
  cases y with
  | non=>cases ry; exact PySem.EqNone.ne_bool_none (fin_bl I q (by simp))
  | bl j=>cases ry; exact ne_bool (fin_bl I q (congrArg not dec_bl))
  | str j=>obtain ⟨t',rfl⟩:=ry; exact PySem.EqMixed.ne_bool_str (fin_bl I q (by simp))
  | _=>exact absurd (show false = true from hs) Bool.false_ne_true
 | int i =>
  obtain ⟨t,rfl⟩:=rx
  cases y with
  | non=>cases ry; exact PySem.EqNone.ne_int_none (fin_bl I q (by simp))
  | int j=>obtain ⟨t',rfl⟩:=ry; exact ne_int (fin_bl I q (congrArg not dec_int))
  | str j=>obtain ⟨t',rfl⟩:=ry; exact PySem.EqMixed.ne_int_str (fin_bl I q (by simp))
  | _=>exact absurd (show false = true from hs) Bool.false_ne_true
 | str i =>
  obtain ⟨t,rfl⟩:=rx
  cases y with
  | non=>cases ry; exact PySem.EqNone.ne_str_none (fin_bl I q (by simp))
  | bl j=>cases ry; exact PySem.EqMixed.ne_str_bool (fin_bl I q (by simp))
  | int j=>obtain ⟨t',rfl⟩:=ry; exact PySem.EqMixed.ne_str_int (fin_bl I q (by simp))
  | str j=>obtain ⟨t',rfl⟩:=ry; exact ne_str (fin_bl I q (congrArg not dec_str))
  | _=>exact absurd (show false = true from hs) Bool.false_ne_true
 | byt i =>
  obtain ⟨t,rfl⟩:=rx
  cases y with
  | byt j=>obtain ⟨t',rfl⟩:=ry; exact PySem.W.ne_bytes (fin_bl I q (congrArg not dec_byt))
  | _=>exact absurd (show false = true from hs) Bool.false_ne_true
 | _=>cases y <;> exact absurd (show false = true from hs) Bool.false_ne_true
theorem op_lt:OpR X (compareOp .Lt) (rI0 fun i j=>.bl (decide (i < j))):=opB0 fun _ _ _ _ _ _ _ q=>lt_int q
theorem op_le:OpR X (compareOp .LtE) (rI0 fun i j=>.bl (decide (i <= j))):=opB0 fun _ _ _ _ _ _ _ q=>le_int q
theorem op_gt:OpR X (compareOp .Gt) (rI0 fun i j=>.bl (decide (j < i))):=opB0 fun _ _ _ _ _ _ _ q=>gt_int q
theorem op_ge:OpR X (compareOp .GtE) (rI0 fun i j=>.bl (decide (j <= i))):=opB0 fun _ _ _ _ _ _ _ q=>ge_int q
theorem OpR.or {f:Value -> Value -> Sem Value} {r r':R2} (h:OpR X f r) (h':OpR X f r'):OpR X f (fun x y H Q=>r x y H Q \/ r' x y H Q):=by
 intro pins s σ H x y v u Q I rx ry q
 rcases q with q | q
 ·exact h pins s σ H x y v u Q I rx ry q
 ·exact h' pins s σ H x y v u Q I rx ry q
theorem nomark (b:Expr) {op:CmpOp} (h:op ≠ .In:=by decide) (h2:op ≠ .NotIn:=by decide):behindInMarks op b = false:=by
 have e1:(op == CmpOp.In) = false:=by cases op <;> first | rfl | exact absurd rfl h
 have e2:(op == CmpOp.NotIn) = false:=by cases op <;> first | rfl | exact absurd rfl h2
 cases b <;> simp [behindInMarks,e1,e2]
theorem pe_cmpR {op:CmpOp} {r:R2} (ho:OpR X (compareOp op) r) (ha:PE X a ta) (hb:PE X b tb) (hm:behindInMarks op b = false):PE X (.Compare a [op] [b] pos) (tOp r ta tb):=by
 intro pins s σ H Q I h
 exact wpAny_Compare1 (binT ha hb I h fun v u s2 x y H2 I2 rx ry q=>ho pins s2 σ H2 x y v u Q I2 rx ry q) hm
noncomputable def tTest (t:TE):TT:=fun σ H Q=>t σ H fun x H'=>∃ k,x = .bl k /\ Q k H'
theorem pt_cmpR {op:CmpOp} {r:R2} (ho:OpR X (compareOp op) r) (ha:PE X a ta) (hb:PE X b tb) (hm:behindInMarks op b = false):PT X (.Compare a [op] [b] pos) (tTest (tOp r ta tb)):=by
 intro pins s σ H Q I h
 refine wpAny_isTrue_Compare1 (thn (ha pins s σ H _ I h) fun v s1 ⟨x,H1,I1,r1,q1⟩=>thn (hb pins s1 σ H1 _ I1 q1) fun u s2 ⟨y,H2,I2,r2,q2⟩ =>
   thn (ho pins s2 σ H2 x y v u _ I2 r1 r2 q2) fun c s3 ⟨z,H3,I3,r3,k,e,q3⟩=>?_) hm
 subst e
 cases r3
 exact wpAny_truthy_bool ⟨H3,I3,q3⟩
noncomputable def tChain (r r':R2) (ta tb tc:TE):TE:=fun σ H Q=>ta σ H fun x H1=>tb σ H1 fun y H2=>r x y H2 fun z H3=>∃ k,z = .bl k /\
 (if k = true then tc σ H3 fun w' H4=>r' y w' H4 Q else Q (.bl false) H3)
theorem pe_chain {op op':CmpOp} {r r':R2} (ho:OpR X (compareOp op) r) (ho':OpR X (compareOp op') r') (ha:PE X a ta) (hb:PE X b tb) (hc:PE X c tc)
  (hm:lastMarks [op,op'] [b,c] = false:=by with_unfolding_all rfl):PE X (.Compare a [op,op'] [b,c] pos) (tChain r r' ta tb tc):=by
 intro pins s σ H Q I h
 refine Compare_chain (thn (ha pins s σ H _ I h) fun v s1 ⟨x,H1,I1,r1,q1⟩=>chain_link (thn (hb pins s1 σ H1 _ I1 q1) fun u s2 ⟨y,H2,I2,r2,q2⟩ =>
   thn (ho pins s2 σ H2 x y v u _ I2 r1 r2 q2) fun d s3 ⟨z,H3,I3,r3,k,e,q3⟩=>?_)) hm
 subst e
 cases r3
 refine wpAny_truthy_bool ?_
 cases k with
 | false=>exact ite_ff ⟨.bl false,H3,I3,rfl,q3⟩
 | true=>exact ite_tt (chain_last (thn (hc pins s3 σ H3 _ I3 q3) fun w' s4 ⟨z',H4,I4,r4,q4⟩=>ho' pins s4 σ H4 y z' u w' Q I4 r2 r4 q4))
theorem line63:(sizeLine:Nat) < 2 ^ 63:=by rw [sizeLine_eq]; decide
theorem vals1 {x:V} {us:List Value} (r:Vals [x] us):∃ u,us = [u] /\ RelV x u:=by
 cases r with
 | cons r1 r2=>cases r2; exact ⟨_,rfl,r1⟩
theorem vals2 {x y:V} {us:List Value} (r:Vals [x,y] us):∃ u w',us = [u,w'] /\ RelV x u /\ RelV y w':=by
 cases r with
 | cons r1 r2 =>
  cases r2 with
  | cons r3 r4=>cases r4; exact ⟨_,_,rfl,r1,r3⟩
theorem call_abs:CallR X (.builtin "abs") (fun xs H Q=>∃ i,xs = [.int i] /\ Q (.int (if i < 0 then -i else i)) H):=by
 intro pins s σ H xs us Q I r h
 obtain ⟨i,rfl,q⟩:=h
 obtain ⟨u,rfl,t,rfl⟩:=vals1 r
 exact call_abs_int fun u tk=>⟨.int (if i < 0 then -i else i),H,I.tok _,⟨_,rfl⟩,q⟩
theorem call_max2 (hc:X.calm = true):CallR X (.builtin "max") (fun xs H Q=>∃ i j,xs = [.int i,.int j] /\ Q (.int (if j > i then j else i)) H):=by
 intro pins s σ H xs us Q I r h
 obtain ⟨i,j,rfl,q⟩:=h
 obtain ⟨u,w',rfl,⟨t,rfl⟩,⟨t',rfl⟩⟩:=vals2 r
 refine max_two_ints (I.ok.hd hc) fun h' tk k=>⟨_,H,I.kept k,?_,q⟩
 by_cases hj:j > i
 ·rw [if_pos hj,if_pos hj]; exact ⟨_,rfl⟩
 ·rw [if_neg hj,if_neg hj]; exact ⟨_,rfl⟩
theorem call_min2 (hc:X.calm = true):CallR X (.builtin "min") (fun xs H Q=>∃ i j,xs = [.int i,.int j] /\ Q (.int (if j < i then j else i)) H):=by
 intro pins s σ H xs us Q I r h
 obtain ⟨i,j,rfl,q⟩:=h
 obtain ⟨u,w',rfl,⟨t,rfl⟩,⟨t',rfl⟩⟩:=vals2 r
 refine min_two_ints (I.ok.hd hc) fun h' tk k=>⟨_,H,I.kept k,?_,q⟩
 by_cases hj:j < i
 ·rw [if_pos hj,if_pos hj]; exact ⟨_,rfl⟩
 ·rw [if_neg hj,if_neg hj]; exact ⟨_,rfl⟩
theorem call_int1:CallR X (.type "int") (fun xs H Q=>(∃ i,xs = [.int i] /\ Q (.int i) H) \/ ∃ k,xs = [.bl k] /\ Q (.int (if k then 1 else 0)) H):=by
 intro pins s σ H xs us Q I r h
 rcases h with ⟨i,rfl,q⟩ | ⟨k,rfl,q⟩
 ·obtain ⟨u,rfl,t,rfl⟩:=vals1 r
  exact call_int_int ⟨.int i,H,I,⟨_,rfl⟩,q⟩
 ·obtain ⟨u,rfl,r1⟩:=vals1 r
  cases r1
  exact call_int_bool ⟨.int (if k then 1 else 0),H,I.tok _,⟨_,rfl⟩,q⟩
theorem call_str_int:CallR X (.type "str") (fun xs H Q=>∃ i,xs = [.int i] /\ i.natAbs.log2 < 1920 /\ Q (.str (toString i)) H):=by
 intro pins s σ H xs us Q I r h
 obtain ⟨i,rfl,hz,q⟩:=h
 obtain ⟨u,rfl,t,rfl⟩:=vals1 r
 exact PySem.P.str_of_int hz ⟨.str _,H,I.tok _,⟨_,rfl⟩,q⟩
end
end L2
namespace L2
open PySem PySem.Spec PyProof.Rows
structure ObjM (h:Heap) (x dx C:Addr) (mA:Str -> Option Value):Prop where
 obj:h.get? x = some (PySem.W.instObj C dx)
 ns:h.Ns1 dx mA
 ne:dx ≠ x
section
variable {prog:Program} {w:World} {A:Around} {E:Value -> Shared -> Prop} {s:Shared} {K:PySem.W.Frag} {x dx C f:Addr} {mA:Str -> Option Value} {name:Str} {v:Value}
end
theorem RelO.some_of {v:V} {o:Option Value} (r:RelO (some v) o):∃ u,o = some u /\ RelV v u:=by
 cases o with
 | none=>exact (show False from r).elim
 | some u=>exact ⟨u,rfl,r⟩
section
variable {P:Program} {w:World} {H H':Hp} {h h':Heap} {a C dx:Addr} {fs fs':List (Str × V)}
end
structure Cls (K:PySem.W.Frag) (C:Addr):Prop where
 pg:PySem.W.plainGet K C Str.empty = true
 hd:PySem.W.hasDictIn K C = true
 po:PySem.W.plainOver K C = true
 sa:PySem.W.findIn K (.ref C) "__setattr__" = some (some (.builtin "object.__setattr__"))
structure Con (K:PySem.W.Frag) (C:Addr) (f:Str) (v:V) (u:Value):Prop where
 at_:PySem.W.findIn K (.ref C) f = some (some u)
 rel:RelV v u
 get:PySem.W.specialIn K u "__get__" = some none
 cp:PySem.W.copiedNames.contains f = false
structure Meth (K:PySem.W.Frag) (C:Addr) (m:Str) (f:Addr):Prop where
 at_:PySem.W.findIn K (.ref C) m = some (some (.ref f))
 fn:PySem.W.isFn K (.ref f) = true
 kp:PySem.W.keepIn K (.ref f) = true
section
variable {X:Cx} {pins:List (Addr × Obj)} {σ:St} {H:Hp} {s:Shared} {a C dx:Addr} {fs:List (Str × V)} {f:Str} {v:V} {A:Around} {E:Value -> Shared -> Prop}
end
section
variable {X:Cx} {o e value:Expr} {f:Str} {pos pos' tpos:Pos} {ta tv:TE}
end
section
variable {X:Cx} {pins:List (Addr × Obj)} {σ:St} {H:Hp} {s:Shared} {A:Around} {E:Value -> Shared -> Prop} {Q:Value -> Shared -> Prop} {c:Value} {b:Bool}
inductive TyOf (K:PySem.W.Frag) (H:Hp):V -> Value -> Prop where
 | non:TyOf K H .non (.type "NoneType")
 | bl (x:Bool):TyOf K H (.bl x) (.type "bool")
 | int (i:Int):TyOf K H (.int i) (.type "int")
 | str (x:Str):TyOf K H (.str x) (.type "str")
 | flt (x:UInt64):TyOf K H (.flt x) (.type "float")
 | lst {a:Addr} {xs:List V} (e:H a = some (.lst xs)):TyOf K H (.ref a) (.type "list")
 | frz {a:Addr} {o:Obj} {xs:List V} (e:H a = some (.frz o (.lst xs))):TyOf K H (.ref a) (.type "list")
 | tup {a:Addr} {xs:List V} (e:H a = some (.tup xs)):TyOf K H (.ref a) (.type "tuple")
 | dK {a:Addr} {kvs:List (Key × V)} (e:H a = some (.dK kvs)):TyOf K H (.ref a) (.type "dict")
 | dT {a:Addr} {kvs:List (List Key × V)} (e:H a = some (.dT kvs)):TyOf K H (.ref a) (.type "dict")
 | ins {a C dx:Addr} {fs:List (Str × V)} (e:H a = some (.ins C dx fs)) (cl:Cls K C) (ha:PySem.W.findIn K (.ref C) "__class__" = some (some (.builtin "object.__class__")))
   (hn:PySem.W.specialIn K (.builtin "object.__class__") "__get__" = some (some (.builtin "getset_descriptor.__get__"))) (htk:PySem.W.takesIn K (.builtin "object.__class__") = some true)
   (hm:PySem.W.mroIn K C (.type "object") = some true):TyOf K H (.ref a) (.ref C)
end
end L2
namespace L2
open PySem PySem.Spec PyProof.Rows
structure Room (k:Nat) (A:Around):Prop where
 hd:A.handled = none
 dp:A.depth + 3 * k + 5 < recursionLimit
 un:A.units + 16 * k + 200 < cLine
 gd:A.guards = some []
theorem Room.mono {j k:Nat} {A:Around} (r:Room k A) (h:j <= k):Room j A:=⟨r.hd,by have:=r.dp; omega,by have:=r.un; omega,r.gd⟩
theorem Room.deeper {k:Nat} {A:Around} (r:Room (k + 1) A) (env:Env):Room k (A.deeper env) :=
 ⟨r.hd,by have:=r.dp; show A.depth + 1 + 3 * k + 5 < _; omega,by have:=r.un; show A.units + 3 + 16 * k + 200 < _; omega,r.gd⟩
theorem Room.depth {k:Nat} {A:Around} (r:Room k A):A.depth < recursionLimit:=by have:=r.dp; omega
theorem Room.units {k:Nat} {A:Around} (r:Room k A):A.units + 64 < cLine:=by have:=r.un; omega
noncomputable def tNil:TA:=fun _ H Q=>Q [] H
noncomputable def tCons (ta:TE) (tr:TA):TA:=fun σ H Q=>ta σ H fun x H1=>tr σ H1 fun xs H2=>Q (x :: xs) H2
section
variable {X:Cx} {e:Expr} {es:List Expr} {te:TE} {t:TA} {pos:Pos}
theorem pa_nil:PA X [] tNil:=fun _ _ _ _ H Q I h=>Calls.spliced_nil ⟨[],H,I,.nil,h⟩
theorem pa_cons (ha:PE X e te) (hr:PA X es t) (hs:starEach (e :: es) X.env = (false,eval e X.env) :: starEach es X.env:=by rfl):PA X (e :: es) (tCons te t):=by
 intro pos pins s σ H Q I h
 rw [hs]
 show wpAny _ _ (spliced ((false,eval e X.env) :: backTo pos (starEach es X.env))) _ _ s
 refine Calls.spliced_cons (thn (ha pins s σ H _ I h) fun u s1 ⟨x,H1,I1,r1,q1⟩=>?_)
 exact thn (hr pos pins s1 σ H1 _ I1 q1) fun us s2 ⟨xs,H2,I2,r2,q2⟩=>⟨x :: xs,H2,I2,.cons r1 r2,q2⟩
noncomputable def tTup (t:TA):TE:=fun σ H Q=>t σ H fun xs H1=>xs.length <= sizeLine /\ ∀ p,H1 p = none -> Q (.ref p) (upd H1 p (.tup xs))
noncomputable def tLst (t:TA):TE:=fun σ H Q=>t σ H fun xs H1=>xs.length <= sizeLine /\ ∀ p,H1 p = none -> Q (.ref p) (upd H1 p (.lst xs))
theorem pe_tup {x1} (h:PA X es t):PE X (.Tuple es x1 pos) (tTup t):=by
 intro pins s σ H Q I hq
 refine wpAny_Tuple_spliced (thn (h pos pins s σ H _ I hq) fun us s1 ⟨xs,H1,I1,r,z,q⟩=>⟨by rw [<- r.length]; exact z,?_⟩)
 have hf:H1 s1.heap.objs.size = none:=I1.hok.fresh (Nat.le_refl _)
 refine ⟨.ref s1.heap.objs.size,upd H1 s1.heap.objs.size (.tup xs),I1.laid (t':=s1.toks) (fun b u e=>Heap.get?_push_of_some _ e) (Nat.le_refl _) ?_,rfl,q _ hf⟩
 exact ⟨z,us,r,⟨_,Heap.get?_push_size _ rfl,rfl,_,rfl,rfl⟩⟩
theorem pe_lst (h:PA X es t):PE X (.List es pos) (tLst t):=by
 intro pins s σ H Q I hq
 refine wpAny_List_spliced (thn (h pos pins s σ H _ I hq) fun us s1 ⟨xs,H1,I1,r,z,q⟩=>⟨by rw [<- r.length]; exact z,?_⟩)
 have hf:H1 s1.heap.objs.size = none:=I1.hok.fresh (Nat.le_refl _)
 refine ⟨.ref s1.heap.objs.size,upd H1 s1.heap.objs.size (.lst xs),I1.laid (t':=s1.toks) (fun b u e=>Heap.get?_push_of_some _ e) (Nat.le_refl _) ?_,rfl,q _ hf⟩
 exact ⟨z,us,0,r,Heap.get?_push_size _ rfl⟩
end
noncomputable abbrev Sp:=List V -> Hp -> VK -> XK -> Prop
noncomputable abbrev CXT:=List Env -> Hp -> Shared -> XK -> Value -> Shared -> Prop
structure Env0 (P:Program) (w:World) (K:PySem.W.Frag) (mg:Str -> Option Value) (base:Heap) (A:Around) (outer:List Env) (s:Shared) (H:Hp):Prop where
 frames:A.frames = some outer
 mod:Mod K mg base
 bs:∀ b o,base.get? b = some o -> s.heap.get? b = some o /\ H b = none
 bsz:base.objs.size <= s.heap.objs.size
 funs:s.heap.FunFrames base outer
 frf:∀ b ∈ frs outer,H b = none
 hok:HOk P w H s.heap
 bare:AllBare s.gens
noncomputable def CE (outer:List Env) (P:Program) (w:World) (H:Hp) (s:Shared) (Q:VK) (u:Value) (s':Shared):Prop :=
 ∃ v H',s'.os = s.os /\ AllBare s'.gens /\ Un (frs outer) [] H H' s.heap s'.heap /\ HOk P w H' s'.heap /\ RelV v u /\ Q v H'
noncomputable def CR (CX:CXT) (outer:List Env) (P:Program) (w:World) (H:Hp) (s:Shared) (Q:VK) (E:XK) (r:Result) (s':Shared):Prop :=
 match r with
 | .ok (.ret u)=>CE outer P w H s Q u s'
 | .ok _=>False
 | .error e=>CX outer H s E e s'
structure FnOk (P:Program) (w:World) (K:PySem.W.Frag) (mg:Str -> Option Value) (base:Heap) (CX:CXT) (k:Nat) (f:Addr) (fd:FuncData) (ps:List Str) (sp:Sp):Prop where
 len:∀ vs H Q E,sp vs H Q E -> vs.length = ps.length
 run:∀ (A:Around) (outer:List Env) (s:Shared) (H:Hp) (args:Args) (us:List Value) (vs:List V) (Q:VK) (E:XK),Room k A -> Env0 P w K mg base A outer s H -> BindsTo s fd args (ps.zip us) -> Vals vs us -> sp vs H Q E ->
  codeAny (model P w) A (.call (.ref f) args) (CR CX outer P w H s Q E) s
section
variable {X:Cx} {pins:List (Addr × Obj)} {σ:St} {H:Hp} {s s':Shared}
theorem Inv.env0 (I:Inv X pins σ H s):Env0 X.prog X.w X.K X.mg X.base X.A X.stack s H :=
 ⟨I.ok.frames,I.ok.mod,I.bs,Nat.le_trans I.ok.bsz I.sz,I.stack,I.stkFree,I.hok,I.bare⟩
theorem Inv.after {Q:VK} {u:Value} (I:Inv X pins σ H s) (h:CE X.stack X.prog X.w H s Q u s'):EP X pins σ Q u s':=by
 obtain ⟨v,H',os,bare,un,hok,r,q⟩:=h
 obtain ⟨hh,g,d,t,os'⟩:=s'
 obtain rfl:os' = s.os:=os
 exact ⟨v,H',I.call (h':=hh) (g':=g) (d':=d) (t':=t) (ch:=[]) un hok bare (fun b z=>absurd z (by simp)),r,q⟩
end
noncomputable def tCall (sp:Sp) (dvs:List V) (E:XK) (t:TA):TE:=fun σ H Q=>t σ H fun vs H1=>sp (vs ++ dvs) H1 Q E
noncomputable def Binds (K:PySem.W.Frag) (fd:FuncData) (ps:List Str) (ds:List Value):Prop :=
 ∀ (s:Shared) (us:List Value),K.In s.heap -> (us ++ ds).length = ps.length -> BindsTo s fd ⟨us,[]⟩ (ps.zip (us ++ ds))
theorem Binds.all {K:PySem.W.Frag} {fd:FuncData} {ps:List Str} (h:∀ us:List Value,us.length = ps.length -> bindArgs fd ⟨us,[]⟩ = pure (ps.zip us)):Binds K fd ps []:=fun s us _ hl=>by
 rw [List.append_nil] at hl ⊢
 exact .of_eq (h us hl)
noncomputable def Passes (CX:CXT) (X:Cx) (E:XK):Prop:=∀ (pins:List (Addr × Obj)) (σ:St) (H:Hp) (s:Shared) (e:Value) (s':Shared),Inv X pins σ H s -> CX X.stack H s E e s' -> X.xe e s'
section
variable {X:Cx} {CX:CXT} {k:Nat} {f C:Addr} {fd:FuncData} {ps:List Str} {sp:Sp} {dvs:List V} {ds:List Value} {E:XK} {x m:Str} {p pos apos:Pos} {e o:Expr} {es:List Expr} {ta:TE} {t:TA}
theorem run_fn {pins:List (Addr × Obj)} {σ:St} {H:Hp} {s:Shared} {Q:VK} {us:List Value} {vs:List V} (F:FnOk X.prog X.w X.K X.mg X.base CX k f fd ps sp) (hr:Room k X.A) (hb:Binds X.K fd ps ds) (hd:Vals dvs ds) (hx:Passes CX X E)
  (I:Inv X pins σ H s) (r:Vals vs us) (h:sp (vs ++ dvs) H Q E):wpAny (model X.prog X.w) X.A (call (.ref f) us) (EP X pins σ Q) X.xe s:=by
 have r2:Vals (vs ++ dvs) (us ++ ds):=r.append hd
 have hl:(us ++ ds).length = ps.length:=by rw [<- r2.length]; exact F.len _ _ _ _ h
 refine wpAny_call (codeAny_mono (F.run X.A X.stack s H ⟨us,[]⟩ (us ++ ds) (vs ++ dvs) Q E hr I.env0 (hb s us I.kIn hl) r2 h) fun r s' hq=>?_)
 cases r with
 | error e=>exact hx pins σ H s e s' I hq
 | ok fl =>
  cases fl with
  | ret u=>exact I.after hq
  | next=>exact False.elim hq
  | brk=>exact False.elim hq
  | cont=>exact False.elim hq
theorem pe_call (F:FnOk X.prog X.w X.K X.mg X.base CX k f fd ps sp) (hr:Room k X.A) (hg:Gl X x) (hm:X.mg x = some (.ref f)) (hk:PySem.W.keepIn X.K (.ref f) = true) (hb:Binds X.K fd ps ds) (hd:Vals dvs ds) (hx:Passes CX X E)
  (ha:PA X (e :: es) t) (hdb:(x == ("__debug__":Str)) = false:=by decide) (he:starEach (e :: es) X.env = (false,eval e X.env) :: starEach es X.env:=by rfl) (hpl:(backTo pos (starEach es X.env)).any (·.1) = false:=by rfl) :
  PE X (.Call (.Name x p) (e :: es) [] pos) (tCall sp dvs E t):=by
 intro pins s σ H Q I h
 refine wpAny_Call_Name_kw (ld_glob I hg hm ?_ hdb)
 refine PySem.W.callWith_K (h₀:=X.base) I.ok.mod.kin hk (thn (ha pos pins s σ H _ I h) fun us s1 ⟨vs,H1,I1,r,q⟩=>⟨I1.kIn,?_⟩) he hpl
 exact run_fn F hr hb hd hx I1 r q
structure Mk (K:PySem.W.Frag) (C f:Addr):Prop where
 makes:PySem.W.makesIn K C = true
 init:PySem.W.findIn K (.ref C) "__init__" = some (some (.ref f))
 fn:PySem.W.isFn K (.ref f) = true
 kp:PySem.W.keepIn K (.ref C) = true
end
section
variable {X:Cx} {CX:CXT} {k:Nat} {f C:Addr} {fd:FuncData} {ps ks:List Str} {sp:Sp} {E:XK} {x m:Str} {p pos apos kpos:Pos} {e o:Expr} {es:List Expr} {kws:List Keyword} {te ta:TE} {t tk:TA} {nm:Option Str}
structure KBinds (K:PySem.W.Frag) (fd:FuncData) (ps ks:List Str) (g:List Value -> List Value -> List Value) (gV:List V -> List V -> List V):Prop where
 to:∀ (s:Shared) (us ws:List Value),K.In s.heap -> (g us ws).length = ps.length -> BindsTo s fd ⟨us,ks.zip ws⟩ (ps.zip (g us ws))
 rel:∀ {vs:List V} {us:List Value} {zs:List V} {ws:List Value},Vals vs us -> Vals zs ws -> Vals (gV vs zs) (g us ws)
variable {g:List Value -> List Value -> List Value} {gV:List V -> List V -> List V}
end
structure FnScope (N P:List Str) (sc:Scope):Prop where
 kind:sc.kind = .function
 co:sc.isCoroutine = false
 gen:sc.isGenerator = false
 nd:N.Nodup
 pre:N.take P.length = P
 par:∀ x ∈ P,sc.names.lookup x = some .local \/ sc.names.lookup x = some .cell
 nofree:∀ y ∈ sc.names,y.2 ≠ .free
theorem bindL_out {kindOf:Str -> Option NameKind} {x:Str}:∀ {binds:List (Str × Value)} {m:Str -> Option Value},(∀ v,(x,v) ∉ binds) -> bindL kindOf binds m x = m x
 | [],_,_=>rfl
 | (n,v) :: r,m,h=>by
  unfold bindL
  rw [bindL_out fun w hw=>h w (List.mem_cons_of_mem _ hw)]
  split
  ·have:x ≠ n:=by rintro rfl; exact h v List.mem_cons_self
   simp [this]
  ·rfl
theorem bindC_out {kindOf:Str -> Option NameKind} {x:Str}:∀ {binds:List (Str × Value)} {m:Str -> Option Value},(∀ v,(x,v) ∉ binds) -> bindC kindOf binds m x = m x
 | [],_,_=>rfl
 | (n,v) :: r,m,h=>by
  unfold bindC
  rw [bindC_out fun w hw=>h w (List.mem_cons_of_mem _ hw)]
  split
  ·rfl
  ·have:x ≠ n:=by rintro rfl; exact h v List.mem_cons_self
   simp [this]
theorem bindL_get {kindOf:Str -> Option NameKind} {x:Str} {v:Value}:∀ {P:List Str} {vs:List Value} {i:Nat} {m:Str -> Option Value},P.Nodup -> P[i]? = some x -> vs[i]? = some v -> kindOf x = some .local ->
  bindL kindOf (P.zip vs) m x = some v
 | [],_,_,_,_,h,_,_=>by simp at h
 | _ :: _,[],_,_,_,_,h,_=>by simp at h
 | p :: P,w :: vs,0,m,nd,h1,h2,hk=>by
  simp at h1 h2; subst h1; subst h2
  show bindL kindOf ((p,w) :: P.zip vs) m p = _
  unfold bindL
  rw [bindL_out fun v hv=>(List.nodup_cons.mp nd).1 (List.of_mem_zip hv).1,if_pos hk]
  simp
 | p :: P,w :: vs,i + 1,m,nd,h1,h2,hk=>by
  show bindL kindOf ((p,w) :: P.zip vs) m x = _
  unfold bindL
  exact bindL_get (i:=i) (List.nodup_cons.mp nd).2 (by simpa using h1) (by simpa using h2) hk
theorem bindC_get {kindOf:Str -> Option NameKind} {x:Str} {v:Value}:∀ {P:List Str} {vs:List Value} {i:Nat} {m:Str -> Option Value},P.Nodup -> P[i]? = some x -> vs[i]? = some v -> kindOf x ≠ some .local ->
  bindC kindOf (P.zip vs) m x = some v
 | [],_,_,_,_,h,_,_=>by simp at h
 | _ :: _,[],_,_,_,_,h,_=>by simp at h
 | p :: P,w :: vs,0,m,nd,h1,h2,hk=>by
  simp at h1 h2; subst h1; subst h2
  show bindC kindOf ((p,w) :: P.zip vs) m p = _
  unfold bindC
  rw [bindC_out fun v hv=>(List.nodup_cons.mp nd).1 (List.of_mem_zip hv).1,if_neg hk]
  simp
 | p :: P,w :: vs,i + 1,m,nd,h1,h2,hk=>by
  show bindC kindOf ((p,w) :: P.zip vs) m x = _
  unfold bindC
  exact bindC_get (i:=i) (List.nodup_cons.mp nd).2 (by simpa using h1) (by simpa using h2) hk
noncomputable def start (N:List Str) (vs:List V):St:=vs.map some ++ List.replicate (N.length - vs.length) none
noncomputable def cxOf (CX:CXT) (P:Program) (w:World) (K:PySem.W.Frag) (mg:Str -> Option Value) (base:Heap) (N:List Str) (qual:Str) (scope:Scope) (f:Addr) (cd:Value) (A:Around) (outer:List Env) (s:Shared) (H:Hp) (E:XK):Cx where
 prog:=P
 w:=w
 K:=K
 mg:=mg
 base:=base
 A:=A.deeper (envOfC qual scope s.heap.objs.size f cd)
 N:=N
 s₀:=s
 H₀:=H
 env:=envOfC qual scope s.heap.objs.size f cd
 outer:=outer
 stack:=envOfC qual scope s.heap.objs.size f cd :: outer
 ex:=[]
 calm:=true
 fn:=fun _=>true
 pn:=[]
 xe:=fun e s'=>wpAny (model P w) (A.deeper (envOfC qual scope s.heap.objs.size f cd)) (leaving (envOfC qual scope s.heap.objs.size f cd) e) (fun _ s''=>CX outer H s E e s'') (fun e' s''=>CX outer H s E e' s'') s'
theorem cell_has {sc:Scope} {n:Nat} {x:Str} (h:sc.names.lookup x = some .cell):∃ c,(cellsFrom n sc.names []).lookup x = some c:=by
 have q:=PySem.W.cellsFrom_some sc.names n [] (.inl h)
 exact Option.isSome_iff_exists.mp q
theorem inv_start {CX:CXT} {P:Program} {w:World} {K:PySem.W.Frag} {mg:Str -> Option Value} {base:Heap} {N ps:List Str} {qual:Str} {scope:Scope} {f:Addr} {cd:Value} {A:Around} {outer:List Env} {s s1:Shared} {H:Hp} {E:XK} {us:List Value} {vs:List V}
  (S:FnScope N ps scope) (hd:A.handled = none) (e0:Env0 P w K mg base A outer s H) (hl:vs.length = ps.length) (r:Vals vs us)
  (x:InCallC s s.heap.objs.size (bindL (envOfC qual scope s.heap.objs.size f cd).kindOf (ps.zip us) fun _=>none) (cellsFrom (s.heap.objs.size + 1) scope.names []) (bindC (envOfC qual scope s.heap.objs.size f cd).kindOf (ps.zip us) fun _=>none) s1) :
  Inv (cxOf CX P w K mg base N qual scope f cd A outer s H E) [] (start N vs) H s1:=by
 have hpl:ps.length <= N.length:=by have:=congrArg List.length S.pre; rw [List.length_take] at this; omega
 obtain ⟨h1,tk,rfl,hk⟩:=x.done
 have noA:∀ b:Addr,b ∉ (cxOf CX P w K mg base N qual scope f cd A outer s H E).ex:=fun b z=>absurd (show b ∈ ([]:List Addr) from z) (by simp)
 refine ⟨⟨e0.mod,S.kind,rfl,rfl,Nat.le_refl _,fun y z c h1 h2=>?_,fun y hy=>?_,fun y c _ h=>?_,fun _=>hd,Around.frames_deeper e0.frames,.inr ⟨rfl,rfl⟩,fun b z=>absurd z (noA b),e0.bs,e0.bsz,fun b _ _=>noA b,fun b z=>absurd z (noA b),e0.funs,e0.frf⟩,
   rfl,e0.bare,Un.kept hk,⟨_,x.toInCall.ns,fun i y v h1 h2 h3=>?_⟩,fun y c h=>⟨_,x.cell y c h⟩,e0.hok.fresh (Nat.le_refl _),fun y c h=>?_,fun p hp=>absurd (show p ∈ ([]:List (Addr × Obj)) from hp) (by simp),e0.hok.kept hk,?_⟩
 ·exact name_of_addr x.apart (PySem.mem_of_lookup h1) (PySem.mem_of_lookup h2)
 ·have hy:scope.names.lookup y = some .cell \/ scope.names.lookup y = some .free:=hy
  rcases hy with hy | hy
  ·exact cell_has hy
  ·exact absurd rfl (S.nofree _ (PySem.mem_of_lookup hy))
 ·exact Nat.le_of_lt (x.above y c (PySem.mem_of_lookup h))
 ·have hi:i < vs.length:=by
   unfold start at h2
   by_cases hi:i < vs.length
   ·exact hi
   ·rw [List.getElem?_append_right (by simpa using hi)] at h2
    rw [List.getElem?_replicate] at h2
    split at h2 <;> cases h2
  have ha:vs[i]? = some v:=by
   unfold start at h2
   rw [List.getElem?_append_left (by simpa using hi),List.getElem?_map] at h2
   cases e:vs[i]? with
   | none=>rw [e] at h2; cases h2
   | some a=>rw [e] at h2; cases h2; rfl
  obtain ⟨u,hu,rv⟩:=r.get ha
  have hp:ps[i]? = some y:=by
   rw [<- S.pre,List.getElem?_take_of_lt (by omega)]; exact h1
  have ndP:ps.Nodup:=by rw [<- S.pre]; exact S.nd.sublist (List.take_sublist _ _)
  refine ⟨u,rv,?_⟩
  rcases S.par y (List.mem_of_getElem? hp) with k | k
  ·exact .inl ⟨k,bindL_get ndP hp hu k⟩
  ·obtain ⟨c,e⟩:=cell_has (n:=s.heap.objs.size + 1) k
   refine .inr ⟨.inl k,c,e,?_⟩
   have q:=x.cell y c e
   rw [bindC_get ndP hp hu (by show scope.names.lookup y ≠ _; rw [k]; decide)] at q
   exact q
 ·exact e0.hok.fresh (Nat.le_of_lt (x.above y c (PySem.mem_of_lookup h)))
 ·unfold start
  show _ = N.length
  rw [List.length_append,List.length_map,List.length_replicate]
  omega
theorem fn_of {CX:CXT} {P:Program} {w:World} {K:PySem.W.Frag} {mg:Str -> Option Value} {base:Heap} {k:Nat} {f:Addr} {name qual:Str} {params:Arguments} {body:List Stmt} {scope:Scope} {dV kV doc pm cdv ct oc:Value} {an od:Option Addr}
  {osl:Array (Option Value)} {N ps:List Str} {sp:Sp} (lk:K.lookup f = some ⟨oc,od,.func (PySem.W.fnOf name qual params body scope dV kV doc pm an cdv ct),osl⟩) (hcd:PySem.W.codeIn K cdv qual = true) (S:FnScope N ps scope)
  (len:∀ vs H Q E,sp vs H Q E -> vs.length = ps.length)
  (hbody:∀ (A:Around) (outer:List Env) (s:Shared) (H:Hp) (vs:List V) (Q:VK) (E:XK),Room k (A.deeper (envOfC qual scope s.heap.objs.size f cdv)) -> sp vs H Q E ->
    ∃ t,PSs (cxOf CX P w K mg base N qual scope f cdv A outer s H E) body t /\ t { nx:=fun _ H'=>Q .non H',rt:=Q } (start N vs) H) :
  FnOk P w K mg base CX (k + 1) f (PySem.W.fnOf name qual params body scope dV kV doc pm an cdv ct) ps sp:=by
 refine ⟨len,fun A outer s H args us vs Q E hr e0 hb r hsp=>?_⟩
 have hl:=len _ _ _ _ hsp
 have KX:K.In s.heap:=e0.mod.kin.keeps fun b o e=>(e0.bs b o e).1
 have lim:s.heap.NoLimit:=e0.mod.nolimit.keeps fun b o e=>(e0.bs b o e).1
 have hkind:∀ y ∈ ps.zip us,scope.names.lookup y.1 = some .local \/ (scope.names.lookup y.1 = some .cell /\ ((cellsFrom (s.heap.objs.size + 1) scope.names []).lookup y.1).isSome = true):=fun ⟨n,v⟩ hy=>by
  rcases S.par n (List.of_mem_zip hy).1 with q | q
  ·exact .inl q
  ·exact .inr ⟨q,PySem.W.cellsFrom_some _ _ _ (.inl q)⟩
 refine codeAny_call_function hr.depth (KX _ _ lk) rfl S.co S.gen rfl (PySem.W.codeRec_of KX hcd) (hb _ _ _ _ ?_)
 refine wpAny_newFunctionEnv_cells S.kind hkind fun env he s1 x=>?_
 subst he
 refine ⟨lim.keeps x.toInCall.keep,codeAny_func ?_⟩
 obtain ⟨t,ht,hq⟩:=hbody A outer s H vs Q E (hr.deeper _) hsp
 have I:Inv (cxOf CX P w K mg base N qual scope f cdv A outer s H E) [] (start N vs) H s1:=inv_start S hr.hd e0 hl r x
 refine wpAny_mono (ht [] s1 (start N vs) H _ I hq) (fun fl s' hs=>?_) fun e s' hs=>hs
 have fin:∀ {σ':St} {H':Hp} {v:V} {u:Value},Inv (cxOf CX P w K mg base N qual scope f cdv A outer s H E) [] σ' H' s' -> RelV v u -> Q v H' -> CE outer P w H s Q u s' :=
  fun {σ' H' v u} J rv q=>⟨v,H',J.os,J.bare,J.base,J.hok,rv,q⟩
 cases fl with
 | ret u =>
  obtain ⟨v,σ',H',J,rv,q⟩:=hs
  exact fin J rv q
 | next =>
  obtain ⟨σ',H',J,q⟩:=hs
  exact fin (v:=V.non) (u:=Value.none) J rfl q
 | brk =>
  obtain ⟨_,_,_,q⟩:=hs
  exact False.elim q
 | cont =>
  obtain ⟨_,_,_,q⟩:=hs
  exact False.elim q
end L2
namespace L2
open PySem PySem.Spec PyProof.Rows
section
variable {X:Cx} {x:Str} {p pos:Pos} {e:Expr} {es:List Expr} {t:TA} {id T:String} {r:List V -> Hp -> VK -> Prop}
noncomputable def tCB (r:List V -> Hp -> VK -> Prop) (t:TA):TE:=fun σ H Q=>t σ H fun vs H1=>r vs H1 Q
theorem pe_callB (hc:CallR X (.builtin id) r) (hg:Gl X x) (hm:X.mg x = none) (hv:bootBuiltins x = some (.builtin id)) (ha:PA X (e :: es) t) (hn:x ≠ "__name__":=by decide) (hdb:(x == ("__debug__":Str)) = false:=by decide)
  (he:starEach (e :: es) X.env = (false,eval e X.env) :: starEach es X.env:=by rfl) (hpl:(backTo pos (starEach es X.env)).any (·.1) = false:=by rfl):PE X (.Call (.Name x p) (e :: es) [] pos) (tCB r t):=by
 intro pins s σ H Q I h
 refine wpAny_Call_Name_kw (ld_blt I hg hm hv ?_ hn hdb)
 exact PyProof.Rows.callWith_builtin1 (thn (ha pos pins s σ H _ I h) fun us s1 ⟨vs,H1,I1,r1,q1⟩=>hc pins s1 σ H1 vs us Q I1 r1 q1) he hpl
theorem pe_callTy (hc:CallR X (.type T) r) (hg:Gl X x) (hm:X.mg x = none) (hv:bootBuiltins x = some (.type T)) (ha:PA X (e :: es) t) (hn:x ≠ "__name__":=by decide) (hdb:(x == ("__debug__":Str)) = false:=by decide)
  (he:starEach (e :: es) X.env = (false,eval e X.env) :: starEach es X.env:=by rfl) (hpl:(backTo pos (starEach es X.env)).any (·.1) = false:=by rfl):PE X (.Call (.Name x p) (e :: es) [] pos) (tCB r t):=by
 intro pins s σ H Q I h
 refine wpAny_Call_Name_kw (ld_blt I hg hm hv ?_ hn hdb)
 exact PyProof.Rows.callWith_type1 (thn (ha pos pins s σ H _ I h) fun us s1 ⟨vs,H1,I1,r1,q1⟩=>hc pins s1 σ H1 vs us Q I1 r1 q1) he hpl
end
end L2
namespace HT
open PySem PyProof.Rows
section
open PySem.SeqAt
open PySem.AutoSeq1 (wpAny_loadPart')
open PySem.MeetsSeq PySem.MeetsSeq2 PySem.MeetsSeq3
end
section
variable {prog:Program} {w:World} {A:Around} {E:Value -> Shared -> Prop} {s:Shared}
theorem cat_tup {t b:Addr} {vs ws:List Value} {Q:Value -> Shared -> Prop} (ht:IsTup s.heap t vs.toArray) (hb:IsTup s.heap b ws.toArray) (hv:vs ≠ [])
  (h1:ws = [] -> Q (.ref t) s) (h2:ws ≠ [] -> Q (.ref s.heap.objs.size) { s with heap:=s.heap.push { cls:=.type "tuple",data:=.seq (vs ++ ws).toArray } })
  (hsz:vs.length + ws.length <= sizeLine):wpAny (model prog w) A (binaryOp .Add (.ref t) (.ref b)) Q E s:=by
 obtain ⟨⟨cls,dd,data,sl⟩,ho,hc,n,hd⟩:=id ht
 obtain ⟨⟨cls2,dd2,data2,sl2⟩,ho2,hc2,n2,hd2⟩:=id hb
 simp only at hc hd hc2 hd2
 subst hc hd hc2 hd2
 have e:vs.toArray ++ ws.toArray = (vs ++ ws).toArray:=by simp
 by_cases hw:ws = []
 ·exact concat_meets ⟨_,ho,rfl⟩ ⟨_,ho2,rfl⟩ noFill_tuple_add seq_tuple_add PySem.F.slot_tuple_add PySem.F.entry_tuple_add (PySem.F.args_tuple_add_2 _ _)
   (tuple_addW1 t b vs.toArray ws.toArray n n2 dd dd2 sl sl2 (by simpa using hv) (by simp [hw])) ⟨ho,ho2,h1 hw⟩
 ·refine concat_meets ⟨_,ho,rfl⟩ ⟨_,ho2,rfl⟩ noFill_tuple_add seq_tuple_add PySem.F.slot_tuple_add PySem.F.entry_tuple_add (PySem.F.args_tuple_add_2 _ _)
   (tuple_addW2 t b vs.toArray ws.toArray n n2 dd dd2 sl sl2 (by simpa using hv) (by simpa using hw) (by rw [List.size_toArray,List.size_toArray]; exact hsz)) ⟨ho,ho2,?_⟩
  rw [e]
  exact h2 hw
noncomputable def sIx (n d:Nat):Option Int -> Nat
 | none=>d
 | some v=>if v < 0 then (v + (n:Int)).toNat else min v.toNat n
theorem sIx_le (n d:Nat) (hd:d <= n) (o:Option Int):sIx n d o <= n:=by
 cases o with
 | none=>exact hd
 | some v =>
  show (if v < 0 then (v + (n:Int)).toNat else min v.toNat n) <= n
  by_cases hv:v < 0
  ·rw [if_pos hv]; omega
  ·rw [if_neg hv]; exact Nat.min_le_right _ _
theorem clip_eq (v:Int) (n d:Nat):(if v < 0 then max (v + (n:Int)) 0 else min v (n:Int)) = ((sIx n d (some v):Nat):Int):=by
 show (if v < 0 then max (v + (n:Int)) 0 else min v (n:Int)) = (((if v < 0 then (v + (n:Int)).toNat else min v.toNat n):Nat):Int)
 by_cases hv:v < 0
 ·simp only [if_pos hv]; omega
 ·simp only [if_neg hv]; omega
theorem adjust_gen (lo hi:Option Int) (n:Nat):Builtin.Slice.sliceAdjust lo hi 1 (n:Int) = (((sIx n 0 lo:Nat):Int),((sIx n n hi:Nat):Int)):=by
 have h1:¬ ((1:Int) < 0):=by omega
 unfold Builtin.Slice.sliceAdjust
 simp only [h1,if_false]
 refine Prod.ext ?_ ?_
 ·cases lo with
  | none=>rfl
  | some v=>exact clip_eq v n 0
 ·cases hi with
  | none=>rfl
  | some v=>exact clip_eq v n n
theorem places_gen (i j:Nat):Builtin.Slice.slicePlaces (i:Int) (j:Int) 1 = j - i:=by
 unfold Builtin.Slice.slicePlaces
 have h1:(1:Int) > 0:=by omega
 simp only [h1,if_true,Int.ediv_one]
 split <;> omega
theorem slicePart_ {v:Value} {o:Option Int} {Q:Option Int -> Shared -> Prop} (p:IsPart v o) (h:Q o s):wpAny (model prog w) A (Builtin.Slice.slicePartIndex v) Q E s:=by
 cases p with
 | none=>exact slicePart_none h
 | int i t=>exact slicePart_int h
theorem sliceApplied_gen {sl:Addr} {vl vu:Value} {lo hi:Option Int} {n:Nat} {Q:Int × Int × Nat -> Shared -> Prop} (hs:s.heap.IsSliceOf sl vl vu .none) (pl:IsPart vl lo) (pu:IsPart vu hi)
  (h:Q (((sIx n 0 lo:Nat):Int),1,sIx n n hi - sIx n 0 lo) s):wpAny (model prog w) A (Builtin.Slice.sliceApplied (.ref sl) (pure (n:Int))) Q E s:=by
 obtain ⟨os,hos,hcs,hds⟩:=id hs
 unfold Builtin.Slice.sliceApplied Builtin.Slice.sliceFields
 refine wpAny_bind (wpAny_bind (wpAny_field hos hds (x:=vl) rfl (wpAny_bind (wpAny_field hos hds (x:=vu) rfl (wpAny_bind (wpAny_field hos hds (x:=.none) rfl (wpAny_pure ?_)))))))
 refine wpAny_bind (slicePart_none ?_)
 show wpAny _ _ (if ((1:Int) == 0) = true then _ else _) _ _ s
 rw [if_neg (by decide)]
 refine wpAny_bind (slicePart_ pl (wpAny_bind (slicePart_ pu (wpAny_bind (wpAny_pure ?_)))))
 show wpAny _ _ (match Builtin.Slice.sliceAdjust lo hi 1 (n:Int) with | (lo,hi)=>pure (lo,(1:Int),Builtin.Slice.slicePlaces lo hi 1)) _ _ s
 rw [adjust_gen lo hi n]
 show wpAny _ _ (pure (((sIx n 0 lo:Nat):Int),(1:Int),Builtin.Slice.slicePlaces ((sIx n 0 lo:Nat):Int) ((sIx n n hi:Nat):Int) 1)) _ _ s
 rw [places_gen]
 exact wpAny_pure h
theorem pick_gen (xs:Array Value) (i k:Nat):((List.range k).filterMap fun (m:Nat)=>xs[((i:Int) + (m:Int) * 1).toNat]?).toArray = ((xs.toList.drop i).take k).toArray:=by
 have e:(fun (m:Nat)=>xs[((i:Int) + (m:Int) * 1).toNat]?) = fun m=>xs[i + m]?:=by
  funext m
  have:((i:Int) + (m:Int) * 1).toNat = i + m:=by omega
  rw [this]
 rw [e]
 have:=pick_run xs i k
 rw [List.filterMap_map] at this
 have e2:((fun x=>xs[x]?) ∘ fun x=>i + x) = fun m=>xs[i + m]?:=rfl
 rw [e2] at this
 rw [this]
theorem getItem_tuple_cut {t sl:Addr} {items:Array Value} {vl vu:Value} {lo hi:Option Int} {Q:Value -> Shared -> Prop} (ht:IsTup s.heap t items) (hs:s.heap.IsSliceOf sl vl vu .none) (pl:IsPart vl lo) (pu:IsPart vu hi)
  (hw:¬ (sIx items.size 0 lo = 0 /\ sIx items.size items.size hi = items.size))
  (h:Q (.ref s.heap.objs.size) { s with heap:=s.heap.push { cls:=.type "tuple",data:=.seq ((items.toList.drop (sIx items.size 0 lo)).take (sIx items.size items.size hi - sIx items.size 0 lo)).toArray } })
  (hsz:items.size <= sizeLine):wpAny (model prog w) A (getItem (.ref t) (.ref sl)) Q E s:=by
 have htake:sizeOk (.seq ((items.toList.drop (sIx items.size 0 lo)).take (sIx items.size items.size hi - sIx items.size 0 lo)).toArray):=by
  show ((items.toList.drop (sIx items.size 0 lo)).take (sIx items.size items.size hi - sIx items.size 0 lo)).toArray.size <= sizeLine
  rw [List.size_toArray,List.length_take,List.length_drop,Array.length_toList]
  omega
 have hj:sIx items.size items.size hi <= items.size:=sIx_le _ _ (Nat.le_refl _) hi
 obtain ⟨os,hos,hcs,hds⟩:=id hs
 have hTs:s.TypeIs (.ref sl) "slice":=⟨os,hos,hcs⟩
 unfold getItem
 try with_reducible refine wpAny_holding ?_
 first | refine wpAny_bind (wpAny_pure ?_) | skip
 refine wpAny_bind (wpAny_sequenceKey ht.typeIs (by decide) ?_)
 refine wpAny_bind (wpAny_callSpecial?_slot (name:=Str.ofString "__getitem__") ht.typeIs PyProof.Rows.slot_tuple_getitem
   (wpAny_call_entry PyProof.Rows.slot_tuple_getitem ht.typeIs entry_tuple_getitem ?_ (args_tuple_getitem _ _)))
 show wpAny _ _ (Builtin.Tuple.tupleItemsOf (.ref t) >>= _) _ _ s
 refine wpAny_bind (tupleItemsOf_ ht ?_)
 refine wpAny_bind (wpAny_typeOf hTs ?_)
 rw [if_pos (by decide)]
 refine wpAny_bind (sliceApplied_gen hs pl pu ?_)
 have hno:¬ ((((sIx items.size 0 lo:Nat):Int) == 0 && (1:Int) == 1 && (sIx items.size items.size hi - sIx items.size 0 lo) == items.size) = true):=by
  intro q
  rw [Bool.and_eq_true,Bool.and_eq_true] at q
  have q1:((sIx items.size 0 lo:Nat):Int) = 0:=eq_of_beq q.1.1
  have q2:sIx items.size items.size hi - sIx items.size 0 lo = items.size:=eq_of_beq q.2
  exact hw ⟨by omega,by omega⟩
 show wpAny _ _ (if (((sIx items.size 0 lo:Nat):Int) == 0 && (1:Int) == 1 && (sIx items.size items.size hi - sIx items.size 0 lo) == items.size) = true then _ else _) _ _ s
 rw [if_neg hno,pick_gen]
 first
  | exact wpAny_bind (m:=Builtin.Tuple.tupleExact _) (wpAny_newObj_type (wpAny_pure ⟨_,rfl,wpAny_pure h⟩) htake)
  | exact wpAny_bind (m:=Builtin.Tuple.tupleExact _) (wpAny_newObj_type (wpAny_bind (wpAny_pure (wpAny_pure ⟨_,rfl,wpAny_pure h⟩))) htake)
  | exact wpAny_bind (wpAny_bind (m:=Builtin.Tuple.tupleExact _) (wpAny_newObj_type (wpAny_pure (wpAny_pure ⟨_,rfl,wpAny_pure h⟩)) htake))
  | exact wpAny_bind (wpAny_bind (m:=Builtin.Tuple.tupleExact _) (wpAny_newObj_type (wpAny_pure ⟨_,rfl,wpAny_pure h⟩) htake))
end
end HT
namespace L2
open PySem PySem.Spec PyProof.Rows
noncomputable abbrev TO:=St -> Hp -> (Option Int -> Hp -> Prop) -> Prop
noncomputable def PO (X:Cx) (e:Option Expr) (t:TO):Prop :=
 ∀ (pins:List (Addr × Obj)) (s:Shared) (σ:St) (H:Hp) (Q:Option Int -> Hp -> Prop),Inv X pins σ H s -> t σ H Q ->
  wpAny (model X.prog X.w) X.A (evalPart e X.env) (fun u s'=>∃ o H',Inv X pins σ H' s' /\ IsPart u o /\ Q o H') X.xe s
noncomputable def tNoPart:TO:=fun _ H Q=>Q none H
noncomputable def tPart (t:TE):TO:=fun σ H Q=>t σ H fun x H1=>∃ i,x = .int i /\ Q (some i) H1
theorem intsAre_of {ns:List Int}:∀ {us:List Value},Vals (ns.map V.int) us -> IntsAre us ns:=by
 induction ns with
 | nil=>intro us r; rw [List.map_nil] at r; cases r; exact .nil
 | cons n ns ih =>
  intro us r
  rw [List.map_cons] at r
  cases r with
  | cons r1 r2 =>
   obtain ⟨t,e⟩:=r1
   subst e
   exact .cons n t (ih r2)
section
variable {X:Cx} {e:Expr} {te:TE} {lo hi:Option Expr} {tl th:TO} {pos p2:Pos}
theorem po_none:PO X none tNoPart:=by
 intro pins s σ H Q I h
 rw [evalPart_none]
 exact wpAny_pure ⟨none,H,I,.none,h⟩
theorem po_some (h:PE X e te):PO X (some e) (tPart te):=by
 intro pins s σ H Q I hw
 rw [evalPart_some]
 refine thn (h pins s σ H _ I hw) fun u s1 ⟨x,H1,I1,r1,q1⟩=>?_
 obtain ⟨i,rfl,q⟩:=q1
 obtain ⟨t,rfl⟩:=r1
 exact ⟨some i,H1,I1,.int i t,q⟩
noncomputable def SlR (X:Cx) (r:V -> Option Int -> Option Int -> Hp -> VK -> Prop):Prop :=
 ∀ (pins:List (Addr × Obj)) (s:Shared) (σ:St) (H:Hp) (x:V) (v vl vu:Value) (lo hi:Option Int) (sl:Addr) (Q:VK),Inv X pins σ H s -> RelV x v -> s.heap.IsSliceOf sl vl vu .none -> IsPart vl lo -> IsPart vu hi -> r x lo hi H Q ->
  ∃ T id,typeLookup (.type T) "__getitem__" = pure (some (.builtin id)) /\ s.TypeIs v T /\ wpAny (model X.prog X.w) X.A (getItem v (.ref sl)) (EP X pins σ Q) X.xe s
noncomputable def tSl (r:V -> Option Int -> Option Int -> Hp -> VK -> Prop) (te:TE) (tl th:TO):TE:=fun σ H Q=>te σ H fun x H1=>tl σ H1 fun l H2=>th σ H2 fun u H3=>r x l u H3 Q
theorem pe_slice {r:V -> Option Int -> Option Int -> Hp -> VK -> Prop} (hr:SlR X r) (he:PE X e te) (hl:PO X lo tl) (hu:PO X hi th):PE X (.Subscript e (.Slice lo hi none p2) pos) (tSl r te tl th):=by
 intro pins s σ H Q I h
 refine Subscript_ (thn (he pins s σ H _ I h) fun v s1 ⟨x,H1,I1,r1,q1⟩=>?_)
 refine wpAny_Slice (thn (hl pins s1 σ H1 _ I1 q1) fun vl s2 ⟨l,H2,I2,pl,q2⟩=>thn (hu pins s2 σ H2 _ I2 q2) fun vu s3 ⟨u,H3,I3,pu,q3⟩=>?_)
 rw [evalPart_none]
 refine wpAny_pure ?_
 have I4:Inv X pins σ H3 { s3 with heap:=s3.heap.push { cls:=.type "slice",data:=.fields #[vl,vu,.none] } }:=I3.kept (t':=s3.toks) fun b ob q=>Heap.get?_push_of_some _ q
 obtain ⟨T,id,hT,ht,hg⟩:=hr pins { s3 with heap:=s3.heap.push { cls:=.type "slice",data:=.fields #[vl,vu,.none] } } σ H3 x v vl vu l u s3.heap.objs.size Q I4 r1 (Heap.IsSliceOf.new ..) pl pu q3
 show wpAny (model X.prog X.w) X.A (subscriptTail e (.Slice lo hi none p2) v (.ref s3.heap.objs.size)) (EP X pins σ Q) X.xe { s3 with heap:=s3.heap.push { cls:=.type "slice",data:=.fields #[vl,vu,.none] } }
 exact tail_any (ops:=[.ref s3.heap.objs.size,v]) ht hT hg (by with_unfolding_all rfl)
noncomputable def cutV (xs:List V) (lo hi:Option Int):List V:=(xs.drop (HT.sIx xs.length 0 lo)).take (HT.sIx xs.length xs.length hi - HT.sIx xs.length 0 lo)
theorem cutV_length (xs:List V) (lo hi:Option Int):(cutV xs lo hi).length <= xs.length:=by
 unfold cutV
 rw [List.length_take,List.length_drop]
 omega
noncomputable def rSlT (K:PySem.W.Frag):V -> Option Int -> Option Int -> Hp -> VK -> Prop:=fun x lo hi H Q=>∃ a xs,x = .ref a /\ SqT K H a xs /\
 ¬ (HT.sIx xs.length 0 lo = 0 /\ HT.sIx xs.length xs.length hi = xs.length) /\ ∀ p,H p = none -> Q (.ref p) (upd H p (.tup (cutV xs lo hi)))
theorem sl_tup:SlR X (rSlT X.K):=by
 intro pins s σ H x v vl vu lo hi sl Q I rx hs pl pu h
 obtain ⟨a,xs,rfl,hx,hw,q⟩:=h
 cases rx
 obtain ⟨its,r,ht,hz⟩:=I.tuple hx
 have hlen:its.toArray.size = xs.length:=by rw [List.size_toArray]; exact r.length.symm
 refine ⟨"tuple",_,PyProof.Rows.slot_tuple_getitem.lookup,ht.typeIs,?_⟩
 refine HT.getItem_tuple_cut ht hs pl pu (by rw [hlen]; exact hw) ?_ (by rw [hlen]; exact hz)
 rw [hlen]
 refine ⟨.ref s.heap.objs.size,_,I.laid (t':=s.toks) (o:=.tup (cutV xs lo hi)) (fun b ob q=>Heap.get?_push_of_some _ q) (Nat.le_refl _) ?_,rfl,q _ (I.hok.fresh (Nat.le_refl _))⟩
 exact ⟨Nat.le_trans (cutV_length xs lo hi) hz,_,(r.drop (HT.sIx xs.length 0 lo)).take (HT.sIx xs.length xs.length hi - HT.sIx xs.length 0 lo),IsTupD.new _ _⟩
noncomputable def rCatT (K:PySem.W.Frag):R2:=fun x y H Q=>∃ a b xs ys,x = .ref a /\ y = .ref b /\ SqT K H a xs /\ SqT K H b ys /\ xs ≠ [] /\ xs.length + ys.length <= sizeLine /\
 (ys = [] -> Q (.ref a) H) /\ (ys ≠ [] -> ∀ p,H p = none -> Q (.ref p) (upd H p (.tup (xs ++ ys))))
theorem Vals.nil_iff {xs:List V} {us:List Value} (r:Vals xs us):us = [] ↔ xs = []:=by
 cases r with
 | nil=>simp
 | cons _ _=>simp
theorem op_catT:OpR X (binaryOp .Add) (rCatT X.K):=by
 intro pins s σ H x y v u Q I rx ry h
 obtain ⟨a,b,xs,ys,rfl,rfl,ha,hb,hx,hz,q1,q2⟩:=h
 cases rx
 cases ry
 obtain ⟨its,r1,p1,_⟩:=I.tuple ha
 obtain ⟨its2,r2,p2,_⟩:=I.tuple hb
 refine HT.cat_tup p1 p2 (fun z=>hx (r1.nil_iff.mp z)) (fun z=>⟨.ref a,H,I,rfl,q1 (r2.nil_iff.mp z)⟩) (fun z=>?_) (by rw [<- r1.length,<- r2.length]; exact hz)
 refine ⟨.ref s.heap.objs.size,_,I.laid (t':=s.toks) (o:=.tup (xs ++ ys)) (fun b ob q=>Heap.get?_push_of_some _ q) (Nat.le_refl _) ?_,rfl,q2 (fun w=>z (r2.nil_iff.mpr w)) _ (I.hok.fresh (Nat.le_refl _))⟩
 exact ⟨by rw [List.length_append]; exact hz,_,r1.append r2,IsTupD.new _ _⟩
end
end L2
namespace L2
open PySem PySem.Spec PyProof.Rows
noncomputable def ixN (n:Nat) (i:Int):Option Nat:=if 0 <= i then (if i < n then some i.toNat else none) else if -(n:Int) <= i then some (i + n).toNat else none
noncomputable def atI {α:Type} (xs:List α) (i:Int):Option α:=(ixN xs.length i).bind fun j=>xs[j]?
theorem ixN_seq {n:Nat} {i:Int} {j:Nat} (h:ixN n i = some j):seqIndex? i n = some j /\ j < n /\ -(n:Int) <= i /\ i < n:=by
 unfold ixN at h
 by_cases h0:0 <= i
 ·rw [if_pos h0] at h
  by_cases h1:i < n
  ·rw [if_pos h1] at h
   have e:i.toNat = j:=Option.some.inj h
   exact ⟨by rw [seqIndex_of h0 h1,e],by omega,by omega,h1⟩
  ·rw [if_neg h1] at h; cases h
 ·rw [if_neg h0] at h
  by_cases h1:-(n:Int) <= i
  ·rw [if_pos h1] at h
   have e:(i + n).toNat = j:=Option.some.inj h
   exact ⟨by rw [seqIndex_neg (by omega) h1,e],by omega,h1,by omega⟩
  ·rw [if_neg h1] at h; cases h
theorem atI_get {α:Type} {xs:List α} {i:Int} {v:α} (h:atI xs i = some v):∃ j,seqIndex? i xs.length = some j /\ xs[j]? = some v /\ j < xs.length /\ -(xs.length:Int) <= i /\ i < xs.length:=by
 unfold atI at h
 cases e:ixN xs.length i with
 | none=>rw [e] at h; cases h
 | some j =>
  rw [e] at h
  obtain ⟨h1,h2,h3,h4⟩:=ixN_seq e
  exact ⟨j,h1,h,h2,h3,h4⟩
theorem atI_nat {α:Type} {xs:List α} {j:Nat} {v:α} (h:xs[j]? = some v):atI xs (j:Int) = some v:=by
 have hj:j < xs.length:=(List.getElem?_eq_some_iff.mp h).1
 have e:ixN xs.length (j:Int) = some j:=by
  unfold ixN
  rw [if_pos (by omega),if_pos (by omega)]; simp
 unfold atI; rw [e]; exact h
noncomputable def PlainIx (b:Expr):Prop:=∀ o i,subscripted b false o i = operate [o,i] (getItem o i)
noncomputable def IxR (X:Cx) (r:R2):Prop :=
 ∀ (value slice:Expr) (pins:List (Addr × Obj)) (s:Shared) (σ:St) (H:Hp) (x y:V) (v u:Value) (Q:VK),Inv X pins σ H s -> RelV x v -> RelV y u -> r x y H Q ->
  subscripted slice false v u = operate [v,u] (getItem v u) -> wpAny (model X.prog X.w) X.A (subscriptTail value slice v u) (EP X pins σ Q) X.xe s
noncomputable def MtR (X:Cx) (id:String) (r:V -> List V -> Hp -> VK -> Prop):Prop :=
 ∀ (pins:List (Addr × Obj)) (s:Shared) (σ:St) (H:Hp) (x:V) (xs:List V) (v:Value) (us:List Value) (Q:VK),Inv X pins σ H s -> RelV x v -> Vals xs us -> r x xs H Q ->
  wpAny (model X.prog X.w) X.A (call (.builtin id) (v :: us)) (EP X pins σ Q) X.xe s
section
variable {X:Cx} {a b:Expr} {ta tb:TE} {pos:Pos}
theorem IxR.or {r r':R2} (h:IxR X r) (h':IxR X r'):IxR X (fun x y H Q=>r x y H Q \/ r' x y H Q):=by
 intro value slice pins s σ H x y v u Q I rx ry q hs
 rcases q with q | q
 ·exact h value slice pins s σ H x y v u Q I rx ry q hs
 ·exact h' value slice pins s σ H x y v u Q I rx ry q hs
theorem pe_ix {r:R2} (hr:IxR X r) (ha:PE X a ta) (hb:PE X b tb) (hs:PlainIx b):PE X (.Subscript a b pos) (tOp r ta tb):=by
 intro pins s σ H Q I h
 exact Subscript_ (binT ha hb I h fun v u s2 x y H2 I2 rx ry q=>hr a b pins s2 σ H2 x y v u Q I2 rx ry q (hs _ _))
noncomputable def rIxL (K:PySem.W.Frag):R2:=fun x y H Q=>∃ p xs i v,x = .ref p /\ y = .int i /\ SqL K H p xs /\ atI xs i = some v /\ Q v H
noncomputable def rIxT (K:PySem.W.Frag):R2:=fun x y H Q=>∃ p xs i v,x = .ref p /\ y = .int i /\ SqT K H p xs /\ atI xs i = some v /\ Q v H
theorem ix_list:IxR X (rIxL X.K):=by
 intro value slice pins s σ H x y v u Q I rx ry h hs
 obtain ⟨p,xs,i,z,rfl,rfl,hq,he,q⟩:=h
 cases rx
 obtain ⟨t,rfl⟩:=ry
 obtain ⟨its,r,pl,hz⟩:=I.list hq
 obtain ⟨j,h1,h2,h3,h4,h5⟩:=atI_get he
 obtain ⟨w,ew,rw'⟩:=r.get h2
 have hl:=r.length
 have hn:=line63
 have fin:EP X pins σ Q w s:=⟨z,H,I,rw',q⟩
 by_cases h0:0 <= i
 ·have hj:i.toNat = j:=by
   rw [seqIndex_of h0 h5] at h1
   exact Option.some.inj h1
  exact item_listR pl.isList h0 (by omega) (by rw [hj]; simpa using ew) fin hs
 ·have hj:(i + (its.toArray.size:Int)).toNat = j:=by
   rw [seqIndex_neg (by omega) h4] at h1
   rw [List.size_toArray,<- hl]
   exact Option.some.inj h1
  exact subscriptTail_builtinR (x:=w) pl.isList.typeIs slot_list_getitem.lookup
   (wpAny_getItem_list_neg (Q:=fun r s'=>r = w /\ EP X pins σ Q r s') pl.isList (by omega) (by rw [List.size_toArray] <;> omega) (by omega) (by rw [hj]; simpa using ew) ⟨rfl,fin⟩) hs
theorem ix_tup:IxR X (rIxT X.K):=by
 intro value slice pins s σ H x y v u Q I rx ry h hs
 obtain ⟨p,xs,i,z,rfl,rfl,hq,he,q⟩:=h
 cases rx
 obtain ⟨t,rfl⟩:=ry
 obtain ⟨its,r,pl,hz⟩:=I.tuple hq
 obtain ⟨j,h1,h2,h3,h4,h5⟩:=atI_get he
 obtain ⟨w,ew,rw'⟩:=r.get h2
 have hl:=r.length
 have hn:=line63
 have fin:EP X pins σ Q w s:=⟨z,H,I,rw',q⟩
 exact subscriptTail_builtinR (x:=w) pl.typeIs slot_tuple_getitem.lookup
  (getItem_tuple (j:=j) (Q:=fun r s'=>r = w /\ EP X pins σ Q r s') pl (by omega) (by omega) (by rw [List.size_toArray,<- hl]; exact h1) (by simpa using ew) ⟨rfl,fin⟩) hs
theorem mapSeq_set (its:List Value) (n j:Nat) (u:Value):Obj.mapSeq (·.setIfInBounds j u) { cls:=.type "list",data:=.seq its.toArray n } = { cls:=.type "list",data:=.seq (its.set j u).toArray n }:=by
 simp [Obj.mapSeq]
theorem Inv.lst {pins:List (Addr × Obj)} {σ:St} {H:Hp} {s:Shared} {p:Addr} {xs:List V} (I:Inv X pins σ H s) (h:H p = some (.lst xs)) :
  ∃ (its:List Value) (n:Nat),Vals xs its /\ s.heap.get? p = some { cls:=.type "list",data:=.seq its.toArray n } /\ xs.length <= sizeLine:=by
 obtain ⟨z,its,n,r,e⟩:=I.hok p _ h
 exact ⟨its,n,r,e,z⟩
theorem Inv.lstUpd {pins:List (Addr × Obj)} {σ:St} {H:Hp} {s:Shared} {p:Addr} {xs ys:List V} {its its':List Value} {n n':Nat} {f:Obj -> Obj} (I:Inv X pins σ H s) (h:H p = some (.lst xs))
  (ho:s.heap.get? p = some { cls:=.type "list",data:=.seq its.toArray n }) (hf:f { cls:=.type "list",data:=.seq its.toArray n } = { cls:=.type "list",data:=.seq its'.toArray n' }) (r:Vals ys its') (hz:ys.length <= sizeLine) (t:Nat) :
  Inv X pins σ (upd H p (.lst ys)) { s with heap:=s.heap.update p f,toks:=t }:=by
 have e:(s.heap.update p f).get? p = some { cls:=.type "list",data:=.seq its'.toArray n' }:=by
  rw [Heap.get?_update_self f ho (by rw [hf] <;> rfl),hf]
 refine I.write (x:=p) (e:=p) (by rw [h]; trivial) (.inl rfl) (fun b u hb q=>(Heap.get?_update_other _ _ (Ne.symm hb)).trans q) ⟨_,e⟩ ?_
 exact ⟨hz,its',n',r,e⟩
noncomputable def rSetL:V -> V -> V -> Hp -> (Hp -> Prop) -> Prop:=fun o i v H Q=>∃ p xs k j,o = .ref p /\ i = .int k /\ H p = some (.lst xs) /\ ixN xs.length k = some j /\ Q (upd H p (.lst (xs.set j v)))
theorem set_list:PSet X rSetL:=by
 intro pins s σ H o i v ov iv u Q I ro ri rv h
 obtain ⟨p,xs,k,j,rfl,rfl,hp,hj,q⟩:=h
 cases ro
 obtain ⟨t,rfl⟩:=ri
 obtain ⟨its,n,r,ho,hz⟩:=I.lst hp
 obtain ⟨h1,h2,h3,h4⟩:=ixN_seq hj
 have hl:=r.length
 have hn:=line63
 have I':Inv X pins σ (upd H p (.lst (xs.set j v))) { s with heap:=s.heap.update p (Obj.mapSeq (·.setIfInBounds j u)) } :=
  I.lstUpd hp ho (mapSeq_set its n j u) (r.set rv j) (by rw [List.length_set]; exact hz) s.toks
 by_cases h0:0 <= k
 ·have hk:k.toNat = j:=by
   rw [seqIndex_of h0 h4] at h1
   exact Option.some.inj h1
  exact PySem.W.ki_setAt ho h0 (by omega) (by rw [List.size_toArray,<- hl]; exact h4) (by rw [hk]; exact ⟨_,I',q⟩)
 ·have hk:(k + (its.toArray.size:Int)).toNat = j:=by
   rw [seqIndex_neg (by omega) h3] at h1
   rw [List.size_toArray,<- hl]
   exact Option.some.inj h1
  exact PySem.W.ki_setBack ho (by omega) (by rw [List.size_toArray,<- hl]; exact h3) (by omega) (by rw [hk]; exact ⟨_,I',q⟩)
theorem slice_bounds (lo hi:Option Int) (n:Nat):(sliceBounds lo hi none n).1 = ((HT.sIx n 0 lo:Nat):Int) /\ (sliceBounds lo hi none n).2.1 = ((HT.sIx n n hi:Nat):Int) /\ (sliceBounds lo hi none n).2.2 = 1:=by
 refine ⟨?_,?_,rfl⟩
 ·cases lo with
  | none=>simp [sliceBounds,HT.sIx]
  | some i =>
   simp only [sliceBounds,HT.sIx,Option.getD_none,show (1:Int) > 0 by decide,if_true]
   by_cases h:i < 0
   ·simp only [h,if_true] <;> omega
   ·simp only [h,if_false] <;> omega
 ·cases hi with
  | none=>simp [sliceBounds,HT.sIx]
  | some i =>
   simp only [sliceBounds,HT.sIx,Option.getD_none,show (1:Int) > 0 by decide,if_true]
   by_cases h:i < 0
   ·simp only [h,if_true] <;> omega
   ·simp only [h,if_false] <;> omega
theorem slicePick_cut (its:List Value) (lo hi:Option Int):slicePick its.toArray lo hi none = ((its.drop (HT.sIx its.length 0 lo)).take (HT.sIx its.length its.length hi - HT.sIx its.length 0 lo)).toArray:=by
 obtain ⟨h1,h2,h3⟩:=slice_bounds lo hi its.toArray.size
 unfold slicePick
 rw [h1,h2,h3]
 simp only [sliceRange_one,pick_run,List.size_toArray] <;> rfl
noncomputable def rSlL (K:PySem.W.Frag):V -> Option Int -> Option Int -> Hp -> VK -> Prop:=fun x lo hi H Q=>∃ a xs,x = .ref a /\ SqL K H a xs /\ ∀ p,H p = none -> Q (.ref p) (upd H p (.lst (cutV xs lo hi)))
theorem sl_list:SlR X (rSlL X.K):=by
 intro pins s σ H x v vl vu lo hi sl Q I rx hs pl pu h
 obtain ⟨a,xs,rfl,hx,q⟩:=h
 cases rx
 obtain ⟨its,r,ht,hz⟩:=I.list hx
 have hlen:=r.length
 refine ⟨"list",_,slot_list_getitem.lookup,ht.isList.typeIs,?_⟩
 refine wpAny_getItem_list_slice ht.isList hs pl pu .none (by simp) ?_ (by rw [List.size_toArray] <;> omega)
 rw [slicePick_cut,<- hlen]
 refine ⟨.ref s.heap.objs.size,_,I.laid (t':=s.toks) (o:=.lst (cutV xs lo hi)) (fun b ob q=>Heap.get?_push_of_some _ q) (Nat.le_refl _) ?_,rfl,q _ (I.hok.fresh (Nat.le_refl _))⟩
 exact ⟨Nat.le_trans (cutV_length xs lo hi) hz,_,0,(r.drop (HT.sIx xs.length 0 lo)).take (HT.sIx xs.length xs.length hi - HT.sIx xs.length 0 lo),Heap.get?_push_size _ rfl⟩
theorem call_len_seq:CallR X (.builtin "len") (fun xs H Q=>∃ p ys,xs = [.ref p] /\ (SqL X.K H p ys \/ SqT X.K H p ys) /\ Q (.int ys.length) H):=by
 intro pins s σ H xs us Q I r h
 obtain ⟨p,ys,rfl,hq,q⟩:=h
 obtain ⟨u,rfl,rx⟩:=vals1 r
 cases rx
 have hn:=line63
 rcases hq with hq | hq
 ·obtain ⟨its,r',pl,hz⟩:=I.list hq
  have hlen:=r'.length
  exact Calls.call_len_list pl.isList (by simp only [List.size_toArray] <;> omega) ⟨.int ys.length,H,I.tok _,⟨s.toks + 1,by rw [List.size_toArray,hlen]⟩,q⟩
 ·obtain ⟨its,r',pl,hz⟩:=I.tuple hq
  have hlen:=r'.length
  exact len_tuple pl (by simp only [List.size_toArray] <;> omega) ⟨.int ys.length,H,I.tok _,⟨s.toks + 1,by rw [List.size_toArray,hlen]⟩,q⟩
theorem call_list_of:CallR X (.type "list") (fun xs H Q=>∃ p ys,xs = [.ref p] /\ (SqL X.K H p ys \/ SqT X.K H p ys) /\ ∀ l,H l = none -> Q (.ref l) (upd H l (.lst ys))):=by
 intro pins s σ H xs us Q I r h
 obtain ⟨p,ys,rfl,hq,q⟩:=h
 obtain ⟨u,rfl,rx⟩:=vals1 r
 cases rx
 have fin:∀ (its:List Value),Vals ys its -> ys.length <= sizeLine -> ∀ (h':Heap) (c':Nat),(∀ b o',s.heap.get? b = some o' -> h'.get? b = some o') ->
   h'.get? s.heap.objs.size = some { cls:=.type "list",dict:=none,data:=.seq its.toArray c',slots:=#[] } -> EP X pins σ Q (.ref s.heap.objs.size) { s with heap:=h' }:=fun its r' hz h' c' kp e =>
  ⟨.ref s.heap.objs.size,_,I.laid (t':=s.toks) kp (Nat.le_refl _) (show ObjOk X.prog X.w _ h' _ (.lst ys) from ⟨hz,its,c',r',e⟩),rfl,q _ (I.hok.fresh (Nat.le_refl _))⟩
 rcases hq with hq | hq
 ·obtain ⟨its,r',pl,hz⟩:=I.list hq
  have hlen:=r'.length
  obtain ⟨o,ho,hc,n,hd⟩:=pl.isList
  exact call_list_seq p (.inl rfl) ho hc hd (fun h' c' kp e=>fin its r' hz h' c' kp e) (by simp only [List.size_toArray] <;> omega)
 ·obtain ⟨its,r',pl,hz⟩:=I.tuple hq
  have hlen:=r'.length
  obtain ⟨o,ho,hc,n,hd⟩:=pl
  exact call_list_seq p (.inr rfl) ho hc hd (fun h' c' kp e=>fin its r' hz h' c' kp e) (by simp only [List.size_toArray] <;> omega)
theorem call_tuple_of:CallR X (.type "tuple") (fun xs H Q=>∃ p ys,xs = [.ref p] /\ ((SqL X.K H p ys /\ ∀ l,H l = none -> Q (.ref l) (upd H l (.tup ys))) \/ (SqT X.K H p ys /\ Q (.ref p) H))):=by
 intro pins s σ H xs us Q I r h
 obtain ⟨p,ys,rfl,h⟩:=h
 obtain ⟨u,rfl,rx⟩:=vals1 r
 cases rx
 rcases h with ⟨hq,q⟩ | ⟨hq,q⟩
 ·obtain ⟨its,r',pl,hz⟩:=I.list hq
  have hlen:=r'.length
  refine call_tuple_list pl.isList (fun h' kp=>?_) (by simp only [List.size_toArray] <;> omega)
  have I1:Inv X pins σ H { s with heap:=h' }:=I.kept (t':=s.toks) kp
  have I2:Inv X pins σ (upd H h'.objs.size (.tup ys)) { s with heap:=h'.push { cls:=.type "tuple",data:=.seq its.toArray } } :=
   I1.laid (t':=s.toks) (fun b o e=>Heap.get?_push_of_some _ e) (Nat.le_refl _) (show ObjOk X.prog X.w _ _ _ (.tup ys) from ⟨hz,its,r',IsTupD.new _ _⟩)
  exact ⟨.ref h'.objs.size,_,I2,rfl,q _ (I1.hok.fresh (Nat.le_refl _))⟩
 ·obtain ⟨its,r',pl,hz⟩:=I.tuple hq
  exact call_tuple_same pl ⟨.ref p,H,I,rfl,q⟩
noncomputable def tyV (K:PySem.W.Frag) (T:String) (x:V) (H:Hp):Prop:=match x with
 | .str _=>T = "str"
 | .int _=>T = "int"
 | .ref p=>(T = "list" /\ ∃ xs,SqL K H p xs) \/ (T = "tuple" /\ ∃ o,K.lookup p = some o /\ o.cls = .type "tuple" /\ o.dict = none) \/
   (T = "dict" /\ ((∃ kvs,H p = some (.dK kvs)) \/ ∃ kvs,H p = some (.dT kvs))) \/ (T = "set" /\ ∃ S n,H p = some (.set S n))
 | _=>False
theorem tyV_is {pins:List (Addr × Obj)} {σ:St} {H:Hp} {s:Shared} {T:String} {x:V} {v:Value} (I:Inv X pins σ H s) (r:RelV x v) (ty:tyV X.K T x H) :
  s.TypeIs v T /\ ∀ a,v = .ref a -> ∃ ob,s.heap.get? a = some ob /\ ob.dict = none:=by
 cases x with
 | str z =>
  obtain ⟨t,rfl⟩:=r
  cases (show T = "str" from ty)
  exact ⟨typeIs_str s z t,fun _ e=>nomatch e⟩
 | int i =>
  obtain ⟨t,rfl⟩:=r
  cases (show T = "int" from ty)
  exact ⟨typeIs_int s i t,fun _ e=>nomatch e⟩
 | ref p =>
  cases r
  rcases ty with ⟨rfl,xs,hq⟩ | ⟨rfl,o,hk,hc,hd⟩ | ⟨rfl,hk⟩ | ⟨rfl,S,n,hk⟩
  ·obtain ⟨its,_,pl,_⟩:=I.list hq
   refine ⟨pl.isList.typeIs,fun a e=>?_⟩
   cases e
   obtain ⟨o,n,e,c,hd,_⟩:=pl
   exact ⟨o,e,hd⟩
  ·refine ⟨⟨o,I.kIn p o hk,hc⟩,fun a e=>?_⟩
   cases e
   exact ⟨o,I.kIn _ o hk,hd⟩
  ·have z:∃ o,s.heap.get? p = some o /\ o.ExactDict:=by
    rcases hk with ⟨kvs,hk⟩ | ⟨kvs,hk⟩
    ·obtain ⟨_,_,_,_,o,_,_,e,ex,_⟩:=I.hok p _ hk
     exact ⟨o,e,ex⟩
    ·obtain ⟨_,_,_,_,o,_,_,e,ex,_⟩:=I.hok p _ hk
     exact ⟨o,e,ex⟩
   obtain ⟨o,e,ex⟩:=z
   refine ⟨⟨o,e,ex.1⟩,fun a e2=>?_⟩
   cases e2
   exact ⟨o,e,ex.2.1⟩
  ·obtain ⟨o,_,_,_,e,ex,_⟩:=I.hok p _ hk
   refine ⟨⟨o,e,ex.1⟩,fun a e2=>?_⟩
   cases e2
   exact ⟨o,e,ex.2.1⟩
 | _=>exact False.elim ty
noncomputable def tBM (K:PySem.W.Frag) (T:String) (r:V -> List V -> Hp -> VK -> Prop) (to:TE) (t:TA):TE:=fun σ H Q=>to σ H fun x H1=>tyV K T x H1 /\ t σ H1 fun xs H2=>r x xs H2 Q
variable {o e:Expr} {es:List Expr} {to:TE} {t:TA} {name:Str} {apos cpos:Pos} {T id:String} {r:V -> List V -> Hp -> VK -> Prop}
theorem pe_bm (pa:PlainAttrs T) (slot:Slot T name id) (hty:typeOf (.builtin id) = pure (.type "method_descriptor")) (hm:MtR X id r) (ho:PE X o to) (ha:PA X (e :: es) t)
  (hbase:attributeBase o name X.env (eval o X.env) = eval o X.env:=by rfl)
  (hfew:((backTo cpos (starEach (e :: es) X.env)).all (fun x=>!x.1) && (backToKw cpos (keywordEach [] X.env)).all (fun x=>x.1.isSome)
    && decide ((e :: es).length + ([]:List Keyword).length + (if ([]:List Keyword).isEmpty then 0 else 1) < 30)) = true:=by rfl)
  (hline:(apos.endLine == cpos.line) = true:=by rfl) (hs:starEach (e :: es) X.env = (false,eval e X.env) :: starEach es X.env:=by rfl) (hplain:(backTo cpos (starEach es X.env)).any (·.1) = false:=by rfl) :
  PE X (.Call (.Attribute o name apos) (e :: es) [] cpos) (tBM X.K T r to t):=by
 intro pins s σ H Q I h
 refine wpAny_Call_method_late hbase hfew hline rfl (thn (ho pins s σ H _ I h) fun v s1 ⟨x,H1,I1,r1,ty,q1⟩=>?_)
 obtain ⟨h1,h2⟩:=tyV_is I1 r1 ty
 refine ⟨T,id,pa,slot,hty,h1,h2,?_⟩
 have hA:=ha cpos pins s1 σ H1 _ I1 q1
 rw [hs] at hA ⊢
 refine Calls.callWith_builtin (by show (false || (backTo cpos (starEach es X.env)).any (·.1)) = false; rw [hplain] <;> rfl) (Calls.evalArgs_plain ?_)
 exact thn hA fun us s2 ⟨vs,H2,I2,r2,q2⟩=>hm pins s2 σ H2 x vs v us Q I2 r1 r2 q2
end
end L2
namespace L2
open PySem PySem.Spec PyProof.Rows
noncomputable def MtM (X:Cx) (id:String) (r:V -> List V -> Hp -> VK -> Prop):Prop :=
 ∀ (pins:List (Addr × Obj)) (s:Shared) (σ:St) (H:Hp) (x:V) (xs:List V) (v:Value) (us:List Value) (Q:VK),Inv X pins σ H s -> RelV x v -> Vals xs us -> r x xs H Q ->
  wpAny (model X.prog X.w) X.A (call (.builtin id) (v :: us)) (EP X pins σ Q) X.xe s
theorem Vals.one:∀ {x:V} {us:List Value},Vals [x] us -> ∃ u,us = [u] /\ RelV x u
 | _,_,.cons r .nil=>⟨_,rfl,r⟩
theorem Vals.rep {xs:List V} {us:List Value} (h:Vals xs us):∀ k:Nat,Vals (List.replicate k xs).flatten (List.replicate k us).flatten
 | 0=>.nil
 | k + 1=>by
  rw [List.replicate_succ,List.replicate_succ,List.flatten_cons,List.flatten_cons]
  exact Vals.append h (Vals.rep h k)
theorem foldl_rep (its:List Value):∀ (k:Nat) (acc:List Value),
  List.foldl (fun x1 x2=>x1 ++ x2) acc.toArray (List.replicate k its.toArray) = (acc ++ (List.replicate k its).flatten).toArray
 | 0,acc=>by simp
 | k + 1,acc=>by
  have e:acc.toArray ++ its.toArray = (acc ++ its).toArray:=by simp
  have e2:(acc ++ its) ++ (List.replicate k its).flatten = acc ++ (List.replicate (k + 1) its).flatten:=by
   rw [List.replicate_succ,List.flatten_cons,List.append_assoc]
  rw [<- e2,<- foldl_rep its k (acc ++ its),<- e,List.replicate_succ,List.foldl_cons]
section
variable {X:Cx} {pins:List (Addr × Obj)} {σ:St} {H:Hp} {s:Shared} {l b:Addr} {xs ys zs:List V}
theorem Inv.lset {its its':List Value} {n:Nat} {f:Array Value -> Array Value} {t':Nat} (I:Inv X pins σ H s) (hH:H l = some (.lst xs))
  (e:s.heap.get? l = some { cls:=.type "list",data:=.seq its.toArray n }) (hf:f its.toArray = its'.toArray) (hv:Vals ys its') (hz:ys.length <= sizeLine) :
  Inv X pins σ (upd H l (.lst ys)) { s with heap:=s.heap.update l (Obj.mapSeq f),toks:=t' }:=by
 have q:=PySem.IsL.update e f
 rw [hf] at q
 refine I.write (x:=l) (e:=l) (by rw [hH]; exact trivial) (.inl rfl) (fun b' u hb hu=>(Heap.get?_update_other s.heap (Obj.mapSeq f) (Ne.symm hb)).trans hu) ⟨_,q⟩ ?_
 exact ⟨hz,its',_,hv,q⟩
theorem Inv.lnew {its:List Value} {t':Nat} (I:Inv X pins σ H s) (hv:Vals ys its) (hz:ys.length <= sizeLine) :
  Inv X pins σ (upd H s.heap.objs.size (.lst ys)) { s with heap:=s.heap.push { cls:=.type "list",data:=.seq its.toArray },toks:=t' } :=
 I.laid (fun _ _ q=>Heap.get?_push_of_some _ q) (Nat.le_refl _) ⟨hz,its,0,hv,Heap.get?_push_size _ rfl⟩
theorem Inv.fresh (I:Inv X pins σ H s):H s.heap.objs.size = none:=I.hok.fresh (Nat.le_refl _)
theorem Inv.lstM (I:Inv X pins σ H s) (hH:H l = some (.lst xs)):xs.length <= sizeLine /\ ∃ (its:List Value) (n:Nat),Vals xs its /\ xs.length = its.length /\ s.heap.get? l = some { cls:=.type "list",data:=.seq its.toArray n }:=by
 obtain ⟨z,its,n,r,e⟩:=I.hok l _ hH
 exact ⟨z,its,n,r,r.length,e⟩
theorem notLongL {n:Nat} (h:n <= sizeLine):Builtin.List.listTooLong n = false:=by
 unfold Builtin.List.listTooLong
 exact decide_eq_false (by omega)
end
section
variable {X:Cx}
noncomputable def rAppend:V -> List V -> Hp -> VK -> Prop:=fun x vs H Q=>∃ l xs y,x = .ref l /\ vs = [y] /\ H l = some (.lst xs) /\ xs.length < sizeLine /\ Q .non (upd H l (.lst (xs ++ [y])))
theorem mt_append:MtM X "list.append" rAppend:=by
 intro pins s σ H x vs v us Q I rx rv h
 obtain ⟨l,xs,y,rfl,rfl,hH,hz,q⟩:=h
 cases rx
 obtain ⟨u,rfl,ru⟩:=rv.one
 obtain ⟨z,its,n,r,hl,e⟩:=I.lstM hH
 refine call_meets F.slot_list_append ⟨_,e,rfl⟩ F.entry_list_append (F.args_list_append_2 _ _) (PySem.list_append l its.toArray n u (by rw [List.size_toArray]; omega)) ⟨e,?_⟩
 refine ⟨.non,_,I.lset (its':=its ++ [u]) hH e (by simp) (r.append (.cons ru .nil)) ?_,rfl,q⟩
 rw [List.length_append,List.length_singleton]
 omega
noncomputable def rCat:R2:=fun x y H Q=>∃ l b xs zs,x = .ref l /\ y = .ref b /\ H l = some (.lst xs) /\ H b = some (.lst zs) /\ xs.length + zs.length <= sizeLine /\ ∀ p,H p = none -> Q (.ref p) (upd H p (.lst (xs ++ zs)))
theorem op_cat:OpR X (binaryOp .Add) rCat:=by
 intro pins s σ H x y v u Q I rx ry h
 obtain ⟨l,b,xs,zs,rfl,rfl,hH,hB,hz,q⟩:=h
 cases rx
 cases ry
 obtain ⟨z,its,n,r,hl,e⟩:=I.lstM hH
 obtain ⟨z2,its2,n2,r2,hl2,e2⟩:=I.lstM hB
 refine PySem.P.add_list e e2 ?_ (by rw [List.size_toArray,List.size_toArray]; omega)
 have ea:its.toArray ++ its2.toArray = (its ++ its2).toArray:=by simp
 rw [ea]
 exact ⟨.ref _,_,I.lnew (t':=s.toks) (r.append r2) (by rw [List.length_append]; omega),rfl,q _ I.fresh⟩
noncomputable def rRep:R2:=fun x y H Q=>∃ l k xs,x = .ref l /\ y = .int k /\ H l = some (.lst xs) /\ -(2 ^ 63) <= k /\ k < 2 ^ 63 /\ xs.length * k.toNat <= sizeLine /\
 ∀ p,H p = none -> Q (.ref p) (upd H p (.lst (List.replicate k.toNat xs).flatten))
theorem len_rep {α:Type} (xs:List α) (k:Nat):(List.replicate k xs).flatten.length = k * xs.length:=by
 induction k with
 | zero=>simp
 | succ k ih=>rw [List.replicate_succ,List.flatten_cons,List.length_append,ih,Nat.succ_mul,Nat.add_comm]
theorem op_rep:OpR X (binaryOp .Mult) rRep:=by
 intro pins s σ H x y v u Q I rx ry h
 obtain ⟨l,k,xs,rfl,rfl,hH,h1,h2,hz,q⟩:=h
 cases rx
 obtain ⟨t,rfl⟩:=ry
 obtain ⟨z,its,n,r,hl,e⟩:=I.lstM hH
 have hlen:its.toArray.size * k.toNat <= sizeLine:=by rw [List.size_toArray,<- hl]; exact hz
 have hcap:¬ its.toArray.size * k.toNat > (2 ^ 63 - 1) / 8:=by
  have:(sizeLine:Nat) <= (2 ^ 63 - 1) / 8:=by decide
  omega
 have hfit:¬ (!Builtin.List.listFitsIndex k) = true:=by
  rw [fitsIndex_both h1 h2]
  exact Bool.false_ne_true
 have hlong:¬ Builtin.List.listTooLong (its.toArray.size * k.toNat) = true:=by
  rw [notLongL hlen]
  exact Bool.false_ne_true
 have hnew:List.foldl (fun x1 x2=>x1 ++ x2) #[] (List.replicate (if its.toArray.isEmpty = true then 0 else k.toNat) its.toArray) = (List.replicate k.toNat its).flatten.toArray:=by
  have f0:∀ m:Nat,List.foldl (fun x1 x2=>x1 ++ x2) #[] (List.replicate m its.toArray) = (List.replicate m its).flatten.toArray:=fun m=>by
   have:=foldl_rep its m []
   rw [List.nil_append] at this
   exact this
  rw [f0]
  cases its with
  | nil=>simp
  | cons a r'=>rw [if_neg (by simp)]
 refine wpAny_binaryOp_repeat_ref (T:="list") (U:="int") (by decide) ⟨_,e,rfl⟩ (fun s'=>typeIs_int s' k t) noFill_list_mul F.fills_int_mul F.slot_int_rmul repeat_list F.slot_int_index.lookup
  (call_meets F.slot_int_rmul (typeIs_int s k t) F.entry_int_rmul (F.args_int_rmul_2 _ _) (int___rmul___int_list k t l its.toArray n)
    ⟨e,rfl,⟨_,e,rfl⟩,call_meets F.slot_list_mul ⟨_,e,rfl⟩ F.entry_list_mul (F.args_list_mul_2 _ _) (AutoListH.list___mul___list_int_3 l its.toArray n k t hfit hcap hlong) ⟨e,?_⟩⟩)
 rw [hnew]
 exact ⟨.ref _,_,I.lnew (t':=s.toks) (r.rep k.toNat) (by rw [len_rep,Nat.mul_comm]; exact hz),rfl,q _ I.fresh⟩
end
section
variable {prog:Program} {w:World} {A:Around} {E:Value -> Shared -> Prop} {s:Shared}
set_option maxRecDepth 100000 in
end
section
variable {X:Cx}
end
end L2
namespace L2
open PySem PySem.Spec PyProof.Rows
section
variable {κ:Type} [DecidableEq κ]
noncomputable def valV (kvs:List (κ × V)) (k:κ):Option V:=(kvs.find? fun kv=>decide (kv.1 = k)).map (·.2)
noncomputable def putK (kvs:List (κ × V)) (k:κ) (v:V):List (κ × V) :=
 if (kvs.any fun kv=>decide (kv.1 = k)) = true then kvs.map (fun kv=>if kv.1 = k then (kv.1,v) else kv) else kvs ++ [(k,v)]
theorem valV_pos {p:κ × V} {r:List (κ × V)} {k:κ} (e:p.1 = k):valV (p :: r) k = some p.2:=by simp [valV,List.find?_cons,e]
theorem valV_neg {p:κ × V} {r:List (κ × V)} {k:κ} (e:¬ p.1 = k):valV (p :: r) k = valV r k:=by simp [valV,List.find?_cons,e]
theorem valV_any (k:κ):∀ kvs:List (κ × V),(kvs.any fun kv=>decide (kv.1 = k)) = (valV kvs k).isSome
 | []=>rfl
 | p :: r=>by
  rw [List.any_cons]
  by_cases e:p.1 = k
  ·simp only [valV_pos e,decide_eq_true e,Bool.true_or,Option.isSome_some]
  ·rw [valV_neg e,decide_eq_false e,Bool.false_or]; exact valV_any k r
theorem length_putK (kvs:List (κ × V)) (k:κ) (v:V):(putK kvs k v).length <= kvs.length + 1:=by
 unfold putK
 split
 ·rw [List.length_map]; omega
 ·rw [List.length_append,List.length_cons,List.length_nil]; omega
theorem putK_new {kvs:List (κ × V)} {k:κ} (v:V) (h:valV kvs k = none):putK kvs k v = kvs ++ [(k,v)]:=by
 unfold putK
 rw [valV_any,h]
 exact if_neg (by decide)
theorem RelO.isSome_eq {o:Option V} {u:Option Value} (r:RelO o u):o.isSome = u.isSome:=by
 cases o with
 | none=>cases u with
  | none=>rfl
  | some _=>exact (show False from r).elim
 | some _=>cases u with
  | none=>exact (show False from r).elim
  | some _=>rfl
theorem KV.val {kvs:List (κ × V)} {vs:List (κ × Value)} (r:KV kvs vs) (k:κ):RelO (valV kvs k) (valueAt vs k):=by
 unfold KV at r
 induction r with
 | nil=>exact True.intro
 | @cons p q ps qs h t ih =>
  obtain ⟨h1,h2⟩:=h
  by_cases e:p.1 = k
  ·have e':q.1 = k:=h1.symm.trans e
   have b:valueAt (q :: qs) k = some q.2:=by simp [valueAt,List.find?_cons,e']
   rw [valV_pos e,b]; exact h2
  ·have e':¬ q.1 = k:=fun z=>e (h1.trans z)
   have b:valueAt (q :: qs) k = valueAt qs k:=by simp [valueAt,List.find?_cons,e']
   rw [valV_neg e,b]; exact ih
theorem KV.any {kvs:List (κ × V)} {vs:List (κ × Value)} (r:KV kvs vs) (k:κ):(kvs.any fun kv=>decide (kv.1 = k)) = vs.any fun kv=>decide (kv.1 = k):=by
 unfold KV at r
 induction r with
 | nil=>rfl
 | cons h t ih=>rw [List.any_cons,List.any_cons,ih,h.1]
theorem KV.repl {kvs:List (κ × V)} {vs:List (κ × Value)} (r:KV kvs vs) (k:κ) {y:V} {u:Value} (ry:RelV y u) :
  KV (kvs.map fun kv=>if kv.1 = k then (kv.1,y) else kv) (vs.map fun kv=>if kv.1 = k then (kv.1,u) else kv):=by
 unfold KV at r ⊢
 induction r with
 | nil=>exact .nil
 | @cons p q ps qs h t ih =>
  rw [List.map_cons,List.map_cons]
  refine .cons ?_ ih
  obtain ⟨h1,h2⟩:=h
  by_cases e:p.1 = k
  ·rw [if_pos e,if_pos (h1.symm.trans e)]; exact ⟨h1,ry⟩
  ·rw [if_neg e,if_neg (fun z=>e (h1.trans z))]; exact ⟨h1,h2⟩
theorem KV.put {kvs:List (κ × V)} {vs:List (κ × Value)} (r:KV kvs vs) (k:κ) {y:V} {u:Value} (ry:RelV y u):KV (putK kvs k y) (stored vs k u):=by
 unfold putK stored
 rw [r.any k]
 by_cases e:(vs.any fun kv=>decide (kv.1 = k)) = true
 ·rw [if_pos e,if_pos e]; exact r.repl k ry
 ·rw [if_neg e,if_neg e]; exact Paired.snoc r ⟨rfl,ry⟩
theorem KV.length {kvs:List (κ × V)} {vs:List (κ × Value)} (r:KV kvs vs):kvs.length = vs.length:=Paired.length r
end
theorem kV_is {P:Program} {w:World} {k:Key} {u:Value} (r:RelV (kV k) u):(mixKind P w).is k u = true:=by
 cases k with
 | inl i=>obtain ⟨t,e⟩:=(show ∃ t,u = Value.int i t from r); subst e; exact mixKind_int P w i t
 | inr x=>obtain ⟨t,e⟩:=(show ∃ t,u = Value.str x t from r); subst e; exact mixKind_str P w x t
theorem items_are {P:Program} {w:World}:∀ {ks:List Key} {us:List Value},Vals (ks.map kV) us -> ItemsAre (mixKind P w) ks us
 | [],_,r=>by rw [List.map_nil] at r; cases r; exact .nil
 | k :: ks,_,r=>by
  rw [List.map_cons] at r
  cases r with
  | cons h t=>exact .cons (kV_is h) (items_are t)
noncomputable abbrev KT (H:Hp):List (List Key × V) -> List (List Key × Addr × Value) -> Prop:=Paired fun p q=>p.1 = q.1 /\ H q.2.1 = some (.tup (p.1.map kV)) /\ RelV p.2 q.2.2
theorem KT.val {H:Hp} {kvs:List (List Key × V)} {xs:List (List Key × Addr × Value)} (r:KT H kvs xs) (k:List Key):RelO (valV kvs k) ((atKey xs k).map (·.2)):=by
 induction r with
 | nil=>exact True.intro
 | @cons p q ps qs h t ih =>
  obtain ⟨h1,_,h2⟩:=h
  by_cases e:p.1 = k
  ·have e':q.1 = k:=h1.symm.trans e
   have b:atKey (q :: qs) k = some q.2:=by simp [atKey,List.find?_cons,e']
   rw [valV_pos e,b]; exact h2
  ·have e':¬ q.1 = k:=fun z=>e (h1.trans z)
   have b:atKey (q :: qs) k = atKey qs k:=by simp [atKey,List.find?_cons,e']
   rw [valV_neg e,b]; exact ih
theorem KT.repl {H:Hp} {kvs:List (List Key × V)} {xs:List (List Key × Addr × Value)} (r:KT H kvs xs) (k:List Key) {y:V} {u:Value} (ry:RelV y u) :
  KT H (kvs.map fun kv=>if kv.1 = k then (kv.1,y) else kv) (xs.map (putAt k u)):=by
 induction r with
 | nil=>exact .nil
 | @cons p q ps qs h t ih =>
  rw [List.map_cons,List.map_cons]
  refine .cons ?_ ih
  obtain ⟨h1,h2,h3⟩:=h
  unfold putAt
  by_cases e:p.1 = k
  ·rw [if_pos e,if_pos (h1.symm.trans e)]; exact ⟨h1,h2,ry⟩
  ·rw [if_neg e,if_neg (fun z=>e (h1.trans z))]; exact ⟨h1,h2,h3⟩
theorem KT.put {H:Hp} {kvs:List (List Key × V)} {xs:List (List Key × Addr × Value)} (r:KT H kvs xs) (k:List Key) {b:Addr} {y:V} {u:Value} (hb:H b = some (.tup (k.map kV))) (ry:RelV y u) :
  KT H (putK kvs k y) (storedH xs k b u):=by
 have e:(kvs.any fun kv=>decide (kv.1 = k)) = (atKey xs k).isSome:=by
  rw [valV_any,(r.val k).isSome_eq,Option.isSome_map]
 unfold putK storedH
 rw [e]
 by_cases q:(atKey xs k).isSome = true
 ·rw [if_pos q,if_pos q]; exact r.repl k ry
 ·rw [if_neg q,if_neg q]; exact Paired.snoc r ⟨rfl,hb,ry⟩
theorem KT.keeps {H H':Hp} {kvs:List (List Key × V)} {xs:List (List Key × Addr × Value)} (r:KT H kvs xs) (ht:∀ b ys,H b = some (.tup ys) -> H' b = some (.tup ys)):KT H' kvs xs :=
 Paired.mapP r fun _ _ z=>⟨z.1,ht _ _ z.2.1,z.2.2⟩
section
variable {P:Program} {w:World} {H:Hp} {h:Heap} {a:Addr}
theorem rd_of {u:HO} (ok:HOk P w H h) (e:Rd H a u):ObjOk P w H h a u:=e.ok ok
theorem dk_rd {kvs:List (Key × V)} (ok:HOk P w H h) (e:Rd H a (.dK kvs)):kvs.length <= sizeLine /\ (a == sysModules) = false /\ ∃ vs,KV kvs vs /\ h.DictOf (mixKind P w) a vs :=
 show ObjOk P w H h a (.dK kvs) from rd_of ok e
theorem dk_of {kvs:List (Key × V)} (ok:HOk P w H h) (e:H a = some (.dK kvs)):kvs.length <= sizeLine /\ (a == sysModules) = false /\ ∃ vs,KV kvs vs /\ h.DictOf (mixKind P w) a vs:=dk_rd ok (.inl e)
theorem key_of {ks:List Key} (ok:HOk P w H h) (e:H a = some (.tup (ks.map kV))):(tupleKind (mixKind P w)).is h ks a:=by
 obtain ⟨_,its,r,o,h1,h2,n,h3,_⟩:=(show ObjOk P w H h a (.tup (ks.map kV)) from ok a _ e)
 exact ⟨o,its.toArray,n,h1,h2,h3,by simpa using items_are r⟩
theorem dt_rd {kvs:List (List Key × V)} (ok:HOk P w H h) (e:Rd H a (.dT kvs)):kvs.length <= sizeLine /\ (a == sysModules) = false /\
  ∃ xs,KT H kvs xs /\ h.DictOfH (tupleKind (mixKind P w)) a xs:=by
 obtain ⟨z,y,xs,r,o,es,ep,h1,h2,h3,h4,h5⟩:=(show ObjOk P w H h a (.dT kvs) from rd_of ok e)
 refine ⟨z,y,xs,r,o,es,ep,h1,h2,h3,h4,fun x hx=>?_,h5⟩
 have all:∀ {l:List (List Key × V)} {m:List (List Key × Addr × Value)},KT H l m -> ∀ x ∈ m,(tupleKind (mixKind P w)).is h x.1 x.2.1:=by
  intro l m q
  induction q with
  | nil=>intro x hx; exact nomatch hx
  | @cons p q ps qs hq t ih =>
   intro x hx
   rcases List.mem_cons.mp hx with e | hx
   ·subst e
    exact key_of ok (by rw [<- hq.1]; exact hq.2.1)
   ·exact ih x hx
 exact all r x hx
theorem dt_of {kvs:List (List Key × V)} (ok:HOk P w H h) (e:H a = some (.dT kvs)):kvs.length <= sizeLine /\ (a == sysModules) = false /\
  ∃ xs,KT H kvs xs /\ h.DictOfH (tupleKind (mixKind P w)) a xs:=dt_rd ok (.inl e)
end
noncomputable def DGet (H:Hp) (a:Addr) (y:V) (r:Option V):Prop :=
 (∃ kvs k,Rd H a (.dK kvs) /\ y = kV k /\ r = valV kvs k) \/ ∃ kvs k b,Rd H a (.dT kvs) /\ y = .ref b /\ H b = some (.tup (k.map kV)) /\ r = valV kvs k
noncomputable def DPut (H:Hp) (a:Addr) (y v:V) (H':Hp):Prop :=
 (∃ kvs k,H a = some (.dK kvs) /\ y = kV k /\ kvs.length < sizeLine /\ H' = upd H a (.dK (putK kvs k v))) \/
 ∃ kvs k b,H a = some (.dT kvs) /\ y = .ref b /\ H b = some (.tup (k.map kV)) /\ kvs.length < sizeLine /\ H' = upd H a (.dT (putK kvs k v))
section
variable {X:Cx} {pins:List (Addr × Obj)} {σ:St} {H:Hp} {s:Shared} {a:Addr} {y v:V} {u r:Value} {o:Option V} {A:Around} {E:Value -> Shared -> Prop}
theorem Inv.big (I:Inv X pins σ H s):sysModules < s.heap.objs.size:=by
 have h:mainGlobals < s.heap.objs.size:=(I.mod.glob.keeps I.bk).lt
 exact Nat.lt_trans (by decide) h
theorem d_getItem {Q:Value -> Shared -> Prop} (hu:A.units + 1 < cLine) (I:Inv X pins σ H s) (g:DGet H a y (some v)) (ry:RelV y u) (h:∀ w' s',Inv X pins σ H s' -> RelV v w' -> Q w' s') :
  wpAny (model X.prog X.w) A (getItem (.ref a) u) Q E s:=by
 rcases g with ⟨kvs,k,e,ey,l⟩ | ⟨kvs,k,b,e,ey,eb,l⟩
 ·subst ey
  obtain ⟨z,hd,vs,rel,dd⟩:=dk_rd I.hok e
  obtain ⟨w',hw,rw'⟩:=RelO.some_of (v:=v) (o:=valueAt vs k) (by rw [l]; exact rel.val k)
  exact wpAny_getItem_of (kV_is ry) dd.mapOf hw (h w' _ (I.tok _) rw')
 ·subst ey
  cases (show u = Value.ref b from ry)
  obtain ⟨z,hd,xs,rel,dd⟩:=dt_rd I.hok e
  obtain ⟨w',hw,rw'⟩:=RelO.some_of (v:=v) (o:=(atKey xs k).map (·.2)) (by rw [l]; exact rel.val k)
  obtain ⟨p,hp,hp2⟩:=Option.map_eq_some_iff.mp hw
  refine wpAny_getItem_heap (tupleKind_room_in1 hu) (key_of I.hok eb) dd hp ?_
  rw [hp2]
  exact h w' _ (I.tok _) rw'
theorem d_write {h':Heap} {t':Nat} {ob:HO} (I:Inv X pins σ H s) (mu:Mut (H a)) (hs:Heap.SameBut a s.heap h') (he:∃ q,h'.get? a = some q) (new:ObjOk X.prog X.w (upd H a ob) h' a ob) :
  Inv X pins σ (upd H a ob) { s with heap:=h',toks:=t' } :=
 I.write (x:=a) (e:=a) mu (.inl rfl) (fun b q hb z=>(hs.2 b hb).trans z) he new
theorem dk_new {P:Program} {w:World} {H':Hp} {h':Heap} {kvs:List (Key × V)} {vs:List (Key × Value)} (z:kvs.length <= sizeLine) (hd:(a == sysModules) = false) (rel:KV kvs vs) (dd:h'.DictOf (mixKind P w) a vs) :
  ObjOk P w H' h' a (.dK kvs):=⟨z,hd,vs,rel,dd⟩
theorem d_setItem {H':Hp} {Q:Unit -> Shared -> Prop} (hu:A.units + 1 < cLine) (I:Inv X pins σ H s) (g:DPut H a y v H') (ry:RelV y u) (rv:RelV v r) (h:∀ s',Inv X pins σ H' s' -> Q () s') :
  wpAny (model X.prog X.w) A (setItem (.ref a) u r) Q E s:=by
 rcases g with ⟨kvs,k,e,ey,l,eH⟩ | ⟨kvs,k,b,e,ey,eb,l,eH⟩
 ·subst ey eH
  obtain ⟨z,hd,vs,rel,dd⟩:=dk_of I.hok e
  have hz:vs.length <= sizeLine:=by rw [<- rel.length]; exact z
  have hl:(putK kvs k v).length <= sizeLine:=by have:=length_putK kvs k v; omega
  refine wpAny_setItem_pairs (hsz:=hz) (kV_is ry) dd fun h' dd' hs=>h _ ?_
  have he:∃ q,h'.get? a = some q:=let ⟨q,_,_,hq,_⟩:=dd'; ⟨q,hq⟩
  exact d_write I (by rw [e]; exact True.intro) hs he (dk_new hl hd (rel.put k rv) dd')
 ·subst ey eH
  cases (show u = Value.ref b from ry)
  obtain ⟨z,hd,xs,rel,dd⟩:=dt_of I.hok e
  have hz:xs.length <= sizeLine:=by rw [<- Paired.length rel]; exact z
  have hl:(putK kvs k v).length <= sizeLine:=by have:=length_putK kvs k v; omega
  refine wpAny_setItem_heap (hsz:=hz) (tupleKind_room_in1 hu) (key_of I.hok eb) dd fun h' dd' hs=>h _ ?_
  obtain ⟨q,es,ep,hq,h2,h3,h4,_,h5⟩:=dd'
  refine d_write I (by rw [e]; exact True.intro) hs ⟨q,hq⟩ ⟨hl,hd,_,(rel.put k eb rv).keeps fun c ys ec=>?_,q,es,ep,hq,h2,h3,h4,h5⟩
  rw [upd_ne (ne_of ec e (fun z=>nomatch z))]
  exact ec
end
section
variable {X:Cx} {pins:List (Addr × Obj)} {σ:St} {H:Hp} {s:Shared} {a:Addr} {kvs:List (Key × V)} {k:Key} {u:Value} {A:Around} {E:Value -> Shared -> Prop}
end
noncomputable def NoSl (i:Expr):Prop:=∀ ov iv,subscripted i false ov iv = operate [ov,iv] (getItem ov iv)
theorem subD_of {prog:Program} {w:World} {A:Around} {E:Value -> Shared -> Prop} {s:Shared} {env:Env} {value slice:Expr} {pos:Pos} {T id:String} {Q:Value -> Shared -> Prop}
  (hl:typeLookup (.type T) "__getitem__" = pure (some (.builtin id))) (hs:NoSl slice)
  (h:wpAny (model prog w) A (eval value env) (fun o s₁=>wpAny (model prog w) A (eval slice env) (fun i s₂=>s₂.TypeIs o T /\ wpAny (model prog w) A (getItem o i) Q E s₂) E s₁) E s) :
  wpAny (model prog w) A (eval (.Subscript value slice pos) env) Q E s:=by
 refine Subscript_ (wpAny_mono h (fun o s₁ h₁=>wpAny_mono h₁ (fun i s₂ h₂=>?_) fun _ _ x=>x) fun _ _ x=>x)
 obtain ⟨hT,h₂⟩:=h₂
 unfold subscriptTail
 refine wpAny_bind ?_
 rw [getitemInPython_of_ne hT.not_modules]
 refine wpAny_bind (wpAny_specialOf hT hl ?_)
 have fin:wpAny (model prog w) A (subscripted slice false o i) (fun r s₃=>wpAny (model prog w) A (letTemporaryGo value o r >>= fun _=>pure r) Q E s₃) E s₂:=by
  rw [hs o i]
  exact wpAny_operating (wpAny_mono h₂ (fun r s₃ h₃=>wpAny_bind (wpAny_letTemporaryGo (wpAny_pure h₃))) fun _ _ x=>x)
 first
  | exact wpAny_pure (wpAny_bind fin)
  | exact wpAny_bind (wpAny_pure (wpAny_bind fin))
  | exact wpAny_bind fin
theorem dict_typeIs {X:Cx} {pins:List (Addr × Obj)} {σ:St} {H:Hp} {s:Shared} {a:Addr} {y:V} {o:Option V} (I:Inv X pins σ H s) (g:DGet H a y o):s.TypeIs (.ref a) "dict":=by
 rcases g with ⟨kvs,k,e,_,_⟩ | ⟨kvs,k,b,e,_,_,_⟩
 ·obtain ⟨_,_,vs,_,dd⟩:=dk_rd I.hok e
  exact dd.typeIs
 ·obtain ⟨_,_,xs,_,dd⟩:=dt_rd I.hok e
  exact dd.typeIs
noncomputable def tDGet (td ty:TE):TE:=fun σ H Q=>td σ H fun x H1=>ty σ H1 fun y H2=>∃ a v,x = .ref a /\ DGet H2 a y (some v) /\ Q v H2
noncomputable def sDPut (td ty tv:TE):TS:=fun D σ H=>tv σ H fun v H1=>td σ H1 fun x H2=>ty σ H2 fun y H3=>∃ a H4,x = .ref a /\ DPut H3 a y v H4 /\ D.nx σ H4
section
variable {X:Cx} {o i e value:Expr} {pos pos' tpos:Pos} {td ty tv:TE}
theorem pe_dget (hu:X.A.units + 1 < cLine) (ho:PE X o td) (hi:PE X i ty) (hs:NoSl i):PE X (.Subscript o i pos) (tDGet td ty):=by
 intro pins s σ H Q I h
 refine subD_of PySem.F.slot_dict_getitem.lookup hs (thn (ho pins s σ H _ I h) fun u s1 ⟨x,H1,I1,rx,q1⟩=>thn (hi pins s1 σ H1 _ I1 q1) fun iv s2 ⟨y,H2,I2,ry,a,v,ex,g,q2⟩=>?_)
 subst ex
 obtain rfl:u = Value.ref a:=rx
 exact ⟨dict_typeIs I2 g,d_getItem hu I2 g ry fun w' s3 I3 rw'=>⟨v,H2,I3,rw',q2⟩⟩
theorem ps_dput (hu:X.A.units + 1 < cLine) (ho:PE X o td) (hi:PE X i ty) (hv:PE X value tv) (hs:swapsWith value (some (.Subscript o i pos')) pos.line X.env = pure false) :
  PS X (.Assign [.Subscript o i pos'] value pos) (sDPut td ty tv):=by
 intro pins s σ H D I h
 refine wpAny_Assign_Subscript (thn (hv pins s σ H _ I h) fun r s1 ⟨v,H1,I1,rv,q1⟩=>thn (ho pins s1 σ H1 _ I1 q1) fun u s2 ⟨x,H2,I2,rx,q2⟩=>thn (hi pins s2 σ H2 _ I2 q2) fun iv s3 ⟨y,H3,I3,ry,a,H4,ex,g,q3⟩=>?_) hs
 subst ex
 obtain rfl:u = Value.ref a:=rx
 exact d_setItem hu I3 g ry rv fun s4 I4=>⟨σ,H4,I4,q3⟩
end
theorem dk_empty {P:Program} {w:World} {H:Hp} (h:Heap) (hb:sysModules < h.objs.size):ObjOk P w H (h.push { cls:=.type "dict",data:=.dict #[] }) h.objs.size (.dK []) :=
 ⟨Nat.zero_le _,beq_eq_false_iff_ne.mpr (Ne.symm (Nat.ne_of_lt hb)),[],.nil,Heap.DictOf.new h⟩
theorem dt_empty {P:Program} {w:World} {H:Hp} (h:Heap) (hb:sysModules < h.objs.size):ObjOk P w H (h.push { cls:=.type "dict",data:=.dict #[] }) h.objs.size (.dT []) :=
 ⟨Nat.zero_le _,beq_eq_false_iff_ne.mpr (Ne.symm (Nat.ne_of_lt hb)),[],.nil,_,#[],0,Heap.get?_push_size _ rfl,⟨rfl,rfl,rfl⟩,rfl,rfl,List.nodup_nil⟩
noncomputable def tDNewT:TE:=fun _ H Q=>∀ p,H p = none -> Q (.ref p) (upd H p (.dT []))
section
variable {X:Cx} {pos:Pos}
theorem pe_dnewT:PE X (.Dict [] [] pos) tDNewT:=fun pins s σ H Q I h =>
 wpAny_Dict_empty ⟨.ref s.heap.objs.size,_,I.laid (a:=s.heap.objs.size) (o:=.dT []) (t':=s.toks) (fun _ _ q=>Heap.get?_push_of_some _ q) (Nat.le_refl _) (dt_empty s.heap I.big),rfl,h _ (I.hok.fresh (Nat.le_refl _))⟩
end
noncomputable def tPairs:List (TE × TE) -> St -> Hp -> (List (V × V) -> Hp -> Prop) -> Prop
 | [],_,H,Q=>Q [] H
 | (tk,tv) :: r,σ,H,Q=>tk σ H fun x H1=>tv σ H1 fun y H2=>tPairs r σ H2 fun ps H3=>Q ((x,y) :: ps) H3
noncomputable abbrev VV:List (V × V) -> List (Value × Value) -> Prop:=Paired fun p q=>RelV p.1 q.1 /\ RelV p.2 q.2
noncomputable def PPs (X:Cx) (pos:Pos) (keys:List (Option Expr)) (values:List Expr) (trs:List (TE × TE)):Prop :=
 ∀ (pins:List (Addr × Obj)) (s:Shared) (σ:St) (H:Hp) (Q:List (V × V) -> Hp -> Prop),Inv X pins σ H s -> tPairs trs σ H Q ->
  wpAny (model X.prog X.w) X.A (evalPairs (pairTrees keys values X.env pos)) (fun vs s'=>∃ ps H',Inv X pins σ H' s' /\ VV ps vs /\ Q ps H') X.xe s
theorem pps_nil {X:Cx} {pos:Pos}:PPs X pos [] [] []:=fun pins s σ H Q I h=>pairTrees_nil_walk ⟨[],H,I,.nil,h⟩
theorem pps_cons {X:Cx} {pos:Pos} {k v:Expr} {ks:List (Option Expr)} {vs:List Expr} {tk tv:TE} {trs:List (TE × TE)} (hk:PE X k tk) (hv:PE X v tv) (hr:PPs X pos ks vs trs) :
  PPs X pos (some k :: ks) (v :: vs) ((tk,tv) :: trs):=fun pins s σ H Q I h =>
 pairTrees_cons_walk (thn (hk pins s σ H _ I h) fun u s1 ⟨x,H1,I1,rx,q1⟩=>thn (hv pins s1 σ H1 _ I1 q1) fun w2 s2 ⟨y,H2,I2,ry,q2⟩ =>
   thn (hr pins s2 σ H2 _ I2 q2) fun ws s3 ⟨ps,H3,I3,rel,q3⟩=>⟨(x,y) :: ps,H3,I3,.cons ⟨rx,ry⟩ rel,q3⟩)
noncomputable def mergeK (kvs more:List (Key × V)):List (Key × V):=more.foldl (fun acc kv=>putK acc kv.1 kv.2) kvs
theorem KV.merge:∀ {more:List (Key × V)} {rs:List (Key × Value)} {kvs:List (Key × V)} {vs:List (Key × Value)},KV more rs -> KV kvs vs -> KV (mergeK kvs more) (merged vs rs):=by
 intro more rs kvs vs r
 unfold KV at r
 induction r generalizing kvs vs with
 | nil=>intro q; exact q
 | @cons p q ps qs h t ih =>
  intro r0
  have e:KV (putK kvs p.1 p.2) (stored vs q.1 q.2):=by
   have:=r0.put p.1 h.2
   rw [<- h.1]; exact this
  exact ih e
theorem length_mergeK:∀ (more kvs:List (Key × V)),(mergeK kvs more).length <= kvs.length + more.length
 | [],kvs=>by show kvs.length <= kvs.length + 0; omega
 | p :: r,kvs=>by
  have h1:=length_mergeK r (putK kvs p.1 p.2)
  have h2:=length_putK kvs p.1 p.2
  show (mergeK (putK kvs p.1 p.2) r).length <= _
  rw [List.length_cons]; omega
theorem carries_of {P:Program} {w:World}:∀ {kvs:List (Key × V)} {ws:List (Value × Value)},VV (kvs.map fun kv=>(kV kv.1,kv.2)) ws -> ∃ rs,Carries (mixKind P w) ws rs /\ KV kvs rs
 | [],_,r=>by rw [List.map_nil] at r; cases r; exact ⟨[],True.intro,.nil⟩
 | p :: kvs,_,r=>by
  rw [List.map_cons] at r
  cases r with
  | @cons a b as bs h t =>
   obtain ⟨rs,c,q⟩:=carries_of (P:=P) (w:=w) t
   obtain ⟨b1,b2⟩:=b
   exact ⟨(p.1,b2) :: rs,⟨kV_is h.1,rfl,c⟩,.cons ⟨rfl,h.2⟩ q⟩
noncomputable def tDisp (trs:List (TE × TE)):TE:=fun σ H Q=>∀ p,H p = none -> tPairs trs σ (upd H p (.dK [])) fun ps H2=>H2 p = some (.dK []) /\ ∃ kvs:List (Key × V),ps = kvs.map (fun kv=>(kV kv.1,kv.2)) /\ kvs.length <= 15 /\ Q (.ref p) (upd H2 p (.dK (mergeK [] kvs)))
theorem pe_disp {X:Cx} {pos:Pos} {keys:List (Option Expr)} {values:List Expr} {trs:List (TE × TE)} (h:PPs X pos keys values trs) (hall:keys.all (·.isSome) = true) (hl:keys.length = values.length) (h0:keys ≠ [])
  (h15:keys.length <= 15):PE X (.Dict keys values pos) (tDisp trs):=by
 intro pins s σ H Q I q
 have hn:=I.hok.fresh (Nat.le_refl s.heap.objs.size)
 have I1:=I.laid (a:=s.heap.objs.size) (o:=.dK []) (h':=s.heap.push { cls:=.type "dict",data:=.dict #[] }) (t':=s.toks) (fun _ _ q=>Heap.get?_push_of_some _ q) (Nat.le_refl _) (dk_empty s.heap I.big)
 refine wpAny_Dict_walk (knd:=mixKind X.prog X.w) hall hl h0 h15 (thn (h pins _ σ _ _ I1 (q _ hn)) fun ws s2 ⟨ps,H2,I2,rel,e,kvs,ep,lk,q2⟩=>?_)
 subst ep
 obtain ⟨rs,c,rk⟩:=carries_of (P:=X.prog) (w:=X.w) rel
 obtain ⟨z,hd,vs0,r0,dd⟩:=dk_of I2.hok e
 cases r0
 refine ⟨rs,c,dd,fun h' dd' hs=>⟨.ref s.heap.objs.size,_,?_,rfl,q2⟩⟩
 have hz:(mergeK [] kvs).length <= sizeLine:=by
  have h1:=length_mergeK kvs []
  rw [List.length_nil] at h1
  rw [sizeLine_eq]; omega
 have he:∃ q,h'.get? s.heap.objs.size = some q:=let ⟨q,_,_,hq,_⟩:=dd'; ⟨q,hq⟩
 exact d_write I2 (by rw [e]; exact True.intro) hs he (dk_new hz hd (rk.merge .nil) dd')
structure M1 (X:Cx) (o:Expr) (m:Str) (apos:Pos) (e:Expr) (cpos:Pos):Prop where
 base:attributeBase o m X.env (eval o X.env) = eval o X.env
 few:((backTo cpos (starEach [e] X.env)).all (fun x=>!x.1) && (backToKw cpos (keywordEach [] X.env)).all (fun x=>x.1.isSome)
   && decide (([e]:List Expr).length + ([]:List Keyword).length + (if ([]:List Keyword).isEmpty then 0 else 1) < 30)) = true
 line:(apos.endLine == cpos.line) = true
 trees:backTo cpos (starEach [e] X.env) = [(false,eval e X.env)]
structure M2 (X:Cx) (o:Expr) (m:Str) (apos:Pos) (e f:Expr) (cpos:Pos):Prop where
 base:attributeBase o m X.env (eval o X.env) = eval o X.env
 few:((backTo cpos (starEach [e,f] X.env)).all (fun x=>!x.1) && (backToKw cpos (keywordEach [] X.env)).all (fun x=>x.1.isSome)
   && decide (([e,f]:List Expr).length + ([]:List Keyword).length + (if ([]:List Keyword).isEmpty then 0 else 1) < 30)) = true
 line:(apos.endLine == cpos.line) = true
 trees:backTo cpos (starEach [e,f] X.env) = [(false,eval e X.env),(false,eval f X.env)]
noncomputable def IsD (H:Hp) (a:Addr):Prop:=(∃ kvs,Rd H a (.dK kvs)) \/ ∃ kvs,Rd H a (.dT kvs)
theorem isD_at {X:Cx} {pins:List (Addr × Obj)} {σ:St} {H:Hp} {s:Shared} {a:Addr} (I:Inv X pins σ H s) (d:IsD H a) :
  s.TypeIs (.ref a) "dict" /\ (∀ b,Value.ref a = .ref b -> ∃ ob,s.heap.get? b = some ob /\ ob.dict = none) /\ (a == sysModules) = false:=by
 rcases d with ⟨kvs,e⟩ | ⟨kvs,e⟩
 ·obtain ⟨_,hd,vs,_,dd⟩:=dk_rd I.hok e
  refine ⟨dd.typeIs,fun b q=>?_,hd⟩
  cases q
  obtain ⟨ob,_,_,h1,h2,_⟩:=dd
  exact ⟨ob,h1,h2.2.1⟩
 ·obtain ⟨_,hd,xs,_,dd⟩:=dt_rd I.hok e
  refine ⟨dd.typeIs,fun b q=>?_,hd⟩
  cases q
  obtain ⟨ob,_,_,h1,h2,_⟩:=dd
  exact ⟨ob,h1,h2.2.1⟩
section
variable {X:Cx} {pins:List (Addr × Obj)} {σ:St} {H:Hp} {s:Shared} {a:Addr} {y d:V} {u r:Value} {o:Option V} {A:Around} {E:Value -> Shared -> Prop}
end
section
variable {X:Cx} {o e f:Expr} {apos cpos:Pos} {td ty tx:TE}
end
section
variable {X:Cx} {pins:List (Addr × Obj)} {σ:St} {H:Hp} {s:Shared} {a:Addr} {kvs:List (Key × V)} {A:Around} {E:Value -> Shared -> Prop}
end
section
variable {X:Cx} {pins:List (Addr × Obj)} {σ:St} {H:Hp} {s:Shared} {a:Addr} {y:V} {u:Value} {A:Around} {E:Value -> Shared -> Prop}
end
end L2
namespace Att
open PySem PySem.W PySem.Calls PyProof.Rows
theorem ints_of_wellAll {P:Params} {h:Heap}:∀ (ns:List Int) (vs:List Value),WellAll P h vs (ns.map WData.int) -> IntsAre vs ns:=by
 intro ns
 induction ns with
 | nil =>
  intro vs w
  rw [List.map_nil] at w
  cases w
  exact .nil
 | cons n ns ih =>
  intro vs w
  rw [List.map_cons] at w
  cases w with
  | cons a b =>
   cases a
   exact .cons _ _ (ih _ b)
theorem script_of {l:OpenLaw} {n:Nat} (hn:l.most = some n) {P:Params} {h:Heap} {args:List WData} {vals:List Value}
  (hpre:l.row.toRowW.claim.pre args = true) (hwl:WellAll P h vals args) :
  ∃ a vs ns,vals = [Value.ref a] /\ args = [WData.list (ns.map WData.int)] /\ h.get? a = some { cls:=.type "list",data:=.seq vs.toArray } /\ IntsAre vs ns /\ ns.length <= n:=by
 have hsh:WShape.hasAll [] args [.list .int] = true:=(pre_splitW hpre).1
 have hc:l.pre.holds [] { args:=args } = true:=(pre_splitW hpre).2
 obtain ⟨d,r,rfl,h1,h2⟩:=hasAllW_cons hsh
 obtain rfl:=hasAllW_nil h2
 obtain ⟨xs,rfl,h3⟩:=hasW_list h1
 obtain ⟨ns,rfl⟩:=items_int h3
 have hlen:ns.length <= n:=by
  unfold OpenLaw.pre at hc
  have h4:(WTm.not (.lt (.lit (.int (n:Int))) (.len (.arg 0)))).holds [] { args:=[.list (ns.map .int)] } = true:=by
   have h4:=(holds_andW hc).1
   rw [hn] at h4
   exact h4
  have h5:=condW_of h4 (w_not (w_lt w_lit (w_len_list (w_arg rfl))))
  rw [List.length_map] at h5
  refine Nat.le_of_not_lt fun q=>?_
  have q':(n:Int) < ((ns.length:Nat):Int):=by omega
  first
   | (rw [decide_eq_true q'] at h5; exact absurd h5 (by decide))
   | (simp at h5; omega)
 cases hwl with
 | cons w1 w2 =>
  cases w2
  cases w1 with
  | list ho hall=>exact ⟨_,_,ns,rfl,rfl,ho,ints_of_wellAll ns _ hall,hlen⟩
theorem post_true (l:OpenLaw) (args:List WData):l.row.toRowW.claim.post args (.bool true) args = true :=
 postW_of (r:=l.row.toRowW) (X:=(true == true))
  (show WShape.has [] (.bool true) .bool = true by first | rfl | decide | simp [WShape.has,WShape.arms,WShape.armsAll])
  (show (WTm.eq .res (.lit (.bool true))).value [] { args:=args,res:=some (.bool true),after:=args } = some (.bool (true == true)) from w_eq_bool (w_res rfl) w_lit) rfl
theorem attach_call {l:OpenLaw} {n:Nat} {q:Program} {loose:List Str} {XP:(Str -> Option Value) -> Heap -> Prop} {YP:World -> Heap -> Prop} {d:DefRec}
  (hn:l.most = some n) (hdf:d.params.defaults = [])
  (call:∀ (w:World) (s₀ s₁:Shared) (mg mb:Str -> Option Value) (fa:Addr) (o:Obj) (pm cd doc:Value) (a:Addr) (vs:List Value) (ns:List Int),
    Ground q loose [] XP w s₀ mg mb s₁.heap -> YP w s₁.heap ->
    s₁.heap.get? fa = some o -> o.data = .func (docDef d.name d.params d.body d.scope pm cd doc) -> s₁.heap.CodeRec cd d.name -> mg d.name = some (.ref fa) ->
    s₁.heap.get? a = some { cls:=.type "list",data:=.seq vs.toArray } -> IntsAre vs ns -> ns.length <= n -> s₁.gens = #[] ->
    codeAny (model l.prog w) callerA (.call (.ref fa) ⟨[.ref a],[]⟩) (fun r s'=>r = .ok (.ret (.bool true)) /\ OldK s₁.heap s'.heap /\ s'.os = s₁.os /\ AllBare s'.gens) s₁) :
  WalkO q loose XP YP l.row.toRowW d [] (fun f vs=>PySem.call f vs):=by
 intro w s₀ s₁ mg mb G Y fa o pm cd doc dV kV ho hd hcd hD hmg hg args vals as hpre hlay hrd hwl hlo
 obtain rfl:dV = .none:=Dflts.none hD hdf
 obtain rfl:kV = .none:=Dflts.noKw hD
 obtain ⟨a,vs,ns,rfl,rfl,hobj,hints,hlen⟩:=script_of hn hpre hwl
 refine enter_call (codeAny_mono (call w s₀ s₁ mg mb fa o pm cd doc a vs ns G Y ho (fd_plain hd) hcd hmg hobj hints hlen hg) fun r s' hq=>?_)
 obtain ⟨rfl,h2,h3,h4⟩:=hq
 exact ⟨.inl ⟨.bool true,.bool true,[],rfl,fun _=>rfl,.bool true,post_true l _,fun _=>⟨List.Pairwise.nil,fun _ hm=>(nomatch hm)⟩⟩,h2,h3,h4⟩
section
variable {prog:Program} {w:World} {A:Around} {E:Value -> Shared -> Prop} {s:Shared} {K:Frag}
end
end Att
namespace L2
open PySem PySem.Spec PyProof.Rows
theorem vals_ints:∀ {vs:List Value} {ns:List Int},IntsAre vs ns -> Vals (ns.map V.int) vs
 | _,_,.nil=>.nil
 | _,_,.cons n t h=>.cons ⟨t,rfl⟩ (vals_ints h)
noncomputable def Only (H:Hp):Prop:=∀ b,H b = none \/ ∃ o xs,H b = some (.frz o (.lst xs))
theorem law_call {P:Program} {w:World} {K:PySem.W.Frag} {mg mb:Str -> Option Value} {CX:CXT} {k:Nat} {fa a:Addr} {fd:FuncData} {x:Str} {sp:Sp} {s₁:Shared} {vs:List Value} {ns:List Int}
  (KX:K.In s₁.heap) (hns:s₁.heap.Ns mainGlobals mg) (hb:s₁.heap.Ns builtinsNs mb) (hbb:∀ x:Str,x ≠ "__name__" -> mb x = bootBuiltins x) (hlim:s₁.heap.NoLimit) (hg:s₁.gens = #[])
  (ha:s₁.heap.get? a = some { cls:=.type "list",data:=.seq vs.toArray }) (hi:IntsAre vs ns) (hl:ns.length <= sizeLine) (hr:Room k callerA)
  (F:∀ base:Heap,K.In base -> base.Ns mainGlobals mg -> FnOk P w K mg base CX k fa fd [x] sp) (hbind:∀ (s:Shared) (u:Value),BindsTo s fd ⟨[u],[]⟩ [(x,u)])
  (hsp:∀ H:Hp,Only H -> SqL K H a (ns.map V.int) -> sp [.ref a] H (fun v _=>v = .bl true) fun _ _ _=>False)
  (hCX:∀ H e s',CX [] H s₁ (fun _ _ _=>False) e s' -> False) :
  codeAny (model P w) callerA (.call (.ref fa) ⟨[.ref a],[]⟩) (fun r s'=>r = .ok (.ret (.bool true)) /\ OldK s₁.heap s'.heap /\ s'.os = s₁.os /\ AllBare s'.gens) s₁:=by
 have rv:=vals_ints hi
 have lenV:=hi.length
 have core:∀ H:Hp,Only H -> SqL K H a (ns.map V.int) -> HOk P w H s₁.heap -> (∀ b,H b ≠ none -> b = a) -> (H a ≠ none -> K.lookup a = none) ->
   codeAny (model P w) callerA (.call (.ref fa) ⟨[.ref a],[]⟩) (fun r s'=>r = .ok (.ret (.bool true)) /\ OldK s₁.heap s'.heap /\ s'.os = s₁.os /\ AllBare s'.gens) s₁:=by
  intro H hO hS hok hA hK
  have base_of:∀ {b:Addr} {o:Obj},s₁.heap.get? b = some o -> H b = none -> (hidT s₁.heap H).get? b = some o:=fun e n=>hidT_get e n
  have noA:∀ {b:Addr} {o:Obj} {es:Array DictEntry} {ep:Nat},s₁.heap.get? b = some o -> o.data = .dict es ep -> H b = none:=fun {b o es ep} e d=>by
   cases q:H b with
   | none=>rfl
   | some u =>
    have e':b = a:=hA b (by rw [q]; simp)
    subst e'
    rw [ha] at e; cases e
    have d':Data.seq vs.toArray _ = Data.dict es ep:=d
    cases d'
  have nsK:∀ {b:Addr} {m:Str -> Option Value},s₁.heap.Ns b m -> (hidT s₁.heap H).Ns b m:=fun {b m} ⟨o,es,ep,e,d,r⟩=>⟨o,es,ep,base_of e (noA e d),d,r⟩
  have hKb:K.In (hidT s₁.heap H):=fun b o e=>base_of (KX b o e) (by
    cases q:H b with
    | none=>rfl
    | some u =>
      have e':b = a:=hA b (by rw [q]; simp)
      subst e'
      rw [hK (by rw [q]; simp)] at e; cases e)
  have hM:Mod K mg (hidT s₁.heap H):=⟨hKb,nsK hns,⟨mb,nsK hb,hbb⟩,let ⟨mc,h1,h2⟩:=hlim; ⟨mc,nsK h1,h2⟩⟩
  have e0:Env0 P w K mg (hidT s₁.heap H) callerA [] s₁ H:=⟨rfl,hM,fun b o e=>of_hidT e,Nat.le_of_eq (hidT_size _ _),trivial,fun b hb=>absurd (show b ∈ ([]:List Addr) from hb) (by simp),hok,.of_eq hg⟩
  refine codeAny_mono ((F _ hKb (nsK hns)).run callerA [] s₁ H ⟨[.ref a],[]⟩ [.ref a] [.ref a] _ _ hr e0 (hbind s₁ (.ref a)) (.cons rfl .nil) (hsp H hO hS)) fun r s' h=>?_
  cases r with
  | error e=>exact (hCX H e s' h).elim
  | ok fl =>
   cases fl with
   | next=>exact False.elim h
   | brk=>exact False.elim h
   | cont=>exact False.elim h
   | ret u =>
    obtain ⟨v,H',os,bare,un,hok',r',q⟩:=h
    have q':v = .bl true:=q
    subst q'
    obtain rfl:u = Value.bool true:=r'
    refine ⟨rfl,OldK.of_keep fun b o e=>?_,os,bare⟩
    cases q:H b with
    | none=>exact un.keep b o e q (by intro z; exact absurd (show b ∈ ([]:List Addr) from z) (by simp)) (by simp)
    | some u =>
     rcases hO b with z | ⟨ob,xs,z⟩
     ·rw [q] at z; cases z
     ·have z2:=un.frzs b ob _ z
      obtain ⟨e1,_⟩:=hok b _ z
      obtain ⟨e2,_⟩:=hok' b _ z2
      rw [e] at e1; cases e1
      exact e2
 cases hk:K.lookup a with
 | some o =>
  have e:=KX a o hk
  rw [ha] at e
  cases e
  refine core (fun _=>none) (fun _=>.inl rfl) (.inr ⟨_,vs.toArray,_,hk,rfl,rfl,rfl,by rw [List.size_toArray,lenV]; exact hl,by simpa using rv⟩) (fun b u z=>by have z':(none:Option HO) = some u:=z; cases z') (fun b z=>absurd rfl z) fun z=>absurd rfl z
 | none =>
  refine core (fun b=>if b = a then some (.frz { cls:=.type "list",data:=.seq vs.toArray } (.lst (ns.map V.int))) else none) (fun b=>?_) (.inl (.inr ⟨{ cls:=.type "list",data:=.seq vs.toArray },if_pos rfl⟩)) (fun b u z=>?_) (fun b z=>?_) fun _=>hk
  ·by_cases hb:b = a
   ·exact .inr ⟨_,_,if_pos hb⟩
   ·exact .inl (if_neg hb)
  ·by_cases hb:b = a
   ·have z':=(if_pos hb).symm.trans z
    cases z'
    subst hb
    exact ⟨ha,by rw [List.length_map]; exact hl,vs,_,rv,ha⟩
   ·have z':=(if_neg hb).symm.trans z
    cases z'
  ·by_cases hb:b = a
   ·exact hb
   ·exact absurd (if_neg hb) z
end L2
namespace L2
open PySem PySem.Spec PyProof.Rows
theorem walk_of {l:PySem.W.OpenLaw} {n k:Nat} {q:Program} {loose:List Str} {XP:(Str -> Option Value) -> Heap -> Prop} {YP:World -> Heap -> Prop} {d:DefRec} {K:Params -> PySem.W.Frag} {CX:World -> CXT} {sp:World -> Sp} {x:Str}
  (hn:l.most = some n) (hn2:n <= sizeLine) (hdf:d.params.defaults = []) (hr:Room k callerA)
  (hY:∀ (w:World) (h:Heap),YP w h -> (K w.params).In h)
  (F:∀ (w:World) (mg:Str -> Option Value) (fa:Addr) (h:Heap),(K w.params).In h -> h.Ns mainGlobals mg -> mg d.name = some (.ref fa) ->
    ∃ fd:FuncData,(∀ (s:Shared) (u:Value),BindsTo s fd ⟨[u],[]⟩ [(x,u)]) /\
      ∀ base:Heap,(K w.params).In base -> base.Ns mainGlobals mg -> FnOk l.prog w (K w.params) mg base (CX w) k fa fd [x] (sp w))
  (hsp:∀ (w:World) (H:Hp) (a:Addr) (ns:List Int),ns.length <= n -> Only H -> SqL (K w.params) H a (ns.map V.int) -> sp w [.ref a] H (fun v _=>v = .bl true) fun _ _ _=>False)
  (hCX:∀ (w:World) (H:Hp) (s:Shared) (e:Value) (s':Shared),CX w [] H s (fun _ _ _=>False) e s' -> False) :
  PySem.W.WalkO q loose XP YP l.row.toRowW d [] (fun f vs=>PySem.call f vs):=by
 refine Att.attach_call hn hdf fun w s₀ s₁ mg mb fa o pm cd doc a vs ns G Y ho hd hcd hmg hobj hints hlen hg=>?_
 have KX:=hY w _ Y
 obtain ⟨fd,hb,hF⟩:=F w mg fa _ KX G.T.g hmg
 exact law_call KX G.T.g G.T.b G.T.builtins G.T.nolimit hg hobj hints (Nat.le_trans hlen hn2) hr hF hb (fun H hO hS=>hsp w H a ns hlen hO hS) fun H e s'=>hCX w H s₁ e s'
end L2
namespace L2
open PySem PySem.Spec PyProof.Rows
noncomputable def defArgs (s:Stmt):Arguments:=match s with
 | .FunctionDef _ a _ _ _ _ _ _ _ _=>a
 | _=>{ posonlyargs:=[],args:=[],vararg:=none,kwonlyargs:=[],kw_defaults:=[],kwarg:=none,defaults:=[] }
noncomputable def defBody (s:Stmt):List Stmt:=match s with
 | .FunctionDef _ _ b _ _ _ _ _ _ _=>b
 | _=>[]
noncomputable def defScope (s:Stmt):Scope:=match s with
 | .FunctionDef _ _ _ _ _ _ sc _ _ _=>sc
 | _=>{ kind:=.function,names:=[],isGenerator:=false,isCoroutine:=false }
noncomputable abbrev CX0:CXT:=fun _ _ _ _ _ _=>False
noncomputable abbrev E0:XK:=fun _ _ _=>False
theorem pass0 {X:Cx}:Passes CX0 X E0:=fun _ _ _ _ _ _ _ h=>h.elim
structure Fun (K:PySem.W.Frag) (x qual:Str) (st:Stmt) (f:Addr) (fd:FuncData):Prop where
 ex:∃ (oc:Value) (od:Option Addr) (kV doc pm:Value) (an:Option Addr) (cdv ct:Value) (osl:Array (Option Value)),
  fd = PySem.W.fnOf x qual (defArgs st) (defBody st) (defScope st) .none kV doc pm an cdv ct /\ K.lookup f = some ⟨oc,od,.func fd,osl⟩ /\ PySem.W.codeIn K cdv qual = true
 kp:PySem.W.keepIn K (.ref f) = true
section
variable {P:Program} {w:World} {K:PySem.W.Frag} {mg:Str -> Option Value} {base:Heap}
theorem Fun.ok {x qual:Str} {st:Stmt} {f:Addr} {fd:FuncData} {N ps:List Str} {k:Nat} {sp:Sp} (F:Fun K x qual st f fd) (S:FnScope N ps (defScope st)) (len:∀ vs H Q E,sp vs H Q E -> vs.length = ps.length)
  (hbody:∀ (cdv:Value) (A:Around) (outer:List Env) (s:Shared) (H:Hp) (vs:List V) (Q:VK) (E:XK),Room k (A.deeper (envOfC qual (defScope st) s.heap.objs.size f cdv)) -> sp vs H Q E ->
    ∃ t,PSs (cxOf CX0 P w K mg base N qual (defScope st) f cdv A outer s H E).nox (defBody st) t /\ t { nx:=fun _ H'=>Q .non H',rt:=Q } (start N vs) H):FnOk P w K mg base CX0 (k + 1) f fd ps sp:=by
 obtain ⟨oc,od,kV,doc,pm,an,cdv,ct,osl,rfl,lk,hcd⟩:=F.ex
 refine fn_of lk hcd S len fun A outer s H vs Q E hr hsp=>?_
 obtain ⟨t,h,q⟩:=hbody cdv A outer s H vs Q E hr hsp
 exact ⟨t,h.nox,q⟩
theorem Fun.binds {x qual:Str} {st:Stmt} {f:Addr} {fd:FuncData} {ps:List Str} (F:Fun K x qual st f fd)
  (h:∀ (kV doc pm:Value) (an:Option Addr) (cdv ct:Value) (us:List Value),us.length = ps.length -> bindArgs (PySem.W.fnOf x qual (defArgs st) (defBody st) (defScope st) .none kV doc pm an cdv ct) ⟨us,[]⟩ = pure (ps.zip us)):Binds K fd ps []:=by
 obtain ⟨oc,od,kV,doc,pm,an,cdv,ct,osl,rfl,lk,hcd⟩:=F.ex
 exact .all (h kV doc pm an cdv ct)
theorem fun_mk {x qual:Str} {st:Stmt} {f:Addr} {oc:Value} {od an:Option Addr} {osl:Array (Option Value)} {kV doc pm cdv ct:Value} (l:K.lookup f = some ⟨oc,od,.func (PySem.W.fnOf x qual (defArgs st) (defBody st) (defScope st) .none kV doc pm an cdv ct),osl⟩)
  (c:PySem.W.codeIn K cdv qual = true) (k:PySem.W.keepIn K (.ref f) = true):Fun K x qual st f (PySem.W.fnOf x qual (defArgs st) (defBody st) (defScope st) .none kV doc pm an cdv ct):=⟨⟨oc,od,kV,doc,pm,an,cdv,ct,osl,rfl,l,c⟩,k⟩
end
theorem hu_of {A:Around} {k:Nat} (hr:Room k A):A.units + 1 < cLine:=Nat.lt_of_le_of_lt (Nat.add_le_add_left (by decide:1 <= 64) _) hr.units
section
variable {X:Cx}
theorem pv (i:Nat) {x:Str} {pos:Pos} (hN:X.N[i]? = some x:=by rfl) (hv:Vis X.env.scope x:=by first | exact Or.inl rfl | exact Or.inr (Or.inl rfl) | exact Or.inr (Or.inr rfl)) (hd:(x == ("__debug__":Str)) = false:=by decide)
  (hcd:(x == ("__classdict__":Str)) = false:=by decide):PE X (.Name x pos) (tVar i):=pe_var hN hv hd hcd
end
theorem ite2 {c A B:Prop} [Decidable c] (h1:c -> A) (h2:¬ c -> B):if c then A else B:=by
 by_cases h:c
 ·rw [if_pos h]
  exact h1 h
 ·rw [if_neg h]
  exact h2 h
section
variable {κ:Type} [DecidableEq κ]
end
end L2
namespace L2
open PySem PySem.Spec PyProof.Rows
noncomputable def clOf (cells:List (Str × Addr)):List (Str × NameKind) -> List (Str × Addr) -> List (Str × Addr)
 | [],acc=>acc
 | (n,k) :: r,acc=>clOf cells r (if k == .free then (n,(cells.lookup n).getD 0) :: acc else acc)
theorem closure_of {env:Env} {sc:Scope} (h:∀ y ∈ sc.names,y.2 = .free -> ∃ c,env.cells.lookup y.1 = some c):closureFor sc env = pure (clOf env.cells sc.names []):=by
 have go:∀ (l:List (Str × NameKind)) (acc:List (Str × Addr)),(∀ y ∈ l,y.2 = .free -> ∃ c,env.cells.lookup y.1 = some c) ->
   (forIn l acc fun (x:Str × NameKind) r=>(if (x.2 == NameKind.free) = true then (do let a <- cellOf env x.1; pure (ForInStep.yield ((x.1,a) :: r))) else pure (ForInStep.yield r):Sem (ForInStep (List (Str × Addr))))) = pure (clOf env.cells l acc):=by
  intro l
  induction l with
  | nil=>intro acc _; rfl
  | cons y r ih =>
   intro acc hl
   obtain ⟨n,k⟩:=y
   rw [List.forIn_cons]
   by_cases hk:(k == NameKind.free) = true
   ·obtain ⟨c,hc⟩:=hl (n,k) List.mem_cons_self (by simpa using hk)
    have hc:env.cells.lookup n = some c:=hc
    simp only [hk,if_true,cellOf,hc,pure_bind,clOf,Option.getD_some]
    exact ih _ fun y hy=>hl y (List.mem_cons_of_mem _ hy)
   ·simp only [hk,if_false,pure_bind,clOf]
    exact ih _ fun y hy=>hl y (List.mem_cons_of_mem _ hy)
 have e:=go sc.names [] h
 unfold closureFor
 show (forIn sc.names [] _ >>= fun cs=>pure cs) = _
 rw [show (forIn sc.names ([]:List (Str × Addr)) fun (x:Str × NameKind) r=>(match x with | (name,kind)=>if (kind == NameKind.free) = true then (do let a <- cellOf env name; pure (ForInStep.yield ((name,a) :: r))) else pure (ForInStep.yield r):Sem (ForInStep (List (Str × Addr))))) = pure (clOf env.cells sc.names []) from e]
 rfl
theorem clOf_lookup {cells:List (Str × Addr)} {x:Str} {c:Addr}:∀ {l:List (Str × NameKind)} {acc:List (Str × Addr)},(∀ y ∈ l,y.2 = .free -> ∃ c,cells.lookup y.1 = some c) -> (clOf cells l acc).lookup x = some c ->
  acc.lookup x = some c \/ cells.lookup x = some c
 | [],acc,_,h=>.inl h
 | (n,k) :: r,acc,hl,h=>by
  have ih:=clOf_lookup (l:=r) (fun y hy=>hl y (List.mem_cons_of_mem _ hy)) h
  rcases ih with ih | ih
  ·by_cases hk:(k == NameKind.free) = true
   ·rw [if_pos hk,List.lookup_cons] at ih
    obtain ⟨c',hc⟩:=hl (n,k) List.mem_cons_self (by simpa using hk)
    have hc:cells.lookup n = some c':=hc
    cases e:x == n with
    | true =>
     rw [e] at ih
     have:x = n:=by simpa using e
     subst this
     simp only [hc,Option.getD_some,Option.some.injEq] at ih
     subst ih
     exact .inr hc
    | false=>rw [e] at ih; exact .inl ih
   ·rw [if_neg hk] at ih; exact .inl ih
  ·exact .inr ih
theorem clOf_has {cells:List (Str × Addr)} {x:Str}:∀ {l:List (Str × NameKind)} {acc:List (Str × Addr)},((∃ c,acc.lookup x = some c) \/ l.lookup x = some .free) -> ∃ c,(clOf cells l acc).lookup x = some c
 | [],acc,h=>by
  rcases h with h | h
  ·exact h
  ·simp at h
 | (n,k) :: r,acc,h=>by
  refine clOf_has (l:=r) ?_
  rcases h with ⟨c,h⟩ | h
  ·left
   by_cases hk:(k == NameKind.free) = true
   ·rw [if_pos hk,List.lookup_cons]
    cases x == n with
    | true=>exact ⟨_,rfl⟩
    | false=>exact ⟨c,h⟩
   ·rw [if_neg hk]; exact ⟨c,h⟩
  ·rw [List.lookup_cons] at h
   cases e:x == n with
   | true =>
    rw [e] at h
    have hk:k = .free:=Option.some.inj h
    left
    subst hk
    rw [if_pos (by decide),List.lookup_cons,e]
    exact ⟨_,rfl⟩
   | false=>rw [e] at h; exact .inr h
theorem lookup_relabel {env:Env} {x:Str}:∀ {names:List (Str × NameKind)},
  (names.map fun (n,k)=>if (k == NameKind.free && env.scope.kind == .function && env.kindOf n == some .cell) then (n,NameKind.cell) else (n,k)).lookup x =
   (names.lookup x).map fun k=>if (k == NameKind.free && env.scope.kind == .function && env.kindOf x == some .cell) then .cell else k
 | []=>rfl
 | (n,k) :: r=>by
  have ih:=@lookup_relabel env x r
  rw [List.map_cons]
  show List.lookup x ((if (k == NameKind.free && env.scope.kind == .function && env.kindOf n == some .cell) = true then (n,NameKind.cell) else (n,k)) :: _) = _
  cases hx:x == n with
  | true =>
   have e:x = n:=by simpa using hx
   subst e
   by_cases hc:(k == NameKind.free && env.scope.kind == .function && env.kindOf x == some .cell) = true
   ·rw [if_pos hc]; simp only [List.lookup_cons,hx,Option.map_some]; rw [if_pos hc]
   ·rw [if_neg hc]; simp only [List.lookup_cons,hx,Option.map_some]; rw [if_neg hc]
  | false =>
   by_cases hc:(k == NameKind.free && env.scope.kind == .function && env.kindOf n == some .cell) = true
   ·rw [if_pos hc]; simp only [List.lookup_cons,hx]; exact ih
   ·rw [if_neg hc]; simp only [List.lookup_cons,hx]; exact ih
theorem relabel_lookup (sc:Scope) (env:Env) (x:Str):(relabel sc env).names.lookup x = (sc.names.lookup x).map fun k=>if (k == NameKind.free && env.scope.kind == .function && env.kindOf x == some .cell) then .cell else k:=lookup_relabel
theorem cf_app:∀ (names:List (Str × NameKind)) (n:Nat) (acc:List (Str × Addr)),cellsFrom n names acc = cellsFrom n names [] ++ acc
 | [],_,_=>rfl
 | (x,k) :: r,n,acc=>by
  unfold cellsFrom
  split
  ·rw [cf_app r (n + 1) ((x,n) :: acc),cf_app r (n + 1) [(x,n)],List.append_assoc]; rfl
  ·exact cf_app r n acc
theorem cf_mem {x:Str} {c:Addr}:∀ (names:List (Str × NameKind)) (n:Nat),(x,c) ∈ cellsFrom n names [] -> (x,NameKind.cell) ∈ names /\ n <= c
 | [],_,h=>by cases h
 | (y,k) :: r,n,h=>by
  unfold cellsFrom at h
  split at h
  ·rename_i hk
   have hk:k = .cell:=by simpa using hk
   rw [cf_app,List.mem_append] at h
   rcases h with h | h
   ·have:=cf_mem r (n + 1) h
    exact ⟨List.mem_cons_of_mem _ this.1,by omega⟩
   ·have h:(x,c) = (y,n):=by simpa using h
    cases h
    subst hk
    exact ⟨List.mem_cons_self,Nat.le_refl _⟩
  ·have:=cf_mem r n h
   exact ⟨List.mem_cons_of_mem _ this.1,this.2⟩
theorem lookup_app {α:Type} {x:Str}:∀ {l m:List (Str × α)},(l ++ m).lookup x = (l.lookup x).or (m.lookup x)
 | [],_=>rfl
 | (y,v) :: l,m=>by
  rw [List.cons_append,List.lookup_cons,List.lookup_cons]
  cases x == y with
  | true=>rfl
  | false=>exact lookup_app
theorem wpAny_newEnvComp {M:Model} {A:Around} {E:Value -> Shared -> Prop} {s:Shared} {scope:Scope} {globals:Addr} {closure:List (Str × Addr)} {qual:Str} {env:Env} {Q:Env -> Shared -> Prop}
  (hQ:Q (newEnv scope s.heap.objs.size globals (cellsFrom (s.heap.objs.size + 1) scope.names closure) qual none .none (some env) builtinsNs) { s with heap:=pushCells (s.heap.push { cls:=.type "dict",data:=.dict #[] }) scope.names }) :
  wpAny M A (newFunctionEnv scope globals closure [] qual none .none (some env)) Q E s:=by
 simp only [newFunctionEnv,Option.isSome_some,if_true]
 refine wpAny_bind (wpAny_alloc ?_)
 refine wpAny_bind (wpAny_layCells _ (fun name kind cells=>by cases hkc:kind == NameKind.cell <;> simp [hkc]) _ _ _ _ ?_)
 rw [show ({ s with heap:=s.heap.push { cls:=.type "dict",data:=.dict #[] } }:Shared).heap.objs.size = s.heap.objs.size + 1 from Heap.size_push ..]
 refine wpAny_bind ?_
 rw [List.forIn_nil]
 exact wpAny_pure (wpAny_pure hQ)
noncomputable def frN (N:List Str) (fr:List Nat):List Str:=fr.map fun i=>N.getD i Str.empty
noncomputable def frS (σ:St) (fr:List Nat):St:=fr.map fun i=>(σ[i]?).getD none
noncomputable def cxComp (X:Cx) (own:List Str) (fr:List Nat) (sc:Scope) (C:Addr) (s:Shared) (H:Hp) (ex:List Addr):Cx where
 prog:=X.prog
 w:=X.w
 K:=X.K
 mg:=X.mg
 base:=X.base
 A:=X.A
 N:=own ++ frN X.N fr
 s₀:=s
 H₀:=H
 env:=compEnvC sc (cellsFrom (C + 1) sc.names (clOf X.env.cells sc.names [])) C X.env
 outer:=X.stack
 stack:=X.stack
 ex:=ex
 fn:=fun x=>sc.names.lookup x == some .cell
 calm:=X.calm
 pn:=[]
 xe:=fun _ _=>False
noncomputable def st0 (own:List Str) (σ:St) (fr:List Nat):St:=own.map (fun _=>none) ++ frS σ fr
structure CompSc (X:Cx) (own:List Str) (fr:List Nat) (sc:Scope):Prop where
 kind:sc.kind = .function
 cells:∀ y ∈ sc.names,y.2 = .cell -> sc.names.lookup y.1 = some .cell
 loc:∀ y ∈ sc.names,y.2 = .local -> sc.names.lookup y.1 = some .local
 free:∀ y ∈ sc.names,y.2 = .free -> X.env.kindOf y.1 = some .cell \/ X.env.kindOf y.1 = some .free
 fr:∀ i ∈ fr,∃ x,X.N[i]? = some x /\ sc.names.lookup x = some .free
theorem comp_start {X:Cx} {own:List Str} {fr:List Nat} {sc:Scope} {pins:List (Addr × Obj)} {σ:St} {H:Hp} {s:Shared} {fp:List Addr} {C D:Addr} {h1:Heap} {tk:Nat} {oD:Obj}
  (S:CompSc X own fr sc) (I:Inv X pins σ H s) (hf:∀ b ∈ fp,FpOk X pins H b) (hfo:∀ b ∈ fp,∃ o,s.heap.get? b = some o) (hC:s.heap.objs.size <= C) (hD:s.heap.objs.size <= D) (hDC:D ≠ C) (hn:h1.Ns C fun x=>([]:List (Str × Value)).reverse.lookup x)
  (hk:∀ b o,s.heap.get? b = some o -> h1.get? b = some o) (hcl:∀ x c,(x,c) ∈ cellsFrom (C + 1) sc.names [] -> h1.IsCell c none) (hap:(cellsFrom (C + 1) sc.names []).Pairwise fun x y=>x.2 ≠ y.2) (hoD:h1.get? D = some oD) (hdD:∀ v,oD.data ≠ .cell v) :
  Inv (cxComp X own fr sc C s H fp) [(D,oD)] (st0 own σ fr) H { s with heap:=h1,toks:=tk }:=by
 have hfree:∀ y ∈ sc.names,y.2 = .free -> ∃ c,X.env.cells.lookup y.1 = some c:=fun y hy e=>I.ok.has y.1 (S.free y hy e)
 have cl1:∀ x c,(clOf X.env.cells sc.names []).lookup x = some c -> X.env.cells.lookup x = some c:=fun x c e=>by
  rcases clOf_lookup hfree e with z | z
  ·simp at z
  ·exact z
 have cl2:∀ x c,(cellsFrom (C + 1) sc.names (clOf X.env.cells sc.names [])).lookup x = some c -> (x,c) ∈ cellsFrom (C + 1) sc.names [] \/ X.env.cells.lookup x = some c:=fun x c e=>by
  rw [cf_app,lookup_app] at e
  cases q:(cellsFrom (C + 1) sc.names []).lookup x with
  | none=>rw [q] at e; exact .inr (cl1 x c e)
  | some c'=>rw [q] at e; cases e; exact .inl (PySem.mem_of_lookup q)
 have new:∀ x c,(x,c) ∈ cellsFrom (C + 1) sc.names [] -> C + 1 <= c:=fun x c h=>(cf_mem _ _ h).2
 have oldc:∀ x c,X.env.cells.lookup x = some c -> c < s.heap.objs.size:=fun x c e=>by
  obtain ⟨v,q⟩:=I.cell x c e
  exact q.lt
 have kin:∀ x k,(relabel sc X.env).names.lookup x = some k -> k = .cell \/ k = .free -> sc.names.lookup x = some .free \/ sc.names.lookup x = some .cell:=fun x k e hk=>by
  rw [relabel_lookup] at e
  cases q:sc.names.lookup x with
  | none=>rw [q] at e; cases e
  | some j =>
   rw [q,Option.map_some,Option.some.injEq] at e
   by_cases hj:j = .free
   ·rw [hj]; exact .inl rfl
   ·have hne:(j == NameKind.free) = false:=by simpa using hj
    rw [hne,Bool.false_and,Bool.false_and,if_neg (by simp)] at e
    subst e
    rcases hk with z | z
    ·rw [z]; exact .inr rfl
    ·exact absurd z hj
 have kout:∀ x,sc.names.lookup x = some .free -> ((relabel sc X.env).names.lookup x = some .cell \/ (relabel sc X.env).names.lookup x = some .free):=fun x e=>by
  rw [relabel_lookup,e,Option.map_some]
  by_cases h:(NameKind.free == NameKind.free && X.env.scope.kind == .function && X.env.kindOf x == some .cell) = true
  ·rw [if_pos h]; exact .inl rfl
  ·rw [if_neg h]; exact .inr rfl
 have okc:∀ b ∈ fp,b < s.heap.objs.size:=fun b hb=>by obtain ⟨o,e⟩:=hfo b hb; exact Heap.lt_size e
 have fresh:∀ {a:Addr},s.heap.objs.size <= a -> H a = none:=fun h=>I.hok.fresh h
 have ok:(cxComp X own fr sc C s H fp).Ok:={
   mod:=I.ok.mod
   kind:=S.kind
   glob:=I.ok.glob
   blt:=I.ok.blt
   above:=hC
   inj:=fun x y c h1 h2=>by
     have hC:s.heap.objs.size <= C:=hC
     rcases cl2 x c h1 with a | a <;> rcases cl2 y c h2 with b | b
     · exact name_of_addr hap a b
     · have:=new x c a; have:=oldc y c b; exact absurd (Nat.lt_of_lt_of_le (oldc y c b) (Nat.le_trans hC (Nat.le_of_succ_le (new x c a)))) (Nat.lt_irrefl _)
     · exact absurd (Nat.lt_of_lt_of_le (oldc x c a) (Nat.le_trans hC (Nat.le_of_succ_le (new y c b)))) (Nat.lt_irrefl _)
     · exact I.ok.inj x y c a b
   has:=fun x hx=>by
     have hx:sc.names.lookup x = some .free \/ sc.names.lookup x = some .cell:=by
       rcases hx with hx | hx
       · exact kin x _ hx (.inl rfl)
       · exact kin x _ hx (.inr rfl)
     show ∃ c,(cellsFrom (C + 1) sc.names (clOf X.env.cells sc.names [])).lookup x = some c
     rw [cf_app,lookup_app]
     rcases hx with hx | hx
     · obtain ⟨c,e⟩:=clOf_has (cells:=X.env.cells) (x:=x) (l:=sc.names) (acc:=[]) (.inr hx)
       rw [e]
       cases (cellsFrom (C + 1) sc.names []).lookup x with
       | none=>exact ⟨c,rfl⟩
       | some c'=>exact ⟨c',rfl⟩
     · obtain ⟨c,e⟩:=cell_has (n:=C + 1) hx
       rw [e]
       exact ⟨c,rfl⟩
   cab:=fun x c h e=>by
     have h:sc.names.lookup x = some .cell:=by simpa [cxComp] using h
     have e:(cellsFrom (C + 1) sc.names (clOf X.env.cells sc.names [])).lookup x = some c:=e
     obtain ⟨c',q⟩:=cell_has (n:=C + 1) h
     rw [cf_app,lookup_app,q] at e
     cases e
     exact Nat.le_trans hC (Nat.le_of_succ_le (new x _ (PySem.mem_of_lookup q)))
   hd:=I.ok.hd
   frames:=I.ok.frames
   stk:=.inl rfl
   exf:=fun b hb=>⟨Nat.ne_of_lt (Nat.lt_of_lt_of_le (okc b hb) hC),fun x c e=>by
     rcases cl2 x c e with z | z
     · exact Nat.ne_of_gt (Nat.lt_of_lt_of_le (okc b hb) (Nat.le_trans hC (Nat.le_of_succ_le (new x c z))))
     · exact (hf b hb).2.2.2.2.1 x c z⟩
   bs:=I.bs
   bsz:=Nat.le_trans I.ok.bsz I.sz
   noex:=fun b o e hb=>by
     rcases (hf b hb).2.2.2.1 with z | z
     · exact I.ok.noex b o e z
     · exact absurd (Nat.lt_of_lt_of_le (Heap.lt_size e) (Nat.le_trans I.ok.bsz z)) (Nat.lt_irrefl _)
   exfs:=fun b hb hm=>by
     rcases List.mem_cons.mp (I.stkSub b hm) with z | z
     · exact (hf b hb).2.1 z
     · exact (hf b hb).2.2.1 z
   funs:=I.stack
   frf:=I.stkFree }
 refine ⟨ok,rfl,I.bare,Un.kept hk,⟨_,hn,fun i x v e1 e2 e3=>?_⟩,fun x c e=>?_,fresh hC,fun x c e=>?_,fun p hp=>?_,I.hok.kept hk,?_⟩
 ·have e1:(own ++ frN X.N fr)[i]? = some x:=e1
  have e2:(own.map (fun _=>(none:Option V)) ++ frS σ fr)[i]? = some (some v):=e2
  by_cases hi:i < own.length
  ·rw [List.getElem?_append_left (by simpa using hi),List.getElem?_map] at e2
   cases q:own[i]? with
   | none=>rw [q] at e2; cases e2
   | some z=>rw [q] at e2; cases e2
  ·rw [List.getElem?_append_right (by omega)] at e1
   rw [List.getElem?_append_right (by simpa using hi),List.length_map] at e2
   unfold frN at e1
   unfold frS at e2
   rw [List.getElem?_map] at e1 e2
   cases q:fr[i - own.length]? with
   | none=>rw [q] at e1; cases e1
   | some j =>
    rw [q,Option.map_some,Option.some.injEq] at e1 e2
    obtain ⟨y,hy,hyf⟩:=S.fr j (List.mem_of_getElem? q)
    rw [List.getD_eq_getElem?_getD,hy,Option.getD_some] at e1
    subst e1
    have e2':σ[j]? = some (some v):=by
     cases r:σ[j]? with
     | none=>rw [r] at e2; cases e2
     | some z=>rw [r,Option.getD_some] at e2; rw [e2]
    have hkf:X.env.kindOf y = some .cell \/ X.env.kindOf y = some .free:=S.free (y,.free) (PySem.mem_of_lookup hyf) rfl
    obtain ⟨m,hm,hl⟩:=I.loc
    have vis:Vis X.env.scope y:=by
     rcases hkf with z | z
     ·exact .inr (.inl z)
     ·exact .inr (.inr z)
    obtain ⟨u,r,l⟩:=hl j y v hy e2' vis
    refine ⟨u,r,?_⟩
    rcases l with ⟨k,_⟩ | ⟨k,c,hc,z⟩
    ·rcases hkf with k' | k' <;> rw [k] at k' <;> cases k'
    ·refine .inr ⟨kout y hyf,?_⟩
     obtain ⟨c',hc'⟩:∃ c',(clOf X.env.cells sc.names []).lookup y = some c':=clOf_has (.inr hyf)
     have:c' = c:=Option.some.inj ((cl1 y c' hc').symm.trans hc)
     subst this
     obtain ⟨o,ho,hd⟩:=z
     refine ⟨c',?_,o,hk _ _ ho,hd⟩
     show (cellsFrom (C + 1) sc.names (clOf X.env.cells sc.names [])).lookup y = some c'
     rw [cf_app,lookup_app,hc']
     cases q:(cellsFrom (C + 1) sc.names []).lookup y with
     | none=>rfl
     | some c2 =>
      have:=S.cells _ (cf_mem _ _ (PySem.mem_of_lookup q)).1 rfl
      rw [hyf] at this
      cases this
 ·rcases cl2 x c e with z | z
  ·exact ⟨_,hcl x c z⟩
  ·obtain ⟨v,o,ho,hd⟩:=I.cell x c z
   exact ⟨v,o,hk _ _ ho,hd⟩
 ·rcases cl2 x c e with z | z
  ·exact fresh (Nat.le_trans hC (Nat.le_of_succ_le (new x c z)))
  ·exact I.freeC x c z
 ·have e:p = (D,oD):=by
   have:p ∈ ([]:List (Addr × Obj)) ++ [(D,oD)]:=hp
   simpa using this
  subst e
  refine ⟨hoD,fresh hD,hDC,fun hm=>?_,hdD⟩
  have hm:D ∈ frs X.stack:=hm
  obtain ⟨_,o,ho,_⟩:=I.stack.mem hm
  exact absurd (Nat.lt_of_lt_of_le (Heap.lt_size ho) hD) (Nat.lt_irrefl _)
 ·show (own.map (fun _=>(none:Option V)) ++ frS σ fr).length = (own ++ frN X.N fr).length
  simp [frS,frN]
theorem comp_end {X:Cx} {own:List Str} {fr:List Nat} {sc:Scope} {pins:List (Addr × Obj)} {σ σ':St} {H H':Hp} {s s':Shared} {fp:List Addr} {C D:Addr} {oD:Obj} {ys:List V} {us:List Value} {n:Nat}
  (I:Inv X pins σ H s) (hf:∀ b ∈ fp,FpOk X pins H b) (hC:s.heap.objs.size <= C) (hD:s.heap.objs.size <= D) (hDC:D ≠ C)
  (J:Inv (cxComp X own fr sc C s H fp) [(D,oD)] σ' H' s') (ho:oD = { cls:=.type "list",data:=.seq us.toArray n }) (r:Vals ys us) (hz:ys.length <= sizeLine) :
  Inv X pins σ (upd H' D (.lst ys)) s' /\ (∃ m,s'.heap.Ns C m) /\ FpOk X pins (upd H' D (.lst ys)) C:=by
 have pD:=J.pin (D,oD) (by simp [cxComp])
 have hHD:H' D = none:=pD.2.1
 have u:Un (frs X.stack) fp H H' s.heap s'.heap:=J.base
 have lt:∀ b o,s.heap.get? b = some o -> b ≠ D:=fun b o e=>Nat.ne_of_lt (Nat.lt_of_lt_of_le (Heap.lt_size e) hD)
 have u2:Un (frs X.stack) fp H (upd H' D (.lst ys)) s.heap s'.heap :=
  ⟨u.keep,u.slot,fun b o e n hx=>by rw [upd_ne (lt b o e)]; exact u.free b o e n hx,u.there,fun b xs e=>by rw [upd_ne (ne_of_none (u.tups b xs e) hHD)]; exact u.tups b xs e,
    fun b o x e=>by rw [upd_ne (ne_of_none (u.frzs b o x e) hHD)]; exact u.frzs b o x e,fun b ps e=>by
      obtain ⟨more,q⟩:=u.tbls b ps e
      exact ⟨more,by rw [upd_ne (ne_of_none q hHD)]; exact q⟩⟩
 have hok:HOk X.prog X.w (upd H' D (.lst ys)) s'.heap:=fun b o e=>by
  by_cases hb:b = D
  ·subst hb
   rw [upd_same] at e
   cases e
   exact ⟨hz,us,n,r,by rw [<- ho]; exact pD.1⟩
  ·rw [upd_ne hb] at e
   exact (J.hok b o e).stay (fun _ _ _ q=>q) (fun c q=>by rw [upd_ne (ne_of_none q hHD)]; exact q) fun c xs q=>by rw [upd_ne (ne_of_none q hHD)]; exact q
 refine ⟨I.call' (ch:=fp) J.os u2 hok J.bare fun b hb=>?_,?_,?_⟩
 ·obtain ⟨f0,f1,f2,f3,f4,f5⟩:=hf b hb
  exact ⟨f3,f1,f4,f5⟩
 ·obtain ⟨m,hm,_⟩:=J.loc
  exact ⟨m,hm⟩
 ·have hfree:H' C = none:=J.free
  refine ⟨by rw [upd_ne (Ne.symm hDC)]; exact hfree,?_⟩
  exact (I.fpOk hC (I.hok.fresh hC)).2
theorem codeAny_compLoop_any {prog:Program} {w:World} {A:Around} {R:Result -> Shared -> Prop} {s:Shared} {elt target iter:Expr} {ifs:List Expr} {scope:Scope} {pos:Pos} {it acc:Value} {env:Env} (I:Nat -> Shared -> Prop)
  (turn:∀ n s,I n s -> wpAny (model prog w) A (pyNext it) (fun r s₁=>match r with
    | none=>R (.ok .next) s₁
    | some v=>wpAny (model prog w) A (letOwnedTupleGo target it v) (fun _ s₁'=>wpAny (model prog w) A (assign target env v) (fun _ s₂ =>
        wpAny (model prog w) A (forIn ifs true fun c r=>if r = true then do let ok <- isTrue c env (eval c env); pure (ForInStep.yield ok) else pure (ForInStep.yield r)) (fun ok s₃ =>
          if ok = true then wpAny (model prog w) A (eval elt env) (fun x s₄ =>
            wpAny (model prog w) A (call (.builtin "list.append") [acc,x]) (fun _ s₅=>∃ m,m < n /\ I m s₅) (fun _ _=>False) s₄) (fun _ _=>False) s₃
          else ∃ m,m < n /\ I m s₃) (fun _ _=>False) s₂) (fun _ _=>False) s₁') (fun _ _=>False) s₁) (fun _ _=>False) s)
  (n:Nat) (h:I n s) :
  codeAny (model prog w) A (.compLoop (.ListComp elt [⟨target,iter,ifs,0⟩] scope pos) 0 it acc env) R s:=by
 refine codeAny_loop rfl I (fun n s hI=>?_) n h
 show wpAny _ A ((compTurn (.ListComp elt [⟨target,iter,ifs,0⟩] scope pos) 0 it acc env).onRaise (fun x=>do noteFrame x env; theTreesLotGoes x)) _ _ s
 refine wpAny_noted ?_
 rw [compTurn_list]
 refine wpAny_bind (wpAny_standAt (wpAny_bind (wpAny_mono (turn n s hI) (fun r s₁ h₁=>?_) fun _ _ h'=>h'.elim)))
 cases r with
 | none=>exact wpAny_pure h₁
 | some v =>
  refine wpAny_bind (wpAny_mono h₁ (fun _ s₁' h₁'=>?_) fun _ _ h'=>h'.elim)
  refine wpAny_bind (wpAny_mono h₁' (fun _ s₂ h₂=>wpAny_bind (wpAny_mono h₂ (fun ok s₃ h₃=>?_) fun _ _ h'=>h'.elim)) fun _ _ h'=>h'.elim)
  cases ok with
  | false=>exact wpAny_pure ⟨rfl,h₃⟩
  | true =>
   exact wpAny_bind (wpAny_bind (wpAny_mono h₃ (fun x s₄ h₄=>wpAny_bind (wpAny_mono h₄ (fun _ s₅ h₅=>wpAny_pure (wpAny_pure ⟨rfl,h₅⟩)) fun _ _ h'=>h'.elim)) fun _ _ h'=>h'.elim))
noncomputable def PIf (X:Cx) (ifs:List Expr) (t:TT):Prop :=
 ∀ (pins:List (Addr × Obj)) (s:Shared) (σ:St) (H:Hp) (Q:Bool -> Hp -> Prop),Inv X pins σ H s -> t σ H Q ->
  wpAny (model X.prog X.w) X.A (forIn ifs true fun c r=>if r = true then do let ok <- isTrue c X.env (eval c X.env); pure (ForInStep.yield ok) else pure (ForInStep.yield r)) (TP X pins σ Q) X.xe s
noncomputable def tYes:TT:=fun _ H Q=>Q true H
theorem if_nil {X:Cx}:PIf X [] tYes:=fun _ _ _ H _ I h=>wpAny_tests_nil ⟨H,I,h⟩
noncomputable def tComp (wi:TI) (own:List Str) (fr:List Nat) (g:TG) (tc:TT) (te:TE):TE:=fun σ H Q=>wi σ H fun J H1=>∃ W:Nat -> Nat -> List V -> St -> Hp -> Prop,(∃ m,W 0 m [] (st0 own σ fr) H1) /\ ∀ i m ys τ H,W i m ys τ H ->
 (J.stop i H /\ ∀ D,H D = none -> Q (.ref D) (upd H D (.lst ys))) \/
 (J.go i H /\ ys.length < sizeLine /\ ∃ N:List V -> St -> Hp -> Prop,(∀ ys' τ' H',N ys' τ' H' -> ∃ m',m' < m /\ W (i + 1) m' ys' τ' H') /\ ∀ x H',J.yld i H x H' -> g x τ H' fun τ2 H2 =>
   tc τ2 H2 fun b H3=>if b = true then te τ2 H3 fun y H4=>N (ys ++ [y]) τ2 H4 else N ys τ2 H3)
theorem comp_grow {X:Cx} {D:Addr} {us:List Value} {k:Nat} {pl:List (Addr × Obj)} {σ:St} {H:Hp} {s:Shared} {u:Value} {Q:Value -> Shared -> Prop} {E:Value -> Shared -> Prop}
  (I:Inv X ([(D,{ cls:=.type "list",data:=.seq us.toArray k })] ++ pl) σ H s) (h1:X.s₀.heap.objs.size <= D) (h2:∀ x c,X.env.cells.lookup x = some c -> c ≠ D) (h3:∀ p ∈ X.pn ++ pl,p.1 ≠ D) (hz:us.length < sizeLine)
  (h:∀ k' s',Inv X ([(D,{ cls:=.type "list",data:=.seq (us ++ [u]).toArray k' })] ++ pl) σ H s' -> Q .none s'):wpAny (model X.prog X.w) X.A (call (.builtin "list.append") [.ref D,u]) Q E s:=by
 obtain ⟨e,hn,hL,hF,_⟩:=I.pin (D,{ cls:=.type "list",data:=.seq us.toArray k }) (List.mem_append_right _ (List.mem_append_left _ (List.mem_singleton.mpr rfl)))
 dsimp only at e hn hL hF
 have I0:Inv X pl σ H s:=I.pins_of fun p hp=>I.pin p (List.mem_append_right _ (List.mem_append_right _ hp))
 refine call_meets F.slot_list_append ⟨_,e,rfl⟩ F.entry_list_append (F.args_list_append_2 _ _) (PySem.list_append D us.toArray k u (by rw [List.size_toArray]; omega)) ⟨e,?_⟩
 have q:=PySem.IsL.update e fun xs=>xs.push u
 rw [show us.toArray.push u = (us ++ [u]).toArray by simp] at q
 have I1:Inv X pl σ H { s with heap:=s.heap.update D (Obj.mapSeq fun xs=>xs.push u),toks:=s.toks } :=
  I0.turned (it:=D) (fun b o hb ho=>(Heap.get?_update_other s.heap (Obj.mapSeq fun xs=>xs.push u) (Ne.symm hb)).trans ho) hn hL (.inr h1) h2 h3
 obtain ⟨k',q⟩:∃ k',(s.heap.update D (Obj.mapSeq fun xs=>xs.push u)).get? D = some { cls:=.type "list",data:=.seq (us ++ [u]).toArray k' }:=⟨_,q⟩
 refine h k' _ (I1.pins_of (pins':=[(D,{ cls:=.type "list",data:=.seq (us ++ [u]).toArray k' })] ++ pl) fun p hp=>?_)
 rcases List.mem_append.mp hp with z | z
 ·have z:p = _:=List.mem_singleton.mp z
  subst z
  exact ⟨q,hn,hL,hF,fun v z=>by cases z⟩
 ·exact I1.pin p (List.mem_append_right _ z)
theorem comp_block {X:Cx} {tg iter elt:Expr} {ifs:List Expr} {sc:Scope} {pos:Pos} {own:List Str} {fr:List Nat} {g:TG} {tc:TT} {te:TE} {pins:List (Addr × Obj)} {σ:St} {H2:Hp} {s2:Shared} {it:Addr} {fp:List Addr} {tn:Nat -> Heap -> Prop} {J:It} {Q:VK} {E:Value -> Shared -> Prop}
  {RR:Value -> Addr -> Result -> Shared -> Prop}
  (hc:X.calm = true) (S:CompSc X own fr sc) (I2:Inv X pins σ H2 s2) (T:Turn X.prog X.w X.K tg J fp it tn) (st2:tn 0 s2.heap) (f2:∀ b ∈ fp,FpOk X pins H2 b)
  (hg:∀ C ex,PG (cxComp X own fr sc C s2 H2 ex) tg g) (hif:∀ C ex,PIf (cxComp X own fr sc C s2 H2 ex) ifs tc) (he:∀ C ex,PE (cxComp X own fr sc C s2 H2 ex) elt te)
  (W:Nat -> Nat -> List V -> St -> Hp -> Prop) (m0:Nat) (w0:W 0 m0 [] (st0 own σ fr) H2)
  (turn:∀ i m ys τ H,W i m ys τ H -> (J.stop i H /\ ∀ D,H D = none -> Q (.ref D) (upd H D (.lst ys))) \/
    (J.go i H /\ ys.length < sizeLine /\ ∃ N:List V -> St -> Hp -> Prop,(∀ ys' τ' H',N ys' τ' H' -> ∃ m',m' < m /\ W (i + 1) m' ys' τ' H') /\ ∀ x H',J.yld i H x H' -> g x τ H' fun τ2 H2 =>
      tc τ2 H2 fun b H3=>if b = true then te τ2 H3 fun y H4=>N (ys ++ [y]) τ2 H4 else N ys τ2 H3))
  (hRR:∀ D C H s',Inv X pins σ H s' -> Q (.ref D) H -> (∃ m,s'.heap.Ns C m) -> FpOk X pins H C -> RR (.ref D) C (.ok .next) s') :
  wpAny (model X.prog X.w) X.A (newList []) (fun acc s₃=>wpAny (model X.prog X.w) X.A (newFunctionEnv sc X.env.globals (clOf X.env.cells sc.names []) [] X.env.qual none .none (some X.env)) (fun cenv s₄ =>
    codeAny (model X.prog X.w) X.A (.compStart (.ListComp elt [⟨tg,iter,ifs,0⟩] sc pos) 0 (.ref it) acc { cenv with scope:=relabel sc X.env }) (RR acc cenv.locals) s₄) E s₃) E s2:=by
 refine wpAny_newObj_type (wpAny_newEnvComp ?_)
 dsimp only
 generalize hH2:s2.heap.push { cls:=.type "list",dict:=none,data:=.seq ([]:List Value).toArray } = G
 generalize hh1:pushCells (G.push { cls:=.type "dict",data:=.dict #[] }) sc.names = h₁
 have kp:∀ b o,(G.push { cls:=.type "dict",data:=.dict #[] }).get? b = some o -> h₁.get? b = some o:=fun b o e=>hh1 ▸ pushCells_keeps _ _ b o e
 have hns₁:h₁.Ns G.objs.size fun x=>([]:List (Str × Value)).reverse.lookup x:=(Heap.Ns.new G (.type "dict")).keeps kp
 have cok:CellsOk h₁ (G.objs.size + 1) (cellsFrom (G.objs.size + 1) sc.names []):=by
  have:=cellsFrom_ok sc.names (G.push { cls:=.type "dict",data:=.dict #[] }) (G.objs.size + 1) [] ⟨fun _ _ hm=>(nomatch hm),List.Pairwise.nil⟩ (by rw [Heap.size_push]; exact Nat.le_refl _)
  rw [Heap.size_push,hh1] at this
  exact this
 have hC:G.objs.size = s2.heap.objs.size + 1:=by rw [<- hH2,Heap.size_push]
 have hCle:s2.heap.objs.size <= G.objs.size:=by rw [hC]; exact Nat.le_succ _
 have hDC:s2.heap.objs.size ≠ G.objs.size:=by rw [hC]; exact Nat.ne_of_lt (Nat.lt_succ_self _)
 have old:∀ b o,s2.heap.get? b = some o -> h₁.get? b = some o:=fun b o e=>kp b o (Heap.get?_push_of_some _ (hH2 ▸ Heap.get?_push_of_some _ e))
 have hacc:h₁.get? s2.heap.objs.size = some { cls:=.type "list",data:=.seq ([]:List Value).toArray }:=kp _ _ (Heap.get?_push_of_some _ (hH2 ▸ Heap.get?_push_size _ rfl))
 have st0':tn 0 h₁:=T.keep _ _ _ st2 fun b hb o e=>old b o e
 have fo:∀ b ∈ fp,∃ o,s2.heap.get? b = some o:=fun b hb=>let ⟨o,e,_⟩:=T.obj _ _ st2 b hb; ⟨o,e⟩
 have flt:∀ b ∈ fp,b < s2.heap.objs.size:=fun b hb=>by obtain ⟨o,e⟩:=fo b hb; exact Heap.lt_size e
 have clb:∀ x c,(clOf X.env.cells sc.names []).lookup x = some c -> X.env.cells.lookup x = some c:=fun x c e=>by
  rcases clOf_lookup (fun y hy e=>I2.ok.has y.1 (S.free y hy e)) e with z | z
  ·simp at z
  ·exact z
 have clb2:∀ (C':Addr) x c,(cellsFrom (C' + 1) sc.names (clOf X.env.cells sc.names [])).lookup x = some c -> C' + 1 <= c \/ X.env.cells.lookup x = some c:=fun C' x c e=>by
  rw [cf_app,lookup_app] at e
  cases q:(cellsFrom (C' + 1) sc.names []).lookup x with
  | none=>rw [q] at e; exact .inr (clb x c e)
  | some c'=>rw [q] at e; cases e; exact .inl (cf_mem _ _ (PySem.mem_of_lookup q)).2
 have stt:∀ C':Addr,s2.heap.objs.size <= C' -> ∀ {H':Hp} {pl:List (Addr × Obj)},(∀ b ∈ fp,H' b = none) -> (∀ p ∈ pl,s2.heap.objs.size <= p.1) -> ∀ b ∈ fp,FpOk (cxComp X own fr sc C' s2 H2 fp) pl H' b:=fun C' hC' H' pl hn hp b hb=>by
  have I0:=f2 b hb
  refine ⟨hn b hb,Nat.ne_of_lt (Nat.lt_of_lt_of_le (flt b hb) hC'),fun hm=>?_,.inl hb,fun x c e=>by
      rcases clb2 C' x c e with z | z
      · exact Nat.ne_of_gt (Nat.lt_of_lt_of_le (flt b hb) (Nat.le_trans hC' (Nat.le_of_succ_le z)))
      · exact I0.2.2.2.2.1 x c z,fun p hp'=>?_⟩
  ·rcases List.mem_cons.mp (I2.stkSub b hm) with z | z
   ·exact I0.2.1 z
   ·exact I0.2.2.1 z
  ·have hp':p ∈ pl:=by
    have:p ∈ ([]:List (Addr × Obj)) ++ pl:=hp'
    simpa using this
   exact Nat.ne_of_gt (Nat.lt_of_lt_of_le (flt b hb) (hp p hp'))
 have loop:∀ s₃:Shared,s₃ = { s2 with heap:=h₁,toks:=s2.toks } ->
   codeAny (model X.prog X.w) X.A (.compLoop (.ListComp elt [⟨tg,iter,ifs,0⟩] sc pos) 0 (.ref it) (.ref s2.heap.objs.size) (compEnvC sc (cellsFrom (G.objs.size + 1) sc.names (clOf X.env.cells sc.names [])) G.objs.size X.env))
    (RR (.ref s2.heap.objs.size) G.objs.size) s₃:=by
  rintro s₃ rfl
  have I3:=comp_start (own:=own) (fr:=fr) (tk:=s2.toks) S I2 f2 fo hCle (Nat.le_refl _) hDC hns₁ old (fun x c h=>(cok.empty x c h).1) cok.apart hacc (fun v z=>by cases z)
  refine codeAny_compLoop_any (fun n s'=>∃ i H' ys us k τ,Inv (cxComp X own fr sc G.objs.size s2 H2 fp) [(s2.heap.objs.size,{ cls:=.type "list",data:=.seq us.toArray k })] τ H' s' /\ tn i s'.heap /\ (∀ b ∈ fp,H' b = none) /\ Vals ys us /\ ys.length <= sizeLine /\ W i n ys τ H') ?_ m0
   ⟨0,H2,[],[],0,_,I3,st0',fun b hb=>(f2 b hb).1,.nil,Nat.zero_le _,w0⟩
  rintro n s4 ⟨i,H4,ys,us,k,τ,I4,st4,fr4,rv4,hz4,w4⟩
  have hp4:∀ p ∈ [(s2.heap.objs.size,({ cls:=.type "list",data:=.seq us.toArray k }:Obj))],s2.heap.objs.size <= p.1:=fun p hp=>by
   rw [List.mem_singleton.mp hp]
   exact Nat.le_refl _
  rcases turn i n ys τ H4 w4 with ⟨stop,qn⟩ | ⟨go,hlt,N,hN,step⟩
  ·refine thn (T.done (cxComp X own fr sc G.objs.size s2 H2 fp) rfl rfl rfl hc i _ s4 _ H4 (fun _ _=>False) I4 (stt _ hCle fr4 hp4) st4 stop) fun r s5 ⟨hr,I5⟩=>?_
   subst hr
   obtain ⟨a1,a2,a3⟩:=comp_end I2 f2 hCle (Nat.le_refl _) hDC I5 rfl rv4 hz4
   exact hRR _ _ _ s5 a1 (qn _ (I5.pin _ (List.mem_append_right _ (List.mem_singleton.mpr rfl))).2.1) a2 a3
  ·refine thn (T.item (cxComp X own fr sc G.objs.size s2 H2 fp) rfl rfl rfl hc i _ s4 _ H4 (fun _ _=>False) I4 (stt _ hCle fr4 hp4) st4 go) fun r s5 ⟨u,hr,h5⟩=>?_
   subst hr
   refine thn h5 fun _ s6 ⟨x,H6,I6,r6,y6,st6,fr6⟩=>?_
   have I6':=I6.pinned (stt _ hCle fr6 hp4) (T.obj _ _ st6)
   refine thn (hg G.objs.size fp _ s6 _ H6 x u _ I6' r6 (step x H6 y6)) fun _ s7 ⟨σ7,H7,I7,q7⟩=>?_
   refine thn (hif G.objs.size fp _ s7 σ7 H7 _ I7 q7) fun b s8 ⟨H8,I8,q8⟩=>?_
   have again:∀ {s9:Shared} {H9:Hp} {ys':List V} {us':List Value} {k':Nat},Inv (cxComp X own fr sc G.objs.size s2 H2 fp) ([(s2.heap.objs.size,{ cls:=.type "list",data:=.seq us'.toArray k' })] ++ pinsAt fp s6.heap) σ7 H9 s9 -> Vals ys' us' -> ys'.length <= sizeLine -> N ys' σ7 H9 ->
     ∃ m,m < n /\ ∃ i H' ys us k τ,Inv (cxComp X own fr sc G.objs.size s2 H2 fp) [(s2.heap.objs.size,{ cls:=.type "list",data:=.seq us.toArray k })] τ H' s9 /\ tn i s9.heap /\ (∀ b ∈ fp,H' b = none) /\ Vals ys us /\ ys.length <= sizeLine /\ W i m ys τ H':=fun {s9 H9 ys' us' k'} I9 rv9 hz9 n9=>by
    obtain ⟨m',hm,w9⟩:=hN ys' σ7 H9 n9
    refine ⟨m',hm,i + 1,H9,ys',us',k',σ7,I9.unpinned,T.keep _ _ _ st6 fun b hb o e=>(I9.pin (b,o) (List.mem_append_right _ (List.mem_append_right _ (mem_pinsAt hb e)))).1,fun b hb=>?_,rv9,hz9,w9⟩
    obtain ⟨o,e,d⟩:=T.obj _ _ st6 b hb
    exact (I9.pin (b,o) (List.mem_append_right _ (List.mem_append_right _ (mem_pinsAt hb e)))).2.1
   cases b with
   | false =>
    rw [if_neg Bool.false_ne_true] at q8 ⊢
    exact again I8 rv4 hz4 q8
   | true =>
    rw [if_pos rfl] at q8 ⊢
    refine thn (he G.objs.size fp _ s8 σ7 H8 _ I8 q8) fun y s9 ⟨yv,H9,I9,r9,n9⟩=>?_
    refine comp_grow (X:=cxComp X own fr sc G.objs.size s2 H2 fp) I9 (Nat.le_refl _) (fun x c e z=>?_) (fun p hp z=>?_) (by rw [<- rv4.length]; exact hlt) fun k' s10 I10=>?_
    ·rcases clb2 _ x c e with y | y
     ·rw [z] at y
      exact absurd (Nat.lt_of_lt_of_le (Nat.lt_succ_of_le hCle) y) (Nat.lt_irrefl _)
     ·obtain ⟨v,q⟩:=I2.cell x c y
      exact absurd (Nat.lt_of_lt_of_le q.lt (by rw [z]; exact Nat.le_refl _)) (Nat.lt_irrefl _)
    ·have hp:p ∈ ([]:List (Addr × Obj)) ++ pinsAt fp s6.heap:=hp
     rw [List.nil_append] at hp
     have:=flt _ (of_pinsAt hp).1
     rw [z] at this
     exact absurd this (Nat.lt_irrefl _)
    ·exact again I10 (rv4.append (.cons r9 .nil)) (by rw [List.length_append,List.length_singleton]; omega) n9
 exact codeAny_compStart_list (loop _ rfl) (T.self _ 0 _ _ _ st0' (loop _ rfl))
theorem pe_comp {X:Cx} {tg iter elt:Expr} {ifs:List Expr} {sc:Scope} {pos:Pos} {own:List Str} {fr:List Nat} {wi:TI} {g:TG} {tc:TT} {te:TE} (hc:X.calm = true) (S:CompSc X own fr sc) (hi:PI X tg iter wi)
  (hg:∀ C s H ex,PG (cxComp X own fr sc C s H ex) tg g) (hif:∀ C s H ex,PIf (cxComp X own fr sc C s H ex) ifs tc) (he:∀ C s H ex,PE (cxComp X own fr sc C s H ex) elt te)
  (hs:∀ x,foldedSetIterable iter X.env x = pure x:=by intro _; rfl):PE X (.ListComp elt [⟨tg,iter,ifs,0⟩] sc pos) (tComp wi own fr g tc te):=by
 intro pins s σ H Q I h
 rw [eval_ListComp]
 refine wpAny_comprehension_free (use:=none) rfl hs (closure_of fun y hy e=>I.ok.has y.1 (S.free y hy e)) S.kind S.loc (thn (hi pins s σ H _ I h) fun v s1 h1=>thn h1 fun itv s2 h2=>?_)
 obtain ⟨it,fp,tn,J,H2,e,I2,T,st2,f2,W,⟨m0,w0⟩,turn⟩:=h2
 subst e
 refine comp_block (Q:=Q) (RR:=fun acc C=>compPost (model X.prog X.w) X.A X.xe none (EP X pins σ Q) acc C) hc S I2 T st2 f2 (fun C ex=>hg C s2 H2 ex) (fun C ex=>hif C s2 H2 ex) (fun C ex=>he C s2 H2 ex) W m0 w0 turn ?_
 intro D C H' s' I' q ⟨m,hm⟩ fC
 refine ⟨m,hm,fun h' sb=>⟨.ref D,H',?_,rfl,q⟩⟩
 obtain ⟨f0,f1,f2,f3,f4,f5⟩:=fC
 exact I'.turned (t':=s'.toks) (fun b o hb e=>(sb.2 b hb).trans e) f0 f1 f3 f4 f5
theorem ps_setComp {X:Cx} {tg iter elt:Expr} {ifs:List Expr} {sc:Scope} {pos spos py:Pos} {i:Nat} {y:Str} {own:List Str} {fr:List Nat} {wi:TI} {g:TG} {tc:TT} {te:TE} (hN:X.N.Nodup) (hy:X.N[i]? = some y) (hl:X.env.scope.names.lookup y = some .local) (hc:X.calm = true) (S:CompSc X own fr sc) (hi:PI X tg iter wi)
  (hg:∀ C s H ex,PG (cxComp X own fr sc C s H ex) tg g) (hif:∀ C s H ex,PIf (cxComp X own fr sc C s H ex) ifs tc) (he:∀ C s H ex,PE (cxComp X own fr sc C s H ex) elt te)
  (hsw:swapsWith (.ListComp elt [⟨tg,iter,ifs,0⟩] sc pos) (some (.Name y py)) spos.line X.env = pure true:=by rfl)
  (hs:∀ x,foldedSetIterable iter X.env x = pure x:=by intro _; rfl):PS X (.Assign [.Name y py] (.ListComp elt [⟨tg,iter,ifs,0⟩] sc pos) spos) (tAsg (tComp wi own fr g tc te) (gName i)):=by
 intro pins s σ H D I h
 rw [exec_Assign_Name_used _ _ _ _ hsw]
 refine wpAny_bind (wpAny_standAt ?_)
 show wpAny _ _ (evalThenUse (.ListComp elt [⟨tg,iter,ifs,0⟩] sc pos) X.env _ >>= _) _ _ s
 refine wpAny_bind ?_
 unfold evalThenUse
 refine wpAny_bind ?_
 refine wpAny_comprehension_free rfl hs (closure_of fun y hy e=>I.ok.has y.1 (S.free y hy e)) S.kind S.loc (thn (hi pins s σ H _ I h) fun v s1 h1=>thn h1 fun itv s2 h2=>?_)
 obtain ⟨it,fp,tn,J,H2,e,I2,T,st2,f2,W,⟨m0,w0⟩,turn⟩:=h2
 subst e
 refine comp_block (Q:=fun v H1=>D.nx (σ.set i (some v)) H1) hc S I2 T st2 f2 (fun C ex=>hg C s2 H2 ex) (fun C ex=>hif C s2 H2 ex) (fun C ex=>he C s2 H2 ex) W m0 w0 turn ?_
 intro D' C H' s' I' q ⟨m,hm⟩ fC
 obtain ⟨f0,f1,f2,f3,f4,f5⟩:=fC
 show wpAny (model X.prog X.w) X.A (assign (.Name y py) X.env (.ref D')) (fun _ s''=>∃ m,s''.heap.Ns C m /\ ∀ h',Heap.SameBut C s''.heap h' -> _) X.xe s'
 refine wpAny_assign_Name (store_ok2 I' hN hy (.inl hl) (v:=.ref D') rfl (fun s'' I'' hsb=>?_) (.inr hl))
 obtain ⟨a,hsb,ha⟩:=hsb
 have hCa:C ≠ a:=by
  rcases ha with z | z
  ·rw [z]; exact f1
  ·exact fun e=>f4 y a z e.symm
 obtain ⟨m',hm'⟩:∃ m',s''.heap.Ns C m':=⟨m,hm.sameBut hsb hCa⟩
 refine ⟨m',hm',fun h' sb=>wpAny_pure (wpAny_pure ⟨_,H',?_,q⟩)⟩
 exact I''.turned (t':=s''.toks) (fun b o hb e=>(sb.2 b hb).trans e) f0 f1 f3 f4 f5
end L2
namespace L2
open PySem PySem.Spec PyProof.Rows
inductive Kd where | l | t
noncomputable def ItAt (k:Kd) (h:Heap) (it a:Addr) (i:Nat):Prop:=match k with | .l=>h.IsListIter it a i | .t=>h.IsTupleIter it a i
noncomputable def SqAt (k:Kd) (h:Heap) (a:Addr) (xs:Array Value):Prop:=match k with | .l=>h.IsList a xs | .t=>h.IsTuple a xs
noncomputable def itObj (k:Kd) (a:Addr):Obj:=match k with | .l=>{ cls:=.type "list_iterator",data:=.fields #[.ref a,.int 0 0] } | .t=>{ cls:=.type "tuple_iterator",data:=.fields #[.ref a,.int 0 0] }
theorem ItAt.at {k:Kd} {h h':Heap} {it a:Addr} {i:Nat} (x:ItAt k h it a i) (f:∀ o,h.get? it = some o -> h'.get? it = some o):ItAt k h' it a i:=by
 cases k with
 | l=>exact Heap.IsListIter.at x f
 | t=>exact Heap.IsTupleIter.at x f
theorem SqAt.at {k:Kd} {h h':Heap} {a:Addr} {xs:Array Value} (x:SqAt k h a xs) (f:∀ o,h.get? a = some o -> h'.get? a = some o):SqAt k h' a xs:=by
 cases k with
 | l=>exact Heap.IsList.at x f
 | t=>obtain ⟨o,e,r⟩:=x; exact ⟨o,f o e,r⟩
theorem ItAt.obj {k:Kd} {h:Heap} {it a:Addr} {i:Nat} (x:ItAt k h it a i):∃ o,h.get? it = some o /\ ∀ v,o.data ≠ .cell v:=by
 cases k with
 | l=>obtain ⟨o,e,c,d⟩:=x; exact ⟨o,e,fun v z=>by rw [d] at z; cases z⟩
 | t=>obtain ⟨o,e,c,d⟩:=x; exact ⟨o,e,fun v z=>by rw [d] at z; cases z⟩
theorem ItAt.new (k:Kd) {h:Heap} {it a:Addr} (e:h.get? it = some (itObj k a)):ItAt k h it a 0:=by
 cases k with
 | l=>exact ⟨_,e,rfl,rfl⟩
 | t=>exact ⟨_,e,rfl,rfl⟩
section
variable {prog:Program} {w:World} {A:Around} {E:Value -> Shared -> Prop} {s:Shared}
theorem iter_at {k:Kd} {a:Addr} {xs:Array Value} {Q:Value -> Shared -> Prop} (hl:SqAt k s.heap a xs) (h:Q (.ref s.heap.objs.size) { s with heap:=s.heap.push (itObj k a) }):wpAny (model prog w) A (pyIter (.ref a)) Q E s:=by
 cases k with
 | l=>exact wpAny_pyIter_list hl h
 | t=>exact wpAny_pyIter_tuple hl h
theorem nextOf_tuple_item {it t:Addr} {i:Nat} {items} {x:Value} {Q:Value -> Shared -> Prop} (hit:s.heap.IsTupleIter it t i) (ht:s.heap.IsTuple t items) (hx:items[i]? = some x)
  (hQ:∀ h',h'.IsTupleIter it t (i + 1) -> Heap.SameBut it s.heap h' -> Q x { s with heap:=h' }):wpAny (model prog w) A (Builtin.SmallTypes.nextOf (.ref it)) Q E s:=by
 obtain ⟨o,ho,hc,hd⟩:=id hit
 obtain ⟨ol,hol,_,nl,hdl⟩:=ht
 unfold Builtin.SmallTypes.nextOf
 refine wpAny_bind (wpAny_callSpecial?_slot (name:=Str.ofString "__next__") hit.typeIs F.slot_tuple_iterator_next
   (wpAny_call_entry F.slot_tuple_iterator_next hit.typeIs F.entry_tuple_iterator_next ?_ (F.args_tuple_iterator_next_1 _)))
 show wpAny _ _ (field (.ref it) 0 >>= _) _ _ s
 refine wpAny_bind (wpAny_field ho hd (x:=.ref t) rfl ?_)
 show wpAny _ _ (if (Value.ref t == Value.none) = true then _ else _) _ _ s
 rw [if_neg (show ¬ ((Value.ref t == Value.none) = true) from Bool.false_ne_true)]
 show wpAny _ _ (field (.ref it) 1 >>= _) _ _ s
 refine wpAny_bind (wpAny_field ho hd (x:=.int i 0) rfl ?_)
 show wpAny _ _ (seqItems? (.ref t) >>= _) _ _ s
 refine wpAny_bind (wpAny_seqItems hol hdl ?_)
 simp only [Int.toNat_natCast,hx]
 refine wpAny_bind (wpAny_setField ho hd (by simp) (wpAny_pure ⟨x,rfl,wpAny_pure (hQ _ ?_ (Heap.SameBut.update ..))⟩))
 exact ⟨_,Heap.get?_update_self _ ho (Obj.isFreed_of_fields (Obj.data_mapFields hd _)),(Obj.cls_mapFields ..).trans hc,by
   rw [Obj.data_mapFields hd]; simp [rawInt]⟩
theorem nextOf_tuple_end {it l:Addr} {i:Nat} {items} {Q:Value -> Shared -> Prop} (hh:A.handled = none)
  (hit:s.heap.IsTupleIter it l i) (hl:s.heap.IsTuple l items) (hx:items[i]? = none)
  (hE:∀ h' e,Heap.ExtBut it s.heap h' -> (∃ o,h'.get? e = some o /\ o.cls = .type "StopIteration") -> E (.ref e) { s with heap:=h' }) :
  wpAny (model prog w) A (Builtin.SmallTypes.nextOf (.ref it)) Q E s:=by
 obtain ⟨o,ho,hc,hd⟩:=id hit
 obtain ⟨ol,hol,_,nl,hdl⟩:=hl
 unfold Builtin.SmallTypes.nextOf
 refine wpAny_bind (wpAny_callSpecial?_slot (name:=Str.ofString "__next__") hit.typeIs F.slot_tuple_iterator_next
   (wpAny_call_entry F.slot_tuple_iterator_next hit.typeIs F.entry_tuple_iterator_next ?_ (F.args_tuple_iterator_next_1 _)))
 show wpAny _ _ (field (.ref it) 0 >>= _) _ _ s
 refine wpAny_bind (wpAny_field ho hd (x:=.ref l) rfl ?_)
 show wpAny _ _ (if (Value.ref l == Value.none) = true then _ else _) _ _ s
 rw [if_neg (show ¬ ((Value.ref l == Value.none) = true) from Bool.false_ne_true)]
 show wpAny _ _ (field (.ref it) 1 >>= _) _ _ s
 refine wpAny_bind (wpAny_field ho hd (x:=.int i 0) rfl ?_)
 show wpAny _ _ (seqItems? (.ref l) >>= _) _ _ s
 refine wpAny_bind (wpAny_seqItems hol hdl ?_)
 simp only [Int.toNat_natCast,hx]
 refine wpAny_bind (wpAny_rule (wpAny_bind (wpAny_setField ho hd (by simp) ?_)))
 show wpAny _ _ (newExc (.type "StopIteration") [] >>= _) _ _ _
 refine wpAny_bind ?_
 simp only [newExc,newTuple]
 refine wpAny_bind (wpAny_newObj_type ?_ (by size_fits))
 refine wpAny_bind (m:=firstArgMember _ _) (wpAny_of_eq (a:=Value.none) (by first | rfl | (simp only [firstArgMember]; rfl)) ?_)
 refine wpAny_newObj_type ?_ (by size_fits)
 simp only [raiseNew]
 refine wpAny_bind (wpAny_handled ?_)
 first | rw [show A.in1.handled = none from hh] | rw [hh]
 refine wpAny_bind (wpAny_pure (wpAny_throw ?_))
 exact hE _ _ (((Heap.SameBut.update ..).extBut.push _).push _) ⟨_,Heap.get?_push_size _ rfl,rfl⟩
theorem nextOf_item {k:Kd} {it a:Addr} {i:Nat} {xs:Array Value} {x:Value} {Q:Value -> Shared -> Prop} (hit:ItAt k s.heap it a i) (hl:SqAt k s.heap a xs) (hx:xs[i]? = some x)
  (hQ:∀ h',ItAt k h' it a (i + 1) -> Heap.SameBut it s.heap h' -> Q x { s with heap:=h' }):wpAny (model prog w) A (Builtin.SmallTypes.nextOf (.ref it)) Q E s:=by
 cases k with
 | l=>exact wpAny_nextOf_list_item hit hl hx hQ
 | t=>exact nextOf_tuple_item hit hl hx hQ
theorem nextOf_end {k:Kd} {it a:Addr} {i:Nat} {xs:Array Value} {Q:Value -> Shared -> Prop} (hh:A.handled = none) (hit:ItAt k s.heap it a i) (hl:SqAt k s.heap a xs) (hx:xs[i]? = none)
  (hE:∀ h' e,Heap.ExtBut it s.heap h' -> (∃ o,h'.get? e = some o /\ o.cls = .type "StopIteration") -> E (.ref e) { s with heap:=h' }):wpAny (model prog w) A (Builtin.SmallTypes.nextOf (.ref it)) Q E s:=by
 cases k with
 | l=>exact wpAny_nextOf_list_end hh hit hl hx hE
 | t=>exact nextOf_tuple_end hh hit hl hx hE
end
noncomputable abbrev IsTup2 (h:Heap) (T:Addr) (a1 a2:Value):Prop:=h.get? T = some { cls:=.type "tuple",data:=.seq #[a1,a2] }
structure ZAp2 (z TI TO i1 i2 l1 l2:Addr):Prop where
 TIz:TI ≠ z
 TOz:TO ≠ z
 i1z:i1 ≠ z
 i2z:i2 ≠ z
 TOTI:TO ≠ TI
 i1TI:i1 ≠ TI
 i2TI:i2 ≠ TI
 i1TO:i1 ≠ TO
 i2TO:i2 ≠ TO
 i2i1:i2 ≠ i1
 l1z:l1 ≠ z
 l1TO:l1 ≠ TO
 l1i1:l1 ≠ i1
 l1i2:l1 ≠ i2
 l2z:l2 ≠ z
 l2TO:l2 ≠ TO
 l2i1:l2 ≠ i1
 l2i2:l2 ≠ i2
theorem zap2 (n l1 l2:Nat) (h1:l1 < n) (h2:l2 < n):ZAp2 (n + 4) (n + 2) (n + 3) n (n + 1) l1 l2:=by constructor <;> (show ¬ (@Eq Nat _ _)) <;> omega
section
variable {prog:Program} {w:World} {A:Around} {E:Value -> Shared -> Prop} {s:Shared}
theorem upSeq2 {T:Addr} {a1 a2 x:Value} {k:Nat} {Q:Unit -> Shared -> Prop} (hT:IsTup2 s.heap T a1 a2)
  (h:∀ h',h'.get? T = some { cls:=.type "tuple",data:=.seq ((#[a1,a2]:Array Value).setIfInBounds k x) } -> Heap.SameBut T s.heap h' -> Q () { s with heap:=h' }) :
  wpAny (model prog w) A (updateSeq T (·.setIfInBounds k x)) Q E s:=by
 refine wpAny_updateSeq hT rfl (h _ ?_ (Heap.SameBut.update ..))
 rw [Heap.get?_update_self _ hT rfl]
 simp [Obj.mapSeq]
theorem zipn_item2 {z TI TO i1 i2 l1 l2:Addr} {k:Nat} {k1:Kd} {k2:Kd} {xs1 xs2:Array Value} {a1 a2:Value} {x1 x2:Value} {Q:Value -> Shared -> Prop} (D:ZAp2 z TI TO i1 i2 l1 l2)
  (hz:IsZip s.heap z TI TO .none) (hTI:IsTup2 s.heap TI (.ref i1) (.ref i2)) (hTO:IsTup2 s.heap TO a1 a2)
  (h1:ItAt k1 s.heap i1 l1 k) (h2:ItAt k2 s.heap i2 l2 k) (hl1:SqAt k1 s.heap l1 xs1) (hl2:SqAt k2 s.heap l2 xs2) (hx1:xs1[k]? = some x1) (hx2:xs2[k]? = some x2)
  (hQ:∀ h',IsZip h' z TI TO (rawInt s.heap.objs.size) -> IsTup2 h' TO x1 x2 -> ItAt k1 h' i1 l1 (k + 1) -> ItAt k2 h' i2 l2 (k + 1) -> IsTup2 h' s.heap.objs.size x1 x2 -> h'.objs.size = s.heap.objs.size + 1 ->
    (∀ c o,c ≠ z -> c ≠ TO -> c ≠ i1 -> c ≠ i2 -> s.heap.get? c = some o -> h'.get? c = some o) -> Q (.ref s.heap.objs.size) { s with heap:=h' }) :
  wpAny (model prog w) A (Builtin.«zip.__next__» ⟨[.ref z],[]⟩) (fun fin s'=>∃ v,fin = .done (.ret v) /\ Q v s') E s:=by
 show wpAny _ _ (field (.ref z) 2 >>= _) _ _ _
 refine wpAny_bind (wpAny_field hz rfl (x:=.bool false) rfl ?_)
 show wpAny _ _ (field (.ref z) 3 >>= _) _ _ _
 refine wpAny_bind (wpAny_field hz rfl (x:=.ref TI) rfl ?_)
 refine wpAny_bind (wpAny_seqItems hTI rfl ?_)
 show wpAny _ _ (Builtin.SmallTypes.ownedTupleIsFree (.ref z) >>= _) _ _ _
 refine wpAny_bind ?_
 unfold Builtin.SmallTypes.ownedTupleIsFree
 refine wpAny_bind (wpAny_field hz rfl (x:=.none) rfl (wpAny_pure ?_))
 simp only [if_true]
 refine wpAny_bind (wpAny_rule ?_)
 refine wpAny_bind (wpAny_field hz rfl (x:=.ref TO) rfl ?_)
 refine wpAny_bind (wpAny_setField_rec hz (by simp) fun h₁ hz₁ hs₁=>?_)
 replace hz₁:IsZip h₁ z TI TO .ellipsis:=hz₁
 refine wpAny_bind ?_
 simp only [List.zipIdx_cons,List.zipIdx_nil,List.forIn_cons,List.forIn_nil]
 have up₁:∀ c o,c ≠ z -> s.heap.get? c = some o -> h₁.get? c = some o:=fun c o c1 e=>hs₁.extBut _ _ c1 e
 refine wpAny_bind (wpAny_bind (wpAny_onRaise ?_))
 show wpAny _ _ (Builtin.SmallTypes.nextOf (.ref i1) >>= _) _ _ _
 refine wpAny_bind (nextOf_item (h1.at fun o e=>hs₁.extBut _ o D.i1z e) (hl1.at fun o e=>hs₁.extBut _ o D.l1z e) hx1 fun ha1 hi1 hsa1=>wpAny_pure ?_)
 have hTOa1:IsTup2 ha1 TO a1 a2:=hsa1.extBut _ _ D.i1TO.symm (hs₁.extBut _ _ D.TOz hTO)
 refine wpAny_bind (wpAny_seqItems hTOa1 rfl ?_)
 refine wpAny_bind (upSeq2 hTOa1 fun hb1 hTOb1 hsb1=>?_)
 replace hTOb1:IsTup2 hb1 TO x1 a2:=hTOb1
 refine wpAny_bind (wpAny_letGo (wpAny_pure ?_))
 refine wpAny_bind (wpAny_bind (wpAny_onRaise ?_))
 show wpAny _ _ (Builtin.SmallTypes.nextOf (.ref i2) >>= _) _ _ _
 refine wpAny_bind (nextOf_item (((h2.at fun o e=>hs₁.extBut _ o D.i2z e).at fun o e=>hsa1.extBut _ o D.i2i1 e).at fun o e=>hsb1.extBut _ o D.i2TO e) (((hl2.at fun o e=>hs₁.extBut _ o D.l2z e).at fun o e=>hsa1.extBut _ o D.l2i1 e).at fun o e=>hsb1.extBut _ o D.l2TO e) hx2 fun ha2 hi2 hsa2=>wpAny_pure ?_)
 have hTOa2:IsTup2 ha2 TO x1 a2:=hsa2.extBut _ _ D.i2TO.symm hTOb1
 refine wpAny_bind (wpAny_seqItems hTOa2 rfl ?_)
 refine wpAny_bind (upSeq2 hTOa2 fun hb2 hTOb2 hsb2=>?_)
 replace hTOb2:IsTup2 hb2 TO x1 x2:=hTOb2
 refine wpAny_bind (wpAny_letGo (wpAny_pure (wpAny_pure ?_)))
 refine wpAny_bind (wpAny_seqItems hTOb2 rfl ?_)
 refine wpAny_bind (wpAny_newTuple ?_)
 have hsz:hb2.objs.size = s.heap.objs.size:=by rw [hsb2.1,hsa2.1,hsb1.1,hsa1.1,hs₁.1]
 have hzG:IsZip hb2 z TI TO .ellipsis:=(hsb2.extBut _ _ D.TOz.symm (hsa2.extBut _ _ D.i2z.symm (hsb1.extBut _ _ D.TOz.symm (hsa1.extBut _ _ D.i1z.symm hz₁))))
 have hkG:∀ c o,c ≠ z -> c ≠ TO -> c ≠ i1 -> c ≠ i2 -> s.heap.get? c = some o -> hb2.get? c = some o:=fun c o c1 c2 d1 d2 e=>(hsb2.extBut _ _ c2 (hsa2.extBut _ _ d2 (hsb1.extBut _ _ c2 (hsa1.extBut _ _ d1 (hs₁.extBut _ _ c1 e)))))
 have hiG1:ItAt k1 hb2 i1 l1 (k + 1):=(((hi1.at fun o e=>hsb1.extBut _ o D.i1TO e).at fun o e=>hsa2.extBut _ o D.i2i1.symm e).at fun o e=>hsb2.extBut _ o D.i1TO e)
 have hiG2:ItAt k2 hb2 i2 l2 (k + 1):=(hi2.at fun o e=>hsb2.extBut _ o D.i2TO e)
 have hzlt:z < hb2.objs.size:=Heap.lt_size hzG
 show wpAny _ _ (Builtin.SmallTypes.ownedTupleHandOut (.ref z) (.ref hb2.objs.size) >>= _) _ _ _
 refine wpAny_bind ?_
 unfold Builtin.SmallTypes.ownedTupleHandOut
 have hz₆:IsZip (hb2.push { cls:=.type "tuple",data:=.seq #[x1,x2] }) z TI TO .ellipsis:=Heap.get?_push_of_some _ hzG
 refine wpAny_bind (wpAny_setField_rec hz₆ (by simp) fun h₇ hz₇ hs₇=>?_)
 replace hz₇:IsZip h₇ z TI TO (rawInt hb2.objs.size):=hz₇
 refine wpAny_setField_rec hz₇ (by simp) fun h₈ hz₈ hs₈=>?_
 replace hz₈:IsZip h₈ z TI TO (rawInt hb2.objs.size):=hz₈
 have up:∀ c o,c ≠ z -> hb2.get? c = some o -> h₈.get? c = some o:=fun c o c1 e=>hs₈.extBut _ _ c1 (hs₇.extBut _ _ c1 (Heap.get?_push_of_some _ e))
 have hT₈:IsTup2 h₈ hb2.objs.size x1 x2:=hs₈.extBut _ _ (Nat.ne_of_gt hzlt) (hs₇.extBut _ _ (Nat.ne_of_gt hzlt) (Heap.get?_push_size _ rfl))
 have hz8:h₈.objs.size = hb2.objs.size + 1:=by rw [hs₈.1,hs₇.1,Heap.size_push]
 rw [hsz] at hz₈ hT₈ hz8
 refine wpAny_pure ⟨_,rfl,?_⟩
 show Q (.ref hb2.objs.size) _
 rw [hsz]
 exact hQ h₈ hz₈ (up _ _ D.TOz hTOb2) (hiG1.at fun o e=>up _ o D.i1z e) (hiG2.at fun o e=>up _ o D.i2z e) hT₈ hz8 fun c o c1 c2 d1 d2 e=>up c o c1 (hkG c o c1 c2 d1 d2 e)
theorem zipn_end2 {z TI TO i1 i2 l1 l2:Addr} {k:Nat} {k1:Kd} {k2:Kd} {xs1 xs2:Array Value} {a1 a2:Value} {Q:Fin -> Shared -> Prop} (hh:A.handled = none) (D:ZAp2 z TI TO i1 i2 l1 l2)
  (hz:IsZip s.heap z TI TO .none) (hTI:IsTup2 s.heap TI (.ref i1) (.ref i2)) (hTO:IsTup2 s.heap TO a1 a2)
  (h1:ItAt k1 s.heap i1 l1 k) (h2:ItAt k2 s.heap i2 l2 k) (hl1:SqAt k1 s.heap l1 xs1) (hl2:SqAt k2 s.heap l2 xs2) (hend:xs1[k]? = none \/ xs2[k]? = none)
  (hE:∀ h' e,(∀ c o,c ≠ z -> c ≠ TO -> c ≠ i1 -> c ≠ i2 -> s.heap.get? c = some o -> h'.get? c = some o) -> (∃ o,h'.get? e = some o /\ o.cls = .type "StopIteration") -> E (.ref e) { s with heap:=h' }) :
  wpAny (model prog w) A (Builtin.«zip.__next__» ⟨[.ref z],[]⟩) Q E s:=by
 show wpAny _ _ (field (.ref z) 2 >>= _) _ _ _
 refine wpAny_bind (wpAny_field hz rfl (x:=.bool false) rfl ?_)
 show wpAny _ _ (field (.ref z) 3 >>= _) _ _ _
 refine wpAny_bind (wpAny_field hz rfl (x:=.ref TI) rfl ?_)
 refine wpAny_bind (wpAny_seqItems hTI rfl ?_)
 show wpAny _ _ (Builtin.SmallTypes.ownedTupleIsFree (.ref z) >>= _) _ _ _
 refine wpAny_bind ?_
 unfold Builtin.SmallTypes.ownedTupleIsFree
 refine wpAny_bind (wpAny_field hz rfl (x:=.none) rfl (wpAny_pure ?_))
 simp only [if_true]
 refine wpAny_bind (wpAny_rule ?_)
 refine wpAny_bind (wpAny_field hz rfl (x:=.ref TO) rfl ?_)
 refine wpAny_bind (wpAny_setField_rec hz (by simp) fun h₁ hz₁ hs₁=>?_)
 replace hz₁:IsZip h₁ z TI TO .ellipsis:=hz₁
 refine wpAny_bind ?_
 simp only [List.zipIdx_cons,List.zipIdx_nil,List.forIn_cons,List.forIn_nil]
 refine wpAny_bind (wpAny_bind (wpAny_onRaise ?_))
 show wpAny _ _ (Builtin.SmallTypes.nextOf (.ref i1) >>= _) _ _ _
 cases hx1:xs1[k]? with
 | none =>
  refine wpAny_bind (nextOf_end hh (h1.at fun o e=>hs₁.extBut _ o D.i1z e) (hl1.at fun o e=>hs₁.extBut _ o D.l1z e) hx1 fun hq e hsq he=>?_)
  obtain ⟨oe,hoe,hce⟩:=he
  have hzq:IsZip hq z TI TO .ellipsis:=hsq _ _ D.i1z.symm hz₁
  have hez:e ≠ z:=fun x=>by subst x; rw [hzq] at hoe; cases hoe; simp at hce
  refine wpAny_setField_rec hzq (by simp) fun h₉ _ hs₉=>hE h₉ e (fun c o c1 c2 d1 d2 x=>hs₉.extBut _ _ c1 (hsq _ _ d1 (hs₁.extBut _ _ c1 x))) ⟨oe,hs₉.extBut _ _ hez hoe,hce⟩
 | some x1 =>
  refine wpAny_bind (nextOf_item (h1.at fun o e=>hs₁.extBut _ o D.i1z e) (hl1.at fun o e=>hs₁.extBut _ o D.l1z e) hx1 fun ha1 hi1 hsa1=>wpAny_pure ?_)
  have hTOa1:IsTup2 ha1 TO a1 a2:=hsa1.extBut _ _ D.i1TO.symm (hs₁.extBut _ _ D.TOz hTO)
  refine wpAny_bind (wpAny_seqItems hTOa1 rfl ?_)
  refine wpAny_bind (upSeq2 hTOa1 fun hb1 hTOb1 hsb1=>?_)
  replace hTOb1:IsTup2 hb1 TO x1 a2:=hTOb1
  refine wpAny_bind (wpAny_letGo (wpAny_pure ?_))
  refine wpAny_bind (wpAny_bind (wpAny_onRaise ?_))
  show wpAny _ _ (Builtin.SmallTypes.nextOf (.ref i2) >>= _) _ _ _
  have hx2:xs2[k]? = none:=by
   rcases hend with h | h
   ·rw [hx1] at h; cases h
   ·exact h
  refine wpAny_bind (nextOf_end hh (((h2.at fun o e=>hs₁.extBut _ o D.i2z e).at fun o e=>hsa1.extBut _ o D.i2i1 e).at fun o e=>hsb1.extBut _ o D.i2TO e) (((hl2.at fun o e=>hs₁.extBut _ o D.l2z e).at fun o e=>hsa1.extBut _ o D.l2i1 e).at fun o e=>hsb1.extBut _ o D.l2TO e) hx2 fun hq e hsq he=>?_)
  obtain ⟨oe,hoe,hce⟩:=he
  have hzq:IsZip hq z TI TO .ellipsis:=hsq _ _ D.i2z.symm (hsb1.extBut _ _ D.TOz.symm (hsa1.extBut _ _ D.i1z.symm hz₁))
  have hez:e ≠ z:=fun x=>by subst x; rw [hzq] at hoe; cases hoe; simp at hce
  refine wpAny_setField_rec hzq (by simp) fun h₉ _ hs₉=>hE h₉ e (fun c o c1 c2 d1 d2 x=>hs₉.extBut _ _ c1 (hsq _ _ d2 (hsb1.extBut _ _ c2 (hsa1.extBut _ _ d1 (hs₁.extBut _ _ c1 x))))) ⟨oe,hs₉.extBut _ _ hez hoe,hce⟩
theorem next_zip_item2 {z TI TO i1 i2 l1 l2:Addr} {k:Nat} {k1:Kd} {k2:Kd} {xs1 xs2:Array Value} {a1 a2:Value} {x1 x2:Value} {Q:Option Value -> Shared -> Prop} (D:ZAp2 z TI TO i1 i2 l1 l2)
  (hz:IsZip s.heap z TI TO .none) (hTI:IsTup2 s.heap TI (.ref i1) (.ref i2)) (hTO:IsTup2 s.heap TO a1 a2)
  (h1:ItAt k1 s.heap i1 l1 k) (h2:ItAt k2 s.heap i2 l2 k) (hl1:SqAt k1 s.heap l1 xs1) (hl2:SqAt k2 s.heap l2 xs2) (hx1:xs1[k]? = some x1) (hx2:xs2[k]? = some x2)
  (hQ:∀ h',IsZip h' z TI TO (rawInt s.heap.objs.size) -> IsTup2 h' TO x1 x2 -> ItAt k1 h' i1 l1 (k + 1) -> ItAt k2 h' i2 l2 (k + 1) -> IsTup2 h' s.heap.objs.size x1 x2 -> h'.objs.size = s.heap.objs.size + 1 ->
    (∀ c o,c ≠ z -> c ≠ TO -> c ≠ i1 -> c ≠ i2 -> s.heap.get? c = some o -> h'.get? c = some o) -> Q (some (.ref s.heap.objs.size)) { s with heap:=h' }) :
  wpAny (model prog w) A (pyNext (.ref z)) Q E s:=by
 have hT:s.TypeIs (.ref z) "zip":=⟨_,hz,rfl⟩
 unfold pyNext
 exact wpAny_bind (wpAny_attempt (wpAny_callSpecial?_slot (name:=Str.ofString "__next__") hT F.slot_zip_next
   (wpAny_call_entry F.slot_zip_next hT F.entry_zip_next
     (zipn_item2 D hz hTI hTO h1 h2 hl1 hl2 hx1 hx2 fun h' a1 a2 b1 b2 a5 a6 a7=>wpAny_pure (hQ h' a1 a2 b1 b2 a5 a6 a7)) (F.args_zip_next_1 _))))
theorem next_zip_end2 {z TI TO i1 i2 l1 l2:Addr} {k:Nat} {k1:Kd} {k2:Kd} {xs1 xs2:Array Value} {a1 a2:Value} {Q:Option Value -> Shared -> Prop} (hh:A.handled = none) (D:ZAp2 z TI TO i1 i2 l1 l2)
  (hz:IsZip s.heap z TI TO .none) (hTI:IsTup2 s.heap TI (.ref i1) (.ref i2)) (hTO:IsTup2 s.heap TO a1 a2)
  (h1:ItAt k1 s.heap i1 l1 k) (h2:ItAt k2 s.heap i2 l2 k) (hl1:SqAt k1 s.heap l1 xs1) (hl2:SqAt k2 s.heap l2 xs2) (hend:xs1[k]? = none \/ xs2[k]? = none)
  (hQ:∀ h',(∀ c o,c ≠ z -> c ≠ TO -> c ≠ i1 -> c ≠ i2 -> s.heap.get? c = some o -> h'.get? c = some o) -> Q none { s with heap:=h' }):wpAny (model prog w) A (pyNext (.ref z)) Q E s:=by
 have hT:s.TypeIs (.ref z) "zip":=⟨_,hz,rfl⟩
 unfold pyNext
 refine wpAny_bind (wpAny_attempt (wpAny_callSpecial?_slot (name:=Str.ofString "__next__") hT F.slot_zip_next
   (wpAny_call_entry F.slot_zip_next hT F.entry_zip_next (zipn_end2 hh D hz hTI hTO h1 h2 hl1 hl2 hend fun h' e hk he=>?_) (F.args_zip_next_1 _))))
 obtain ⟨o,ho,hc⟩:=he
 refine wpAny_bind (wpAny_isInstance (T:="StopIteration") (b:=true) ⟨o,ho,hc⟩ isSubtype_stop ?_)
 exact wpAny_pure (hQ _ hk)
end
noncomputable abbrev zh2I (h:Heap) (k1:Kd) (k2:Kd) (l1 l2:Addr):Heap:=((h.push (itObj k1 l1)).push (itObj k2 l2))
noncomputable abbrev zh2T (h:Heap) (k1:Kd) (k2:Kd) (l1 l2:Addr):Heap:=(zh2I h k1 k2 l1 l2).push { cls:=.type "tuple",data:=.seq #[.ref h.objs.size,.ref (h.push (itObj k1 l1)).objs.size] }
noncomputable abbrev zh2O (h:Heap) (k1:Kd) (k2:Kd) (l1 l2:Addr):Heap:=(zh2T h k1 k2 l1 l2).push { cls:=.type "tuple",data:=.seq #[.none,.none] }
noncomputable abbrev zh2Z (h:Heap) (k1:Kd) (k2:Kd) (l1 l2:Addr):Heap:=(zh2O h k1 k2 l1 l2).push { cls:=.type "zip",data:=.fields #[.none,.bool false,.bool false,.ref (zh2I h k1 k2 l1 l2).objs.size,.ref (zh2T h k1 k2 l1 l2).objs.size] }
theorem zip_new2 (k1:Kd) (k2:Kd) (l1 l2:Addr) (xs1 xs2:Array Value) :
  Meets (Builtin.«zip.__new__» ⟨[.type "zip",.ref l1,.ref l2],[]⟩) (fun _ R s=>SqAt k1 s.heap l1 xs1 /\ SqAt k2 s.heap l2 xs2 /\
    R (.ok (.ret (.ref (zh2O s.heap k1 k2 l1 l2).objs.size))) { s with heap:=zh2Z s.heap k1 k2 l1 l2 }) :=
 .of_wp fun prog w A R s h=>by
  obtain ⟨hp,g,d,tk,os⟩:=s; obtain ⟨hl1,hl2,h⟩:=h
  have hsub:=sub_zip
  have hL1:SqAt k1 (Shared.heap ⟨hp,g,d,tk,os⟩) l1 xs1:=hl1
  have hL2:SqAt k2 (Shared.heap ⟨(hp.push (itObj k1 l1)),g,d,tk,os⟩) l2 xs2:=(SqAt.at hl2 fun o e=>Heap.get?_push_of_some _ e)
  wp_walk using iter_at hL1,iter_at hL2
  exact ⟨_,rfl,h⟩
noncomputable abbrev IsTup3 (h:Heap) (T:Addr) (a1 a2 a3:Value):Prop:=h.get? T = some { cls:=.type "tuple",data:=.seq #[a1,a2,a3] }
structure ZAp3 (z TI TO i1 i2 i3 l1 l2 l3:Addr):Prop where
 TIz:TI ≠ z
 TOz:TO ≠ z
 i1z:i1 ≠ z
 i2z:i2 ≠ z
 i3z:i3 ≠ z
 TOTI:TO ≠ TI
 i1TI:i1 ≠ TI
 i2TI:i2 ≠ TI
 i3TI:i3 ≠ TI
 i1TO:i1 ≠ TO
 i2TO:i2 ≠ TO
 i3TO:i3 ≠ TO
 i2i1:i2 ≠ i1
 i3i1:i3 ≠ i1
 i3i2:i3 ≠ i2
 l1z:l1 ≠ z
 l1TO:l1 ≠ TO
 l1i1:l1 ≠ i1
 l1i2:l1 ≠ i2
 l1i3:l1 ≠ i3
 l2z:l2 ≠ z
 l2TO:l2 ≠ TO
 l2i1:l2 ≠ i1
 l2i2:l2 ≠ i2
 l2i3:l2 ≠ i3
 l3z:l3 ≠ z
 l3TO:l3 ≠ TO
 l3i1:l3 ≠ i1
 l3i2:l3 ≠ i2
 l3i3:l3 ≠ i3
theorem zap3 (n l1 l2 l3:Nat) (h1:l1 < n) (h2:l2 < n) (h3:l3 < n):ZAp3 (n + 5) (n + 3) (n + 4) n (n + 1) (n + 2) l1 l2 l3:=by constructor <;> (show ¬ (@Eq Nat _ _)) <;> omega
section
variable {prog:Program} {w:World} {A:Around} {E:Value -> Shared -> Prop} {s:Shared}
theorem upSeq3 {T:Addr} {a1 a2 a3 x:Value} {k:Nat} {Q:Unit -> Shared -> Prop} (hT:IsTup3 s.heap T a1 a2 a3)
  (h:∀ h',h'.get? T = some { cls:=.type "tuple",data:=.seq ((#[a1,a2,a3]:Array Value).setIfInBounds k x) } -> Heap.SameBut T s.heap h' -> Q () { s with heap:=h' }) :
  wpAny (model prog w) A (updateSeq T (·.setIfInBounds k x)) Q E s:=by
 refine wpAny_updateSeq hT rfl (h _ ?_ (Heap.SameBut.update ..))
 rw [Heap.get?_update_self _ hT rfl]
 simp [Obj.mapSeq]
theorem zipn_item3 {z TI TO i1 i2 i3 l1 l2 l3:Addr} {k:Nat} {k1:Kd} {k2:Kd} {k3:Kd} {xs1 xs2 xs3:Array Value} {a1 a2 a3:Value} {x1 x2 x3:Value} {Q:Value -> Shared -> Prop} (D:ZAp3 z TI TO i1 i2 i3 l1 l2 l3)
  (hz:IsZip s.heap z TI TO .none) (hTI:IsTup3 s.heap TI (.ref i1) (.ref i2) (.ref i3)) (hTO:IsTup3 s.heap TO a1 a2 a3)
  (h1:ItAt k1 s.heap i1 l1 k) (h2:ItAt k2 s.heap i2 l2 k) (h3:ItAt k3 s.heap i3 l3 k) (hl1:SqAt k1 s.heap l1 xs1) (hl2:SqAt k2 s.heap l2 xs2) (hl3:SqAt k3 s.heap l3 xs3) (hx1:xs1[k]? = some x1) (hx2:xs2[k]? = some x2) (hx3:xs3[k]? = some x3)
  (hQ:∀ h',IsZip h' z TI TO (rawInt s.heap.objs.size) -> IsTup3 h' TO x1 x2 x3 -> ItAt k1 h' i1 l1 (k + 1) -> ItAt k2 h' i2 l2 (k + 1) -> ItAt k3 h' i3 l3 (k + 1) -> IsTup3 h' s.heap.objs.size x1 x2 x3 -> h'.objs.size = s.heap.objs.size + 1 ->
    (∀ c o,c ≠ z -> c ≠ TO -> c ≠ i1 -> c ≠ i2 -> c ≠ i3 -> s.heap.get? c = some o -> h'.get? c = some o) -> Q (.ref s.heap.objs.size) { s with heap:=h' }) :
  wpAny (model prog w) A (Builtin.«zip.__next__» ⟨[.ref z],[]⟩) (fun fin s'=>∃ v,fin = .done (.ret v) /\ Q v s') E s:=by
 show wpAny _ _ (field (.ref z) 2 >>= _) _ _ _
 refine wpAny_bind (wpAny_field hz rfl (x:=.bool false) rfl ?_)
 show wpAny _ _ (field (.ref z) 3 >>= _) _ _ _
 refine wpAny_bind (wpAny_field hz rfl (x:=.ref TI) rfl ?_)
 refine wpAny_bind (wpAny_seqItems hTI rfl ?_)
 show wpAny _ _ (Builtin.SmallTypes.ownedTupleIsFree (.ref z) >>= _) _ _ _
 refine wpAny_bind ?_
 unfold Builtin.SmallTypes.ownedTupleIsFree
 refine wpAny_bind (wpAny_field hz rfl (x:=.none) rfl (wpAny_pure ?_))
 simp only [if_true]
 refine wpAny_bind (wpAny_rule ?_)
 refine wpAny_bind (wpAny_field hz rfl (x:=.ref TO) rfl ?_)
 refine wpAny_bind (wpAny_setField_rec hz (by simp) fun h₁ hz₁ hs₁=>?_)
 replace hz₁:IsZip h₁ z TI TO .ellipsis:=hz₁
 refine wpAny_bind ?_
 simp only [List.zipIdx_cons,List.zipIdx_nil,List.forIn_cons,List.forIn_nil]
 have up₁:∀ c o,c ≠ z -> s.heap.get? c = some o -> h₁.get? c = some o:=fun c o c1 e=>hs₁.extBut _ _ c1 e
 refine wpAny_bind (wpAny_bind (wpAny_onRaise ?_))
 show wpAny _ _ (Builtin.SmallTypes.nextOf (.ref i1) >>= _) _ _ _
 refine wpAny_bind (nextOf_item (h1.at fun o e=>hs₁.extBut _ o D.i1z e) (hl1.at fun o e=>hs₁.extBut _ o D.l1z e) hx1 fun ha1 hi1 hsa1=>wpAny_pure ?_)
 have hTOa1:IsTup3 ha1 TO a1 a2 a3:=hsa1.extBut _ _ D.i1TO.symm (hs₁.extBut _ _ D.TOz hTO)
 refine wpAny_bind (wpAny_seqItems hTOa1 rfl ?_)
 refine wpAny_bind (upSeq3 hTOa1 fun hb1 hTOb1 hsb1=>?_)
 replace hTOb1:IsTup3 hb1 TO x1 a2 a3:=hTOb1
 refine wpAny_bind (wpAny_letGo (wpAny_pure ?_))
 refine wpAny_bind (wpAny_bind (wpAny_onRaise ?_))
 show wpAny _ _ (Builtin.SmallTypes.nextOf (.ref i2) >>= _) _ _ _
 refine wpAny_bind (nextOf_item (((h2.at fun o e=>hs₁.extBut _ o D.i2z e).at fun o e=>hsa1.extBut _ o D.i2i1 e).at fun o e=>hsb1.extBut _ o D.i2TO e) (((hl2.at fun o e=>hs₁.extBut _ o D.l2z e).at fun o e=>hsa1.extBut _ o D.l2i1 e).at fun o e=>hsb1.extBut _ o D.l2TO e) hx2 fun ha2 hi2 hsa2=>wpAny_pure ?_)
 have hTOa2:IsTup3 ha2 TO x1 a2 a3:=hsa2.extBut _ _ D.i2TO.symm hTOb1
 refine wpAny_bind (wpAny_seqItems hTOa2 rfl ?_)
 refine wpAny_bind (upSeq3 hTOa2 fun hb2 hTOb2 hsb2=>?_)
 replace hTOb2:IsTup3 hb2 TO x1 x2 a3:=hTOb2
 refine wpAny_bind (wpAny_letGo (wpAny_pure ?_))
 refine wpAny_bind (wpAny_bind (wpAny_onRaise ?_))
 show wpAny _ _ (Builtin.SmallTypes.nextOf (.ref i3) >>= _) _ _ _
 refine wpAny_bind (nextOf_item (((((h3.at fun o e=>hs₁.extBut _ o D.i3z e).at fun o e=>hsa1.extBut _ o D.i3i1 e).at fun o e=>hsb1.extBut _ o D.i3TO e).at fun o e=>hsa2.extBut _ o D.i3i2 e).at fun o e=>hsb2.extBut _ o D.i3TO e) (((((hl3.at fun o e=>hs₁.extBut _ o D.l3z e).at fun o e=>hsa1.extBut _ o D.l3i1 e).at fun o e=>hsb1.extBut _ o D.l3TO e).at fun o e=>hsa2.extBut _ o D.l3i2 e).at fun o e=>hsb2.extBut _ o D.l3TO e) hx3 fun ha3 hi3 hsa3=>wpAny_pure ?_)
 have hTOa3:IsTup3 ha3 TO x1 x2 a3:=hsa3.extBut _ _ D.i3TO.symm hTOb2
 refine wpAny_bind (wpAny_seqItems hTOa3 rfl ?_)
 refine wpAny_bind (upSeq3 hTOa3 fun hb3 hTOb3 hsb3=>?_)
 replace hTOb3:IsTup3 hb3 TO x1 x2 x3:=hTOb3
 refine wpAny_bind (wpAny_letGo (wpAny_pure (wpAny_pure ?_)))
 refine wpAny_bind (wpAny_seqItems hTOb3 rfl ?_)
 refine wpAny_bind (wpAny_newTuple ?_)
 have hsz:hb3.objs.size = s.heap.objs.size:=by rw [hsb3.1,hsa3.1,hsb2.1,hsa2.1,hsb1.1,hsa1.1,hs₁.1]
 have hzG:IsZip hb3 z TI TO .ellipsis:=(hsb3.extBut _ _ D.TOz.symm (hsa3.extBut _ _ D.i3z.symm (hsb2.extBut _ _ D.TOz.symm (hsa2.extBut _ _ D.i2z.symm (hsb1.extBut _ _ D.TOz.symm (hsa1.extBut _ _ D.i1z.symm hz₁))))))
 have hkG:∀ c o,c ≠ z -> c ≠ TO -> c ≠ i1 -> c ≠ i2 -> c ≠ i3 -> s.heap.get? c = some o -> hb3.get? c = some o:=fun c o c1 c2 d1 d2 d3 e=>(hsb3.extBut _ _ c2 (hsa3.extBut _ _ d3 (hsb2.extBut _ _ c2 (hsa2.extBut _ _ d2 (hsb1.extBut _ _ c2 (hsa1.extBut _ _ d1 (hs₁.extBut _ _ c1 e)))))))
 have hiG1:ItAt k1 hb3 i1 l1 (k + 1):=(((((hi1.at fun o e=>hsb1.extBut _ o D.i1TO e).at fun o e=>hsa2.extBut _ o D.i2i1.symm e).at fun o e=>hsb2.extBut _ o D.i1TO e).at fun o e=>hsa3.extBut _ o D.i3i1.symm e).at fun o e=>hsb3.extBut _ o D.i1TO e)
 have hiG2:ItAt k2 hb3 i2 l2 (k + 1):=(((hi2.at fun o e=>hsb2.extBut _ o D.i2TO e).at fun o e=>hsa3.extBut _ o D.i3i2.symm e).at fun o e=>hsb3.extBut _ o D.i2TO e)
 have hiG3:ItAt k3 hb3 i3 l3 (k + 1):=(hi3.at fun o e=>hsb3.extBut _ o D.i3TO e)
 have hzlt:z < hb3.objs.size:=Heap.lt_size hzG
 show wpAny _ _ (Builtin.SmallTypes.ownedTupleHandOut (.ref z) (.ref hb3.objs.size) >>= _) _ _ _
 refine wpAny_bind ?_
 unfold Builtin.SmallTypes.ownedTupleHandOut
 have hz₆:IsZip (hb3.push { cls:=.type "tuple",data:=.seq #[x1,x2,x3] }) z TI TO .ellipsis:=Heap.get?_push_of_some _ hzG
 refine wpAny_bind (wpAny_setField_rec hz₆ (by simp) fun h₇ hz₇ hs₇=>?_)
 replace hz₇:IsZip h₇ z TI TO (rawInt hb3.objs.size):=hz₇
 refine wpAny_setField_rec hz₇ (by simp) fun h₈ hz₈ hs₈=>?_
 replace hz₈:IsZip h₈ z TI TO (rawInt hb3.objs.size):=hz₈
 have up:∀ c o,c ≠ z -> hb3.get? c = some o -> h₈.get? c = some o:=fun c o c1 e=>hs₈.extBut _ _ c1 (hs₇.extBut _ _ c1 (Heap.get?_push_of_some _ e))
 have hT₈:IsTup3 h₈ hb3.objs.size x1 x2 x3:=hs₈.extBut _ _ (Nat.ne_of_gt hzlt) (hs₇.extBut _ _ (Nat.ne_of_gt hzlt) (Heap.get?_push_size _ rfl))
 have hz8:h₈.objs.size = hb3.objs.size + 1:=by rw [hs₈.1,hs₇.1,Heap.size_push]
 rw [hsz] at hz₈ hT₈ hz8
 refine wpAny_pure ⟨_,rfl,?_⟩
 show Q (.ref hb3.objs.size) _
 rw [hsz]
 exact hQ h₈ hz₈ (up _ _ D.TOz hTOb3) (hiG1.at fun o e=>up _ o D.i1z e) (hiG2.at fun o e=>up _ o D.i2z e) (hiG3.at fun o e=>up _ o D.i3z e) hT₈ hz8 fun c o c1 c2 d1 d2 d3 e=>up c o c1 (hkG c o c1 c2 d1 d2 d3 e)
theorem zipn_end3 {z TI TO i1 i2 i3 l1 l2 l3:Addr} {k:Nat} {k1:Kd} {k2:Kd} {k3:Kd} {xs1 xs2 xs3:Array Value} {a1 a2 a3:Value} {Q:Fin -> Shared -> Prop} (hh:A.handled = none) (D:ZAp3 z TI TO i1 i2 i3 l1 l2 l3)
  (hz:IsZip s.heap z TI TO .none) (hTI:IsTup3 s.heap TI (.ref i1) (.ref i2) (.ref i3)) (hTO:IsTup3 s.heap TO a1 a2 a3)
  (h1:ItAt k1 s.heap i1 l1 k) (h2:ItAt k2 s.heap i2 l2 k) (h3:ItAt k3 s.heap i3 l3 k) (hl1:SqAt k1 s.heap l1 xs1) (hl2:SqAt k2 s.heap l2 xs2) (hl3:SqAt k3 s.heap l3 xs3) (hend:xs1[k]? = none \/ xs2[k]? = none \/ xs3[k]? = none)
  (hE:∀ h' e,(∀ c o,c ≠ z -> c ≠ TO -> c ≠ i1 -> c ≠ i2 -> c ≠ i3 -> s.heap.get? c = some o -> h'.get? c = some o) -> (∃ o,h'.get? e = some o /\ o.cls = .type "StopIteration") -> E (.ref e) { s with heap:=h' }) :
  wpAny (model prog w) A (Builtin.«zip.__next__» ⟨[.ref z],[]⟩) Q E s:=by
 show wpAny _ _ (field (.ref z) 2 >>= _) _ _ _
 refine wpAny_bind (wpAny_field hz rfl (x:=.bool false) rfl ?_)
 show wpAny _ _ (field (.ref z) 3 >>= _) _ _ _
 refine wpAny_bind (wpAny_field hz rfl (x:=.ref TI) rfl ?_)
 refine wpAny_bind (wpAny_seqItems hTI rfl ?_)
 show wpAny _ _ (Builtin.SmallTypes.ownedTupleIsFree (.ref z) >>= _) _ _ _
 refine wpAny_bind ?_
 unfold Builtin.SmallTypes.ownedTupleIsFree
 refine wpAny_bind (wpAny_field hz rfl (x:=.none) rfl (wpAny_pure ?_))
 simp only [if_true]
 refine wpAny_bind (wpAny_rule ?_)
 refine wpAny_bind (wpAny_field hz rfl (x:=.ref TO) rfl ?_)
 refine wpAny_bind (wpAny_setField_rec hz (by simp) fun h₁ hz₁ hs₁=>?_)
 replace hz₁:IsZip h₁ z TI TO .ellipsis:=hz₁
 refine wpAny_bind ?_
 simp only [List.zipIdx_cons,List.zipIdx_nil,List.forIn_cons,List.forIn_nil]
 refine wpAny_bind (wpAny_bind (wpAny_onRaise ?_))
 show wpAny _ _ (Builtin.SmallTypes.nextOf (.ref i1) >>= _) _ _ _
 cases hx1:xs1[k]? with
 | none =>
  refine wpAny_bind (nextOf_end hh (h1.at fun o e=>hs₁.extBut _ o D.i1z e) (hl1.at fun o e=>hs₁.extBut _ o D.l1z e) hx1 fun hq e hsq he=>?_)
  obtain ⟨oe,hoe,hce⟩:=he
  have hzq:IsZip hq z TI TO .ellipsis:=hsq _ _ D.i1z.symm hz₁
  have hez:e ≠ z:=fun x=>by subst x; rw [hzq] at hoe; cases hoe; simp at hce
  refine wpAny_setField_rec hzq (by simp) fun h₉ _ hs₉=>hE h₉ e (fun c o c1 c2 d1 d2 d3 x=>hs₉.extBut _ _ c1 (hsq _ _ d1 (hs₁.extBut _ _ c1 x))) ⟨oe,hs₉.extBut _ _ hez hoe,hce⟩
 | some x1 =>
  refine wpAny_bind (nextOf_item (h1.at fun o e=>hs₁.extBut _ o D.i1z e) (hl1.at fun o e=>hs₁.extBut _ o D.l1z e) hx1 fun ha1 hi1 hsa1=>wpAny_pure ?_)
  have hTOa1:IsTup3 ha1 TO a1 a2 a3:=hsa1.extBut _ _ D.i1TO.symm (hs₁.extBut _ _ D.TOz hTO)
  refine wpAny_bind (wpAny_seqItems hTOa1 rfl ?_)
  refine wpAny_bind (upSeq3 hTOa1 fun hb1 hTOb1 hsb1=>?_)
  replace hTOb1:IsTup3 hb1 TO x1 a2 a3:=hTOb1
  refine wpAny_bind (wpAny_letGo (wpAny_pure ?_))
  refine wpAny_bind (wpAny_bind (wpAny_onRaise ?_))
  show wpAny _ _ (Builtin.SmallTypes.nextOf (.ref i2) >>= _) _ _ _
  cases hx2:xs2[k]? with
  | none =>
   refine wpAny_bind (nextOf_end hh (((h2.at fun o e=>hs₁.extBut _ o D.i2z e).at fun o e=>hsa1.extBut _ o D.i2i1 e).at fun o e=>hsb1.extBut _ o D.i2TO e) (((hl2.at fun o e=>hs₁.extBut _ o D.l2z e).at fun o e=>hsa1.extBut _ o D.l2i1 e).at fun o e=>hsb1.extBut _ o D.l2TO e) hx2 fun hq e hsq he=>?_)
   obtain ⟨oe,hoe,hce⟩:=he
   have hzq:IsZip hq z TI TO .ellipsis:=hsq _ _ D.i2z.symm (hsb1.extBut _ _ D.TOz.symm (hsa1.extBut _ _ D.i1z.symm hz₁))
   have hez:e ≠ z:=fun x=>by subst x; rw [hzq] at hoe; cases hoe; simp at hce
   refine wpAny_setField_rec hzq (by simp) fun h₉ _ hs₉=>hE h₉ e (fun c o c1 c2 d1 d2 d3 x=>hs₉.extBut _ _ c1 (hsq _ _ d2 (hsb1.extBut _ _ c2 (hsa1.extBut _ _ d1 (hs₁.extBut _ _ c1 x))))) ⟨oe,hs₉.extBut _ _ hez hoe,hce⟩
  | some x2 =>
   refine wpAny_bind (nextOf_item (((h2.at fun o e=>hs₁.extBut _ o D.i2z e).at fun o e=>hsa1.extBut _ o D.i2i1 e).at fun o e=>hsb1.extBut _ o D.i2TO e) (((hl2.at fun o e=>hs₁.extBut _ o D.l2z e).at fun o e=>hsa1.extBut _ o D.l2i1 e).at fun o e=>hsb1.extBut _ o D.l2TO e) hx2 fun ha2 hi2 hsa2=>wpAny_pure ?_)
   have hTOa2:IsTup3 ha2 TO x1 a2 a3:=hsa2.extBut _ _ D.i2TO.symm hTOb1
   refine wpAny_bind (wpAny_seqItems hTOa2 rfl ?_)
   refine wpAny_bind (upSeq3 hTOa2 fun hb2 hTOb2 hsb2=>?_)
   replace hTOb2:IsTup3 hb2 TO x1 x2 a3:=hTOb2
   refine wpAny_bind (wpAny_letGo (wpAny_pure ?_))
   refine wpAny_bind (wpAny_bind (wpAny_onRaise ?_))
   show wpAny _ _ (Builtin.SmallTypes.nextOf (.ref i3) >>= _) _ _ _
   have hx3:xs3[k]? = none:=by
    rcases hend with h | h | h
    ·rw [hx1] at h; cases h
    ·rw [hx2] at h; cases h
    ·exact h
   refine wpAny_bind (nextOf_end hh (((((h3.at fun o e=>hs₁.extBut _ o D.i3z e).at fun o e=>hsa1.extBut _ o D.i3i1 e).at fun o e=>hsb1.extBut _ o D.i3TO e).at fun o e=>hsa2.extBut _ o D.i3i2 e).at fun o e=>hsb2.extBut _ o D.i3TO e) (((((hl3.at fun o e=>hs₁.extBut _ o D.l3z e).at fun o e=>hsa1.extBut _ o D.l3i1 e).at fun o e=>hsb1.extBut _ o D.l3TO e).at fun o e=>hsa2.extBut _ o D.l3i2 e).at fun o e=>hsb2.extBut _ o D.l3TO e) hx3 fun hq e hsq he=>?_)
   obtain ⟨oe,hoe,hce⟩:=he
   have hzq:IsZip hq z TI TO .ellipsis:=hsq _ _ D.i3z.symm (hsb2.extBut _ _ D.TOz.symm (hsa2.extBut _ _ D.i2z.symm (hsb1.extBut _ _ D.TOz.symm (hsa1.extBut _ _ D.i1z.symm hz₁))))
   have hez:e ≠ z:=fun x=>by subst x; rw [hzq] at hoe; cases hoe; simp at hce
   refine wpAny_setField_rec hzq (by simp) fun h₉ _ hs₉=>hE h₉ e (fun c o c1 c2 d1 d2 d3 x=>hs₉.extBut _ _ c1 (hsq _ _ d3 (hsb2.extBut _ _ c2 (hsa2.extBut _ _ d2 (hsb1.extBut _ _ c2 (hsa1.extBut _ _ d1 (hs₁.extBut _ _ c1 x))))))) ⟨oe,hs₉.extBut _ _ hez hoe,hce⟩
theorem next_zip_item3 {z TI TO i1 i2 i3 l1 l2 l3:Addr} {k:Nat} {k1:Kd} {k2:Kd} {k3:Kd} {xs1 xs2 xs3:Array Value} {a1 a2 a3:Value} {x1 x2 x3:Value} {Q:Option Value -> Shared -> Prop} (D:ZAp3 z TI TO i1 i2 i3 l1 l2 l3)
  (hz:IsZip s.heap z TI TO .none) (hTI:IsTup3 s.heap TI (.ref i1) (.ref i2) (.ref i3)) (hTO:IsTup3 s.heap TO a1 a2 a3)
  (h1:ItAt k1 s.heap i1 l1 k) (h2:ItAt k2 s.heap i2 l2 k) (h3:ItAt k3 s.heap i3 l3 k) (hl1:SqAt k1 s.heap l1 xs1) (hl2:SqAt k2 s.heap l2 xs2) (hl3:SqAt k3 s.heap l3 xs3) (hx1:xs1[k]? = some x1) (hx2:xs2[k]? = some x2) (hx3:xs3[k]? = some x3)
  (hQ:∀ h',IsZip h' z TI TO (rawInt s.heap.objs.size) -> IsTup3 h' TO x1 x2 x3 -> ItAt k1 h' i1 l1 (k + 1) -> ItAt k2 h' i2 l2 (k + 1) -> ItAt k3 h' i3 l3 (k + 1) -> IsTup3 h' s.heap.objs.size x1 x2 x3 -> h'.objs.size = s.heap.objs.size + 1 ->
    (∀ c o,c ≠ z -> c ≠ TO -> c ≠ i1 -> c ≠ i2 -> c ≠ i3 -> s.heap.get? c = some o -> h'.get? c = some o) -> Q (some (.ref s.heap.objs.size)) { s with heap:=h' }) :
  wpAny (model prog w) A (pyNext (.ref z)) Q E s:=by
 have hT:s.TypeIs (.ref z) "zip":=⟨_,hz,rfl⟩
 unfold pyNext
 exact wpAny_bind (wpAny_attempt (wpAny_callSpecial?_slot (name:=Str.ofString "__next__") hT F.slot_zip_next
   (wpAny_call_entry F.slot_zip_next hT F.entry_zip_next
     (zipn_item3 D hz hTI hTO h1 h2 h3 hl1 hl2 hl3 hx1 hx2 hx3 fun h' a1 a2 b1 b2 b3 a5 a6 a7=>wpAny_pure (hQ h' a1 a2 b1 b2 b3 a5 a6 a7)) (F.args_zip_next_1 _))))
theorem next_zip_end3 {z TI TO i1 i2 i3 l1 l2 l3:Addr} {k:Nat} {k1:Kd} {k2:Kd} {k3:Kd} {xs1 xs2 xs3:Array Value} {a1 a2 a3:Value} {Q:Option Value -> Shared -> Prop} (hh:A.handled = none) (D:ZAp3 z TI TO i1 i2 i3 l1 l2 l3)
  (hz:IsZip s.heap z TI TO .none) (hTI:IsTup3 s.heap TI (.ref i1) (.ref i2) (.ref i3)) (hTO:IsTup3 s.heap TO a1 a2 a3)
  (h1:ItAt k1 s.heap i1 l1 k) (h2:ItAt k2 s.heap i2 l2 k) (h3:ItAt k3 s.heap i3 l3 k) (hl1:SqAt k1 s.heap l1 xs1) (hl2:SqAt k2 s.heap l2 xs2) (hl3:SqAt k3 s.heap l3 xs3) (hend:xs1[k]? = none \/ xs2[k]? = none \/ xs3[k]? = none)
  (hQ:∀ h',(∀ c o,c ≠ z -> c ≠ TO -> c ≠ i1 -> c ≠ i2 -> c ≠ i3 -> s.heap.get? c = some o -> h'.get? c = some o) -> Q none { s with heap:=h' }):wpAny (model prog w) A (pyNext (.ref z)) Q E s:=by
 have hT:s.TypeIs (.ref z) "zip":=⟨_,hz,rfl⟩
 unfold pyNext
 refine wpAny_bind (wpAny_attempt (wpAny_callSpecial?_slot (name:=Str.ofString "__next__") hT F.slot_zip_next
   (wpAny_call_entry F.slot_zip_next hT F.entry_zip_next (zipn_end3 hh D hz hTI hTO h1 h2 h3 hl1 hl2 hl3 hend fun h' e hk he=>?_) (F.args_zip_next_1 _))))
 obtain ⟨o,ho,hc⟩:=he
 refine wpAny_bind (wpAny_isInstance (T:="StopIteration") (b:=true) ⟨o,ho,hc⟩ isSubtype_stop ?_)
 exact wpAny_pure (hQ _ hk)
end
noncomputable abbrev zh3I (h:Heap) (k1:Kd) (k2:Kd) (k3:Kd) (l1 l2 l3:Addr):Heap:=(((h.push (itObj k1 l1)).push (itObj k2 l2)).push (itObj k3 l3))
noncomputable abbrev zh3T (h:Heap) (k1:Kd) (k2:Kd) (k3:Kd) (l1 l2 l3:Addr):Heap:=(zh3I h k1 k2 k3 l1 l2 l3).push { cls:=.type "tuple",data:=.seq #[.ref h.objs.size,.ref (h.push (itObj k1 l1)).objs.size,.ref ((h.push (itObj k1 l1)).push (itObj k2 l2)).objs.size] }
noncomputable abbrev zh3O (h:Heap) (k1:Kd) (k2:Kd) (k3:Kd) (l1 l2 l3:Addr):Heap:=(zh3T h k1 k2 k3 l1 l2 l3).push { cls:=.type "tuple",data:=.seq #[.none,.none,.none] }
noncomputable abbrev zh3Z (h:Heap) (k1:Kd) (k2:Kd) (k3:Kd) (l1 l2 l3:Addr):Heap:=(zh3O h k1 k2 k3 l1 l2 l3).push { cls:=.type "zip",data:=.fields #[.none,.bool false,.bool false,.ref (zh3I h k1 k2 k3 l1 l2 l3).objs.size,.ref (zh3T h k1 k2 k3 l1 l2 l3).objs.size] }
theorem zip_new3 (k1:Kd) (k2:Kd) (k3:Kd) (l1 l2 l3:Addr) (xs1 xs2 xs3:Array Value) :
  Meets (Builtin.«zip.__new__» ⟨[.type "zip",.ref l1,.ref l2,.ref l3],[]⟩) (fun _ R s=>SqAt k1 s.heap l1 xs1 /\ SqAt k2 s.heap l2 xs2 /\ SqAt k3 s.heap l3 xs3 /\
    R (.ok (.ret (.ref (zh3O s.heap k1 k2 k3 l1 l2 l3).objs.size))) { s with heap:=zh3Z s.heap k1 k2 k3 l1 l2 l3 }) :=
 .of_wp fun prog w A R s h=>by
  obtain ⟨hp,g,d,tk,os⟩:=s; obtain ⟨hl1,hl2,hl3,h⟩:=h
  have hsub:=sub_zip
  have hL1:SqAt k1 (Shared.heap ⟨hp,g,d,tk,os⟩) l1 xs1:=hl1
  have hL2:SqAt k2 (Shared.heap ⟨(hp.push (itObj k1 l1)),g,d,tk,os⟩) l2 xs2:=(SqAt.at hl2 fun o e=>Heap.get?_push_of_some _ e)
  have hL3:SqAt k3 (Shared.heap ⟨((hp.push (itObj k1 l1)).push (itObj k2 l2)),g,d,tk,os⟩) l3 xs3:=(SqAt.at (SqAt.at hl3 fun o e=>Heap.get?_push_of_some _ e) fun o e=>Heap.get?_push_of_some _ e)
  wp_walk using iter_at hL1,iter_at hL2,iter_at hL3
  exact ⟨_,rfl,h⟩
end L2
namespace L2
open PySem PySem.Spec PyProof.Rows
inductive Ki where | non | bl | int | str | lst | tup | dct
 deriving DecidableEq
noncomputable def Ki.nm:Ki -> String
 | .non=>"NoneType" | .bl=>"bool" | .int=>"int" | .str=>"str" | .lst=>"list" | .tup=>"tuple" | .dct=>"dict"
noncomputable def KiOf (K:PySem.W.Frag) (H:Hp):V -> Ki -> Prop
 | .non,k=>k = .non
 | .bl _,k=>k = .bl
 | .int _,k=>k = .int
 | .str _,k=>k = .str
 | .ref a,k=>(k = .lst /\ ∃ xs,SqL K H a xs) \/ (k = .tup /\ ∃ xs,SqT K H a xs) \/ (k = .dct /\ ((∃ kvs,H a = some (.dK kvs)) \/ ∃ kvs,H a = some (.dT kvs)))
 | _,_=>False
noncomputable def Ki.sub:Ki -> Ki -> Bool
 | .bl,.int=>true
 | a,b=>decide (a = b)
theorem KiOf.typeIs {X:Cx} {pins:List (Addr × Obj)} {σ:St} {H:Hp} {s:Shared} {x:V} {u:Value} {k:Ki} (I:Inv X pins σ H s) (h:KiOf X.K H x k) (r:RelV x u):s.TypeIs u k.nm:=by
 cases x with
 | non=>cases h; cases r; rfl
 | bl b=>cases h; cases r; rfl
 | int i=>cases h; obtain ⟨t,rfl⟩:=r; rfl
 | str i=>cases h; obtain ⟨t,rfl⟩:=r; rfl
 | ref a =>
  cases r
  rcases h with ⟨rfl,xs,hq⟩ | ⟨rfl,xs,hq⟩ | ⟨rfl,⟨kvs,hq⟩ | ⟨kvs,hq⟩⟩
  ·obtain ⟨its,_,⟨o,n,e,c,_⟩,_⟩:=I.list hq
   exact ⟨o,e,c⟩
  ·obtain ⟨its,_,⟨o,e,c,_⟩,_⟩:=I.tuple hq
   exact ⟨o,e,c⟩
  ·obtain ⟨_,_,_,_,o,es,ep,e,c,_⟩:=I.hok a _ hq
   exact ⟨o,e,c.1⟩
  ·obtain ⟨_,_,_,_,o,es,ep,e,c,_⟩:=I.hok a _ hq
   exact ⟨o,e,c.1⟩
 | byt _=>cases h
 | flt _=>cases h
 | ty _=>cases h
theorem ki_meta (T:Ki):typeOf (.type T.nm) = pure (.type "type"):=by
 cases T
 ·exact F.isi_meta_NoneType
 ·exact F.isi_meta_bool
 ·exact F.isi_meta_int
 ·exact F.isi_meta_str
 ·exact F.isi_meta_list
 ·exact F.isi_meta_tuple
 ·exact F.isi_meta_dict
theorem ki_sub (k T:Ki):isSubtype (.type k.nm) (.type T.nm) = pure (k.sub T):=by
 cases k <;> cases T <;> (show isSubtype (.type _) (.type _) = pure _; rw [isSubtype_type]; kernel_rfl)
theorem ki_ne (k T:Ki) (h:k.sub T = false):(Value.type k.nm == Value.type T.nm) = false:=by
 cases k <;> cases T <;> first | (exfalso; revert h; decide) | decide +kernel
noncomputable def rIsi (K:PySem.W.Frag):List V -> Hp -> VK -> Prop:=fun xs H Q=>∃ (x:V) (k:Ki) (T:Ki),xs = [x,.ty T.nm] /\ KiOf K H x k /\ Q (.bl (k.sub T)) H
theorem call_isi {X:Cx}:CallR X (.builtin "isinstance") (rIsi X.K):=by
 intro pins s σ H xs us Q I r h
 obtain ⟨x,k,T,rfl,hk,q⟩:=h
 obtain ⟨u,w',rfl,ru,rw'⟩:=vals2 r
 obtain rfl:w' = .type T.nm:=rw'
 have ht:=hk.typeIs I ru
 cases hs:k.sub T with
 | true =>
  rw [hs] at q
  exact call_isinstance (isinstance_true (Tx:=k.nm) (ki_meta T) (by rw [ki_sub,hs])) ⟨ht,.bl true,H,I,rfl,q⟩
 | false =>
  rw [hs] at q
  have hsub:isSubtype (.type k.nm) (.type T.nm) = pure false:=by rw [ki_sub,hs]
  have hne:=ki_ne k T hs
  have fin:EP X pins σ Q (.bool false) { s with toks:=s.toks + 1 }:=⟨.bl false,H,I.tok _,rfl,q⟩
  cases x with
  | non=>cases hk; cases ru; exact call_isinstance (isinstance_false_none hne (ki_meta T) hsub) fin
  | bl b=>cases hk; cases ru; exact call_isinstance (isinstance_false_bool hne (ki_meta T) hsub) fin
  | int i=>cases hk; obtain ⟨t,rfl⟩:=ru; exact call_isinstance (isinstance_false_int hne (ki_meta T) hsub) fin
  | str i=>cases hk; obtain ⟨t,rfl⟩:=ru; exact call_isinstance (isinstance_false_str hne (ki_meta T) hsub) fin
  | ref a =>
   cases ru
   rcases hk with ⟨rfl,_⟩ | ⟨rfl,_⟩ | ⟨rfl,_⟩
   ·exact call_isinstance (isinstance_false_list hne (ki_meta T) hsub) ⟨ht,fin⟩
   ·exact call_isinstance (isinstance_false_tuple hne (ki_meta T) hsub) ⟨ht,fin⟩
   ·exact call_isinstance (isinstance_false_dict hne (ki_meta T) hsub) ⟨ht,fin⟩
  | byt _=>cases hk
  | flt _=>cases hk
  | ty _=>cases hk
noncomputable def rAll (K:PySem.W.Frag):List V -> Hp -> VK -> Prop:=fun xs H Q=>∃ (a:Addr) (bs:List Bool),xs = [.ref a] /\ SqL K H a (bs.map V.bl) /\ Q (.bl (bs.all id)) H
theorem vals_boolAt {bs:List Bool} {us:List Value} (r:Vals (bs.map V.bl) us) (i:Nat) (v:Value) (h:us[i]? = some v):∃ b,bs[i]? = some b /\ v = .bool b:=by
 cases e:bs[i]? with
 | none =>
  have h1:(bs.map V.bl)[i]? = none:=by rw [List.getElem?_map,e]; rfl
  rw [r.none_of h1] at h
  cases h
 | some b =>
  obtain ⟨u,hu,ru⟩:=r.get (i:=i) (x:=.bl b) (by rw [List.getElem?_map,e]; rfl)
  rw [hu] at h
  cases h
  exact ⟨b,rfl,ru⟩
theorem all_range_bs (bs:List Bool):((List.range bs.length).all fun i=>(bs[i]?).getD true) = bs.all id:=by
 rw [Bool.eq_iff_iff,List.all_eq_true,List.all_eq_true]
 constructor
 ·intro h b hb
  obtain ⟨i,hi,e⟩:=List.mem_iff_getElem.mp hb
  have:=h i (List.mem_range.mpr hi)
  rw [List.getElem?_eq_getElem hi,Option.getD_some,e] at this
  exact this
 ·intro h i hi
  have hi:=List.mem_range.mp hi
  rw [List.getElem?_eq_getElem hi,Option.getD_some]
  exact h _ (List.getElem_mem hi)
theorem call_all {X:Cx} (hc:X.calm = true):CallR X (.builtin "all") (rAll X.K):=by
 intro pins s σ H xs us Q I r h
 obtain ⟨a,bs,rfl,hq,q⟩:=h
 obtain ⟨u,rfl,ru⟩:=vals1 r
 cases ru
 obtain ⟨its,rv,p,hz⟩:=I.list hq
 have hl:=p.isList
 have hlt:a < s.heap.objs.size:=by obtain ⟨_,e,_⟩:=hl; exact Heap.lt_size e
 refine call_all_walk (wpAny_pyIter_list hl ?_)
 refine ⟨s.heap.objs.size,[s.heap.objs.size,a],[s.heap.objs.size],its.toArray.size,_,_,fun i=>(bs[i]?).getD true,rfl,Walks.list (A:=X.A.in1) (I.ok.hd hc) _ a (Nat.ne_of_lt hlt) its.toArray,
   ⟨⟨_,Heap.get?_push_size _ rfl,rfl,rfl⟩,hl.push _⟩,fun i v s' Q' E' hP hQ=>?_,fun h' tk hk=>?_⟩
 ·obtain ⟨b,e,rfl⟩:=vals_boolAt rv i v (by simpa using hP)
  simp only [e,Option.getD_some] at hQ
  exact wpAny_truthy_bool hQ
 ·have e:((List.range its.toArray.size).all fun i=>(bs[i]?).getD true) = bs.all id:=by
   have hl2:=rv.length
   rw [List.length_map] at hl2
   rw [List.size_toArray,<- hl2]; exact all_range_bs bs
  rw [e]
  refine ⟨.bl (bs.all id),H,I.kept (h':=h') (t':=tk) fun b o eo=>hk b o (fun hm=>?_) (Heap.get?_push_of_some _ eo),rfl,q⟩
  rw [List.mem_singleton.mp hm] at eo
  exact Nat.lt_irrefl _ (Heap.lt_size eo)
noncomputable def Sq (k:Kd) (K:PySem.W.Frag) (H:Hp) (a:Addr) (xs:List V):Prop:=match k with | .l=>SqL K H a xs | .t=>SqT K H a xs
theorem Inv.sq {X:Cx} {pins:List (Addr × Obj)} {σ:St} {H:Hp} {s:Shared} {k:Kd} {a:Addr} {xs:List V} (I:Inv X pins σ H s) (h:Sq k X.K H a xs):∃ its:List Value,Vals xs its /\ SqAt k s.heap a its.toArray /\ xs.length <= sizeLine:=by
 cases k with
 | l=>obtain ⟨its,r,p,z⟩:=I.list h; exact ⟨its,r,p.isList,z⟩
 | t=>obtain ⟨its,r,p,z⟩:=I.tuple h; exact ⟨its,r,p,z⟩
theorem Inv.sq_inj {X:Cx} {pins:List (Addr × Obj)} {σ:St} {H:Hp} {s:Shared} {k:Kd} {a:Addr} {xs ys:List V} (I:Inv X pins σ H s) (h:Sq k X.K H a xs) (h':Sq k X.K H a ys):xs = ys:=by
 cases k with
 | l=>exact I.list_inj h h'
 | t=>exact I.tuple_inj h h'
noncomputable def Itz2 (K:PySem.W.Frag) (k1:Kd) (k2:Kd) (l1 l2:Addr):It :=
 ⟨fun i H=>∃ ys1 x1 ys2 x2,Sq k1 K H l1 ys1 /\ Sq k2 K H l2 ys2 /\ ys1[i]? = some x1 /\ ys2[i]? = some x2,
  fun i H x H'=>∃ T x1 x2,H T = none /\ x = .ref T /\ H' = upd H T (.tup [x1,x2]) /\ (∀ ys,Sq k1 K H l1 ys -> ys[i]? = some x1) /\ (∀ ys,Sq k2 K H l2 ys -> ys[i]? = some x2),
  fun i H=>∃ ys1 ys2,Sq k1 K H l1 ys1 /\ Sq k2 K H l2 ys2 /\ (ys1.length <= i \/ ys2.length <= i)⟩
theorem turn_zip2 {P:Program} {w:World} {K:PySem.W.Frag} {es:List Expr} {kk:Nat} {pos:Pos} (k1:Kd) (k2:Kd) (z TI TO i1 i2 l1 l2:Addr) (D:ZAp2 z TI TO i1 i2 l1 l2):Turn P w K (.Tuple es kk pos) (Itz2 K k1 k2 l1 l2) [z,TI,TO,i1,i2] z
  (fun i h=>IsZip h z TI TO .none /\ IsTup2 h TI (.ref i1) (.ref i2) /\ (∃ a1 a2,IsTup2 h TO a1 a2) /\ ItAt k1 h i1 l1 i /\ ItAt k2 h i2 l2 i) where
 mem:=by simp
 obj:=fun i h st b hb=>by
  obtain ⟨hz,hTI,⟨a1,a2,hTO⟩,t1,t2⟩:=st
  have hb:b = z \/ b = TI \/ b = TO \/ b = i1 \/ b = i2:=by simpa using hb
  rcases hb with rfl | rfl | rfl | rfl | rfl
  ·exact ⟨_,hz,fun v e=>by cases e⟩
  ·exact ⟨_,hTI,fun v e=>by cases e⟩
  ·exact ⟨_,hTO,fun v e=>by cases e⟩
  ·exact t1.obj
  ·exact t2.obj
 keep:=fun i h h' st k=>by
  obtain ⟨hz,hTI,⟨a1,a2,hTO⟩,t1,t2⟩:=st
  exact ⟨k _ (by simp) _ hz,k _ (by simp) _ hTI,⟨a1,a2,k _ (by simp) _ hTO⟩,t1.at fun o e=>k _ (by simp) _ e,t2.at fun o e=>k _ (by simp) _ e⟩
 item:=by
  intro X hP hw hK hc i pins s σ H E I hf st hg
  subst hP hw hK
  obtain ⟨hz,hTI,⟨a1,a2,hTO⟩,t1,t2⟩:=st
  obtain ⟨ys1,x1,ys2,x2,q1,q2,e1,e2⟩:=hg
  obtain ⟨its1,rv1,p1,z1⟩:=I.sq q1
  obtain ⟨u1,hu1,ru1⟩:=rv1.get e1
  obtain ⟨its2,rv2,p2,z2⟩:=I.sq q2
  obtain ⟨u2,hu2,ru2⟩:=rv2.get e2
  refine next_zip_item2 D hz hTI hTO t1 t2 p1 p2 (show its1.toArray[i]? = some u1 by simpa using hu1) (show its2.toArray[i]? = some u2 by simpa using hu2) fun h' b1 b2 c1 c2 b5 b6 b7=>?_
  have hTn:s.heap.objs.size ≠ z:=Nat.ne_of_gt (Heap.lt_size hz)
  refine ⟨_,rfl,wpAny_letOwnedTupleGo_zip (s:={ s with heap:=h' }) b1 fun h2 hz2 hs2=>?_⟩
  have kp:∀ b o,b ∉ [z,TI,TO,i1,i2] -> s.heap.get? b = some o -> h2.get? b = some o:=fun b o hb e=>by
   have hb:b ≠ z /\ b ≠ TI /\ b ≠ TO /\ b ≠ i1 /\ b ≠ i2:=by simpa using hb
   obtain ⟨g1,g2,g3,f1,f2⟩:=hb
   exact hs2.extBut _ _ g1 (b7 b o g1 g3 f1 f2 e)
  have hTI2:IsTup2 h2 TI (.ref i1) (.ref i2):=hs2.extBut _ _ D.TIz (b7 TI _ D.TIz (Ne.symm D.TOTI) (Ne.symm D.i1TI) (Ne.symm D.i2TI) hTI)
  have hT2:IsTup2 h2 s.heap.objs.size u1 u2:=hs2.extBut _ _ hTn b5
  have hfr:H s.heap.objs.size = none:=I.hok.fresh (Nat.le_refl _)
  have I2:Inv X pins σ (upd H s.heap.objs.size (.tup [x1,x2])) { s with heap:=h2 }:=by
   have nfp:∀ b u,H b = some u -> b ∉ [z,TI,TO,i1,i2]:=fun b u e hb=>by have:=(hf b hb).1; rw [e] at this; cases this
   refine I.step (g':=s.gens) (d':=s.drawn) (ch:=[z,TI,TO,i1,i2]) (fun b hb=>?_) (fun b o _ _ hc' e _=>kp b o hc' e) (fun b o _ _ hc' e _=>⟨o.slots,kp b o hc' e⟩) (fun b o _ e n=>?_)
    (fun b o hc' e=>⟨o,kp b o hc' e⟩) (fun b xs e=>?_) (fun b o xs e=>?_) (fun b ps e=>⟨#[],?_⟩) (fun m hm=>?_) (fun b o e=>?_) I.bare
   ·obtain ⟨f0,f1,f2,f3,f4,f5⟩:=hf b hb
    exact ⟨f3,f1,f4,f5⟩
   ·rw [upd_ne (Nat.ne_of_lt (Heap.lt_size e))]; exact n
   ·rw [upd_ne (ne_of_none e hfr)]; exact e
   ·rw [upd_ne (ne_of_none e hfr)]; exact e
   ·rw [upd_ne (ne_of_none e hfr),e]; simp
   ·obtain ⟨o,es',ep,ho,r⟩:=hm
    exact ⟨o,es',ep,kp _ o (fun hb=>(hf _ hb).2.1 rfl) ho,r⟩
   ·by_cases hb:b = s.heap.objs.size
    ·subst hb
     rw [upd_same] at e
     cases e
     exact ⟨by show 2 <= sizeLine; decide,[u1,u2],.cons ru1 (.cons ru2 .nil),_,hT2,rfl,_,rfl,rfl⟩
    ·rw [upd_ne hb] at e
     refine (I.hok b o e).stay (fun c v hc' q=>kp c v ?_ q) (fun c q=>by rw [upd_ne (ne_of_none q hfr)]; exact q) fun c xs q=>by rw [upd_ne (ne_of_none q hfr)]; exact q
     rcases hc' with rfl | hc'
     ·exact nfp _ _ e
     ·exact nfp _ _ hc'
  refine ⟨.ref s.heap.objs.size,_,I2,rfl,⟨_,x1,x2,hfr,rfl,rfl,(fun ys hy=>by rw [I.sq_inj hy q1]; exact e1),(fun ys hy=>by rw [I.sq_inj hy q2]; exact e2)⟩,⟨hz2,hTI2,⟨u1,u2,hs2.extBut _ _ D.TOz b2⟩,c1.at fun o e=>hs2.extBut _ _ D.i1z e,c2.at fun o e=>hs2.extBut _ _ D.i2z e⟩,fun b hb=>?_⟩
  rw [upd_ne ?_]
  ·exact (hf b hb).1
  ·intro e
   subst e
   have hb:s.heap.objs.size = z \/ s.heap.objs.size = TI \/ s.heap.objs.size = TO \/ s.heap.objs.size = i1 \/ s.heap.objs.size = i2:=by simpa using hb
   rcases hb with e | e | e | e | e
   ·exact hTn e
   ·exact Nat.ne_of_gt (Heap.lt_size hTI) e
   ·exact Nat.ne_of_gt (Heap.lt_size hTO) e
   ·obtain ⟨o,eo,_⟩:=t1.obj
    exact Nat.ne_of_gt (Heap.lt_size eo) e
   ·obtain ⟨o,eo,_⟩:=t2.obj
    exact Nat.ne_of_gt (Heap.lt_size eo) e
 done:=by
  intro X hP hw hK hc i pins s σ H E I hf st hg
  subst hP hw hK
  obtain ⟨hz,hTI,⟨a1,a2,hTO⟩,t1,t2⟩:=st
  obtain ⟨ys1,ys2,q1,q2,hend⟩:=hg
  obtain ⟨its1,rv1,p1,z1⟩:=I.sq q1
  have len1:=rv1.length
  obtain ⟨its2,rv2,p2,z2⟩:=I.sq q2
  have len2:=rv2.length
  refine next_zip_end2 (I.ok.hd hc) D hz hTI hTO t1 t2 p1 p2 ?_ fun h' kp=>⟨rfl,?_⟩
  ·rcases hend with h | h
   ·exact .inl (by simp; omega)
   ·exact .inr (by simp; omega)
  ·have nfp:∀ b u,H b = some u -> b ∉ [z,TI,TO,i1,i2]:=fun b u e hb=>by have:=(hf b hb).1; rw [e] at this; cases this
   have kp':∀ b o,b ∉ [z,TI,TO,i1,i2] -> s.heap.get? b = some o -> h'.get? b = some o:=fun b o hb e=>by
    have hb:b ≠ z /\ b ≠ TI /\ b ≠ TO /\ b ≠ i1 /\ b ≠ i2:=by simpa using hb
    obtain ⟨g1,g2,g3,f1,f2⟩:=hb
    exact kp b o g1 g3 f1 f2 e
   refine I.step (g':=s.gens) (d':=s.drawn) (ch:=[z,TI,TO,i1,i2]) (fun b hb=>?_) (fun b o _ _ hc' e _=>kp' b o hc' e) (fun b o _ _ hc' e _=>⟨o.slots,kp' b o hc' e⟩) (fun b o _ e n=>n)
    (fun b o hc' e=>⟨o,kp' b o hc' e⟩) (fun b xs e=>e) (fun b o xs e=>e) (fun b ps e=>⟨#[],by rw [e]; simp⟩) (fun m hm=>?_) (fun b o e=>?_) I.bare
   ·obtain ⟨f0,f1,f2,f3,f4,f5⟩:=hf b hb
    exact ⟨f3,f1,f4,f5⟩
   ·obtain ⟨o,es',ep,ho,r⟩:=hm
    exact ⟨o,es',ep,kp' _ o (fun hb=>(hf _ hb).2.1 rfl) ho,r⟩
   ·refine (I.hok b o e).stay (fun c v hc' q=>kp' c v ?_ q) (fun _ q=>q) fun _ _ q=>q
    rcases hc' with rfl | hc'
    ·exact nfp _ _ e
    ·exact nfp _ _ hc'
 self:=fun _ _ _ _ _ st h=>wpAny_pyIter_zip st.1 h
noncomputable def Itz3 (K:PySem.W.Frag) (k1:Kd) (k2:Kd) (k3:Kd) (l1 l2 l3:Addr):It :=
 ⟨fun i H=>∃ ys1 x1 ys2 x2 ys3 x3,Sq k1 K H l1 ys1 /\ Sq k2 K H l2 ys2 /\ Sq k3 K H l3 ys3 /\ ys1[i]? = some x1 /\ ys2[i]? = some x2 /\ ys3[i]? = some x3,
  fun i H x H'=>∃ T x1 x2 x3,H T = none /\ x = .ref T /\ H' = upd H T (.tup [x1,x2,x3]) /\ (∀ ys,Sq k1 K H l1 ys -> ys[i]? = some x1) /\ (∀ ys,Sq k2 K H l2 ys -> ys[i]? = some x2) /\ (∀ ys,Sq k3 K H l3 ys -> ys[i]? = some x3),
  fun i H=>∃ ys1 ys2 ys3,Sq k1 K H l1 ys1 /\ Sq k2 K H l2 ys2 /\ Sq k3 K H l3 ys3 /\ (ys1.length <= i \/ ys2.length <= i \/ ys3.length <= i)⟩
theorem turn_zip3 {P:Program} {w:World} {K:PySem.W.Frag} {es:List Expr} {kk:Nat} {pos:Pos} (k1:Kd) (k2:Kd) (k3:Kd) (z TI TO i1 i2 i3 l1 l2 l3:Addr) (D:ZAp3 z TI TO i1 i2 i3 l1 l2 l3):Turn P w K (.Tuple es kk pos) (Itz3 K k1 k2 k3 l1 l2 l3) [z,TI,TO,i1,i2,i3] z
  (fun i h=>IsZip h z TI TO .none /\ IsTup3 h TI (.ref i1) (.ref i2) (.ref i3) /\ (∃ a1 a2 a3,IsTup3 h TO a1 a2 a3) /\ ItAt k1 h i1 l1 i /\ ItAt k2 h i2 l2 i /\ ItAt k3 h i3 l3 i) where
 mem:=by simp
 obj:=fun i h st b hb=>by
  obtain ⟨hz,hTI,⟨a1,a2,a3,hTO⟩,t1,t2,t3⟩:=st
  have hb:b = z \/ b = TI \/ b = TO \/ b = i1 \/ b = i2 \/ b = i3:=by simpa using hb
  rcases hb with rfl | rfl | rfl | rfl | rfl | rfl
  ·exact ⟨_,hz,fun v e=>by cases e⟩
  ·exact ⟨_,hTI,fun v e=>by cases e⟩
  ·exact ⟨_,hTO,fun v e=>by cases e⟩
  ·exact t1.obj
  ·exact t2.obj
  ·exact t3.obj
 keep:=fun i h h' st k=>by
  obtain ⟨hz,hTI,⟨a1,a2,a3,hTO⟩,t1,t2,t3⟩:=st
  exact ⟨k _ (by simp) _ hz,k _ (by simp) _ hTI,⟨a1,a2,a3,k _ (by simp) _ hTO⟩,t1.at fun o e=>k _ (by simp) _ e,t2.at fun o e=>k _ (by simp) _ e,t3.at fun o e=>k _ (by simp) _ e⟩
 item:=by
  intro X hP hw hK hc i pins s σ H E I hf st hg
  subst hP hw hK
  obtain ⟨hz,hTI,⟨a1,a2,a3,hTO⟩,t1,t2,t3⟩:=st
  obtain ⟨ys1,x1,ys2,x2,ys3,x3,q1,q2,q3,e1,e2,e3⟩:=hg
  obtain ⟨its1,rv1,p1,z1⟩:=I.sq q1
  obtain ⟨u1,hu1,ru1⟩:=rv1.get e1
  obtain ⟨its2,rv2,p2,z2⟩:=I.sq q2
  obtain ⟨u2,hu2,ru2⟩:=rv2.get e2
  obtain ⟨its3,rv3,p3,z3⟩:=I.sq q3
  obtain ⟨u3,hu3,ru3⟩:=rv3.get e3
  refine next_zip_item3 D hz hTI hTO t1 t2 t3 p1 p2 p3 (show its1.toArray[i]? = some u1 by simpa using hu1) (show its2.toArray[i]? = some u2 by simpa using hu2) (show its3.toArray[i]? = some u3 by simpa using hu3) fun h' b1 b2 c1 c2 c3 b5 b6 b7=>?_
  have hTn:s.heap.objs.size ≠ z:=Nat.ne_of_gt (Heap.lt_size hz)
  refine ⟨_,rfl,wpAny_letOwnedTupleGo_zip (s:={ s with heap:=h' }) b1 fun h2 hz2 hs2=>?_⟩
  have kp:∀ b o,b ∉ [z,TI,TO,i1,i2,i3] -> s.heap.get? b = some o -> h2.get? b = some o:=fun b o hb e=>by
   have hb:b ≠ z /\ b ≠ TI /\ b ≠ TO /\ b ≠ i1 /\ b ≠ i2 /\ b ≠ i3:=by simpa using hb
   obtain ⟨g1,g2,g3,f1,f2,f3⟩:=hb
   exact hs2.extBut _ _ g1 (b7 b o g1 g3 f1 f2 f3 e)
  have hTI2:IsTup3 h2 TI (.ref i1) (.ref i2) (.ref i3):=hs2.extBut _ _ D.TIz (b7 TI _ D.TIz (Ne.symm D.TOTI) (Ne.symm D.i1TI) (Ne.symm D.i2TI) (Ne.symm D.i3TI) hTI)
  have hT2:IsTup3 h2 s.heap.objs.size u1 u2 u3:=hs2.extBut _ _ hTn b5
  have hfr:H s.heap.objs.size = none:=I.hok.fresh (Nat.le_refl _)
  have I2:Inv X pins σ (upd H s.heap.objs.size (.tup [x1,x2,x3])) { s with heap:=h2 }:=by
   have nfp:∀ b u,H b = some u -> b ∉ [z,TI,TO,i1,i2,i3]:=fun b u e hb=>by have:=(hf b hb).1; rw [e] at this; cases this
   refine I.step (g':=s.gens) (d':=s.drawn) (ch:=[z,TI,TO,i1,i2,i3]) (fun b hb=>?_) (fun b o _ _ hc' e _=>kp b o hc' e) (fun b o _ _ hc' e _=>⟨o.slots,kp b o hc' e⟩) (fun b o _ e n=>?_)
    (fun b o hc' e=>⟨o,kp b o hc' e⟩) (fun b xs e=>?_) (fun b o xs e=>?_) (fun b ps e=>⟨#[],?_⟩) (fun m hm=>?_) (fun b o e=>?_) I.bare
   ·obtain ⟨f0,f1,f2,f3,f4,f5⟩:=hf b hb
    exact ⟨f3,f1,f4,f5⟩
   ·rw [upd_ne (Nat.ne_of_lt (Heap.lt_size e))]; exact n
   ·rw [upd_ne (ne_of_none e hfr)]; exact e
   ·rw [upd_ne (ne_of_none e hfr)]; exact e
   ·rw [upd_ne (ne_of_none e hfr),e]; simp
   ·obtain ⟨o,es',ep,ho,r⟩:=hm
    exact ⟨o,es',ep,kp _ o (fun hb=>(hf _ hb).2.1 rfl) ho,r⟩
   ·by_cases hb:b = s.heap.objs.size
    ·subst hb
     rw [upd_same] at e
     cases e
     exact ⟨by show 3 <= sizeLine; decide,[u1,u2,u3],.cons ru1 (.cons ru2 (.cons ru3 .nil)),_,hT2,rfl,_,rfl,rfl⟩
    ·rw [upd_ne hb] at e
     refine (I.hok b o e).stay (fun c v hc' q=>kp c v ?_ q) (fun c q=>by rw [upd_ne (ne_of_none q hfr)]; exact q) fun c xs q=>by rw [upd_ne (ne_of_none q hfr)]; exact q
     rcases hc' with rfl | hc'
     ·exact nfp _ _ e
     ·exact nfp _ _ hc'
  refine ⟨.ref s.heap.objs.size,_,I2,rfl,⟨_,x1,x2,x3,hfr,rfl,rfl,(fun ys hy=>by rw [I.sq_inj hy q1]; exact e1),(fun ys hy=>by rw [I.sq_inj hy q2]; exact e2),(fun ys hy=>by rw [I.sq_inj hy q3]; exact e3)⟩,⟨hz2,hTI2,⟨u1,u2,u3,hs2.extBut _ _ D.TOz b2⟩,c1.at fun o e=>hs2.extBut _ _ D.i1z e,c2.at fun o e=>hs2.extBut _ _ D.i2z e,c3.at fun o e=>hs2.extBut _ _ D.i3z e⟩,fun b hb=>?_⟩
  rw [upd_ne ?_]
  ·exact (hf b hb).1
  ·intro e
   subst e
   have hb:s.heap.objs.size = z \/ s.heap.objs.size = TI \/ s.heap.objs.size = TO \/ s.heap.objs.size = i1 \/ s.heap.objs.size = i2 \/ s.heap.objs.size = i3:=by simpa using hb
   rcases hb with e | e | e | e | e | e
   ·exact hTn e
   ·exact Nat.ne_of_gt (Heap.lt_size hTI) e
   ·exact Nat.ne_of_gt (Heap.lt_size hTO) e
   ·obtain ⟨o,eo,_⟩:=t1.obj
    exact Nat.ne_of_gt (Heap.lt_size eo) e
   ·obtain ⟨o,eo,_⟩:=t2.obj
    exact Nat.ne_of_gt (Heap.lt_size eo) e
   ·obtain ⟨o,eo,_⟩:=t3.obj
    exact Nat.ne_of_gt (Heap.lt_size eo) e
 done:=by
  intro X hP hw hK hc i pins s σ H E I hf st hg
  subst hP hw hK
  obtain ⟨hz,hTI,⟨a1,a2,a3,hTO⟩,t1,t2,t3⟩:=st
  obtain ⟨ys1,ys2,ys3,q1,q2,q3,hend⟩:=hg
  obtain ⟨its1,rv1,p1,z1⟩:=I.sq q1
  have len1:=rv1.length
  obtain ⟨its2,rv2,p2,z2⟩:=I.sq q2
  have len2:=rv2.length
  obtain ⟨its3,rv3,p3,z3⟩:=I.sq q3
  have len3:=rv3.length
  refine next_zip_end3 (I.ok.hd hc) D hz hTI hTO t1 t2 t3 p1 p2 p3 ?_ fun h' kp=>⟨rfl,?_⟩
  ·rcases hend with h | h | h
   ·exact .inl (by simp; omega)
   ·exact .inr (.inl (by simp; omega))
   ·exact .inr (.inr (by simp; omega))
  ·have nfp:∀ b u,H b = some u -> b ∉ [z,TI,TO,i1,i2,i3]:=fun b u e hb=>by have:=(hf b hb).1; rw [e] at this; cases this
   have kp':∀ b o,b ∉ [z,TI,TO,i1,i2,i3] -> s.heap.get? b = some o -> h'.get? b = some o:=fun b o hb e=>by
    have hb:b ≠ z /\ b ≠ TI /\ b ≠ TO /\ b ≠ i1 /\ b ≠ i2 /\ b ≠ i3:=by simpa using hb
    obtain ⟨g1,g2,g3,f1,f2,f3⟩:=hb
    exact kp b o g1 g3 f1 f2 f3 e
   refine I.step (g':=s.gens) (d':=s.drawn) (ch:=[z,TI,TO,i1,i2,i3]) (fun b hb=>?_) (fun b o _ _ hc' e _=>kp' b o hc' e) (fun b o _ _ hc' e _=>⟨o.slots,kp' b o hc' e⟩) (fun b o _ e n=>n)
    (fun b o hc' e=>⟨o,kp' b o hc' e⟩) (fun b xs e=>e) (fun b o xs e=>e) (fun b ps e=>⟨#[],by rw [e]; simp⟩) (fun m hm=>?_) (fun b o e=>?_) I.bare
   ·obtain ⟨f0,f1,f2,f3,f4,f5⟩:=hf b hb
    exact ⟨f3,f1,f4,f5⟩
   ·obtain ⟨o,es',ep,ho,r⟩:=hm
    exact ⟨o,es',ep,kp' _ o (fun hb=>(hf _ hb).2.1 rfl) ho,r⟩
   ·refine (I.hok b o e).stay (fun c v hc' q=>kp' c v ?_ q) (fun _ q=>q) fun _ _ q=>q
    rcases hc' with rfl | hc'
    ·exact nfp _ _ e
    ·exact nfp _ _ hc'
 self:=fun _ _ _ _ _ st h=>wpAny_pyIter_zip st.1 h
end L2
namespace L2
open PySem PySem.Spec PyProof.Rows
noncomputable def iZip2 (K:PySem.W.Frag) (ta:TA):TI:=fun σ H R=>ta σ H fun vs H1=>∃ (k1:Kd) (l1:Addr) (ys1:List V) (k2:Kd) (l2:Addr) (ys2:List V),vs = [.ref l1,.ref l2] /\ Sq k1 K H1 l1 ys1 /\ Sq k2 K H1 l2 ys2 /\ R (Itz2 K k1 k2 l1 l2) H1
theorem pi_zip2 {X:Cx} {es:List Expr} {kk:Nat} {tpos:Pos} {a b:Expr} {ta:TA} {p pos:Pos} (hg:Gl X "zip") (hm:X.mg "zip" = none) (ha:PA X [a,b] ta) (hs:starEach [a,b] X.env = (false,eval a X.env) :: starEach [b] X.env:=by rfl) (hpl:(backTo pos (starEach [b] X.env)).any (·.1) = false:=by rfl) :
  PI X (.Tuple es kk tpos) (.Call (.Name "zip" p) [a,b] [] pos) (iZip2 X.K ta):=by
 intro pins s σ H R I h
 refine Call_ (ld_blt I hg hm boot_zip (PyProof.Rows.callWith_type1 (thn (ha pos pins s σ H _ I h) fun us s1 ⟨vs,H1,I1,r1,q1⟩=>?_) hs hpl))
 obtain ⟨k1,l1,ys1,k2,l2,ys2,e,q1,q2,q⟩:=q1
 subst e
 obtain rfl:us = [.ref l1,.ref l2]:=by
  cases r1 with | cons r rr=>cases r; cases rr with | cons r rr=>cases r; cases rr; rfl
 obtain ⟨its1,rv1,p1,z1⟩:=I1.sq q1
 obtain ⟨its2,rv2,p2,z2⟩:=I1.sq q2
 have lt:∀ {k:Kd} {l:Addr} {xs:Array Value},SqAt k s1.heap l xs -> l < s1.heap.objs.size:=fun {k l xs} p=>by
  cases k with
  | l=>obtain ⟨o,e,_⟩:=p; exact Heap.lt_size e
  | t=>obtain ⟨o,e,_⟩:=p; exact Heap.lt_size e
 refine callType_new F.called_zip (by decide) (F.typeCall_zip_2 _ _) (F.newCall_zip_2 _ _) (fun obj=>F.args_object_init_3 obj _ _) F.entry_zip_new (zip_new2 k1 k2 l1 l2 its1.toArray its2.toArray) ⟨p1,p2,?_⟩
 have zI:(zh2I s1.heap k1 k2 l1 l2).objs.size = s1.heap.objs.size + 2:=by simp [Heap.size_push]
 have zT:(zh2T s1.heap k1 k2 l1 l2).objs.size = s1.heap.objs.size + 3:=by simp [Heap.size_push]
 have zO:(zh2O s1.heap k1 k2 l1 l2).objs.size = s1.heap.objs.size + 4:=by simp [Heap.size_push]
 have gZ:(zh2Z s1.heap k1 k2 l1 l2).get? (zh2O s1.heap k1 k2 l1 l2).objs.size = some _:=Heap.get?_push_size _ rfl
 have gO:(zh2Z s1.heap k1 k2 l1 l2).get? (zh2T s1.heap k1 k2 l1 l2).objs.size = some _:=Heap.get?_push_of_some _ (Heap.get?_push_size _ rfl)
 have gT:(zh2Z s1.heap k1 k2 l1 l2).get? (zh2I s1.heap k1 k2 l1 l2).objs.size = some _:=Heap.get?_push_of_some _ (Heap.get?_push_of_some _ (Heap.get?_push_size _ rfl))
 have g1:(zh2Z s1.heap k1 k2 l1 l2).get? s1.heap.objs.size = some (itObj k1 l1):=Heap.get?_push_of_some _ (Heap.get?_push_of_some _ (Heap.get?_push_of_some _ (Heap.get?_push_of_some _ (Heap.get?_push_size _ (by cases k1 <;> rfl)))))
 have g2:(zh2Z s1.heap k1 k2 l1 l2).get? (s1.heap.push (itObj k1 l1)).objs.size = some (itObj k2 l2):=Heap.get?_push_of_some _ (Heap.get?_push_of_some _ (Heap.get?_push_of_some _ (Heap.get?_push_size _ (by cases k2 <;> rfl))))
 have zz2:(s1.heap.push (itObj k1 l1)).objs.size = s1.heap.objs.size + 1:=by simp [Heap.size_push]
 rw [zO,zT,zI] at gZ
 rw [zI,zz2] at gT
 rw [zT] at gO
 rw [zz2] at g2
 show _ /\ _
 rw [zO]
 have kp:∀ b o,s1.heap.get? b = some o -> (zh2Z s1.heap k1 k2 l1 l2).get? b = some o:=fun b o e=>Heap.get?_push_of_some _ (Heap.get?_push_of_some _ (Heap.get?_push_of_some _ (Heap.get?_push_of_some _ (Heap.get?_push_of_some _ (e)))))
 refine ⟨⟨_,gZ,rfl⟩,wpAny_pyIter_zip (s:={ s1 with heap:=zh2Z s1.heap k1 k2 l1 l2 }) gZ ?_⟩
 refine ⟨_,[s1.heap.objs.size + 4,s1.heap.objs.size + 2,s1.heap.objs.size + 3,s1.heap.objs.size,s1.heap.objs.size + 1],_,_,H1,rfl,I1.kept (t':=s1.toks) kp,turn_zip2 k1 k2 _ _ _ _ _ l1 l2 (zap2 _ l1 l2 (lt p1) (lt p2)),⟨gZ,gT,⟨_,_,gO⟩,ItAt.new k1 g1,ItAt.new k2 g2⟩,fun b hb=>?_,q⟩
 have hb:s1.heap.objs.size <= b:=by
  have hb:b = s1.heap.objs.size + 4 \/ b = s1.heap.objs.size + 2 \/ b = s1.heap.objs.size + 3 \/ b = s1.heap.objs.size \/ b = s1.heap.objs.size + 1:=by simpa using hb
  rcases hb with rfl | rfl | rfl | rfl | rfl
  all_goals first | exact Nat.le_add_right _ _ | exact Nat.le_refl _
 exact I1.fpOk hb (I1.hok.fresh hb)
noncomputable def iZip3 (K:PySem.W.Frag) (ta:TA):TI:=fun σ H R=>ta σ H fun vs H1=>∃ (k1:Kd) (l1:Addr) (ys1:List V) (k2:Kd) (l2:Addr) (ys2:List V) (k3:Kd) (l3:Addr) (ys3:List V),vs = [.ref l1,.ref l2,.ref l3] /\ Sq k1 K H1 l1 ys1 /\ Sq k2 K H1 l2 ys2 /\ Sq k3 K H1 l3 ys3 /\ R (Itz3 K k1 k2 k3 l1 l2 l3) H1
theorem typeCall_zip_3 (a b c:Value):checkTypeCall "zip" ⟨[a,b,c],[]⟩ = pure ():=by kernel_rfl
theorem newCall_zip_3 (a b c:Value):checkBuiltinCall "zip.__new__" ⟨[.type "zip",a,b,c],[]⟩ = pure ():=by kernel_rfl
theorem args_object_init_4 (a b c d:Value):argsOk "object.__init__" ⟨[a,b,c,d],[]⟩:=by
 unfold argsOk; rw [signature?_of (id:="object.__init__") (n:=['_','_','t','i','n','i','_','_']) (o:=['t','c','e','j','b','o']) (by kernel_rfl) F.owner_object]; kernel_rfl
theorem pi_zip3 {X:Cx} {es:List Expr} {kk:Nat} {tpos:Pos} {a b c:Expr} {ta:TA} {p pos:Pos} (hg:Gl X "zip") (hm:X.mg "zip" = none) (ha:PA X [a,b,c] ta) (hs:starEach [a,b,c] X.env = (false,eval a X.env) :: starEach [b,c] X.env:=by rfl) (hpl:(backTo pos (starEach [b,c] X.env)).any (·.1) = false:=by rfl) :
  PI X (.Tuple es kk tpos) (.Call (.Name "zip" p) [a,b,c] [] pos) (iZip3 X.K ta):=by
 intro pins s σ H R I h
 refine Call_ (ld_blt I hg hm boot_zip (PyProof.Rows.callWith_type1 (thn (ha pos pins s σ H _ I h) fun us s1 ⟨vs,H1,I1,r1,q1⟩=>?_) hs hpl))
 obtain ⟨k1,l1,ys1,k2,l2,ys2,k3,l3,ys3,e,q1,q2,q3,q⟩:=q1
 subst e
 obtain rfl:us = [.ref l1,.ref l2,.ref l3]:=by
  cases r1 with | cons r rr=>cases r; cases rr with | cons r rr=>cases r; cases rr with | cons r rr=>cases r; cases rr; rfl
 obtain ⟨its1,rv1,p1,z1⟩:=I1.sq q1
 obtain ⟨its2,rv2,p2,z2⟩:=I1.sq q2
 obtain ⟨its3,rv3,p3,z3⟩:=I1.sq q3
 have lt:∀ {k:Kd} {l:Addr} {xs:Array Value},SqAt k s1.heap l xs -> l < s1.heap.objs.size:=fun {k l xs} p=>by
  cases k with
  | l=>obtain ⟨o,e,_⟩:=p; exact Heap.lt_size e
  | t=>obtain ⟨o,e,_⟩:=p; exact Heap.lt_size e
 refine callType_new F.called_zip (by decide) (typeCall_zip_3 _ _ _) (newCall_zip_3 _ _ _) (fun obj=>args_object_init_4 obj _ _ _) F.entry_zip_new (zip_new3 k1 k2 k3 l1 l2 l3 its1.toArray its2.toArray its3.toArray) ⟨p1,p2,p3,?_⟩
 have zI:(zh3I s1.heap k1 k2 k3 l1 l2 l3).objs.size = s1.heap.objs.size + 3:=by simp [Heap.size_push]
 have zT:(zh3T s1.heap k1 k2 k3 l1 l2 l3).objs.size = s1.heap.objs.size + 4:=by simp [Heap.size_push]
 have zO:(zh3O s1.heap k1 k2 k3 l1 l2 l3).objs.size = s1.heap.objs.size + 5:=by simp [Heap.size_push]
 have gZ:(zh3Z s1.heap k1 k2 k3 l1 l2 l3).get? (zh3O s1.heap k1 k2 k3 l1 l2 l3).objs.size = some _:=Heap.get?_push_size _ rfl
 have gO:(zh3Z s1.heap k1 k2 k3 l1 l2 l3).get? (zh3T s1.heap k1 k2 k3 l1 l2 l3).objs.size = some _:=Heap.get?_push_of_some _ (Heap.get?_push_size _ rfl)
 have gT:(zh3Z s1.heap k1 k2 k3 l1 l2 l3).get? (zh3I s1.heap k1 k2 k3 l1 l2 l3).objs.size = some _:=Heap.get?_push_of_some _ (Heap.get?_push_of_some _ (Heap.get?_push_size _ rfl))
 have g1:(zh3Z s1.heap k1 k2 k3 l1 l2 l3).get? s1.heap.objs.size = some (itObj k1 l1):=Heap.get?_push_of_some _ (Heap.get?_push_of_some _ (Heap.get?_push_of_some _ (Heap.get?_push_of_some _ (Heap.get?_push_of_some _ (Heap.get?_push_size _ (by cases k1 <;> rfl))))))
 have g2:(zh3Z s1.heap k1 k2 k3 l1 l2 l3).get? (s1.heap.push (itObj k1 l1)).objs.size = some (itObj k2 l2):=Heap.get?_push_of_some _ (Heap.get?_push_of_some _ (Heap.get?_push_of_some _ (Heap.get?_push_of_some _ (Heap.get?_push_size _ (by cases k2 <;> rfl)))))
 have zz2:(s1.heap.push (itObj k1 l1)).objs.size = s1.heap.objs.size + 1:=by simp [Heap.size_push]
 have g3:(zh3Z s1.heap k1 k2 k3 l1 l2 l3).get? ((s1.heap.push (itObj k1 l1)).push (itObj k2 l2)).objs.size = some (itObj k3 l3):=Heap.get?_push_of_some _ (Heap.get?_push_of_some _ (Heap.get?_push_of_some _ (Heap.get?_push_size _ (by cases k3 <;> rfl))))
 have zz3:((s1.heap.push (itObj k1 l1)).push (itObj k2 l2)).objs.size = s1.heap.objs.size + 2:=by simp [Heap.size_push]
 rw [zO,zT,zI] at gZ
 rw [zI,zz2,zz3] at gT
 rw [zT] at gO
 rw [zz2] at g2
 rw [zz3] at g3
 show _ /\ _
 rw [zO]
 have kp:∀ b o,s1.heap.get? b = some o -> (zh3Z s1.heap k1 k2 k3 l1 l2 l3).get? b = some o:=fun b o e=>Heap.get?_push_of_some _ (Heap.get?_push_of_some _ (Heap.get?_push_of_some _ (Heap.get?_push_of_some _ (Heap.get?_push_of_some _ (Heap.get?_push_of_some _ (e))))))
 refine ⟨⟨_,gZ,rfl⟩,wpAny_pyIter_zip (s:={ s1 with heap:=zh3Z s1.heap k1 k2 k3 l1 l2 l3 }) gZ ?_⟩
 refine ⟨_,[s1.heap.objs.size + 5,s1.heap.objs.size + 3,s1.heap.objs.size + 4,s1.heap.objs.size,s1.heap.objs.size + 1,s1.heap.objs.size + 2],_,_,H1,rfl,I1.kept (t':=s1.toks) kp,turn_zip3 k1 k2 k3 _ _ _ _ _ _ l1 l2 l3 (zap3 _ l1 l2 l3 (lt p1) (lt p2) (lt p3)),⟨gZ,gT,⟨_,_,_,gO⟩,ItAt.new k1 g1,ItAt.new k2 g2,ItAt.new k3 g3⟩,fun b hb=>?_,q⟩
 have hb:s1.heap.objs.size <= b:=by
  have hb:b = s1.heap.objs.size + 5 \/ b = s1.heap.objs.size + 3 \/ b = s1.heap.objs.size + 4 \/ b = s1.heap.objs.size \/ b = s1.heap.objs.size + 1 \/ b = s1.heap.objs.size + 2:=by simpa using hb
  rcases hb with rfl | rfl | rfl | rfl | rfl | rfl
  all_goals first | exact Nat.le_add_right _ _ | exact Nat.le_refl _
 exact I1.fpOk hb (I1.hok.fresh hb)
noncomputable def rInsert:V -> List V -> Hp -> VK -> Prop:=fun x vs H Q=>∃ (l:Addr) (xs:List V) (i:Int) (y:V),x = .ref l /\ vs = [.int i,y] /\ H l = some (.lst xs) /\ xs.length < sizeLine /\ 0 <= i /\ i <= xs.length /\ Q .non (upd H l (.lst (xs.take i.toNat ++ y :: xs.drop i.toNat)))
theorem mt_insert {X:Cx}:MtM X "list.insert" rInsert:=by
 intro pins s σ H x vs v us Q I rx rv h
 obtain ⟨l,xs,i,y,rfl,rfl,hH,hz,h0,h1,q⟩:=h
 cases rx
 obtain ⟨u,w',rfl,ru,rw'⟩:=vals2 rv
 obtain ⟨t,rfl⟩:=ru
 obtain ⟨z,its,n,r,hl,e⟩:=I.lstM hH
 have hs:xs.length <= 16777216:=z
 have hf:¬ (!Builtin.List.listFitsIndex i) = true:=by
  have:Builtin.List.listFitsIndex i = true:=by
   unfold Builtin.List.listFitsIndex
   simp only [decide_eq_true_eq,Bool.and_eq_true]
   constructor <;> omega
  rw [this]; decide
 refine call_meets F.slot_list_insert ⟨_,e,rfl⟩ F.entry_list_insert (F.args_list_insert_3 _ _ _) (AutoSeq1.list_insert_list_int_val_1 l its.toArray n i t w' hf (by rw [List.size_toArray]; omega)) ⟨e,?_⟩
 refine ⟨.non,_,I.lset (its':=its.take i.toNat ++ w' :: its.drop i.toNat) hH e ?_ ((r.take _).append (.cons rw' (r.drop _))) ?_,rfl,q⟩
 ·have hi:¬ i < 0:=by omega
  have hm:min i.toNat its.length = i.toNat:=by omega
  simp only [hi,if_false,List.size_toArray,hm]
  apply Array.ext'
  simp [List.extract_eq_take_drop]
  rw [List.take_of_length_le (by simp)]
 ·rw [List.length_append,List.length_cons,List.length_take,List.length_drop]
  omega
mutual
inductive Is (K:PySem.W.Frag) (H:Hp):V -> PyData -> Prop
 | non:Is K H .non .none
 | bl (b):Is K H (.bl b) (.bool b)
 | int (i):Is K H (.int i) (.int i)
 | str (x):Is K H (.str x) (.str x)
 | lst {a xs ds}:SqL K H a xs -> IsAll K H xs ds -> Is K H (.ref a) (.list ds)
 | tup {a xs ds}:SqT K H a xs -> IsAll K H xs ds -> Is K H (.ref a) (.tuple ds)
inductive IsAll (K:PySem.W.Frag) (H:Hp):List V -> List PyData -> Prop
 | nil:IsAll K H [] []
 | cons {x xs d ds}:Is K H x d -> IsAll K H xs ds -> IsAll K H (x :: xs) (d :: ds)
end
section
variable {X:Cx} {pins:List (Addr × Obj)} {σ:St} {H:Hp} {s:Shared}
mutual
theorem Is.reads (I:Inv X pins σ H s):∀ {x:V} {d:PyData} {u:Value},Is X.K H x d -> RelV x u -> ∃ as,Reads s.heap u d as
 | _,_,_,.non,r=>by cases r; exact ⟨_,.none⟩
 | _,_,_,.bl b,r=>by cases r; exact ⟨_,.bool b⟩
 | _,_,_,.int i,r=>by obtain ⟨t,rfl⟩:=r; exact ⟨_,.int i t⟩
 | _,_,_,.str x,r=>by obtain ⟨t,rfl⟩:=r; exact ⟨_,.str x t⟩
 | _,_,_,.lst hq ha,r=>by
  cases r
  obtain ⟨its,rv,⟨o,n,e,c,d,q⟩,z⟩:=I.list hq
  obtain ⟨as,hr⟩:=IsAll.reads I ha rv
  exact ⟨_,.list e c q (by simpa using hr)⟩
 | _,_,_,.tup hq ha,r=>by
  cases r
  obtain ⟨its,rv,⟨o,e,c,n,q⟩,z⟩:=I.tuple hq
  obtain ⟨as,hr⟩:=IsAll.reads I ha rv
  exact ⟨_,.tuple e c q (by simpa using hr)⟩
theorem IsAll.reads (I:Inv X pins σ H s):∀ {xs:List V} {ds:List PyData} {us:List Value},IsAll X.K H xs ds -> Vals xs us -> ∃ as,ReadsAll s.heap us ds as
 | _,_,_,.nil,.nil=>⟨_,.nil⟩
 | _,_,_,.cons h t,.cons r rr=>by
  obtain ⟨as,a⟩:=Is.reads I h r
  obtain ⟨bs,b⟩:=IsAll.reads I t rr
  exact ⟨_,.cons a b⟩
end
end
open PySem.SeqAt in
noncomputable def rEqD (K:PySem.W.Frag) (neg:Bool):R2:=fun x y H Q=>∃ d e:PyData,Is K H x d /\ Is K H y e /\ shaped d = true /\ shaped e = true /\ noMix d e = true /\ Q (.bl (if neg then !same d e else same d e)) H
theorem op_eqD {X:Cx} (hu:X.A.units + 64 < cLine):OpR X (compareOp .Eq) (rEqD X.K false):=by
 intro pins s σ H x y v u Q I r1 r2 h
 obtain ⟨d,e,i1,i2,s1,s2,nm,q⟩:=h
 obtain ⟨as,a⟩:=i1.reads I r1
 obtain ⟨bs,b⟩:=i2.reads I r2
 exact eq_dataH_same a b s1 s2 hu nm ⟨.bl _,H,I,rfl,q⟩
theorem op_neD {X:Cx} (hu:X.A.units + 64 < cLine):OpR X (compareOp .NotEq) (rEqD X.K true):=by
 intro pins s σ H x y v u Q I r1 r2 h
 obtain ⟨d,e,i1,i2,s1,s2,nm,q⟩:=h
 obtain ⟨as,a⟩:=i1.reads I r1
 obtain ⟨bs,b⟩:=i2.reads I r2
 exact ne_dataH_same a b s1 s2 hu nm ⟨.bl _,H,I,rfl,q⟩
end L2
namespace L2
open PySem PySem.Spec PyProof.Rows
structure Cal (P:Program) (w:World) (K:PySem.W.Frag) (mg:Str -> Option Value) (base:Heap) (k:Nat) (x:Str) (ps:List Str) (sp:Sp):Prop where
 ex:∃ (f:Addr) (fd:FuncData),FnOk P w K mg base CX0 k f fd ps sp /\ mg x = some (.ref f) /\ PySem.W.keepIn K (.ref f) = true /\ Binds K fd ps []
theorem pe_fn {X:Cx} {k:Nat} {x:Str} {ps:List Str} {sp:Sp} {p pos:Pos} {e:Expr} {es:List Expr} {t:TA} (C:Cal X.prog X.w X.K X.mg X.base k x ps sp) (hr:Room k X.A) (ha:PA X (e :: es) t) (hg:Gl X x:=by rfl)
  (hdb:(x == ("__debug__":Str)) = false:=by decide) (he:starEach (e :: es) X.env = (false,eval e X.env) :: starEach es X.env:=by rfl) (hpl:(backTo pos (starEach es X.env)).any (·.1) = false:=by rfl) :
  PE X (.Call (.Name x p) (e :: es) [] pos) (tCall sp [] E0 t):=by
 obtain ⟨f,fd,F,hm,hk,hb⟩:=C.ex
 exact pe_call F hr hg hm hk hb .nil pass0 ha hdb he hpl
noncomputable def compOk (ds:Scope) (N:List Str) (fr:List Nat) (sc:Scope):Bool :=
 decide (sc.kind = .function) && (sc.names.all fun y=>!decide (y.2 = .cell) || decide (sc.names.lookup y.1 = some .cell)) && (sc.names.all fun y=>!decide (y.2 = .local) || decide (sc.names.lookup y.1 = some .local)) &&
 (sc.names.all fun y=>!decide (y.2 = .free) || (decide (ds.names.lookup y.1 = some .cell) || decide (ds.names.lookup y.1 = some .free))) &&
 (fr.all fun i=>match N[i]? with | some x=>decide (sc.names.lookup x = some .free) | none=>false)
theorem compSc_of {X:Cx} {own:List Str} {fr:List Nat} {sc:Scope} (h:compOk X.env.scope X.N fr sc = true):CompSc X own fr sc:=by
 unfold compOk at h
 simp only [Bool.and_eq_true,decide_eq_true_eq,List.all_eq_true,Bool.or_eq_true,Bool.not_eq_true',decide_eq_false_iff_not] at h
 obtain ⟨⟨⟨⟨h1,h2⟩,h3⟩,h4⟩,h5⟩:=h
 refine ⟨h1,fun y hy e=>?_,fun y hy e=>?_,fun y hy e=>?_,fun i hi=>?_⟩
 ·rcases h2 y hy with z | z
  ·exact absurd e z
  ·exact z
 ·rcases h3 y hy with z | z
  ·exact absurd e z
  ·exact z
 ·rcases h4 y hy with z | z
  ·exact absurd e z
  ·exact z
 ·have:=h5 i hi
  cases q:X.N[i]? with
  | none=>rw [q] at this; cases this
  | some x=>rw [q] at this; exact ⟨x,rfl,of_decide_eq_true this⟩
noncomputable def CompW (J:It) (own:List Str) (fr:List Nat) (g:TG) (tc:TT) (te:TE) (σ:St) (H:Hp) (Q:VK):Prop :=
 ∃ W:Nat -> Nat -> List V -> St -> Hp -> Prop,(∃ m,W 0 m [] (st0 own σ fr) H) /\ ∀ i m ys τ H,W i m ys τ H ->
   (J.stop i H /\ ∀ D,H D = none -> Q (.ref D) (upd H D (.lst ys))) \/
   (J.go i H /\ ys.length < sizeLine /\ ∃ N:List V -> St -> Hp -> Prop,(∀ ys' τ' H',N ys' τ' H' -> ∃ m',m' < m /\ W (i + 1) m' ys' τ' H') /\ ∀ x H',J.yld i H x H' -> g x τ H' fun τ2 H2 =>
     tc τ2 H2 fun b H3=>if b = true then te τ2 H3 fun y H4=>N (ys ++ [y]) τ2 H4 else N ys τ2 H3)
noncomputable def tCompW (wi:TI) (own:List Str) (fr:List Nat) (g:TG) (tc:TT) (te:TE):TE:=fun σ H Q=>wi σ H fun J H1=>CompW J own fr g tc te σ H1 Q
theorem pe_compW {X:Cx} {tg iter elt:Expr} {ifs:List Expr} {sc:Scope} {pos:Pos} {own:List Str} {fr:List Nat} {wi:TI} {g:TG} {tc:TT} {te:TE} (hc:X.calm = true) (S:CompSc X own fr sc) (hi:PI X tg iter wi)
  (hg:∀ C s H ex,PG (cxComp X own fr sc C s H ex) tg g) (hif:∀ C s H ex,PIf (cxComp X own fr sc C s H ex) ifs tc) (he:∀ C s H ex,PE (cxComp X own fr sc C s H ex) elt te)
  (hs:∀ x,foldedSetIterable iter X.env x = pure x:=by intro _; rfl):PE X (.ListComp elt [⟨tg,iter,ifs,0⟩] sc pos) (tCompW wi own fr g tc te):=pe_comp hc S hi hg hif he hs
theorem ps_setCompW {X:Cx} {tg iter elt:Expr} {ifs:List Expr} {sc:Scope} {pos spos py:Pos} {i:Nat} {y:Str} {own:List Str} {fr:List Nat} {wi:TI} {g:TG} {tc:TT} {te:TE} (hN:X.N.Nodup) (hy:X.N[i]? = some y) (hl:X.env.scope.names.lookup y = some .local) (hc:X.calm = true) (S:CompSc X own fr sc) (hi:PI X tg iter wi)
  (hg:∀ C s H ex,PG (cxComp X own fr sc C s H ex) tg g) (hif:∀ C s H ex,PIf (cxComp X own fr sc C s H ex) ifs tc) (he:∀ C s H ex,PE (cxComp X own fr sc C s H ex) elt te)
  (hsw:swapsWith (.ListComp elt [⟨tg,iter,ifs,0⟩] sc pos) (some (.Name y py)) spos.line X.env = pure true:=by rfl)
  (hs:∀ x,foldedSetIterable iter X.env x = pure x:=by intro _; rfl):PS X (.Assign [.Name y py] (.ListComp elt [⟨tg,iter,ifs,0⟩] sc pos) spos) (tAsg (tCompW wi own fr g tc te) (gName i)):=ps_setComp hN hy hl hc S hi hg hif he hsw hs
section
variable {X:Cx} {K:PySem.W.Frag}
theorem ix_listK (h:X.K = K):IxR X (rIxL K):=by subst h; exact ix_list
theorem ix_tupK (h:X.K = K):IxR X (rIxT K):=by subst h; exact ix_tup
noncomputable def rLen (K:PySem.W.Frag):List V -> Hp -> VK -> Prop:=fun xs H Q=>∃ (p:Addr) (ys:List V),xs = [.ref p] /\ (SqL K H p ys \/ SqT K H p ys) /\ Q (.int ys.length) H
theorem call_lenK (h:X.K = K):CallR X (.builtin "len") (rLen K):=by subst h; exact call_len_seq
noncomputable def rListOf (K:PySem.W.Frag):List V -> Hp -> VK -> Prop:=fun xs H Q=>∃ (p:Addr) (ys:List V),xs = [.ref p] /\ (SqL K H p ys \/ SqT K H p ys) /\ ∀ l,H l = none -> Q (.ref l) (upd H l (.lst ys))
theorem call_listK (h:X.K = K):CallR X (.type "list") (rListOf K):=by subst h; exact call_list_of
noncomputable def rTupleOf (K:PySem.W.Frag):List V -> Hp -> VK -> Prop:=fun xs H Q=>∃ (p:Addr) (ys:List V),xs = [.ref p] /\ ((SqL K H p ys /\ ∀ l,H l = none -> Q (.ref l) (upd H l (.tup ys))) \/ (SqT K H p ys /\ Q (.ref p) H))
theorem call_tupleK (h:X.K = K):CallR X (.type "tuple") (rTupleOf K):=by subst h; exact call_tuple_of
theorem call_allK (h:X.K = K) (hc:X.calm = true):CallR X (.builtin "all") (rAll K):=by subst h; exact call_all hc
theorem op_eqDK (h:X.K = K) (hu:X.A.units + 64 < cLine):OpR X (compareOp .Eq) (rEqD K false):=by subst h; exact op_eqD hu
theorem op_neDK (h:X.K = K) (hu:X.A.units + 64 < cLine):OpR X (compareOp .NotEq) (rEqD K true):=by subst h; exact op_neD hu
theorem pi_zip2K {es:List Expr} {kk:Nat} {tpos:Pos} {a b:Expr} {ta:TA} {p pos:Pos} (h:X.K = K) (hg:Gl X "zip") (hm:X.mg "zip" = none) (ha:PA X [a,b] ta) (hs:starEach [a,b] X.env = (false,eval a X.env) :: starEach [b] X.env:=by rfl) (hpl:(backTo pos (starEach [b] X.env)).any (·.1) = false:=by rfl) :
  PI X (.Tuple es kk tpos) (.Call (.Name "zip" p) [a,b] [] pos) (iZip2 K ta):=by subst h; exact pi_zip2 hg hm ha hs hpl
theorem pi_zip3K {es:List Expr} {kk:Nat} {tpos:Pos} {a b c:Expr} {ta:TA} {p pos:Pos} (h:X.K = K) (hg:Gl X "zip") (hm:X.mg "zip" = none) (ha:PA X [a,b,c] ta) (hs:starEach [a,b,c] X.env = (false,eval a X.env) :: starEach [b,c] X.env:=by rfl) (hpl:(backTo pos (starEach [b,c] X.env)).any (·.1) = false:=by rfl) :
  PI X (.Tuple es kk tpos) (.Call (.Name "zip" p) [a,b,c] [] pos) (iZip3 K ta):=by subst h; exact pi_zip3 hg hm ha hs hpl
theorem pg_tupK {es:List Expr} {k:Nat} {t:TGs} {n:Nat} {pos:Pos} (h:X.K = K) (hc:X.calm = true) (hh:PGs X es t) (hn:(assignEach es X.env).length = n:=by rfl) (hst:(assignEach es X.env).findIdx? (·.1) = none:=by rfl):PG X (.Tuple es k pos) (gTup K n t):=by subst h; exact pg_tup hc hh hn hst
end
end L2
namespace L2
open PySem PySem.Spec PyProof.Rows
theorem cat_tup0 {prog:Program} {w:World} {A:Around} {E:Value -> Shared -> Prop} {s:Shared} {t b:Addr} {ws:List Value} {Q:Value -> Shared -> Prop} (ht:IsTup s.heap t ([]:List Value).toArray) (hb:IsTup s.heap b ws.toArray) (h:Q (.ref b) s):wpAny (model prog w) A (binaryOp .Add (.ref t) (.ref b)) Q E s:=by
 obtain ⟨⟨cls,dd,data,sl⟩,ho,hc,n,hd⟩:=id ht
 obtain ⟨⟨cls2,dd2,data2,sl2⟩,ho2,hc2,n2,hd2⟩:=id hb
 simp only at hc hd hc2 hd2
 subst hc hd hc2 hd2
 exact concat_meets ⟨_,ho,rfl⟩ ⟨_,ho2,rfl⟩ noFill_tuple_add seq_tuple_add PySem.F.slot_tuple_add PySem.F.entry_tuple_add (PySem.F.args_tuple_add_2 _ _) (tuple_addW0 t b _ ws.toArray n n2 dd dd2 sl sl2 rfl) ⟨ho,ho2,h⟩
end L2
namespace L2
open PySem PySem.Spec PyProof.Rows
theorem slot_rev_next:Slot "reversed" "__next__" "reversed.__next__" :=
 .of (owner:="reversed") (n:="__next__") (by rw [typeLookup_type,builtinLookup_eq_fast]; kernel_rfl) (by decide +kernel) (by decide +kernel) (by decide +kernel)
  (by first | exact .inl (by decide +kernel) | exact .inr (by decide +kernel)) (by rw [isSubtype_type]; kernel_rfl)
theorem slot_rev_iter:Slot "reversed" "__iter__" "reversed.__iter__" :=
 .of (owner:="reversed") (n:="__iter__") (by rw [typeLookup_type,builtinLookup_eq_fast]; kernel_rfl) (by decide +kernel) (by decide +kernel) (by decide +kernel)
  (by first | exact .inl (by decide +kernel) | exact .inr (by decide +kernel)) (by rw [isSubtype_type]; kernel_rfl)
theorem slot_rev_init:Slot "reversed" "__init__" "object.__init__" :=
 .of (owner:="object") (n:="__init__") (by rw [typeLookup_type,builtinLookup_eq_fast]; kernel_rfl) (by decide +kernel) (by decide +kernel) (by decide +kernel)
  (by first | exact .inl (by decide +kernel) | exact .inr (by decide +kernel)) (by rw [isSubtype_type]; kernel_rfl)
theorem entry_rev_next:entryFor table "reversed.__next__" = some Builtin.«reversed.__next__»:=entryFor_of_tree (by kernel_rfl)
theorem entry_rev_iter:entryFor table "reversed.__iter__" = some Builtin.«dict_keyiterator.__iter__» :=
 entryFor_alias (id':="dict_keyiterator.__iter__") (by kernel_rfl) (by first | rfl | decide +kernel | (unfold String.splitOn; simp +decide [String.splitOnAux])) (by decide +kernel) (by kernel_rfl)
theorem owner_rev:Manifest.owners.lookup (String.ofList ['d','e','s','r','e','v','e','r'].reverse) = some Manifest.sig_reversed:=by kernel_rfl
theorem args_rev_next (a:Value):argsOk "reversed.__next__" ⟨[a],[]⟩:=by
 unfold argsOk; rw [signature?_of (id:="reversed.__next__") (n:=['_','_','t','x','e','n','_','_']) (o:=['d','e','s','r','e','v','e','r']) (by kernel_rfl) owner_rev]; kernel_rfl
theorem args_rev_iter (a:Value):argsOk "reversed.__iter__" ⟨[a],[]⟩:=by
 unfold argsOk; rw [signature?_of (id:="reversed.__iter__") (n:=['_','_','r','e','t','i','_','_']) (o:=['d','e','s','r','e','v','e','r']) (by kernel_rfl) owner_rev]; kernel_rfl
theorem args_object_init_2' (a b:Value):argsOk "object.__init__" ⟨[a,b],[]⟩:=by
 unfold argsOk; rw [signature?_of (id:="object.__init__") (n:=['_','_','t','i','n','i','_','_']) (o:=['t','c','e','j','b','o']) (by kernel_rfl) F.owner_object]; kernel_rfl
theorem called_rev:TypeCalled "reversed" "reversed.__new__" "object.__init__" :=
 ⟨by decide +kernel,by decide +kernel,⟨_,_,F.mro_reversed⟩,F.made_reversed,by decide +kernel,F.sub_reversed_self,slot_rev_init⟩
theorem tup_norev:typeLookup (.type "tuple") "__reversed__" = pure none:=by rw [typeLookup_type,builtinLookup_eq_fast]; kernel_rfl
theorem newClass_rev (a:Value):Builtin.SmallTypes.newClass "reversed" ⟨[.type "reversed",a],[]⟩ = pure (.type "reversed",[a]):=PySem.newClass_reversed a
noncomputable def revT (l:Addr) (i:Int):Obj:={ cls:=.type "reversed",data:=.fields #[.ref l,rawInt i] }
theorem rev_new (l:Addr) (items:Array Value):Meets (Builtin.«reversed.__new__» ⟨[.type "reversed",.ref l],[]⟩) (fun _ R s=>s.heap.IsTuple l items /\ (items.size:Int) < 2 ^ 62 /\ ∀ tk,R (.ok (.ret (.ref s.heap.objs.size))) { s with heap:=s.heap.push (revT l ((items.size:Int) - 1)),toks:=tk }) :=
 .of_wp fun prog w A R s h=>by
  obtain ⟨ht,hsz,h⟩:=h
  unfold Builtin.«reversed.__new__»
  refine wpAny_bind (wpAny_of_eq (newClass_rev _) ?_)
  try dsimp only
  refine wpAny_bind (wpAny_of_eq (a:=()) (by first | rfl | kernel_rfl) ?_)
  refine wpAny_bind (wpAny_of_eq (a:=()) (by first | rfl | kernel_rfl) ?_)
  try dsimp only
  refine wpAny_bind (wpAny_specialOf ht.typeIs tup_norev ?_)
  try dsimp only
  refine wpAny_bind ?_
  show wpAny _ _ (isInstance (Value.ref l) (Value.type "dict") >>= _) _ _ _
  refine wpAny_bind (wpAny_isInstance ht.typeIs PySem.F.sub_tuple_dict ?_)
  show wpAny _ _ (specialOf (Value.ref l) "__getitem__" >>= _) _ _ _
  refine wpAny_bind (wpAny_specialOf ht.typeIs PySem.F.slot_tuple_getitem.lookup ?_)
  refine wpAny_pure ?_
  show wpAny _ _ (call (.builtin "len") [.ref l] >>= _) _ _ _
  refine wpAny_bind (PyProof.Rows.len_tuple ht (by omega) ?_)
  refine wpAny_bind (wpAny_pure ?_)
  show wpAny _ _ (newObj (.type "reversed") (.fields #[Value.ref l,rawInt ((items.size:Int) - 1)]) >>= _) _ _ _
  exact wpAny_bind (wpAny_newObj_type (wpAny_pure ⟨_,rfl,h _⟩))
section
variable {prog:Program} {w:World} {A:Around} {E:Value -> Shared -> Prop} {s:Shared}
noncomputable def IsRevT (h:Heap) (it l:Addr) (i:Int):Prop:=∃ o,h.get? it = some o /\ o.cls = .type "reversed" /\ o.data = .fields #[.ref l,rawInt i]
theorem IsRevT.typeIs {it l:Addr} {i:Int} (x:IsRevT s.heap it l i):s.TypeIs (.ref it) "reversed":=let ⟨o,ho,hc,_⟩:=x; ⟨o,ho,hc⟩
theorem IsRevT.at {h h':Heap} {it l:Addr} {i:Int} (x:IsRevT h it l i) (e:∀ o,h.get? it = some o -> h'.get? it = some o):IsRevT h' it l i:=let ⟨o,ho,r⟩:=x; ⟨o,e _ ho,r⟩
theorem rev_item {it l:Addr} {i:Nat} {items:Array Value} {x:Value} {Q:Option Value -> Shared -> Prop} (hit:IsRevT s.heap it l (i:Int)) (hl:s.heap.IsTuple l items) (hx:items[i]? = some x) (hi:(i:Int) < 2 ^ 62)
  (hQ:∀ h' tk,IsRevT h' it l ((i:Int) - 1) -> Heap.SameBut it s.heap h' -> Q (some x) { s with heap:=h',toks:=tk }):wpAny (model prog w) A (pyNext (.ref it)) Q E s:=by
 obtain ⟨o,ho,hc,hd⟩:=id hit
 unfold pyNext
 refine wpAny_bind (wpAny_attempt (wpAny_callSpecial?_slot (name:=Str.ofString "__next__") hit.typeIs slot_rev_next
   (wpAny_call_entry slot_rev_next hit.typeIs entry_rev_next ?_ (args_rev_next _))))
 unfold Builtin.«reversed.__next__»
 refine wpAny_bind (wpAny_of_eq (a:=(Value.ref it,[])) rfl ?_)
 try dsimp only
 refine wpAny_bind (wpAny_field ho hd (x:=.ref l) rfl ?_)
 refine wpAny_bind (wpAny_field ho hd (x:=rawInt (i:Int)) rfl ?_)
 show wpAny _ _ (if (i:Int) < 0 then _ else _) _ _ s
 rw [if_neg (by omega)]
 show wpAny _ _ (specialOf (Value.ref l) "__getitem__" >>= _) _ _ s
 refine wpAny_bind (wpAny_specialOf hl.typeIs PySem.F.slot_tuple_getitem.lookup ?_)
 show wpAny _ _ (mkInt (i:Int) >>= _) _ _ s
 refine wpAny_bind (wpAny_mkInt ?_)
 have hlt:i < items.size:=by
  have:=Array.getElem?_eq_some_iff.mp hx
  exact this.1
 refine wpAny_bind (wpAny_attempt (PyProof.Rows.getItem_tuple (s:={ s with toks:=s.toks + 1 }) hl (by omega) (by omega) (j:=i) (by unfold seqIndex?; simp; omega) hx ?_))
 show wpAny _ _ (field (.ref it) 1 >>= _) _ _ _
 refine wpAny_bind (wpAny_field (s:={ s with toks:=s.toks + 1 }) ho hd (x:=rawInt (i:Int)) rfl ?_)
 show wpAny _ _ (setField (.ref it) 1 (rawInt ((i:Int) - 1)) >>= _) _ _ _
 refine wpAny_bind (wpAny_setField (s:={ s with toks:=s.toks + 1 }) ho hd (by simp) (wpAny_pure ⟨x,rfl,wpAny_pure (hQ _ _ ?_ (Heap.SameBut.update ..))⟩))
 exact ⟨_,Heap.get?_update_self _ ho (Obj.isFreed_of_fields (Obj.data_mapFields hd _)),(Obj.cls_mapFields ..).trans hc,by
   rw [Obj.data_mapFields hd]; simp⟩
theorem rev_end {it l:Addr} {Q:Option Value -> Shared -> Prop} (hh:A.handled = none) (hit:IsRevT s.heap it l (-1))
  (hQ:∀ h',Heap.ExtBut it s.heap h' -> Q none { s with heap:=h' }):wpAny (model prog w) A (pyNext (.ref it)) Q E s:=by
 obtain ⟨o,ho,hc,hd⟩:=id hit
 unfold pyNext
 refine wpAny_bind (wpAny_attempt (wpAny_callSpecial?_slot (name:=Str.ofString "__next__") hit.typeIs slot_rev_next
   (wpAny_call_entry slot_rev_next hit.typeIs entry_rev_next ?_ (args_rev_next _))))
 unfold Builtin.«reversed.__next__»
 refine wpAny_bind (wpAny_of_eq (a:=(Value.ref it,[])) rfl ?_)
 try dsimp only
 refine wpAny_bind (wpAny_field ho hd (x:=.ref l) rfl ?_)
 refine wpAny_bind (wpAny_field ho hd (x:=rawInt (-1)) rfl ?_)
 show wpAny _ _ (if (-1:Int) < 0 then _ else _) _ _ s
 rw [if_pos (by decide)]
 refine wpAny_bind (wpAny_rule ?_)
 refine wpAny_bind ?_
 show wpAny _ _ (setField (.ref it) 1 (rawInt (-1)) >>= fun _=>setField (.ref it) 0 .none) _ _ _
 refine wpAny_bind (wpAny_setField ho hd (by simp) ?_)
 refine wpAny_setField (Heap.get?_update_self _ ho (Obj.isFreed_of_fields (Obj.data_mapFields hd _))) (Obj.data_mapFields hd _) (by simp) ?_
 refine wpAny_bind ?_
 show wpAny _ _ (newExc (.type "StopIteration") [] >>= _) _ _ _
 refine wpAny_bind ?_
 simp only [newExc,newTuple]
 refine wpAny_bind (wpAny_newObj_type ?_ (by size_fits))
 refine wpAny_bind (m:=firstArgMember _ _) (wpAny_of_eq (a:=Value.none) (by first | rfl | (simp only [firstArgMember]; rfl)) ?_)
 refine wpAny_newObj_type ?_ (by size_fits)
 simp only [raiseNew]
 refine wpAny_bind (wpAny_handled ?_)
 first | rw [show A.in1.handled = none from hh] | rw [hh]
 refine wpAny_bind (wpAny_pure (wpAny_throw ?_))
 refine wpAny_bind (wpAny_isInstance (T:="StopIteration") (b:=true) ⟨_,Heap.get?_push_size _ rfl,rfl⟩ isSubtype_stop ?_)
 refine wpAny_pure (hQ _ ?_)
 refine Heap.ExtBut.push (Heap.ExtBut.push ?_ _) _
 exact fun b o hb e=>(Heap.SameBut.update ..).extBut b o hb ((Heap.SameBut.update ..).extBut b o hb e)
theorem rev_iter {it l:Addr} {i:Int} {Q:Value -> Shared -> Prop} (hit:IsRevT s.heap it l i) (h:Q (.ref it) s):wpAny (model prog w) A (pyIter (.ref it)) Q E s:=by
 refine wpAny_pyIter_slot hit.typeIs slot_rev_iter (wpAny_call_entry slot_rev_iter hit.typeIs entry_rev_iter ?_ (args_rev_iter _))
 show wpAny _ _ (ret (.ref it)) _ _ s
 exact wpAny_pure ⟨_,rfl,"reversed",_,hit.typeIs,slot_rev_next.lookup,h⟩
end
noncomputable def Itv (K:PySem.W.Frag) (a:Addr) (n:Nat):It :=
 ⟨fun i H=>∃ xs x,SqT K H a xs /\ xs.length = n /\ i < n /\ xs[n - 1 - i]? = some x,fun i H x H'=>H' = H /\ ∀ xs,SqT K H a xs -> xs[n - 1 - i]? = some x,fun i H=>i = n⟩
theorem turn_rev {P:Program} {w:World} {K:PySem.W.Frag} {tg:Expr} (a it:Addr) (n:Nat) (hn:n < 2 ^ 62):Turn P w K tg (Itv K a n) [it] it (fun i h=>IsRevT h it a ((n:Int) - 1 - i)) where
 mem:=by simp
 obj:=fun i h st b hb=>by
  have e:b = it:=by simpa using hb
  subst e
  obtain ⟨o,e,c,d⟩:=st
  exact ⟨o,e,fun v z=>by rw [d] at z; cases z⟩
 keep:=fun i h h' st k=>st.at fun o e=>k it (by simp) o e
 item:=by
  intro X hP hw hK hc i pins s σ H E I hf st hg
  subst hP hw hK
  obtain ⟨xs,x,hq,hl,hi,hx⟩:=hg
  obtain ⟨its,rv,p,hz⟩:=I.tuple hq
  obtain ⟨u,hu,ru⟩:=rv.get hx
  obtain ⟨f0,f1,f2,f3,f4,f5⟩:=hf it (by simp)
  have e1:(n:Int) - 1 - i = ((n - 1 - i:Nat):Int):=by omega
  rw [e1] at st
  refine rev_item st (show s.heap.IsTuple a its.toArray from p) (x:=u) (by simpa using hu) (by omega) fun h' tk st' sb=>?_
  have I1:Inv X pins σ H { s with heap:=h',toks:=tk }:=I.turned (fun b o hb e=>(sb.2 b hb).trans e) f0 f1 f3 f4 f5
  obtain ⟨o,e,c,d⟩:=id st'
  refine ⟨u,rfl,go_of (s:={ s with heap:=h',toks:=tk }) e c d (by decide) ⟨x,H,I1,ru,⟨rfl,fun ys hy=>by rw [I.tuple_inj hy hq]; exact hx⟩,?_,fun b hb=>(hf b hb).1⟩⟩
  have e2:(n:Int) - 1 - ((i + 1:Nat):Int) = ((n - 1 - i:Nat):Int) - 1:=by omega
  show IsRevT h' it a ((n:Int) - 1 - ((i + 1:Nat):Int))
  rw [e2]; exact st'
 done:=by
  intro X hP hw hK hc i pins s σ H E I hf st hg
  subst hP hw hK
  obtain ⟨f0,f1,f2,f3,f4,f5⟩:=hf it (by simp)
  have e1:(n:Int) - 1 - i = -1:=by have:i = n:=hg; omega
  rw [e1] at st
  exact rev_end (I.ok.hd hc) st fun h' eb=>⟨rfl,I.turned (t':=s.toks) (fun b o hb e=>eb b o hb e) f0 f1 f3 f4 f5⟩
 self:=fun _ _ _ _ _ st h=>rev_iter st h
noncomputable def iRev (K:PySem.W.Frag) (ta:TA):TI:=fun σ H R=>ta σ H fun vs H1=>∃ (a:Addr) (xs:List V),vs = [.ref a] /\ SqT K H1 a xs /\ R (Itv K a xs.length) H1
theorem boot_rev:bootBuiltins "reversed" = some (.type "reversed"):=by decide +kernel
theorem pi_rev {X:Cx} {K:PySem.W.Frag} {tg a:Expr} {ta:TA} {p pos:Pos} (h:X.K = K) (hg:Gl X "reversed") (hm:X.mg "reversed" = none) (ha:PA X [a] ta) (hs:starEach [a] X.env = [(false,eval a X.env)]:=by rfl):PI X tg (.Call (.Name "reversed" p) [a] [] pos) (iRev K ta):=by
 subst h
 intro pins s σ H R I h
 refine Call_ (ld_blt I hg hm boot_rev (PyProof.Rows.callWith_type1 (thn (ha pos pins s σ H _ I h) fun us s1 ⟨vs,H1,I1,r1,q1⟩=>?_) hs rfl))
 obtain ⟨l,xs,e,hq,q⟩:=q1
 subst e
 obtain ⟨u,rfl,ru⟩:=vals1 r1
 cases ru
 obtain ⟨its,rv,pt,hz⟩:=I1.tuple hq
 have hlen:=rv.length
 have hzz:xs.length <= 16777216:=hz
 refine callType_new called_rev (by decide) (F.typeCall_reversed_1 _) (F.newCall_reversed_1 _) (fun obj=>args_object_init_2' obj _) F.entry_reversed_new (rev_new l its.toArray) ⟨pt,by rw [List.size_toArray]; omega,fun tk=>?_⟩
 show _ /\ _
 have gt:(s1.heap.push (revT l ((its.toArray.size:Int) - 1))).get? s1.heap.objs.size = some (revT l ((its.toArray.size:Int) - 1)):=Heap.get?_push_size _ rfl
 have ge:IsRevT (s1.heap.push (revT l ((its.toArray.size:Int) - 1))) s1.heap.objs.size l ((xs.length:Int) - 1 - (0:Nat)):=⟨_,gt,rfl,by
   have:(xs.length:Int) - 1 - (0:Nat) = (its.toArray.size:Int) - 1:=by rw [List.size_toArray]; omega
   rw [this]; rfl⟩
 refine ⟨⟨_,gt,rfl⟩,rev_iter (s:={ s1 with heap:=s1.heap.push (revT l ((its.toArray.size:Int) - 1)),toks:=tk }) ge ?_⟩
 refine ⟨s1.heap.objs.size,[s1.heap.objs.size],_,_,H1,rfl,I1.kept fun b o e=>Heap.get?_push_of_some _ e,turn_rev l _ xs.length (by omega),ge,fun b hb=>?_,q⟩
 have e:b = s1.heap.objs.size:=by simpa using hb
 subst e
 exact I1.fpOk (Nat.le_refl _) (I1.hok.fresh (Nat.le_refl _))
end L2
namespace L2
open PySem PySem.Spec
noncomputable abbrev opqO (a:Addr):HO:=.ext fun h=>∃ o es ep,h.get? a = some o /\ o.ExactDict /\ o.data = .dict es ep
noncomputable abbrev excO (a C:Addr):HO:=.ext fun h=>∃ o vs,h.get? a = some o /\ o.cls = .ref C /\ o.data = .fields vs
end L2
namespace L3
open PySem PySem.Spec L2
noncomputable abbrev D:=PyData
noncomputable abbrev Fg:=PySem.W.Frag
noncomputable def Sub (F H:Hp):Prop:=∀ a o,F a = some o -> H a = some o
theorem Sub.refl (H:Hp):Sub H H:=fun _ _ h=>h
theorem Sub.trans {A B C:Hp} (h:Sub A B) (k:Sub B C):Sub A C:=fun a o e=>k a o (h a o e)
theorem Sub.new {F:Hp} {a:Addr} {o:HO} (h:F a = none):Sub F (upd F a o):=fun b u e=>by rw [upd_ne (ne_of_none e h)]; exact e
theorem Sub.rd {F H:Hp} {a:Addr} {u:HO} (s:Sub F H):Rd F a u -> Rd H a u
 | .inl h=>.inl (s _ _ h)
 | .inr ⟨o,h⟩=>.inr ⟨o,s _ _ h⟩
theorem Sub.sql {K:Fg} {F H:Hp} {a:Addr} {xs:List V} (s:Sub F H):SqL K F a xs -> SqL K H a xs
 | .inl h=>.inl (s.rd h)
 | .inr h=>.inr h
noncomputable def keyD:Key -> D
 | .inl i=>.int i
 | .inr x=>.str x
noncomputable abbrev scrD (ns:List Int):D:=.dict [(.none,.list (ns.map PyData.int))]
noncomputable abbrev excD (C:Addr):D:=.dict [(.bool true,.int (C:Nat))]
noncomputable abbrev opqD:D:=.dict [(.bool false,.none)]
mutual
inductive Da (K:Fg) (F:Hp):V -> D -> Prop
 | non:Da K F .non .none
 | bl (b):Da K F (.bl b) (.bool b)
 | int (i):Da K F (.int i) (.int i)
 | str (x):Da K F (.str x) (.str x)
 | lst {a xs ds}:F a = some (.lst xs) -> DaAll K F xs ds -> Da K F (.ref a) (.list ds)
 | tup {a xs ds}:F a = some (.tup xs) -> DaAll K F xs ds -> Da K F (.ref a) (.tuple ds)
 | dk {a kvs es}:Rd F a (.dK kvs) -> DaKV K F kvs es -> Da K F (.ref a) (.dict es)
 | dt {a kvs es}:Rd F a (.dT kvs) -> DaKT K F kvs es -> Da K F (.ref a) (.dict es)
 | scr {a ns}:SqL K F a (ns.map V.int) -> Da K F (.ref a) (scrD ns)
 | exc {a C}:F a = some (excO a C) -> Da K F (.ref a) (excD C)
 | opq {a}:F a = some (opqO a) -> Da K F (.ref a) opqD
inductive DaAll (K:Fg) (F:Hp):List V -> List D -> Prop
 | nil:DaAll K F [] []
 | cons {x xs d ds}:Da K F x d -> DaAll K F xs ds -> DaAll K F (x :: xs) (d :: ds)
inductive DaKV (K:Fg) (F:Hp):List (Key × V) -> List (D × D) -> Prop
 | nil:DaKV K F [] []
 | cons {k v d kvs es}:Da K F v d -> DaKV K F kvs es -> DaKV K F ((k,v) :: kvs) ((keyD k,d) :: es)
inductive DaKT (K:Fg) (F:Hp):List (List Key × V) -> List (D × D) -> Prop
 | nil:DaKT K F [] []
 | cons {ks v d kvs es}:Da K F v d -> DaKT K F kvs es -> DaKT K F ((ks,v) :: kvs) ((.tuple (ks.map keyD),d) :: es)
end
section
variable {K:Fg} {F F':Hp}
mutual
theorem Da.mono (s:Sub F F'):∀ {v:V} {d:D},Da K F v d -> Da K F' v d
 | _,_,.non=>.non
 | _,_,.bl b=>.bl b
 | _,_,.int i=>.int i
 | _,_,.str x=>.str x
 | _,_,.lst h t=>.lst (s _ _ h) (DaAll.mono s t)
 | _,_,.tup h t=>.tup (s _ _ h) (DaAll.mono s t)
 | _,_,.dk h t=>.dk (s.rd h) (DaKV.mono s t)
 | _,_,.dt h t=>.dt (s.rd h) (DaKT.mono s t)
 | _,_,.scr h=>.scr (s.sql h)
 | _,_,.exc h=>.exc (s _ _ h)
 | _,_,.opq h=>.opq (s _ _ h)
theorem DaAll.mono (s:Sub F F'):∀ {xs:List V} {ds:List D},DaAll K F xs ds -> DaAll K F' xs ds
 | _,_,.nil=>.nil
 | _,_,.cons h t=>.cons (Da.mono s h) (DaAll.mono s t)
theorem DaKV.mono (s:Sub F F'):∀ {xs:List (Key × V)} {ds:List (D × D)},DaKV K F xs ds -> DaKV K F' xs ds
 | _,_,.nil=>.nil
 | _,_,.cons h t=>.cons (Da.mono s h) (DaKV.mono s t)
theorem DaKT.mono (s:Sub F F'):∀ {xs:List (List Key × V)} {ds:List (D × D)},DaKT K F xs ds -> DaKT K F' xs ds
 | _,_,.nil=>.nil
 | _,_,.cons h t=>.cons (Da.mono s h) (DaKT.mono s t)
end
theorem DaAll.length:∀ {xs:List V} {ds:List D},DaAll K F xs ds -> xs.length = ds.length
 | _,_,.nil=>rfl
 | _,_,.cons _ t=>by simp [DaAll.length t]
theorem DaAll.get:∀ {xs:List V} {ds:List D} {i:Nat} {d:D},DaAll K F xs ds -> ds[i]? = some d -> ∃ v,xs[i]? = some v /\ Da K F v d
 | _,_,_,_,.nil,e=>by simp at e
 | _,_,0,_,.cons h _,e=>by simp at e; subst e; exact ⟨_,rfl,h⟩
 | _,_,i + 1,_,.cons _ t,e=>by
  obtain ⟨v,a,b⟩:=DaAll.get (i:=i) t (by simpa using e)
  exact ⟨v,by simpa using a,b⟩
theorem DaAll.append:∀ {xs ys:List V} {ds es:List D},DaAll K F xs ds -> DaAll K F ys es -> DaAll K F (xs ++ ys) (ds ++ es)
 | _,_,_,_,.nil,s=>s
 | _,_,_,_,.cons h t,s=>.cons h (DaAll.append t s)
theorem DaAll.set {v:V} {d:D} (h:Da K F v d):∀ {xs:List V} {ds:List D} (i:Nat),DaAll K F xs ds -> DaAll K F (xs.set i v) (ds.set i d)
 | _,_,_,.nil=>.nil
 | _,_,0,.cons _ t=>.cons h t
 | _,_,i + 1,.cons q t=>.cons q (DaAll.set h i t)
theorem DaAll.take:∀ {xs:List V} {ds:List D} (n:Nat),DaAll K F xs ds -> DaAll K F (xs.take n) (ds.take n)
 | _,_,0,_=>.nil
 | _,_,_ + 1,.nil=>.nil
 | _,_,n + 1,.cons h t=>.cons h (DaAll.take n t)
theorem DaAll.drop:∀ {xs:List V} {ds:List D} (n:Nat),DaAll K F xs ds -> DaAll K F (xs.drop n) (ds.drop n)
 | _,_,0,r=>r
 | _,_,_ + 1,.nil=>.nil
 | _,_,n + 1,.cons _ t=>DaAll.drop n t
theorem DaAll.rep {xs:List V} {ds:List D} (h:DaAll K F xs ds):∀ k:Nat,DaAll K F (List.replicate k xs).flatten (List.replicate k ds).flatten
 | 0=>.nil
 | k + 1=>by rw [List.replicate_succ,List.replicate_succ,List.flatten_cons,List.flatten_cons]; exact h.append (DaAll.rep h k)
theorem DaAll.ints:∀ ns:List Int,DaAll K F (ns.map V.int) (ns.map PyData.int)
 | []=>.nil
 | n :: ns=>.cons (.int n) (DaAll.ints ns)
end
inductive Sl where
 | fz (d:D) | ow (d:D) | io (d:D)
noncomputable def Sl.d:Sl -> D
 | .fz d=>d
 | .ow d=>d
 | .io d=>d
noncomputable def isOw:Sl -> Bool
 | .fz _=>false
 | .ow _=>true
 | .io _=>true
noncomputable abbrev Ev:=List (Option Sl)
noncomputable def Own1 (K:Fg) (F:Hp):HO -> D -> Prop
 | .lst xs,.list ds=>DaAll K F xs ds
 | .dK kvs,.dict es=>DaKV K F kvs es
 | .dT kvs,.dict es=>DaKT K F kvs es
 | _,_=>False
section
variable {K:Fg} {F F':Hp} {o:HO} {d:D} {a:Addr}
theorem Own1.mono (s:Sub F F') (h:Own1 K F o d):Own1 K F' o d:=by
 cases o <;> cases d <;> first | exact DaAll.mono s h | exact DaKV.mono s h | exact DaKT.mono s h | exact h.elim
theorem Own1.da (h:Own1 K F o d) (e:F a = some o):Da K F (.ref a) d:=by
 cases o <;> cases d <;> first | exact .lst e h | exact .dk (.inl e) h | exact .dt (.inl e) h | exact h.elim
end
structure Gh where
 H0:Hp
 F0:Hp
 io:Nat -> Option Addr
structure Rel (K:Fg) (G:Gh) (F:Hp) (σ:St) (H:Hp) (ρ:Ev):Prop where
 len:σ.length = ρ.length
 sub:Sub F H
 sub0:Sub G.F0 F
 fn:∀ a o,F a = some o -> G.F0 a = some o \/ G.H0 a = none
 keep:∀ a o,G.H0 a = some o -> (∀ i,G.io i ≠ some a) -> H a = some o
 fz:∀ (i:Nat) (d:D),ρ[i]? = some (some (Sl.fz d)) -> ∃ v,σ[i]? = some (some v) /\ Da K F v d
 ow:∀ (i:Nat) (s:Sl),ρ[i]? = some (some s) -> isOw s = true -> ∃ a o,σ[i]? = some (some (V.ref a)) /\ F a = none /\ H a = some o /\ Own1 K F o s.d
 new:∀ (i:Nat) (d:D) (a:Addr),ρ[i]? = some (some (Sl.ow d)) -> σ[i]? = some (some (V.ref a)) -> G.H0 a = none
 io:∀ (i:Nat) (a:Addr),G.io i = some a -> ∃ d,ρ[i]? = some (some (Sl.io d)) /\ σ[i]? = some (some (V.ref a))
 ioi:∀ (i:Nat) (d:D),ρ[i]? = some (some (Sl.io d)) -> ∃ a,G.io i = some a
 ap:∀ (i j:Nat) (s t:Sl) (a:Addr),ρ[i]? = some (some s) -> isOw s = true -> ρ[j]? = some (some t) -> isOw t = true -> σ[i]? = some (some (V.ref a)) -> σ[j]? = some (some (V.ref a)) -> i = j
noncomputable def Res (K:Fg) (G:Gh) (F H:Hp) (σ:St) (ρ:Ev) (v:V):Sl -> Prop
 | .fz d=>Da K F v d
 | .ow d=>∃ a o,v = .ref a /\ F a = none /\ H a = some o /\ Own1 K F o d /\ G.H0 a = none /\ ∀ (i:Nat) (s:Sl),ρ[i]? = some (some s) -> isOw s = true -> σ[i]? ≠ some (some (V.ref a))
 | .io _=>False
section
variable {K:Fg} {G:Gh} {F F' H:Hp} {σ:St} {ρ:Ev} {a:Addr} {o:HO} {d:D} {v:V} {s:Sl}
theorem Rel.bound (R:Rel K G F σ H ρ) {i:Nat} (h:ρ[i]? = some (some s)):∃ v,σ[i]? = some (some v):=by
 cases s with
 | fz d=>obtain ⟨v,e,_⟩:=R.fz i d h; exact ⟨v,e⟩
 | ow d=>obtain ⟨a,o,e,_⟩:=R.ow i _ h rfl; exact ⟨_,e⟩
 | io d=>obtain ⟨a,o,e,_⟩:=R.ow i _ h rfl; exact ⟨_,e⟩
theorem Rel.h0 (R:Rel K G F σ H ρ) (h:H a = none):G.H0 a = none:=by
 cases e:G.H0 a with
 | none=>rfl
 | some o =>
  by_cases q:∃ i,G.io i = some a
  ·obtain ⟨i,q⟩:=q
   obtain ⟨d,h1,h2⟩:=R.io i a q
   obtain ⟨a',o',h3,_,h4,_⟩:=R.ow i _ h1 rfl
   rw [h2] at h3
   cases h3
   rw [h] at h4; cases h4
  ·have:=R.keep a o e fun i z=>q ⟨i,z⟩
   rw [h] at this; cases this
theorem Rel.f0 (R:Rel K G F σ H ρ) (h:H a = none):F a = none:=by
 cases e:F a with
 | none=>rfl
 | some o=>rw [R.sub a o e] at h; cases h
theorem Rel.laid (R:Rel K G F σ H ρ) (h:H a = none):Rel K G F σ (upd H a o) ρ where
 len:=R.len
 sub:=fun b u e=>by rw [upd_ne (ne_of_none (R.sub b u e) h)]; exact R.sub b u e
 sub0:=R.sub0
 fn:=R.fn
 keep:=fun b u e n=>by rw [upd_ne (ne_of_none (R.keep b u e n) h)]; exact R.keep b u e n
 fz:=R.fz
 ow:=fun i s e w=>by
  obtain ⟨a',o',h1,h2,h3,h4⟩:=R.ow i s e w
  exact ⟨a',o',h1,h2,by rw [upd_ne (ne_of_none h3 h)]; exact h3,h4⟩
 new:=R.new
 io:=R.io
 ioi:=R.ioi
 ap:=R.ap
theorem Rel.grow (R:Rel K G F σ H ρ) (h0:G.H0 a = none) (h:H a = some o) (hn:∀ (i:Nat) (s:Sl),ρ[i]? = some (some s) -> isOw s = true -> σ[i]? ≠ some (some (V.ref a))):Sub F (upd F a o) /\ Rel K G (upd F a o) σ H ρ:=by
 have sb:Sub F (upd F a o):=fun b u e=>by
  by_cases z:b = a
  ·subst z; rw [upd_same,<- h]; exact R.sub _ _ e
  ·rw [upd_ne z]; exact e
 refine ⟨sb,R.len,fun b u e=>?_,R.sub0.trans sb,fun b u e=>?_,R.keep,fun i d e=>?_,fun i s e w=>?_,R.new,R.io,R.ioi,R.ap⟩
 ·by_cases z:b = a
  ·subst z; rw [upd_same] at e; rw [h]; exact e
  ·rw [upd_ne z] at e; exact R.sub _ _ e
 ·by_cases z:b = a
  ·subst z; exact .inr h0
  ·rw [upd_ne z] at e; exact R.fn _ _ e
 ·obtain ⟨v,h1,h2⟩:=R.fz i d e
  exact ⟨v,h1,h2.mono sb⟩
 ·obtain ⟨a',o',h1,h2,h3,h4⟩:=R.ow i s e w
  have z:a' ≠ a:=fun z=>hn i s e w (by rw [h1,z])
  exact ⟨a',o',h1,by rw [upd_ne z]; exact h2,h3,h4.mono sb⟩
theorem Res.frz (R:Rel K G F σ H ρ) (r:Res K G F H σ ρ v s):∃ F',Sub F F' /\ Rel K G F' σ H ρ /\ Da K F' v s.d:=by
 cases s with
 | fz d=>exact ⟨F,Sub.refl _,R,r⟩
 | ow d =>
  obtain ⟨a,o,rfl,h1,h2,h3,h4,h5⟩:=r
  obtain ⟨sb,R'⟩:=R.grow h4 h2 h5
  exact ⟨_,sb,R',(h3.mono sb).da upd_same⟩
 | io d=>exact r.elim
theorem Rel.newOw (R:Rel K G F σ H ρ) (h:H a = none) (w:Own1 K F o d):Rel K G F σ (upd H a o) ρ /\ Res K G F (upd H a o) σ ρ (.ref a) (.ow d):=by
 refine ⟨R.laid h,a,o,rfl,R.f0 h,upd_same,w,R.h0 h,fun i s e w z=>?_⟩
 obtain ⟨a',o',h1,h2,h3,h4⟩:=R.ow i s e w
 rw [z] at h1
 cases h1
 rw [h] at h3; cases h3
theorem Rel.newTup (R:Rel K G F σ H ρ) {xs:List V} {ds:List D} (h:H a = none) (w:DaAll K F xs ds) :
  Sub F (upd F a (.tup xs)) /\ Rel K G (upd F a (.tup xs)) σ (upd H a (.tup xs)) ρ /\ Da K (upd F a (.tup xs)) (.ref a) (.tuple ds):=by
 have R1:Rel K G F σ (upd H a (.tup xs)) ρ:=R.laid h
 obtain ⟨sb,R2⟩:=R1.grow (a:=a) (o:=.tup xs) (R.h0 h) upd_same fun i s e w z=>by
  obtain ⟨a',o',h1,h2,h3,h4⟩:=R.ow i s e w
  rw [z] at h1
  cases h1
  rw [h] at h3; cases h3
 exact ⟨sb,R2,.tup upd_same (w.mono sb)⟩
noncomputable def Sl.put:Sl -> D -> Sl
 | .fz _,d=>.fz d
 | .ow _,d=>.ow d
 | .io _,d=>.io d
theorem get_set {α:Type} {l:List α} {i j:Nat} {x y:α} (h:(l.set i x)[j]? = some y):(j = i /\ y = x) \/ (j ≠ i /\ l[j]? = some y):=by
 by_cases z:i = j
 ·subst z
  rw [List.getElem?_set] at h
  simp at h
  exact .inl ⟨rfl,h.2.symm⟩
 ·rw [List.getElem?_set_ne z] at h
  exact .inr ⟨fun q=>z q.symm,h⟩
theorem set_get {α:Type} {l:List α} {i:Nat} {x:α} (h:i < l.length):(l.set i x)[i]? = some x:=by simp [h]
theorem lt_of_get {α:Type} {l:List α} {i:Nat} {x:α} (h:l[i]? = some x):i < l.length:=(List.getElem?_eq_some_iff.mp h).1
theorem Rel.change (R:Rel K G F σ H ρ) {i:Nat} {o':HO} {d':D} (h:ρ[i]? = some (some s)) (w:isOw s = true) (ha:σ[i]? = some (some (V.ref a))) (q:Own1 K F o' d') :
  Rel K G F σ (upd H a o') (ρ.set i (some (s.put d'))):=by
 obtain ⟨a0,o0,h1,h2,h3,h4⟩:=R.ow i s h w
 rw [ha] at h1; cases h1
 have sw:isOw (s.put d') = true:=by cases s <;> first | rfl | cases w
 have hl:=lt_of_get h
 refine ⟨by rw [List.length_set]; exact R.len,fun b u e=>?_,R.sub0,R.fn,fun b u e n=>?_,fun j d e=>?_,fun j t e wt=>?_,fun j d b e eb=>?_,fun j b e=>?_,fun j d e=>?_,fun j k t u b e1 w1 e2 w2 e3 e4=>?_⟩
 ·have z:b ≠ a:=fun z=>by subst z; rw [h2] at e; cases e
  rw [upd_ne z]; exact R.sub _ _ e
 ·by_cases z:b = a
  ·subst z
   cases s with
   | fz d=>cases w
   | ow d=>rw [R.new i d b h ha] at e; cases e
   | io d =>
    obtain ⟨a',e'⟩:=R.ioi i d h
    obtain ⟨d',_,e2⟩:=R.io i a' e'
    rw [ha] at e2; cases e2
    exact absurd e' (n i)
  ·rw [upd_ne z]; exact R.keep _ _ e n
 ·rcases get_set e with ⟨rfl,z⟩ | ⟨n,z⟩
  ·cases s <;> simp [Sl.put,isOw] at z w
  ·exact R.fz j d z
 ·rcases get_set e with ⟨rfl,z⟩ | ⟨n,z⟩
  ·cases z
   exact ⟨a,o',ha,h2,upd_same,by cases s <;> first | exact q | cases w⟩
  ·obtain ⟨b,u,g1,g2,g3,g4⟩:=R.ow j t z wt
   have nb:b ≠ a:=fun x=>n (R.ap j i t s a z wt h w (by rw [g1,x]) ha)
   exact ⟨b,u,g1,g2,by rw [upd_ne nb]; exact g3,g4⟩
 ·rcases get_set e with ⟨rfl,z⟩ | ⟨n,z⟩
  ·cases s with
   | fz d=>cases w
   | ow d0=>exact R.new j d0 b h eb
   | io d=>cases z
  ·exact R.new j d b z eb
 ·obtain ⟨d,e1,e2⟩:=R.io j b e
  by_cases z:j = i
  ·subst z
   rw [h] at e1
   cases e1
   exact ⟨d',by rw [set_get hl]; rfl,e2⟩
  ·exact ⟨d,by rw [List.getElem?_set_ne (Ne.symm z)]; exact e1,e2⟩
 ·rcases get_set e with ⟨rfl,z⟩ | ⟨n,z⟩
  ·cases s with
   | fz d=>cases w
   | ow d0=>cases z
   | io d0=>exact R.ioi j d0 h
  ·exact R.ioi j d z
 ·have f:∀ (j:Nat) (t:Sl),(ρ.set i (some (s.put d')))[j]? = some (some t) -> isOw t = true -> ∃ t',ρ[j]? = some (some t') /\ isOw t' = true:=fun j t e wt=>by
   rcases get_set e with ⟨rfl,z⟩ | ⟨n,z⟩
   ·exact ⟨s,h,w⟩
   ·exact ⟨t,z,wt⟩
  obtain ⟨t',e1',w1'⟩:=f j t e1 w1
  obtain ⟨u',e2',w2'⟩:=f k u e2 w2
  exact R.ap j k t' u' b e1' w1' e2' w2' e3 e4
theorem Rel.forget (R:Rel K G F σ H ρ) {i:Nat} (h:ρ[i]? = some (some (Sl.ow d))):Rel K G F σ H (ρ.set i none):=by
 refine ⟨by rw [List.length_set]; exact R.len,R.sub,R.sub0,R.fn,R.keep,fun j d e=>?_,fun j t e wt=>?_,fun j d b e eb=>?_,fun j b e=>?_,fun j d e=>?_,fun j k t u b e1 w1 e2 w2 e3 e4=>?_⟩
 ·rcases get_set e with ⟨rfl,z⟩ | ⟨n,z⟩
  ·cases z
  ·exact R.fz j d z
 ·rcases get_set e with ⟨rfl,z⟩ | ⟨n,z⟩
  ·cases z
  ·exact R.ow j t z wt
 ·rcases get_set e with ⟨rfl,z⟩ | ⟨n,z⟩
  ·cases z
  ·exact R.new j d b z eb
 ·obtain ⟨d',e1,e2⟩:=R.io j b e
  have n:i ≠ j:=fun z=>by subst z; rw [h] at e1; cases e1
  exact ⟨d',by rw [List.getElem?_set_ne n]; exact e1,e2⟩
 ·rcases get_set e with ⟨rfl,z⟩ | ⟨n,z⟩
  ·cases z
  ·exact R.ioi j d z
 ·rcases get_set e1 with ⟨rfl,z⟩ | ⟨n,z⟩
  ·cases z
  ·rcases get_set e2 with ⟨rfl,z'⟩ | ⟨n',z'⟩
   ·cases z'
   ·exact R.ap j k t u b z w1 z' w2 e3 e4
theorem Rel.freeze (R:Rel K G F σ H ρ) {i:Nat} (h:ρ[i]? = some (some (Sl.ow d))):∃ F' v,Sub F F' /\ Rel K G F' σ H (ρ.set i (some (Sl.fz d))) /\ σ[i]? = some (some v) /\ Da K F' v d:=by
 obtain ⟨a,o,h1,h2,h3,h4⟩:=R.ow i _ h rfl
 have hl:=lt_of_get h
 have R1:=R.forget h
 have hn:∀ (j:Nat) (s:Sl),(ρ.set i none)[j]? = some (some s) -> isOw s = true -> σ[j]? ≠ some (some (V.ref a)):=fun j s e w z=>by
  rcases get_set e with ⟨rfl,q⟩ | ⟨n,q⟩
  ·cases q
  ·exact n (R.ap j i s _ a q w h rfl z h1)
 obtain ⟨sb,R2⟩:=R1.grow (R.new i d a h h1) h3 hn
 have dd:Da K (upd F a o) (.ref a) d:=(h4.mono sb).da upd_same
 refine ⟨_,_,sb,?_,h1,dd⟩
 refine ⟨by rw [List.length_set]; exact R.len,R2.sub,R2.sub0,R2.fn,R2.keep,fun j d' e=>?_,fun j t e wt=>?_,fun j d b e eb=>?_,fun j b e=>?_,fun j d e=>?_,fun j k t u b e1 w1 e2 w2 e3 e4=>?_⟩
 ·rcases get_set e with ⟨rfl,z⟩ | ⟨n,z⟩
  ·cases z; exact ⟨_,h1,dd⟩
  ·exact R2.fz j d' (by rw [List.getElem?_set_ne (Ne.symm n)]; exact z)
 ·rcases get_set e with ⟨rfl,z⟩ | ⟨n,z⟩
  ·cases z; cases wt
  ·exact R2.ow j t (by rw [List.getElem?_set_ne (Ne.symm n)]; exact z) wt
 ·rcases get_set e with ⟨rfl,z⟩ | ⟨n,z⟩
  ·cases z
  ·exact R.new j d b z eb
 ·obtain ⟨d',e1,e2⟩:=R.io j b e
  have n:i ≠ j:=fun z=>by subst z; rw [h] at e1; cases e1
  exact ⟨d',by rw [List.getElem?_set_ne n]; exact e1,e2⟩
 ·rcases get_set e with ⟨rfl,z⟩ | ⟨n,z⟩
  ·cases z
  ·exact R.ioi j d z
 ·rcases get_set e1 with ⟨rfl,z⟩ | ⟨n,z⟩
  ·cases z; cases w1
  ·rcases get_set e2 with ⟨rfl,z'⟩ | ⟨n',z'⟩
   ·cases z'; cases w2
   ·exact R.ap j k t u b z w1 z' w2 e3 e4
theorem Rel.forgetRes (R:Rel K G F σ H ρ) {i:Nat} (h:ρ[i]? = some (some (Sl.ow d))):∃ v,σ[i]? = some (some v) /\ Res K G F H σ (ρ.set i none) v (.ow d):=by
 obtain ⟨a,o,h1,h2,h3,h4⟩:=R.ow i _ h rfl
 refine ⟨_,h1,a,o,rfl,h2,h3,h4,R.new i d a h h1,fun j s e w z=>?_⟩
 rcases get_set e with ⟨rfl,q⟩ | ⟨n,q⟩
 ·cases q
 ·exact n (R.ap j i s _ a q w h rfl z h1)
noncomputable def noIo (ρ:Ev) (i:Nat):Prop:=match ρ[i]? with
 | some (some (Sl.io _))=>False
 | some _=>True
 | none=>False
theorem Rel.asg (R:Rel K G F σ H ρ) {i:Nat} (hi:noIo ρ i) (r:Res K G F H σ ρ v s):Rel K G F (σ.set i (some v)) H (ρ.set i (some s)):=by
 have hl:i < ρ.length:=by
  cases e:ρ[i]? with
  | none=>unfold noIo at hi; rw [e] at hi; exact hi.elim
  | some x=>exact lt_of_get e
 have hl':i < σ.length:=by rw [R.len]; exact hl
 have ni:∀ d,ρ[i]? ≠ some (some (Sl.io d)):=fun d e=>by unfold noIo at hi; rw [e] at hi; exact hi
 refine ⟨by rw [List.length_set,List.length_set]; exact R.len,R.sub,R.sub0,R.fn,R.keep,fun j d e=>?_,fun j t e wt=>?_,fun j d b e eb=>?_,fun j b e=>?_,fun j d e=>?_,fun j k t u b e1 w1 e2 w2 e3 e4=>?_⟩
 ·rcases get_set e with ⟨rfl,z⟩ | ⟨n,z⟩
  ·cases z; exact ⟨v,set_get hl',r⟩
  ·rw [List.getElem?_set_ne (Ne.symm n)]; exact R.fz j d z
 ·rcases get_set e with ⟨rfl,z⟩ | ⟨n,z⟩
  ·cases z
   cases s with
   | fz d=>cases wt
   | ow d =>
    obtain ⟨a,o,rfl,h1,h2,h3,_⟩:=r
    exact ⟨a,o,set_get hl',h1,h2,h3⟩
   | io d=>exact r.elim
  ·rw [List.getElem?_set_ne (Ne.symm n)]; exact R.ow j t z wt
 ·rcases get_set e with ⟨rfl,z⟩ | ⟨n,z⟩
  ·cases z
   obtain ⟨a,o,rfl,h1,h2,h3,h4,_⟩:=r
   rw [set_get hl'] at eb; cases eb
   exact h4
  ·rw [List.getElem?_set_ne (Ne.symm n)] at eb; exact R.new j d b z eb
 ·obtain ⟨d,e1,e2⟩:=R.io j b e
  have n:i ≠ j:=fun z=>by subst z; exact ni d e1
  exact ⟨d,by rw [List.getElem?_set_ne n]; exact e1,by rw [List.getElem?_set_ne n]; exact e2⟩
 ·rcases get_set e with ⟨rfl,z⟩ | ⟨n,z⟩
  ·cases z; exact r.elim
  ·exact R.ioi j d z
 ·have own:∀ (j:Nat) (t:Sl),j ≠ i -> ρ[j]? = some (some t) -> isOw t = true -> (σ.set i (some v))[j]? = some (some (V.ref b)) -> s.d = s.d -> isOw s = true -> v = .ref b -> False:=fun j t n e w eb _ ws ev=>by
   subst ev
   cases s with
   | fz d=>cases ws
   | io d=>exact r
   | ow d =>
    obtain ⟨a,o,z,h1,h2,h3,h4,h5⟩:=r
    cases z
    rw [List.getElem?_set_ne (Ne.symm n)] at eb
    exact h5 j t e w eb
  rcases get_set e1 with ⟨rfl,z⟩ | ⟨n,z⟩
  ·rcases get_set e2 with ⟨rfl,z'⟩ | ⟨n',z'⟩
   ·rfl
   ·rw [set_get hl'] at e3; cases e3
    cases z
    exact (own k u n' z' w2 e4 rfl w1 rfl).elim
  ·rcases get_set e2 with ⟨rfl,z'⟩ | ⟨n',z'⟩
   ·rw [set_get hl'] at e4; cases e4
    cases z'
    exact (own j t n z w1 e3 rfl w2 rfl).elim
   ·rw [List.getElem?_set_ne (Ne.symm n)] at e3
    rw [List.getElem?_set_ne (Ne.symm n')] at e4
    exact R.ap j k t u b z w1 z' w2 e3 e4
end
end L3
namespace L3
open PySem PySem.Spec L2
noncomputable abbrev TD:=Ev -> (Sl -> Ev -> Prop) -> Prop
noncomputable abbrev TTD:=Ev -> (Bool -> Ev -> Prop) -> Prop
noncomputable abbrev Opd:=Sum Nat D
noncomputable abbrev AD:=Sum Nat TD
noncomputable def lift (K:Fg) (td:TD):TE:=fun σ H Q=>∃ (G:Gh) (F:Hp) (ρ:Ev) (Qd:Sl -> Ev -> Prop),Rel K G F σ H ρ /\ td ρ Qd /\
 ∀ v H' F' r ρ',Sub F F' -> Rel K G F' σ H' ρ' -> Res K G F' H' σ ρ' v r -> Qd r ρ' -> Q v H'
noncomputable def liftT (K:Fg) (tc:TTD):TT:=fun σ H Q=>∃ (G:Gh) (F:Hp) (ρ:Ev) (Qd:Bool -> Ev -> Prop),Rel K G F σ H ρ /\ tc ρ Qd /\
 ∀ b H' F' ρ',Sub F F' -> Rel K G F' σ H' ρ' -> Qd b ρ' -> Q b H'
noncomputable def argT (K:Fg):AD -> TE
 | .inl i=>tVar i
 | .inr td=>lift K td
noncomputable def tArgs:List TE -> TA
 | []=>tNil
 | t :: ts=>tCons t (tArgs ts)
theorem argT_mono {K:Fg} {a:AD} {σ:St} {H:Hp} {Q Q':VK} (m:∀ v H,Q v H -> Q' v H) (h:argT K a σ H Q):argT K a σ H Q':=by
 cases a with
 | inl i=>obtain ⟨v,e,q⟩:=h; exact ⟨v,e,m _ _ q⟩
 | inr td =>
  obtain ⟨G,F,ρ,Qd,R,w,k⟩:=h
  exact ⟨G,F,ρ,Qd,R,w,fun v H' F' r ρ' s R' r' q=>m _ _ (k v H' F' r ρ' s R' r' q)⟩
theorem arg1 {K:Fg} {a:AD} {σ:St} {H:Hp} {P:VK} (h:tArgs ([a].map (argT K)) σ H fun vs H2=>∃ x,vs = [x] /\ P x H2):argT K a σ H P :=
 argT_mono (fun v H q=>by obtain ⟨x,e,q⟩:=q; cases e; exact q) h
theorem arg2 {K:Fg} {a b:AD} {σ:St} {H:Hp} {P:V -> V -> Hp -> Prop} (h:tArgs ([a,b].map (argT K)) σ H fun vs H2=>∃ x y,vs = [x,y] /\ P x y H2):argT K a σ H fun x H1=>argT K b σ H1 fun y H2=>P x y H2 :=
 argT_mono (fun v H q=>argT_mono (fun u H q=>by obtain ⟨x,y,e,q⟩:=q; cases e; exact q) q) h
noncomputable def dVar (i:Nat):TD:=fun ρ Q=>match ρ[i]? with
 | some (some (.fz d))=>Q (.fz d) ρ
 | some (some (.ow d))=>Q (.fz d) (ρ.set i (some (.fz d)))
 | _=>False
noncomputable def dC (d:D):TD:=fun ρ Q=>Q (.fz d) ρ
section
variable {K:Fg} {σ:St} {H:Hp} {Q:VK}
theorem l_var {i:Nat} (h:lift K (dVar i) σ H Q):tVar i σ H Q:=by
 obtain ⟨G,F,ρ,Qd,R,w,k⟩:=h
 unfold dVar at w
 split at w
 ·rename_i d e
  obtain ⟨v,e1,h1⟩:=R.fz i d e
  exact ⟨v,e1,k v H F (.fz d) ρ (Sub.refl _) R h1 w⟩
 ·rename_i d e
  obtain ⟨F',v,sb,R',e1,h1⟩:=R.freeze e
  exact ⟨v,e1,k v H F' (.fz d) _ sb R' h1 w⟩
 ·exact w.elim
theorem l_c {v:V} {d:D} (hv:∀ F,Da K F v d) (h:lift K (dC d) σ H Q):tC v σ H Q:=by
 obtain ⟨G,F,ρ,Qd,R,w,k⟩:=h
 exact k v H F (.fz d) ρ (Sub.refl _) R (hv F) w
end
noncomputable def OpdAt (K:Fg) (F:Hp) (σ:St) (v:V):Opd -> Prop
 | .inl i=>σ[i]? = some (some v)
 | .inr d=>Da K F v d
inductive OpdsAt (K:Fg) (F:Hp) (σ:St):List V -> List Opd -> Prop
 | nil:OpdsAt K F σ [] []
 | cons {v x vs xs}:OpdAt K F σ v x -> OpdsAt K F σ vs xs -> OpdsAt K F σ (v :: vs) (x :: xs)
noncomputable def dArgs:List AD -> Ev -> (List Opd -> Ev -> Prop) -> Prop
 | [],ρ,Q=>Q [] ρ
 | .inl i :: as,ρ,Q=>match ρ[i]? with
  | some (some _)=>dArgs as ρ fun xs ρ'=>Q (.inl i :: xs) ρ'
  | _=>False
 | .inr td :: as,ρ,Q=>td ρ fun r ρ1=>dArgs as ρ1 fun xs ρ2=>Q (.inr r.d :: xs) ρ2
theorem args_okL {K:Fg} {G:Gh} {σ:St}:∀ {as:List AD} {F H:Hp} {ρ:Ev} {Qd:List Opd -> Ev -> Prop} {Qv:List V -> Hp -> Prop},Rel K G F σ H ρ -> dArgs as ρ Qd ->
  (∀ vs H' F' xs ρ',Sub F F' -> Rel K G F' σ H' ρ' -> OpdsAt K F' σ vs xs -> vs.length = as.length -> Qd xs ρ' -> Qv vs H') -> tArgs (as.map (argT K)) σ H Qv
 | [],F,H,ρ,Qd,Qv,R,w,k=>k [] H F [] ρ (Sub.refl _) R .nil rfl w
 | .inl i :: as,F,H,ρ,Qd,Qv,R,w,k=>by
  unfold dArgs at w
  split at w
  ·rename_i s e
   obtain ⟨v,ev⟩:=R.bound e
   refine ⟨v,ev,args_okL (as:=as) R w fun vs H' F' xs ρ' sb R' o hl q=>?_⟩
   exact k (v :: vs) H' F' (.inl i :: xs) ρ' sb R' (.cons ev o) (by simp [hl]) q
  ·exact w.elim
 | .inr td :: as,F,H,ρ,Qd,Qv,R,w,k=>by
  refine ⟨G,F,ρ,_,R,w,fun v H1 F1 r ρ1 s1 R1 r1 w1=>?_⟩
  obtain ⟨F2,s2,R2,d2⟩:=r1.frz R1
  refine args_okL (as:=as) R2 w1 fun vs H' F' xs ρ' sb R' o hl q=>?_
  exact k (v :: vs) H' F' (.inr r.d :: xs) ρ' (s1.trans (s2.trans sb)) R' (.cons (d2.mono sb) o) (by simp [hl]) q
theorem args_ok {K:Fg} {G:Gh} {σ:St} {as:List AD} {F H:Hp} {ρ:Ev} {Qd:List Opd -> Ev -> Prop} {Qv:List V -> Hp -> Prop} (R:Rel K G F σ H ρ) (w:dArgs as ρ Qd)
  (k:∀ vs H' F' xs ρ',Sub F F' -> Rel K G F' σ H' ρ' -> OpdsAt K F' σ vs xs -> Qd xs ρ' -> Qv vs H'):tArgs (as.map (argT K)) σ H Qv:=args_okL R w fun vs H' F' xs ρ' s R' o _ q=>k vs H' F' xs ρ' s R' o q
noncomputable def At (K:Fg) (F H:Hp) (v:V) (d:D):Prop:=Da K F v d \/ ∃ a o,v = .ref a /\ F a = none /\ H a = some o /\ Own1 K F o d
inductive AtAll (K:Fg) (F H:Hp):List V -> List D -> Prop
 | nil:AtAll K F H [] []
 | cons {v d vs ds}:At K F H v d -> AtAll K F H vs ds -> AtAll K F H (v :: vs) (d :: ds)
noncomputable def look (ρ:Ev):Opd -> Option D
 | .inl i=>match ρ[i]? with
  | some (some s)=>some s.d
  | _=>none
 | .inr d=>some d
noncomputable def looksQ (ρ:Ev):List Opd -> (List D -> Prop) -> Prop
 | [],k=>k []
 | .inr d :: xs,k=>looksQ ρ xs fun ds=>k (d :: ds)
 | .inl i :: xs,k=>match ρ[i]? with
  | some (some s)=>looksQ ρ xs fun ds=>k (s.d :: ds)
  | _=>False
section
variable {K:Fg} {G:Gh} {F H:Hp} {σ:St} {ρ:Ev}
theorem Rel.at (R:Rel K G F σ H ρ) {i:Nat} {s:Sl} {v:V} (e:ρ[i]? = some (some s)) (ev:σ[i]? = some (some v)):At K F H v s.d:=by
 cases s with
 | fz d =>
  obtain ⟨v',e1,h1⟩:=R.fz i d e
  rw [ev] at e1; cases e1
  exact .inl h1
 | ow d =>
  obtain ⟨a,o,h1,h2,h3,h4⟩:=R.ow i _ e rfl
  rw [ev] at h1; cases h1
  exact .inr ⟨a,o,rfl,h2,h3,h4⟩
 | io d =>
  obtain ⟨a,o,h1,h2,h3,h4⟩:=R.ow i _ e rfl
  rw [ev] at h1; cases h1
  exact .inr ⟨a,o,rfl,h2,h3,h4⟩
theorem looks_ok (R:Rel K G F σ H ρ) {xs:List Opd} {vs:List V} {k:List D -> Prop} (o:OpdsAt K F σ vs xs) (h:looksQ ρ xs k):∃ ds,AtAll K F H vs ds /\ k ds:=by
 induction o generalizing k with
 | nil=>exact ⟨[],.nil,h⟩
 | @cons v x vs xs o t ih =>
  cases x with
  | inr d =>
   obtain ⟨ds,a,q⟩:=ih (k:=fun ds=>k (d :: ds)) h
   exact ⟨d :: ds,.cons (.inl o) a,q⟩
  | inl i =>
   unfold looksQ at h
   split at h
   ·rename_i s e
    obtain ⟨ds,a,q⟩:=ih (k:=fun ds=>k (s.d :: ds)) h
    exact ⟨s.d :: ds,.cons (R.at e o) a,q⟩
   ·exact h.elim
end
noncomputable def dOp (as:List AD) (f:List D -> (Sl -> Prop) -> Prop):TD:=fun ρ Q=>dArgs as ρ fun xs ρ1=>looksQ ρ1 xs fun ds=>f ds fun r=>Q r ρ1
noncomputable def OpOk (K:Fg) (r:List V -> Hp -> VK -> Prop) (f:List D -> (Sl -> Prop) -> Prop):Prop :=
 ∀ (G:Gh) (F:Hp) (σ:St) (H:Hp) (ρ:Ev) (vs:List V) (ds:List D) (Q:VK) (Qd:Sl -> Prop),Rel K G F σ H ρ -> AtAll K F H vs ds -> f ds Qd ->
  (∀ v H' F' s,Sub F F' -> Rel K G F' σ H' ρ -> Res K G F' H' σ ρ v s -> Qd s -> Q v H') -> r vs H Q
theorem l_op {K:Fg} {as:List AD} {r:List V -> Hp -> VK -> Prop} {f:List D -> (Sl -> Prop) -> Prop} (ok:OpOk K r f) {σ:St} {H:Hp} {Q:VK} (h:lift K (dOp as f) σ H Q):tArgs (as.map (argT K)) σ H fun vs H1=>r vs H1 Q:=by
 obtain ⟨G,F,ρ,Qd,R,w,k⟩:=h
 refine args_ok R w fun vs H' F' xs ρ' sb R' o q=>?_
 obtain ⟨ds,ha,q⟩:=looks_ok R' o q
 exact ok G F' σ H' ρ' vs ds Q _ R' ha q fun v H2 F2 s s2 R2 r2 q2=>k v H2 F2 s ρ' (sb.trans s2) R2 r2 q2
noncomputable def o1 (f:D -> (Sl -> Prop) -> Prop):List D -> (Sl -> Prop) -> Prop
 | [x],Q=>f x Q
 | _,_=>False
noncomputable def o2 (f:D -> D -> (Sl -> Prop) -> Prop):List D -> (Sl -> Prop) -> Prop
 | [x,y],Q=>f x y Q
 | _,_=>False
noncomputable def o3 (f:D -> D -> D -> (Sl -> Prop) -> Prop):List D -> (Sl -> Prop) -> Prop
 | [x,y,z],Q=>f x y z Q
 | _,_=>False
noncomputable def dTst (td:TD):TTD:=fun ρ Q=>td ρ fun r ρ'=>match r with
 | .fz (.bool b)=>Q b ρ'
 | _=>False
noncomputable def dNot (c:TTD):TTD:=fun ρ Q=>c ρ fun b ρ'=>Q (!b) ρ'
noncomputable def dAnd (c e:TTD):TTD:=fun ρ Q=>c ρ fun b ρ'=>if b = true then e ρ' Q else Q false ρ'
noncomputable def dOr (c e:TTD):TTD:=fun ρ Q=>c ρ fun b ρ'=>if b = true then Q true ρ' else e ρ' Q
noncomputable def dYes:TTD:=fun ρ Q=>Q true ρ
section
variable {K:Fg} {σ:St} {H:Hp}
theorem l_tst {td:TD} {t:TE} (ht:∀ {σ H Q},lift K td σ H Q -> t σ H Q) {Q:Bool -> Hp -> Prop} (h:liftT K (dTst td) σ H Q):tTest t σ H Q:=by
 obtain ⟨G,F,ρ,Qd,R,w,k⟩:=h
 refine ht ⟨G,F,ρ,_,R,w,fun v H' F' r ρ' sb R' r' q=>?_⟩
 split at q
 ·rename_i b
  cases r'
  exact ⟨b,rfl,k b H' F' ρ' sb R' q⟩
 ·exact q.elim
theorem l_not {c:TTD} {Q:Bool -> Hp -> Prop} (h:liftT K (dNot c) σ H Q):tNot (liftT K c) σ H Q:=by
 obtain ⟨G,F,ρ,Qd,R,w,k⟩:=h
 exact ⟨G,F,ρ,_,R,w,fun b H' F' ρ' sb R' q=>k (!b) H' F' ρ' sb R' q⟩
theorem l_and {c e:TTD} {Q:Bool -> Hp -> Prop} (h:liftT K (dAnd c e) σ H Q):tAnd (liftT K c) (liftT K e) σ H Q:=by
 obtain ⟨G,F,ρ,Qd,R,w,k⟩:=h
 refine ⟨G,F,ρ,_,R,w,fun b H' F' ρ' sb R' q=>?_⟩
 cases b with
 | true=>exact ⟨G,F',ρ',Qd,R',q,fun b H2 F2 ρ2 s2 R2 q2=>k b H2 F2 ρ2 (sb.trans s2) R2 q2⟩
 | false=>exact k false H' F' ρ' sb R' q
theorem l_or {c e:TTD} {Q:Bool -> Hp -> Prop} (h:liftT K (dOr c e) σ H Q):tOr (liftT K c) (liftT K e) σ H Q:=by
 obtain ⟨G,F,ρ,Qd,R,w,k⟩:=h
 refine ⟨G,F,ρ,_,R,w,fun b H' F' ρ' sb R' q=>?_⟩
 cases b with
 | true=>exact k true H' F' ρ' sb R' q
 | false=>exact ⟨G,F',ρ',Qd,R',q,fun b H2 F2 ρ2 s2 R2 q2=>k b H2 F2 ρ2 (sb.trans s2) R2 q2⟩
theorem l_yes {Q:Bool -> Hp -> Prop} (h:liftT K dYes σ H Q):tYes σ H Q:=by
 obtain ⟨G,F,ρ,Qd,R,w,k⟩:=h
 exact k true H F ρ (Sub.refl _) R w
end
noncomputable def dAndV (a b:TD):TD:=fun ρ Q=>a ρ fun r ρ'=>match r with
 | .fz (.bool c)=>if c = true then b ρ' Q else Q (.fz (.bool false)) ρ'
 | _=>False
noncomputable def dNotV (a:TD):TD:=fun ρ Q=>a ρ fun r ρ'=>match r with
 | .fz (.bool c)=>Q (.fz (.bool (!c))) ρ'
 | _=>False
section
variable {K:Fg} {σ:St} {H:Hp} {Q:VK} {a b:TD} {c:TTD}
theorem l_andV (h:lift K (dAndV a b) σ H Q):tAndV (lift K a) (lift K b) σ H Q:=by
 obtain ⟨G,F,ρ,Qd,R,w,k⟩:=h
 refine ⟨G,F,ρ,_,R,w,fun v H' F' r ρ' sb R' r' q=>?_⟩
 split at q
 ·rename_i c
  cases r'
  refine ⟨c,rfl,?_⟩
  cases c with
  | true=>exact ⟨G,F',ρ',Qd,R',q,fun v H2 F2 r ρ2 s2 R2 r2 q2=>k v H2 F2 r ρ2 (sb.trans s2) R2 r2 q2⟩
  | false=>exact k _ H' F' (.fz (.bool false)) ρ' sb R' (Da.bl false) q
 ·exact q.elim
theorem l_notV (h:lift K (dNotV a) σ H Q):tNotV (lift K a) σ H Q:=by
 obtain ⟨G,F,ρ,Qd,R,w,k⟩:=h
 refine ⟨G,F,ρ,_,R,w,fun v H' F' r ρ' sb R' r' q=>?_⟩
 split at q
 ·rename_i c
  cases r'
  exact ⟨c,rfl,k _ H' F' (.fz (.bool (!c))) ρ' sb R' (Da.bl (!c)) q⟩
 ·exact q.elim
end
theorem noIo_of {ρ:Ev} {i:Nat} {P:Prop} (h:match ρ[i]? with | some (some (.io _))=>False | some _=>P | none=>False):noIo ρ i /\ P:=by
 unfold noIo
 cases e:ρ[i]? with
 | none=>rw [e] at h; exact h.elim
 | some x =>
  rw [e] at h
  cases x with
  | none=>exact ⟨trivial,h⟩
  | some s=>cases s with
   | fz d=>exact ⟨trivial,h⟩
   | ow d=>exact ⟨trivial,h⟩
   | io d=>exact h.elim
structure DE where
 nx:Ev -> Prop
 rt:Sl -> Ev -> Prop
 bk:Ev -> Prop
 ct:Ev -> Prop
noncomputable abbrev TDS:=DE -> Ev -> Prop
noncomputable def liftS (K:Fg) (ts:TDS):TS:=fun D σ H=>∃ (G:Gh) (F:Hp) (ρ:Ev) (E:DE),Rel K G F σ H ρ /\ ts E ρ /\
 (∀ σ' H' F' ρ',Sub F F' -> Rel K G F' σ' H' ρ' -> E.nx ρ' -> D.nx σ' H') /\
 (∀ v σ' H' F' r ρ',Sub F F' -> Rel K G F' σ' H' ρ' -> Res K G F' H' σ' ρ' v r -> E.rt r ρ' -> D.rt v H') /\
 (∀ σ' H' F' ρ',Sub F F' -> Rel K G F' σ' H' ρ' -> E.bk ρ' -> D.bk σ' H') /\
 (∀ σ' H' F' ρ',Sub F F' -> Rel K G F' σ' H' ρ' -> E.ct ρ' -> D.ct σ' H')
noncomputable def dNext:TDS:=fun E ρ=>E.nx ρ
noncomputable def dSeq (t u:TDS):TDS:=fun E ρ=>t { nx:=fun ρ'=>u E ρ',rt:=E.rt,bk:=E.bk,ct:=E.ct } ρ
noncomputable def dRet (a:TD):TDS:=fun E ρ=>a ρ E.rt
noncomputable def dDrop (a:TD):TDS:=fun E ρ=>a ρ fun _ ρ'=>E.nx ρ'
noncomputable def dIfS (c:TTD) (t u:TDS):TDS:=fun E ρ=>c ρ fun b ρ'=>if b = true then t E ρ' else u E ρ'
noncomputable def dSet (i:Nat) (a:TD):TDS:=fun E ρ=>a ρ fun r ρ'=>match ρ'[i]? with
 | some (some (.io _))=>False
 | some _=>E.nx (ρ'.set i (some r))
 | none=>False
section
variable {K:Fg} {σ:St} {H:Hp} {E:Ends} {t u:TDS} {a:TD} {c:TTD}
theorem l_next (h:liftS K dNext E σ H):tNext E σ H:=by
 obtain ⟨G,F,ρ,D,R,w,n,r,b,c⟩:=h
 exact n σ H F ρ (Sub.refl _) R w
theorem later {G:Gh} {F F1 H1:Hp} {ρ1:Ev} {σ1:St} {D:DE} {ts:TDS} (s:Sub F F1) (R:Rel K G F1 σ1 H1 ρ1) (w:ts D ρ1)
  (n:∀ σ' H' F' ρ',Sub F F' -> Rel K G F' σ' H' ρ' -> D.nx ρ' -> E.nx σ' H')
  (r:∀ v σ' H' F' r ρ',Sub F F' -> Rel K G F' σ' H' ρ' -> Res K G F' H' σ' ρ' v r -> D.rt r ρ' -> E.rt v H')
  (b:∀ σ' H' F' ρ',Sub F F' -> Rel K G F' σ' H' ρ' -> D.bk ρ' -> E.bk σ' H')
  (c:∀ σ' H' F' ρ',Sub F F' -> Rel K G F' σ' H' ρ' -> D.ct ρ' -> E.ct σ' H'):liftS K ts E σ1 H1 :=
 ⟨G,F1,ρ1,D,R,w,fun _ _ _ _ s' R' q=>n _ _ _ _ (s.trans s') R' q,fun _ _ _ _ _ _ s' R' r' q=>r _ _ _ _ _ _ (s.trans s') R' r' q,
   fun _ _ _ _ s' R' q=>b _ _ _ _ (s.trans s') R' q,fun _ _ _ _ s' R' q=>c _ _ _ _ (s.trans s') R' q⟩
theorem l_seq (h:liftS K (dSeq t u) E σ H):tSeq (liftS K t) (liftS K u) E σ H:=by
 obtain ⟨G,F,ρ,D,R,w,n,r,b,c⟩:=h
 exact ⟨G,F,ρ,_,R,w,fun σ' H' F' ρ' s R' q=>later s R' q n r b c,r,b,c⟩
theorem l_ret (h:liftS K (dRet a) E σ H):tRet (lift K a) E σ H:=by
 obtain ⟨G,F,ρ,D,R,w,n,r,b,c⟩:=h
 exact ⟨G,F,ρ,_,R,w,fun v H' F' x ρ' s R' r' q=>r v σ H' F' x ρ' s R' r' q⟩
theorem l_drop (h:liftS K (dDrop a) E σ H):tDrop (lift K a) E σ H:=by
 obtain ⟨G,F,ρ,D,R,w,n,r,b,c⟩:=h
 exact ⟨G,F,ρ,_,R,w,fun v H' F' x ρ' s R' r' q=>n σ H' F' ρ' s R' q⟩
theorem l_ifS (h:liftS K (dIfS c t u) E σ H):tIfS (liftT K c) (liftS K t) (liftS K u) E σ H:=by
 obtain ⟨G,F,ρ,D,R,w,n,r,b,c⟩:=h
 refine ⟨G,F,ρ,_,R,w,fun x H' F' ρ' s R' q=>?_⟩
 cases x with
 | true=>exact later s R' q n r b c
 | false=>exact later s R' q n r b c
theorem l_set {i:Nat} (h:liftS K (dSet i a) E σ H):tAsg (lift K a) (gName i) E σ H:=by
 obtain ⟨G,F,ρ,D,R,w,n,r,b,c⟩:=h
 refine ⟨G,F,ρ,_,R,w,fun v H' F' x ρ' s R' r' q=>?_⟩
 have hn:=noIo_of q
 exact n _ H' F' _ s (R'.asg hn.1 r') hn.2
end
noncomputable def dRetV (i:Nat):TDS:=fun E ρ=>match ρ[i]? with
 | some (some (.fz d))=>E.rt (.fz d) ρ
 | some (some (.ow d))=>E.rt (.ow d) (ρ.set i none)
 | _=>False
noncomputable def dMove (i j:Nat):TDS:=fun E ρ=>match ρ[j]? with
 | some (some (.fz d))=>(match ρ[i]? with
   | some (some (.io _))=>False
   | some _=>E.nx (ρ.set i (some (.fz d)))
   | none=>False)
 | some (some (.ow d))=>(match (ρ.set j none)[i]? with
   | some (some (.io _))=>False
   | some _=>E.nx ((ρ.set j none).set i (some (.ow d)))
   | none=>False)
 | _=>False
section
variable {K:Fg} {σ:St} {H:Hp} {E:Ends}
theorem l_retV {i:Nat} (h:liftS K (dRetV i) E σ H):tRet (tVar i) E σ H:=by
 obtain ⟨G,F,ρ,D,R,w,n,r,b,c⟩:=h
 unfold dRetV at w
 split at w
 ·rename_i d e
  obtain ⟨v,e1,h1⟩:=R.fz i d e
  exact ⟨v,e1,r v σ H F (.fz d) ρ (Sub.refl _) R h1 w⟩
 ·rename_i d e
  obtain ⟨v,e1,h1⟩:=R.forgetRes e
  exact ⟨v,e1,r v σ H F (.ow d) _ (Sub.refl _) (R.forget e) h1 w⟩
 ·exact w.elim
theorem l_move {i j:Nat} (h:liftS K (dMove i j) E σ H):tAsg (tVar j) (gName i) E σ H:=by
 obtain ⟨G,F,ρ,D,R,w,n,r,b,c⟩:=h
 unfold dMove at w
 split at w
 ·rename_i d e
  obtain ⟨v,e1,h1⟩:=R.fz j d e
  obtain ⟨hn,w⟩:=noIo_of w
  exact ⟨v,e1,n _ H F _ (Sub.refl _) (R.asg (s:=.fz d) hn h1) w⟩
 ·rename_i d e
  obtain ⟨v,e1,h1⟩:=R.forgetRes e
  obtain ⟨hn,w⟩:=noIo_of w
  exact ⟨v,e1,n _ H F _ (Sub.refl _) ((R.forget e).asg (s:=.ow d) hn h1) w⟩
 ·exact w.elim
end
noncomputable abbrev TDG:=D -> Ev -> (Ev -> Prop) -> Prop
noncomputable def liftG (K:Fg) (g:TDG):TG:=fun v σ H Q=>∃ (G:Gh) (F:Hp) (ρ:Ev) (d:D) (Qd:Ev -> Prop),Rel K G F σ H ρ /\ Da K F v d /\ g d ρ Qd /\ ∀ σ' ρ',Rel K G F σ' H ρ' -> Qd ρ' -> Q σ' H
noncomputable def dGN (i:Nat):TDG:=fun d ρ Q=>match ρ[i]? with
 | some (some (.io _))=>False
 | some _=>Q (ρ.set i (some (.fz d)))
 | none=>False
noncomputable def dGs:List TDG -> List D -> Ev -> (Ev -> Prop) -> Prop
 | [],[],ρ,Q=>Q ρ
 | g :: gs,d :: ds,ρ,Q=>g d ρ fun ρ'=>dGs gs ds ρ' Q
 | _,_,_,_=>False
noncomputable def dGT (gs:List TDG):TDG:=fun d ρ Q=>match d with
 | .tuple ds=>ds.length = gs.length /\ dGs gs ds ρ Q
 | _=>False
noncomputable def gAll:List TG -> TGs
 | []=>gNil
 | g :: gs=>gCons g (gAll gs)
section
variable {K:Fg} {σ:St} {H:Hp} {v:V} {Q:St -> Hp -> Prop}
theorem l_gn {i:Nat} (h:liftG K (dGN i) v σ H Q):gName i v σ H Q:=by
 obtain ⟨G,F,ρ,d,Qd,R,hd,w,k⟩:=h
 obtain ⟨hn,w⟩:=noIo_of w
 exact k _ _ (R.asg (s:=.fz d) hn hd) w
theorem l_gs {G:Gh} {F:Hp}:∀ {gs:List TDG} {ds:List D} {vs:List V} {σ:St} {ρ:Ev} {Qd:Ev -> Prop},Rel K G F σ H ρ -> DaAll K F vs ds -> dGs gs ds ρ Qd -> (∀ σ' ρ',Rel K G F σ' H ρ' -> Qd ρ' -> Q σ' H) -> gAll (gs.map (liftG K)) vs σ H Q
 | [],[],_,σ,ρ,Qd,R,.nil,w,k=>⟨rfl,k σ ρ R w⟩
 | g :: gs,d :: ds,_,σ,ρ,Qd,R,.cons h t,w,k=>⟨_,_,rfl,G,F,ρ,d,_,R,h,w,fun σ' ρ' R' w'=>l_gs (gs:=gs) R' t w' k⟩
 | [],_ :: _,_,σ,ρ,Qd,R,_,w,k=>by exact w.elim
 | _ :: _,[],_,σ,ρ,Qd,R,_,w,k=>by exact w.elim
theorem l_gt {gs:List TDG} {n:Nat} (hn:gs.length = n) (h:liftG K (dGT gs) v σ H Q):gTup K n (gAll (gs.map (liftG K))) v σ H Q:=by
 obtain ⟨G,F,ρ,d,Qd,R,hd,w,k⟩:=h
 unfold dGT at w
 split at w
 ·cases hd with
  | tup e t=>exact ⟨_,_,rfl,SqT.of (R.sub _ _ e),by rw [t.length,w.1,hn],l_gs R t w.2 k⟩
 ·exact w.elim
end
end L3
namespace L3
open PySem PySem.Spec L2
noncomputable def Walks (K:Fg) (J:It) (F:Hp) (ds:List D):Prop:=∀ (i:Nat) (H F1:Hp),Sub F F1 -> Sub F1 H ->
 (∀ d,ds[i]? = some d -> J.go i H /\ ∀ x H',J.yld i H x H' -> ∃ F2,Sub F1 F2 /\ (∀ b o,F2 b = some o -> F1 b = some o \/ H b = none) /\ Sub F2 H' /\ Sub H H' /\ Da K F2 x d) /\ (ds.length = i -> J.stop i H)
noncomputable abbrev TDI:=Ev -> (List D -> Ev -> Prop) -> Prop
noncomputable def liftI (K:Fg) (ti:TDI):TI:=fun σ H R=>∃ (G:Gh) (F:Hp) (ρ:Ev) (Qd:List D -> Ev -> Prop),Rel K G F σ H ρ /\ ti ρ Qd /\
 ∀ J H' F' ds ρ',Sub F F' -> Rel K G F' σ H' ρ' -> Walks K J F' ds -> Qd ds ρ' -> R J H'
theorem Rel.turn {K:Fg} {G:Gh} {F F2 H H':Hp} {σ:St} {ρ:Ev} (R:Rel K G F σ H ρ) (s:Sub F F2) (n:∀ b o,F2 b = some o -> F b = some o \/ H b = none) (s2:Sub F2 H') (s3:Sub H H'):Rel K G F2 σ H' ρ where
 len:=R.len
 sub:=s2
 sub0:=R.sub0.trans s
 fn:=fun b o e=>by
  rcases n b o e with q | q
  ·exact R.fn b o q
  ·exact .inr (R.h0 q)
 keep:=fun a o e m=>s3 _ _ (R.keep a o e m)
 fz:=fun i d e=>by
  obtain ⟨v,h1,h2⟩:=R.fz i d e
  exact ⟨v,h1,h2.mono s⟩
 ow:=fun i t e w=>by
  obtain ⟨a,o,h1,h2,h3,h4⟩:=R.ow i t e w
  refine ⟨a,o,h1,?_,s3 _ _ h3,h4.mono s⟩
  cases q:F2 a with
  | none=>rfl
  | some u =>
   rcases n a u q with z | z
   ·rw [h2] at z; cases z
   ·rw [h3] at z; cases z
 new:=R.new
 io:=R.io
 ioi:=R.ioi
 ap:=R.ap
theorem drop_get {α:Type} {l:List α} {i:Nat} {x:α} (h:l[i]? = some x):l.drop i = x :: l.drop (i + 1):=by
 obtain ⟨hl,rfl⟩:=List.getElem?_eq_some_iff.mp h
 exact List.drop_eq_getElem_cons hl
noncomputable def capt:Option Sl -> Option Sl
 | some (.ow d)=>some (.io d)
 | x=>x
noncomputable def innerE (own:List Str) (fr:List Nat) (ρ:Ev):Ev:=own.map (fun _=>none) ++ fr.map fun i=>capt ((ρ[i]?).getD none)
noncomputable def wb1:Option Sl -> Option (Option Sl) -> Option Sl
 | some (.ow d),some (some (.io d'))=>some (.ow d')
 | some (.io d),some (some (.io d'))=>some (.io d')
 | x,_=>x
noncomputable def wbGo (fr:List Nat) (τ:Ev):Nat -> Ev -> Ev
 | _,[]=>[]
 | j,x :: ρ=>wb1 x ((fr.zip τ).lookup j) :: wbGo fr τ (j + 1) ρ
theorem wbGo_get (fr:List Nat) (τ:Ev):∀ (ρ:Ev) (j i:Nat),(wbGo fr τ j ρ)[i]? = (ρ[i]?).map fun x=>wb1 x ((fr.zip τ).lookup (j + i))
 | [],j,i=>by simp [wbGo]
 | x :: ρ,j,0=>by simp [wbGo]
 | x :: ρ,j,i + 1=>by
  have:=wbGo_get fr τ ρ (j + 1) i
  simp only [wbGo,List.getElem?_cons_succ]
  rw [this,show j + 1 + i = j + (i + 1) by omega]
theorem wbGo_len (fr:List Nat) (τ:Ev):∀ (ρ:Ev) (j:Nat),(wbGo fr τ j ρ).length = ρ.length
 | [],_=>rfl
 | x :: ρ,j=>by simp [wbGo,wbGo_len fr τ ρ (j + 1)]
theorem zip_lookup:∀ {fr:List Nat} {τ:Ev} {k i:Nat} {x:Option Sl},fr.Nodup -> fr[k]? = some i -> τ[k]? = some x -> (fr.zip τ).lookup i = some x
 | [],_,_,_,_,_,e,_=>by simp at e
 | j :: fr,[],_,_,_,_,_,e=>by simp at e
 | j :: fr,y :: τ,0,i,x,_,e,e'=>by simp at e e'; subst e e'; simp [List.lookup]
 | j :: fr,y :: τ,k + 1,i,x,nd,e,e'=>by
  have nd':=List.nodup_cons.mp nd
  simp at e e'
  have hm:i ∈ fr:=List.mem_of_getElem? e
  have ne:(i == j) = false:=by simp; intro z; subst z; exact nd'.1 hm
  simp [List.lookup,ne]
  exact zip_lookup nd'.2 e e'
theorem zip_lookup_mem:∀ {fr:List Nat} {τ:Ev} {i:Nat} {x:Option Sl},(fr.zip τ).lookup i = some x -> ∃ k:Nat,fr[k]? = some i /\ τ[k]? = some x
 | [],_,_,_,e=>by simp at e
 | j :: fr,[],_,_,e=>by simp at e
 | j :: fr,y :: τ,i,x,e=>by
  by_cases z:i = j
  ·subst z; simp [List.lookup] at e; subst e; exact ⟨0,by simp,by simp⟩
  ·have ne:(i == j) = false:=by simp [z]
   simp [List.lookup,ne] at e
   obtain ⟨k,h1,h2⟩:=zip_lookup_mem e
   exact ⟨k + 1,by simpa using h1,by simpa using h2⟩
end L3
namespace L3
open PySem PySem.Spec L2
noncomputable def ioOf (σ:St) (ρ:Ev) (i:Nat):Option Addr:=match ρ[i]?,σ[i]? with
 | some (some s),some (some (.ref a))=>if isOw s = true then some a else none
 | _,_=>none
theorem ioOf_some {σ:St} {ρ:Ev} {i:Nat} {a:Addr} (h:ioOf σ ρ i = some a):∃ s,ρ[i]? = some (some s) /\ isOw s = true /\ σ[i]? = some (some (V.ref a)):=by
 unfold ioOf at h
 split at h
 ·rename_i s b e1 e2
  split at h
  ·rename_i w; cases h; exact ⟨s,e1,w,e2⟩
  ·cases h
 ·cases h
theorem ioOf_of {σ:St} {ρ:Ev} {i:Nat} {a:Addr} {s:Sl} (h1:ρ[i]? = some (some s)) (h2:isOw s = true) (h3:σ[i]? = some (some (V.ref a))):ioOf σ ρ i = some a:=by
 unfold ioOf; rw [h1,h3]; simp [h2]
noncomputable def ghC (own:List Str) (fr:List Nat) (F H:Hp) (σ:St) (ρ:Ev):Gh:=⟨H,F,fun j=>if own.length <= j then (match fr[j - own.length]? with | some i=>ioOf σ ρ i | none=>none) else none⟩
theorem ghC_io {own:List Str} {fr:List Nat} {F H:Hp} {σ:St} {ρ:Ev} {j:Nat} {a:Addr} (h:(ghC own fr F H σ ρ).io j = some a):∃ k i s,j = own.length + k /\ fr[k]? = some i /\ ρ[i]? = some (some s) /\ isOw s = true /\ σ[i]? = some (some (V.ref a)):=by
 unfold ghC at h
 simp only at h
 split at h
 ·rename_i hl
  split at h
  ·rename_i i e
   obtain ⟨s,h1,h2,h3⟩:=ioOf_some h
   exact ⟨j - own.length,i,s,by omega,e,h1,h2,h3⟩
  ·cases h
 ·cases h
theorem ghC_of {own:List Str} {fr:List Nat} {F H:Hp} {σ:St} {ρ:Ev} {k i:Nat} {a:Addr} {s:Sl} (h0:fr[k]? = some i) (h1:ρ[i]? = some (some s)) (h2:isOw s = true) (h3:σ[i]? = some (some (V.ref a))):(ghC own fr F H σ ρ).io (own.length + k) = some a:=by
 unfold ghC
 simp only
 rw [if_pos (Nat.le_add_right _ _),Nat.add_sub_cancel_left,h0]
 exact ioOf_of h1 h2 h3
theorem inner_get {α:Type} {own:List Str} {fr:List Nat} {f:Nat -> Option α} {j:Nat} {x:α} (h:(own.map (fun _=>(none:Option α)) ++ fr.map f)[j]? = some (some x)):∃ k i,j = own.length + k /\ fr[k]? = some i /\ f i = some x:=by
 by_cases hl:j < own.length
 ·rw [List.getElem?_append_left (by simpa using hl)] at h
  simp at h
 ·rw [List.getElem?_append_right (by simpa using Nat.le_of_not_lt hl)] at h
  simp at h
  obtain ⟨i,h1,h2⟩:=h
  exact ⟨j - own.length,i,by omega,h1,h2⟩
theorem inner_of {α:Type} {own:List Str} {fr:List Nat} {f:Nat -> Option α} {k i:Nat} (h:fr[k]? = some i):(own.map (fun _=>(none:Option α)) ++ fr.map f)[own.length + k]? = some (f i):=by
 rw [List.getElem?_append_right (by simp)]
 simp [h]
theorem capt_get {x:Option Sl} {s:Sl} (h:capt x = some s):∃ s0,x = some s0 /\ ((∃ d,s0 = .fz d /\ s = .fz d) \/ (isOw s0 = true /\ s = .io s0.d)):=by
 cases x with
 | none=>cases h
 | some s0 =>
  cases s0 with
  | fz d=>cases h; exact ⟨_,rfl,.inl ⟨d,rfl,rfl⟩⟩
  | ow d=>cases h; exact ⟨_,rfl,.inr ⟨rfl,rfl⟩⟩
  | io d=>cases h; exact ⟨_,rfl,.inr ⟨rfl,rfl⟩⟩
theorem getD_some {α:Type} {o:Option (Option α)} {x:α} (h:o.getD none = some x):o = some (some x):=by
 cases o with
 | none=>cases h
 | some y=>simp at h; rw [h]
section
variable {K:Fg} {G:Gh} {F F' H H':Hp} {σ τ:St} {ρ μ:Ev} {own:List Str} {fr:List Nat}
theorem innerE_get {j:Nat} {s:Sl} (h:(innerE own fr ρ)[j]? = some (some s)):∃ k i s0,j = own.length + k /\ fr[k]? = some i /\ ρ[i]? = some (some s0) /\ ((∃ d,s0 = .fz d /\ s = .fz d) \/ (isOw s0 = true /\ s = .io s0.d)):=by
 obtain ⟨k,i,h1,h2,h3⟩:=inner_get h
 obtain ⟨s0,h4,h5⟩:=capt_get h3
 exact ⟨k,i,s0,h1,h2,getD_some h4,h5⟩
theorem st0_of {k i:Nat} (h:fr[k]? = some i):(st0 own σ fr)[own.length + k]? = some ((σ[i]?).getD none):=inner_of (f:=fun i=>(σ[i]?).getD none) h
theorem innerE_of {k i:Nat} (h:fr[k]? = some i):(innerE own fr ρ)[own.length + k]? = some (capt ((ρ[i]?).getD none)):=inner_of (f:=fun i=>capt ((ρ[i]?).getD none)) h
theorem nodup_at {fr:List Nat} (nd:fr.Nodup) {k l i:Nat} (a:fr[k]? = some i) (b:fr[l]? = some i):k = l:=by
 obtain ⟨h1,e1⟩:=List.getElem?_eq_some_iff.mp a
 obtain ⟨h2,e2⟩:=List.getElem?_eq_some_iff.mp b
 exact (List.getElem_inj nd).mp (e1.trans e2.symm)
theorem Rel.inner (R:Rel K G F σ H ρ) (nd:fr.Nodup):Rel K (ghC own fr F H σ ρ) F (st0 own σ fr) H (innerE own fr ρ) where
 len:=by simp [st0,frS,innerE]
 sub:=R.sub
 sub0:=Sub.refl _
 fn:=fun _ _ e=>.inl e
 keep:=fun _ _ e _=>e
 fz:=fun j d e=>by
  obtain ⟨k,i,s0,rfl,h2,h3,h4⟩:=innerE_get e
  rcases h4 with ⟨d0,rfl,z⟩ | ⟨_,z⟩
  ·cases z
   obtain ⟨v,e1,e2⟩:=R.fz i d h3
   exact ⟨v,by rw [st0_of h2,e1]; rfl,e2⟩
  ·cases z
 ow:=fun j s e w=>by
  obtain ⟨k,i,s0,rfl,h2,h3,h4⟩:=innerE_get e
  rcases h4 with ⟨d0,rfl,z⟩ | ⟨w0,z⟩
  ·cases z; cases w
  ·cases z
   obtain ⟨a,o,e1,e2,e3,e4⟩:=R.ow i s0 h3 w0
   exact ⟨a,o,by rw [st0_of h2,e1]; rfl,e2,e3,e4⟩
 new:=fun j d a e _=>by
  obtain ⟨k,i,s0,rfl,h2,h3,h4⟩:=innerE_get e
  rcases h4 with ⟨d0,rfl,z⟩ | ⟨w0,z⟩ <;> cases z
 io:=fun j a e=>by
  obtain ⟨k,i,s,rfl,h1,h2,h3,h4⟩:=ghC_io e
  refine ⟨s.d,?_,by rw [st0_of h1,h4]; rfl⟩
  rw [innerE_of h1,h2]
  cases s <;> first | rfl | cases h3
 ioi:=fun j d e=>by
  obtain ⟨k,i,s0,rfl,h2,h3,h4⟩:=innerE_get e
  rcases h4 with ⟨d0,rfl,z⟩ | ⟨w0,z⟩
  ·cases z
  ·obtain ⟨a,o,e1,_⟩:=R.ow i s0 h3 w0
   exact ⟨a,ghC_of h2 h3 w0 e1⟩
 ap:=fun j l s t a e1 w1 e2 w2 e3 e4=>by
  obtain ⟨k,i,s0,rfl,h2,h3,h4⟩:=innerE_get e1
  obtain ⟨k',i',s0',rfl,h2',h3',h4'⟩:=innerE_get e2
  have p1:isOw s0 = true:=by
   rcases h4 with ⟨d0,rfl,z⟩ | ⟨w0,z⟩
   ·subst z; cases w1
   ·exact w0
  have p2:isOw s0' = true:=by
   rcases h4' with ⟨d0,rfl,z⟩ | ⟨w0,z⟩
   ·subst z; cases w2
   ·exact w0
  rw [st0_of h2] at e3
  rw [st0_of h2'] at e4
  have q:=R.ap i i' s0 s0' a h3 p1 h3' p2 (getD_some (Option.some.inj e3)) (getD_some (Option.some.inj e4))
  subst q
  rw [nodup_at nd h2 h2']
theorem wb_cases (R:Rel K G F σ H ρ) (R':Rel K (ghC own fr F H σ ρ) F' τ H' μ) (nd:fr.Nodup) {i:Nat} {s:Sl} (h:(wbGo fr (μ.drop own.length) 0 ρ)[i]? = some (some s)) :
  ∃ s0,ρ[i]? = some (some s0) /\ ((s = s0 /\ (isOw s0 = true -> i ∉ fr)) \/ (isOw s0 = true /\ ∃ k d',fr[k]? = some i /\ μ[own.length + k]? = some (some (Sl.io d')) /\ s = s0.put d')):=by
 rw [wbGo_get] at h
 cases e:ρ[i]? with
 | none=>rw [e] at h; cases h
 | some x =>
  rw [e] at h
  simp only [Option.map_some,Nat.zero_add] at h
  have h:=Option.some.inj h
  cases x with
  | none=>simp [wb1] at h
  | some s0 =>
   refine ⟨s0,rfl,?_⟩
   by_cases w0:isOw s0 = true
   ·by_cases hm:i ∈ fr
    ·obtain ⟨k,hk⟩:=List.mem_iff_getElem?.mp hm
     obtain ⟨a,o,e1,_⟩:=R.ow i s0 e w0
     obtain ⟨d',g1,g2⟩:=R'.io _ _ (ghC_of (own:=own) (F:=F) (H:=H) hk e w0 e1)
     have z:=zip_lookup (τ:=μ.drop own.length) nd hk (by rw [List.getElem?_drop]; exact g1)
     rw [z] at h
     refine .inr ⟨w0,k,d',hk,g1,?_⟩
     cases s0 with
     | fz d=>cases w0
     | ow d=>simp [wb1] at h; exact h.symm
     | io d=>simp [wb1] at h; exact h.symm
    ·refine .inl ⟨?_,fun _=>hm⟩
     have z:(fr.zip (μ.drop own.length)).lookup i = none:=by
      cases q:(fr.zip (μ.drop own.length)).lookup i with
      | none=>rfl
      | some y =>
       obtain ⟨k,h1,_⟩:=zip_lookup_mem q
       exact (hm (List.mem_of_getElem? h1)).elim
     rw [z] at h
     cases s0 with
     | fz d=>cases w0
     | ow d=>simp [wb1] at h; exact h.symm
     | io d=>simp [wb1] at h; exact h.symm
   ·refine .inl ⟨?_,fun z=>(w0 z).elim⟩
    cases s0 with
    | fz d=>simp [wb1] at h; exact h.symm
    | ow d=>exact (w0 rfl).elim
    | io d=>exact (w0 rfl).elim
theorem wb1_io {d:D} (x:Option (Option Sl)):∃ d',wb1 (some (.io d)) x = some (.io d'):=by
 rcases x with _ | _ | (d' | d' | d')
 ·exact ⟨d,rfl⟩
 ·exact ⟨d,rfl⟩
 ·exact ⟨d,rfl⟩
 ·exact ⟨d,rfl⟩
 ·exact ⟨d',rfl⟩
theorem Rel.outer (R:Rel K G F σ H ρ) (R':Rel K (ghC own fr F H σ ρ) F' τ H' μ) (nd:fr.Nodup):Rel K G F' σ H' (wbGo fr (μ.drop own.length) 0 ρ):=by
 have sb:Sub F F':=R'.sub0
 have owns:∀ {i:Nat} {s:Sl},(wbGo fr (μ.drop own.length) 0 ρ)[i]? = some (some s) -> isOw s = true -> ∃ s0,ρ[i]? = some (some s0) /\ isOw s0 = true:=fun {i s} e w=>by
  obtain ⟨s0,h1,h2⟩:=wb_cases R R' nd e
  rcases h2 with ⟨rfl,_⟩ | ⟨w0,_⟩
  ·exact ⟨s,h1,w⟩
  ·exact ⟨s0,h1,w0⟩
 refine ⟨by rw [wbGo_len]; exact R.len,R'.sub,R.sub0.trans sb,fun a o e=>?_,fun a o e n=>?_,fun i d e=>?_,fun i s e w=>?_,fun i d a e ea=>?_,fun i a e=>?_,fun i d e=>?_,fun i j s t a e1 w1 e2 w2 e3 e4=>?_⟩
 ·rcases R'.fn a o e with q | q
  ·exact R.fn a o q
  ·exact .inr (R.h0 q)
 ·refine R'.keep a o (R.keep a o e n) fun j z=>?_
  obtain ⟨k,i,s,rfl,h1,h2,h3,h4⟩:=ghC_io z
  cases s with
  | fz d=>cases h3
  | ow d=>rw [R.new i d a h2 h4] at e; cases e
  | io d =>
   obtain ⟨a',g⟩:=R.ioi i d h2
   obtain ⟨_,_,g2⟩:=R.io i a' g
   rw [h4] at g2; cases g2
   exact n i g
 ·obtain ⟨s0,h1,h2⟩:=wb_cases R R' nd e
  rcases h2 with ⟨rfl,_⟩ | ⟨w0,k,d',_,_,z⟩
  ·obtain ⟨v,g1,g2⟩:=R.fz i d h1
   exact ⟨v,g1,g2.mono sb⟩
  ·cases s0 <;> simp [Sl.put,isOw] at z w0
 ·obtain ⟨s0,h1,h2⟩:=wb_cases R R' nd e
  rcases h2 with ⟨rfl,hm⟩ | ⟨w0,k,d',hk,hd,rfl⟩
  ·obtain ⟨a,o,g1,g2,g3,g4⟩:=R.ow i s h1 w
   have nio:∀ j,(ghC own fr F H σ ρ).io j ≠ some a:=fun j z=>by
    obtain ⟨k,i',s',rfl,q1,q2,q3,q4⟩:=ghC_io z
    have:=R.ap i i' s s' a h1 w q2 q3 g1 q4
    subst this
    exact hm w (List.mem_of_getElem? q1)
   refine ⟨a,o,g1,?_,R'.keep a o g3 nio,g4.mono sb⟩
   cases q:F' a with
   | none=>rfl
   | some u =>
    rcases R'.fn a u q with z | z
    ·have z:F a = some u:=z
     rw [g2] at z; cases z
    ·have z:H a = none:=z
     rw [g3] at z; cases z
  ·obtain ⟨a,o,g1,g2,g3,g4⟩:=R.ow i s0 h1 w0
   obtain ⟨d2,q1,q2⟩:=R'.io _ _ (ghC_of (own:=own) (F:=F) (H:=H) hk h1 w0 g1)
   obtain ⟨a',o',p1,p2,p3,p4⟩:=R'.ow _ _ hd rfl
   rw [q2] at p1; cases p1
   exact ⟨a,o',g1,p2,p3,by cases s0 <;> first | exact p4 | cases w0⟩
 ·obtain ⟨s0,h1,h2⟩:=wb_cases R R' nd e
  rcases h2 with ⟨rfl,_⟩ | ⟨w0,k,d',_,_,z⟩
  ·exact R.new i d a h1 ea
  ·cases s0 with
   | fz d=>cases w0
   | ow d0=>exact R.new i d0 a h1 ea
   | io d0=>cases z
 ·obtain ⟨d,h1,h2⟩:=R.io i a e
  obtain ⟨d',hd⟩:=wb1_io (d:=d) ((fr.zip (μ.drop own.length)).lookup i)
  exact ⟨d',by rw [wbGo_get,h1]; simp only [Option.map_some,Nat.zero_add]; rw [hd],h2⟩
 ·obtain ⟨s0,h1,h2⟩:=wb_cases R R' nd e
  rcases h2 with ⟨rfl,_⟩ | ⟨w0,k,d',_,_,z⟩
  ·exact R.ioi i d h1
  ·cases s0 with
   | fz d=>cases w0
   | ow d0=>cases z
   | io d0=>exact R.ioi i d0 h1
 ·obtain ⟨s0,g1,g2⟩:=owns e1 w1
  obtain ⟨t0,g3,g4⟩:=owns e2 w2
  exact R.ap i j s0 t0 a g1 g2 g3 g4 e3 e4
end
end L3
namespace L3
open PySem PySem.Spec L2
noncomputable abbrev Con:=List Sl -> (Sl -> Ev -> Prop) -> Prop
noncomputable def conSp (K:Fg) (con:Con):Sp:=fun vs H Q _=>∃ (G:Gh) (F:Hp) (args:List Sl) (Qd:Sl -> Ev -> Prop),Rel K G F (vs.map some) H (args.map some) /\ con args Qd /\
 ∀ v H' F' r ρ',Sub F F' -> Rel K G F' (vs.map some) H' ρ' -> Res K G F' H' (vs.map some) ρ' v r -> Qd r ρ' -> Q v H'
mutual
noncomputable def noMut:D -> Bool
 | .none=>true
 | .bool _=>true
 | .int _=>true
 | .str _=>true
 | .tuple xs=>noMutAll xs
 | .list _=>false
 | .dict _=>false
noncomputable def noMutAll:List D -> Bool
 | []=>true
 | x :: xs=>noMut x && noMutAll xs
end
section
variable {K:Fg} {F F':Hp}
mutual
theorem Da.noMut (h:∀ b xs,F b = some (.tup xs) -> F' b = some (.tup xs)):∀ {v:V} {d:D},Da K F v d -> noMut d = true -> Da K F' v d
 | _,_,.non,_=>.non
 | _,_,.bl b,_=>.bl b
 | _,_,.int i,_=>.int i
 | _,_,.str x,_=>.str x
 | _,_,.lst _ _,z=>by simp [L3.noMut] at z
 | _,_,.tup e t,z=>.tup (h _ _ e) (DaAll.noMut h t (by simpa [L3.noMut] using z))
 | _,_,.dk _ _,z=>by simp [L3.noMut] at z
 | _,_,.dt _ _,z=>by simp [L3.noMut] at z
 | _,_,.scr _,z=>by simp [L3.noMut,scrD] at z
theorem DaAll.noMut (h:∀ b xs,F b = some (.tup xs) -> F' b = some (.tup xs)):∀ {xs:List V} {ds:List D},DaAll K F xs ds -> noMutAll ds = true -> DaAll K F' xs ds
 | _,_,.nil,_=>.nil
 | _,_,.cons a t,z=>by
  simp [noMutAll] at z
  exact .cons (Da.noMut h a z.1) (DaAll.noMut h t z.2)
end
end
noncomputable def lentAny (ρ:Ev):List Opd -> Bool
 | []=>false
 | .inr _ :: xs=>lentAny ρ xs
 | .inl i :: xs=>(match ρ[i]? with | some (some s)=>isOw s | _=>false) || lentAny ρ xs
noncomputable def dCall (con:Con) (as:List AD):TD:=fun ρ Q=>dArgs as ρ fun xs ρ1=>looksQ ρ1 xs fun ds=>con (ds.map Sl.fz) fun r _=>match lentAny ρ1 xs with
 | false=>Q r ρ1
 | true=>noMut r.d = true /\ Q r ρ1
noncomputable def callI (con:Con) (i:Nat) (xs:List Opd) (ρ1:Ev) (Q:Sl -> Ev -> Prop):Prop:=match ρ1[i]? with
 | some (some s)=>match isOw s,lentAny ρ1 xs with
  | true,false=>looksQ ρ1 xs fun ds=>con (.io s.d :: ds.map Sl.fz) fun r outs=>match outs with
   | some (.io d') :: _=>Q r (ρ1.set i (some (s.put d')))
   | _=>False
  | _,_=>False
 | _=>False
noncomputable def dCallI (con:Con) (i:Nat) (as:List AD):TD:=fun ρ Q=>dArgs (.inl i :: as) ρ fun xs ρ1=>callI con i xs.tail ρ1 Q
noncomputable def LentA (σ:St) (ρ:Ev) (xs:List Opd) (a:Addr):Prop:=∃ (i:Nat) (s:Sl),Sum.inl i ∈ xs /\ ρ[i]? = some (some s) /\ isOw s = true /\ σ[i]? = some (some (V.ref a))
theorem lentAny_of {σ:St} {ρ:Ev}:∀ {xs:List Opd} {a:Addr},LentA σ ρ xs a -> lentAny ρ xs = true
 | [],a,⟨i,s,h,_⟩=>by cases h
 | .inr d :: xs,a,⟨i,s,h,h1,h2,h3⟩=>by
  rcases List.mem_cons.mp h with h | h
  ·cases h
  ·exact lentAny_of (xs:=xs) ⟨i,s,h,h1,h2,h3⟩
 | .inl j :: xs,a,⟨i,s,h,h1,h2,h3⟩=>by
  unfold lentAny
  rcases List.mem_cons.mp h with h | h
  ·cases h; rw [h1]; simp [h2]
  ·rw [lentAny_of (xs:=xs) ⟨i,s,h,h1,h2,h3⟩]; simp
open Classical in
noncomputable def lend (σ:St) (ρ:Ev) (xs:List Opd) (F H:Hp):Hp:=fun b=>if LentA σ ρ xs b then H b else F b
open Classical in
noncomputable def unlend (σ:St) (ρ:Ev) (xs:List Opd) (F:Hp):Hp:=fun b=>if LentA σ ρ xs b then none else F b
section
variable {K:Fg} {G:Gh} {F F' H H':Hp} {σ:St} {ρ:Ev} {xs:List Opd}
theorem lend_not {b:Addr} (h:¬ LentA σ ρ xs b):lend σ ρ xs F H b = F b:=by unfold lend; rw [if_neg h]
theorem lend_is {b:Addr} (h:LentA σ ρ xs b):lend σ ρ xs F H b = H b:=by unfold lend; rw [if_pos h]
theorem unlend_not {b:Addr} (h:¬ LentA σ ρ xs b):unlend σ ρ xs F b = F b:=by unfold unlend; rw [if_neg h]
theorem unlend_is {b:Addr} (h:LentA σ ρ xs b):unlend σ ρ xs F b = none:=by unfold unlend; rw [if_pos h]
theorem LentA.own (R:Rel K G F σ H ρ) {b:Addr} (h:LentA σ ρ xs b):∃ (i:Nat) (s:Sl) (o:HO),ρ[i]? = some (some s) /\ isOw s = true /\ σ[i]? = some (some (V.ref b)) /\ F b = none /\ H b = some o /\ Own1 K F o s.d:=by
 obtain ⟨i,s,_,h1,h2,h3⟩:=h
 obtain ⟨a,o,g1,g2,g3,g4⟩:=R.ow i s h1 h2
 rw [h3] at g1; cases g1
 exact ⟨i,s,o,h1,h2,h3,g2,g3,g4⟩
theorem lend_sub (R:Rel K G F σ H ρ):Sub F (lend σ ρ xs F H):=fun b o e=>by
 have n:¬ LentA σ ρ xs b:=fun z=>by
  obtain ⟨_,_,_,_,_,_,h,_⟩:=z.own R
  rw [h] at e; cases e
 rw [lend_not n]; exact e
theorem lend_le (R:Rel K G F σ H ρ):Sub (lend σ ρ xs F H) H:=fun b o e=>by
 by_cases z:LentA σ ρ xs b
 ·rw [lend_is z] at e; exact e
 ·rw [lend_not z] at e; exact R.sub _ _ e
theorem lend_looks (R:Rel K G F σ H ρ) {ys:List Opd} {vs:List V} {k:List D -> Prop} (m:∀ y ∈ ys,y ∈ xs) (o:OpdsAt K F σ vs ys) (h:looksQ ρ ys k):∃ ds,DaAll K (lend σ ρ xs F H) vs ds /\ k ds:=by
 induction o generalizing k with
 | nil=>exact ⟨[],.nil,h⟩
 | @cons v x vs ys o t ih =>
  cases x with
  | inr d =>
   obtain ⟨ds,a,q⟩:=ih (k:=fun ds=>k (d :: ds)) (fun y hy=>m y (List.mem_cons_of_mem _ hy)) h
   exact ⟨d :: ds,.cons (Da.mono (lend_sub R) o) a,q⟩
  | inl i =>
   unfold looksQ at h
   split at h
   ·rename_i s e
    obtain ⟨ds,a,q⟩:=ih (k:=fun ds=>k (s.d :: ds)) (fun y hy=>m y (List.mem_cons_of_mem _ hy)) h
    refine ⟨s.d :: ds,.cons ?_ a,q⟩
    have o:σ[i]? = some (some v):=o
    have own:isOw s = true -> Da K (lend σ ρ xs F H) v s.d:=fun w=>by
     obtain ⟨b,u,h1,h2,h3,h4⟩:=R.ow i s e w
     rw [o] at h1; cases h1
     have l:LentA σ ρ xs b:=⟨i,s,m _ List.mem_cons_self,e,w,o⟩
     exact (h4.mono (lend_sub R)).da (by rw [lend_is l]; exact h3)
    cases s with
    | fz d =>
     obtain ⟨v,e1,e2⟩:=R.fz i d e
     rw [o] at e1; cases e1
     exact e2.mono (lend_sub R)
    | ow d=>exact own rfl
    | io d=>exact own rfl
   ·exact h.elim
theorem own_noMut {o:HO} {d:D} (h:Own1 K F o d):noMut d = false:=by
 cases o <;> cases d <;> first | rfl | exact h.elim
theorem get_fz {ds:List D} {i:Nat} {s:Sl} (h:((ds.map Sl.fz).map some)[i]? = some (some s)):∃ d,ds[i]? = some d /\ s = .fz d:=by
 rw [List.map_map,List.getElem?_map] at h
 cases e:ds[i]? with
 | none=>rw [e] at h; cases h
 | some d=>rw [e] at h; cases h; exact ⟨d,rfl,rfl⟩
theorem get_vs {vs:List V} {i:Nat} {v:V} (h:vs[i]? = some v):(vs.map some)[i]? = some (some v):=by rw [List.getElem?_map,h]; rfl
theorem rel_call {vs:List V} {ds:List D} (s:Sub F H) (da:DaAll K F vs ds):Rel K ⟨H,F,fun _=>none⟩ F (vs.map some) H ((ds.map Sl.fz).map some) where
 len:=by simp [da.length]
 sub:=s
 sub0:=Sub.refl _
 fn:=fun _ _ e=>.inl e
 keep:=fun _ _ e _=>e
 fz:=fun i d e=>by
  obtain ⟨d',e1,e2⟩:=get_fz e
  cases e2
  obtain ⟨v,h1,h2⟩:=da.get e1
  exact ⟨v,get_vs h1,h2⟩
 ow:=fun i s e w=>by obtain ⟨d',e1,rfl⟩:=get_fz e; cases w
 new:=fun i d a e _=>by obtain ⟨d',e1,e2⟩:=get_fz e; cases e2
 io:=fun i a e=>by cases e
 ioi:=fun i d e=>by obtain ⟨d',e1,e2⟩:=get_fz e; cases e2
 ap:=fun i j s t a e w _ _ _ _=>by obtain ⟨d',e1,rfl⟩:=get_fz e; cases w
theorem Rel.called (R:Rel K G F σ H ρ) {σ1:St} {ρ1:Ev} (R':Rel K ⟨H,lend σ ρ xs F H,fun _=>none⟩ F' σ1 H' ρ1):Sub F (unlend σ ρ xs F') /\ Rel K G (unlend σ ρ xs F') σ H' ρ:=by
 have nl:∀ {b:Addr} {o:HO},F b = some o -> ¬ LentA σ ρ xs b:=fun {b o} e z=>by
  obtain ⟨_,_,_,_,_,_,h,_⟩:=z.own R
  rw [h] at e; cases e
 have sb:Sub F (unlend σ ρ xs F'):=fun b o e=>by
  rw [unlend_not (nl e)]
  exact R'.sub0 _ _ (lend_sub R _ _ e)
 have ul:∀ {b:Addr} {o:HO},unlend σ ρ xs F' b = some o -> ¬ LentA σ ρ xs b /\ F' b = some o:=fun {b o} e=>by
  by_cases z:LentA σ ρ xs b
  ·rw [unlend_is z] at e; cases e
  ·rw [unlend_not z] at e; exact ⟨z,e⟩
 have kp:∀ {b:Addr} {o:HO},H b = some o -> H' b = some o:=fun {b o} e=>R'.keep b o e fun i z=>by cases z
 refine ⟨sb,R.len,fun b o e=>R'.sub _ _ (ul e).2,R.sub0.trans sb,fun b o e=>?_,fun a o e n=>kp (R.keep a o e n),fun i d e=>?_,fun i s e w=>?_,R.new,R.io,R.ioi,R.ap⟩
 ·obtain ⟨n,e⟩:=ul e
  rcases R'.fn b o e with q | q
  ·have q:lend σ ρ xs F H b = some o:=q
   rw [lend_not n] at q
   exact R.fn b o q
  ·exact .inr (R.h0 q)
 ·obtain ⟨v,h1,h2⟩:=R.fz i d e
  exact ⟨v,h1,h2.mono sb⟩
 ·obtain ⟨a,o,h1,h2,h3,h4⟩:=R.ow i s e w
  refine ⟨a,o,h1,?_,kp h3,h4.mono sb⟩
  cases q:unlend σ ρ xs F' a with
  | none=>rfl
  | some u =>
   obtain ⟨n,q⟩:=ul q
   rcases R'.fn a u q with z | z
   ·have z:lend σ ρ xs F H a = some u:=z
    rw [lend_not n,h2] at z; cases z
   ·have z:H a = none:=z
    rw [h3] at z; cases z
theorem Res.called (R:Rel K G F σ H ρ) {σ1:St} {ρ1:Ev} {v:V} {r:Sl} (R':Rel K ⟨H,lend σ ρ xs F H,fun _=>none⟩ F' σ1 H' ρ1) (q:Res K ⟨H,lend σ ρ xs F H,fun _=>none⟩ F' H' σ1 ρ1 v r)
  (hl:lentAny ρ xs = true -> noMut r.d = true):Res K G (unlend σ ρ xs F') H' σ ρ v r:=by
 have tp:∀ b ys,F' b = some (.tup ys) -> unlend σ ρ xs F' b = some (.tup ys):=fun b ys e=>by
  have n:¬ LentA σ ρ xs b:=fun z=>by
   obtain ⟨_,_,o,_,_,_,_,h,w⟩:=z.own R
   have e2:=R'.sub0 b o (by show lend σ ρ xs F H b = some o; rw [lend_is z]; exact h)
   rw [e] at e2; cases e2
   exact w
  rw [unlend_not n]; exact e
 by_cases l:lentAny ρ xs = true
 ·cases r with
  | fz d=>exact Da.noMut tp q (hl l)
  | ow d =>
   obtain ⟨a,o,_,_,_,w,_⟩:=q
   have:=hl l
   rw [show (Sl.ow d).d = d from rfl,own_noMut w] at this; cases this
  | io d=>exact q.elim
 ·have e:unlend σ ρ xs F' = F':=funext fun b=>unlend_not fun z=>l (lentAny_of z)
  rw [e]
  cases r with
  | fz d=>exact q
  | io d=>exact q.elim
  | ow d =>
   obtain ⟨a,o,h1,h2,h3,h4,h5,_⟩:=q
   refine ⟨a,o,h1,h2,h3,h4,R.h0 h5,fun i s es w z=>?_⟩
   obtain ⟨a',o',g1,_,g3,_⟩:=R.ow i s es w
   rw [z] at g1; cases g1
   have h5:H a = none:=h5
   rw [h5] at g3; cases g3
theorem l_call {con:Con} {as:List AD} {E:XK} {Q:VK} (h:lift K (dCall con as) σ H Q):tCall (conSp K con) [] E (tArgs (as.map (argT K))) σ H Q:=by
 obtain ⟨G,F,ρ,Qd,R,w,k⟩:=h
 refine args_ok R w fun vs H1 F1 xs ρ1 s1 R1 o w1=>?_
 obtain ⟨ds,da,w1⟩:=lend_looks (xs:=xs) R1 (fun y hy=>hy) o w1
 rw [List.append_nil]
 refine ⟨_,_,ds.map Sl.fz,_,rel_call (lend_le R1) da,w1,fun v H' F' r ρ' s' R' r' q=>?_⟩
 obtain ⟨sb,R2⟩:=R1.called R'
 have hq:(lentAny ρ1 xs = true -> noMut r.d = true) /\ Qd r ρ1:=by
  split at q
  ·rename_i e; exact ⟨fun z=>(by rw [e] at z; cases z),q⟩
  ·exact ⟨fun _=>q.1,q.2⟩
 exact k v H' _ r ρ1 (s1.trans sb) R2 (Res.called R1 R' r' hq.1) hq.2
end
end L3
namespace L3
open PySem PySem.Spec L2
section
variable {K:Fg} {G:Gh} {F F' H H':Hp} {σ:St} {ρ:Ev} {xs:List Opd}
noncomputable def ioA (a:Addr):Nat -> Option Addr:=fun j=>if j = 0 then some a else none
theorem ioA_some {a b:Addr} {j:Nat} (h:ioA a j = some b):j = 0 /\ b = a:=by
 unfold ioA at h
 split at h
 ·rename_i z; cases h; exact ⟨z,rfl⟩
 ·cases h
theorem rel_callI {vs:List V} {ds:List D} {a:Addr} {o:HO} {d:D} (s:Sub F H) (h1:F a = none) (h2:H a = some o) (h3:Own1 K F o d) (da:DaAll K F vs ds) :
  Rel K ⟨H,F,ioA a⟩ F ((V.ref a :: vs).map some) H ((Sl.io d :: ds.map Sl.fz).map some) where
 len:=by simp [da.length]
 sub:=s
 sub0:=Sub.refl _
 fn:=fun _ _ e=>.inl e
 keep:=fun _ _ e _=>e
 fz:=fun i d' e=>by
  cases i with
  | zero=>simp at e
  | succ i =>
   have e:((ds.map Sl.fz).map some)[i]? = some (some (Sl.fz d')):=by simpa using e
   obtain ⟨d2,e1,e2⟩:=get_fz e
   cases e2
   obtain ⟨v,g1,g2⟩:=da.get e1
   exact ⟨v,by simpa using g1,g2⟩
 ow:=fun i s e w=>by
  cases i with
  | zero=>simp at e; subst e; exact ⟨a,o,by simp,h1,h2,h3⟩
  | succ i =>
   have e:((ds.map Sl.fz).map some)[i]? = some (some s):=by simpa using e
   obtain ⟨d2,e1,rfl⟩:=get_fz e
   cases w
 new:=fun i d' b e _=>by
  cases i with
  | zero=>simp at e
  | succ i =>
   have e:((ds.map Sl.fz).map some)[i]? = some (some (Sl.ow d')):=by simpa using e
   obtain ⟨d2,e1,e2⟩:=get_fz e
   cases e2
 io:=fun i b e=>by
  obtain ⟨rfl,rfl⟩:=ioA_some e
  exact ⟨d,by simp,by simp⟩
 ioi:=fun i d' e=>by
  cases i with
  | zero=>exact ⟨a,rfl⟩
  | succ i =>
   have e:((ds.map Sl.fz).map some)[i]? = some (some (Sl.io d')):=by simpa using e
   obtain ⟨d2,e1,e2⟩:=get_fz e
   cases e2
 ap:=fun i j s t b e1 w1 e2 w2 _ _=>by
  have f:∀ {i:Nat} {s:Sl},((Sl.io d :: ds.map Sl.fz).map some)[i]? = some (some s) -> isOw s = true -> i = 0:=fun {i s} e w=>by
   cases i with
   | zero=>rfl
   | succ i =>
    have e:((ds.map Sl.fz).map some)[i]? = some (some s):=by simpa using e
    obtain ⟨d2,e1,rfl⟩:=get_fz e
    cases w
  rw [f e1 w1,f e2 w2]
theorem Rel.calledI (R:Rel K G F σ H ρ) {i:Nat} {s:Sl} {a:Addr} {d':D} {σ1:St} {ρ1:Ev} (e:ρ[i]? = some (some s)) (w:isOw s = true) (ea:σ[i]? = some (some (V.ref a)))
  (R':Rel K ⟨H,F,ioA a⟩ F' (some (V.ref a) :: σ1) H' (some (Sl.io d') :: ρ1)):Rel K G F' σ H' (ρ.set i (some (s.put d'))):=by
 obtain ⟨a0,o0,g1,g2,g3,g4⟩:=R.ow i s e w
 rw [ea] at g1; cases g1
 have sb:Sub F F':=R'.sub0
 have hl:=lt_of_get e
 have kp:∀ {b:Addr} {o:HO},b ≠ a -> H b = some o -> H' b = some o:=fun {b o} n q=>R'.keep b o q fun j z=>n (ioA_some z).2
 have ow':∀ {j:Nat} {t:Sl},j ≠ i -> ρ[j]? = some (some t) -> isOw t = true -> ∃ b o,σ[j]? = some (some (V.ref b)) /\ F' b = none /\ H' b = some o /\ Own1 K F' o t.d:=fun {j t} n q wt=>by
  obtain ⟨b,o,q1,q2,q3,q4⟩:=R.ow j t q wt
  have nb:b ≠ a:=fun z=>n (R.ap j i t s a q wt e w (by rw [q1,z]) ea)
  refine ⟨b,o,q1,?_,kp nb q3,q4.mono sb⟩
  cases z:F' b with
  | none=>rfl
  | some u =>
   rcases R'.fn b u z with y | y
   ·have y:F b = some u:=y
    rw [q2] at y; cases y
   ·have y:H b = none:=y
    rw [q3] at y; cases y
 refine ⟨by rw [List.length_set]; exact R.len,R'.sub,R.sub0.trans sb,fun b o q=>?_,fun b o q n=>?_,fun j d q=>?_,fun j t q wt=>?_,fun j d b q eb=>?_,fun j b q=>?_,fun j d q=>?_,fun j k t u b e1 w1 e2 w2 e3 e4=>?_⟩
 ·rcases R'.fn b o q with y | y
  ·exact R.fn b o y
  ·exact .inr (R.h0 y)
 ·refine kp (fun z=>?_) (R.keep b o q n)
  subst z
  cases s with
  | fz d=>cases w
  | ow d=>rw [R.new i d b e ea] at q; cases q
  | io d =>
   obtain ⟨a',y⟩:=R.ioi i d e
   obtain ⟨_,_,y2⟩:=R.io i a' y
   rw [ea] at y2; cases y2
   exact n i y
 ·rcases get_set q with ⟨rfl,z⟩ | ⟨n,z⟩
  ·cases s <;> simp [Sl.put,isOw] at z w
  ·obtain ⟨v,y1,y2⟩:=R.fz j d z
   exact ⟨v,y1,y2.mono sb⟩
 ·rcases get_set q with ⟨rfl,z⟩ | ⟨n,z⟩
  ·cases z
   obtain ⟨b,o,y1,y2,y3,y4⟩:=R'.ow 0 (.io d') (by simp) rfl
   simp at y1; subst y1
   exact ⟨a,o,ea,y2,y3,by cases s <;> first | exact y4 | cases w⟩
  ·exact ow' n z wt
 ·rcases get_set q with ⟨rfl,z⟩ | ⟨n,z⟩
  ·cases s with
   | fz d=>cases w
   | ow d0=>exact R.new j d0 b e eb
   | io d0=>cases z
  ·exact R.new j d b z eb
 ·obtain ⟨d,y1,y2⟩:=R.io j b q
  by_cases z:j = i
  ·subst z
   rw [e] at y1; cases y1
   exact ⟨d',by rw [set_get hl]; rfl,y2⟩
  ·exact ⟨d,by rw [List.getElem?_set_ne (Ne.symm z)]; exact y1,y2⟩
 ·rcases get_set q with ⟨rfl,z⟩ | ⟨n,z⟩
  ·cases s with
   | fz d=>cases w
   | ow d0=>cases z
   | io d0=>exact R.ioi j d0 e
  ·exact R.ioi j d z
 ·have f:∀ (j:Nat) (t:Sl),(ρ.set i (some (s.put d')))[j]? = some (some t) -> isOw t = true -> ∃ t',ρ[j]? = some (some t') /\ isOw t' = true:=fun j t q wt=>by
   rcases get_set q with ⟨rfl,z⟩ | ⟨n,z⟩
   ·exact ⟨s,e,w⟩
   ·exact ⟨t,z,wt⟩
  obtain ⟨t',e1',w1'⟩:=f j t e1 w1
  obtain ⟨u',e2',w2'⟩:=f k u e2 w2
  exact R.ap j k t' u' b e1' w1' e2' w2' e3 e4
theorem noLent_looks (R:Rel K G F σ H ρ) {ys:List Opd} {vs:List V} {k:List D -> Prop} (m:lentAny ρ ys = false) (o:OpdsAt K F σ vs ys) (h:looksQ ρ ys k):∃ ds,DaAll K F vs ds /\ k ds:=by
 induction o generalizing k with
 | nil=>exact ⟨[],.nil,h⟩
 | @cons v x vs ys o t ih =>
  cases x with
  | inr d =>
   obtain ⟨ds,a,q⟩:=ih (k:=fun ds=>k (d :: ds)) m h
   exact ⟨d :: ds,.cons o a,q⟩
  | inl i =>
   unfold looksQ at h
   unfold lentAny at m
   simp only [Bool.or_eq_false_iff] at m
   split at h
   ·rename_i s e
    obtain ⟨ds,a,q⟩:=ih (k:=fun ds=>k (s.d :: ds)) m.2 h
    refine ⟨s.d :: ds,.cons ?_ a,q⟩
    have m1:=m.1
    rw [e] at m1
    cases s with
    | fz d =>
     obtain ⟨v',e1,e2⟩:=R.fz i d e
     have o:σ[i]? = some (some v):=o
     rw [o] at e1; cases e1
     exact e2
    | ow d=>cases m1
    | io d=>cases m1
   ·exact h.elim
theorem l_callI {con:Con} {i:Nat} {as:List AD} {E:XK} {Q:VK} (h:lift K (dCallI con i as) σ H Q):tCall (conSp K con) [] E (tArgs ((.inl i :: as).map (argT K))) σ H Q:=by
 obtain ⟨G,F,ρ,Qd,R,w,k⟩:=h
 unfold dCallI dArgs at w
 split at w
 ·rename_i s0 e0
  obtain ⟨v,ev⟩:=R.bound e0
  refine ⟨v,ev,args_ok R w fun vs H1 F1 xs ρ1 s1 R1 o w1=>?_⟩
  show conSp K con (v :: vs ++ []) H1 Q E
  rw [List.append_nil]
  have w1:callI con i xs ρ1 Qd:=w1
  unfold callI at w1
  split at w1
  ·rename_i s e
   split at w1
   ·rename_i p1 p2
    obtain ⟨a,o',g1,g2,g3,g4⟩:=R1.ow i s e p1
    rw [ev] at g1; cases g1
    obtain ⟨ds,da,w1⟩:=noLent_looks R1 p2 o w1
    refine ⟨_,F1,.io s.d :: ds.map Sl.fz,_,rel_callI R1.sub g2 g3 g4 da,w1,fun v H' F' r ρ' s' R' r' q=>?_⟩
    split at q
    ·rename_i d' ρ2
     have R2:=R1.calledI e p1 ev R'
     refine k v H' F' r _ (s1.trans s') R2 ?_ q
     cases r with
     | fz d=>exact r'
     | io d=>exact r'.elim
     | ow d =>
      obtain ⟨b,u,h1,h2,h3,h4,h5,_⟩:=r'
      have h5:H1 b = none:=h5
      refine ⟨b,u,h1,h2,h3,h4,R1.h0 h5,fun j t es w z=>?_⟩
      have own:∃ t',ρ1[j]? = some (some t') /\ isOw t' = true:=by
       rcases get_set es with ⟨rfl,y⟩ | ⟨n,y⟩
       ·exact ⟨s,e,p1⟩
       ·exact ⟨t,y,w⟩
      obtain ⟨t',y1,y2⟩:=own
      obtain ⟨a',o',q1,_,q3,_⟩:=R1.ow j t' y1 y2
      rw [z] at q1; cases q1
      rw [h5] at q3; cases q3
    ·exact q.elim
   ·exact w1.elim
  ·exact w1.elim
 ·exact w.elim
noncomputable def startE (n:Nat) (args:List Sl):Ev:=args.map some ++ List.replicate (n - args.length) none
noncomputable def outs:List Sl -> Ev -> Ev
 | [],_=>[]
 | .io _ :: as,ρ=>(ρ.headD none) :: outs as ρ.tail
 | .fz d :: as,ρ=>some (.fz d) :: outs as ρ.tail
 | .ow d :: as,ρ=>some (.ow d) :: outs as ρ.tail
theorem app_none {α:Type} {l:List (Option α)} {n i:Nat} {x:α} (h:(l ++ List.replicate n none)[i]? = some (some x)):l[i]? = some (some x):=by
 by_cases z:i < l.length
 ·rw [List.getElem?_append_left z] at h; exact h
 ·rw [List.getElem?_append_right (Nat.le_of_not_lt z),List.getElem?_replicate] at h
  split at h <;> cases h
theorem app_left {α:Type} {l m:List α} {i:Nat} {x:α} (h:l[i]? = some x):(l ++ m)[i]? = some x:=by rw [List.getElem?_append_left (lt_of_get h)]; exact h
theorem Rel.start {vs:List V} {args:List Sl} {N:List Str} (R:Rel K G F (vs.map some) H (args.map some)):Rel K G F (L2.start N vs) H (startE N.length args) where
 len:=by have:=R.len; simp [L2.start,startE] at this ⊢; omega
 sub:=R.sub
 sub0:=R.sub0
 fn:=R.fn
 keep:=R.keep
 fz:=fun i d e=>by
  obtain ⟨v,h1,h2⟩:=R.fz i d (app_none e)
  exact ⟨v,app_left h1,h2⟩
 ow:=fun i s e w=>by
  obtain ⟨a,o,h1,h2⟩:=R.ow i s (app_none e) w
  exact ⟨a,o,app_left h1,h2⟩
 new:=fun i d a e ea=>R.new i d a (app_none e) (app_none ea)
 io:=fun i a e=>by
  obtain ⟨d,h1,h2⟩:=R.io i a e
  exact ⟨d,app_left h1,app_left h2⟩
 ioi:=fun i d e=>R.ioi i d (app_none e)
 ap:=fun i j s t a e1 w1 e2 w2 e3 e4=>R.ap i j s t a (app_none e1) w1 (app_none e2) w2 (app_none e3) (app_none e4)
theorem outs_get:∀ {args:List Sl} {ρ:Ev} {i:Nat} {s:Sl},(outs args ρ)[i]? = some (some s) -> (∃ d,args[i]? = some (.io d) /\ ρ[i]? = some (some s)) \/ (args[i]? = some s /\ ∀ d,s ≠ .io d)
 | [],ρ,i,s,h=>by simp [outs] at h
 | .io d :: as,ρ,0,s,h=>by
  simp [outs] at h
  cases ρ with
  | nil=>simp at h
  | cons x ρ=>simp at h; exact .inl ⟨d,by simp,by simp [h]⟩
 | .fz d :: as,ρ,0,s,h=>by simp [outs] at h; subst h; exact .inr ⟨by simp,fun d z=>by cases z⟩
 | .ow d :: as,ρ,0,s,h=>by simp [outs] at h; subst h; exact .inr ⟨by simp,fun d z=>by cases z⟩
 | .io d :: as,ρ,i + 1,s,h=>by
  simp only [outs,List.getElem?_cons_succ] at h
  rcases outs_get h with ⟨d,h1,h2⟩ | ⟨h1,h2⟩
  ·exact .inl ⟨d,by simpa using h1,by cases ρ with | nil=>simp at h2 | cons x ρ=>simpa using h2⟩
  ·exact .inr ⟨by simpa using h1,h2⟩
 | .fz d :: as,ρ,i + 1,s,h=>by
  simp only [outs,List.getElem?_cons_succ] at h
  rcases outs_get h with ⟨d,h1,h2⟩ | ⟨h1,h2⟩
  ·exact .inl ⟨d,by simpa using h1,by cases ρ with | nil=>simp at h2 | cons x ρ=>simpa using h2⟩
  ·exact .inr ⟨by simpa using h1,h2⟩
 | .ow d :: as,ρ,i + 1,s,h=>by
  simp only [outs,List.getElem?_cons_succ] at h
  rcases outs_get h with ⟨d,h1,h2⟩ | ⟨h1,h2⟩
  ·exact .inl ⟨d,by simpa using h1,by cases ρ with | nil=>simp at h2 | cons x ρ=>simpa using h2⟩
  ·exact .inr ⟨by simpa using h1,h2⟩
theorem outs_of:∀ {args:List Sl} {ρ:Ev} {i:Nat} {d:D} {x:Option Sl},args[i]? = some (.io d) -> ρ[i]? = some x -> (outs args ρ)[i]? = some x
 | [],_,_,_,_,h,_=>by simp at h
 | _ :: _,[],_,_,_,_,h=>by simp at h
 | s :: as,y :: ρ,0,d,x,h,h'=>by simp at h h'; subst h h'; simp [outs]
 | s :: as,y :: ρ,i + 1,d,x,h,h'=>by
  have:=outs_of (args:=as) (ρ:=ρ) (i:=i) (by simpa using h) (by simpa using h')
  cases s <;> simpa [outs] using this
theorem outs_len:∀ (args:List Sl) (ρ:Ev),(outs args ρ).length = args.length
 | [],_=>rfl
 | s :: as,ρ=>by cases s <;> simp [outs,outs_len as]
theorem get_args {args:List Sl} {i:Nat} {s:Sl} (h:(args.map some)[i]? = some (some s)):args[i]? = some s:=by
 rw [List.getElem?_map] at h
 cases e:args[i]? with
 | none=>rw [e] at h; cases h
 | some x=>rw [e] at h; cases h; rfl
theorem args_get {args:List Sl} {i:Nat} {s:Sl} (h:args[i]? = some s):(args.map some)[i]? = some (some s):=by rw [List.getElem?_map,h]; rfl
theorem Rel.ret {vs:List V} {args:List Sl} {σ':St} {ρ':Ev} (hn:∀ s ∈ args,∀ d,s ≠ .ow d) (R:Rel K G F (vs.map some) H (args.map some)) (sb:Sub F F') (R':Rel K G F' σ' H' ρ'):Rel K G F' (vs.map some) H' (outs args ρ'):=by
 have own:∀ {i:Nat} {s:Sl},(outs args ρ')[i]? = some (some s) -> isOw s = true -> ∃ d a,args[i]? = some (.io d) /\ ρ'[i]? = some (some s) /\ G.io i = some a /\ (vs.map some)[i]? = some (some (V.ref a)) /\ σ'[i]? = some (some (V.ref a)):=fun {i s} e w=>by
  rcases outs_get e with ⟨d,h1,h2⟩ | ⟨h1,h2⟩
  ·obtain ⟨a,h3⟩:=R.ioi i d (args_get h1)
   obtain ⟨_,_,h4⟩:=R.io i a h3
   obtain ⟨_,_,h5⟩:=R'.io i a h3
   exact ⟨d,a,h1,h2,h3,h4,h5⟩
  ·cases s with
   | fz d=>cases w
   | ow d=>exact (hn _ (List.mem_of_getElem? h1) d rfl).elim
   | io d=>exact (h2 d rfl).elim
 refine ⟨by rw [outs_len]; simpa using R.len,R'.sub,R'.sub0,R'.fn,R'.keep,fun i d e=>?_,fun i s e w=>?_,fun i d a e ea=>?_,fun i a e=>?_,fun i d e=>?_,fun i j s t a e1 w1 e2 w2 e3 e4=>?_⟩
 ·rcases outs_get e with ⟨d',h1,h2⟩ | ⟨h1,h2⟩
  ·obtain ⟨a,h3⟩:=R.ioi i d' (args_get h1)
   obtain ⟨d2,h4,_⟩:=R'.io i a h3
   rw [h2] at h4; cases h4
  ·obtain ⟨v,h3,h4⟩:=R.fz i d (args_get h1)
   exact ⟨v,h3,h4.mono sb⟩
 ·obtain ⟨d,a,h1,h2,h3,h4,h5⟩:=own e w
  obtain ⟨b,o,g1,g2⟩:=R'.ow i s h2 w
  rw [h5] at g1; cases g1
  exact ⟨a,o,h4,g2⟩
 ·obtain ⟨d',b,h1,h2,h3,h4,h5⟩:=own e rfl
  rw [h4] at ea; cases ea
  exact R'.new i d _ h2 h5
 ·obtain ⟨d,h1,h2⟩:=R.io i a e
  obtain ⟨d',h3,h4⟩:=R'.io i a e
  exact ⟨d',outs_of (get_args h1) h3,h2⟩
 ·obtain ⟨d',a,h1,h2,h3,h4,h5⟩:=own e rfl
  exact ⟨a,h3⟩
 ·obtain ⟨_,a1,_,h2,_,h4,h5⟩:=own e1 w1
  obtain ⟨_,a2,_,g2,_,g4,g5⟩:=own e2 w2
  rw [h4] at e3; cases e3
  rw [g4] at e4; cases e4
  exact R'.ap i j s t a h2 w1 g2 w2 h5 g5
theorem Res.ret {vs:List V} {args:List Sl} {σ':St} {ρ':Ev} {v:V} {r:Sl} (hn:∀ s ∈ args,∀ d,s ≠ .ow d) (R:Rel K G F (vs.map some) H (args.map some)) (R':Rel K G F' σ' H' ρ') (q:Res K G F' H' σ' ρ' v r):Res K G F' H' (vs.map some) (outs args ρ') v r:=by
 cases r with
 | fz d=>exact q
 | io d=>exact q.elim
 | ow d =>
  obtain ⟨a,o,h1,h2,h3,h4,h5,h6⟩:=q
  refine ⟨a,o,h1,h2,h3,h4,h5,fun i s e w z=>?_⟩
  rcases outs_get e with ⟨d',g1,g2⟩ | ⟨g1,g2⟩
  ·obtain ⟨b,g3⟩:=R.ioi i d' (args_get g1)
   obtain ⟨_,_,g4⟩:=R.io i b g3
   obtain ⟨_,_,g5⟩:=R'.io i b g3
   rw [g4] at z; cases z
   exact h6 i s g2 w g5
  ·cases s with
   | fz d=>cases w
   | ow d=>exact (hn _ (List.mem_of_getElem? g1) d rfl).elim
   | io d=>exact (g2 d rfl).elim
noncomputable def endsOf (args:List Sl) (Qd:Sl -> Ev -> Prop):DE:={ nx:=fun ρ=>Qd (.fz .none) (outs args ρ),rt:=fun r ρ=>Qd r (outs args ρ),bk:=fun _=>False,ct:=fun _=>False }
theorem l_def {N:List Str} {con:Con} {ts:TDS} {vs:List V} {Q:VK} {E:XK} (hc:∀ args Qd,con args Qd -> (∀ s ∈ args,∀ d,s ≠ .ow d) /\ ts (endsOf args Qd) (startE N.length args)) (h:conSp K con vs H Q E):liftS K ts { nx:=fun _ H'=>Q .non H',rt:=Q } (L2.start N vs) H:=by
 obtain ⟨G,F,args,Qd,R,w,k⟩:=h
 obtain ⟨hn,w⟩:=hc args Qd w
 refine ⟨G,F,_,_,R.start,w,fun σ' H' F' ρ' s R' q=>?_,fun v σ' H' F' r ρ' s R' r' q=>?_,fun _ _ _ _ _ _ q=>q.elim,fun _ _ _ _ _ _ q=>q.elim⟩
 ·exact k .non H' F' (.fz .none) _ s (R.ret hn s R') Da.non q
 ·exact k v H' F' r _ s (R.ret hn s R') (r'.ret hn R R') q
end
end L3
namespace L3
open PySem PySem.Spec L2
section
variable {K:Fg} {F H:Hp} {v:V}
theorem At.int {i:Int} (h:At K F H v (.int i)):v = .int i:=by
 rcases h with h | ⟨a,o,rfl,_,_,h⟩
 ·cases h; rfl
 ·cases o <;> exact h.elim
theorem At.bool {b:Bool} (h:At K F H v (.bool b)):v = .bl b:=by
 rcases h with h | ⟨a,o,rfl,_,_,h⟩
 ·cases h; rfl
 ·cases o <;> exact h.elim
theorem At.str {x:Str} (h:At K F H v (.str x)):v = .str x:=by
 rcases h with h | ⟨a,o,rfl,_,_,h⟩
 ·cases h; rfl
 ·cases o <;> exact h.elim
theorem At.none (h:At K F H v .none):v = .non:=by
 rcases h with h | ⟨a,o,rfl,_,_,h⟩
 ·cases h; rfl
 ·cases o <;> exact h.elim
theorem At.list {ds:List D} (s:Sub F H) (h:At K F H v (.list ds)):∃ a xs,v = .ref a /\ H a = some (.lst xs) /\ DaAll K F xs ds:=by
 rcases h with h | ⟨a,o,rfl,_,e,h⟩
 ·cases h with
  | lst e t=>exact ⟨_,_,rfl,s _ _ e,t⟩
 ·cases o <;> first | exact h.elim | exact ⟨_,_,rfl,e,h⟩
theorem At.tuple {ds:List D} (s:Sub F H) (h:At K F H v (.tuple ds)):∃ a xs,v = .ref a /\ F a = some (.tup xs) /\ H a = some (.tup xs) /\ DaAll K F xs ds:=by
 rcases h with h | ⟨a,o,rfl,_,e,h⟩
 ·cases h with
  | tup e t=>exact ⟨_,_,rfl,e,s _ _ e,t⟩
 ·cases o <;> exact h.elim
theorem keyD_ne (k:Key):keyD k ≠ .none:=by cases k <;> (intro z; cases z)
theorem Da.scr_inv {ns:List Int}:∀ {d:D},Da K F v d -> d = scrD ns -> ∃ a,v = .ref a /\ SqL K F a (ns.map V.int)
 | _,.non,e=>by cases e
 | _,.bl _,e=>by cases e
 | _,.int _,e=>by cases e
 | _,.str _,e=>by cases e
 | _,.lst _ _,e=>by cases e
 | _,.tup _ _,e=>by cases e
 | _,.dk _ t,e=>by
  cases t with
  | nil=>injection e with e; cases e
  | cons _ _ =>
   injection e with e
   injection e with e _
   injection e with e _
   exact (keyD_ne _ e).elim
 | _,.dt _ t,e=>by
  cases t with
  | nil=>injection e with e; cases e
  | cons _ _ =>
   injection e with e
   injection e with e _
   injection e with e _
   cases e
 | _,.scr (ns:=ns') q,e=>by
  injection e with e
  injection e with e _
  injection e with _ e
  injection e with e2
  have:∀ (l m:List Int),l.map PyData.int = m.map PyData.int -> l = m:=by
   intro l
   induction l with
   | nil=>intro m e; cases m with | nil=>rfl | cons=>simp at e
   | cons a l ih=>intro m e; cases m with | nil=>simp at e | cons b m=>simp at e; rw [e.1,ih m e.2]
  rw [<- this _ _ e2]
  exact ⟨_,rfl,q⟩
theorem At.scr {ns:List Int} (s:Sub F H) (h:At K F H v (scrD ns)):∃ a,v = .ref a /\ SqL K H a (ns.map V.int):=by
 rcases h with h | ⟨a,o,rfl,_,e,h⟩
 ·obtain ⟨a,h1,h2⟩:=h.scr_inv rfl
  exact ⟨a,h1,s.sql h2⟩
 ·exfalso
  cases o <;> first | exact h.elim | skip
  ·rename_i kvs
   have h:DaKV K F kvs [(.none,.list (ns.map PyData.int))]:=h
   generalize q:[(PyData.none,PyData.list (ns.map PyData.int))] = es at h
   cases h with
   | nil=>cases q
   | cons _ _ =>
    injection q with q _
    injection q with q _
    exact keyD_ne _ q.symm
  ·rename_i kvs
   have h:DaKT K F kvs [(.none,.list (ns.map PyData.int))]:=h
   cases h
theorem AtAll.one {vs:List V} {d:D} (h:AtAll K F H vs [d]):∃ v,vs = [v] /\ At K F H v d:=by
 cases h with | cons a t=>cases t; exact ⟨_,rfl,a⟩
theorem AtAll.two {vs:List V} {d e:D} (h:AtAll K F H vs [d,e]):∃ v u,vs = [v,u] /\ At K F H v d /\ At K F H u e:=by
 cases h with | cons a t=>cases t with | cons b t=>cases t; exact ⟨_,_,rfl,a,b⟩
end
noncomputable def r2L (r:R2):List V -> Hp -> VK -> Prop:=fun vs H Q=>∃ x y,vs = [x,y] /\ r x y H Q
noncomputable def r1L (r:V -> Hp -> VK -> Prop):List V -> Hp -> VK -> Prop:=fun vs H Q=>∃ x,vs = [x] /\ r x H Q
theorem ok2 {K:Fg} {r:R2} {f:D -> D -> (Sl -> Prop) -> Prop} (h:∀ (G:Gh) (F:Hp) (σ:St) (H:Hp) (ρ:Ev) (x y:V) (d e:D) (Q:VK) (Qd:Sl -> Prop),Rel K G F σ H ρ -> At K F H x d -> At K F H y e -> f d e Qd ->
    (∀ v H' F' s,Sub F F' -> Rel K G F' σ H' ρ -> Res K G F' H' σ ρ v s -> Qd s -> Q v H') -> r x y H Q):OpOk K (r2L r) (o2 f):=by
 intro G F σ H ρ vs ds Q Qd R a w k
 match ds,a,w with
 | [d,e],a,w =>
  obtain ⟨v,u,rfl,h1,h2⟩:=a.two
  exact ⟨v,u,rfl,h G F σ H ρ v u d e Q Qd R h1 h2 w k⟩
theorem ok1 {K:Fg} {r:List V -> Hp -> VK -> Prop} {f:D -> (Sl -> Prop) -> Prop} (h:∀ (G:Gh) (F:Hp) (σ:St) (H:Hp) (ρ:Ev) (x:V) (d:D) (Q:VK) (Qd:Sl -> Prop),Rel K G F σ H ρ -> At K F H x d -> f d Qd ->
    (∀ v H' F' s,Sub F F' -> Rel K G F' σ H' ρ -> Res K G F' H' σ ρ v s -> Qd s -> Q v H') -> r [x] H Q):OpOk K r (o1 f):=by
 intro G F σ H ρ vs ds Q Qd R a w k
 match ds,a,w with
 | [d],a,w =>
  obtain ⟨v,rfl,h1⟩:=a.one
  exact h G F σ H ρ v d Q Qd R h1 w k
noncomputable def fI (C:Int -> Int -> Prop) (g:Int -> Int -> D):D -> D -> (Sl -> Prop) -> Prop
 | .int i,.int j,Q=>C i j /\ Q (.fz (g i j))
 | _,_,_=>False
noncomputable def fI0 (g:Int -> Int -> D):D -> D -> (Sl -> Prop) -> Prop
 | .int i,.int j,Q=>Q (.fz (g i j))
 | _,_,_=>False
theorem ok_I {K:Fg} {C:Int -> Int -> Prop} {g:Int -> Int -> V} {g':Int -> Int -> D} (hg:∀ F i j,Da K F (g i j) (g' i j)):OpOk K (r2L (rI C g)) (o2 (fI C g')):=ok2 fun G F σ H ρ x y d e Q Qd R h1 h2 w k=>by
 cases d <;> first | exact w.elim | skip
 cases e <;> first | exact w.elim | skip
 case int.int i j =>
  cases h1.int
  cases h2.int
  exact ⟨i,j,rfl,rfl,w.1,k _ H F (.fz _) (Sub.refl _) R (hg F i j) w.2⟩
theorem ok_I0 {K:Fg} {g:Int -> Int -> V} {g':Int -> Int -> D} (hg:∀ F i j,Da K F (g i j) (g' i j)):OpOk K (r2L (rI0 g)) (o2 (fI0 g')):=ok2 fun G F σ H ρ x y d e Q Qd R h1 h2 w k=>by
 cases d <;> first | exact w.elim | skip
 cases e <;> first | exact w.elim | skip
 case int.int i j =>
  cases h1.int
  cases h2.int
  exact ⟨i,j,rfl,rfl,k _ H F (.fz _) (Sub.refl _) R (hg F i j) w⟩
noncomputable def rAny (r r':R2):R2:=fun x y H Q=>r x y H Q \/ r' x y H Q
noncomputable def rCatB:R2:=fun x y H Q=>∃ (a b:Addr) (xs ys:List V),x = .ref a /\ y = .ref b /\ H a = some (.tup xs) /\ H b = some (.tup ys) /\ xs.length + ys.length <= sizeLine /\
 (xs = [] -> Q (.ref b) H) /\ (xs ≠ [] -> ys = [] -> Q (.ref a) H) /\ (xs ≠ [] -> ys ≠ [] -> ∀ p,H p = none -> Q (.ref p) (upd H p (.tup (xs ++ ys))))
noncomputable def fAdd:D -> D -> (Sl -> Prop) -> Prop
 | .int i,.int j,Q=>Q (.fz (.int (i + j)))
 | .tuple xs,.tuple ys,Q=>xs.length + ys.length <= sizeLine /\ Q (.fz (.tuple (xs ++ ys)))
 | .list xs,.list ys,Q=>xs.length + ys.length <= sizeLine /\ Q (.ow (.list (xs ++ ys)))
 | _,_,_=>False
theorem DaAll.nil_of {K:Fg} {F:Hp} {ds:List D} (h:DaAll K F [] ds):ds = []:=by cases h; rfl
theorem ok_add {K:Fg}:OpOk K (r2L (rAny (rI0 fun i j=>.int (i + j)) (rAny rCatB rCat))) (o2 fAdd):=ok2 fun G F σ H ρ x y d e Q Qd R h1 h2 w k=>by
 cases d <;> first | exact w.elim | (cases e <;> first | exact w.elim | skip)
 case int.int i j =>
  cases h1.int
  cases h2.int
  exact .inl ⟨i,j,rfl,rfl,k _ H F (.fz _) (Sub.refl _) R (Da.int _) w⟩
 case tuple.tuple xs ys =>
  obtain ⟨a,us,rfl,f1,e1,d1⟩:=h1.tuple R.sub
  obtain ⟨b,ws,rfl,f2,e2,d2⟩:=h2.tuple R.sub
  refine .inr (.inl ⟨a,b,us,ws,rfl,rfl,e1,e2,by rw [d1.length,d2.length]; exact w.1,fun z=>?_,fun _ z=>?_,fun _ _ p hp=>?_⟩)
  ·subst z
   have:=d1.nil_of
   subst this
   exact k _ H F (.fz _) (Sub.refl _) R (Da.tup f2 d2) w.2
  ·subst z
   have:=d2.nil_of
   subst this
   refine k _ H F (.fz _) (Sub.refl _) R (Da.tup f1 d1) ?_
   have:=w.2
   rw [List.append_nil] at this
   exact this
  ·obtain ⟨sb,R',dd⟩:=R.newTup hp (d1.append d2)
   exact k _ _ _ (.fz _) sb R' dd w.2
 case list.list xs ys =>
  obtain ⟨a,us,rfl,e1,d1⟩:=h1.list R.sub
  obtain ⟨b,ws,rfl,e2,d2⟩:=h2.list R.sub
  refine .inr (.inr ⟨a,b,us,ws,rfl,rfl,e1,e2,by rw [d1.length,d2.length]; exact w.1,fun p hp=>?_⟩)
  obtain ⟨R',r'⟩:=R.newOw (o:=.lst (us ++ ws)) (d:=.list (xs ++ ys)) hp (d1.append d2)
  exact k _ _ F _ (Sub.refl _) R' r' w.2
noncomputable def fMul:D -> D -> (Sl -> Prop) -> Prop
 | .int i,.int j,Q=>CMul i j /\ Q (.fz (.int (i * j)))
 | .list xs,.int k,Q=>-(2 ^ 63) <= k /\ k < 2 ^ 63 /\ xs.length * k.toNat <= sizeLine /\ Q (.ow (.list (List.replicate k.toNat xs).flatten))
 | _,_,_=>False
theorem ok_mul {K:Fg}:OpOk K (r2L (rAny (rI CMul fun i j=>.int (i * j)) rRep)) (o2 fMul):=ok2 fun G F σ H ρ x y d e Q Qd R h1 h2 w k=>by
 cases d <;> first | exact w.elim | (cases e <;> first | exact w.elim | skip)
 case int.int i j =>
  cases h1.int
  cases h2.int
  exact .inl ⟨i,j,rfl,rfl,w.1,k _ H F (.fz _) (Sub.refl _) R (Da.int _) w.2⟩
 case list.int xs j =>
  cases h2.int
  obtain ⟨a,us,rfl,e1,d1⟩:=h1.list R.sub
  refine .inr ⟨a,j,us,rfl,rfl,e1,w.1,w.2.1,by rw [d1.length]; exact w.2.2.1,fun p hp=>?_⟩
  obtain ⟨R',r'⟩:=R.newOw (o:=.lst (List.replicate j.toNat us).flatten) (d:=.list (List.replicate j.toNat xs).flatten) hp (d1.rep _)
  exact k _ _ F _ (Sub.refl _) R' r' w.2.2.2
noncomputable def fLen:D -> (Sl -> Prop) -> Prop
 | .list ds,Q=>Q (.fz (.int ds.length))
 | .tuple ds,Q=>Q (.fz (.int ds.length))
 | .dict [(.none,.list ds)],Q=>∃ ns:List Int,ds = ns.map PyData.int /\ Q (.fz (.int ns.length))
 | _,_=>False
theorem ok_len {K:Fg}:OpOk K (rLen K) (o1 fLen):=ok1 fun G F σ H ρ x d Q Qd R h1 w k=>by
 cases d <;> first | exact w.elim | skip
 case list ds =>
  obtain ⟨a,us,rfl,e1,d1⟩:=h1.list R.sub
  exact ⟨a,us,rfl,.inl (SqL.of e1),k _ H F (.fz _) (Sub.refl _) R (Da.int _) (by rw [d1.length]; exact w)⟩
 case tuple ds =>
  obtain ⟨a,us,rfl,_,e1,d1⟩:=h1.tuple R.sub
  exact ⟨a,us,rfl,.inr (SqT.of e1),k _ H F (.fz _) (Sub.refl _) R (Da.int _) (by rw [d1.length]; exact w)⟩
 case dict es =>
  rcases es with _ | ⟨⟨c1,c2⟩,_ | ⟨c3,c4⟩⟩
  ·exact w.elim
  ·cases c1 <;> first | exact w.elim | skip
   cases c2 <;> first | exact w.elim | skip
   obtain ⟨ns,rfl,w⟩:=w
   obtain ⟨a,rfl,q⟩:=h1.scr R.sub
   exact ⟨a,_,rfl,.inl q,k _ H F (.fz _) (Sub.refl _) R (Da.int _) (by rw [List.length_map]; exact w)⟩
  ·cases c1 <;> first | exact w.elim | (cases c2 <;> exact w.elim)
noncomputable def fIx:D -> D -> (Sl -> Prop) -> Prop
 | .list ds,.int i,Q=>∃ d,atI ds i = some d /\ Q (.fz d)
 | .tuple ds,.int i,Q=>∃ d,atI ds i = some d /\ Q (.fz d)
 | .dict [(.none,.list ds)],.int i,Q=>∃ (ns:List Int) (n:Int),ds = ns.map PyData.int /\ atI ns i = some n /\ Q (.fz (.int n))
 | _,_,_=>False
theorem DaAll.at {K:Fg} {F:Hp} {xs:List V} {ds:List D} {i:Int} {d:D} (h:DaAll K F xs ds) (e:atI ds i = some d):∃ v,atI xs i = some v /\ Da K F v d:=by
 unfold atI at e ⊢
 rw [h.length]
 cases q:ixN ds.length i with
 | none=>rw [q] at e; cases e
 | some j=>rw [q] at e; exact h.get e
theorem atI_map {α β:Type} (f:α -> β) {l:List α} {i:Int} {x:α} (h:atI l i = some x):atI (l.map f) i = some (f x):=by
 unfold atI at h ⊢
 rw [List.length_map]
 cases q:ixN l.length i with
 | none=>rw [q] at h; cases h
 | some j=>rw [q] at h; simp at h ⊢; exact ⟨x,h,rfl⟩
theorem ok_ix {K:Fg}:OpOk K (r2L (rAny (rIxL K) (rIxT K))) (o2 fIx):=ok2 fun G F σ H ρ x y d e Q Qd R h1 h2 w k=>by
 cases d <;> first | exact w.elim | skip
 case list ds =>
  cases e <;> first | exact w.elim | skip
  rename_i i
  obtain ⟨d,w1,w2⟩:=w
  cases h2.int
  obtain ⟨a,us,rfl,e1,d1⟩:=h1.list R.sub
  obtain ⟨v,g1,g2⟩:=d1.at w1
  exact .inl ⟨a,us,i,v,rfl,rfl,SqL.of e1,g1,k _ H F (.fz _) (Sub.refl _) R g2 w2⟩
 case tuple ds =>
  cases e <;> first | exact w.elim | skip
  rename_i i
  obtain ⟨d,w1,w2⟩:=w
  cases h2.int
  obtain ⟨a,us,rfl,_,e1,d1⟩:=h1.tuple R.sub
  obtain ⟨v,g1,g2⟩:=d1.at w1
  exact .inr ⟨a,us,i,v,rfl,rfl,SqT.of e1,g1,k _ H F (.fz _) (Sub.refl _) R g2 w2⟩
 case dict es =>
  rcases es with _ | ⟨⟨c1,c2⟩,_ | ⟨c3,c4⟩⟩
  ·exact w.elim
  ·cases c1 <;> first | exact w.elim | skip
   cases c2 <;> first | exact w.elim | skip
   cases e <;> first | exact w.elim | skip
   rename_i i
   obtain ⟨ns,n,e,w1,w2⟩:=w
   subst e
   cases h2.int
   obtain ⟨a,rfl,q⟩:=h1.scr R.sub
   exact .inl ⟨a,_,i,_,rfl,rfl,q,atI_map V.int w1,k _ H F (.fz _) (Sub.refl _) R (Da.int _) w2⟩
  ·cases c1 <;> first | exact w.elim | (cases c2 <;> exact w.elim)
noncomputable def fList:D -> (Sl -> Prop) -> Prop
 | .list ds,Q=>Q (.ow (.list ds))
 | .tuple ds,Q=>Q (.ow (.list ds))
 | _,_=>False
theorem ok_list {K:Fg}:OpOk K (rListOf K) (o1 fList):=ok1 fun G F σ H ρ x d Q Qd R h1 w k=>by
 match d,h1,w with
 | .list ds,h1,w =>
  obtain ⟨a,us,rfl,e1,d1⟩:=h1.list R.sub
  refine ⟨a,us,rfl,.inl (SqL.of e1),fun p hp=>?_⟩
  obtain ⟨R',r'⟩:=R.newOw (o:=.lst us) (d:=.list ds) hp d1
  exact k _ _ F _ (Sub.refl _) R' r' w
 | .tuple ds,h1,w =>
  obtain ⟨a,us,rfl,_,e1,d1⟩:=h1.tuple R.sub
  refine ⟨a,us,rfl,.inr (SqT.of e1),fun p hp=>?_⟩
  obtain ⟨R',r'⟩:=R.newOw (o:=.lst us) (d:=.list ds) hp d1
  exact k _ _ F _ (Sub.refl _) R' r' w
noncomputable def fTuple:D -> (Sl -> Prop) -> Prop
 | .list ds,Q=>Q (.fz (.tuple ds))
 | .tuple ds,Q=>Q (.fz (.tuple ds))
 | _,_=>False
theorem ok_tuple {K:Fg}:OpOk K (rTupleOf K) (o1 fTuple):=ok1 fun G F σ H ρ x d Q Qd R h1 w k=>by
 match d,h1,w with
 | .list ds,h1,w =>
  obtain ⟨a,us,rfl,e1,d1⟩:=h1.list R.sub
  refine ⟨a,us,rfl,.inl ⟨SqL.of e1,fun p hp=>?_⟩⟩
  obtain ⟨sb,R',dd⟩:=R.newTup hp d1
  exact k _ _ _ (.fz _) sb R' dd w
 | .tuple ds,h1,w =>
  obtain ⟨a,us,rfl,f1,e1,d1⟩:=h1.tuple R.sub
  exact ⟨a,us,rfl,.inr ⟨SqT.of e1,k _ H F (.fz _) (Sub.refl _) R (Da.tup f1 d1) w⟩⟩
noncomputable def fAll:D -> (Sl -> Prop) -> Prop
 | .list ds,Q=>∃ bs:List Bool,ds = bs.map PyData.bool /\ Q (.fz (.bool (bs.all id)))
 | _,_=>False
theorem DaAll.bools {K:Fg} {F:Hp}:∀ {xs:List V} {bs:List Bool},DaAll K F xs (bs.map PyData.bool) -> xs = bs.map V.bl
 | [],[],_=>rfl
 | x :: xs,b :: bs,.cons h t=>by cases h; simp [DaAll.bools t]
theorem ok_all {K:Fg}:OpOk K (rAll K) (o1 fAll):=ok1 fun G F σ H ρ x d Q Qd R h1 w k=>by
 match d,h1,w with
 | .list ds,h1,⟨bs,e,w⟩ =>
  subst e
  obtain ⟨a,us,rfl,e1,d1⟩:=h1.list R.sub
  have:=d1.bools
  subst this
  exact ⟨a,bs,rfl,SqL.of e1,k _ H F (.fz _) (Sub.refl _) R (Da.bl _) w⟩
noncomputable def kiD:D -> Ki
 | .none=>.non
 | .bool _=>.bl
 | .int _=>.int
 | .str _=>.str
 | .list _=>.lst
 | .tuple _=>.tup
 | .dict ((.none,_) :: _)=>.lst
 | .dict _=>.dct
noncomputable def fAbs:D -> (Sl -> Prop) -> Prop
 | .int i,Q=>Q (.fz (.int (if i < 0 then -i else i)))
 | _,_=>False
theorem ok_abs {K:Fg}:OpOk K (fun xs H Q=>∃ i,xs = [V.int i] /\ Q (V.int (if i < 0 then -i else i)) H) (o1 fAbs):=ok1 fun G F σ H ρ x d Q Qd R h1 w k=>by
 match d,h1,w with
 | .int i,h1,w=>cases h1.int; exact ⟨i,rfl,k _ H F (.fz _) (Sub.refl _) R (Da.int _) w⟩
theorem ok_2I {K:Fg} {g:Int -> Int -> Int}:OpOk K (fun xs H Q=>∃ i j,xs = [V.int i,V.int j] /\ Q (V.int (g i j)) H) (o2 (fI0 fun i j=>.int (g i j))):=by
 intro G F σ H ρ vs ds Q Qd R a w k
 match ds,a,w with
 | [d,e],a,w =>
  obtain ⟨v,u,rfl,h1,h2⟩:=a.two
  have w:fI0 (fun i j=>.int (g i j)) d e Qd:=w
  unfold fI0 at w
  split at w
  rotate_left
  ·exact w.elim
  rename_i i j w
  cases h1.int
  cases h2.int
  exact ⟨i,j,rfl,k _ H F (.fz _) (Sub.refl _) R (Da.int _) w⟩
noncomputable def fInt:D -> (Sl -> Prop) -> Prop
 | .int i,Q=>Q (.fz (.int i))
 | .bool b,Q=>Q (.fz (.int (if b then 1 else 0)))
 | _,_=>False
theorem ok_int {K:Fg}:OpOk K (fun xs H Q=>(∃ i,xs = [V.int i] /\ Q (V.int i) H) \/ ∃ k,xs = [V.bl k] /\ Q (V.int (if k then 1 else 0)) H) (o1 fInt):=ok1 fun G F σ H ρ x d Q Qd R h1 w k=>by
 match d,h1,w with
 | .int i,h1,w=>cases h1.int; exact .inl ⟨i,rfl,k _ H F (.fz _) (Sub.refl _) R (Da.int _) w⟩
 | .bool b,h1,w=>cases h1.bool; exact .inr ⟨b,rfl,k _ H F (.fz _) (Sub.refl _) R (Da.int _) w⟩
noncomputable def fNeg:D -> (Sl -> Prop) -> Prop
 | .int i,Q=>Q (.fz (.int (-i)))
 | _,_=>False
theorem ok_neg {K:Fg}:OpOk K (r1L (rU fun i=>.int (-i))) (o1 fNeg):=ok1 fun G F σ H ρ x d Q Qd R h1 w k=>by
 match d,h1,w with
 | .int i,h1,w=>cases h1.int; exact ⟨_,rfl,i,rfl,k _ H F (.fz _) (Sub.refl _) R (Da.int _) w⟩
noncomputable def dOpF (as:List AD) (f:List D -> (Sl -> Prop) -> Prop):TD:=fun ρ Q=>dArgs as ρ fun xs ρ1=>match lentAny ρ1 xs with
 | false=>looksQ ρ1 xs fun ds=>f ds fun r=>Q r ρ1
 | true=>False
noncomputable def fTupD (ds:List D) (Q:Sl -> Prop):Prop:=Q (.fz (.tuple ds))
noncomputable def fLstD (ds:List D) (Q:Sl -> Prop):Prop:=Q (.ow (.list ds))
theorem le_size {n:Nat} (h:n <= 1000):n <= sizeLine:=Nat.le_trans h (by decide)
theorem l_tup {K:Fg} {as:List AD} (hl:as.length <= 1000) {σ:St} {H:Hp} {Q:VK} (h:lift K (dOpF as fTupD) σ H Q):tTup (tArgs (as.map (argT K))) σ H Q:=by
 obtain ⟨G,F,ρ,Qd,R,w,k⟩:=h
 refine args_okL R w fun vs H' F' xs ρ' sb R' o hn q=>?_
 split at q
 ·rename_i e
  obtain ⟨ds,da,q⟩:=noLent_looks R' e o q
  refine ⟨le_size (by omega),fun p hp=>?_⟩
  obtain ⟨s2,R2,dd⟩:=R'.newTup hp da
  exact k _ _ _ (.fz _) _ (sb.trans s2) R2 dd q
 ·exact q.elim
theorem l_lst {K:Fg} {as:List AD} (hl:as.length <= 1000) {σ:St} {H:Hp} {Q:VK} (h:lift K (dOpF as fLstD) σ H Q):tLst (tArgs (as.map (argT K))) σ H Q:=by
 obtain ⟨G,F,ρ,Qd,R,w,k⟩:=h
 refine args_okL R w fun vs H' F' xs ρ' sb R' o hn q=>?_
 split at q
 ·rename_i e
  obtain ⟨ds,da,q⟩:=noLent_looks R' e o q
  refine ⟨le_size (by omega),fun p hp=>?_⟩
  obtain ⟨R2,r2⟩:=R'.newOw (o:=.lst vs) (d:=.list ds) hp da
  exact k _ _ _ _ _ sb R2 r2 q
 ·exact q.elim
noncomputable def dChain (p q:Int -> Int -> Bool) (a b c:AD):TD:=fun ρ Q=>dArgs [a,b] ρ fun xs ρ1=>looksQ ρ1 xs fun ds=>match ds with
 | [.int i,.int j]=>if p i j = true then dArgs [c] ρ1 fun ys ρ2=>looksQ ρ2 ys fun es=>match es with
   | [.int k]=>Q (.fz (.bool (q j k))) ρ2
   | _=>False
  else Q (.fz (.bool false)) ρ1
 | _=>False
theorem l_chain {K:Fg} {p q:Int -> Int -> Bool} {a b c:AD} {σ:St} {H:Hp} {Q:VK} (h:lift K (dChain p q a b c) σ H Q) :
  tChain (rI0 fun i j=>.bl (p i j)) (rI0 fun i j=>.bl (q i j)) (argT K a) (argT K b) (argT K c) σ H Q:=by
 obtain ⟨G,F,ρ,Qd,R,w,k⟩:=h
 have main:tArgs ([a,b].map (argT K)) σ H fun vs H2=>∃ x y,vs = [x,y] /\ (rI0 fun i j=>V.bl (p i j)) x y H2 fun z H3=>∃ k,z = .bl k /\
   (if k = true then argT K c σ H3 fun w' H4=>(rI0 fun i j=>V.bl (q i j)) y w' H4 Q else Q (.bl false) H3):=by
  refine args_ok R w fun vs H' F' xs ρ' sb R' o w1=>?_
  obtain ⟨ds,ha,w1⟩:=looks_ok R' o w1
  split at w1
  ·rename_i i j
   obtain ⟨v,u,rfl,h1,h2⟩:=ha.two
   cases h1.int
   cases h2.int
   refine ⟨_,_,rfl,i,j,rfl,rfl,p i j,rfl,?_⟩
   by_cases e:p i j = true
   ·rw [if_pos e] at w1 ⊢
    have:=args_ok (as:=[c]) (Qv:=fun vs H4=>∃ w',vs = [w'] /\ (rI0 fun i j=>V.bl (q i j)) (V.int j) w' H4 Q) R' w1 fun vs H2 F2 ys ρ2 s2 R2 o2 w2=>by
     obtain ⟨es,hb,w2⟩:=looks_ok R2 o2 w2
     split at w2
     ·rename_i k'
      obtain ⟨v,rfl,h3⟩:=hb.one
      cases h3.int
      exact ⟨_,rfl,j,k',rfl,rfl,k _ H2 F2 (.fz _) ρ2 (sb.trans s2) R2 (Da.bl _) w2⟩
     ·exact w2.elim
    exact arg1 this
   ·rw [if_neg e] at w1 ⊢
    exact k _ H' F' (.fz _) ρ' sb R' (Da.bl _) w1
  ·exact w1.elim
 exact arg2 main
end L3
namespace L3
open PySem PySem.Spec L2
noncomputable def dMeth (i:Nat) (as:List AD) (f:List D -> List D -> (D -> D -> Prop) -> Prop):TD:=fun ρ Q=>match ρ[i]? with
 | some (some s0)=>match s0.d,isOw s0 with
  | .list _,true=>dArgs as ρ fun xs ρ1=>match ρ1[i]?,lentAny ρ1 xs with
   | some (some s),false=>match s.d,isOw s with
    | .list es,true=>looksQ ρ1 xs fun ds=>f es ds fun d' r=>Q (.fz r) (ρ1.set i (some (s.put d')))
    | _,_=>False
   | _,_=>False
  | _,_=>False
 | _=>False
noncomputable def MOk (K:Fg) (r:V -> List V -> Hp -> VK -> Prop) (f:List D -> List D -> (D -> D -> Prop) -> Prop):Prop :=
 ∀ (F H:Hp) (a:Addr) (xs:List V) (es:List D) (vs:List V) (ds:List D) (Q:VK) (k:D -> D -> Prop),Sub F H -> H a = some (.lst xs) -> DaAll K F xs es -> DaAll K F vs ds -> f es ds k ->
  (∀ v o' d' res,Own1 K F o' d' -> Da K F v res -> k d' res -> Q v (upd H a o')) -> r (.ref a) vs H Q
theorem l_meth {K:Fg} {i:Nat} {as:List AD} {r:V -> List V -> Hp -> VK -> Prop} {f:List D -> List D -> (D -> D -> Prop) -> Prop} (ok:MOk K r f) {σ:St} {H:Hp} {Q:VK} (h:lift K (dMeth i as f) σ H Q) :
  ∃ a xs,σ[i]? = some (some (V.ref a)) /\ SqL K H a xs /\ tArgs (as.map (argT K)) σ H fun vs H2=>r (.ref a) vs H2 Q:=by
 obtain ⟨G,F,ρ,Qd,R,w,k⟩:=h
 unfold dMeth at w
 split at w
 ·rename_i s0 e0
  split at w
  ·rename_i es0 p1 p2
   obtain ⟨a,o,g1,g2,g3,g4⟩:=R.ow i s0 e0 p2
   have gl:∃ xs,H a = some (.lst xs):=by
    rw [p1] at g4
    cases o <;> first | exact g4.elim | exact ⟨_,g3⟩
   obtain ⟨xs0,gl⟩:=gl
   refine ⟨a,xs0,g1,SqL.of gl,args_ok R w fun vs H1 F1 xs ρ1 s1 R1 o1 w1=>?_⟩
   split at w1
   ·rename_i s e en
    split at w1
    ·rename_i es q1 q2
     obtain ⟨ds,da,w1⟩:=noLent_looks R1 en o1 w1
     obtain ⟨a',o',h1,h2,h3,h4⟩:=R1.ow i s e q2
     rw [g1] at h1; cases h1
     rw [q1] at h4
     have hl:∃ us,o' = .lst us /\ DaAll K F1 us es:=by cases o' <;> first | exact h4.elim | exact ⟨_,rfl,h4⟩
     obtain ⟨us,rfl,h4⟩:=hl
     refine ok F1 H1 a us es vs ds Q _ R1.sub h3 h4 da w1 fun v o2 d2 res ho hv hk=>?_
     have R2:=R1.change (o':=o2) (d':=d2) e q2 g1 ho
     exact k v _ F1 (.fz res) _ s1 R2 hv hk
    ·exact w1.elim
   ·exact w1.elim
  ·exact w.elim
 ·exact w.elim
noncomputable def fAppend:List D -> List D -> (D -> D -> Prop) -> Prop
 | es,[x],k=>es.length < sizeLine /\ k (.list (es ++ [x])) .none
 | _,_,_=>False
theorem ok_append {K:Fg}:MOk K rAppend fAppend:=by
 intro F H a xs es vs ds Q k s e d1 d2 w q
 match ds,d2,w with
 | [x],.cons h .nil,w=>exact ⟨a,xs,_,rfl,rfl,e,by rw [d1.length]; exact w.1,q _ (.lst (xs ++ [_])) (.list (es ++ [x])) _ (d1.append (.cons h .nil)) .non w.2⟩
noncomputable def fInsert:List D -> List D -> (D -> D -> Prop) -> Prop
 | es,[.int i,x],k=>es.length < sizeLine /\ 0 <= i /\ i <= es.length /\ k (.list (es.take i.toNat ++ x :: es.drop i.toNat)) .none
 | _,_,_=>False
theorem ok_insert {K:Fg}:MOk K rInsert fInsert:=by
 intro F H a xs es vs ds Q k s e d1 d2 w q
 rcases ds with _ | ⟨d,_ | ⟨x,_ | ⟨e3,ds⟩⟩⟩ <;> first | exact w.elim | (cases d <;> first | exact w.elim | skip)
 ·rename_i i
  cases d2 with | cons h t=>?_
  cases t with | cons h' t=>?_
  cases t
  cases h
  exact ⟨a,xs,i,_,rfl,rfl,e,by rw [d1.length]; exact w.1,w.2.1,by rw [d1.length]; exact w.2.2.1,q .non (.lst (xs.take i.toNat ++ _ :: xs.drop i.toNat)) (.list _) .none ((d1.take _).append (.cons h' (d1.drop _))) .non w.2.2.2⟩
noncomputable def dSetIx (j:Nat) (ai:AD) (te:TD):TDS:=fun E ρ=>te ρ fun r ρ1=>match ρ1[j]? with
 | some (some _)=>dArgs [ai] ρ1 fun xs ρ2=>looksQ ρ2 xs fun ds=>match ds,ρ2[j]? with
  | [.int k],some (some s)=>match s.d,isOw s with
   | .list es,true=>∃ n,ixN es.length k = some n /\ E.nx (ρ2.set j (some (s.put (.list (es.set n r.d)))))
   | _,_=>False
  | _,_=>False
 | _=>False
theorem l_setIx {K:Fg} {j:Nat} {ai:AD} {te:TD} {σ:St} {H:Hp} {E:Ends} (h:liftS K (dSetIx j ai te) E σ H):tAsg (lift K te) (gSub (tVar j) (argT K ai) rSetL) E σ H:=by
 obtain ⟨G,F,ρ,D,R,w,n,r,b,c⟩:=h
 refine ⟨G,F,ρ,_,R,w,fun v H1 F1 x ρ1 s1 R1 r1 w1=>?_⟩
 obtain ⟨F2,s2,R2,d2⟩:=r1.frz R1
 split at w1
 ·rename_i s0 e0
  obtain ⟨u,eu⟩:=R2.bound e0
  refine ⟨u,eu,arg1 (P:=fun i H2=>rSetL u i v H2 fun H3=>E.nx σ H3) (args_ok R2 w1 fun vs H3 F3 xs ρ3 s3 R3 o3 w3=>?_)⟩
  obtain ⟨ds,ha,w3⟩:=looks_ok R3 o3 w3
  split at w3
  ·rename_i k s e
   obtain ⟨iv,rfl,hi⟩:=ha.one
   cases hi.int
   split at w3
   ·rename_i es p1 p2
    obtain ⟨m,w4,w5⟩:=w3
    obtain ⟨a,o,g1,g2,g3,g4⟩:=R3.ow j s e p2
    rw [eu] at g1; cases g1
    rw [p1] at g4
    have hl:∃ us,o = .lst us /\ DaAll K F3 us es:=by cases o <;> first | exact g4.elim | exact ⟨_,rfl,g4⟩
    obtain ⟨us,rfl,g4⟩:=hl
    refine ⟨_,rfl,a,us,k,m,rfl,rfl,g3,by rw [g4.length]; exact w4,?_⟩
    have R4:=R3.change (o':=.lst (us.set m v)) (d':=.list (es.set m x.d)) e p2 eu (g4.set (d2.mono s3) m)
    exact n σ _ F3 _ (s1.trans (s2.trans s3)) R4 w5
   ·exact w3.elim
  ·exact w3.elim
 ·exact w1.elim
noncomputable def iSeq (K:Fg) (tl:TE):TI:=fun σ H R=>tl σ H fun x H1=>∃ a,x = .ref a /\ (((∃ xs,SqL K H1 a xs) /\ R (Itl K a) H1) \/ ((∃ xs,SqT K H1 a xs) /\ R (Itt K a) H1))
noncomputable def dISeq (a:TD):TDI:=fun ρ Q=>a ρ fun r ρ1=>match r.d with
 | .list ds=>Q ds ρ1
 | .tuple ds=>Q ds ρ1
 | _=>False
theorem walks_list {K:Fg} {F:Hp} {a:Addr} {xs:List V} {ds:List D} (e:F a = some (.lst xs)) (h:DaAll K F xs ds):Walks K (Itl K a) F ds:=fun i H F1 s1 s2=>by
 have q:=SqL.of (K:=K) (s2 _ _ (s1 _ _ e))
 refine ⟨fun d ed=>?_,fun hl=>⟨xs,q,by rw [h.length]; omega⟩⟩
 obtain ⟨v,h1,h2⟩:=h.get ed
 refine ⟨⟨xs,v,q,h1⟩,fun x H' ⟨e1,e2⟩=>?_⟩
 subst e1
 have:=e2 xs q
 rw [h1] at this; cases this
 exact ⟨F1,Sub.refl _,fun _ _ z=>.inl z,s2,Sub.refl _,h2.mono s1⟩
theorem walks_tup {K:Fg} {F:Hp} {a:Addr} {xs:List V} {ds:List D} (e:F a = some (.tup xs)) (h:DaAll K F xs ds):Walks K (Itt K a) F ds:=fun i H F1 s1 s2=>by
 have q:=SqT.of (K:=K) (s2 _ _ (s1 _ _ e))
 refine ⟨fun d ed=>?_,fun hl=>⟨xs,q,by rw [h.length]; omega⟩⟩
 obtain ⟨v,h1,h2⟩:=h.get ed
 refine ⟨⟨xs,v,q,h1⟩,fun x H' ⟨e1,e2⟩=>?_⟩
 subst e1
 have:=e2 xs q
 rw [h1] at this; cases this
 exact ⟨F1,Sub.refl _,fun _ _ z=>.inl z,s2,Sub.refl _,h2.mono s1⟩
theorem l_iseq {K:Fg} {a:TD} {σ:St} {H:Hp} {R:It -> Hp -> Prop} (h:liftI K (dISeq a) σ H R):iSeq K (lift K a) σ H R:=by
 obtain ⟨G,F,ρ,Qd,Rl,w,k⟩:=h
 refine ⟨G,F,ρ,_,Rl,w,fun v H1 F1 r ρ1 s1 R1 r1 w1=>?_⟩
 obtain ⟨F2,s2,R2,d2⟩:=r1.frz R1
 split at w1
 ·rename_i ds e
  rw [e] at d2
  cases d2 with
  | lst q t=>exact ⟨_,rfl,.inl ⟨⟨_,SqL.of (R2.sub _ _ q)⟩,k _ H1 F2 ds ρ1 (s1.trans s2) R2 (walks_list q t) w1⟩⟩
 ·rename_i ds e
  rw [e] at d2
  cases d2 with
  | tup q t=>exact ⟨_,rfl,.inr ⟨⟨_,SqT.of (R2.sub _ _ q)⟩,k _ H1 F2 ds ρ1 (s1.trans s2) R2 (walks_tup q t) w1⟩⟩
 ·exact w1.elim
noncomputable def rangeD (lo:Int) (n:Nat):List D:=(List.range n).map fun (i:Nat)=>PyData.int (lo + i)
theorem walks_range {K:Fg} {F:Hp} {lo:Int} {n:Nat}:Walks K (Itr lo n) F (rangeD lo n):=fun i H F1 s1 s2=>by
 have hl:(rangeD lo n).length = n:=by simp [rangeD]
 refine ⟨fun d ed=>?_,fun h=>by rw [hl] at h; exact Nat.le_of_eq h⟩
 have hi:i < n:=by have:=lt_of_get ed; rw [hl] at this; exact this
 have e:(rangeD lo n)[i]? = some (.int (lo + i)):=by simp [rangeD,hi]
 rw [e] at ed; cases ed
 refine ⟨hi,fun x H' ⟨e1,e2⟩=>?_⟩
 subst e1 e2
 exact ⟨F1,Sub.refl _,fun _ _ z=>.inl z,s2,Sub.refl _,.int _⟩
noncomputable def dIRng1 (a:AD):TDI:=fun ρ Q=>dArgs [a] ρ fun xs ρ1=>looksQ ρ1 xs fun ds=>match ds with
 | [.int j]=>-(2 ^ 62) <= j /\ j < 2 ^ 62 /\ Q (rangeD 0 j.toNat) ρ1
 | _=>False
noncomputable def dIRng2 (a b:AD):TDI:=fun ρ Q=>dArgs [a,b] ρ fun xs ρ1=>looksQ ρ1 xs fun ds=>match ds with
 | [.int i,.int j]=>(-(2 ^ 62) <= i /\ i < 2 ^ 62 /\ -(2 ^ 62) <= j /\ j < 2 ^ 62) /\ Q (rangeD i (j - i).toNat) ρ1
 | _=>False
theorem l_rng1 {K:Fg} {a:AD} {σ:St} {H:Hp} {R:It -> Hp -> Prop} (h:liftI K (dIRng1 a) σ H R):iRng1 (tArgs ([a].map (argT K))) σ H R:=by
 obtain ⟨G,F,ρ,Qd,Rl,w,k⟩:=h
 refine args_ok Rl w fun vs H' F' xs ρ' sb R' o w1=>?_
 obtain ⟨ds,ha,w1⟩:=looks_ok R' o w1
 split at w1
 ·rename_i j
  obtain ⟨v,rfl,h1⟩:=ha.one
  cases h1.int
  exact ⟨j,rfl,w1.1,w1.2.1,k _ H' F' _ ρ' sb R' walks_range w1.2.2⟩
 ·exact w1.elim
theorem l_rng2 {K:Fg} {a b:AD} {σ:St} {H:Hp} {R:It -> Hp -> Prop} (h:liftI K (dIRng2 a b) σ H R):iRng2 (tArgs ([a,b].map (argT K))) σ H R:=by
 obtain ⟨G,F,ρ,Qd,Rl,w,k⟩:=h
 refine args_ok Rl w fun vs H' F' xs ρ' sb R' o w1=>?_
 obtain ⟨ds,ha,w1⟩:=looks_ok R' o w1
 split at w1
 ·rename_i i j
  obtain ⟨v,u,rfl,h1,h2⟩:=ha.two
  cases h1.int
  cases h2.int
  exact ⟨i,j,rfl,w1.1,k _ H' F' _ ρ' sb R' walks_range w1.2⟩
 ·exact w1.elim
noncomputable def SeqF (K:Fg) (F:Hp) (v:V) (ds:List D):Prop:=∃ k a xs,v = .ref a /\ (F a = some (match k with | Kd.l=>HO.lst xs | Kd.t=>HO.tup xs)) /\ DaAll K F xs ds
theorem sq_of {K:Fg} {H:Hp} {a:Addr} {xs:List V} {k:Kd} (e:H a = some (match k with | Kd.l=>HO.lst xs | Kd.t=>HO.tup xs)):Sq k K H a xs:=by
 cases k with
 | l=>exact SqL.of e
 | t=>exact SqT.of e
noncomputable def seqD:D -> Option (List D)
 | .list ds=>some ds
 | .tuple ds=>some ds
 | _=>none
theorem seqF_of {K:Fg} {F:Hp} {v:V} {d:D} {ds:List D} (h:Da K F v d) (e:seqD d = some ds):∃ k a xs,v = .ref a /\ (F a = some (match k with | Kd.l=>HO.lst xs | Kd.t=>HO.tup xs)) /\ DaAll K F xs ds:=by
 cases h with
 | lst q t=>cases e; exact ⟨.l,_,_,rfl,q,t⟩
 | tup q t=>cases e; exact ⟨.t,_,_,rfl,q,t⟩
 | non=>cases e
 | bl=>cases e
 | int=>cases e
 | str=>cases e
 | dk _ _=>cases e
 | dt _ _=>cases e
 | scr _=>cases e
 | exc _=>cases e
 | opq _=>cases e
noncomputable def zipD (ds es:List D):List D:=(ds.zip es).map fun p=>PyData.tuple [p.1,p.2]
noncomputable def zip3D (ds es fs:List D):List D:=(ds.zip (es.zip fs)).map fun p=>PyData.tuple [p.1,p.2.1,p.2.2]
noncomputable def dIZip2 (a b:AD):TDI:=fun ρ Q=>dArgs [a,b] ρ fun xs ρ1=>match lentAny ρ1 xs with
 | false=>looksQ ρ1 xs fun ds=>match ds with
  | [x,y]=>match seqD x,seqD y with
   | some us,some ws=>Q (zipD us ws) ρ1
   | _,_=>False
  | _=>False
 | true=>False
theorem walks_zip2 {K:Fg} {F:Hp} {a b:Addr} {k1 k2:Kd} {xs ys:List V} {ds es:List D} (e1:F a = some (match k1 with | Kd.l=>HO.lst xs | Kd.t=>HO.tup xs)) (h1:DaAll K F xs ds)
  (e2:F b = some (match k2 with | Kd.l=>HO.lst ys | Kd.t=>HO.tup ys)) (h2:DaAll K F ys es):Walks K (Itz2 K k1 k2 a b) F (zipD ds es):=fun i H F1 s1 s2=>by
 have q1:Sq k1 K H a xs:=sq_of (s2 _ _ (s1 _ _ e1))
 have q2:Sq k2 K H b ys:=sq_of (s2 _ _ (s1 _ _ e2))
 refine ⟨fun d ed=>?_,fun hl=>⟨xs,ys,q1,q2,?_⟩⟩
 ·simp only [zipD,List.getElem?_map,Option.map_eq_some_iff] at ed
  obtain ⟨⟨x,y⟩,ez,rfl⟩:=ed
  rw [List.getElem?_zip_eq_some] at ez
  obtain ⟨v,g1,g2⟩:=h1.get ez.1
  obtain ⟨u,g3,g4⟩:=h2.get ez.2
  refine ⟨⟨xs,v,ys,u,q1,q2,g1,g3⟩,fun z H' ⟨T,x1,x2,hT,ex,eH,f1,f2⟩=>?_⟩
  subst ex eH
  have f1:=f1 xs q1
  have f2:=f2 ys q2
  rw [g1] at f1; cases f1
  rw [g3] at f2; cases f2
  have fT:F1 T = none:=by
   cases z:F1 T with
   | none=>rfl
   | some o=>rw [s2 _ _ z] at hT; cases hT
  refine ⟨upd F1 T (.tup [v,u]),Sub.new fT,fun c o ec=>?_,fun c o ec=>?_,Sub.new hT,.tup upd_same (.cons (g2.mono (s1.trans (Sub.new fT))) (.cons (g4.mono (s1.trans (Sub.new fT))) .nil))⟩
  ·by_cases z:c = T
   ·subst z; exact .inr hT
   ·rw [upd_ne z] at ec; exact .inl ec
  ·by_cases z:c = T
   ·subst z; rw [upd_same] at ec ⊢; exact ec
   ·rw [upd_ne z] at ec ⊢; exact s2 _ _ ec
 ·simp only [zipD,List.length_map,List.length_zip] at hl
  rw [h1.length,h2.length]
  omega
theorem l_zip2 {K:Fg} {a b:AD} {σ:St} {H:Hp} {R:It -> Hp -> Prop} (h:liftI K (dIZip2 a b) σ H R):iZip2 K (tArgs ([a,b].map (argT K))) σ H R:=by
 obtain ⟨G,F,ρ,Qd,Rl,w,k⟩:=h
 refine args_ok Rl w fun vs H' F' xs ρ' sb R' o w1=>?_
 split at w1
 ·rename_i e
  obtain ⟨ds,da,w1⟩:=noLent_looks R' e o w1
  split at w1
  ·rename_i x y
   split at w1
   ·rename_i us ws p1 p2
    cases da with
    | cons d1 t =>
     cases t with
     | cons d2 t =>
      cases t
      obtain ⟨k1,a1,us',rfl,e1,g1⟩:=seqF_of d1 p1
      obtain ⟨k2,a2,ws',rfl,e2,g2⟩:=seqF_of d2 p2
      exact ⟨k1,a1,us',k2,a2,ws',rfl,sq_of (R'.sub _ _ e1),sq_of (R'.sub _ _ e2),k _ H' F' _ ρ' sb R' (walks_zip2 e1 g1 e2 g2) w1⟩
   ·exact w1.elim
  ·exact w1.elim
 ·exact w1.elim
noncomputable def dIZip3 (a b c:AD):TDI:=fun ρ Q=>dArgs [a,b,c] ρ fun xs ρ1=>match lentAny ρ1 xs with
 | false=>looksQ ρ1 xs fun ds=>match ds with
  | [x,y,z]=>match seqD x,seqD y,seqD z with
   | some us,some ws,some ts=>Q (zip3D us ws ts) ρ1
   | _,_,_=>False
  | _=>False
 | true=>False
theorem walks_zip3 {K:Fg} {F:Hp} {a b c:Addr} {k1 k2 k3:Kd} {xs ys zs:List V} {ds es fs:List D} (e1:F a = some (match k1 with | Kd.l=>HO.lst xs | Kd.t=>HO.tup xs)) (h1:DaAll K F xs ds)
  (e2:F b = some (match k2 with | Kd.l=>HO.lst ys | Kd.t=>HO.tup ys)) (h2:DaAll K F ys es) (e3:F c = some (match k3 with | Kd.l=>HO.lst zs | Kd.t=>HO.tup zs)) (h3:DaAll K F zs fs):Walks K (Itz3 K k1 k2 k3 a b c) F (zip3D ds es fs):=fun i H F1 s1 s2=>by
 have q1:Sq k1 K H a xs:=sq_of (s2 _ _ (s1 _ _ e1))
 have q2:Sq k2 K H b ys:=sq_of (s2 _ _ (s1 _ _ e2))
 have q3:Sq k3 K H c zs:=sq_of (s2 _ _ (s1 _ _ e3))
 refine ⟨fun d ed=>?_,fun hl=>⟨xs,ys,zs,q1,q2,q3,?_⟩⟩
 ·simp only [zip3D,List.getElem?_map,Option.map_eq_some_iff] at ed
  obtain ⟨⟨x,y,t⟩,ez,rfl⟩:=ed
  rw [List.getElem?_zip_eq_some,List.getElem?_zip_eq_some] at ez
  obtain ⟨v,g1,g2⟩:=h1.get ez.1
  obtain ⟨u,g3,g4⟩:=h2.get ez.2.1
  obtain ⟨w,g5,g6⟩:=h3.get ez.2.2
  refine ⟨⟨xs,v,ys,u,zs,w,q1,q2,q3,g1,g3,g5⟩,fun z H' ⟨T,x1,x2,x3,hT,ex,eH,f1,f2,f3⟩=>?_⟩
  subst ex eH
  have f1:=f1 xs q1
  have f2:=f2 ys q2
  have f3:=f3 zs q3
  rw [g1] at f1; cases f1
  rw [g3] at f2; cases f2
  rw [g5] at f3; cases f3
  have fT:F1 T = none:=by
   cases z:F1 T with
   | none=>rfl
   | some o=>rw [s2 _ _ z] at hT; cases hT
  have sn:=s1.trans (Sub.new (o:=.tup [v,u,w]) fT)
  refine ⟨upd F1 T (.tup [v,u,w]),Sub.new fT,fun c o ec=>?_,fun c o ec=>?_,Sub.new hT,.tup upd_same (.cons (g2.mono sn) (.cons (g4.mono sn) (.cons (g6.mono sn) .nil)))⟩
  ·by_cases z:c = T
   ·subst z; exact .inr hT
   ·rw [upd_ne z] at ec; exact .inl ec
  ·by_cases z:c = T
   ·subst z; rw [upd_same] at ec ⊢; exact ec
   ·rw [upd_ne z] at ec ⊢; exact s2 _ _ ec
 ·simp only [zip3D,List.length_map,List.length_zip] at hl
  rw [h1.length,h2.length,h3.length]
  omega
theorem l_zip3 {K:Fg} {a b c:AD} {σ:St} {H:Hp} {R:It -> Hp -> Prop} (h:liftI K (dIZip3 a b c) σ H R):iZip3 K (tArgs ([a,b,c].map (argT K))) σ H R:=by
 obtain ⟨G,F,ρ,Qd,Rl,w,k⟩:=h
 refine args_ok Rl w fun vs H' F' xs ρ' sb R' o w1=>?_
 split at w1
 ·rename_i e
  obtain ⟨ds,da,w1⟩:=noLent_looks R' e o w1
  split at w1
  ·rename_i x y z
   split at w1
   ·rename_i us ws ts p1 p2 p3
    cases da with
    | cons d1 t =>
     cases t with
     | cons d2 t =>
      cases t with
      | cons d3 t =>
       cases t
       obtain ⟨k1,a1,us',rfl,e1,g1⟩:=seqF_of d1 p1
       obtain ⟨k2,a2,ws',rfl,e2,g2⟩:=seqF_of d2 p2
       obtain ⟨k3,a3,ts',rfl,e3,g3⟩:=seqF_of d3 p3
       exact ⟨k1,a1,us',k2,a2,ws',k3,a3,ts',rfl,sq_of (R'.sub _ _ e1),sq_of (R'.sub _ _ e2),sq_of (R'.sub _ _ e3),k _ H' F' _ ρ' sb R' (walks_zip3 e1 g1 e2 g2 e3 g3) w1⟩
   ·exact w1.elim
  ·exact w1.elim
 ·exact w1.elim
noncomputable def dIRev (a:AD):TDI:=fun ρ Q=>dArgs [a] ρ fun xs ρ1=>match lentAny ρ1 xs with
 | false=>looksQ ρ1 xs fun ds=>match ds with
  | [.tuple us]=>Q us.reverse ρ1
  | _=>False
 | true=>False
theorem l_rev {K:Fg} {a:AD} {σ:St} {H:Hp} {R:It -> Hp -> Prop} (h:liftI K (dIRev a) σ H R):iRev K (tArgs ([a].map (argT K))) σ H R:=by
 obtain ⟨G,F,ρ,Qd,Rl,w,k⟩:=h
 refine args_ok Rl w fun vs H' F' xs ρ' sb R' o w1=>?_
 split at w1
 ·rename_i e
  obtain ⟨ds,da,w1⟩:=noLent_looks R' e o w1
  split at w1
  ·rename_i us
   cases da with
   | cons d1 t =>
    cases t
    cases d1 with
    | tup q t =>
     rename_i a1 us'
     refine ⟨a1,us',rfl,SqT.of (R'.sub _ _ q),k _ H' F' _ ρ' sb R' (fun i H F1 s1 s2=>?_) w1⟩
     have qq:=SqT.of (K:=K) (s2 _ _ (s1 _ _ q))
     refine ⟨fun d ed=>?_,fun hl=>?_⟩
     ·have hi:=lt_of_get ed
      rw [List.length_reverse] at hi
      rw [List.getElem?_reverse hi] at ed
      obtain ⟨v,g1,g2⟩:=t.get ed
      rw [<- t.length] at g1 hi
      refine ⟨⟨us',v,qq,rfl,hi,g1⟩,fun x H' ⟨e1,e2⟩=>?_⟩
      subst e1
      have:=e2 us' qq
      rw [g1] at this; cases this
      exact ⟨F1,Sub.refl _,fun _ _ z=>.inl z,s2,Sub.refl _,g2.mono s1⟩
     ·rw [List.length_reverse,<- t.length] at hl; exact hl.symm
  ·exact w1.elim
 ·exact w1.elim
end L3
namespace L3
open PySem PySem.Spec L2
noncomputable def kOf:D -> Option Key
 | .int i=>some (.inl i)
 | .str x=>some (.inr x)
 | _=>none
theorem kOf_key (k:Key):kOf (keyD k) = some k:=by cases k <;> rfl
theorem kOf_inv {d:D} {k:Key} (h:kOf d = some k):d = keyD k:=by
 cases d <;> first | (cases h; rfl) | cases h
noncomputable def ksOf:List D -> Option (List Key)
 | []=>some []
 | d :: ds=>match kOf d,ksOf ds with
  | some k,some ks=>some (k :: ks)
  | _,_=>none
theorem ksOf_map:∀ ks:List Key,ksOf (ks.map keyD) = some ks
 | []=>rfl
 | k :: ks=>by simp [ksOf,kOf_key,ksOf_map ks]
theorem ksOf_inv:∀ {ds:List D} {ks:List Key},ksOf ds = some ks -> ds = ks.map keyD
 | [],ks,h=>by cases h; rfl
 | d :: ds,ks,h=>by
  unfold ksOf at h
  split at h
  ·rename_i k ks' e1 e2
   cases h
   rw [kOf_inv e1,ksOf_inv e2]; rfl
  ·cases h
noncomputable def getK (es:List (D × D)) (k:Key):Option D:=(es.find? fun e=>decide (kOf e.1 = some k)).map (·.2)
noncomputable def keyT:D -> Option (List Key)
 | .tuple ds=>ksOf ds
 | _=>none
noncomputable def getT (es:List (D × D)) (k:List Key):Option D:=(es.find? fun e=>decide (keyT e.1 = some k)).map (·.2)
noncomputable def putKE (es:List (D × D)) (k:Key) (d:D):List (D × D):=if (es.any fun e=>decide (kOf e.1 = some k)) = true then es.map (fun e=>if kOf e.1 = some k then (e.1,d) else e) else es ++ [(keyD k,d)]
section
variable {K:Fg} {F H:Hp}
theorem DaKV.val (k:Key):∀ {kvs:List (Key × V)} {es:List (D × D)},DaKV K F kvs es -> match getK es k,valV kvs k with | some d,some v=>Da K F v d | none,none=>True | _,_=>False
 | _,_,.nil=>trivial
 | _,_,.cons (k:=k') (v:=v) (d:=d) (kvs:=kvs) (es:=es) h t=>by
  have ih:=DaKV.val k t
  unfold getK valV at ih ⊢
  simp only [List.find?_cons,kOf_key,Option.some.injEq]
  by_cases e:k' = k
  ·subst e; simp; exact h
  ·have e':decide (k' = k) = false:=decide_eq_false e
   simp only [e']
   exact ih
theorem DaKT.val (k:List Key):∀ {kvs:List (List Key × V)} {es:List (D × D)},DaKT K F kvs es -> match getT es k,valV kvs k with | some d,some v=>Da K F v d | none,none=>True | _,_=>False
 | _,_,.nil=>trivial
 | _,_,.cons (ks:=k') (v:=v) (d:=d) (kvs:=kvs) (es:=es) h t=>by
  have ih:=DaKT.val k t
  unfold getT valV at ih ⊢
  simp only [List.find?_cons,keyT,ksOf_map,Option.some.injEq]
  by_cases e:k' = k
  ·subst e; simp; exact h
  ·have e':decide (k' = k) = false:=decide_eq_false e
   simp only [e']
   exact ih
theorem DaKV.repl {k:Key} {v:V} {d:D} (hv:Da K F v d):∀ {kvs:List (Key × V)} {es:List (D × D)},DaKV K F kvs es -> DaKV K F (kvs.map fun kv=>if kv.1 = k then (kv.1,v) else kv) (es.map fun e=>if kOf e.1 = some k then (e.1,d) else e)
 | _,_,.nil=>.nil
 | _,_,.cons (k:=k') h t=>by
  simp only [List.map_cons,kOf_key,Option.some.injEq]
  by_cases e:k' = k
  ·rw [if_pos e,if_pos e]; exact .cons hv (DaKV.repl hv t)
  ·rw [if_neg e,if_neg e]; exact .cons h (DaKV.repl hv t)
theorem DaKV.snoc {k:Key} {v:V} {d:D} (hv:Da K F v d):∀ {kvs:List (Key × V)} {es:List (D × D)},DaKV K F kvs es -> DaKV K F (kvs ++ [(k,v)]) (es ++ [(keyD k,d)])
 | _,_,.nil=>.cons hv .nil
 | _,_,.cons h t=>.cons h (DaKV.snoc hv t)
theorem DaKV.any (k:Key):∀ {kvs:List (Key × V)} {es:List (D × D)},DaKV K F kvs es -> (kvs.any fun kv=>decide (kv.1 = k)) = es.any fun e=>decide (kOf e.1 = some k)
 | _,_,.nil=>rfl
 | _,_,.cons (k:=k') h t=>by simp only [List.any_cons,kOf_key,Option.some.injEq]; rw [DaKV.any k t]
theorem DaKV.put {k:Key} {v:V} {d:D} {kvs:List (Key × V)} {es:List (D × D)} (h:DaKV K F kvs es) (hv:Da K F v d):DaKV K F (putK kvs k v) (putKE es k d):=by
 unfold putK putKE
 rw [h.any k]
 split
 ·exact h.repl hv
 ·exact h.snoc hv
theorem DaKV.length:∀ {kvs:List (Key × V)} {es:List (D × D)},DaKV K F kvs es -> kvs.length = es.length
 | _,_,.nil=>rfl
 | _,_,.cons _ t=>by simp [DaKV.length t]
theorem At.dict {v:V} {es:List (D × D)} (s:Sub F H) (h:At K F H v (.dict es)):∃ a,v = .ref a /\ ((∃ kvs,Rd H a (.dK kvs) /\ DaKV K F kvs es) \/ (∃ kvs,Rd H a (.dT kvs) /\ DaKT K F kvs es) \/ ∃ k0 d0,es = [(k0,d0)] /\ kOf k0 = Option.none /\ keyT k0 = Option.none):=by
 rcases h with h | ⟨a,o,rfl,_,e,h⟩
 ·cases h with
  | dk q t=>exact ⟨_,rfl,.inl ⟨_,s.rd q,t⟩⟩
  | dt q t=>exact ⟨_,rfl,.inr (.inl ⟨_,s.rd q,t⟩)⟩
  | scr q=>exact ⟨_,rfl,.inr (.inr ⟨_,_,rfl,rfl,rfl⟩)⟩
  | exc q=>exact ⟨_,rfl,.inr (.inr ⟨_,_,rfl,rfl,rfl⟩)⟩
  | opq q=>exact ⟨_,rfl,.inr (.inr ⟨_,_,rfl,rfl,rfl⟩)⟩
 ·cases o <;> first | exact h.elim | exact ⟨_,rfl,.inl ⟨_,.inl e,h⟩⟩ | exact ⟨_,rfl,.inr (.inl ⟨_,.inl e,h⟩)⟩
theorem DaAll.keys:∀ {xs:List V} {ks:List Key},DaAll K F xs (ks.map keyD) -> xs = ks.map kV
 | [],[],_=>rfl
 | x :: xs,k :: ks,.cons h t=>by
  have e:x = kV k:=by cases k <;> (cases h; rfl)
  rw [e,DaAll.keys t]; rfl
theorem At.key {v:V} {d:D} {k:Key} (h:At K F H v d) (e:kOf d = some k):v = kV k:=by
 have:=kOf_inv e
 subst this
 cases k with
 | inl i=>exact h.int
 | inr x=>exact h.str
theorem At.keyTup {v:V} {d:D} {k:List Key} (s:Sub F H) (h:At K F H v d) (e:keyT d = some k):∃ b,v = .ref b /\ H b = some (.tup (k.map kV)):=by
 cases d <;> first | cases e | skip
 rename_i ds
 have:=ksOf_inv e
 subst this
 obtain ⟨a,xs,rfl,_,e1,d1⟩:=h.tuple s
 have:=d1.keys
 subst this
 exact ⟨a,rfl,e1⟩
theorem scr_noK {es:List (D × D)} {k0:D} (e:∃ d0,es = [(k0,d0)] /\ kOf k0 = none /\ keyT k0 = none) (k:Key):getK es k = none:=by obtain ⟨d0,rfl,e,_⟩:=e; simp [getK,e]
theorem scr_noT {es:List (D × D)} {k0:D} (e:∃ d0,es = [(k0,d0)] /\ kOf k0 = none /\ keyT k0 = none) (k:List Key):getT es k = none:=by obtain ⟨d0,rfl,_,e⟩:=e; simp [getT,e]
theorem getK_cons (e:D × D) (es:List (D × D)) (k:Key) (h:kOf e.1 = none):getK (e :: es) k = getK es k:=by simp [getK,List.find?_cons,h]
theorem getT_cons (e:D × D) (es:List (D × D)) (k:List Key) (h:keyT e.1 = none):getT (e :: es) k = getT es k:=by simp [getT,List.find?_cons,h]
theorem getK_T (k:Key):∀ {kvs:List (List Key × V)} {es:List (D × D)},DaKT K F kvs es -> getK es k = none
 | _,_,.nil=>rfl
 | _,_,.cons h t=>by rw [getK_cons _ _ _ rfl]; exact getK_T k t
theorem getT_K (k:List Key):∀ {kvs:List (Key × V)} {es:List (D × D)},DaKV K F kvs es -> getT es k = none
 | _,_,.nil=>rfl
 | _,_,.cons (k:=k') h t=>by rw [getT_cons _ _ _ (by cases k' <;> rfl)]; exact getT_K k t
end
noncomputable def getE (es:List (D × D)) (k:D):Option D:=match kOf k with
 | some k=>getK es k
 | none=>match keyT k with
  | some ks=>getT es ks
  | none=>none
noncomputable def fDGet:D -> D -> (Sl -> Prop) -> Prop
 | .dict es,k,Q=>∃ d,getE es k = some d /\ Q (.fz d)
 | _,_,_=>False
theorem dget_some {K:Fg} {F H:Hp} {x y:V} {es:List (D × D)} {k d:D} (s:Sub F H) (h1:At K F H x (.dict es)) (h2:At K F H y k) (e:getE es k = some d):∃ a v,x = .ref a /\ DGet H a y (some v) /\ Da K F v d:=by
 obtain ⟨a,rfl,h⟩:=h1.dict s
 unfold getE at e
 split at e
 ·rename_i k' ek
  have hy:=h2.key ek
  subst hy
  rcases h with ⟨kvs,q,t⟩ | ⟨kvs,q,t⟩ | ⟨ns,q⟩
  ·have:=t.val k'
   rw [e] at this
   cases ev:valV kvs k' with
   | none=>rw [ev] at this; exact this.elim
   | some v=>rw [ev] at this; exact ⟨a,v,rfl,.inl ⟨kvs,k',q,rfl,ev.symm⟩,this⟩
  ·rw [getK_T _ t] at e; cases e
  ·rw [scr_noK q] at e; cases e
 ·split at e
  ·rename_i ks ek
   obtain ⟨b,rfl,hb⟩:=h2.keyTup s ek
   rcases h with ⟨kvs,q,t⟩ | ⟨kvs,q,t⟩ | ⟨ns,q⟩
   ·rw [getT_K _ t] at e; cases e
   ·have:=t.val ks
    rw [e] at this
    cases ev:valV kvs ks with
    | none=>rw [ev] at this; exact this.elim
    | some v=>rw [ev] at this; exact ⟨a,v,rfl,.inr ⟨kvs,ks,b,q,rfl,hb,ev.symm⟩,this⟩
   ·rw [scr_noT q] at e; cases e
  ·cases e
noncomputable def rDGet:R2:=fun x y H Q=>∃ a v,x = .ref a /\ DGet H a y (some v) /\ Q v H
theorem ok_dget {K:Fg}:OpOk K (r2L rDGet) (o2 fDGet):=ok2 fun G F σ H ρ x y d e Q Qd R h1 h2 w k=>by
 match d,h1,w with
 | .dict es,h1,⟨d',w1,w2⟩ =>
  obtain ⟨a,v,rfl,g,dv⟩:=dget_some R.sub h1 h2 w1
  exact ⟨a,v,rfl,g,k _ H F (.fz _) (Sub.refl _) R dv w2⟩
noncomputable def dSetKey (j:Nat) (ak:AD) (te:TD):TDS:=fun E ρ=>te ρ fun r ρ1=>match ρ1[j]? with
 | some (some _)=>dArgs [ak] ρ1 fun xs ρ2=>looksQ ρ2 xs fun ds=>match ds,ρ2[j]? with
  | [kd],some (some s)=>match s.d,isOw s,kOf kd with
   | .dict es,true,some k=>es.length < sizeLine /\ (getK es k).isSome = true /\ E.nx (ρ2.set j (some (s.put (.dict (putKE es k r.d)))))
   | _,_,_=>False
  | _,_=>False
 | _=>False
theorem l_setKey {K:Fg} {j:Nat} {ak:AD} {te:TD} {σ:St} {H:Hp} {E:Ends} (h:liftS K (dSetKey j ak te) E σ H):sDPut (tVar j) (argT K ak) (lift K te) E σ H:=by
 obtain ⟨G,F,ρ,D,R,w,n,r,b,c⟩:=h
 refine ⟨G,F,ρ,_,R,w,fun v H1 F1 x ρ1 s1 R1 r1 w1=>?_⟩
 obtain ⟨F2,s2,R2,d2⟩:=r1.frz R1
 split at w1
 ·rename_i s0 e0
  obtain ⟨u,eu⟩:=R2.bound e0
  refine ⟨u,eu,arg1 (P:=fun y H3=>∃ a H4,u = .ref a /\ DPut H3 a y v H4 /\ E.nx σ H4) (args_ok R2 w1 fun vs H3 F3 xs ρ3 s3 R3 o3 w3=>?_)⟩
  obtain ⟨ds,ha,w3⟩:=looks_ok R3 o3 w3
  split at w3
  ·rename_i kd s e
   obtain ⟨kv,rfl,hk⟩:=ha.one
   split at w3
   ·rename_i es k p1 p2 p3
    obtain ⟨a,o,g1,g2,g3,g4⟩:=R3.ow j s e p2
    rw [eu] at g1; cases g1
    rw [p1] at g4
    have:=hk.key p3
    subst this
    refine ⟨_,rfl,a,?_⟩
    cases o with
    | dK kvs =>
     have g4:DaKV K F3 kvs es:=g4
     refine ⟨_,rfl,.inl ⟨kvs,k,g3,rfl,by rw [g4.length]; exact w3.1,rfl⟩,?_⟩
     have R4:=R3.change (o':=.dK (putK kvs k v)) (d':=.dict (putKE es k x.d)) e p2 eu (g4.put (d2.mono s3))
     exact n σ _ F3 _ (s1.trans (s2.trans s3)) R4 w3.2.2
    | dT kvs =>
     have g4:DaKT K F3 kvs es:=g4
     rw [getK_T _ g4] at w3
     exact absurd w3.2.1 (by simp)
    | _=>exact g4.elim
   ·exact w3.elim
  ·exact w3.elim
 ·exact w1.elim
end L3
namespace L3
open PySem PySem.Spec PyProof.Rows L2
noncomputable def notStar:Expr -> Bool
 | .Starred _ _=>false
 | _=>true
theorem starEach_of {e:Expr} {es:List Expr} {env:Env} (h:notStar e = true):starEach (e :: es) env = (false,eval e env) :: starEach es env:=by
 cases e <;> first | rfl | cases h
theorem plain_of {env:Env} {pos:Pos}:∀ {es:List Expr},es.all notStar = true -> (backTo pos (starEach es env)).any (·.1) = false:=by
 intro es
 induction es with
 | nil=>intro _; rfl
 | cons e es ih =>
  intro h
  simp only [List.all_cons,Bool.and_eq_true] at h
  rw [starEach_of h.1]
  have:=ih h.2
  simp [backTo] at this ⊢
  exact this
noncomputable def notSet:Expr -> Bool
 | .Set _ _ _=>false
 | _=>true
theorem folded_of {e:Expr} {env:Env} (h:notSet e = true) (x:Value):foldedSetIterable e env x = pure x:=by
 cases e <;> first | rfl | cases h
noncomputable def notComp:Expr -> Bool
 | .ListComp _ _ _ _=>false
 | .SetComp _ _ _ _=>false
 | .DictComp _ _ _ _ _=>false
 | _=>true
theorem swaps_of {e:Expr} {t:Option Expr} {n:Nat} {env:Env} (h:notComp e = true):swapsWith e t n env = pure false:=by
 cases e <;> first | rfl | cases h
section
variable {X:Cx} {K:Fg}
theorem peM {e:Expr} {t t':TE} (h:PE X e t) (m:∀ {σ H Q},t' σ H Q -> t σ H Q):PE X e t':=fun pins s σ H Q I w=>h pins s σ H Q I (m w)
theorem ptM {e:Expr} {t t':TT} (h:PT X e t) (m:∀ {σ H Q},t' σ H Q -> t σ H Q):PT X e t':=fun pins s σ H Q I w=>h pins s σ H Q I (m w)
theorem pwM {e:Expr} {t t':TT} (h:PW X e t) (m:∀ {σ H Q},t' σ H Q -> t σ H Q):PW X e t':=fun wh pins s σ H Q I w=>h wh pins s σ H Q I (m w)
theorem psM {e:Stmt} {t t':TS} (h:PS X e t) (m:∀ {D σ H},t' D σ H -> t D σ H):PS X e t':=fun pins s σ H D I w=>h pins s σ H D I (m w)
theorem pssM {e:List Stmt} {t t':TS} (h:PSs X e t) (m:∀ {D σ H},t' D σ H -> t D σ H):PSs X e t':=fun pins s σ H D I w=>h pins s σ H D I (m w)
theorem pgM {e:Expr} {t t':TG} (h:PG X e t) (m:∀ {v σ H Q},t' v σ H Q -> t v σ H Q):PG X e t':=by
 unfold PG at h ⊢
 intros
 exact h _ _ _ _ _ _ _ (by assumption) (by assumption) (m (by assumption))
theorem piM {g e:Expr} {t t':TI} (h:PI X g e t) (m:∀ {σ H R},t' σ H R -> t σ H R):PI X g e t':=fun pins s σ H R I w=>h pins s σ H R I (m w)
theorem pifM {es:List Expr} {t t':TT} (h:PIf X es t) (m:∀ {σ H Q},t' σ H Q -> t σ H Q):PIf X es t':=fun pins s σ H Q I w=>h pins s σ H Q I (m w)
theorem da_cons {e:Expr} {es:List Expr} {a:AD} {as:List AD} (ha:PE X e (argT K a)) (hr:PA X es (tArgs (as.map (argT K)))) (hs:starEach (e :: es) X.env = (false,eval e X.env) :: starEach es X.env:=by exact starEach_of rfl):PA X (e :: es) (tArgs ((a :: as).map (argT K))):=pa_cons ha hr hs
variable {e:Expr} {a b c:AD} {as:List AD} {td te:TD} {tc td':TTD}
theorem cv_var {i:Nat} (h:PE X e (tVar i)):PE X e (lift K (dVar i)):=peM h l_var
theorem cv_c {v:V} {d:D} (hv:∀ F,Da K F v d) (h:PE X e (tC v)):PE X e (lift K (dC d)):=peM h (l_c hv)
theorem cv2 {r:R2} {f:D -> D -> (Sl -> Prop) -> Prop} (ok:OpOk K (r2L r) (o2 f)) (h:PE X e (tOp r (argT K a) (argT K b))):PE X e (lift K (dOp [a,b] (o2 f))):=peM h fun q=>arg2 (l_op ok q)
theorem cvu {r:V -> Hp -> VK -> Prop} {f:D -> (Sl -> Prop) -> Prop} (ok:OpOk K (r1L r) (o1 f)) (h:PE X e (tUn r (argT K a))):PE X e (lift K (dOp [a] (o1 f))):=peM h fun q=>arg1 (l_op ok q)
theorem cvB {r:List V -> Hp -> VK -> Prop} {f:List D -> (Sl -> Prop) -> Prop} (ok:OpOk K r f) (h:PE X e (tCB r (tArgs (as.map (argT K))))):PE X e (lift K (dOp as f)):=peM h fun q=>l_op ok q
theorem cv_tup (hl:as.length <= 1000) (h:PE X e (tTup (tArgs (as.map (argT K))))):PE X e (lift K (dOpF as fTupD)):=peM h (l_tup hl)
theorem cv_lst (hl:as.length <= 1000) (h:PE X e (tLst (tArgs (as.map (argT K))))):PE X e (lift K (dOpF as fLstD)):=peM h (l_lst hl)
theorem cv_chain {p q:Int -> Int -> Bool} (h:PE X e (tChain (rI0 fun i j=>.bl (p i j)) (rI0 fun i j=>.bl (q i j)) (argT K a) (argT K b) (argT K c))):PE X e (lift K (dChain p q a b c)):=peM h l_chain
theorem cv_and (h:PE X e (tAndV (lift K td) (lift K te))):PE X e (lift K (dAndV td te)):=peM h l_andV
theorem cv_not (h:PE X e (tNotV (lift K td))):PE X e (lift K (dNotV td)):=peM h l_notV
theorem cv_fn {con:Con} {E:XK} (h:PE X e (tCall (conSp K con) [] E (tArgs (as.map (argT K))))):PE X e (lift K (dCall con as)):=peM h l_call
theorem cv_fnI {con:Con} {E:XK} {i:Nat} (h:PE X e (tCall (conSp K con) [] E (tArgs ((Sum.inl i :: as).map (argT K))))):PE X e (lift K (dCallI con i as)):=peM h l_callI
theorem cv_m {i:Nat} {r:V -> List V -> Hp -> VK -> Prop} {f:List D -> List D -> (D -> D -> Prop) -> Prop} (ok:MOk K r f) (h:PE X e (tBM K "list" r (tVar i) (tArgs (as.map (argT K))))):PE X e (lift K (dMeth i as f)):=peM h fun q=>by
 obtain ⟨a,xs,e1,sq,w⟩:=l_meth ok q
 exact ⟨_,e1,.inl ⟨rfl,xs,sq⟩,w⟩
theorem ct2 {r:R2} {f:D -> D -> (Sl -> Prop) -> Prop} (ok:OpOk K (r2L r) (o2 f)) (h:PT X e (tTest (tOp r (argT K a) (argT K b)))):PT X e (liftT K (dTst (dOp [a,b] (o2 f)))):=ptM h fun q=>l_tst (fun z=>arg2 (l_op ok z)) q
theorem ct_val (h:PT X e (tB (lift K td))):PT X e (liftT K (dTst td)):=ptM h fun q=>l_tst (fun z=>z) q
theorem ct_not (h:PT X e (tNot (liftT K tc))):PT X e (liftT K (dNot tc)):=ptM h l_not
theorem cw_and (h:PW X e (tAnd (liftT K tc) (liftT K td'))):PW X e (liftT K (dAnd tc td')):=pwM h l_and
theorem cw_or (h:PW X e (tOr (liftT K tc) (liftT K td'))):PW X e (liftT K (dOr tc td')):=pwM h l_or
variable {st:Stmt} {sts:List Stmt} {t u:TDS}
theorem cs_next (h:PSs X sts tNext):PSs X sts (liftS K dNext):=pssM h l_next
theorem cs_seq (h:PSs X sts (tSeq (liftS K t) (liftS K u))):PSs X sts (liftS K (dSeq t u)):=pssM h l_seq
theorem cs_ret (h:PS X st (tRet (lift K td))):PS X st (liftS K (dRet td)):=psM h l_ret
theorem cs_retV {i:Nat} (h:PS X st (tRet (tVar i))):PS X st (liftS K (dRetV i)):=psM h l_retV
theorem cs_move {i j:Nat} (h:PS X st (tAsg (tVar j) (gName i))):PS X st (liftS K (dMove i j)):=psM h l_move
theorem cs_drop (h:PS X st (tDrop (lift K td))):PS X st (liftS K (dDrop td)):=psM h l_drop
theorem cs_if (h:PS X st (tIfS (liftT K tc) (liftS K t) (liftS K u))):PS X st (liftS K (dIfS tc t u)):=psM h l_ifS
theorem cs_set {i:Nat} (h:PS X st (tAsg (lift K td) (gName i))):PS X st (liftS K (dSet i td)):=psM h l_set
theorem cs_ix {j:Nat} (h:PS X st (tAsg (lift K td) (gSub (tVar j) (argT K a) rSetL))):PS X st (liftS K (dSetIx j a td)):=psM h l_setIx
theorem cs_key {j:Nat} (h:PS X st (sDPut (tVar j) (argT K a) (lift K td))):PS X st (liftS K (dSetKey j a td)):=psM h l_setKey
noncomputable def dAsgG (g:TDG) (a:TD):TDS:=fun E ρ=>a ρ fun r ρ'=>g r.d ρ' E.nx
theorem l_asgG {g:TDG} {E:Ends} {σ:L2.St} {H:Hp} (h:liftS K (dAsgG g td) E σ H):tAsg (lift K td) (liftG K g) E σ H:=by
 obtain ⟨G,F,ρ,D,R,w,n,r,b,c⟩:=h
 refine ⟨G,F,ρ,_,R,w,fun v H' F' x ρ' s R' r' q=>?_⟩
 obtain ⟨F2,s2,R2,d2⟩:=r'.frz R'
 exact ⟨G,F2,ρ',x.d,_,R2,d2,q,fun σ3 ρ3 R3 w3=>n σ3 H' F2 ρ3 (s.trans s2) R3 w3⟩
theorem cs_asgG {g:TDG} (h:PS X st (tAsg (lift K td) (liftG K g))):PS X st (liftS K (dAsgG g td)):=psM h l_asgG
theorem cg_name {i:Nat} (h:PG X e (gName i)):PG X e (liftG K (dGN i)):=pgM h l_gn
theorem cg_tup {n:Nat} {gs:List TDG} (h:PG X e (gTup K n (gAll (gs.map (liftG K))))) (hn:gs.length = n:=by rfl):PG X e (liftG K (dGT gs)):=pgM h (l_gt hn)
theorem cgs_cons {es:List Expr} {g:TDG} {gs:List TDG} (h1:PG X e (liftG K g)) (h2:PGs X es (gAll (gs.map (liftG K)))) (hs:(assignEach (e :: es) X.env).map (·.2) = assign e X.env :: (assignEach es X.env).map (·.2):=by rfl):PGs X (e :: es) (gAll ((g :: gs).map (liftG K))):=pgs_cons h1 h2 hs
theorem cif_nil:PIf X [] (liftT K dYes):=pifM if_nil l_yes
variable {tg:Expr}
theorem pi_seqD {l:Expr} {tl:TE} (hK:X.K = K) (hl:PE X l tl):PI X tg l (iSeq K tl):=by
 subst hK
 intro pins s σ H R I h
 refine thn (hl pins s σ H _ I h) fun v s1 ⟨x,H1,I1,r1,q1⟩=>?_
 obtain ⟨a,e,q1⟩:=q1
 subst e
 cases r1
 rcases q1 with ⟨⟨xs,hq⟩,q⟩ | ⟨⟨xs,hq⟩,q⟩
 ·obtain ⟨its,rv,p,hz⟩:=I1.list hq
  refine wpAny_pyIter_list p.isList ?_
  refine ⟨s1.heap.objs.size,[s1.heap.objs.size],_,_,H1,rfl,I1.kept (t':=s1.toks) fun b o e=>Heap.get?_push_of_some _ e,turn_list a _,⟨_,Heap.get?_push_size _ rfl,rfl,rfl⟩,fun b hb=>?_,q⟩
  have e:b = s1.heap.objs.size:=by simpa using hb
  subst e
  exact I1.fpOk (Nat.le_refl _) (I1.hok.fresh (Nat.le_refl _))
 ·obtain ⟨its,rv,p,hz⟩:=I1.tuple hq
  refine wpAny_pyIter_tuple (show s1.heap.IsTuple a its.toArray from p) ?_
  refine ⟨s1.heap.objs.size,[s1.heap.objs.size],_,_,H1,rfl,I1.kept (t':=s1.toks) fun b o e=>Heap.get?_push_of_some _ e,turn_tuple a _,⟨_,Heap.get?_push_size _ rfl,rfl,rfl⟩,fun b hb=>?_,q⟩
  have e:b = s1.heap.objs.size:=by simpa using hb
  subst e
  exact I1.fpOk (Nat.le_refl _) (I1.hok.fresh (Nat.le_refl _))
theorem ci_seq {l:Expr} (hK:X.K = K) (hl:PE X l (lift K td)):PI X tg l (liftI K (dISeq td)):=piM (pi_seqD hK hl) l_iseq
theorem ci_rng1 {l:Expr} (h:PI X tg l (iRng1 (tArgs ([a].map (argT K))))):PI X tg l (liftI K (dIRng1 a)):=piM h l_rng1
theorem ci_rng2 {l:Expr} (h:PI X tg l (iRng2 (tArgs ([a,b].map (argT K))))):PI X tg l (liftI K (dIRng2 a b)):=piM h l_rng2
theorem ci_zip2 {l:Expr} (h:PI X tg l (iZip2 K (tArgs ([a,b].map (argT K))))):PI X tg l (liftI K (dIZip2 a b)):=piM h l_zip2
theorem ci_zip3 {l:Expr} (h:PI X tg l (iZip3 K (tArgs ([a,b,c].map (argT K))))):PI X tg l (liftI K (dIZip3 a b c)):=piM h l_zip3
theorem ci_rev {l:Expr} (h:PI X tg l (iRev K (tArgs ([a].map (argT K))))):PI X tg l (liftI K (dIRev a)):=piM h l_rev
noncomputable def CMod (_ j:Int):Prop:=0 < j
theorem op_catB:OpR X (binaryOp .Add) rCatB:=by
 intro pins s σ H x y v u Q I rx ry h
 obtain ⟨a,b,xs,ys,rfl,rfl,ha,hb,hz,q1,q2,q3⟩:=h
 have ha':SqT X.K H a xs:=SqT.of ha
 have hb':SqT X.K H b ys:=SqT.of hb
 by_cases hx:xs = []
 ·subst hx
  cases rx
  cases ry
  obtain ⟨its,r1,p1,_⟩:=I.tuple ha'
  obtain ⟨its2,r2,p2,_⟩:=I.tuple hb'
  cases r1
  exact cat_tup0 p1 p2 ⟨.ref b,H,I,rfl,q1 rfl⟩
 ·exact op_catT pins s σ H (.ref a) (.ref b) v u Q I rx ry ⟨a,b,xs,ys,rfl,rfl,ha',hb',hx,hz,fun e=>q2 hx e,fun e p hp=>q3 hx e p hp⟩
theorem op_addD:OpR X (binaryOp .Add) (rAny (rI0 fun i j=>.int (i + j)) (rAny rCatB rCat)):=op_add.or (op_catB.or op_cat)
theorem op_mulD:OpR X (binaryOp .Mult) (rAny (rI CMul fun i j=>.int (i * j)) rRep):=op_mul.or op_rep
theorem ok_sub:OpOk K (r2L (rI0 fun i j=>.int (i - j))) (o2 (fI0 fun i j=>.int (i - j))):=ok_I0 fun _ _ _=>.int _
theorem ok_fdiv:OpOk K (r2L (rI CDiv fun i j=>.int (i / j))) (o2 (fI CDiv fun i j=>.int (i / j))):=ok_I fun _ _ _=>.int _
theorem ok_mod:OpOk K (r2L (rI (fun _ j=>0 < j) fun i j=>.int (i % j))) (o2 (fI CMod fun i j=>.int (i % j))):=ok_I (C:=CMod) fun _ _ _=>.int _
theorem ok_pow:OpOk K (r2L (rI CPow fun i j=>.int (i ^ j.toNat))) (o2 (fI CPow fun i j=>.int (i ^ j.toNat))):=ok_I fun _ _ _=>.int _
theorem ok_lt:OpOk K (r2L (rI0 fun i j=>.bl (decide (i < j)))) (o2 (fI0 fun i j=>.bool (decide (i < j)))):=ok_I0 fun _ _ _=>.bl _
theorem ok_le:OpOk K (r2L (rI0 fun i j=>.bl (decide (i <= j)))) (o2 (fI0 fun i j=>.bool (decide (i <= j)))):=ok_I0 fun _ _ _=>.bl _
theorem ok_gt:OpOk K (r2L (rI0 fun i j=>.bl (decide (j < i)))) (o2 (fI0 fun i j=>.bool (decide (j < i)))):=ok_I0 fun _ _ _=>.bl _
theorem ok_ge:OpOk K (r2L (rI0 fun i j=>.bl (decide (j <= i)))) (o2 (fI0 fun i j=>.bool (decide (j <= i)))):=ok_I0 fun _ _ _=>.bl _
theorem ix_seqD (hK:X.K = K):IxR X (rAny (rIxL K) (rIxT K)):=(ix_listK hK).or (ix_tupK hK)
end
mutual
noncomputable def plainD:D -> Bool
 | .none=>true
 | .bool _=>true
 | .int _=>true
 | .str _=>true
 | .list xs=>plainAll xs
 | .tuple xs=>plainAll xs
 | .dict _=>false
noncomputable def plainAll:List D -> Bool
 | []=>true
 | x :: xs=>plainD x && plainAll xs
end
section
variable {K:Fg} {F H:Hp}
mutual
theorem Da.is (s:Sub F H):∀ {v:V} {d:D},Da K F v d -> plainD d = true -> Is K H v d
 | _,_,.non,_=>.non
 | _,_,.bl b,_=>.bl b
 | _,_,.int i,_=>.int i
 | _,_,.str x,_=>.str x
 | _,_,.lst e t,z=>.lst (SqL.of (s _ _ e)) (DaAll.is s t (by simpa [plainD] using z))
 | _,_,.tup e t,z=>.tup (SqT.of (s _ _ e)) (DaAll.is s t (by simpa [plainD] using z))
 | _,_,.dk _ _,z=>by simp [plainD] at z
 | _,_,.dt _ _,z=>by simp [plainD] at z
 | _,_,.scr _,z=>by simp [plainD,scrD] at z
 | _,_,.exc _,z=>by simp [plainD,excD] at z
 | _,_,.opq _,z=>by simp [plainD,opqD] at z
theorem DaAll.is (s:Sub F H):∀ {xs:List V} {ds:List D},DaAll K F xs ds -> plainAll ds = true -> IsAll K H xs ds
 | _,_,.nil,_=>.nil
 | _,_,.cons a t,z=>by
  simp [plainAll] at z
  exact .cons (Da.is s a z.1) (DaAll.is s t z.2)
end
theorem At.is {v:V} {d:D} (s:Sub F H) (h:At K F H v d) (p:plainD d = true):Is K H v d:=by
 rcases h with h | ⟨a,o,rfl,_,e,h⟩
 ·exact h.is s p
 ·cases o <;> cases d <;> first | exact h.elim | (simp [plainD] at p) | skip
  ·rename_i xs ds
   exact .lst (SqL.of e) (DaAll.is s h (by simpa [plainD] using p))
end
noncomputable def fEqG (x y:D) (Q:Sl -> Prop):Prop:=plainD x = true /\ plainD y = true /\ SeqAt.shaped x = true /\ SeqAt.shaped y = true /\ SeqAt.noMix x y = true /\ Q (.fz (.bool (same x y)))
noncomputable def fNeG (x y:D) (Q:Sl -> Prop):Prop:=plainD x = true /\ plainD y = true /\ SeqAt.shaped x = true /\ SeqAt.shaped y = true /\ SeqAt.noMix x y = true /\ Q (.fz (.bool (!same x y)))
noncomputable def fEq:D -> D -> (Sl -> Prop) -> Prop
 | .int i,.int j,Q=>Q (.fz (.bool (decide (i = j))))
 | .list xs,y,Q=>fEqG (.list xs) y Q
 | .tuple xs,y,Q=>fEqG (.tuple xs) y Q
 | .str x,.str y,Q=>Q (.fz (.bool (decide (x = y))))
 | x,y,Q=>fEqG x y Q
noncomputable def fNe:D -> D -> (Sl -> Prop) -> Prop
 | .int i,.int j,Q=>Q (.fz (.bool (!decide (i = j))))
 | .list xs,y,Q=>fNeG (.list xs) y Q
 | .tuple xs,y,Q=>fNeG (.tuple xs) y Q
 | .str x,.str y,Q=>Q (.fz (.bool (!decide (x = y))))
 | x,y,Q=>fNeG x y Q
theorem ok_eq {K:Fg}:OpOk K (r2L (rAny rEq (rEqD K false))) (o2 fEq):=ok2 fun G F σ H ρ x y d e Q Qd R h1 h2 w k=>by
 have gen:fEqG d e Qd -> rAny rEq (rEqD K false) x y H Q:=fun ⟨p1,p2,p3,p4,p5,w⟩=>.inr ⟨d,e,h1.is R.sub p1,h2.is R.sub p2,p3,p4,p5,k _ H F (.fz _) (Sub.refl _) R (Da.bl _) w⟩
 unfold fEq at w
 split at w
 ·rename_i i j
  cases h1.int
  cases h2.int
  refine .inl ⟨rfl,k _ H F (.fz _) (Sub.refl _) R (Da.bl _) ?_⟩
  have e:decide (V.int i = V.int j) = decide (i = j):=by rw [dec_int,Bool.beq_eq_decide_eq]
  rw [e]; exact w
 ·exact gen w
 ·exact gen w
 ·rename_i i j
  cases h1.str
  cases h2.str
  refine .inl ⟨rfl,k _ H F (.fz _) (Sub.refl _) R (Da.bl _) ?_⟩
  have e:decide (V.str i = V.str j) = decide (i = j):=by rw [dec_str,Bool.beq_eq_decide_eq]
  rw [e]; exact w
 ·exact gen w
theorem ok_ne {K:Fg}:OpOk K (r2L (rAny rNe (rEqD K true))) (o2 fNe):=ok2 fun G F σ H ρ x y d e Q Qd R h1 h2 w k=>by
 have gen:fNeG d e Qd -> rAny rNe (rEqD K true) x y H Q:=fun ⟨p1,p2,p3,p4,p5,w⟩=>.inr ⟨d,e,h1.is R.sub p1,h2.is R.sub p2,p3,p4,p5,k _ H F (.fz _) (Sub.refl _) R (Da.bl _) w⟩
 unfold fNe at w
 split at w
 ·rename_i i j
  cases h1.int
  cases h2.int
  refine .inl ⟨rfl,k _ H F (.fz _) (Sub.refl _) R (Da.bl _) ?_⟩
  have e:decide (V.int i = V.int j) = decide (i = j):=by rw [dec_int,Bool.beq_eq_decide_eq]
  rw [e]; exact w
 ·exact gen w
 ·exact gen w
 ·rename_i i j
  cases h1.str
  cases h2.str
  refine .inl ⟨rfl,k _ H F (.fz _) (Sub.refl _) R (Da.bl _) ?_⟩
  have e:decide (V.str i = V.str j) = decide (i = j):=by rw [dec_str,Bool.beq_eq_decide_eq]
  rw [e]; exact w
 ·exact gen w
theorem op_eqE {X:Cx} {K:Fg} (hK:X.K = K) (hu:X.A.units + 64 < cLine):OpR X (compareOp .Eq) (rAny rEq (rEqD K false)):=op_eq.or (op_eqDK hK hu)
theorem op_neE {X:Cx} {K:Fg} (hK:X.K = K) (hu:X.A.units + 64 < cLine):OpR X (compareOp .NotEq) (rAny rNe (rEqD K true)):=op_ne.or (op_neDK hK hu)
section
variable {P:Program} {w:World} {K:Fg} {mg:Str -> Option Value} {base:Heap}
theorem dfn {x qual:Str} {st:Stmt} {f:Addr} {fd:FuncData} {N ps:List Str} {k:Nat} {con:Con} {ts:TDS} (F:Fun K x qual st f fd) (S:FnScope N ps (defScope st))
  (hb:∀ (cdv:Value) (A:Around) (outer:List Env) (s:Shared) (H:Hp) (E:XK),Room k (A.deeper (envOfC qual (defScope st) s.heap.objs.size f cdv)) -> PSs (cxOf CX0 P w K mg base N qual (defScope st) f cdv A outer s H E).nox (defBody st) (liftS K ts))
  (hl:∀ args Qd,con args Qd -> args.length = ps.length) (hc:∀ args Qd,con args Qd -> (∀ s ∈ args,∀ d,s ≠ .ow d) /\ ts (endsOf args Qd) (startE N.length args)):FnOk P w K mg base CX0 (k + 1) f fd ps (conSp K con):=by
 refine F.ok S (fun vs H Q E h=>?_) (fun cdv A outer s H vs Q E hr h=>⟨_,hb cdv A outer s H E hr,l_def hc h⟩)
 obtain ⟨G,F',args,Qd,R,w',_⟩:=h
 have h1:=hl args Qd w'
 have h2:=R.len
 rw [List.length_map,List.length_map] at h2
 rw [h2,h1]
end
end L3
namespace L3
noncomputable def noOw:List Sl -> Bool
 | []=>true
 | .ow _ :: _=>false
 | _ :: as=>noOw as
theorem noOw_of:∀ {as:List Sl},noOw as = true -> ∀ s ∈ as,∀ d,s ≠ .ow d
 | .fz _ :: as,h,s,hs,d,z=>by
  rcases List.mem_cons.mp hs with e | e
  ·subst e; cases z
  ·exact noOw_of (as:=as) h s e d z
 | .io _ :: as,h,s,hs,d,z=>by
  rcases List.mem_cons.mp hs with e | e
  ·subst e; cases z
  ·exact noOw_of (as:=as) h s e d z
end L3
namespace L3
open PySem PySem.Spec PyProof.Rows L2
noncomputable def rSum (K:Fg):List V -> Hp -> VK -> Prop:=fun xs H Q=>∃ (a:Addr) (ns:List Int),xs = [.ref a] /\ (SqL K H a (ns.map V.int) \/ SqT K H a (ns.map V.int)) /\ Q (.int ns.sum) H
theorem call_sumK {X:Cx} {K:Fg} (hK:X.K = K) (hc:X.calm = true):CallR X (.builtin "sum") (rSum K):=by
 subst hK
 intro pins s σ H xs us Q I r h
 obtain ⟨a,ns,rfl,hq,q⟩:=h
 obtain ⟨u,rfl,ru⟩:=vals1 r
 cases ru
 have hh:=I.ok.hd hc
 rcases hq with hq | hq
 ·obtain ⟨its,rv,p,hz⟩:=I.list hq
  have hi:IntsAre its ns:=intsAre_of rv
  obtain ⟨zs,hx⟩:=hi.allInts.items
  have hl':s.heap.IsList a (intItems zs):=hx ▸ p.isList
  refine sum_intListG hh hl' fun h' tk t' hk=>?_
  have e1:ns = zs.toList.map (·.1):=by
   rw [<- nums_intItems,<- hx]
   exact (show numsOf its.toArray.toList = ns from hi.numsOf).symm
  have e2:preSum (numAt zs) zs.size = ns.sum:=by
   rw [preSum_eq,List.take_of_length_le (by simp),e1]
  rw [e2]
  exact ⟨.int ns.sum,H,I.kept hk,⟨t',rfl⟩,q⟩
 ·obtain ⟨its,rv,p,hz⟩:=I.tuple hq
  have hi:IntsAre its ns:=intsAre_of rv
  obtain ⟨zs,hx⟩:=hi.allInts.items
  have hl':s.heap.IsTuple a (intItems zs):=hx ▸ p
  refine PySem.W.ktm_sumG hh hl' fun h' tk t' hk=>?_
  have e1:ns = zs.toList.map (·.1):=by
   rw [<- nums_intItems,<- hx]
   exact (show numsOf its.toArray.toList = ns from hi.numsOf).symm
  have e2:preSum (numAt zs) zs.size = ns.sum:=by
   rw [preSum_eq,List.take_of_length_le (by simp),e1]
  rw [e2]
  exact ⟨.int ns.sum,H,I.kept hk,⟨t',rfl⟩,q⟩
noncomputable def fSum:D -> (Sl -> Prop) -> Prop
 | .list ds,Q=>∃ ns:List Int,ds = ns.map PyData.int /\ Q (.fz (.int ns.sum))
 | .tuple ds,Q=>∃ ns:List Int,ds = ns.map PyData.int /\ Q (.fz (.int ns.sum))
 | _,_=>False
theorem DaAll.intsV {K:Fg} {F:Hp}:∀ {xs:List V} {ns:List Int},DaAll K F xs (ns.map PyData.int) -> xs = ns.map V.int
 | [],[],_=>rfl
 | x :: xs,b :: bs,.cons h t=>by cases h; simp [DaAll.intsV t]
theorem ok_sum {K:Fg}:OpOk K (rSum K) (o1 fSum):=ok1 fun G F σ H ρ x d Q Qd R h1 w k=>by
 match d,h1,w with
 | .list ds,h1,⟨ns,e,w⟩ =>
  subst e
  obtain ⟨a,us,rfl,e1,d1⟩:=h1.list R.sub
  have:=d1.intsV
  subst this
  exact ⟨a,ns,rfl,.inl (SqL.of e1),k _ H F (.fz _) (Sub.refl _) R (Da.int _) w⟩
 | .tuple ds,h1,⟨ns,e,w⟩ =>
  subst e
  obtain ⟨a,us,rfl,_,e1,d1⟩:=h1.tuple R.sub
  have:=d1.intsV
  subst this
  exact ⟨a,ns,rfl,.inr (SqT.of e1),k _ H F (.fz _) (Sub.refl _) R (Da.int _) w⟩
end L3
namespace L3
open PySem PySem.Spec PyProof.Rows L2
noncomputable def RngB (i j:Int):Prop:=-(2 ^ 62) <= i /\ i < 2 ^ 62 /\ -(2 ^ 62) <= j /\ j < 2 ^ 62
noncomputable def rRng:List V -> Hp -> VK -> Prop:=fun xs H Q=>∃ i j:Int,(xs = [.int i,.int j] \/ (xs = [.int j] /\ i = 0)) /\ ∀ p,H p = none -> Q (.ref p) (upd H p (.rng i j))
theorem call_rng {X:Cx}:CallR X (.type "range") rRng:=by
 intro pins s σ H xs us Q I r h
 obtain ⟨i,j,hx,q⟩:=h
 have lay:∀ (t u v:Tok) (tk:Nat),EP X pins σ Q (.ref s.heap.objs.size) { s with heap:=s.heap.push { cls:=.type "range",data:=.fields #[.int i t,.int j u,.int 1 v] },toks:=tk }:=fun t u v tk =>
  ⟨.ref s.heap.objs.size,_,I.laid (t':=tk) (o:=.rng i j) (fun b o e=>Heap.get?_push_of_some _ e) (Nat.le_refl _) ⟨t,u,v,Heap.get?_push_size _ rfl⟩,rfl,q _ (I.hok.fresh (Nat.le_refl _))⟩
 rcases hx with rfl | ⟨rfl,rfl⟩
 ·obtain ⟨u,w,rfl,ru,rw'⟩:=vals2 r
  obtain ⟨t,rfl⟩:=ru
  obtain ⟨t',rfl⟩:=rw'
  exact call_range_2 (lay _ _ _ _)
 ·obtain ⟨u,rfl,ru⟩:=vals1 r
  obtain ⟨t,rfl⟩:=ru
  exact call_range_1 (lay _ _ _ _)
noncomputable def rLstRng:List V -> Hp -> VK -> Prop:=fun xs H Q=>∃ (p:Addr) (i j:Int),xs = [.ref p] /\ H p = some (.rng i j) /\ RngB i j /\ (j - i).toNat <= 2 ^ 24 /\ ∀ l,H l = none -> Q (.ref l) (upd H l (.lst ((List.range (j - i).toNat).map fun (n:Nat)=>V.int (i + n))))
theorem call_lstRng {X:Cx} (hc:X.calm = true):CallR X (.type "list") rLstRng:=by
 intro pins s σ H xs us Q I r h
 obtain ⟨p,i,j,rfl,hp,⟨b1,b2,b3,b4⟩,hz,q⟩:=h
 obtain ⟨u,rfl,ru⟩:=vals1 r
 cases ru
 obtain ⟨t,u,v,e⟩:=I.hok p _ hp
 have hn:Builtin.Range.rangeSize i j 1 = ((j - i).toNat:Int):=by rw [rangeSize_one]; split <;> omega
 refine call_list_range (I.ok.hd hc) e (small_one b1 b2 b3 b4) hn hz fun h' tk acc' c' hk hS hacc=>?_
 refine ⟨.ref s.heap.objs.size,_,I.laid (t':=tk) (o:=.lst ((List.range (j - i).toNat).map fun (n:Nat)=>V.int (i + n))) hk (Nat.le_refl _) ?_,rfl,q _ (I.hok.fresh (Nat.le_refl _))⟩
 refine ⟨by rw [List.length_map,List.length_range]; exact hz,acc'.toList,c',?_,by simpa using hS⟩
 have gen:∀ (n:Nat) (ys:List Value),ys.length = n -> (∀ (k:Nat) (y:Value),ys[k]? = some y -> ∃ t,y = .int (i + k * 1) t) -> Vals ((List.range n).map fun (n:Nat)=>V.int (i + n)) ys:=by
  intro n
  induction n with
  | zero=>intro ys hl _; cases ys with | nil=>exact .nil | cons=>simp at hl
  | succ n ih =>
   intro ys hl hy
   rcases List.eq_nil_or_concat ys with rfl | ⟨zs,z,rfl⟩
   ·simp at hl
   ·rw [List.concat_eq_append] at hl hy ⊢
    have hl':zs.length = n:=by simpa using hl
    rw [List.range_succ,List.map_append]
    refine Vals.append (ih zs hl' fun k y e=>hy k y (by rw [List.getElem?_append_left (lt_of_get e)]; exact e)) ?_
    obtain ⟨t,rfl⟩:=hy n z (by rw [<- hl']; simp)
    exact .cons ⟨t,by simp⟩ .nil
 refine gen _ _ (by rw [Array.length_toList]; exact hacc.1) fun k y e=>?_
 exact hacc.2 k y (by simpa using e)
noncomputable def fLR:D -> D -> (Sl -> Prop) -> Prop
 | .int i,.int j,Q=>RngB i j /\ (j - i).toNat <= 2 ^ 24 /\ Q (.ow (.list (rangeD i (j - i).toNat)))
 | _,_,_=>False
theorem ok_LR {K:Fg}:OpOk K (fun vs H Q=>rRng vs H fun v H1=>rLstRng [v] H1 Q) (o2 fLR):=by
 intro G F σ H ρ vs ds Q Qd R a w k
 match ds,a,w with
 | [d,e],a,w =>
  obtain ⟨v,u,rfl,h1,h2⟩:=a.two
  have w:fLR d e Qd:=w
  unfold fLR at w
  split at w
  rotate_left
  ·exact w.elim
  rename_i i j w
  cases h1.int
  cases h2.int
  refine ⟨i,j,.inl rfl,fun p hp=>⟨p,i,j,rfl,upd_same,w.1,w.2.1,fun l hl=>?_⟩⟩
  have R1:Rel K G F σ (upd H p (.rng i j)) ρ:=R.laid hp
  have da:DaAll K F ((List.range (j - i).toNat).map fun (n:Nat)=>V.int (i + n)) (rangeD i (j - i).toNat):=by
   have:=DaAll.ints (K:=K) (F:=F) ((List.range (j - i).toNat).map fun (n:Nat)=>i + (n:Int))
   simpa [rangeD,List.map_map,Function.comp_def] using this
  obtain ⟨R',r'⟩:=R1.newOw (o:=.lst _) (d:=.list (rangeD i (j - i).toNat)) hl da
  exact k _ _ F _ (Sub.refl _) R' r' w.2.2
section
variable {X:Cx} {K:Fg} {e:Expr} {a b:AD}
theorem cv_LR (h:PE X e (tCB rLstRng (tCons (tCB rRng (tArgs ([a,b].map (argT K)))) tNil))):PE X e (lift K (dOp [a,b] (o2 fLR))):=peM h fun q=>l_op ok_LR q
end
noncomputable def dDispQ (ρ:Ev):List (Key × Sum Nat D) -> (List (D × D) -> Prop) -> Prop
 | [],k=>k []
 | (c,.inr d) :: r,k=>dDispQ ρ r fun es=>k ((keyD c,d) :: es)
 | (c,.inl i) :: r,k=>match ρ[i]? with
  | some (some (.fz d))=>dDispQ ρ r fun es=>k ((keyD c,d) :: es)
  | _=>False
noncomputable def dDisp (its:List (Key × Sum Nat D)):TD:=fun ρ Q=>dDispQ ρ its fun es=>Q (.ow (.dict es)) ρ
noncomputable def itT:Sum Nat D -> TE
 | .inl i=>tVar i
 | .inr (.int n)=>tC (.int n)
 | .inr _=>fun _ _ _=>False
theorem disp_ok {K:Fg} {G:Gh} {F H H1:Hp} {σ:L2.St} {ρ:Ev} (R:Rel K G F σ H ρ):∀ {its:List (Key × Sum Nat D)} {kk:List (D × D) -> Prop} {Qp:List (V × V) -> Hp -> Prop},(∀ p ∈ its,∀ d,p.2 = .inr d -> ∃ n,d = .int n) -> dDispQ ρ its kk ->
  (∀ kvs es,DaKV K F kvs es -> kvs.map (·.1) = its.map (·.1) -> kk es -> Qp (kvs.map fun kv=>(kV kv.1,kv.2)) H1) -> tPairs (its.map fun p=>(tC (kV p.1),itT p.2)) σ H1 Qp
 | [],kk,Qp,_,w,k=>k [] [] .nil rfl w
 | (c,.inr d) :: r,kk,Qp,hc,w,k=>by
  obtain ⟨n,rfl⟩:=hc (c,.inr d) List.mem_cons_self d rfl
  refine disp_ok R (its:=r) (fun p hp=>hc p (List.mem_cons_of_mem _ hp)) w fun kvs es da e q=>?_
  exact k ((c,.int n) :: kvs) _ (.cons (.int n) da) (by simp [e]) q
 | (c,.inl i) :: r,kk,Qp,hc,w,k=>by
  unfold dDispQ at w
  split at w
  ·rename_i d ed
   obtain ⟨v,ev,dv⟩:=R.fz i d ed
   refine ⟨v,ev,disp_ok R (its:=r) (fun p hp=>hc p (List.mem_cons_of_mem _ hp)) w fun kvs es da e q=>?_⟩
   exact k ((c,v) :: kvs) _ (.cons dv da) (by simp [e]) q
  ·exact w.elim
theorem mergeK_nodup:∀ (kvs acc:List (Key × V)),((acc ++ kvs).map (·.1)).Nodup -> mergeK acc kvs = acc ++ kvs
 | [],acc,_=>by simp [mergeK]
 | (c,v) :: r,acc,h=>by
  have hn:valV acc c = none:=by
   unfold valV
   rw [List.find?_eq_none.mpr ?_]; rfl
   intro x hx
   simp only [decide_eq_true_eq]
   intro z
   simp only [List.map_append,List.map_cons,List.nodup_append] at h
   exact h.2.2 x.1 (List.mem_map_of_mem hx) c List.mem_cons_self z
  have e:putK acc c v = acc ++ [(c,v)]:=putK_new v hn
  show mergeK (putK acc c v) r = _
  rw [e,mergeK_nodup r (acc ++ [(c,v)]) (by simpa using h)]
  simp
theorem cv_disp {X:Cx} {K:Fg} {e:Expr} (its:List (Key × Sum Nat D)) (hn:(its.map (·.1)).Nodup) (hl:its.length <= 15) (hc:∀ p ∈ its,∀ d,p.2 = .inr d -> ∃ n,d = .int n) (h:PE X e (tDisp (its.map fun p=>(tC (kV p.1),itT p.2)))):PE X e (lift K (dDisp its)):=peM h fun {σ H Q} q=>by
 obtain ⟨G,F,ρ,Qd,R,w,k⟩:=q
 intro p hp
 refine disp_ok R hc w fun kvs es da ek q=>⟨upd_same,kvs,rfl,?_,?_⟩
 ·have:=congrArg List.length ek; simp at this; omega
 ·rw [mergeK_nodup kvs [] (by simpa [ek] using hn),upd_upd]
  obtain ⟨R',r'⟩:=R.newOw (o:=.dK ([] ++ kvs)) (d:=.dict es) hp (by rw [List.nil_append]; exact da)
  exact k _ _ F _ ρ (Sub.refl _) R' r' q
end L3
namespace L3
open PySem PySem.Spec PyProof.Rows L2
noncomputable def clean1 (ρ:Ev) (i:Nat):Ev:=match ρ[i]? with
 | some (some (.io _))=>ρ
 | some _=>ρ.set i none
 | none=>ρ
noncomputable def clean (ks:List Nat) (ρ:Ev):Ev:=match ks with
 | []=>ρ
 | i :: r=>clean r (clean1 ρ i)
section
variable {K:Fg} {G:Gh} {F H:Hp} {σ:L2.St} {ρ:Ev}
theorem Rel.drop (R:Rel K G F σ H ρ) {i:Nat} (hn:∀ d,ρ[i]? ≠ some (some (Sl.io d))):Rel K G F σ H (ρ.set i none):=by
 refine ⟨by rw [List.length_set]; exact R.len,R.sub,R.sub0,R.fn,R.keep,fun j d e=>?_,fun j t e wt=>?_,fun j d b e eb=>?_,fun j b e=>?_,fun j d e=>?_,fun j k t u b e1 w1 e2 w2 e3 e4=>?_⟩
 ·rcases get_set e with ⟨rfl,z⟩ | ⟨n,z⟩
  ·cases z
  ·exact R.fz j d z
 ·rcases get_set e with ⟨rfl,z⟩ | ⟨n,z⟩
  ·cases z
  ·exact R.ow j t z wt
 ·rcases get_set e with ⟨rfl,z⟩ | ⟨n,z⟩
  ·cases z
  ·exact R.new j d b z eb
 ·obtain ⟨d',e1,e2⟩:=R.io j b e
  have n:i ≠ j:=fun z=>by subst z; exact hn _ e1
  exact ⟨d',by rw [List.getElem?_set_ne n]; exact e1,e2⟩
 ·rcases get_set e with ⟨rfl,z⟩ | ⟨n,z⟩
  ·cases z
  ·exact R.ioi j d z
 ·rcases get_set e1 with ⟨rfl,z⟩ | ⟨n,z⟩
  ·cases z
  ·rcases get_set e2 with ⟨rfl,z'⟩ | ⟨n',z'⟩
   ·cases z'
   ·exact R.ap j k t u b z w1 z' w2 e3 e4
theorem Rel.clean1 (R:Rel K G F σ H ρ) (i:Nat):Rel K G F σ H (clean1 ρ i):=by
 unfold L3.clean1
 split
 ·exact R
 ·rename_i e1 e2
  exact R.drop fun d z=>by rw [e2] at z; cases z; exact e1 _ rfl
 ·exact R
theorem Rel.clean (ks:List Nat):∀ {ρ:Ev},Rel K G F σ H ρ -> Rel K G F σ H (clean ks ρ):=by
 induction ks with
 | nil=>intro ρ R; exact R
 | cons i r ih=>intro ρ R; exact ih (R.clean1 i)
end
noncomputable def dLoopC (ks:List Nat) (g:TDG) (tb:TDS) (E:DE):List D -> Ev -> Prop
 | [],ρ=>E.nx ρ
 | d :: ds,ρ=>g d ρ fun ρ'=>tb { nx:=fun ρ2=>dLoopC ks g tb E ds (clean ks ρ2),rt:=E.rt,bk:=fun ρ2=>E.nx (clean ks ρ2),ct:=fun ρ2=>dLoopC ks g tb E ds (clean ks ρ2) } ρ'
noncomputable def dForC (ks:List Nat) (ti:TDI) (g:TDG) (tb:TDS):TDS:=fun E ρ=>ti ρ fun ds ρ'=>dLoopC ks g tb E ds (clean ks ρ')
theorem l_forC {K:Fg} {ks:List Nat} {ti:TDI} {g:TDG} {tb:TDS} {E:Ends} {σ:L2.St} {H:Hp} (h:liftS K (dForC ks ti g tb) E σ H):tFor (liftI K ti) (liftG K g) (liftS K tb) E σ H:=by
 obtain ⟨G,F,ρ,D,R,w,n,r,b,c⟩:=h
 refine ⟨G,F,ρ,_,R,w,fun J H1 F1 ds ρ1 s1 R1 wk w1=>?_⟩
 refine ⟨fun i m σ H=>m = ds.length - i /\ i <= ds.length /\ ∃ F' ρ',Sub F1 F' /\ Rel K G F' σ H ρ' /\ dLoopC ks g tb D (ds.drop i) ρ',⟨ds.length,rfl,Nat.zero_le _,F1,_,Sub.refl _,R1.clean ks,w1⟩,?_⟩
 rintro i m σ H ⟨rfl,hi,F',ρ',s',R',w'⟩
 obtain ⟨hgo,hst⟩:=wk i H F' s' R'.sub
 cases e:ds[i]? with
 | none =>
  have hl:ds.length <= i:=List.getElem?_eq_none_iff.mp e
  refine .inl ⟨hst (by omega),?_⟩
  rw [List.drop_of_length_le hl] at w'
  exact n σ H F' ρ' (s1.trans s') R' w'
 | some d =>
  obtain ⟨go,yl⟩:=hgo d e
  have hl:=lt_of_get e
  rw [drop_get e] at w'
  refine .inr ⟨go,fun σ2 H2=>∃ F2 ρ2,Sub F1 F2 /\ Rel K G F2 σ2 H2 ρ2 /\ dLoopC ks g tb D (ds.drop (i + 1)) ρ2,fun σ2 H2 ⟨F2,ρ2,z1,z2,z3⟩=>⟨ds.length - (i + 1),by omega,rfl,hl,F2,ρ2,z1,z2,z3⟩,fun x H2 y=>?_⟩
  obtain ⟨F2,t1,t2,t3,t4,t5⟩:=yl x H2 y
  have R2:=R'.turn t1 t2 t3 t4
  refine ⟨G,F2,ρ',d,_,R2,t5,w',fun σ3 ρ3 R3 w3=>?_⟩
  refine ⟨G,F2,ρ3,_,R3,w3,fun σ4 H4 F4 ρ4 s4 R4 q=>?_,fun v σ4 H4 F4 x4 ρ4 s4 R4 r4 q=>?_,fun σ4 H4 F4 ρ4 s4 R4 q=>?_,fun σ4 H4 F4 ρ4 s4 R4 q=>?_⟩
  ·exact ⟨F4,_,s'.trans (t1.trans s4),R4.clean ks,q⟩
  ·exact r v σ4 H4 F4 x4 ρ4 (s1.trans (s'.trans (t1.trans s4))) R4 r4 q
  ·exact n σ4 H4 F4 _ (s1.trans (s'.trans (t1.trans s4))) (R4.clean ks) q
  ·exact ⟨F4,_,s'.trans (t1.trans s4),R4.clean ks,q⟩
theorem cs_forC {X:Cx} {K:Fg} {st:Stmt} {t:TDS} (ks:List Nat) {ti:TDI} {g:TDG} (h:PS X st (tFor (liftI K ti) (liftG K g) (liftS K t))):PS X st (liftS K (dForC ks ti g t)):=psM h l_forC
theorem loopC {ks:List Nat} {g:TDG} {tb:TDS} {E:DE} (J:List D -> Ev -> Prop)
  (hs:∀ d ds ρ,J (d :: ds) ρ -> ∀ N:Ev -> Prop,(∀ ρ2,J ds ρ2 -> N ρ2) -> g d ρ fun ρ'=>tb { nx:=fun ρ2=>N (clean ks ρ2),rt:=E.rt,bk:=fun ρ2=>E.nx (clean ks ρ2),ct:=fun ρ2=>N (clean ks ρ2) } ρ')
  (hd:∀ ρ,J [] ρ -> E.nx ρ):∀ {ds:List D} {ρ:Ev},J ds ρ -> dLoopC ks g tb E ds ρ
 | [],ρ,h=>hd ρ h
 | d :: ds,ρ,h=>hs d ds ρ h _ fun ρ2 h2=>loopC J hs hd h2
noncomputable def dCompLC (n:Nat) (g:TDG) (tc:TTD) (te:TD):List D -> List D -> Ev -> (List D -> Ev -> Prop) -> Prop
 | [],acc,τ,Q=>Q acc τ
 | d :: ds,acc,τ,Q=>g d τ fun τ1=>tc τ1 fun b τ2=>if b = true then te τ2 fun r τ3=>dCompLC n g tc te ds (acc ++ [r.d]) (clean (List.range n) τ3) Q else dCompLC n g tc te ds acc (clean (List.range n) τ2) Q
noncomputable def dCompC (ti:TDI) (own:List Str) (fr:List Nat) (g:TDG) (tc:TTD) (te:TD):TD:=fun ρ Q=>ti ρ fun ds ρ1=>ds.length <= sizeLine /\ dCompLC own.length g tc te ds [] (innerE own fr ρ1) fun ys τ=>Q (.ow (.list ys)) (wbGo fr (τ.drop own.length) 0 ρ1)
theorem l_compC {K:Fg} {ti:TDI} {own:List Str} {fr:List Nat} {g:TDG} {tc:TTD} {te:TD} (nd:fr.Nodup) {σ:L2.St} {H:Hp} {Q:VK} (h:lift K (dCompC ti own fr g tc te) σ H Q):tCompW (liftI K ti) own fr (liftG K g) (liftT K tc) (lift K te) σ H Q:=by
 obtain ⟨G,F,ρ,Qd,R,w,k⟩:=h
 refine ⟨G,F,ρ,_,R,w,fun J H1 F1 ds ρ1 s1 R1 wk ⟨hz,w1⟩=>?_⟩
 have Ri:=R1.inner (own:=own) nd
 refine ⟨fun i m ys τ H=>m = ds.length - i /\ i <= ds.length /\ ∃ F' ρ' acc,Rel K (ghC own fr F1 H1 σ ρ1) F' τ H ρ' /\ DaAll K F' ys acc /\ acc.length <= i /\ dCompLC own.length g tc te (ds.drop i) acc ρ' (fun ys τ=>Qd (.ow (.list ys)) (wbGo fr (τ.drop own.length) 0 ρ1)),
   ⟨ds.length,rfl,Nat.zero_le _,F1,_,[],Ri,.nil,Nat.zero_le _,w1⟩,?_⟩
 rintro i m ys τ H' ⟨rfl,hi,F',ρ',acc,R',da,hl,w'⟩
 obtain ⟨hgo,hst⟩:=wk i H' F' R'.sub0 R'.sub
 cases e:ds[i]? with
 | none =>
  have hl':ds.length <= i:=List.getElem?_eq_none_iff.mp e
  refine .inl ⟨hst (by omega),fun Dd hD=>?_⟩
  rw [List.drop_of_length_le hl'] at w'
  have Ro:=R1.outer R' nd
  obtain ⟨Rn,rn⟩:=Ro.newOw (o:=.lst ys) (d:=.list acc) hD da
  exact k _ _ F' _ _ (s1.trans R'.sub0) Rn rn w'
 | some d =>
  obtain ⟨go,yl⟩:=hgo d e
  have hlt:=lt_of_get e
  rw [drop_get e] at w'
  refine .inr ⟨go,by rw [da.length]; omega,fun ys2 τ2 H2=>∃ F2 ρ2 acc2,Rel K (ghC own fr F1 H1 σ ρ1) F2 τ2 H2 ρ2 /\ DaAll K F2 ys2 acc2 /\ acc2.length <= i + 1 /\ dCompLC own.length g tc te (ds.drop (i + 1)) acc2 ρ2 (fun ys τ=>Qd (.ow (.list ys)) (wbGo fr (τ.drop own.length) 0 ρ1)),
    fun ys2 τ2 H2 ⟨F2,ρ2,acc2,z1,z2,z3,z4⟩=>⟨ds.length - (i + 1),by omega,rfl,hlt,F2,ρ2,acc2,z1,z2,z3,z4⟩,fun x H2 y=>?_⟩
  obtain ⟨F2,t1,t2,t3,t4,t5⟩:=yl x H2 y
  have R2:=R'.turn t1 t2 t3 t4
  refine ⟨_,F2,ρ',d,_,R2,t5,w',fun τ3 ρ3 R3 w3=>?_⟩
  refine ⟨_,F2,ρ3,_,R3,w3,fun b H4 F4 ρ4 s4 R4 w4=>?_⟩
  cases b with
  | false=>exact ⟨F4,_,acc,R4.clean _,da.mono (t1.trans s4),by omega,w4⟩
  | true =>
   refine ⟨_,F4,ρ4,_,R4,w4,fun v H5 F5 r ρ5 s5 R5 r5 w5=>?_⟩
   obtain ⟨F6,s6,R6,d6⟩:=r5.frz R5
   exact ⟨F6,_,acc ++ [r.d],R6.clean _,(da.mono (t1.trans (s4.trans (s5.trans s6)))).append (.cons d6 .nil),by simp; omega,w5⟩
section
variable {X:Cx} {K:Fg} {e:Expr} {st:Stmt} {ti:TDI} {own:List Str} {fr:List Nat} {g:TDG} {tc:TTD} {te:TD}
theorem cv_compC (nd:fr.Nodup) (h:PE X e (tCompW (liftI K ti) own fr (liftG K g) (liftT K tc) (lift K te))):PE X e (lift K (dCompC ti own fr g tc te)):=peM h (l_compC nd)
theorem cs_setCC {i:Nat} (nd:fr.Nodup) (h:PS X st (tAsg (tCompW (liftI K ti) own fr (liftG K g) (liftT K tc) (lift K te)) (gName i))):PS X st (liftS K (dSet i (dCompC ti own fr g tc te))):=psM h fun q=>l_compC nd (l_set q)
end
theorem compC {n:Nat} {g:TDG} {tc:TTD} {te:TD} {Q:List D -> Ev -> Prop} (J:List D -> List D -> Ev -> Prop)
  (hs:∀ d ds acc τ,J (d :: ds) acc τ -> ∀ N:List D -> Ev -> Prop,(∀ acc2 τ2,J ds acc2 τ2 -> N acc2 τ2) -> g d τ fun τ1=>tc τ1 fun b τ2=>if b = true then te τ2 fun r τ3=>N (acc ++ [r.d]) (clean (List.range n) τ3) else N acc (clean (List.range n) τ2))
  (hd:∀ acc τ,J [] acc τ -> Q acc τ):∀ {ds acc:List D} {τ:Ev},J ds acc τ -> dCompLC n g tc te ds acc τ Q
 | [],acc,τ,h=>hd acc τ h
 | d :: ds,acc,τ,h=>hs d ds acc τ h _ fun acc2 τ2 h2=>compC J hs hd h2
theorem compN {n:Nat} {g:TDG} {te:TD} {Q:List D -> Ev -> Prop} (J:List D -> List D -> Ev -> Prop)
  (hs:∀ d ds acc τ,J (d :: ds) acc τ -> ∀ N:List D -> Ev -> Prop,(∀ acc2 τ2,J ds acc2 τ2 -> N acc2 τ2) -> g d τ fun τ1=>te τ1 fun r τ3=>N (acc ++ [r.d]) (clean (List.range n) τ3))
  (hd:∀ acc τ,J [] acc τ -> Q acc τ) {ds acc:List D} {τ:Ev} (h:J ds acc τ):dCompLC n g dYes te ds acc τ Q :=
 compC J (fun d ds acc τ h N hN=>by
   have q:=hs d ds acc τ h N hN
   have e:(fun τ1=>te τ1 fun r τ3=>N (acc ++ [r.d]) (clean (List.range n) τ3)) = fun τ1=>dYes τ1 fun b τ2=>if b = true then te τ2 (fun r τ3=>N (acc ++ [r.d]) (clean (List.range n) τ3)) else N acc (clean (List.range n) τ2):=by
     funext τ1
     show _ = (if true = true then te τ1 (fun r τ3=>N (acc ++ [r.d]) (clean (List.range n) τ3)) else N acc (clean (List.range n) τ1))
     rw [if_pos rfl]
   rw [<- e]
   exact q) hd h
theorem mapC {n:Nat} {g:TDG} {te:TD} {Q:List D -> Ev -> Prop} (f:D -> D) {τ:Ev} {ds:List D}
  (hs:∀ d ∈ ds,∀ N:D -> Ev -> Prop,N (f d) τ -> g d τ fun τ1=>te τ1 fun r τ3=>N r.d (clean (List.range n) τ3))
  (hd:Q (ds.map f) τ):dCompLC n g dYes te ds [] τ Q:=by
 refine compN (fun rest acc τ'=>τ' = τ /\ ∃ pre,ds = pre ++ rest /\ acc = pre.map f) ?_ ?_ ⟨rfl,[],rfl,rfl⟩
 ·rintro d ds' acc τ' ⟨rfl,pre,e,rfl⟩ N hN
  exact hs d (by rw [e]; simp) (fun x τ3=>N (pre.map f ++ [x]) τ3) (hN _ _ ⟨rfl,pre ++ [d],by rw [e]; simp,by simp⟩)
 ·rintro acc τ' ⟨rfl,pre,e,rfl⟩
  rw [List.append_nil] at e
  subst e
  exact hd
end L3
namespace L3
open PySem PySem.Spec PyProof.Rows L2
structure WE (X:Cx) (e:Expr) (t:TE):Prop where
 h:PE X e t
structure WA (X:Cx) (es:List Expr) (t:TA):Prop where
 h:PA X es t
structure WT (X:Cx) (e:Expr) (t:TT):Prop where
 h:PT X e t
structure WW (X:Cx) (e:Expr) (t:TT):Prop where
 h:PW X e t
structure WS (X:Cx) (s:Stmt) (t:TS):Prop where
 h:PS X s t
structure WSs (X:Cx) (s:List Stmt) (t:TS):Prop where
 h:PSs X s t
structure WG (X:Cx) (e:Expr) (t:TG):Prop where
 h:PG X e t
structure WGs (X:Cx) (es:List Expr) (t:TGs):Prop where
 h:PGs X es t
structure WI (X:Cx) (g e:Expr) (t:TI):Prop where
 h:PI X g e t
structure WIf (X:Cx) (es:List Expr) (t:TT):Prop where
 h:PIf X es t
section
variable {X:Cx} {K:Fg} {e e1 e2 e3:Expr} {es:List Expr} {a b c:AD} {as:List AD} {td te tf:TD} {tc tc':TTD} {st:Stmt} {sts:List Stmt} {t u:TDS} {p pos pos' p2 apos cpos tpos:Pos} {x:Str} {tg:Expr}
theorem wn (i:Nat) (hN:X.N[i]? = some x:=by rfl) (hv:Vis X.env.scope x:=by first | exact Or.inl rfl | exact Or.inr (Or.inl rfl) | exact Or.inr (Or.inr rfl)) (hd:(x == ("__debug__":Str)) = false:=by decide)
  (hcd:(x == ("__classdict__":Str)) = false:=by decide):WE X (.Name x pos) (argT K (.inl i)):=⟨pe_var hN hv hd hcd⟩
theorem wv (i:Nat) (hN:X.N[i]? = some x:=by rfl) (hv:Vis X.env.scope x:=by first | exact Or.inl rfl | exact Or.inr (Or.inl rfl) | exact Or.inr (Or.inr rfl)) (hd:(x == ("__debug__":Str)) = false:=by decide)
  (hcd:(x == ("__classdict__":Str)) = false:=by decide):WE X (.Name x pos) (lift K (dVar i)):=⟨cv_var (pe_var hN hv hd hcd)⟩
theorem wx (h:WE X e (lift K td)):WE X e (argT K (.inr td)):=⟨h.h⟩
theorem wa_nil:WA X [] (tArgs (([]:List AD).map (argT K))):=⟨pa_nil⟩
theorem wa_cons (ha:WE X e (argT K a)) (hr:WA X es (tArgs (as.map (argT K)))) (hs:notStar e = true:=by rfl):WA X (e :: es) (tArgs ((a :: as).map (argT K))):=⟨da_cons ha.h hr.h (starEach_of hs)⟩
theorem w_int {i:Int} {k:Nat}:WE X (.Constant (.int i) k pos) (lift K (dC (.int i))):=⟨cv_c (fun _=>.int _) pe_int⟩
theorem w_bl {b:Bool} {k:Nat}:WE X (.Constant (.bool b) k pos) (lift K (dC (.bool b))):=⟨cv_c (fun _=>.bl _) pe_bl⟩
theorem w_non {k:Nat}:WE X (.Constant .none k pos) (lift K (dC .none)):=⟨cv_c (fun _=>.non) pe_non⟩
theorem w_str {z:Str} {k:Nat}:WE X (.Constant (.str z) k pos) (lift K (dC (.str z))):=⟨cv_c (fun _=>.str _) pe_str⟩
theorem w_bin {op:Operator} {r:R2} {f:D -> D -> (Sl -> Prop) -> Prop} (ok:OpOk K (r2L r) (o2 f)) (ho:OpR X (binaryOp op) r) (ha:WE X e1 (argT K a)) (hb:WE X e2 (argT K b)):WE X (.BinOp e1 op e2 pos) (lift K (dOp [a,b] (o2 f))):=⟨cv2 ok (pe_op ho ha.h hb.h)⟩
theorem w_neg (ha:WE X e1 (argT K a)):WE X (.UnaryOp .USub e1 pos) (lift K (dOp [a] (o1 fNeg))):=⟨cvu ok_neg (pe_un un_neg ha.h)⟩
theorem w_cmp {op:CmpOp} {r:R2} {f:D -> D -> (Sl -> Prop) -> Prop} (ok:OpOk K (r2L r) (o2 f)) (ho:OpR X (compareOp op) r) (ha:WE X e1 (argT K a)) (hb:WE X e2 (argT K b)) (hm:op ≠ .In:=by decide) (hm2:op ≠ .NotIn:=by decide):WE X (.Compare e1 [op] [e2] pos) (lift K (dOp [a,b] (o2 f))):=⟨cv2 ok (pe_cmpR ho ha.h hb.h (nomark _ hm hm2))⟩
theorem w_chain {op op':CmpOp} {p q:Int -> Int -> Bool} (ho:OpR X (compareOp op) (rI0 fun i j=>.bl (p i j))) (ho':OpR X (compareOp op') (rI0 fun i j=>.bl (q i j))) (ha:WE X e1 (argT K a)) (hb:WE X e2 (argT K b)) (hc:WE X e3 (argT K c))
  (hm:lastMarks [op,op'] [e2,e3] = false:=by with_unfolding_all rfl):WE X (.Compare e1 [op,op'] [e2,e3] pos) (lift K (dChain p q a b c)):=⟨cv_chain (pe_chain ho ho' ha.h hb.h hc.h hm)⟩
theorem w_one {op:BoolOp} {tr:TE} (h:WE X e tr):WE X (.BoolOp op [e] pos) tr:=⟨pe_one h.h⟩
theorem w_and {rest:List Expr} (ha:WE X e1 (lift K td)) (hb:WE X (.BoolOp .And (e2 :: rest) pos) (lift K te)):WE X (.BoolOp .And (e1 :: e2 :: rest) pos) (lift K (dAndV td te)):=⟨cv_and (pe_and ha.h hb.h)⟩
theorem w_not (ha:WE X e1 (lift K td)):WE X (.UnaryOp .Not e1 pos) (lift K (dNotV td)):=⟨cv_not (pe_not ha.h)⟩
theorem w_fn {k:Nat} {ps:List Str} {con:Con} (C:Cal X.prog X.w X.K X.mg X.base k x ps (conSp K con)) (hr:Room k X.A) (ha:WA X (e :: es) (tArgs (as.map (argT K)))) (hg:Gl X x:=by rfl) (hdb:(x == ("__debug__":Str)) = false:=by decide)
  (he:notStar e = true:=by rfl) (hpl:es.all notStar = true:=by rfl):WE X (.Call (.Name x p) (e :: es) [] pos) (lift K (dCall con as)):=⟨cv_fn (pe_fn C hr ha.h hg hdb (starEach_of he) (plain_of hpl))⟩
theorem w_fnI {k i:Nat} {ps:List Str} {con:Con} (C:Cal X.prog X.w X.K X.mg X.base k x ps (conSp K con)) (hr:Room k X.A) (ha:WA X (e :: es) (tArgs ((Sum.inl i :: as).map (argT K)))) (hg:Gl X x:=by rfl) (hdb:(x == ("__debug__":Str)) = false:=by decide)
  (he:notStar e = true:=by rfl) (hpl:es.all notStar = true:=by rfl):WE X (.Call (.Name x p) (e :: es) [] pos) (lift K (dCallI con i as)):=⟨cv_fnI (pe_fn C hr ha.h hg hdb (starEach_of he) (plain_of hpl))⟩
theorem w_callB {id:String} {r:List V -> Hp -> VK -> Prop} {f:List D -> (Sl -> Prop) -> Prop} (ok:OpOk K r f) (hc:CallR X (.builtin id) r) (hm:X.mg x = none) (hv:bootBuiltins x = some (.builtin id)) (ha:WA X (e :: es) (tArgs (as.map (argT K)))) (hg:Gl X x:=by rfl) (hn:x ≠ "__name__":=by decide) (hdb:(x == ("__debug__":Str)) = false:=by decide)
  (he:notStar e = true:=by rfl) (hpl:es.all notStar = true:=by rfl):WE X (.Call (.Name x p) (e :: es) [] pos) (lift K (dOp as f)):=⟨cvB ok (pe_callB hc hg hm hv ha.h hn hdb (starEach_of he) (plain_of hpl))⟩
theorem w_callT {T:String} {r:List V -> Hp -> VK -> Prop} {f:List D -> (Sl -> Prop) -> Prop} (ok:OpOk K r f) (hc:CallR X (.type T) r) (hm:X.mg x = none) (hv:bootBuiltins x = some (.type T)) (ha:WA X (e :: es) (tArgs (as.map (argT K)))) (hg:Gl X x:=by rfl) (hn:x ≠ "__name__":=by decide) (hdb:(x == ("__debug__":Str)) = false:=by decide)
  (he:notStar e = true:=by rfl) (hpl:es.all notStar = true:=by rfl):WE X (.Call (.Name x p) (e :: es) [] pos) (lift K (dOp as f)):=⟨cvB ok (pe_callTy hc hg hm hv ha.h hn hdb (starEach_of he) (plain_of hpl))⟩
theorem w_LR (hc:X.calm = true) (hm:X.mg "list" = none) (hm2:X.mg "range" = none) (ha:WA X [e1,e2] (tArgs ([a,b].map (argT K)))) (hg:Gl X "list":=by rfl) (hg2:Gl X "range":=by rfl) (he:notStar e1 = true:=by rfl) (he2:notStar e2 = true:=by rfl) :
  WE X (.Call (.Name "list" p) [.Call (.Name "range" p2) [e1,e2] [] pos'] [] pos) (lift K (dOp [a,b] (o2 fLR))) :=
 ⟨cv_LR (pe_callTy (call_lstRng hc) hg hm boot_list (pa_cons (pe_callTy call_rng hg2 hm2 boot_range ha.h (by decide) (by decide) (starEach_of he) (plain_of (by simp [he2]))) pa_nil (starEach_of rfl)) (by decide) (by decide) (starEach_of rfl) (plain_of rfl))⟩
theorem w_ix (hK:X.K = K) (ha:WE X e1 (argT K a)) (hb:WE X e2 (argT K b)) (hs:PlainIx e2:=by exact fun _ _=>rfl):WE X (.Subscript e1 e2 pos) (lift K (dOp [a,b] (o2 fIx))):=⟨cv2 ok_ix (pe_ix (ix_seqD hK) ha.h hb.h hs)⟩
theorem w_dget (hu:X.A.units + 1 < cLine) (ha:WE X e1 (argT K a)) (hb:WE X e2 (argT K b)) (hs:NoSl e2:=by exact fun _ _=>rfl):WE X (.Subscript e1 e2 pos) (lift K (dOp [a,b] (o2 fDGet))):=⟨cv2 ok_dget (pe_dget hu ha.h hb.h hs)⟩
theorem w_tup {k:Nat} (h:WA X es (tArgs (as.map (argT K)))) (hl:as.length <= 1000:=by decide):WE X (.Tuple es k pos) (lift K (dOpF as fTupD)):=⟨cv_tup hl (pe_tup h.h)⟩
theorem w_lst (h:WA X es (tArgs (as.map (argT K)))) (hl:as.length <= 1000:=by decide):WE X (.List es pos) (lift K (dOpF as fLstD)):=⟨cv_lst hl (pe_lst h.h)⟩
theorem w_disp (its:List (Key × Sum Nat D)) (hn:(its.map (·.1)).Nodup) (hl:its.length <= 15) (hc:∀ p ∈ its,∀ d,p.2 = .inr d -> ∃ n,d = .int n) (h:PE X e (tDisp (its.map fun p=>(tC (kV p.1),itT p.2)))):WE X e (lift K (dDisp its)):=⟨cv_disp its hn hl hc h⟩
theorem w_comp {elt iter:Expr} {ifs:List Expr} {sc:Scope} {own:List Str} {fr:List Nat} {ti:TDI} {g:TDG} (hc:X.calm = true) (S:compOk X.env.scope X.N fr sc = true) (hi:WI X tg iter (liftI K ti)) (hg:∀ C s H ex,WG (cxComp X own fr sc C s H ex) tg (liftG K g))
  (hif:∀ C s H ex,WIf (cxComp X own fr sc C s H ex) ifs (liftT K tc)) (he:∀ C s H ex,WE (cxComp X own fr sc C s H ex) elt (lift K te)) (nd:fr.Nodup:=by decide) (hs:notSet iter = true:=by rfl):WE X (.ListComp elt [⟨tg,iter,ifs,0⟩] sc pos) (lift K (dCompC ti own fr g tc te)) :=
 ⟨cv_compC nd (pe_compW hc (compSc_of S) hi.h (fun C s H ex=>(hg C s H ex).h) (fun C s H ex=>(hif C s H ex).h) (fun C s H ex=>(he C s H ex).h) (folded_of hs))⟩
theorem w_m {name:Str} {id:String} {i:Nat} {r:V -> List V -> Hp -> VK -> Prop} {f:List D -> List D -> (D -> D -> Prop) -> Prop} (ok:MOk K r f) (hK:X.K = K) (slot:Slot "list" name id) (hty:typeOf (.builtin id) = pure (.type "method_descriptor")) (hm:MtR X id r) (ho:WE X (.Name x p) (argT K (.inl i))) (ha:WA X (e :: es) (tArgs (as.map (argT K))))
  (hbase:attributeBase (.Name x p) name X.env (eval (.Name x p) X.env) = eval (.Name x p) X.env:=by rfl)
  (hfew:((backTo cpos (starEach (e :: es) X.env)).all (fun x=>!x.1) && (backToKw cpos (keywordEach [] X.env)).all (fun x=>x.1.isSome) && decide ((e :: es).length + ([]:List Keyword).length + (if ([]:List Keyword).isEmpty then 0 else 1) < 30)) = true:=by rfl)
  (hline:(apos.endLine == cpos.line) = true:=by rfl) (he:notStar e = true:=by rfl) (hpl:es.all notStar = true:=by rfl):WE X (.Call (.Attribute (.Name x p) name apos) (e :: es) [] cpos) (lift K (dMeth i as f)):=by
 subst hK
 exact ⟨cv_m ok (pe_bm PySem.F.plainAttrs_list slot hty hm ho.h ha.h hbase hfew hline (starEach_of he) (plain_of hpl))⟩
theorem t_cmp {op:CmpOp} {r:R2} {f:D -> D -> (Sl -> Prop) -> Prop} (ok:OpOk K (r2L r) (o2 f)) (ho:OpR X (compareOp op) r) (ha:WE X e1 (argT K a)) (hb:WE X e2 (argT K b)) (hm:op ≠ .In:=by decide) (hm2:op ≠ .NotIn:=by decide):WT X (.Compare e1 [op] [e2] pos) (liftT K (dTst (dOp [a,b] (o2 f)))):=⟨ct2 ok (pt_cmpR ho ha.h hb.h (nomark _ hm hm2))⟩
theorem t_not (h:WT X e (liftT K tc)):WT X (.UnaryOp .Not e pos) (liftT K (dNot tc)):=⟨ct_not (pt_not h.h)⟩
theorem t_and1 (h:WT X e (liftT K tc)):WW X (.BoolOp .And [e] pos) (liftT K tc):=⟨pw_and1 h.h⟩
theorem t_or1 (h:WT X e (liftT K tc)):WW X (.BoolOp .Or [e] pos) (liftT K tc):=⟨pw_or1 h.h⟩
theorem t_and {rest:List Expr} (ha:WT X e1 (liftT K tc)) (hb:WW X (.BoolOp .And (e2 :: rest) pos) (liftT K tc')):WW X (.BoolOp .And (e1 :: e2 :: rest) pos) (liftT K (dAnd tc tc')):=⟨cw_and (pw_and ha.h hb.h)⟩
theorem t_or {rest:List Expr} (ha:WT X e1 (liftT K tc)) (hb:WW X (.BoolOp .Or (e2 :: rest) pos) (liftT K tc')):WW X (.BoolOp .Or (e1 :: e2 :: rest) pos) (liftT K (dOr tc tc')):=⟨cw_or (pw_or ha.h hb.h)⟩
theorem t_w {tt:TT} (h:WW X e tt):WT X e tt:=⟨h.h.pt⟩
theorem t_val (h:WE X e (lift K td)) (he:∀ whole,isTrue e X.env whole = (do let v <- whole; standAt e.pos; holding [v] (truthy v)):=by intro _; rfl):WT X e (liftT K (dTst td)):=⟨ct_val (pt_val h.h he)⟩
theorem g_name {i:Nat} (hN:X.N.Nodup) (hi:X.N[i]? = some x) (hx:Loc X.env.scope x) (hf:X.fn x = true \/ X.env.scope.names.lookup x = some .local:=by first | exact .inl rfl | exact .inr rfl | assumption):WG X (.Name x pos) (liftG K (dGN i)):=⟨cg_name (pg_name hN hi hx hf)⟩
theorem gs_nil:WGs X [] (gAll (([]:List TDG).map (liftG K))):=⟨pgs_nil⟩
theorem gs_cons {g:TDG} {gs:List TDG} (h1:WG X e (liftG K g)) (h2:WGs X es (gAll (gs.map (liftG K)))) (hs:(assignEach (e :: es) X.env).map (·.2) = assign e X.env :: (assignEach es X.env).map (·.2):=by rfl):WGs X (e :: es) (gAll ((g :: gs).map (liftG K))):=⟨cgs_cons h1.h h2.h hs⟩
theorem g_tup {gs:List TDG} {k:Nat} (hK:X.K = K) (hc:X.calm = true) (hh:WGs X es (gAll (gs.map (liftG K)))) (hn:(assignEach es X.env).length = gs.length:=by rfl) (hst:(assignEach es X.env).findIdx? (·.1) = none:=by rfl):WG X (.Tuple es k pos) (liftG K (dGT gs)):=⟨cg_tup (pg_tupK hK hc hh.h hn hst) rfl⟩
theorem if0:WIf X [] (liftT K dYes):=⟨cif_nil⟩
theorem i_seq (hK:X.K = K) (hl:WE X e (lift K td)):WI X tg e (liftI K (dISeq td)):=⟨ci_seq hK hl.h⟩
theorem i_rng1 (hm:X.mg "range" = none) (ha:WA X [e1] (tArgs ([a].map (argT K)))) (hg:Gl X "range":=by rfl) (he:notStar e1 = true:=by rfl):WI X tg (.Call (.Name "range" p) [e1] [] pos) (liftI K (dIRng1 a)):=⟨ci_rng1 (pi_range1 hg hm ha.h (by rw [starEach_of he]; rfl))⟩
theorem i_rng2 (hm:X.mg "range" = none) (ha:WA X [e1,e2] (tArgs ([a,b].map (argT K)))) (hg:Gl X "range":=by rfl) (he:notStar e1 = true:=by rfl) (he2:notStar e2 = true:=by rfl):WI X tg (.Call (.Name "range" p) [e1,e2] [] pos) (liftI K (dIRng2 a b)):=⟨ci_rng2 (pi_range2 hg hm ha.h (by rw [starEach_of he,starEach_of he2]; rfl) (by rw [starEach_of he2]; rfl))⟩
theorem i_zip2 {ts:List Expr} {kk:Nat} (hK:X.K = K) (hm:X.mg "zip" = none) (ha:WA X [e1,e2] (tArgs ([a,b].map (argT K)))) (hg:Gl X "zip":=by rfl) (he:notStar e1 = true:=by rfl) (hpl:[e2].all notStar = true:=by rfl):WI X (.Tuple ts kk tpos) (.Call (.Name "zip" p) [e1,e2] [] pos) (liftI K (dIZip2 a b)):=⟨ci_zip2 (pi_zip2K hK hg hm ha.h (starEach_of he) (plain_of hpl))⟩
theorem i_zip3 {ts:List Expr} {kk:Nat} (hK:X.K = K) (hm:X.mg "zip" = none) (ha:WA X [e1,e2,e3] (tArgs ([a,b,c].map (argT K)))) (hg:Gl X "zip":=by rfl) (he:notStar e1 = true:=by rfl) (hpl:[e2,e3].all notStar = true:=by rfl):WI X (.Tuple ts kk tpos) (.Call (.Name "zip" p) [e1,e2,e3] [] pos) (liftI K (dIZip3 a b c)):=⟨ci_zip3 (pi_zip3K hK hg hm ha.h (starEach_of he) (plain_of hpl))⟩
theorem i_rev (hK:X.K = K) (hm:X.mg "reversed" = none) (ha:WA X [e1] (tArgs ([a].map (argT K)))) (hg:Gl X "reversed":=by rfl) (he:notStar e1 = true:=by rfl):WI X tg (.Call (.Name "reversed" p) [e1] [] pos) (liftI K (dIRev a)):=⟨ci_rev (pi_rev hK hg hm ha.h (by rw [starEach_of he]; rfl))⟩
theorem s_nil:WSs X [] (liftS K dNext):=⟨cs_next pss_nil⟩
theorem s_one {tr:TS} (h:WS X st tr):WSs X [st] tr:=⟨pss_one h.h⟩
theorem s_cons (h:WS X st (liftS K t)) (h2:WSs X sts (liftS K u)):WSs X (st :: sts) (liftS K (dSeq t u)):=⟨cs_seq (pss_cons h.h h2.h)⟩
theorem s_ret (h:WE X e (lift K td)):WS X (.Return (some e) pos) (liftS K (dRet td)):=⟨cs_ret (ps_ret h.h)⟩
theorem s_retV {i:Nat} (h:WE X e (argT K (.inl i))):WS X (.Return (some e) pos) (liftS K (dRetV i)):=⟨cs_retV (ps_ret h.h)⟩
theorem s_expr (h:WE X e (lift K td)) (hs:notComp e = true:=by rfl):WS X (.Expr e pos) (liftS K (dDrop td)):=⟨cs_drop (ps_expr h.h (swaps_of hs))⟩
theorem s_if {sa sb:List Stmt} (hc:WT X e (liftT K tc)) (ha:WSs X sa (liftS K t)) (hb:WSs X sb (liftS K u)):WS X (.If e sa sb pos) (liftS K (dIfS tc t u)):=⟨cs_if (ps_if hc.h ha.h hb.h)⟩
theorem s_for {iter:Expr} {body:List Stmt} (ks:List Nat) {ti:TDI} {g:TDG} (hp:PassesOwn (model X.prog X.w) X.A X.env X.xe) (hc:X.calm = true) (hi:WI X tg iter (liftI K ti)) (hg:WG X tg (liftG K g)) (hb:WSs X body (liftS K t)) (hs:notSet iter = true:=by rfl):WS X (.For tg iter body [] pos) (liftS K (dForC ks ti g t)):=⟨cs_forC ks (ps_for hp hc hi.h hg.h hb.h (folded_of hs))⟩
theorem s_set {i:Nat} (hN:X.N.Nodup) (hi:X.N[i]? = some x) (hx:Loc X.env.scope x) (he:WE X e (lift K td)) (hs:notComp e = true:=by rfl) (hf:X.fn x = true \/ X.env.scope.names.lookup x = some .local:=by first | exact .inl rfl | exact .inr rfl | assumption):WS X (.Assign [.Name x pos'] e pos) (liftS K (dSet i td)):=⟨cs_set (ps_set hN hi hx he.h (swaps_of hs) hf)⟩
theorem s_move {i j:Nat} (hN:X.N.Nodup) (hi:X.N[i]? = some x) (hx:Loc X.env.scope x) (he:WE X e (argT K (.inl j))) (hs:notComp e = true:=by rfl) (hf:X.fn x = true \/ X.env.scope.names.lookup x = some .local:=by first | exact .inl rfl | exact .inr rfl | assumption):WS X (.Assign [.Name x pos'] e pos) (liftS K (dMove i j)):=⟨cs_move (ps_set hN hi hx he.h (swaps_of hs) hf)⟩
theorem s_setC {elt iter:Expr} {ifs:List Expr} {sc:Scope} {own:List Str} {fr:List Nat} {ti:TDI} {g:TDG} {i:Nat} (hN:X.N.Nodup) (hy:X.N[i]? = some x) (hl:X.env.scope.names.lookup x = some .local) (hc:X.calm = true) (S:compOk X.env.scope X.N fr sc = true) (hi:WI X tg iter (liftI K ti)) (hg:∀ C s H ex,WG (cxComp X own fr sc C s H ex) tg (liftG K g))
  (hif:∀ C s H ex,WIf (cxComp X own fr sc C s H ex) ifs (liftT K tc)) (he:∀ C s H ex,WE (cxComp X own fr sc C s H ex) elt (lift K te)) (nd:fr.Nodup:=by decide) (hs:notSet iter = true:=by rfl) (hsw:swapsWith (.ListComp elt [⟨tg,iter,ifs,0⟩] sc p) (some (.Name x pos')) pos.line X.env = pure true:=by rfl) :
  WS X (.Assign [.Name x pos'] (.ListComp elt [⟨tg,iter,ifs,0⟩] sc p) pos) (liftS K (dSet i (dCompC ti own fr g tc te))) :=
 ⟨cs_setCC nd (ps_setCompW hN hy hl hc (compSc_of S) hi.h (fun C s H ex=>(hg C s H ex).h) (fun C s H ex=>(hif C s H ex).h) (fun C s H ex=>(he C s H ex).h) hsw (folded_of hs))⟩
theorem s_ix {j:Nat} (he:WE X e (lift K td)) (ho:WE X e1 (argT K (.inl j))) (hi:WE X e2 (argT K a)) (hs:swapsWithSole [.Subscript e1 e2 pos'] e pos.line X.env = pure false:=by rfl) (hw:swappedStores [.Subscript e1 e2 pos'] e X.env = pure none:=by rfl)
  (ha:∀ v,assign (.Subscript e1 e2 pos') X.env v = (do
    let ov <- holding [v] (eval e1 X.env)
    let iv <- holding [v,ov] (eval e2 X.env)
    standAt pos'
    holding [v,ov,iv] (setItem ov iv v)
    release [v,ov,iv] []):=by intro _; rfl) (h1:(assignEach [.Subscript e1 e2 pos'] X.env).map (·.2) = [assign (.Subscript e1 e2 pos') X.env]:=by rfl):WS X (.Assign [.Subscript e1 e2 pos'] e pos) (liftS K (dSetIx j a td)):=⟨cs_ix (ps_asg he.h (pg_sub ho.h hi.h set_list ha) hs hw h1)⟩
theorem s_key {j:Nat} (hu:X.A.units + 1 < cLine) (ho:WE X e1 (argT K (.inl j))) (hi:WE X e2 (argT K a)) (hv:WE X e (lift K td)) (hs:notComp e = true:=by rfl):WS X (.Assign [.Subscript e1 e2 pos'] e pos) (liftS K (dSetKey j a td)):=⟨cs_key (ps_dput hu ho.h hi.h hv.h (swaps_of hs))⟩
theorem s_asgG {g:TDG} (he:WE X e (lift K td)) (hg:WG X tg (liftG K g)) (hs:swapsWithSole [tg] e pos.line X.env = pure false:=by rfl) (hw:swappedStores [tg] e X.env = pure none:=by rfl) (h1:(assignEach [tg] X.env).map (·.2) = [assign tg X.env]:=by rfl):WS X (.Assign [tg] e pos) (liftS K (dAsgG g td)):=⟨cs_asgG (ps_asg he.h hg.h hs hw h1)⟩
end
section
variable {P:Program} {w:World} {K:Fg} {mg:Str -> Option Value} {base:Heap}
theorem wfn {x qual:Str} {st:Stmt} {f:Addr} {fd:FuncData} {N ps:List Str} {k:Nat} {con:Con} {ts:TDS} (F:Fun K x qual st f fd) (S:FnScope N ps (defScope st))
  (hb:∀ (cdv:Value) (A:Around) (outer:List Env) (s:Shared) (H:Hp) (E:XK),Room k (A.deeper (envOfC qual (defScope st) s.heap.objs.size f cdv)) -> WSs (cxOf CX0 P w K mg base N qual (defScope st) f cdv A outer s H E).nox (defBody st) (liftS K ts))
  (hl:∀ args Qd,con args Qd -> args.length = ps.length) (hc:∀ args Qd,con args Qd -> (∀ s ∈ args,∀ d,s ≠ .ow d) /\ ts (endsOf args Qd) (startE N.length args)):FnOk P w K mg base CX0 (k + 1) f fd ps (conSp K con) :=
 dfn F S (fun cdv A outer s H E hr=>(hb cdv A outer s H E hr).h) hl hc
end
end L3
namespace L2
open PySem PySem.Spec PyProof.Rows
theorem miss_list_keys:typeLookup (.type "list") "keys" = pure none:=by rw [typeLookup_type,builtinLookup_eq_fast]; kernel_rfl
theorem plain_upd_loop:plainId "dict.update.loop" = true:=by decide +kernel
theorem entry_upd_loop:entryFor table "dict.update.loop" = some Builtin.«dict.update.loop»:=entryFor_of_tree (by kernel_rfl)
section
variable {prog:Program} {w:World} {A:Around} {E:Value -> Shared -> Prop} {s:Shared}
theorem keys_none {a:Addr} {o:Obj} {xs:Array Value} {k:Nat} {Q:Option Value -> Shared -> Prop} (hx:s.heap.get? a = some o) (hc:o.cls = .type "list") (hdat:o.data = .seq xs k) (hd:o.dict = none) (hA:A.handled = none)
  (h:∀ h' tk,(∀ b o,s.heap.get? b = some o -> h'.get? b = some o) -> Q none { s with heap:=h',toks:=tk }) :
  wpAny (model prog w) A (getAttr? (.ref a) "keys") Q E s:=by
 obtain ⟨c,dct,dat,sl⟩:=o
 simp only at hc hdat hd
 subst hc hdat hd
 obtain ⟨hp,g,d,tk,os⟩:=s
 have hT:∀ tk',(⟨hp,g,d,tk',os⟩:Shared).TypeIs (.ref a) "list":=fun _=>⟨_,hx,rfl⟩
 have f1:=sub_AttributeError
 have f3:=F.slot_list_getattribute.lookup
 have f4:=F.slot_list_getattribute.bind (.ref a)
 have f5:=am_list_getattr_none
 unfold getAttr? getAttrBy? getAttrBy
 repeat (any_goals (first | assumption | exact hT _ | ((with_reducible show wpAny _ _ (call (Value.builtin "list.__getattribute__") _ _) _ _ _); refine call_meets F.slot_list_getattribute (hT _) am_entry_list_getattribute (F.args_list_getattribute_2 _ _) (meets_getattribute_miss_list a xs k sl "keys" _ miss_list_keys (by decide +kernel) (by decide +kernel)) ⟨hx,hA,fun h' tk' e hx'=>?_⟩) | wp_step))
 obtain ⟨t',u',he⟩:=hx'.there
 show wpAny _ _ (getattributeRaised _ _ _ _ _ _ _) _ _ _
 unfold getattributeRaised
 repeat (any_goals (first | assumption | wp_step))
 exact h _ _ hx'.keeps
end
section
variable {prog:Program} {w:World} {A:Around} {R:Result -> Shared -> Prop} {I:Addr} {fp wr:List Addr} {n:Nat} {P:Nat -> Value -> Prop} {St:Nat -> Heap -> Prop}
theorem upd_loop (W:Walks prog w A.in1 I fp wr n P St) (d:Addr) (hdf:d ∉ fp) (J:Nat -> Heap -> Prop)
  (hfr:∀ i h h',J i h -> (∀ b o,b ∉ wr -> h.get? b = some o -> h'.get? b = some o) -> J i h')
  (step:∀ (i:Nat) (v:Value) (s:Shared) (Q:Unit -> Shared -> Prop) (E:Value -> Shared -> Prop),i < n -> P i v -> J i s.heap ->
    (∀ h' tk,J (i + 1) h' -> Heap.SameBut d s.heap h' -> Q () { s with heap:=h',toks:=tk }) ->
    ∃ p x y,v = .ref p /\ s.heap.IsTuple p #[x,y] /\ wpAny (model prog w) A.in1 (dictSet d x y) Q E s) :
  ∀ (k i:Nat) (s:Shared) (tA:Tok),n - i = k -> i <= n -> St i s.heap -> J i s.heap ->
  (∀ h' tk,J n h' -> (∀ b o,b ∉ wr -> b ≠ d -> s.heap.get? b = some o -> h'.get? b = some o) -> R (.ok (.ret .none)) { s with heap:=h',toks:=tk }) ->
  codeAny (model prog w) A (.builtin "dict.update.loop" ⟨[.ref d,.ref I,.int i tA,.none],[]⟩) R s:=by
 intro k
 induction k with
 | zero =>
  intro i s tA hk hi hst hJ hR
  have hin:i = n:=by omega
  subst hin
  refine codeAny_builtin entry_upd_loop ?_
  rw [Around.under_plainId plain_upd_loop _]
  show wpAny _ A.in1 (pyNext (.ref I) >>= _) _ _ s
  refine wpAny_bind (W.done s _ _ hst fun h' tk hk'=>?_)
  show wpAny _ _ (Builtin.Dict.addKeywords d [] >>= _) _ _ _
  exact wpAny_bind (wpAny_pure (wpAny_pure (hR h' tk (hfr _ _ _ hJ hk') fun b o hbw _ e=>hk' b o hbw e)))
 | succ k ih =>
  intro i s tA hk hi hst hJ hR
  have hlt:i < n:=by omega
  refine codeAny_builtin entry_upd_loop ?_
  rw [Around.under_plainId plain_upd_loop _]
  show wpAny _ A.in1 (pyNext (.ref I) >>= _) _ _ s
  refine wpAny_bind (W.item i s _ _ hlt hst fun v h' tk hP hst' hk'=>?_)
  have hJ':=hfr _ _ _ hJ hk'
  obtain ⟨p,x,y,rfl,⟨ob,ho,hc,m,hd⟩,hw⟩:=step i v { s with heap:=h',toks:=tk } (fun _ s''=>∃ h'' tk',s'' = { s with heap:=h'',toks:=tk' } /\ J (i + 1) h'' /\ Heap.SameBut d h' h'') (fun _ _=>False) hlt hP hJ' fun h'' tk' j sb=>⟨h'',tk',rfl,j,sb⟩
  show wpAny _ A.in1 (holding [.ref p] _ >>= _) _ _ _
  refine wpAny_bind (wpAny_holding ?_)
  refine wpAny_bind (wpAny_tryCatch ?_)
  unfold Builtin.Dict.pairItems
  refine wpAny_bind (wpAny_typeOf (T:="tuple") ⟨_,ho,hc⟩ ?_)
  rw [if_pos (by decide)]
  refine wpAny_bind (wpAny_seqItems ho hd (wpAny_pure ?_))
  show wpAny _ A.in1 (holding [x,y] (dictSet d x y)) _ _ _
  refine wpAny_holding (wpAny_mono hw (fun _ s'' z=>?_) fun _ _ z=>z.elim)
  obtain ⟨h'',tk',rfl,j,sb⟩:=z
  refine wpAny_pure ⟨plainId_quiet plain_upd_loop _,?_⟩
  exact ih (i + 1) { s with heap:=h'',toks:=tk' } 0 (by omega) hlt (W.frame _ _ _ hst' fun b hb o e=>(sb.2 b fun q=>hdf (q ▸ hb)).trans e) j fun h3 tk3 j3 k3 =>
   hR h3 tk3 j3 fun b o hbw hbd e=>k3 b o hbw hbd ((sb.2 b hbd).trans (hk' b o hbw e))
end
end L2
namespace L2
open PySem PySem.Spec PyProof.Rows
section
variable {prog:Program} {w:World} {A:Around} {E:Value -> Shared -> Prop} {s:Shared}
theorem call_dict_pairs {a:Addr} {o:Obj} {xs:Array Value} {k:Nat} {Q:Value -> Shared -> Prop} (J:Nat -> Heap -> Prop) (hh:A.handled = none)
  (hx:s.heap.get? a = some o) (hc:o.cls = .type "list") (hdat:o.data = .seq xs k) (hd:o.dict = none)
  (h0:∀ h',(∀ b ob,s.heap.get? b = some ob -> h'.get? b = some ob) -> h'.get? s.heap.objs.size = some { cls:=.type "dict",data:=.dict #[] } -> J 0 h')
  (hfr:∀ i h h',J i h -> (∀ b ob,b < s.heap.objs.size + 1 -> h.get? b = some ob -> h'.get? b = some ob) -> J i h')
  (step:∀ (i:Nat) (v:Value) (s':Shared) (Q':Unit -> Shared -> Prop) (E':Value -> Shared -> Prop),xs[i]? = some v -> J i s'.heap -> (∀ b ob,s.heap.get? b = some ob -> s'.heap.get? b = some ob) ->
    (∀ h' tk,J (i + 1) h' -> Heap.SameBut s.heap.objs.size s'.heap h' -> Q' () { s' with heap:=h',toks:=tk }) ->
    ∃ p x y,v = .ref p /\ s'.heap.IsTuple p #[x,y] /\ wpAny (model prog w) A.in1.in1 (dictSet s.heap.objs.size x y) Q' E' s')
  (h:∀ h' tk,J xs.size h' -> (∀ b ob,s.heap.get? b = some ob -> h'.get? b = some ob) -> Q (.ref s.heap.objs.size) { s with heap:=h',toks:=tk }) :
  wpAny (model prog w) A (call (.type "dict") [.ref a]) Q E s:=by
 refine callType_codes (Q₁:=fun obj s₁=>obj = .ref s.heap.objs.size /\ s₁ = { s with heap:=s.heap.push { cls:=.type "dict",data:=.dict #[] } }) F.kt_called_dict (F.kt_typeCall_dict_1 _) F.entry_dict_init (kt_code_dict_new _ ⟨rfl,rfl⟩) ?_
 rintro obj s₁ ⟨rfl,rfl⟩
 have hnew:(s.heap.push { cls:=.type "dict",data:=.dict #[] }).get? s.heap.objs.size = some { cls:=.type "dict",data:=.dict #[] }:=Heap.get?_push_size _ rfl
 have hkp:∀ b ob,s.heap.get? b = some ob -> (s.heap.push { cls:=.type "dict",data:=.dict #[] }).get? b = some ob:=fun b ob e=>Heap.get?_push_of_some _ e
 refine ⟨⟨_,hnew,rfl⟩,F.args_dict_init_2 _ _,?_⟩
 unfold Builtin.«dict.__init__»
 refine wpAny_bind ?_
 unfold Builtin.Dict.selfAndRest
 refine wpAny_bind (wpAny_notOrdered_dict ⟨_,hnew,rfl⟩ ?_)
 show wpAny _ _ (pure (s.heap.objs.size,[Value.ref a])) _ _ _
 refine wpAny_pure ?_
 show wpAny _ _ (Builtin.Dict.updateFrom "dict.__init__" s.heap.objs.size (.ref a) [] .none) _ _ _
 unfold Builtin.Dict.updateFrom
 refine wpAny_bind (wpAny_typeOf (T:="list") ⟨_,hkp _ _ hx,hc⟩ ?_)
 rw [if_pos (by decide)]
 refine wpAny_bind (keys_none (hkp _ _ hx) hc hdat hd hh fun h1 tk1 k1=>?_)
 simp only [Option.isNone_none,if_true]
 refine wpAny_bind (wpAny_rule ?_)
 refine wpAny_bind (wpAny_pyIter_list (s:={ s with heap:=h1,toks:=tk1 }) ⟨_,k1 _ _ (hkp _ _ hx),hc,k,hdat⟩ ?_)
 have hlt:s.heap.objs.size < h1.objs.size:=Heap.lt_size (k1 _ _ hnew)
 have halt:a < s.heap.objs.size:=Heap.lt_size hx
 have hnf:s.heap.objs.size ∉ [h1.objs.size,a]:=fun hm=>by
  rcases List.mem_cons.mp hm with q | q
  ·exact Nat.ne_of_lt hlt q
  ·exact Nat.ne_of_gt halt (List.mem_singleton.mp q)
 refine wpAny_pure ⟨plainId_quiet plain_upd_loop _,upd_loop (Walks.list (A:=A.in1.in1) hh h1.objs.size a (Nat.ne_of_lt (Nat.lt_trans halt hlt)) xs) s.heap.objs.size hnf (fun i h'=>J i h' /\ ∀ b ob,s.heap.get? b = some ob -> h'.get? b = some ob) ?_ ?_ xs.size 0 _ 0 rfl (Nat.zero_le _) ?_ ?_ ?_⟩
 ·rintro i hp hp' ⟨j,kk⟩ kp
  refine ⟨hfr _ _ _ j fun b ob hb e=>kp b ob (fun hm=>Nat.ne_of_lt (Nat.lt_of_le_of_lt (Nat.le_of_lt_succ hb) hlt) (List.mem_singleton.mp hm)) e,fun b ob e=>kp b ob ?_ (kk b ob e)⟩
  exact fun hm=>Nat.ne_of_lt (Nat.lt_trans (Heap.lt_size e) hlt) (List.mem_singleton.mp hm)
 ·rintro i v s' Q' E' hi hP ⟨j,kk⟩ hq
  refine step i v s' Q' E' hP j kk fun h' tk j' sb=>hq h' tk ⟨j',fun b ob e=>(sb.2 b ?_).trans (kk b ob e)⟩ sb
  exact Nat.ne_of_lt (Heap.lt_size e)
 ·exact ⟨⟨_,Heap.get?_push_size _ rfl,rfl,rfl⟩,⟨_,Heap.get?_push_of_some _ (k1 _ _ (hkp _ _ hx)),hc,k,hdat⟩⟩
 ·exact ⟨hfr _ _ _ (h0 h1 (fun b ob e=>k1 b ob (hkp b ob e)) (k1 _ _ hnew)) fun b ob _ e=>Heap.get?_push_of_some _ e,fun b ob e=>Heap.get?_push_of_some _ (k1 b ob (hkp b ob e))⟩
 ·rintro h' tk ⟨j,kk⟩ _
  exact ⟨rfl,h h' tk j kk⟩
end
end L2
namespace L2
open PySem PySem.Spec PyProof.Rows
theorem Vals.getV:∀ {xs:List V} {us:List Value} {i:Nat} {u:Value},Vals xs us -> us[i]? = some u -> ∃ x,xs[i]? = some x /\ RelV x u
 | _,_,0,_,.cons r _,e=>⟨_,rfl,by cases e; exact r⟩
 | _,_,i + 1,_,.cons _ t,e=>Vals.getV (i:=i) t e
section
variable {X:Cx}
end
end L2
namespace L3
open PySem PySem.Spec L2
mutual
theorem noMix_self:∀ d:D,plainD d = true -> SeqAt.noMix d d = true
 | .none,_=>by simp [SeqAt.noMix]
 | .bool _,_=>by simp [SeqAt.noMix]
 | .int _,_=>by simp [SeqAt.noMix]
 | .str _,_=>by simp [SeqAt.noMix]
 | .list xs,h=>by simp [SeqAt.noMix]; exact noMixAll_self xs (by simpa [plainD] using h)
 | .tuple xs,h=>by simp [SeqAt.noMix]; exact noMixAll_self xs (by simpa [plainD] using h)
 | .dict _,h=>by simp [plainD] at h
theorem noMixAll_self:∀ xs:List D,plainAll xs = true -> SeqAt.noMixAll xs xs = true
 | [],_=>by simp [SeqAt.noMixAll]
 | x :: xs,h=>by
  simp [plainAll] at h
  simp [SeqAt.noMixAll]
  exact ⟨noMix_self x h.1,noMixAll_self xs h.2⟩
end
structure Nice (n:Nat) (d:D):Prop where
 p:plainD d = true
 c:d.canLay0 = true
 d:d.depth <= n
theorem Nice.mono {n m:Nat} {d:D} (h:Nice n d) (k:n <= m):Nice m d:=⟨h.p,h.c,Nat.le_trans h.d k⟩
theorem Nice.int (n:Nat) (i:Int):Nice n (.int i):=⟨rfl,by simp [PyData.canLay0],by simp [PyData.depth]⟩
theorem nice_all {n:Nat}:∀ {l:List D},(∀ d ∈ l,Nice n d) -> plainAll l = true /\ PyData.canLayAll0 l = true /\ PyData.depthAll l <= n
 | [],_=>⟨rfl,by simp [PyData.canLayAll0],by simp [PyData.depthAll]⟩
 | x :: l,h=>by
  have h1:=h x List.mem_cons_self
  have h2:=nice_all (l:=l) fun d hd=>h d (List.mem_cons_of_mem _ hd)
  refine ⟨by simp [plainAll,h1.p,h2.1],by simp [PyData.canLayAll0,h1.c,h2.2.1],?_⟩
  have:=h1.d
  have:=h2.2.2
  simp [PyData.depthAll]
  omega
theorem Nice.list {n:Nat} {l:List D} (h:∀ d ∈ l,Nice n d):Nice (n + 1) (.list l):=by
 obtain ⟨a,b,c⟩:=nice_all h
 exact ⟨by simp [plainD,a],by simp [PyData.canLay0,b],by simp [PyData.depth]; omega⟩
theorem Nice.tuple {n:Nat} {l:List D} (h:∀ d ∈ l,Nice n d):Nice (n + 1) (.tuple l):=by
 obtain ⟨a,b,c⟩:=nice_all h
 exact ⟨by simp [plainD,a],by simp [PyData.canLay0,b],by simp [PyData.depth]; omega⟩
theorem Nice.ints (l:List Int):Nice 1 (.list (l.map PyData.int)):=.list fun d hd=>by
 obtain ⟨i,_,rfl⟩:=List.mem_map.mp hd
 exact .int 0 i
theorem Nice.tup (l:List Int):Nice 1 (.tuple (l.map PyData.int)):=.tuple fun d hd=>by
 obtain ⟨i,_,rfl⟩:=List.mem_map.mp hd
 exact .int 0 i
theorem Nice.sh {n:Nat} {d:D} (h:Nice n d) (k:n <= 64):SeqAt.shaped d = true:=by
 have:=h.d
 unfold SeqAt.shaped
 rw [h.c]
 simp
 omega
end L3
namespace L2
open PySem PySem.Spec PyProof.Rows
noncomputable def rIsi2 (K:PySem.W.Frag):List V -> Hp -> VK -> Prop:=fun xs H Q=>∃ (x:V) (k:Ki) (T:Ki),xs = [x,.ty T.nm] /\ (KiOf K H x k \/ ∃ a,x = .ref a /\ k = .dct /\ IsD H a) /\ Q (.bl (k.sub T)) H
theorem call_isi2 {X:Cx}:CallR X (.builtin "isinstance") (rIsi2 X.K):=by
 intro pins s σ H xs us Q I r h
 obtain ⟨x,k,T,rfl,hk,q⟩:=h
 rcases hk with hk | ⟨a,rfl,rfl,hd⟩
 ·exact call_isi pins s σ H _ us Q I r ⟨x,k,T,rfl,hk,q⟩
 ·obtain ⟨u,w',rfl,ru,rw'⟩:=vals2 r
  obtain rfl:w' = .type T.nm:=rw'
  cases ru
  have ht:s.TypeIs (.ref a) Ki.dct.nm:=(isD_at I hd).1
  cases hs:Ki.dct.sub T with
  | true =>
   rw [hs] at q
   exact call_isinstance (isinstance_true (Tx:=Ki.dct.nm) (ki_meta T) (by rw [ki_sub,hs])) ⟨ht,.bl true,H,I,rfl,q⟩
  | false =>
   rw [hs] at q
   have hsub:isSubtype (.type Ki.dct.nm) (.type T.nm) = pure false:=by rw [ki_sub,hs]
   have hne:=ki_ne Ki.dct T hs
   have fin:EP X pins σ Q (.bool false) { s with toks:=s.toks + 1 }:=⟨.bl false,H,I.tok _,rfl,q⟩
   exact call_isinstance (isinstance_false_dict hne (ki_meta T) hsub) ⟨ht,fin⟩
inductive PrsT (H:Hp):List (V × V) -> List (List Key × V) -> Prop
 | nil:PrsT H [] []
 | cons {b ks v ps kvs}:H b = some (.tup (ks.map kV)) -> PrsT H ps kvs -> PrsT H ((.ref b,v) :: ps) ((ks,v) :: kvs)
section
variable {X:Cx} {pins:List (Addr × Obj)} {σ:St} {a:Addr} {E:Value -> Shared -> Prop}
end
end L2
namespace L3
open PySem PySem.Spec PyProof.Rows L2
noncomputable def notScr:List (D × D) -> Bool
 | (.none,_) :: _=>false
 | (.bool _,_) :: _=>false
 | _=>true
noncomputable def fIsiA (T:Ki):D -> (Sl -> Prop) -> Prop
 | .dict es,Q=>notScr es = true /\ Q (.fz (.bool (Ki.dct.sub T)))
 | d,Q=>Q (.fz (.bool ((kiD d).sub T)))
theorem At.isD {K:Fg} {F H:Hp} {v:V} {es:List (D × D)} (s:Sub F H) (h:At K F H v (.dict es)) (hn:notScr es = true):∃ a,v = .ref a /\ IsD H a:=by
 rcases h with h | ⟨a,o,rfl,_,e,h⟩
 ·cases h with
  | dk r t=>exact ⟨_,rfl,.inl ⟨_,s.rd r⟩⟩
  | dt r t=>exact ⟨_,rfl,.inr ⟨_,s.rd r⟩⟩
  | scr q=>simp [notScr] at hn
  | exc q=>simp [notScr] at hn
  | opq q=>simp [notScr] at hn
 ·cases o <;> first | exact h.elim | exact ⟨_,rfl,.inl ⟨_,.inl e⟩⟩ | exact ⟨_,rfl,.inr ⟨_,.inl e⟩⟩
theorem ok_isiA {K:Fg} {T:Ki}:OpOk K (fun vs H Q=>∃ x,vs = [x] /\ rIsi2 K [x,.ty T.nm] H Q) (o1 (fIsiA T)):=ok1 fun G F σ H ρ x d Q Qd R h1 w k=>by
 have go:∀ (ki:Ki),KiOf K H x ki -> Qd (.fz (.bool (ki.sub T))) -> ∃ x',[x] = [x'] /\ rIsi2 K [x',.ty T.nm] H Q:=fun ki h w=>⟨x,rfl,x,ki,T,rfl,.inl h,k _ H F (.fz _) (Sub.refl _) R (Da.bl _) w⟩
 match d,h1,w with
 | .none,h1,w=>cases h1.none; exact go .non rfl w
 | .bool b,h1,w=>cases h1.bool; exact go .bl rfl w
 | .int i,h1,w=>cases h1.int; exact go .int rfl w
 | .str z,h1,w=>cases h1.str; exact go .str rfl w
 | .list ds,h1,w =>
  obtain ⟨a,us,rfl,e1,d1⟩:=h1.list R.sub
  exact go .lst (.inl ⟨rfl,us,SqL.of e1⟩) w
 | .tuple ds,h1,w =>
  obtain ⟨a,us,rfl,_,e1,d1⟩:=h1.tuple R.sub
  exact go .tup (.inr (.inl ⟨rfl,us,SqT.of e1⟩)) w
 | .dict es,h1,w =>
  obtain ⟨a,rfl,hd⟩:=h1.isD R.sub w.1
  exact ⟨_,rfl,_,.dct,T,rfl,.inr ⟨a,rfl,rfl,hd⟩,k _ H F (.fz _) (Sub.refl _) R (Da.bl _) w.2⟩
noncomputable def rSlHi (K:Fg):R2:=fun x y H Q=>∃ j,y = .int j /\ rSlT K x none (some j) H Q
noncomputable def fSlHi:D -> D -> (Sl -> Prop) -> Prop
 | .tuple ds,.int j,Q=>(if j < 0 then 1 <= ds.length else j < ds.length) /\ Q (.fz (.tuple (ds.take (if j < 0 then (j + ds.length).toNat else j.toNat))))
 | _,_,_=>False
theorem ok_slHi {K:Fg}:OpOk K (r2L (rSlHi K)) (o2 fSlHi):=ok2 fun G F σ H ρ x y d e Q Qd R h1 h2 w k=>by
 match d,e,h1,h2,w with
 | .tuple ds,.int j,h1,h2,w =>
  cases h2.int
  obtain ⟨a,us,rfl,f1,e1,d1⟩:=h1.tuple R.sub
  have hl:=d1.length
  have hs:HT.sIx us.length us.length (some j) = if j < 0 then (j + ds.length).toNat else j.toNat:=by
   show (if j < 0 then (j + (us.length:Int)).toNat else min j.toNat us.length) = _
   have:=w.1
   split at this <;> split <;> omega
  refine ⟨j,rfl,a,us,rfl,SqT.of e1,fun z=>?_,fun p hp=>?_⟩
  ·have z2:=z.2
   rw [hs] at z2
   have:=w.1
   split at this <;> split at z2 <;> omega
  ·have e3:cutV us none (some j) = us.take (if j < 0 then (j + ds.length).toNat else j.toNat):=by
    unfold cutV
    rw [hs]
    rfl
   rw [e3]
   obtain ⟨sb,R',dd⟩:=R.newTup hp (d1.take (if j < 0 then (j + ds.length).toNat else j.toNat))
   exact k _ _ _ (.fz _) sb R' dd w.2
noncomputable def dDNew:TD:=fun ρ Q=>Q (.ow (.dict [])) ρ
theorem l_dnew {K:Fg} {σ:L2.St} {H:Hp} {Q:VK} (h:lift K dDNew σ H Q):tDNewT σ H Q:=by
 obtain ⟨G,F,ρ,Qd,R,w,k⟩:=h
 intro p hp
 obtain ⟨R',r'⟩:=R.newOw (o:=.dT []) (d:=.dict []) hp DaKT.nil
 exact k _ _ F _ ρ (Sub.refl _) R' r' w
section
variable {X:Cx} {K:Fg} {e e1 e2:Expr} {a b:AD} {ta tb:TD} {st:Stmt} {p pos p2 pos' px py pt:Pos} {x y:Str}
theorem w_isiA (T:Ki) (hK:X.K = K) (hm:X.mg "isinstance" = none) {y:Str} (hm2:X.mg y = none) (hv2:bootBuiltins y = some (.type T.nm)) (ha:WE X e1 (argT K a)) (hg:Gl X "isinstance":=by rfl) (hg2:Gl X y:=by rfl) (hy:y ≠ "__name__":=by decide) (hy2:(y == ("__debug__":Str)) = false:=by decide) (he:notStar e1 = true:=by rfl) :
  WE X (.Call (.Name "isinstance" p) [e1,.Name y p2] [] pos) (lift K (dOp [a] (o1 (fIsiA T)))):=by
 subst hK
 exact ⟨peM (pe_callB call_isi2 hg hm boot_isinstance (pa_cons ha.h (pa_cons (pe_bltn hg2 hm2 hv2 (v:=.ty T.nm) rfl hy hy2) pa_nil (starEach_of rfl)) (starEach_of he)) (by decide) (by decide) (starEach_of he) (plain_of rfl)) fun q=>arg1 (P:=fun x H1=>rIsi2 X.K [x,.ty T.nm] H1 _) (l_op ok_isiA q)⟩
theorem w_slHi (hK:X.K = K) (ha:WE X e1 (argT K a)) (hb:WE X e2 (argT K b)):WE X (.Subscript e1 (.Slice none (some e2) none p2) pos) (lift K (dOp [a,b] (o2 fSlHi))):=by
 subst hK
 exact ⟨peM (pe_slice sl_tup ha.h po_none (po_some hb.h)) fun q=>arg2 (P:=fun x y H=>rSlHi X.K x y H _) (l_op ok_slHi q)⟩
theorem w_dnew:WE X (.Dict [] [] pos) (lift K dDNew):=⟨peM pe_dnewT fun q=>l_dnew q⟩
end
end L3
namespace L2
open PySem PySem.Spec PyProof.Rows
section
variable {X:Cx}
theorem op_isB:OpR X (compareOp .Is) (fun x y H Q=>∃ c d,x = .bl c /\ y = .bl d /\ Q (.bl (c == d)) H):=by
 intro pins s σ H x y v u Q I rx ry h
 obtain ⟨c,d,rfl,rfl,q⟩:=h
 cases rx
 cases ry
 exact is_bool ⟨.bl _,H,I,rfl,q⟩
theorem op_isnotB:OpR X (compareOp .IsNot) (fun x y H Q=>∃ c d,x = .bl c /\ y = .bl d /\ Q (.bl (!(c == d))) H):=by
 intro pins s σ H x y v u Q I rx ry h
 obtain ⟨c,d,rfl,rfl,q⟩:=h
 cases rx
 cases ry
 exact isnot_bool ⟨.bl _,H,I,rfl,q⟩
end
end L2
namespace L3
open PySem PySem.Spec PyProof.Rows L2
noncomputable def fIsB:D -> D -> (Sl -> Prop) -> Prop
 | .bool c,.bool d,Q=>Q (.fz (.bool (c == d)))
 | _,_,_=>False
noncomputable def fIsnB:D -> D -> (Sl -> Prop) -> Prop
 | .bool c,.bool d,Q=>Q (.fz (.bool (!(c == d))))
 | _,_,_=>False
theorem ok_isB {K:Fg}:OpOk K (r2L fun x y H Q=>∃ c d,x = .bl c /\ y = .bl d /\ Q (.bl (c == d)) H) (o2 fIsB):=ok2 fun G F σ H ρ x y d e Q Qd R h1 h2 w k=>by
 cases d <;> first | exact w.elim | skip
 cases e <;> first | exact w.elim | skip
 case bool.bool c d =>
  cases h1.bool
  cases h2.bool
  exact ⟨c,d,rfl,rfl,k _ H F (.fz _) (Sub.refl _) R (Da.bl _) w⟩
theorem ok_isnB {K:Fg}:OpOk K (r2L fun x y H Q=>∃ c d,x = .bl c /\ y = .bl d /\ Q (.bl (!(c == d))) H) (o2 fIsnB):=ok2 fun G F σ H ρ x y d e Q Qd R h1 h2 w k=>by
 cases d <;> first | exact w.elim | skip
 cases e <;> first | exact w.elim | skip
 case bool.bool c d =>
  cases h1.bool
  cases h2.bool
  exact ⟨c,d,rfl,rfl,k _ H F (.fz _) (Sub.refl _) R (Da.bl _) w⟩
section
variable {X:Cx} {K:Fg} {x:Str} {pos:Pos}
end
end L3
namespace L3
open PySem PySem.Spec PyProof.Rows L2
noncomputable def rSlHiL (K:Fg):R2:=fun x y H Q=>∃ j,y = .int j /\ rSlL K x none (some j) H Q
noncomputable def rSlLoL (K:Fg):R2:=fun x y H Q=>∃ j,y = .int j /\ rSlL K x (some j) none H Q
noncomputable def fSlHiL:D -> D -> (Sl -> Prop) -> Prop
 | .list ds,.int j,Q=>Q (.ow (.list (ds.take (if j < 0 then (j + ds.length).toNat else j.toNat))))
 | _,_,_=>False
noncomputable def fSlLoL:D -> D -> (Sl -> Prop) -> Prop
 | .list ds,.int j,Q=>Q (.ow (.list (ds.drop (if j < 0 then (j + ds.length).toNat else j.toNat))))
 | _,_,_=>False
theorem sIx_take {α:Type} (us:List α) (j:Int):us.take (HT.sIx us.length us.length (some j)) = us.take (if j < 0 then (j + us.length).toNat else j.toNat):=by
 show us.take (if j < 0 then (j + (us.length:Int)).toNat else min j.toNat us.length) = _
 split
 ·rfl
 ·by_cases h:j.toNat <= us.length
  ·rw [Nat.min_eq_left h]
  ·rw [List.take_of_length_le (by omega),List.take_of_length_le (by omega)]
theorem ok_slHiL {K:Fg}:OpOk K (r2L (rSlHiL K)) (o2 fSlHiL):=ok2 fun G F σ H ρ x y d e Q Qd R h1 h2 w k=>by
 match d,e,h1,h2,w with
 | .list ds,.int j,h1,h2,w =>
  cases h2.int
  obtain ⟨a,us,rfl,e1,d1⟩:=h1.list R.sub
  refine ⟨j,rfl,a,us,rfl,SqL.of e1,fun p hp=>?_⟩
  have e3:cutV us none (some j) = us.take (if j < 0 then (j + ds.length).toNat else j.toNat):=by
   rw [<- d1.length,<- sIx_take]
   rfl
  rw [e3]
  obtain ⟨R',r'⟩:=R.newOw (o:=.lst (us.take (if j < 0 then (j + ds.length).toNat else j.toNat))) (d:=.list (ds.take (if j < 0 then (j + ds.length).toNat else j.toNat))) hp (d1.take _)
  exact k _ _ F _ (Sub.refl _) R' r' w
theorem ok_slLoL {K:Fg}:OpOk K (r2L (rSlLoL K)) (o2 fSlLoL):=ok2 fun G F σ H ρ x y d e Q Qd R h1 h2 w k=>by
 match d,e,h1,h2,w with
 | .list ds,.int j,h1,h2,w =>
  cases h2.int
  obtain ⟨a,us,rfl,e1,d1⟩:=h1.list R.sub
  refine ⟨j,rfl,a,us,rfl,SqL.of e1,fun p hp=>?_⟩
  have hl:=d1.length
  have e3:cutV us (some j) none = us.drop (if j < 0 then (j + ds.length).toNat else j.toNat):=by
   unfold cutV
   show (us.drop (if j < 0 then (j + (us.length:Int)).toNat else min j.toNat us.length)).take (us.length - (if j < 0 then (j + (us.length:Int)).toNat else min j.toNat us.length)) = _
   rw [List.take_of_length_le (by rw [List.length_drop]; omega),hl]
   split
   ·rfl
   ·by_cases h:j.toNat <= us.length
    ·rw [Nat.min_eq_left (by omega)]
    ·rw [List.drop_of_length_le (by omega),List.drop_of_length_le (by omega)]
  rw [e3]
  obtain ⟨R',r'⟩:=R.newOw (o:=.lst (us.drop (if j < 0 then (j + ds.length).toNat else j.toNat))) (d:=.list (ds.drop (if j < 0 then (j + ds.length).toNat else j.toNat))) hp (d1.drop _)
  exact k _ _ F _ (Sub.refl _) R' r' w
noncomputable def fStr:D -> (Sl -> Prop) -> Prop
 | .int i,Q=>i.natAbs.log2 < 1920 /\ Q (.fz (.str (toString i)))
 | _,_=>False
theorem ok_strI {K:Fg}:OpOk K (fun xs H Q=>∃ i,xs = [V.int i] /\ i.natAbs.log2 < 1920 /\ Q (V.str (toString i)) H) (o1 fStr):=ok1 fun G F σ H ρ x d Q Qd R h1 w k=>by
 match d,h1,w with
 | .int i,h1,w=>cases h1.int; exact ⟨i,rfl,w.1,k _ H F (.fz _) (Sub.refl _) R (Da.str _) w.2⟩
section
variable {X:Cx} {K:Fg} {e1 e2:Expr} {a b:AD} {pos p2:Pos}
theorem w_slHiL (hK:X.K = K) (ha:WE X e1 (argT K a)) (hb:WE X e2 (argT K b)):WE X (.Subscript e1 (.Slice none (some e2) none p2) pos) (lift K (dOp [a,b] (o2 fSlHiL))):=by
 subst hK
 exact ⟨peM (pe_slice sl_list ha.h po_none (po_some hb.h)) fun q=>arg2 (P:=fun x y H=>rSlHiL X.K x y H _) (l_op ok_slHiL q)⟩
theorem w_slLoL (hK:X.K = K) (ha:WE X e1 (argT K a)) (hb:WE X e2 (argT K b)):WE X (.Subscript e1 (.Slice (some e2) none none p2) pos) (lift K (dOp [a,b] (o2 fSlLoL))):=by
 subst hK
 exact ⟨peM (pe_slice sl_list ha.h (po_some hb.h) po_none) fun q=>arg2 (P:=fun x y H=>rSlLoL X.K x y H _) (l_op ok_slLoL q)⟩
end
end L3
namespace L2
open PySem PySem.Spec PyProof.Rows
section
variable {prog:Program} {w:World} {A:Around} {E:Value -> Shared -> Prop} {s:Shared}
theorem max_tupD {l:Addr} {xs:Array (Int × Tok)} {Q:Value -> Shared -> Prop} (hh:A.handled = none) (ht:s.heap.IsTuple l (intItems xs)) (hne:0 < xs.size)
  (h:∀ v h' tk,(intItems xs)[argBest (fun i j=>decide (numAt xs i > numAt xs j)) (xs.size - 1)]? = some v -> (∀ b o,s.heap.get? b = some o -> h'.get? b = some o) -> Q v { s with heap:=h',toks:=tk }) :
  wpAny (model prog w) A (call (.builtin "max") [.ref l]) Q E s:=by
 obtain ⟨o,ho,hc,n,hd⟩:=id ht
 have hn:l ≠ s.heap.objs.size:=Nat.ne_of_lt (Heap.lt_size ho)
 refine call_max_walk (wpAny_pyIter_tuple ht ?_)
 refine ⟨s.heap.objs.size,_,_,_,_,_,_,rfl,Walks.tuple (A:=A.in1) hh _ l hn (intItems xs),⟨⟨_,Heap.get?_push_size _ rfl,rfl,rfl⟩,ht.push _⟩,fun b hb=>?_,by simpa [intItems] using hne,CmpOf.ints_gt (numAt xs) (fun _ _=>intItems_at),fun v h' tk hP hk=>?_⟩
 ·rcases List.mem_cons.mp hb with rfl | hb
  ·exact Heap.lt_size (Heap.get?_push_size _ rfl)
  ·obtain rfl:=List.mem_singleton.mp hb
   exact Heap.lt_size (Heap.get?_push_of_some _ ho)
 ·exact h v h' tk (by simpa [intItems] using hP) fun b o e=>hk b o (fun hb=>absurd (Heap.lt_size e) ((List.mem_singleton.mp hb) ▸ Nat.lt_irrefl _)) (Heap.get?_push_of_some _ e)
end
noncomputable def rMxI (K:PySem.W.Frag):List V -> Hp -> VK -> Prop:=fun xs H Q=>∃ (a:Addr) (ns:List Int),xs = [.ref a] /\ (SqL K H a (ns.map V.int) \/ SqT K H a (ns.map V.int)) /\ 0 < ns.length /\ ∀ M,M ∈ ns -> (∀ y ∈ ns,y <= M) -> Q (.int M) H
theorem call_mxI {X:Cx} {K:PySem.W.Frag} (hK:X.K = K) (hc:X.calm = true):CallR X (.builtin "max") (rMxI K):=by
 subst hK
 intro pins s σ H xs us Q I r h
 obtain ⟨a,ns,rfl,hq,hp,q⟩:=h
 obtain ⟨u,rfl,ru⟩:=vals1 r
 cases ru
 have hh:=I.ok.hd hc
 have fin:∀ {its:List Value} {zs:Array (Int × Tok)},Vals (ns.map V.int) its -> its.toArray = intItems zs -> 0 < zs.size /\ ∀ (v:Value) (h':Heap) (tk:Nat),(intItems zs)[argBest (fun i j=>decide (numAt zs i > numAt zs j)) (zs.size - 1)]? = some v -> (∀ b o,s.heap.get? b = some o -> h'.get? b = some o) -> EP X pins σ Q v { s with heap:=h',toks:=tk }:=by
  intro its zs rv e
  have hi:IntsAre its ns:=intsAre_of rv
  have hns:ns = zs.toList.map (·.1):=by rw [<- nums_intItems,<- e]; exact (show numsOf its.toArray.toList = ns from hi.numsOf).symm
  have hsz:0 < zs.size:=by have h3:=hp; rw [hns,List.length_map,Array.length_toList] at h3; exact h3
  refine ⟨hsz,fun v h' tk hv hk=>?_⟩
  obtain ⟨t,rfl⟩:=intItems_at hv
  obtain ⟨h1,h2⟩:=argBest_gt (numAt zs) (zs.size - 1)
  refine ⟨.int _,H,I.kept hk,⟨t,rfl⟩,q _ ?_ fun y hy=>?_⟩
  ·rw [hns,numAt_eq]; exact getD_mem (by rw [List.length_map,Array.length_toList]; omega)
  ·rw [hns] at hy
   obtain ⟨j,hj,rfl⟩:=mem_getD hy
   rw [List.length_map,Array.length_toList] at hj
   rw [<- numAt_eq]; exact h2 j (by omega)
 rcases hq with hq | hq
 ·obtain ⟨its,rv,p,hz⟩:=I.list hq
  obtain ⟨zs,hx⟩:=(intsAre_of rv).allInts.items
  obtain ⟨hs,f⟩:=fin rv hx
  exact max_intList hh (hx ▸ p.isList) hs f
 ·obtain ⟨its,rv,p,hz⟩:=I.tuple hq
  obtain ⟨zs,hx⟩:=(intsAre_of rv).allInts.items
  obtain ⟨hs,f⟩:=fin rv hx
  exact max_tupD hh (show s.heap.IsTuple a (intItems zs) from hx ▸ p) hs f
end L2
namespace L3
open PySem PySem.Spec PyProof.Rows L2
section
variable {K:Fg} {σ:L2.St} {H:Hp} {v:V} {Q:L2.St -> Hp -> Prop}
end
noncomputable def fMnI:D -> (Sl -> Prop) -> Prop
 | .list ds,Q=>∃ ns:List Int,ds = ns.map PyData.int /\ 0 < ns.length /\ ∀ M,M ∈ ns -> (∀ y ∈ ns,M <= y) -> Q (.fz (.int M))
 | .tuple ds,Q=>∃ ns:List Int,ds = ns.map PyData.int /\ 0 < ns.length /\ ∀ M,M ∈ ns -> (∀ y ∈ ns,M <= y) -> Q (.fz (.int M))
 | _,_=>False
noncomputable def fMxI:D -> (Sl -> Prop) -> Prop
 | .list ds,Q=>∃ ns:List Int,ds = ns.map PyData.int /\ 0 < ns.length /\ ∀ M,M ∈ ns -> (∀ y ∈ ns,y <= M) -> Q (.fz (.int M))
 | .tuple ds,Q=>∃ ns:List Int,ds = ns.map PyData.int /\ 0 < ns.length /\ ∀ M,M ∈ ns -> (∀ y ∈ ns,y <= M) -> Q (.fz (.int M))
 | _,_=>False
theorem ok_mxI {K:Fg}:OpOk K (rMxI K) (o1 fMxI):=ok1 fun G F σ H ρ x d Q Qd R h1 w k=>by
 match d,h1,w with
 | .list ds,h1,⟨ns,e,hp,w⟩ =>
  subst e
  obtain ⟨a,us,rfl,e1,d1⟩:=h1.list R.sub
  have:=d1.intsV
  subst this
  exact ⟨a,ns,rfl,.inl (SqL.of e1),hp,fun M m1 m2=>k _ H F (.fz _) (Sub.refl _) R (Da.int _) (w M m1 m2)⟩
 | .tuple ds,h1,⟨ns,e,hp,w⟩ =>
  subst e
  obtain ⟨a,us,rfl,_,e1,d1⟩:=h1.tuple R.sub
  have:=d1.intsV
  subst this
  exact ⟨a,ns,rfl,.inr (SqT.of e1),hp,fun M m1 m2=>k _ H F (.fz _) (Sub.refl _) R (Da.int _) (w M m1 m2)⟩
end L3
namespace L3
open PySem PySem.Spec L2
section
variable {K:Fg} {G:Gh} {F F' H H':Hp} {σ:L2.St} {ρ:Ev}
noncomputable def okRes:Sl -> Bool
 | .fz d=>noMut d
 | .ow (.list ds)=>noMutAll ds
 | _=>false
noncomputable def dCallL (con:Con) (as:List AD):TD:=fun ρ Q=>dArgs as ρ fun xs ρ1=>looksQ ρ1 xs fun ds=>con (ds.map Sl.fz) fun r _=>okRes r = true /\ Q r ρ1
theorem Res.calledL {xs:List Opd} (R:Rel K G F σ H ρ) {σ1:L2.St} {ρ1:Ev} {v:V} {r:Sl} (R':Rel K ⟨H,lend σ ρ xs F H,fun _=>none⟩ F' σ1 H' ρ1) (q:Res K ⟨H,lend σ ρ xs F H,fun _=>none⟩ F' H' σ1 ρ1 v r)
  (hl:okRes r = true):Res K G (unlend σ ρ xs F') H' σ ρ v r:=by
 have tp:∀ b ys,F' b = some (.tup ys) -> unlend σ ρ xs F' b = some (.tup ys):=fun b ys e=>by
  have n:¬ LentA σ ρ xs b:=fun z=>by
   obtain ⟨_,_,o,_,_,_,_,h,w⟩:=z.own R
   have e2:=R'.sub0 b o (by show lend σ ρ xs F H b = some o; rw [lend_is z]; exact h)
   rw [e] at e2; cases e2
   exact w
  rw [unlend_not n]; exact e
 cases r with
 | fz d=>exact Da.noMut tp q hl
 | io d=>exact q.elim
 | ow d =>
  obtain ⟨a,o,h1,h2,h3,h4,h5,_⟩:=q
  have h5:H a = none:=h5
  have nl:¬ LentA σ ρ xs a:=fun z=>by
   obtain ⟨_,_,o,_,_,_,_,h,w⟩:=z.own R
   rw [h5] at h; cases h
  refine ⟨a,o,h1,by rw [unlend_not nl]; exact h2,h3,?_,R.h0 h5,fun i s es w z=>?_⟩
  ·cases d with
   | list ds =>
    cases o with
    | lst ys=>exact DaAll.noMut tp h4 hl
    | _=>exact h4.elim
   | _=>cases hl
  ·obtain ⟨a',o',g1,_,g3,_⟩:=R.ow i s es w
   rw [z] at g1; cases g1
   rw [h5] at g3; cases g3
theorem l_callL {con:Con} {as:List AD} {E:XK} {Q:VK} (h:lift K (dCallL con as) σ H Q):tCall (conSp K con) [] E (tArgs (as.map (argT K))) σ H Q:=by
 obtain ⟨G,F,ρ,Qd,R,w,k⟩:=h
 refine args_ok R w fun vs H1 F1 xs ρ1 s1 R1 o w1=>?_
 obtain ⟨ds,da,w1⟩:=lend_looks (xs:=xs) R1 (fun y hy=>hy) o w1
 rw [List.append_nil]
 refine ⟨_,_,ds.map Sl.fz,_,rel_call (lend_le R1) da,w1,fun v H' F' r ρ' s' R' r' q=>?_⟩
 obtain ⟨sb,R2⟩:=R1.called R'
 exact k v H' _ r ρ1 (s1.trans sb) R2 (Res.calledL R1 R' r' q.1) q.2
end
section
variable {X:Cx} {K:Fg} {e:Expr} {es:List Expr} {as:List AD} {x:Str} {p pos:Pos}
theorem w_fnL {k:Nat} {ps:List Str} {con:Con} (C:Cal X.prog X.w X.K X.mg X.base k x ps (conSp K con)) (hr:Room k X.A) (ha:WA X (e :: es) (tArgs (as.map (argT K)))) (hg:Gl X x:=by rfl) (hdb:(x == ("__debug__":Str)) = false:=by decide)
  (he:notStar e = true:=by rfl) (hpl:es.all notStar = true:=by rfl):WE X (.Call (.Name x p) (e :: es) [] pos) (lift K (dCallL con as)):=⟨peM (pe_fn C hr ha.h hg hdb (starEach_of he) (plain_of hpl)) l_callL⟩
end
end L3
namespace L2
open PySem PySem.Spec PyProof.Rows
theorem draws_at {P:Program} {w:World} {A:Around} (hh:A.handled = none) {k:Kd} {it l:Addr} (ne:l ≠ it) {xs:Array Value} :
  Draws P w A it [it,l] xs.size (fun i x=>xs[i]? = some x) (fun i h=>ItAt k h it l i /\ SqAt k h l xs) where
 live:=fun i h st=>by obtain ⟨o,e,_⟩:=st.1.obj; exact ⟨o,e⟩
 frame:=fun i h h' st kp=>⟨st.1.at fun o e=>kp it (by simp) o e,st.2.at fun o e=>kp l (by simp) o e⟩
 item:=fun i s Q E hi st hQ=>by
  refine nextOf_item st.1 st.2 (Array.getElem?_eq_getElem hi) fun h' t' s'=>?_
  exact hQ _ h' s.toks (Array.getElem?_eq_getElem hi) ⟨t',st.2.at fun o e=>(s'.2 l ne).trans e⟩ s'
 done:=fun s Q E st hE=>nextOf_end hh st.1 st.2 (by simp) hE
noncomputable def Ite (K:PySem.W.Frag) (k:Kd) (l:Addr):It :=
 ⟨fun i H=>∃ ys x,Sq k K H l ys /\ ys[i]? = some x,
  fun i H x H'=>∃ T y,H T = none /\ x = .ref T /\ H' = upd H T (.tup [.int (i:Nat),y]) /\ ∀ ys,Sq k K H l ys -> ys[i]? = some y,
  fun i H=>∃ ys,Sq k K H l ys /\ ys.length <= i⟩
theorem turn_enum {P:Program} {w:World} {K:PySem.W.Frag} {es:List Expr} {kk:Nat} {pos:Pos} (k:Kd) (e it l:Addr) (ne:e ≠ it) (nl:l ≠ it) (nel:e ≠ l):Turn P w K (.Tuple es kk pos) (Ite K k l) [e,it] e
  (fun i h=>(∃ old,IsEnum h e it (i:Nat) old) /\ ItAt k h it l i) where
 mem:=by simp
 obj:=fun i h st b hb=>by
  obtain ⟨⟨old,he⟩,t⟩:=st
  have hb:b = e \/ b = it:=by simpa using hb
  rcases hb with rfl | rfl
  ·exact ⟨_,he,fun v e=>by cases e⟩
  ·exact t.obj
 keep:=fun i h h' st kp=>by
  obtain ⟨⟨old,he⟩,t⟩:=st
  exact ⟨⟨old,kp _ (by simp) _ he⟩,t.at fun o e=>kp _ (by simp) _ e⟩
 item:=by
  intro X hP hw hK hc i pins s σ H E I hf st hg
  subst hP hw hK
  obtain ⟨⟨old,he⟩,t⟩:=st
  obtain ⟨ys,y,q1,e1⟩:=hg
  obtain ⟨its,rv,p1,z1⟩:=I.sq q1
  obtain ⟨u,hu,ru⟩:=rv.get e1
  have hh:X.A.in1.handled = none:=I.ok.hd hc
  have hlt:i < its.toArray.size:=by
   have:=(List.getElem?_eq_some_iff.mp hu).1
   simpa using this
  refine wpAny_pyNext_enum_itemD (draws_at hh nl (k:=k) (xs:=its.toArray)) he ⟨t,p1⟩ hlt ne (by simp [ne,nel]) fun x h' tk hx b1 b2 b3 b4 b5=>?_
  have hx:x = u:=by
   rw [show its.toArray[i]? = some u by simpa using hu] at hx
   exact (Option.some.inj hx).symm
  subst hx
  have hTn:s.heap.objs.size ≠ e:=Nat.ne_of_gt (Heap.lt_size he)
  refine ⟨_,rfl,wpAny_letOwnedTupleGo_enum (s:={ s with heap:=h',toks:=tk + 1 }) b1 fun h2 he2 hs2=>?_⟩
  have kp:∀ b o,b ∉ [e,it] -> s.heap.get? b = some o -> h2.get? b = some o:=fun b o hb eb=>by
   have hb:b ≠ e /\ b ≠ it:=by simpa using hb
   exact hs2.extBut _ _ hb.1 (b5 b o hb.1 hb.2 eb)
  have hT2:IsTup2 h2 s.heap.objs.size (.int (i:Nat) tk) x:=hs2.extBut _ _ hTn b3
  have hfr:H s.heap.objs.size = none:=I.hok.fresh (Nat.le_refl _)
  have I2:Inv X pins σ (upd H s.heap.objs.size (.tup [.int (i:Nat),y])) { s with heap:=h2 }:=by
   have nfp:∀ b u,H b = some u -> b ∉ [e,it]:=fun b u eb hb=>by have:=(hf b hb).1; rw [eb] at this; cases this
   refine I.step (g':=s.gens) (d':=s.drawn) (ch:=[e,it]) (fun b hb=>?_) (fun b o _ _ hc' eb _=>kp b o hc' eb) (fun b o _ _ hc' eb _=>⟨o.slots,kp b o hc' eb⟩) (fun b o _ eb n=>?_)
    (fun b o hc' eb=>⟨o,kp b o hc' eb⟩) (fun b xs eb=>?_) (fun b o xs eb=>?_) (fun b ps eb=>⟨#[],?_⟩) (fun m hm=>?_) (fun b o eb=>?_) I.bare
   ·obtain ⟨f0,f1,f2,f3,f4,f5⟩:=hf b hb
    exact ⟨f3,f1,f4,f5⟩
   ·rw [upd_ne (Nat.ne_of_lt (Heap.lt_size eb))]; exact n
   ·rw [upd_ne (ne_of_none eb hfr)]; exact eb
   ·rw [upd_ne (ne_of_none eb hfr)]; exact eb
   ·rw [upd_ne (ne_of_none eb hfr),eb]; simp
   ·obtain ⟨o,es',ep,ho,r⟩:=hm
    exact ⟨o,es',ep,kp _ o (fun hb=>(hf _ hb).2.1 rfl) ho,r⟩
   ·by_cases hb:b = s.heap.objs.size
    ·subst hb
     rw [upd_same] at eb
     cases eb
     exact ⟨by show 2 <= sizeLine; decide,[.int (i:Nat) tk,x],.cons ⟨tk,rfl⟩ (.cons ru .nil),_,hT2,rfl,_,rfl,rfl⟩
    ·rw [upd_ne hb] at eb
     refine (I.hok b o eb).stay (fun c v hc' q=>kp c v ?_ q) (fun c q=>by rw [upd_ne (ne_of_none q hfr)]; exact q) fun c xs q=>by rw [upd_ne (ne_of_none q hfr)]; exact q
     rcases hc' with rfl | hc'
     ·exact nfp _ _ eb
     ·exact nfp _ _ hc'
  refine ⟨.ref s.heap.objs.size,_,I2.tok (tk + 1),rfl,⟨_,y,hfr,rfl,rfl,fun ys' hy=>by rw [I.sq_inj hy q1]; exact e1⟩,⟨⟨x,by simpa using he2⟩,b2.1.at fun o eo=>hs2.extBut _ _ (Ne.symm ne) eo⟩,fun b hb=>?_⟩
  rw [upd_ne ?_]
  ·exact (hf b hb).1
  ·intro z
   subst z
   have hb:s.heap.objs.size = e \/ s.heap.objs.size = it:=by simpa using hb
   rcases hb with z | z
   ·exact hTn z
   ·obtain ⟨o,eo,_⟩:=t.obj
    exact Nat.ne_of_gt (Heap.lt_size eo) z
 done:=by
  intro X hP hw hK hc i pins s σ H E I hf st hg
  subst hP hw hK
  obtain ⟨⟨old,he⟩,t⟩:=st
  obtain ⟨ys,q1,hend⟩:=hg
  obtain ⟨its,rv,p1,z1⟩:=I.sq q1
  have hlen:=rv.length
  have hh:X.A.in1.handled = none:=I.ok.hd hc
  have hT:s.TypeIs (.ref e) "enumerate":=⟨_,he,rfl⟩
  unfold pyNext
  refine wpAny_bind (wpAny_attempt (wpAny_callSpecial?_slot (name:=Str.ofString "__next__") hT F.slot_enumerate_next (wpAny_call_entry F.slot_enumerate_next hT F.entry_enumerate_next ?_ (F.args_enumerate_next_1 _))))
  show wpAny _ _ (field (.ref e) 2 >>= _) _ _ _
  refine wpAny_bind (wpAny_field he rfl (x:=.ref it) rfl ?_)
  refine wpAny_bind (nextOf_end hh t p1 (by simp; omega) fun h' x kp hx'=>?_)
  obtain ⟨o,ho,hcl⟩:=hx'
  refine wpAny_bind (wpAny_isInstance (T:="StopIteration") (b:=true) ⟨o,ho,hcl⟩ isSubtype_stop ?_)
  refine wpAny_pure ⟨rfl,?_⟩
  have nfp:∀ b u,H b = some u -> b ∉ [e,it]:=fun b u eb hb=>by have:=(hf b hb).1; rw [eb] at this; cases this
  have kp':∀ b o,b ∉ [e,it] -> s.heap.get? b = some o -> h'.get? b = some o:=fun b o hb eb=>by
   have hb:b ≠ e /\ b ≠ it:=by simpa using hb
   exact kp b o hb.2 eb
  refine I.step (g':=s.gens) (d':=s.drawn) (ch:=[e,it]) (fun b hb=>?_) (fun b o _ _ hc' eb _=>kp' b o hc' eb) (fun b o _ _ hc' eb _=>⟨o.slots,kp' b o hc' eb⟩) (fun b o _ eb n=>n)
   (fun b o hc' eb=>⟨o,kp' b o hc' eb⟩) (fun b xs eb=>eb) (fun b o xs eb=>eb) (fun b ps eb=>⟨#[],by rw [eb]; simp⟩) (fun m hm=>?_) (fun b o eb=>?_) I.bare
  ·obtain ⟨f0,f1,f2,f3,f4,f5⟩:=hf b hb
   exact ⟨f3,f1,f4,f5⟩
  ·obtain ⟨o,es',ep,ho,r⟩:=hm
   exact ⟨o,es',ep,kp' _ o (fun hb=>(hf _ hb).2.1 rfl) ho,r⟩
  ·refine (I.hok b o eb).stay (fun c v hc' q=>kp' c v ?_ q) (fun _ q=>q) fun _ _ q=>q
   rcases hc' with rfl | hc'
   ·exact nfp _ _ eb
   ·exact nfp _ _ hc'
 self:=fun _ _ _ _ _ st h=>by obtain ⟨⟨old,he⟩,_⟩:=st; exact wpAny_pyIter_enum he h
noncomputable abbrev enZ (h:Heap) (k:Kd) (l:Addr):Heap:=(h.push (itObj k l)).push { cls:=.type "enumerate",data:=.fields #[.none,.bool false,.ref h.objs.size,rawInt 0,.none,.none] }
theorem enum_new (k:Kd) (l:Addr) (xs:Array Value) :
  Meets (Builtin.«enumerate.__new__» ⟨[.type "enumerate",.ref l],[]⟩) (fun _ R s=>SqAt k s.heap l xs /\ R (.ok (.ret (.ref (s.heap.push (itObj k l)).objs.size))) { s with heap:=enZ s.heap k l }) :=
 .of_wp fun prog w A R s h=>by
  obtain ⟨hp,g,d,tk,os⟩:=s; obtain ⟨hl,h⟩:=h
  have hsub:=sub_enumerate
  have hL:SqAt k (Shared.heap ⟨hp,g,d,tk,os⟩) l xs:=hl
  obtain ⟨o,ho⟩:∃ o,hp.get? l = some o:=by cases k <;> (obtain ⟨o,eo,_⟩:=hl; exact ⟨o,eo⟩)
  wp_walk using AutoSeq1.wpAny_loadPart' ho
  refine wpAny_stack_any fun st=>wpAny_pure ?_
  split
  ·rename_i c _ _ _ _ _
   cases (c == Value.type "enumerate")
   ·wp_walk using AutoSeq1.wpAny_loadPart' ho,iter_at hL
    exact ⟨_,rfl,h⟩
   ·wp_walk using AutoSeq1.wpAny_loadPart' ho,iter_at hL
    exact ⟨_,rfl,h⟩
  ·wp_walk using AutoSeq1.wpAny_loadPart' ho,iter_at hL
   exact ⟨_,rfl,h⟩
noncomputable def iEnum (K:PySem.W.Frag) (ta:TA):TI:=fun σ H R=>ta σ H fun vs H1=>∃ (k:Kd) (l:Addr) (ys:List V),vs = [.ref l] /\ Sq k K H1 l ys /\ R (Ite K k l) H1
theorem pi_enum {X:Cx} {es:List Expr} {kk:Nat} {tpos:Pos} {a:Expr} {ta:TA} {p pos:Pos} (hg:Gl X "enumerate") (hm:X.mg "enumerate" = none) (ha:PA X [a] ta) (hs:starEach [a] X.env = (false,eval a X.env) :: starEach [] X.env:=by rfl) (hpl:(backTo pos (starEach [] X.env)).any (·.1) = false:=by rfl) :
  PI X (.Tuple es kk tpos) (.Call (.Name "enumerate" p) [a] [] pos) (iEnum X.K ta):=by
 intro pins s σ H R I h
 refine Call_ (ld_blt I hg hm boot_enumerate (PyProof.Rows.callWith_type1 (thn (ha pos pins s σ H _ I h) fun us s1 ⟨vs,H1,I1,r1,q1⟩=>?_) hs hpl))
 obtain ⟨k,l,ys,e,q1,q⟩:=q1
 subst e
 obtain rfl:us = [.ref l]:=by cases r1 with | cons r rr=>cases r; cases rr; rfl
 obtain ⟨its,rv,p1,z1⟩:=I1.sq q1
 have lt:l < s1.heap.objs.size:=by
  cases k with
  | l=>obtain ⟨o,e,_⟩:=p1; exact Heap.lt_size e
  | t=>obtain ⟨o,e,_⟩:=p1; exact Heap.lt_size e
 refine callType_new F.called_enumerate (by decide) (F.typeCall_enumerate_1 _) (F.newCall_enumerate_1 _) (fun obj=>F.args_object_init_2 obj _) F.entry_enumerate_new (enum_new k l its.toArray) ⟨p1,?_⟩
 have zI:(s1.heap.push (itObj k l)).objs.size = s1.heap.objs.size + 1:=by simp [Heap.size_push]
 have gE:(enZ s1.heap k l).get? (s1.heap.push (itObj k l)).objs.size = some _:=Heap.get?_push_size _ rfl
 have g1:(enZ s1.heap k l).get? s1.heap.objs.size = some (itObj k l):=Heap.get?_push_of_some _ (Heap.get?_push_size _ (by cases k <;> rfl))
 rw [zI] at gE
 show _ /\ _
 rw [zI]
 have kp:∀ b o,s1.heap.get? b = some o -> (enZ s1.heap k l).get? b = some o:=fun b o e=>Heap.get?_push_of_some _ (Heap.get?_push_of_some _ e)
 refine ⟨⟨_,gE,rfl⟩,wpAny_pyIter_enum (s:={ s1 with heap:=enZ s1.heap k l }) gE ?_⟩
 have n1:(s1.heap.objs.size + 1:Nat) ≠ s1.heap.objs.size:=by omega
 have n2:l ≠ s1.heap.objs.size:=Nat.ne_of_lt lt
 have n3:(s1.heap.objs.size + 1:Nat) ≠ l:=Nat.ne_of_gt (Nat.lt_succ_of_lt lt)
 refine ⟨_,[s1.heap.objs.size + 1,s1.heap.objs.size],_,_,H1,rfl,I1.kept (t':=s1.toks) kp,turn_enum k _ _ l n1 n2 n3,⟨⟨_,gE⟩,ItAt.new k g1⟩,fun b hb=>?_,q⟩
 have hb:s1.heap.objs.size <= b:=by
  have hb:b = s1.heap.objs.size + 1 \/ b = s1.heap.objs.size:=by simpa using hb
  rcases hb with rfl | rfl
  ·exact Nat.le_add_right _ _
  ·exact Nat.le_refl _
 exact I1.fpOk hb (I1.hok.fresh hb)
end L2
namespace L3
open PySem PySem.Spec PyProof.Rows L2
noncomputable def enumD (ds:List D):List D:=ds.zipIdx.map fun p=>PyData.tuple [.int (p.2:Nat),p.1]
noncomputable def dIEnum (a:AD):TDI:=fun ρ Q=>dArgs [a] ρ fun xs ρ1=>match lentAny ρ1 xs with
 | false=>looksQ ρ1 xs fun ds=>match ds with
  | [x]=>match seqD x with
   | some us=>Q (enumD us) ρ1
   | _=>False
  | _=>False
 | true=>False
theorem walks_enum {K:Fg} {F:Hp} {a:Addr} {k1:Kd} {xs:List V} {ds:List D} (e1:F a = some (match k1 with | Kd.l=>HO.lst xs | Kd.t=>HO.tup xs)) (h1:DaAll K F xs ds):Walks K (Ite K k1 a) F (enumD ds):=fun i H F1 s1 s2=>by
 have q1:Sq k1 K H a xs:=sq_of (s2 _ _ (s1 _ _ e1))
 refine ⟨fun d ed=>?_,fun hl=>⟨xs,q1,?_⟩⟩
 ·simp only [enumD,List.getElem?_map,Option.map_eq_some_iff] at ed
  obtain ⟨⟨x,j⟩,ez,rfl⟩:=ed
  rw [List.getElem?_zipIdx,Option.map_eq_some_iff] at ez
  obtain ⟨x',ex,ep⟩:=ez
  cases ep
  obtain ⟨v,g1,g2⟩:=h1.get ex
  refine ⟨⟨xs,v,q1,g1⟩,fun z H' ⟨T,y,hT,ex,eH,f1⟩=>?_⟩
  subst ex eH
  have f1:=f1 xs q1
  rw [g1] at f1; cases f1
  have fT:F1 T = none:=by
   cases z:F1 T with
   | none=>rfl
   | some o=>rw [s2 _ _ z] at hT; cases hT
  refine ⟨upd F1 T (.tup [.int (i:Nat),v]),Sub.new fT,fun c o ec=>?_,fun c o ec=>?_,Sub.new hT,.tup upd_same (.cons (by rw [Nat.zero_add]; exact .int _) (.cons (g2.mono (s1.trans (Sub.new fT))) .nil))⟩
  ·by_cases z:c = T
   ·subst z; exact .inr hT
   ·rw [upd_ne z] at ec; exact .inl ec
  ·by_cases z:c = T
   ·subst z; rw [upd_same] at ec ⊢; exact ec
   ·rw [upd_ne z] at ec ⊢; exact s2 _ _ ec
 ·simp only [enumD,List.length_map,List.length_zipIdx] at hl
  rw [h1.length]
  omega
theorem l_enum {K:Fg} {a:AD} {σ:L2.St} {H:Hp} {R:It -> Hp -> Prop} (h:liftI K (dIEnum a) σ H R):iEnum K (tArgs ([a].map (argT K))) σ H R:=by
 obtain ⟨G,F,ρ,Qd,Rl,w,k⟩:=h
 refine args_ok Rl w fun vs H' F' xs ρ' sb R' o w1=>?_
 split at w1
 ·rename_i e
  obtain ⟨ds,da,w1⟩:=noLent_looks R' e o w1
  split at w1
  ·rename_i x
   split at w1
   ·rename_i us p1
    cases da with
    | cons d1 t =>
     cases t
     obtain ⟨k1,a1,us',rfl,e1,g1⟩:=seqF_of d1 p1
     exact ⟨k1,a1,us',rfl,sq_of (R'.sub _ _ e1),k _ H' F' _ ρ' sb R' (walks_enum e1 g1) w1⟩
   ·exact w1.elim
  ·exact w1.elim
 ·exact w1.elim
section
variable {X:Cx} {K:Fg} {e1:Expr} {a:AD} {p pos tpos:Pos}
theorem i_enum {ts:List Expr} {kk:Nat} (hK:X.K = K) (hm:X.mg "enumerate" = none) (ha:WA X [e1] (tArgs ([a].map (argT K)))) (hg:Gl X "enumerate":=by rfl) (he:notStar e1 = true:=by rfl):WI X (.Tuple ts kk tpos) (.Call (.Name "enumerate" p) [e1] [] pos) (liftI K (dIEnum a)):=by
 subst hK
 exact ⟨piM (pi_enum hg hm ha.h (starEach_of he) (by rfl)) l_enum⟩
end
end L3
namespace L2
open PySem PySem.Spec PyProof.Rows
end L2
namespace L3
open PySem PySem.Spec PyProof.Rows L2
noncomputable def fRevL:D -> D -> (Sl -> Prop) -> Prop
 | .list ds,.int j,Q=>j = -1 /\ Q (.ow (.list ds.reverse))
 | _,_,_=>False
noncomputable def dSetIx2 (j i1 i2:Nat) (te:TD):TDS:=fun E ρ=>te ρ fun r ρ1=>match r.d,ρ1[j]?,ρ1[i1]?,ρ1[i2]? with
 | .tuple [x,y],some (some s),some (some (.fz (.int k1))),some (some (.fz (.int k2)))=>match s.d,isOw s with
  | .list es,true=>∃ n1 n2,ixN es.length k1 = some n1 /\ ixN es.length k2 = some n2 /\ E.nx (ρ1.set j (some (s.put (.list ((es.set n1 x).set n2 y)))))
  | _,_=>False
 | _,_,_,_=>False
theorem l_setIx2 {K:Fg} {j i1 i2:Nat} {te:TD} {σ:L2.St} {H:Hp} {E:Ends} (h:liftS K (dSetIx2 j i1 i2 te) E σ H):tAsg (lift K te) (gTup K 2 (gCons (gSub (tVar j) (tVar i1) rSetL) (gCons (gSub (tVar j) (tVar i2) rSetL) gNil))) E σ H:=by
 obtain ⟨G,F,ρ,D,R,w,n,r,b,c⟩:=h
 refine ⟨G,F,ρ,_,R,w,fun v H1 F1 x ρ1 s1 R1 r1 w1=>?_⟩
 obtain ⟨F2,s2,R2,d2⟩:=r1.frz R1
 split at w1
 rotate_left
 ·exact w1.elim
 rename_i x1 x2 s k1 k2 e0 e1 e2 e3
 split at w1
 rotate_left
 ·exact w1.elim
 rename_i es p1 p2
 obtain ⟨n1,n2,g1,g2,w2⟩:=w1
 rw [e0] at d2
 cases d2 with
 | tup ea ta =>
  rename_i a xs
  cases ta with
  | cons t1 ta =>
   cases ta with
   | cons t2 ta =>
    cases ta
    rename_i v1 v2
    obtain ⟨u1,eu1,du1⟩:=R2.fz i1 _ e2
    obtain ⟨u2,eu2,du2⟩:=R2.fz i2 _ e3
    cases du1
    cases du2
    obtain ⟨l,o,h1,h2,h3,h4⟩:=R2.ow j s e1 p2
    rw [p1] at h4
    have hl:∃ us,o = .lst us /\ DaAll K F2 us es:=by cases o <;> first | exact h4.elim | exact ⟨_,rfl,h4⟩
    obtain ⟨us,rfl,h4⟩:=hl
    refine ⟨a,_,rfl,SqT.of (R2.sub _ _ ea),rfl,v1,_,rfl,_,h1,_,eu1,l,us,k1,n1,rfl,rfl,h3,by rw [h4.length]; exact g1,?_⟩
    refine ⟨v2,_,rfl,_,h1,_,eu2,l,us.set n1 v1,k2,n2,rfl,rfl,upd_same,by rw [List.length_set,h4.length]; exact g2,rfl,?_⟩
    rw [upd_upd]
    have R4:=R2.change (o':=.lst ((us.set n1 v1).set n2 v2)) (d':=.list ((es.set n1 x1).set n2 x2)) e1 p2 h1 ((h4.set t1 n1).set t2 n2)
    exact n σ _ F2 _ (s1.trans s2) R4 w2
section
variable {X:Cx} {K:Fg} {e e1 e2 e3 e4:Expr} {a b:AD} {td:TD} {pos p2 pos' p1 pt:Pos}
theorem s_ix2 {j i1 i2 kk:Nat} (hc:X.calm = true) (hK:X.K = K) (he:WE X e (lift K td)) (h1:WE X e1 (argT K (.inl j))) (h2:WE X e2 (argT K (.inl i1))) (h3:WE X e3 (argT K (.inl j))) (h4:WE X e4 (argT K (.inl i2)))
  (hs:swapsWithSole [.Tuple [.Subscript e1 e2 p1,.Subscript e3 e4 p2] kk pt] e pos.line X.env = pure false:=by rfl) (hw:swappedStores [.Tuple [.Subscript e1 e2 p1,.Subscript e3 e4 p2] kk pt] e X.env = pure none:=by rfl)
  (ha:∀ v,assign (.Subscript e1 e2 p1) X.env v = (do
    let ov <- holding [v] (eval e1 X.env)
    let iv <- holding [v,ov] (eval e2 X.env)
    standAt p1
    holding [v,ov,iv] (setItem ov iv v)
    release [v,ov,iv] []):=by intro _; rfl)
  (hb:∀ v,assign (.Subscript e3 e4 p2) X.env v = (do
    let ov <- holding [v] (eval e3 X.env)
    let iv <- holding [v,ov] (eval e4 X.env)
    standAt p2
    holding [v,ov,iv] (setItem ov iv v)
    release [v,ov,iv] []):=by intro _; rfl) :
  WS X (.Assign [.Tuple [.Subscript e1 e2 p1,.Subscript e3 e4 p2] kk pt] e pos) (liftS K (dSetIx2 j i1 i2 td)) :=
 ⟨psM (ps_asg he.h (pg_tupK hK hc (pgs_cons (pg_sub h1.h h2.h set_list ha) (pgs_cons (pg_sub h3.h h4.h set_list hb) pgs_nil (by rfl)) (by rfl)) (by rfl) (by rfl)) hs hw (by rfl)) l_setIx2⟩
end
end L3
namespace L2
open PySem PySem.Spec PyProof.Rows
end L2
namespace L3
open PySem PySem.Spec PyProof.Rows L2
theorem gnC {i:Nat} {d:D} {ρ:Ev} {Q:Ev -> Prop} (h:dGN i d ρ Q = Q (ρ.set i (some (.fz d)))) (w:Q (ρ.set i (some (.fz d)))):dGN i d ρ Q:=by rw [h]; exact w
end L3
namespace HT
open PySem PyProof.Rows
section
open PySem.SeqAt
open PySem.AutoSeq1 (wpAny_loadPart')
open PySem.MeetsSeq PySem.MeetsSeq2 PySem.MeetsSeq3
variable {prog:Program} {w:World} {A:Around} {E:Value -> Shared -> Prop} {s:Shared}
theorem whole_tup {t sl:Addr} {items:Array Value} {vl vu:Value} {lo hi:Option Int} {Q:Value -> Shared -> Prop} (hT:IsTup s.heap t items) (hS:s.heap.IsSliceOf sl vl vu .none) (p1:IsPart vl lo) (p2:IsPart vu hi)
  (z1:sIx items.size 0 lo = 0) (z2:sIx items.size items.size hi = items.size) (q:Q (.ref t) s):wpAny (model prog w) A (getItem (.ref t) (.ref sl)) Q E s:=by
 obtain ⟨os,g1,g2,g3⟩:=id hS
 have tS:s.TypeIs (.ref sl) "slice":=⟨os,g1,g2⟩
 unfold getItem
 try with_reducible refine wpAny_holding ?_
 first | refine wpAny_bind (wpAny_pure ?_) | skip
 refine wpAny_bind (wpAny_sequenceKey hT.typeIs (by decide) ?_)
 refine wpAny_bind (wpAny_callSpecial?_slot (name:=Str.ofString "__getitem__") hT.typeIs PyProof.Rows.slot_tuple_getitem (wpAny_call_entry PyProof.Rows.slot_tuple_getitem hT.typeIs entry_tuple_getitem ?_ (args_tuple_getitem _ _)))
 show wpAny _ _ (Builtin.Tuple.tupleItemsOf (.ref t) >>= _) _ _ s
 refine wpAny_bind (tupleItemsOf_ hT (wpAny_bind (wpAny_typeOf tS ?_)))
 rw [if_pos (by decide)]
 refine wpAny_bind (sliceApplied_gen hS p1 p2 ?_)
 have yes:((((sIx items.size 0 lo:Nat):Int) == 0 && (1:Int) == 1 && (sIx items.size items.size hi - sIx items.size 0 lo) == items.size) = true):=by
  rw [z1,z2]
  simp
 show wpAny _ _ (if (((sIx items.size 0 lo:Nat):Int) == 0 && (1:Int) == 1 && (sIx items.size items.size hi - sIx items.size 0 lo) == items.size) = true then _ else _) _ _ s
 rw [if_pos yes]
 refine wpAny_bind (m:=Builtin.Tuple.tupleIsExact _) (wpAny_bind (wpAny_typeOf hT.typeIs (wpAny_pure ?_)))
 rw [if_pos (by decide)]
 exact wpAny_bind (wpAny_rule (wpAny_pure ⟨_,rfl,wpAny_pure q⟩))
end
end HT
namespace L2
open PySem PySem.Spec PyProof.Rows
noncomputable def rSlA (K:PySem.W.Frag):V -> Option Int -> Option Int -> Hp -> VK -> Prop:=fun x lo hi H Q=>∃ a xs,x = .ref a /\ SqT K H a xs /\
 (cutV xs lo hi = xs -> Q (.ref a) H) /\ ∀ p,H p = none -> Q (.ref p) (upd H p (.tup (cutV xs lo hi)))
theorem sl_tupA {X:Cx}:SlR X (rSlA X.K):=by
 intro pins s σ H x v vl vu lo hi sl Q I rx hS p1 p2 h
 obtain ⟨a,xs,rfl,hx,q1,q2⟩:=h
 by_cases z:HT.sIx xs.length 0 lo = 0 /\ HT.sIx xs.length xs.length hi = xs.length
 ·cases rx
  obtain ⟨its,r,hT,hz⟩:=I.tuple hx
  have hl:its.toArray.size = xs.length:=by rw [List.size_toArray]; exact r.length.symm
  refine ⟨"tuple",_,PyProof.Rows.slot_tuple_getitem.lookup,hT.typeIs,HT.whole_tup hT hS p1 p2 (by rw [hl]; exact z.1) (by rw [hl]; exact z.2) ⟨.ref a,H,I,rfl,q1 ?_⟩⟩
  unfold cutV
  rw [z.1,z.2]
  simp
 ·exact sl_tup pins s σ H (.ref a) v vl vu lo hi sl Q I rx hS p1 p2 ⟨a,xs,rfl,hx,z,q2⟩
theorem cutV_hi (xs:List V) {j:Int} (hj:0 <= j):cutV xs none (some j) = xs.take j.toNat:=by
 unfold cutV
 have e2:HT.sIx xs.length xs.length (some j) = min j.toNat xs.length:=by
  show (if j < 0 then (j + (xs.length:Int)).toNat else min j.toNat xs.length) = _
  rw [if_neg (by omega)]
 rw [e2]
 show (xs.drop 0).take (min j.toNat xs.length - 0) = _
 rw [List.drop_zero,Nat.sub_zero]
 by_cases h2:j.toNat <= xs.length
 ·rw [Nat.min_eq_left h2]
 ·rw [Nat.min_eq_right (by omega),List.take_of_length_le (by omega),List.take_of_length_le (by omega)]
end L2
namespace L3
open PySem PySem.Spec PyProof.Rows L2
noncomputable def dSl3 (a b c:AD) (f:D -> Int -> Int -> (Sl -> Prop) -> Prop):TD:=fun ρ Q=>dArgs [a,b] ρ fun xs ρ1=>looksQ ρ1 xs fun ds=>match ds with
 | [_,.int i]=>dArgs [c] ρ1 fun zs ρ2=>looksQ ρ2 (xs.take 1 ++ zs) fun es=>match es with
  | [d,.int j]=>f d i j fun r=>Q r ρ2
  | _=>False
 | _=>False
noncomputable def rSl2 (r:V -> Option Int -> Option Int -> Hp -> VK -> Prop):R2:=fun x z H Q=>∃ j,z = .int j /\ r x none (some j) H Q
noncomputable def fSl3T:D -> Int -> Int -> (Sl -> Prop) -> Prop
 | .tuple ds,i,j,Q=>0 <= i /\ 0 <= j /\ Q (.fz (.tuple ((ds.take j.toNat).drop i.toNat)))
 | _,_,_,_=>False
noncomputable def fSl2T:D -> D -> (Sl -> Prop) -> Prop
 | .tuple ds,.int j,Q=>0 <= j /\ Q (.fz (.tuple (ds.take j.toNat)))
 | _,_,_=>False
theorem ok_sl2T {K:Fg}:OpOk K (r2L (rSl2 (rSlA K))) (o2 fSl2T):=ok2 fun G F σ H ρ x y d e Q Qd R h1 h2 w k=>by
 cases d <;> first | exact w.elim | (cases e <;> first | exact w.elim | skip)
 rename_i ds j
 obtain ⟨w1,w⟩:=w
 cases h2.int
 obtain ⟨a,us,rfl,f1,e1,d1⟩:=h1.tuple R.sub
 have dc:=d1.take j.toNat
 refine ⟨j,rfl,a,us,rfl,SqT.of e1,fun z=>?_,fun p hp=>?_⟩
 ·rw [cutV_hi us w1] at z
  refine k _ H F (.fz _) (Sub.refl _) R (Da.tup f1 ?_) w
  rw [z] at dc
  exact dc
 ·rw [cutV_hi us w1]
  obtain ⟨sb,R',dd⟩:=R.newTup hp dc
  exact k _ _ _ (.fz _) sb R' dd w
section
variable {X:Cx} {K:Fg} {e1 e2 e3:Expr} {a b c:AD} {p pos p2 apos cpos:Pos} {x:Str}
theorem w_sl2T (hK:X.K = K) (ha:WE X e1 (argT K a)) (hb:WE X e2 (argT K b)):WE X (.Subscript e1 (.Slice none (some e2) none p2) pos) (lift K (dOp [a,b] (o2 fSl2T))):=by
 subst hK
 exact ⟨peM (pe_slice sl_tupA ha.h po_none (po_some hb.h)) fun q=>arg2 (P:=fun x z H=>rSl2 (rSlA X.K) x z H _) (l_op ok_sl2T q)⟩
end
end L3
namespace L3
open PySem PySem.Spec PyProof.Rows L2
theorem cutV_lo (us:List V) {i:Int} (h:0 <= i):cutV us (some i) none = us.drop i.toNat:=by
 unfold cutV
 have e1:HT.sIx us.length 0 (some i) = min i.toNat us.length:=by
  show (if i < 0 then (i + (us.length:Int)).toNat else min i.toNat us.length) = _
  rw [if_neg (by omega)]
 rw [e1]
 show (us.drop (min i.toNat us.length)).take (us.length - min i.toNat us.length) = _
 rw [List.take_of_length_le (by rw [List.length_drop]; exact Nat.le_refl _)]
 by_cases z:i.toNat <= us.length
 ·rw [Nat.min_eq_left z]
 ·rw [Nat.min_eq_right (by omega),List.drop_of_length_le (Nat.le_refl _),List.drop_of_length_le (by omega)]
noncomputable def rSl1 (r:V -> Option Int -> Option Int -> Hp -> VK -> Prop):R2:=fun x z H Q=>∃ j,z = .int j /\ r x (some j) none H Q
noncomputable def fSl1T:D -> D -> (Sl -> Prop) -> Prop
 | .tuple ds,.int j,Q=>0 <= j /\ Q (.fz (.tuple (ds.drop j.toNat)))
 | _,_,_=>False
theorem ok_sl1T {K:Fg}:OpOk K (r2L (rSl1 (rSlA K))) (o2 fSl1T):=ok2 fun G F σ H ρ x y d e Q Qd R h1 h2 w k=>by
 cases d <;> first | exact w.elim | (cases e <;> first | exact w.elim | skip)
 rename_i ds j
 obtain ⟨w1,w⟩:=w
 cases h2.int
 obtain ⟨a,us,rfl,f1,e1,d1⟩:=h1.tuple R.sub
 have dc:=d1.drop j.toNat
 refine ⟨j,rfl,a,us,rfl,SqT.of e1,fun z=>?_,fun p hp=>?_⟩
 ·rw [cutV_lo us w1] at z
  refine k _ H F (.fz _) (Sub.refl _) R (Da.tup f1 ?_) w
  rw [z] at dc
  exact dc
 ·rw [cutV_lo us w1]
  obtain ⟨sb,R',dd⟩:=R.newTup hp dc
  exact k _ _ _ (.fz _) sb R' dd w
theorem w_sl1T {X:Cx} {K:Fg} {e1 e2:Expr} {a b:AD} {pos p2:Pos} (hK:X.K = K) (ha:WE X e1 (argT K a)) (hb:WE X e2 (argT K b)):WE X (.Subscript e1 (.Slice (some e2) none none p2) pos) (lift K (dOp [a,b] (o2 fSl1T))):=by
 subst hK
 exact ⟨peM (pe_slice sl_tupA ha.h (po_some hb.h) po_none) fun q=>arg2 (P:=fun x z H=>rSl1 (rSlA X.K) x z H _) (l_op ok_sl1T q)⟩
end L3
namespace L2
open PySem PySem.Spec PyProof.Rows
section
variable {P:Program} {w:World}
noncomputable def BKey (P:Program) (w:World) (h:Heap) (k:List Key × List Key) (a:Addr):Prop :=
 ∃ o b c n,h.get? a = some o /\ o.cls = .type "tuple" /\ o.data = .seq #[.ref b,.ref c] n /\ IsTupleKey (mixKind P w) h k.1 b /\ IsTupleKey (mixKind P w) h k.2 c
theorem BKey.ty {s:Shared} {k:List Key × List Key} {a:Addr} (x:BKey P w s.heap k a):s.TypeIs (.ref a) "tuple":=by
 obtain ⟨o,_,_,_,e,c,_⟩:=x
 exact ⟨o,e,c⟩
theorem tkey_mono {h h':Heap} {k:List Key} {a:Addr} (kk:∀ b ob,h.get? b = some ob -> h'.get? b = some ob) (x:IsTupleKey (mixKind P w) h k a):IsTupleKey (mixKind P w) h' k a:=by
 obtain ⟨o,its,n,e,r⟩:=x
 exact ⟨o,its,n,kk _ _ e,r⟩
theorem BKey.mono {h h':Heap} {k:List Key × List Key} {a:Addr} (kk:∀ b ob,h.get? b = some ob -> h'.get? b = some ob) (x:BKey P w h k a):BKey P w h' k a:=by
 obtain ⟨o,b,c,n,e,e1,e2,x1,x2⟩:=x
 exact ⟨o,b,c,n,kk _ _ e,e1,e2,tkey_mono kk x1,tkey_mono kk x2⟩
theorem BKey.inj {h:Heap} {a:Addr} {x y:List Key × List Key} (p:BKey P w h x a) (q:BKey P w h y a):x = y:=by
 obtain ⟨o,b,c,n,e,_,d,x1,x2⟩:=p
 obtain ⟨o',b',c',n',e',_,d',y1,y2⟩:=q
 have eo:o = o':=Option.some.inj (e.symm.trans e')
 subst eo
 have ed:=d.symm.trans d'
 injection ed with z _
 have z:=congrArg Array.toList z
 have zb:b = b':=by injection z with z1 _; injection z1
 have zc:c = c':=by injection z with _ z2; injection z2 with z2 _; injection z2
 subst zb
 subst zc
 exact Prod.ext (x1.inj y1) (x2.inj y2)
theorem BKey.stays {h h':Heap} {k:List Key × List Key} {a d:Addr} {o:Obj} {es ep} (x:BKey P w h k a) (ho:h.get? d = some o) (hd:o.data = .dict es ep) (hs:Heap.SameBut d h h'):BKey P w h' k a:=by
 obtain ⟨o',b,c,n,e,e1,e2,x1,x2⟩:=x
 have ne:a ≠ d:=fun z=>by
  subst z
  have eo:=Option.some.inj (e.symm.trans ho)
  subst eo
  rw [hd] at e2
  cases e2
 exact ⟨o',b,c,n,(hs.2 a ne).trans e,e1,e2,x1.keeps ho hd hs,x2.keeps ho hd hs⟩
noncomputable def bHash (P:Program) (w:World) (k:List Key × List Key):Int:=reduceHash (Builtin.Tuple.tupleHashOf [tupleKeyHash (mixKind P w) k.1,tupleKeyHash (mixKind P w) k.2])
variable {A:Around} {E:Value -> Shared -> Prop} {s:Shared}
theorem b_hash {k:List Key × List Key} {a:Addr} {Q:Int -> Shared -> Prop} (hu:A.units + 4 < cLine) (hk:BKey P w s.heap k a) (q:Q (bHash P w k) { s with toks:=s.toks + (k.1.length + 1 + (k.2.length + 1) + 1) }) :
  wpAny (model P w) A (PySem.pyHash (.ref a)) Q E s:=by
 have hT:=hk.ty
 obtain ⟨o,b,c,n,ho,_,hd,x1,x2⟩:=hk
 unfold PySem.pyHash
 first | unfold pyHashByItsType | skip
 first | refine wpAny_bind (wpAny_cRoomFor_or (.inr (by omega)) ?_) | skip
 refine wpAny_bind (wpAny_specialOf hT F.slot_tuple_hash.lookup ?_)
 show wpAny _ _ (if (some (Value.builtin "tuple.__hash__") == some Value.none) = true then _ else _) Q E s
 rw [if_neg (by rw [beq_builtin_none]; decide)]
 refine wpAny_bind (wpAny_specialOf hT F.slot_tuple_hash.lookup ?_)
 show wpAny _ _ (callSpecialIfBoundUnlessNone? (.ref a) "__hash__" _ >>= _) Q E s
 refine wpAny_bind (wpAny_callSpecialIfBoundUnlessNone?_slot hT F.slot_tuple_hash (wpAny_call_entry F.slot_tuple_hash hT F.entry_tuple_hash ?_ (F.args_tuple_hash_1 _)))
 show wpAny _ _ (Builtin.Tuple.tupleItemsOf (.ref a) >>= _) _ _ s
 refine wpAny_bind (wpAny_tupleItemsOf ho hd ?_)
 refine wpAny_bind ?_
 rw [<- Array.forIn_toList]
 have h1:A.in1.units < cLine:=by show A.units + 1 < cLine; omega
 refine wpAny_forIn_list _
  (fun rest (r:Array Int) s'=>(rest = [.ref b,.ref c] /\ r.toList = [] /\ s' = s) \/ (rest = [.ref c] /\ r.toList = [tupleKeyHash (mixKind P w) k.1] /\ s' = { s with toks:=s.toks + (k.1.length + 1) }) \/
    (rest = [] /\ r.toList = [tupleKeyHash (mixKind P w) k.1,tupleKeyHash (mixKind P w) k.2] /\ s' = { s with toks:=s.toks + (k.1.length + 1) + (k.2.length + 1) }))
  _ ?_ ?_ _ _ (.inl ⟨rfl,rfl,rfl⟩)
 ·rintro x rest r s' (⟨e,er,rfl⟩ | ⟨e,er,rfl⟩ | ⟨e,_⟩)
  ·cases e
   refine wpAny_bind (wpAny_pyHash_tuple h1 x1 ?_)
   exact wpAny_pure (.inr (.inl ⟨rfl,by simp [er],rfl⟩))
  ·cases e
   refine wpAny_bind (wpAny_pyHash_tuple h1 x2 ?_)
   exact wpAny_pure (.inr (.inr ⟨rfl,by simp [er],rfl⟩))
  ·cases e
 ·rintro r s' (⟨e,_⟩ | ⟨e,_⟩ | ⟨_,er,rfl⟩)
  ·cases e
  ·cases e
  show wpAny _ _ (retInt (Builtin.Tuple.tupleHashOf r.toList)) _ _ _
  rw [er]
  refine wpAny_ret_mkInt ?_
  unfold bHash reduceHash at q
  generalize Builtin.Tuple.tupleHashOf [tupleKeyHash (mixKind P w) k.1,tupleKeyHash (mixKind P w) k.2] = m at q
  show wpAny _ _ (if (decide (-(2:Int) ^ 63 <= m) && decide (m < 2 ^ 63)) = true then _ else _) Q E _
  have et:s.toks + (k.1.length + 1 + (k.2.length + 1) + 1) = s.toks + (k.1.length + 1) + (k.2.length + 1) + 1:=by omega
  rw [et] at q
  by_cases hz:(decide (-(2:Int) ^ 63 <= m) && decide (m < 2 ^ 63)) = true
  ·rw [if_pos hz] at q ⊢
   exact wpAny_pure q
  ·rw [if_neg hz] at q ⊢
   exact wpAny_bind (wpAny_rule (wpAny_pure q))
theorem b_eqT {x y:List Key × List Key} {a b:Addr} {R:PySem.Fin -> Shared -> Prop} (hu:A.units < cLine) (hx:BKey P w s.heap x a) (hy:BKey P w s.heap y b) (h:R (.done (.ret (.bool (decide (x = y))))) s) :
  wpAny (model P w) A (Builtin.«tuple.__eq__» ⟨[.ref a,.ref b],[]⟩) R E s:=by
 have hT:=hy.ty
 obtain ⟨oa,a1,a2,na,ea,_,da,x1,x2⟩:=hx
 obtain ⟨ob,b1,b2,nb,eb,_,db,y1,y2⟩:=hy
 show wpAny _ _ (isInstance (.ref b) (.type "tuple") >>= _) _ _ s
 refine wpAny_bind (wpAny_isInstance hT isSubtype_tuple_tuple ?_)
 simp only [Bool.not_true,Bool.false_eq_true,if_false]
 refine wpAny_bind (wpAny_tupleItemsOf ea da ?_)
 refine wpAny_bind (wpAny_tupleItemsOf eb db ?_)
 refine wpAny_bind ?_
 refine wpAny_forIn_list _
  (fun rest r s'=>r.1 = none /\ s' = s /\ (rest = [(.ref a1,.ref b1),(.ref a2,.ref b2)] \/ (rest = [(.ref a2,.ref b2)] /\ x.1 = y.1) \/ (rest = [] /\ x = y))) _ ?_ ?_ _ _ ⟨rfl,rfl,.inl rfl⟩
 ·rintro ⟨u,v⟩ rest r s' ⟨hr,rfl,e | ⟨e,hxy⟩ | ⟨e,_⟩⟩
  ·cases e
   refine wpAny_bind (wpAny_eqBool_tuple hu x1 y1 ?_)
   by_cases hk:x.1 = y.1
   ·rw [decide_eq_true hk]
    exact wpAny_pure ⟨rfl,rfl,.inr (.inl ⟨rfl,hk⟩)⟩
   ·rw [decide_eq_false hk]
    rw [decide_eq_false (show ¬ x = y from fun z=>hk (by rw [z]))] at h
    exact wpAny_bind (wpAny_pure (wpAny_pure (wpAny_pure h)))
  ·cases e
   refine wpAny_bind (wpAny_eqBool_tuple hu x2 y2 ?_)
   by_cases hk:x.2 = y.2
   ·rw [decide_eq_true hk]
    exact wpAny_pure ⟨rfl,rfl,.inr (.inr ⟨rfl,Prod.ext hxy hk⟩)⟩
   ·rw [decide_eq_false hk]
    rw [decide_eq_false (show ¬ x = y from fun z=>hk (by rw [z]))] at h
    exact wpAny_bind (wpAny_pure (wpAny_pure (wpAny_pure h)))
  ·cases e
 ·rintro ⟨r1,r2⟩ s' ⟨hr,rfl,e | ⟨e,_⟩ | ⟨_,hxy⟩⟩
  ·cases e
  ·cases e
  simp only at hr
  subst hr
  rw [decide_eq_true hxy] at h
  exact wpAny_pure h
theorem b_eq {x y:List Key × List Key} {a b:Addr} {Q:Bool -> Shared -> Prop} (hu:A.units + 4 < cLine) (hx:BKey P w s.heap x a) (hy:BKey P w s.heap y b) (h:Q (decide (x = y)) s) :
  wpAny (model P w) A (PySem.eqBool (.ref a) (.ref b)) Q E s:=by
 unfold PySem.eqBool
 try with_reducible refine wpAny_holding ?_
 show wpAny _ _ (if (Value.ref a == Value.ref b) = true then _ else _) Q E s
 by_cases hab:(Value.ref a == Value.ref b) = true
 ·rw [if_pos hab]
  have e:a = b:=by have:=eq_of_beq hab; injection this
  subst e
  have e:=hx.inj hy
  subst e
  rw [decide_eq_true rfl] at h
  exact wpAny_bind (wpAny_rule (wpAny_pure h))
 ·rw [if_neg hab]
  have h1:A.in1.units < cLine:=by show A.units + 1 < cLine; omega
  exact wpAny_bind (wpAny_richCompare_same_room (op:=.Eq) hx.ty hy.ty F.slot_tuple_eq
    (wpAny_call_entry F.slot_tuple_eq hx.ty F.entry_tuple_eq (b_eqT h1 hx hy ⟨_,rfl,(fun e=>nomatch e),wpAny_truthy_bool h⟩) (F.args_tuple_eq_2 _ _)) (by omega))
theorem t_quiet {k:List Key} {a:Addr} {n:Nat} {Q:Bool -> Shared -> Prop} (hk:IsTupleKey (mixKind P w) s.heap k a) (h:Q true s):wpAny (model P w) A (eqIsQuiet (n + 1) (.ref a)) Q E s:=by
 have hT:=hk.typeIs
 obtain ⟨o,its,m,ho,_,hd,hi⟩:=hk
 unfold eqIsQuiet
 refine wpAny_bind (wpAny_specialOf hT F.slot_tuple_eq.lookup ?_)
 show wpAny _ _ (isInstance (.ref a) (.type "tuple") >>= _) _ _ s
 refine wpAny_bind (wpAny_isInstance hT isSubtype_tuple_tuple ?_)
 simp only [Bool.not_true,Bool.false_eq_true,if_false]
 refine wpAny_bind (wpAny_seqItems ho hd ?_)
 refine wpAny_bind ?_
 show wpAny _ _ (forIn its _ _) _ _ s
 rw [<- Array.forIn_toList]
 refine wpAny_forIn_list _ (fun rest r s'=>r.1 = none /\ s' = s /\ ∀ v ∈ rest,carriedByValue v = true) _ ?_ ?_ _ _ ⟨rfl,rfl,hi.byValue⟩
 ·rintro v rest r s' ⟨hr,rfl,hall⟩
  rw [eqIsQuiet_byValue _ (hall v List.mem_cons_self)]
  exact wpAny_bind (wpAny_pure (wpAny_pure ⟨rfl,rfl,fun u hu'=>hall u (List.mem_cons_of_mem _ hu')⟩))
 ·rintro ⟨r1,r2⟩ s' ⟨hr,rfl,_⟩
  simp only at hr
  subst hr
  exact wpAny_pure h
theorem b_quiet {k:List Key × List Key} {a:Addr} {Q:Bool -> Shared -> Prop} (hk:BKey P w s.heap k a) (h:Q true s):wpAny (model P w) A (eqIsQuiet 8 (.ref a)) Q E s:=by
 have hT:=hk.ty
 obtain ⟨o,b,c,n,ho,_,hd,x1,x2⟩:=hk
 unfold eqIsQuiet
 refine wpAny_bind (wpAny_specialOf hT F.slot_tuple_eq.lookup ?_)
 show wpAny _ _ (isInstance (.ref a) (.type "tuple") >>= _) _ _ s
 refine wpAny_bind (wpAny_isInstance hT isSubtype_tuple_tuple ?_)
 simp only [Bool.not_true,Bool.false_eq_true,if_false]
 refine wpAny_bind (wpAny_seqItems ho hd ?_)
 refine wpAny_bind ?_
 show wpAny _ _ (forIn #[Value.ref b,Value.ref c] _ _) _ _ s
 rw [<- Array.forIn_toList]
 refine wpAny_forIn_list _ (fun rest r s'=>r.1 = none /\ s' = s /\ ∀ v ∈ rest,v = .ref b \/ v = .ref c) _ ?_ ?_ _ _ ⟨rfl,rfl,fun v hv=>by simpa using hv⟩
 ·rintro v rest r s' ⟨hr,rfl,hall⟩
  have hrest:∀ v ∈ rest,v = .ref b \/ v = .ref c:=fun u hu'=>hall u (List.mem_cons_of_mem _ hu')
  rcases hall v List.mem_cons_self with rfl | rfl
  ·exact wpAny_bind (t_quiet x1 (wpAny_pure ⟨rfl,rfl,hrest⟩))
  ·exact wpAny_bind (t_quiet x2 (wpAny_pure ⟨rfl,rfl,hrest⟩))
 ·rintro ⟨r1,r2⟩ s' ⟨hr,rfl,_⟩
  simp only at hr
  subst hr
  exact wpAny_pure h
noncomputable def bxKind (P:Program) (w:World):HeapKind P w (List Key × List Key) where
 is:=BKey P w
 hash:=bHash P w
 draws:=fun k=>k.1.length + 1 + (k.2.length + 1) + 1
 room:=fun A=>A.units + 4 < cLine
 inj:=fun p q=>p.inj q
 keeps:=fun x ho hd hs=>x.stays ho hd hs
 pyHash:=fun hu hk h=>b_hash hu hk h
 eqBool:=fun hu hx hy h=>b_eq hu hx hy h
 quiet:=fun hk h=>b_quiet hk h
end
section
variable {X:Cx}
noncomputable def PairB (H:Hp) (y:V):Prop:=∃ (q b c d:Addr) (k1 k2:List Key) (v:V),y = .ref q /\ H q = some (.tup [.ref b,v]) /\ H b = some (.tup [.ref c,.ref d]) /\ H c = some (.tup (k1.map kV)) /\ H d = some (.tup (k2.map kV))
noncomputable def rDictB (K:PySem.W.Frag):List V -> Hp -> VK -> Prop:=fun xs H Q=>∃ (p:Addr) (ys:List V),xs = [.ref p] /\ SqL K H p ys /\ (∀ y ∈ ys,PairB H y) /\ ∀ a,H a = none -> Q (.ref a) (upd H a (opqO a))
theorem stored_len {K:Type} [DecidableEq K] (vs:List (K × Addr × Value)) (k:K) (a:Addr) (v:Value):(storedH vs k a v).length <= vs.length + 1:=by
 unfold storedH
 split
 ·simp
 ·simp
theorem stored_all {K:Type} [DecidableEq K] {p:K -> Addr -> Prop} {vs:List (K × Addr × Value)} {k:K} {a:Addr} {v:Value} (h:∀ x ∈ vs,p x.1 x.2.1) (hk:p k a):∀ x ∈ storedH vs k a v,p x.1 x.2.1:=by
 unfold storedH
 split
 ·intro x hx
  obtain ⟨y,hy,rfl⟩:=List.mem_map.mp hx
  have:=h y hy
  unfold putAt
  split
  ·exact this
  ·exact this
 ·intro x hx
  rcases List.mem_append.mp hx with z | z
  ·exact h x z
  ·rw [List.mem_singleton.mp z]
   exact hk
theorem call_dictB (hc:X.calm = true) (hu:X.A.units + 6 < cLine):CallR X (.type "dict") (rDictB X.K):=by
 intro pins s σ H xs us Q I r h
 obtain ⟨p,ys,rfl,hq,hp,q⟩:=h
 obtain ⟨u,rfl,rx⟩:=vals1 r
 cases rx
 obtain ⟨its,r',⟨o,n,e1,e2,e3,e4⟩,hz⟩:=I.list hq
 have hlen:=r'.length
 have tup:∀ {b:Addr} {zs:List V},H b = some (.tup zs) -> ∃ its,Vals zs its /\ ∃ o,s.heap.get? b = some o /\ o.cls = .type "tuple" /\ ∃ n,o.data = .seq its.toArray n:=fun {b zs} e=>by
  obtain ⟨_,its,r,o,h1,h2,n,h3,_⟩:=(show ObjOk X.prog X.w H s.heap b (.tup zs) from I.hok b _ e)
  exact ⟨its,r,o,h1,h2,n,h3⟩
 have key:∀ {ks:List Key} {b:Addr},H b = some (.tup (ks.map kV)) -> IsTupleKey (mixKind X.prog X.w) s.heap ks b:=fun {ks b} e=>by
  obtain ⟨its,r,o,h1,h2,n,h3⟩:=tup e
  exact ⟨o,its.toArray,n,h1,h2,h3,by simpa using items_are r⟩
 refine call_dict_pairs (fun i h=>∃ vs:List ((List Key × List Key) × Addr × Value),vs.length <= i /\ (∀ x ∈ vs,BKey X.prog X.w s.heap x.1 x.2.1) /\ ∃ o es ep,h.get? s.heap.objs.size = some o /\ o.ExactDict /\ o.data = .dict es ep /\ es.toList = vs.map (entryOfKey (bxKind X.prog X.w)) /\ (vs.map (·.1)).Nodup) (I.ok.hd hc) e1 e2 e4 e3 ?_ ?_ ?_ ?_
 ·intro h' _ e
  exact ⟨[],Nat.le_refl _,fun x hx=>(by cases hx),_,#[],0,e,⟨rfl,rfl,rfl⟩,rfl,rfl,List.nodup_nil⟩
 ·rintro i h1 h2 ⟨vs,hl,hv,o',es,ep,ho,rest⟩ kp
  exact ⟨vs,hl,hv,o',es,ep,kp _ _ (Nat.lt_succ_self _) ho,rest⟩
 ·rintro i v s' Q' E' hv ⟨vs,hl,hvs,o',es,ep,ho,a1,a2,a3,a4⟩ kk hq'
  obtain ⟨y,ey,ry⟩:=r'.getV (by simpa using hv)
  obtain ⟨qq,b,c,d,k1,k2,vv,rfl,eq,eb,ec,ed⟩:=hp y (List.mem_of_getElem? ey)
  cases ry
  obtain ⟨its2,r2,ob,h1,h2,m,h3⟩:=tup eq
  obtain ⟨u1,u2,rfl,ru1,ru2⟩:=vals2 r2
  cases ru1
  obtain ⟨its3,r3,oc,g1,g2,m3,g3⟩:=tup eb
  obtain ⟨u3,u4,rfl,ru3,ru4⟩:=vals2 r3
  cases ru3
  cases ru4
  have bk:BKey X.prog X.w s.heap (k1,k2) b:=⟨oc,c,d,m3,g1,g2,g3,key ec,key ed⟩
  have hi:i < its.length:=(List.getElem?_eq_some_iff.mp (by simpa using hv)).1
  have hz2:vs.length <= sizeLine:=by omega
  refine ⟨qq,.ref b,u2,rfl,⟨ob,kk _ _ h1,h2,m,h3⟩,wpAny_dictSet_heap (hsz:=hz2) (knd:=bxKind X.prog X.w) (show X.A.units + 1 + 1 + 4 < cLine by omega) (bk.mono kk) ⟨o',es,ep,ho,a1,a2,a3,fun x hx=>(hvs x hx).mono kk,a4⟩ fun h' dd' sb=>hq' h' _ ⟨storedH vs (k1,k2) b u2,?_,?_,?_⟩ sb⟩
  ·exact Nat.le_trans (stored_len _ _ _ _) (by omega)
  ·exact stored_all hvs bk
  ·obtain ⟨q,es,ep,hq,h2,h3,h4,_,h5⟩:=dd'
   exact ⟨q,es,ep,hq,h2,h3,h4,h5⟩
 ·rintro h' tk ⟨vs,_,_,o',es,ep,e,x,d,_⟩ kp
  have hfr:H s.heap.objs.size = none:=I.hok.fresh (Nat.le_refl _)
  exact ⟨.ref s.heap.objs.size,_,I.laid (t':=tk) kp (Nat.le_refl _) (show ObjOk X.prog X.w _ h' _ (opqO s.heap.objs.size) from ⟨⟨o',es,ep,e,x,d⟩,⟨o',e⟩,fun h1 h2 z k=>by
    obtain ⟨o,es,ep,e,x⟩:=z
    exact ⟨o,es,ep,k _ e,x⟩⟩),rfl,q _ hfr⟩
noncomputable def rIsiO (K:PySem.W.Frag):List V -> Hp -> VK -> Prop:=fun xs H Q=>rIsi2 K xs H Q \/ ∃ (a:Addr) (T:Ki),xs = [.ref a,.ty T.nm] /\ H a = some (opqO a) /\ Q (.bl (Ki.dct.sub T)) H
theorem call_isiO:CallR X (.builtin "isinstance") (rIsiO X.K):=by
 intro pins s σ H xs us Q I r h
 rcases h with h | ⟨a,T,rfl,hd,q⟩
 ·exact call_isi2 pins s σ H _ us Q I r h
 ·obtain ⟨u,w',rfl,ru,rw'⟩:=vals2 r
  obtain rfl:w' = .type T.nm:=rw'
  cases ru
  obtain ⟨⟨o,es,ep,e1,e2,_⟩,_⟩:=(show ObjOk X.prog X.w H s.heap a (opqO a) from I.hok a _ hd)
  have ht:s.TypeIs (.ref a) Ki.dct.nm:=⟨o,e1,e2.1⟩
  cases hs:Ki.dct.sub T with
  | true =>
   rw [hs] at q
   exact call_isinstance (isinstance_true (Tx:=Ki.dct.nm) (ki_meta T) (by rw [ki_sub,hs])) ⟨ht,.bl true,H,I,rfl,q⟩
  | false =>
   rw [hs] at q
   have hsub:isSubtype (.type Ki.dct.nm) (.type T.nm) = pure false:=by rw [ki_sub,hs]
   have fin:EP X pins σ Q (.bool false) { s with toks:=s.toks + 1 }:=⟨.bl false,H,I.tok _,rfl,q⟩
   exact call_isinstance (isinstance_false_dict (ki_ne Ki.dct T hs) (ki_meta T) hsub) ⟨ht,fin⟩
end
end L2
namespace L3
open PySem PySem.Spec L2 PyProof.Rows
theorem Rel.newOpq {K:Fg} {G:Gh} {F:Hp} {σ:L2.St} {H:Hp} {ρ:Ev} {a:Addr} (R:Rel K G F σ H ρ) (h:H a = none):Sub F (upd F a (opqO a)) /\ Rel K G (upd F a (opqO a)) σ (upd H a (opqO a)) ρ:=by
 have R1:Rel K G F σ (upd H a (opqO a)) ρ:=R.laid h
 refine R1.grow (a:=a) (o:=opqO a) (R.h0 h) upd_same fun i s e w z=>?_
 obtain ⟨a',o',h1,h2,h3,h4⟩:=R.ow i s e w
 rw [z] at h1
 cases h1
 rw [h] at h3
 cases h3
noncomputable def prB (p:List Key × List Key × D):D:=.tuple [.tuple [.tuple (p.1.map keyD),.tuple (p.2.1.map keyD)],p.2.2]
noncomputable def fDictB:D -> (Sl -> Prop) -> Prop
 | .list ds,Q=>(∃ ps:List (List Key × List Key × D),ds = ps.map prB) /\ Q (.fz opqD)
 | _,_=>False
theorem pairB {K:Fg} {F H:Hp} (s:Sub F H) {v:V} {p:List Key × List Key × D} (h:Da K F v (prB p)):PairB H v:=by
 obtain ⟨k1,k2,d⟩:=p
 cases h with
 | @tup q xs _ e t =>
  cases t with
  | @cons x xs _ _ hx t =>
   cases t with
   | @cons y ys _ _ hy t =>
    cases t
    cases hx with
    | @tup b xs _ e2 t =>
     cases t with
     | @cons x xs _ _ h1 t =>
      cases t with
      | @cons z zs _ _ h2 t =>
       cases t
       generalize e5:(PyData.tuple (k1.map keyD)) = d1 at h1
       generalize e6:(PyData.tuple (k2.map keyD)) = d2 at h2
       cases h1 with
       | tup e3 t3 =>
        cases h2 with
        | tup e4 t4 =>
         cases e5
         cases e6
         have z1:=t3.keys
         have z2:=t4.keys
         subst z1
         subst z2
         exact ⟨q,b,_,_,k1,k2,y,rfl,s _ _ e,s _ _ e2,s _ _ e3,s _ _ e4⟩
        | _=>cases e6
       | _=>cases e5
theorem ok_dictB {K:Fg}:OpOk K (rDictB K) (o1 fDictB):=ok1 fun G F σ H ρ x d Q Qd R h1 w k=>by
 match d,h1,w with
 | .list ds,h1,⟨⟨ps,e⟩,w⟩ =>
  subst e
  obtain ⟨a,us,rfl,e1,d1⟩:=h1.list R.sub
  refine ⟨a,us,rfl,SqL.of e1,?_,fun p hp=>?_⟩
  ·have gen:∀ {us:List V} {ps:List (List Key × List Key × D)},DaAll K F us (ps.map prB) -> ∀ y ∈ us,PairB H y:=fun {us}=>by
    induction us with
    | nil=>intro ps _ y hy; cases hy
    | cons u us ih =>
     intro ps h y hy
     cases ps with
     | nil=>cases h
     | cons p ps =>
      cases h with
      | cons h1 h2 =>
       rcases List.mem_cons.mp hy with z | z
       ·subst z
        exact pairB R.sub h1
       ·exact ih h2 y z
   exact gen d1
  ·obtain ⟨sb,R'⟩:=R.newOpq hp
   exact k _ _ _ (.fz opqD) sb R' (Da.opq upd_same) w
noncomputable def fIsiO (T:Ki) (d:D) (Q:Sl -> Prop):Prop:=fIsiA T d Q \/ (d = opqD /\ Q (.fz (.bool (Ki.dct.sub T))))
theorem At.opq {K:Fg} {F H:Hp} {v:V} (s:Sub F H) (h:At K F H v opqD):∃ a,v = .ref a /\ H a = some (opqO a):=by
 have gen:∀ {d:D},Da K F v d -> d = opqD -> ∃ a,v = .ref a /\ H a = some (opqO a):=fun {d} h e=>by
  cases h with
  | opq q=>exact ⟨_,rfl,s _ _ q⟩
  | dk q t =>
   injection e with e
   subst e
   generalize e9:([(PyData.bool false,PyData.none)]:List (D × D)) = es at t
   cases t with
   | nil=>cases e9
   | @cons k _ _ _ _ _ _=>cases k <;> cases e9
  | dt q t =>
   injection e with e
   subst e
   generalize e9:([(PyData.bool false,PyData.none)]:List (D × D)) = es at t
   cases t with
   | nil=>cases e9
   | cons _ _=>cases e9
  | _=>cases e
 rcases h with h | ⟨a,o,rfl,_,e,h⟩
 ·exact gen h rfl
 ·cases o <;> first | exact h.elim | skip
  ·have h:DaKV K F _ [(PyData.bool false,PyData.none)]:=h
   generalize e9:([(PyData.bool false,PyData.none)]:List (D × D)) = es at h
   cases h with
   | nil=>cases e9
   | @cons k _ _ _ _ _ _=>cases k <;> cases e9
  ·have h:DaKT K F _ [(PyData.bool false,PyData.none)]:=h
   generalize e9:([(PyData.bool false,PyData.none)]:List (D × D)) = es at h
   cases h with
   | nil=>cases e9
   | cons _ _=>cases e9
theorem ok_isiO {K:Fg} {T:Ki}:OpOk K (fun vs H Q=>∃ x,vs = [x] /\ rIsiO K [x,.ty T.nm] H Q) (o1 (fIsiO T)):=ok1 fun G F σ H ρ x d Q Qd R h1 w k=>by
 rcases w with w | ⟨rfl,w⟩
 ·obtain ⟨x',e,q⟩:=ok_isiA (T:=T) G F σ H ρ [x] [d] Q Qd R (.cons h1 .nil) w k
  exact ⟨x',e,.inl q⟩
 ·obtain ⟨a,rfl,e⟩:=h1.opq R.sub
  exact ⟨_,rfl,.inr ⟨a,T,rfl,e,k _ H F (.fz _) (Sub.refl _) R (Da.bl _) w⟩⟩
section
variable {X:Cx} {K:Fg} {e e1:Expr} {a:AD} {p pos p2:Pos}
theorem hu6_of {A:Around} {k:Nat} (hr:Room k A):A.units + 6 < cLine:=Nat.lt_of_le_of_lt (Nat.add_le_add_left (by decide:6 <= 64) _) hr.units
theorem w_dictB (hK:X.K = K) (hc:X.calm = true) (hu:X.A.units + 6 < cLine) (hm:X.mg "dict" = none) (hv:bootBuiltins "dict" = some (.type "dict")) (ha:WA X [e] (tArgs ([a].map (argT K)))) (hg:Gl X "dict":=by rfl) (he:notStar e = true:=by rfl) :
  WE X (.Call (.Name "dict" p) [e] [] pos) (lift K (dOp [a] (o1 fDictB))):=by
 subst hK
 exact w_callT ok_dictB (call_dictB hc hu) hm hv ha hg (by decide) (by decide) he rfl
theorem w_isiO (T:Ki) (hK:X.K = K) (hm:X.mg "isinstance" = none) {y:Str} (hm2:X.mg y = none) (hv2:bootBuiltins y = some (.type T.nm)) (ha:WE X e1 (argT K a)) (hg:Gl X "isinstance":=by rfl) (hg2:Gl X y:=by rfl) (hy:y ≠ "__name__":=by decide) (hy2:(y == ("__debug__":Str)) = false:=by decide) (he:notStar e1 = true:=by rfl) :
  WE X (.Call (.Name "isinstance" p) [e1,.Name y p2] [] pos) (lift K (dOp [a] (o1 (fIsiO T)))):=by
 subst hK
 exact ⟨peM (pe_callB call_isiO hg hm boot_isinstance (pa_cons ha.h (pa_cons (pe_bltn hg2 hm2 hv2 (v:=.ty T.nm) rfl hy hy2) pa_nil (starEach_of rfl)) (starEach_of he)) (by decide) (by decide) (starEach_of he) (plain_of rfl)) fun q=>arg1 (P:=fun x H1=>rIsiO X.K [x,.ty T.nm] H1 _) (l_op ok_isiO q)⟩
end
end L3
namespace RM
noncomputable def sumTo:Nat -> (Nat -> Int) -> Int
 | 0,g=>g 0
 | n + 1,g=>sumTo n g + g (n + 1)
theorem sumTo_congr:∀ (n:Nat) {g h:Nat -> Int},(∀ i,i <= n -> g i = h i) -> sumTo n g = sumTo n h
 | 0,g,h,e=>e 0 (Nat.le_refl _)
 | n + 1,g,h,e=>by
  show sumTo n g + g (n + 1) = sumTo n h + h (n + 1)
  rw [sumTo_congr n fun i hi=>e i (by omega),e (n + 1) (Nat.le_refl _)]
noncomputable def prodN:List Int -> Nat
 | []=>1
 | a :: r=>a.toNat * prodN r
theorem prodN_pos:∀ {l:List Int},(∀ c ∈ l,1 <= c) -> 1 <= prodN l
 | [],_=>Nat.le_refl _
 | a :: r,h=>by
  have h1:=h a List.mem_cons_self
  have h2:=prodN_pos (l:=r) fun c hc=>h c (List.mem_cons_of_mem _ hc)
  exact Nat.mul_le_mul (show 1 <= a.toNat by omega) h2
noncomputable def pre:List Int -> (Nat -> Int) -> Nat -> Int
 | [],f,k=>f k
 | _ :: r,f,k=>sumTo (k / prodN r) fun i=>pre r (fun k'=>f (i * prodN r + k')) (k % prodN r)
noncomputable def dif:List Int -> (Nat -> Int) -> Nat -> Int
 | [],f,k=>f k
 | _ :: r,f,k=>dif r (fun k'=>f (k / prodN r * prodN r + k')) (k % prodN r) - (if k / prodN r = 0 then 0 else dif r (fun k'=>f ((k / prodN r - 1) * prodN r + k')) (k % prodN r))
end RM
namespace RM
noncomputable def prodI:List Int -> Int
 | []=>1
 | a :: r=>a * prodI r
theorem prodI_append (l r:List Int):prodI (l ++ r) = prodI l * prodI r:=by
 induction l with
 | nil=>show prodI r = 1 * prodI r; rw [Int.one_mul]
 | cons a l ih=>show a * prodI (l ++ r) = a * prodI l * prodI r; rw [ih,Int.mul_assoc]
theorem prodI_rev:∀ l:List Int,prodI l.reverse = prodI l
 | []=>rfl
 | a :: r=>by
  rw [List.reverse_cons,prodI_append,prodI_rev r]
  show prodI r * (a * 1) = a * prodI r
  rw [Int.mul_one,Int.mul_comm]
noncomputable def rowP (pl:List Int) (n:Nat):List (List Int):=(List.range n).map fun i:Nat=>pl ++ [(i:Int)]
noncomputable def stepP (found:List (List Int)) (n:Int):List (List Int):=found.flatMap fun pl=>rowP pl n.toNat
noncomputable def placesOf (sd:List Int):List (List Int):=sd.foldl stepP [[]]
theorem rowP_len (pl:List Int) (n:Nat):(rowP pl n).length = n:=by simp [rowP]
theorem stepP_len (found:List (List Int)) (n:Int):(stepP found n).length = found.length * n.toNat:=by
 induction found with
 | nil=>simp [stepP]
 | cons a r ih =>
  have:stepP (a :: r) n = rowP a n.toNat ++ stepP r n:=by simp [stepP]
  rw [this,List.length_append,ih,rowP_len,List.length_cons,Nat.add_mul]; omega
theorem foldP_len:∀ (sd:List Int) (f:List (List Int)),(∀ c ∈ sd,1 <= c) -> ((sd.foldl stepP f).length:Int) = f.length * prodI sd
 | [],f,_=>by show (f.length:Int) = f.length * 1; omega
 | a :: r,f,h=>by
  have h1:=h a List.mem_cons_self
  rw [List.foldl_cons,foldP_len r _ fun c hc=>h c (List.mem_cons_of_mem _ hc),stepP_len]
  show ((f.length * a.toNat:Nat):Int) * prodI r = f.length * (a * prodI r)
  rw [Int.natCast_mul,Int.toNat_of_nonneg (by omega),Int.mul_assoc]
noncomputable def leqs (p:List Int) (o:List Int):List Bool:=(o.zip p).map fun ab=>decide (ab.1 <= ab.2)
noncomputable def leq (p:List Int) (o:List Int):Bool:=(leqs p o).all id
noncomputable def tot (p:List Int) (pc:List (List Int × Int)):Int:=pc.foldl (fun acc oc=>if leq p oc.1 = true then acc + oc.2 else acc) 0
noncomputable def runOf (sd cs:List Int):List Int:=(placesOf sd).map fun p=>tot p ((placesOf sd).zip cs)
noncomputable def addT (side step:Int) (xs:List Int) (i:Nat):List Int:=if 0 < (i:Int) / step % side then xs.set i (xs.getD i 0 + xs.getD (i - step.toNat) 0) else xs
noncomputable def addN (side step:Int) (xs:List Int):Nat -> List Int
 | 0=>xs
 | j + 1=>addT side step (addN side step xs j) (step.toNat + j)
theorem addT_len (side step:Int) (xs:List Int) (i:Nat):(addT side step xs i).length = xs.length:=by unfold addT; split <;> simp
theorem addN_len (side step:Int) (xs:List Int):∀ j,(addN side step xs j).length = xs.length
 | 0=>rfl
 | j + 1=>by show (addT _ _ _ _).length = _; rw [addT_len,addN_len side step xs j]
noncomputable def addAlong (side step:Int) (xs:List Int):List Int:=addN side step xs (xs.length - step.toNat)
noncomputable def runProg:List Int -> Int -> List Int -> List Int
 | [],_,xs=>xs
 | a :: r,st,xs=>runProg r (st * a) (addAlong a st xs)
theorem addAlong_len (a st:Int) (xs:List Int):(addAlong a st xs).length = xs.length:=addN_len _ _ _ _
theorem runProg_len:∀ (l:List Int) (st:Int) (xs:List Int),(runProg l st xs).length = xs.length
 | [],_,_=>rfl
 | a :: r,st,xs=>by show (runProg r _ _).length = _; rw [runProg_len r,addAlong_len]
theorem runProg_snoc:∀ (l:List Int) (a st:Int) (xs:List Int),runProg (l ++ [a]) st xs = addAlong a (st * prodI l) (runProg l st xs)
 | [],a,st,xs=>by show addAlong a st xs = addAlong a (st * 1) xs; rw [Int.mul_one]
 | b :: r,a,st,xs=>by
  show runProg (r ++ [a]) (st * b) (addAlong b st xs) = _
  rw [runProg_snoc r a (st * b) (addAlong b st xs)]
  show _ = addAlong a (st * (b * prodI r)) (runProg r (st * b) (addAlong b st xs))
  rw [Int.mul_assoc]
theorem sumTo_left:∀ (n:Nat) (g:Nat -> Int),sumTo (n + 1) g = g 0 + sumTo n fun t=>g (t + 1)
 | 0,g=>rfl
 | n + 1,g=>by
  show sumTo (n + 1) g + g (n + 1 + 1) = g 0 + (sumTo n (fun t=>g (t + 1)) + g (n + 1 + 1))
  rw [sumTo_left n g]; omega
theorem sumTo_rev:∀ (n:Nat) (g:Nat -> Int),sumTo n (fun t=>g (n - t)) = sumTo n g
 | 0,g=>rfl
 | n + 1,g=>by
  rw [sumTo_left]
  have e:sumTo n (fun t=>g (n + 1 - (t + 1))) = sumTo n (fun t=>g (n - t)):=sumTo_congr n fun i _=>by rw [Nat.add_sub_add_right]
  rw [e,sumTo_rev n g]
  show g (n + 1 - 0) + sumTo n g = sumTo n g + g (n + 1)
  rw [Nat.sub_zero]; omega
theorem prodN_I:∀ {l:List Int},(∀ c ∈ l,1 <= c) -> prodI l = (prodN l:Int)
 | [],_=>rfl
 | a :: r,h=>by
  have h1:=h a List.mem_cons_self
  show a * prodI r = ((a.toNat * prodN r:Nat):Int)
  rw [prodN_I fun c hc=>h c (List.mem_cons_of_mem _ hc),Int.natCast_mul,Int.toNat_of_nonneg (by omega)]
theorem pre_congrU:∀ (sd:List Int) {f g:Nat -> Int} (k:Nat),(∀ i,f i = g i) -> pre sd f k = pre sd g k
 | [],f,g,k,e=>e k
 | a :: r,f,g,k,e=>sumTo_congr _ fun i _=>pre_congrU r _ fun k'=>e _
theorem addN_val {side st:Nat} (hs:1 <= side) (ht:1 <= st) (xs:List Int):∀ (j:Nat),j <= xs.length - st -> ∀ k,k < xs.length ->
  (addN (side:Int) (st:Int) xs j).getD k 0 = if k < st + j then sumTo (k / st % side) (fun t=>xs.getD (k - t * st) 0) else xs.getD k 0
 | 0,_,k,hk=>by
  show xs.getD k 0 = _
  split
  ·rename_i h
   rw [Nat.div_eq_of_lt (by omega),Nat.zero_mod]
   show _ = xs.getD (k - 0 * st) 0
   rw [Nat.zero_mul,Nat.sub_zero]
  ·rfl
 | j + 1,hj,k,hk=>by
  have ih:=addN_val hs ht xs j (by omega)
  have hlen:=addN_len (side:Int) (st:Int) xs j
  have hi:st + j < xs.length:=by omega
  show (addT (side:Int) (st:Int) (addN (side:Int) (st:Int) xs j) ((st:Int).toNat + j)).getD k 0 = _
  rw [Int.toNat_natCast]
  have hcond:((st + j:Nat):Int) / (st:Int) % (side:Int) = (((st + j) / st % side:Nat):Int):=by
   rw [Int.natCast_emod,Int.natCast_ediv]
  have hdiv:(st + j) / st = j / st + 1:=by rw [Nat.add_comm,Nat.add_div_right _ (by omega)]
  unfold addT
  rw [hcond,Int.toNat_natCast,Nat.add_sub_cancel_left]
  by_cases hk1:k = st + j
  ·subst hk1
   rw [if_pos (by omega:st + j < st + (j + 1))]
   by_cases hq:0 < (st + j) / st % side
   ·rw [if_pos (by omega),List.getD_eq_getElem?_getD,List.getElem?_set_self (by omega),Option.getD_some,ih _ hi,if_neg (by omega),ih j (by omega),if_pos (by omega)]
    obtain ⟨q,hq'⟩:∃ q,(st + j) / st % side = q + 1:=⟨(st + j) / st % side - 1,by omega⟩
    have hq2:j / st % side = q:=by
     rw [hdiv] at hq'
     have h1:=Nat.mod_lt (j / st) (show 0 < side by omega)
     rw [Nat.add_mod] at hq'
     by_cases hs1:side = 1
     ·subst hs1; rw [Nat.mod_one] at hq'; omega
     ·rw [Nat.mod_eq_of_lt (show 1 < side by omega)] at hq'
      by_cases h2:j / st % side + 1 < side
      ·rw [Nat.mod_eq_of_lt h2] at hq'; omega
      ·have:j / st % side + 1 = side:=by omega
       rw [this,Nat.mod_self] at hq'; omega
    rw [hq',hq2,sumTo_left]
    show _ = xs.getD (st + j - 0 * st) 0 + _
    rw [Nat.zero_mul,Nat.sub_zero]
    congr 1
    refine sumTo_congr q fun i _=>?_
    congr 1
    rw [Nat.add_mul]; omega
   ·rw [if_neg (by omega),ih _ hi,if_neg (by omega)]
    have:(st + j) / st % side = 0:=by omega
    rw [this]
    show _ = xs.getD (st + j - 0 * st) 0
    rw [Nat.zero_mul,Nat.sub_zero]
  ·have e:(if 0 < (((st + j) / st % side:Nat):Int) then (addN (side:Int) (st:Int) xs j).set (st + j) ((addN (side:Int) (st:Int) xs j).getD (st + j) 0 + (addN (side:Int) (st:Int) xs j).getD j 0) else addN (side:Int) (st:Int) xs j).getD k 0 = (addN (side:Int) (st:Int) xs j).getD k 0:=by
    split
    ·rw [List.getD_eq_getElem?_getD,List.getElem?_set_ne (Ne.symm hk1),<- List.getD_eq_getElem?_getD]
    ·rfl
   rw [e,ih k hk]
   by_cases h1:k < st + j
   ·rw [if_pos h1,if_pos (by omega)]
   ·rw [if_neg h1,if_neg (by omega)]
theorem add_val {side st:Nat} (hs:1 <= side) (ht:1 <= st) (xs:List Int) (k:Nat) (hk:k < xs.length):(addAlong (side:Int) (st:Int) xs).getD k 0 = sumTo (k / st % side) (fun t=>xs.getD (k - t * st) 0):=by
 unfold addAlong
 rw [Int.toNat_natCast,addN_val hs ht xs _ (Nat.le_refl _) k hk]
 by_cases h:k < st + (xs.length - st)
 ·rw [if_pos h]
 ·omega
theorem prog_val:∀ (sd:List Int),(∀ c ∈ sd,1 <= c) -> ∀ (cs:List Int) (q:Nat),cs.length = q * prodN sd -> ∀ k,k < cs.length ->
  (runProg sd.reverse 1 cs).getD k 0 = pre sd (fun k'=>cs.getD (k / prodN sd * prodN sd + k') 0) (k % prodN sd)
 | [],_,cs,q,hl,k,hk=>by
  show cs.getD k 0 = cs.getD (k / 1 * 1 + k % 1) 0
  rw [Nat.div_one,Nat.mul_one,Nat.mod_one,Nat.add_zero]
 | a :: r,h,cs,q,hl,k,hk=>by
  have h1:=h a List.mem_cons_self
  have hr:∀ c ∈ r,1 <= c:=fun c hc=>h c (List.mem_cons_of_mem _ hc)
  have hm:=prodN_pos hr
  obtain ⟨an,rfl⟩:∃ an:Nat,a = (an:Int):=⟨a.toNat,by omega⟩
  have han:1 <= an:=by omega
  have hn:prodN ((an:Int) :: r) = an * prodN r:=by show (an:Int).toNat * prodN r = _; rw [Int.toNat_natCast]
  rw [hn] at hl ⊢
  rw [List.reverse_cons,runProg_snoc,Int.one_mul,prodI_rev,prodN_I hr]
  have ih:=prog_val r hr cs (q * an) (by rw [hl,Nat.mul_assoc])
  rw [add_val han hm _ k (by rw [runProg_len]; exact hk)]
  show _ = sumTo (k % (an * prodN r) / prodN r) fun i=>pre r (fun k'=>cs.getD (k / (an * prodN r) * (an * prodN r) + (i * prodN r + k')) 0) (k % (an * prodN r) % prodN r)
  generalize prodN r = m at *
  have e1:k % (an * m) / m = k / m % an:=by rw [Nat.mul_comm an m,Nat.mod_mul_right_div_self]
  have e2:k % (an * m) % m = k % m:=Nat.mod_mul_left_mod k an m
  have e3:k / (an * m) = k / m / an:=by rw [Nat.mul_comm an m,Nat.div_div_eq_div_mul]
  rw [e1,e2,e3,<- sumTo_rev]
  refine sumTo_congr _ fun t htq=>?_
  have hq:k / m % an <= k / m:=Nat.mod_le _ _
  have e6:=Nat.div_add_mod (k / m) an
  rw [Nat.mul_comm an] at e6
  obtain ⟨u,hu⟩:∃ u,u = k / m % an - t:=⟨_,rfl⟩
  rw [<- hu]
  have htm:u * m <= k:=Nat.le_trans (Nat.mul_le_mul_right m (show u <= k / m by omega)) (Nat.div_mul_le_self k m)
  rw [ih (k - u * m) (by omega)]
  have e8:k = (k / m - u) * m + k % m + u * m:=by
   have h1:=Nat.div_add_mod k m
   rw [Nat.mul_comm] at h1
   have h2:k / m * m = (k / m - u) * m + u * m:=by rw [<- Nat.add_mul,Nat.sub_add_cancel (by omega)]
   omega
  have e9:k - u * m = k % m + m * (k / m - u):=by rw [Nat.mul_comm m]; omega
  have hlt:=Nat.mod_lt k (show 0 < m by omega)
  have e4:(k - u * m) / m = k / m - u:=by rw [e9,Nat.add_mul_div_left _ _ (by omega),Nat.div_eq_of_lt hlt,Nat.zero_add]
  have e5:(k - u * m) % m = k % m:=by rw [e9,Nat.add_mul_mod_self_left,Nat.mod_eq_of_lt hlt]
  rw [e4,e5]
  refine pre_congrU r _ fun k'=>?_
  congr 1
  have e7:k / m - u = k / m / an * an + t:=by omega
  rw [e7,Nat.add_mul,Nat.mul_assoc]; omega
noncomputable def T (p:List Int):List (List Int) -> (Nat -> Int) -> Nat -> Int
 | [],_,_=>0
 | o :: os,f,s=>(if leq p o = true then f s else 0) + T p os f (s + 1)
theorem T_append (p:List Int) (f:Nat -> Int):∀ (xs ys:List (List Int)) (s:Nat),T p (xs ++ ys) f s = T p xs f s + T p ys f (s + xs.length)
 | [],ys,s=>by show T p ys f s = 0 + T p ys f (s + 0); rw [Nat.add_zero]; omega
 | o :: os,ys,s=>by
  show _ + T p (os ++ ys) f (s + 1) = _ + T p os f (s + 1) + T p ys f (s + (os.length + 1))
  rw [T_append p f os ys (s + 1),show s + 1 + os.length = s + (os.length + 1) by omega]; omega
theorem T_shift (p:List Int) (f:Nat -> Int):∀ (xs:List (List Int)) (s d:Nat),T p xs f (d + s) = T p xs (fun k=>f (d + k)) s
 | [],_,_=>rfl
 | o :: os,s,d=>by
  show (if leq p o = true then f (d + s) else 0) + T p os f (d + s + 1) = (if leq p o = true then f (d + s) else 0) + T p os _ (s + 1)
  rw [show d + s + 1 = d + (s + 1) by omega,T_shift p f os (s + 1) d]
theorem tot_T (p:List Int):∀ (ps:List (List Int)) (cs:List Int) (f:Nat -> Int) (s:Nat) (acc:Int),ps.length = cs.length -> (∀ i,i < cs.length -> f (s + i) = cs.getD i 0) ->
  (ps.zip cs).foldl (fun acc oc=>if leq p oc.1 = true then acc + oc.2 else acc) acc = acc + T p ps f s
 | [],_,f,s,acc,_,_=>by show acc = acc + 0; omega
 | o :: os,[],f,s,acc,h,_=>by simp at h
 | o :: os,c :: cs,f,s,acc,h,hf=>by
  show (os.zip cs).foldl _ (if leq p o = true then acc + c else acc) = acc + ((if leq p o = true then f s else 0) + T p os f (s + 1))
  have h0:=hf 0 (by simp)
  rw [Nat.add_zero] at h0
  have h0:f s = c:=h0
  rw [tot_T p os cs f (s + 1) _ (by simpa using h) fun i hi=>by
    have:=hf (i + 1) (by simp; omega)
    rw [show s + 1 + i = s + (i + 1) by omega,this]; rfl]
  rw [h0]
  split <;> omega
theorem foldP_append:∀ (sd:List Int) (f g:List (List Int)),sd.foldl stepP (f ++ g) = sd.foldl stepP f ++ sd.foldl stepP g
 | [],f,g=>rfl
 | a :: r,f,g=>by
  rw [List.foldl_cons,List.foldl_cons,List.foldl_cons,show stepP (f ++ g) a = stepP f a ++ stepP g a by simp [stepP],foldP_append r]
theorem foldP_cons (c:Int):∀ (sd:List Int) (f:List (List Int)),sd.foldl stepP (f.map (c :: ·)) = (sd.foldl stepP f).map (c :: ·)
 | [],f=>rfl
 | a :: r,f=>by
  rw [List.foldl_cons,List.foldl_cons,<- foldP_cons c r]
  congr 1
  simp [stepP,rowP,List.flatMap_map,List.map_flatMap]
  rfl
theorem foldP_nil:∀ sd:List Int,sd.foldl stepP [] = []
 | []=>rfl
 | a :: r=>by rw [List.foldl_cons]; exact foldP_nil r
theorem places_cons (a:Int) (r:List Int):placesOf (a :: r) = (List.range a.toNat).flatMap fun i:Nat=>(placesOf r).map ((i:Int) :: ·):=by
 have go:∀ is:List Nat,r.foldl stepP (is.map fun i:Nat=>[(i:Int)]) = is.flatMap fun i:Nat=>(placesOf r).map ((i:Int) :: ·):=by
  intro is
  induction is with
  | nil=>exact foldP_nil r
  | cons i is ih =>
   rw [List.map_cons,List.flatMap_cons,<- ih]
   have:r.foldl stepP ([(i:Int)] :: is.map fun i:Nat=>[(i:Int)]) = r.foldl stepP ([[(i:Int)]] ++ is.map fun i:Nat=>[(i:Int)]):=rfl
   rw [this,foldP_append]
   congr 1
   exact foldP_cons (i:Int) r [[]]
 have e:stepP [[]] a = (List.range a.toNat).map fun i:Nat=>[(i:Int)]:=by simp [stepP,rowP]
 show r.foldl stepP (stepP [[]] a) = _
 rw [e,go]
theorem leq_cons (i i':Int) (p o:List Int):leq (i :: p) (i' :: o) = (decide (i' <= i) && leq p o):=rfl
theorem T_map (i:Int) (i':Int) (p:List Int) (f:Nat -> Int):∀ (xs:List (List Int)) (s:Nat),T (i :: p) (xs.map (i' :: ·)) f s = if i' <= i then T p xs f s else 0
 | [],s=>by simp [T]
 | o :: os,s=>by
  show (if leq (i :: p) (i' :: o) = true then f s else 0) + T (i :: p) (os.map (i' :: ·)) f (s + 1) = _
  rw [leq_cons,T_map i i' p f os (s + 1)]
  by_cases h:i' <= i
  ·rw [if_pos h,if_pos h]; simp [h,T]
  ·rw [if_neg h,if_neg h]; simp [h]
theorem T_rows (i:Nat) (p:List Int) (f:Nat -> Int) (xs:List (List Int)):∀ A:Nat,T ((i:Int) :: p) ((List.range A).flatMap fun j:Nat=>xs.map ((j:Int) :: ·)) f 0 =
  if A = 0 then 0 else sumTo (min i (A - 1)) fun j=>T p xs (fun k=>f (j * xs.length + k)) 0
 | 0=>by simp [T]
 | A + 1=>by
  rw [List.range_succ,List.flatMap_append,T_append,T_rows i p f xs A,List.flatMap_singleton,T_map]
  have hlen:((List.range A).flatMap fun j:Nat=>xs.map ((j:Int) :: ·)).length = A * xs.length:=by
   induction A with
   | zero=>simp
   | succ A ih=>rw [List.range_succ,List.flatMap_append,List.length_append,ih,List.flatMap_singleton,List.length_map,Nat.add_mul]; omega
  rw [hlen,Nat.zero_add,if_neg (by omega:¬ A + 1 = 0)]
  have e:=T_shift p f xs 0 (A * xs.length)
  rw [Nat.add_zero] at e
  by_cases hA:A = 0
  ·subst hA
   rw [if_pos rfl,if_pos (by omega),show min i (0 + 1 - 1) = 0 by omega]
   show 0 + T p xs f (0 * xs.length) = T p xs (fun k=>f (0 * xs.length + k)) 0
   rw [<- e]; omega
  ·rw [if_neg hA]
   by_cases hi:A <= i
   ·rw [if_pos (by omega),show min i (A + 1 - 1) = (A - 1) + 1 by omega,show min i (A - 1) = A - 1 by omega]
    show _ + T p xs f (A * xs.length) = sumTo (A - 1) _ + T p xs (fun k=>f ((A - 1 + 1) * xs.length + k)) 0
    rw [show A - 1 + 1 = A by omega,<- e]
   ·rw [if_neg (by omega),show min i (A + 1 - 1) = i by omega,show min i (A - 1) = i by omega]; omega
theorem places_len {sd:List Int} (h:∀ c ∈ sd,1 <= c):(placesOf sd).length = prodN sd:=by
 have h1:=foldP_len sd [[]] h
 rw [prodN_I h] at h1
 have h6:(([[]]:List (List Int)).length:Int) = 1:=rfl
 rw [h6] at h1
 unfold placesOf; omega
theorem flat_get {xs:List (List Int)} {i j:Nat} (hj:j < xs.length):∀ A:Nat,i < A -> ((List.range A).flatMap fun t:Nat=>xs.map ((t:Int) :: ·))[i * xs.length + j]? = some ((i:Int) :: xs[j])
 | 0,h=>by omega
 | A + 1,h=>by
  have hlen:((List.range A).flatMap fun j:Nat=>xs.map ((j:Int) :: ·)).length = A * xs.length:=by
   clear h
   induction A with
   | zero=>simp
   | succ A ih=>rw [List.range_succ,List.flatMap_append,List.length_append,ih,List.flatMap_singleton,List.length_map,Nat.add_mul]; omega
  rw [List.range_succ,List.flatMap_append,List.flatMap_singleton]
  by_cases hi:i < A
  ·rw [List.getElem?_append_left,flat_get hj A hi]
   rw [hlen]
   have:=Nat.mul_le_mul_right xs.length (show i + 1 <= A by omega)
   rw [Nat.add_mul] at this; omega
  ·have:i = A:=by omega
   subst this
   rw [List.getElem?_append_right (by rw [hlen]; omega),hlen,Nat.add_sub_cancel_left,List.getElem?_map,List.getElem?_eq_getElem hj]; rfl
theorem law_val:∀ (sd:List Int),(∀ c ∈ sd,1 <= c) -> ∀ (f:Nat -> Int) (k:Nat) (p:List Int),(placesOf sd)[k]? = some p -> T p (placesOf sd) f 0 = pre sd f k
 | [],_,f,k,p,hp=>by
  have hp:([[]]:List (List Int))[k]? = some p:=hp
  cases k with
  | zero =>
   have:[] = p:=by simpa using hp
   subst this
   show (if leq [] [] = true then f 0 else 0) + 0 = f 0
   rw [if_pos (show leq [] [] = true from rfl)]; omega
  | succ k=>simp at hp
 | a :: r,h,f,k,p,hp=>by
  have h1:=h a List.mem_cons_self
  have hr:∀ c ∈ r,1 <= c:=fun c hc=>h c (List.mem_cons_of_mem _ hc)
  have hm:=prodN_pos hr
  have hl:=places_len hr
  have hk:k < (placesOf (a :: r)).length:=(List.getElem?_eq_some_iff.mp hp).1
  rw [places_len h] at hk
  have hk:k < a.toNat * prodN r:=hk
  have hi:k / prodN r < a.toNat:=Nat.div_lt_of_lt_mul (by rw [Nat.mul_comm]; exact hk)
  have hj:k % prodN r < (placesOf r).length:=by rw [hl]; exact Nat.mod_lt _ (by omega)
  have ek:k = k / prodN r * (placesOf r).length + k % prodN r:=by rw [hl,Nat.mul_comm]; exact (Nat.div_add_mod k _).symm
  rw [places_cons] at hp ⊢
  have hg:=flat_get (i:=k / prodN r) hj a.toNat hi
  rw [<- ek,hp] at hg
  have hg:=Option.some.inj hg
  subst hg
  rw [T_rows,if_neg (by omega),show min (k / prodN r) (a.toNat - 1) = k / prodN r by omega]
  show _ = sumTo (k / prodN r) fun i=>pre r (fun k'=>f (i * prodN r + k')) (k % prodN r)
  refine sumTo_congr _ fun i _=>?_
  rw [hl]
  exact law_val r hr _ _ _ (List.getElem?_eq_getElem hj)
theorem runEq {sd cs:List Int} (hp:∀ c ∈ sd,1 <= c) (hc:cs.length = (placesOf sd).length):runProg sd.reverse 1 cs = runOf sd cs:=by
 have hl:=places_len hp
 have hm:=prodN_pos hp
 have l1:(runProg sd.reverse 1 cs).length = cs.length:=runProg_len _ _ _
 have l2:(runOf sd cs).length = cs.length:=by unfold runOf; rw [List.length_map,hc]
 refine List.ext_getElem (by rw [l1,l2]) fun k k1 k2=>?_
 have hk:k < cs.length:=by omega
 have hkn:k < prodN sd:=by omega
 have e1:=prog_val sd hp cs 1 (by rw [hc,hl,Nat.one_mul]) k hk
 rw [List.getD_eq_getElem?_getD,List.getElem?_eq_getElem k1,Option.getD_some,Nat.div_eq_of_lt hkn,Nat.mod_eq_of_lt hkn] at e1
 rw [e1]
 have hkp:k < (placesOf sd).length:=by omega
 have e2:(runOf sd cs)[k] = tot (placesOf sd)[k] ((placesOf sd).zip cs):=by simp [runOf]
 rw [e2]
 have e3:=tot_T (placesOf sd)[k] (placesOf sd) cs (fun i=>cs.getD i 0) 0 0 hc.symm fun i _=>by rw [Nat.zero_add]
 unfold tot
 rw [e3,law_val sd hp _ k _ (List.getElem?_eq_getElem hkp),Int.zero_add]
 exact pre_congrU sd k fun i=>by rw [Nat.zero_mul,Nat.zero_add]
end RM
namespace R46
open PySem L2 L3 PyProof.Rows
noncomputable def top (i:Nat):Stmt:=PySem.Challenge.pw_boxsums_k46_papers_of_bests_spoilt.main.body.getD i (.Pass ⟨0,0,0,0⟩)
structure Txt (mg:Str -> Option Value):Prop where
 len_:mg "len" = none
 isinstance_:mg "isinstance" = none
 int_:mg "int" = none
 bool_:mg "bool" = none
 list_:mg "list" = none
 tuple_:mg "tuple" = none
 range_:mg "range" = none
 zip_:mg "zip" = none
 all_:mg "all" = none
 sum_:mg "sum" = none
 sorted_:mg "sorted" = none
 max_:mg "max" = none
 enumerate_:mg "enumerate" = none
 reversed_:mg "reversed" = none
 min_:mg "min" = none
 abs_:mg "abs" = none
 str_:mg "str" = none
 dict_:mg "dict" = none
local macro_rules | `(tactic| walk_at "po")=>`(tactic| first | (show (0:Int) < _; decide) | (show (0:Int) < _; omega) | exact ⟨by decide,by decide⟩ | exact Or.inl ⟨by decide,by decide⟩ | exact Or.inr ⟨by decide,by decide⟩ | exact ⟨by omega,by omega⟩ | exact Or.inl ⟨by omega,by omega⟩ | exact Or.inr ⟨by omega,by omega⟩ | decide | omega | assumption)
section
variable {P:Program} {w:World} {K:PySem.W.Frag} {mg:Str -> Option Value} {base:Heap}
noncomputable abbrev penE (ns:List Int) (k l:Int):List (PyData × PyData):=[(.str "script",scrD ns),(.str "at",.int k),(.str "left",.int l)]
noncomputable abbrev penD (ns:List Int) (k l:Int):PyData:=.dict (penE ns k l)
theorem g_script (ns:List Int) (k l:Int):getE (penE ns k l) (.str "script") = some (scrD ns):=by rfl
theorem g_at (ns:List Int) (k l:Int):getE (penE ns k l) (.str "at") = some (.int k):=by rfl
theorem g_left (ns:List Int) (k l:Int):getE (penE ns k l) (.str "left") = some (.int l):=by rfl
theorem p_at (ns:List Int) (k l k':Int):putKE (penE ns k l) (.inr "at") (.int k') = penE ns k' l:=by rfl
theorem p_left (ns:List Int) (k l l':Int):putKE (penE ns k l) (.inr "left") (.int l') = penE ns k l':=by rfl
theorem s_at (ns:List Int) (k l:Int):(getK (penE ns k l) (.inr "at")).isSome = true:=by rfl
theorem s_left (ns:List Int) (k l:Int):(getK (penE ns k l) (.inr "left")).isSome = true:=by rfl
theorem z3 (ns:List Int) (k l:Int):(penE ns k l).length < sizeLine:=by show 3 < sizeLine; decide
noncomputable def cBegin:Con:=fun args Q=>∃ ns:List Int,args = [.fz (scrD ns)] /\ ∀ o,Q (.ow (penD ns 0 0)) o
theorem scBegin:FnScope ["_law_script"] ["_law_script"] (defScope (top 26)):=⟨rfl,rfl,rfl,by decide +kernel,rfl,by decide +kernel,by decide +kernel⟩
theorem ok_begin {f:Addr} {fd:FuncData} (F:Fun K "_law_begin" "_law_begin" (top 26) f fd):FnOk P w K mg base CX0 1 f fd ["_law_script"] (conSp K cBegin):=by
 have S:=scBegin
 refine wfn F S (fun cdv A outer s H E hr=>(s_one (s_ret (w_disp [(.inr "script",.inl 0),(.inr "at",.inr (.int 0)),(.inr "left",.inr (.int 0))] (by decide +kernel) (by decide) (by simp) (pe_disp (pps_cons pe_str (pv 0) (pps_cons pe_str pe_int (pps_cons pe_str pe_int pps_nil))) rfl rfl (by simp) (by simp)))))) ?_ ?_
 ·rintro args Qd ⟨ns,rfl,_⟩; rfl
 ·rintro args Qd ⟨ns,rfl,q⟩
  exact ⟨noOw_of rfl,q _⟩
noncomputable def cMixed:Con:=fun args Q=>∃ a k:Int,args = [.fz (.int a),.fz (.int k)] /\ ∀ r o,0 <= r -> Q (.fz (.int r)) o
theorem scMixed:FnScope ["_law_cell","_law_k","_law_one","_law_two"] ["_law_cell","_law_k"] (defScope (top 27)):=⟨rfl,rfl,rfl,by decide +kernel,rfl,by decide +kernel,by decide +kernel⟩
theorem ok_mixed {f:Addr} {fd:FuncData} (F:Fun K "_law_mixed" "_law_mixed" (top 27) f fd):FnOk P w K mg base CX0 1 f fd ["_law_cell","_law_k"] (conSp K cMixed):=by
 have S:=scMixed
 refine wfn F S (fun cdv A outer s H E hr=>(s_cons (s_set (i:=2) S.nd rfl (Or.inl rfl) (w_bin ok_mod op_mod (wx (w_bin ok_mul op_mulD (wx (w_bin ok_add op_addD (wx (w_bin ok_add op_addD (wx (w_bin ok_mod op_mod (wn 0) (wx w_int))) (wx (w_bin ok_mul op_mulD (wx w_int) (wn 1))))) (wx w_int))) (wx w_int))) (wx w_int)))
     (s_cons (s_set (i:=3) S.nd rfl (Or.inl rfl) (w_bin ok_mod op_mod (wx (w_bin ok_add op_addD (wx (w_bin ok_add op_addD (wx (w_bin ok_mul op_mulD (wn 2) (wn 2))) (wx (w_bin ok_mul op_mulD (wx w_int) (wn 2))))) (wn 1))) (wx w_int)))
     (s_one (s_ret (w_bin ok_fdiv op_fdiv (wx (w_bin ok_mod op_mod (wx (w_bin ok_add op_addD (wx (w_bin ok_add op_addD (wx (w_bin ok_mul op_mulD (wn 3) (wn 3))) (wx (w_bin ok_mul op_mulD (wx w_int) (wn 3))))) (wx (w_bin ok_mul op_mulD (wx w_int) (wn 1))))) (wx w_int))) (wx w_int))))))) ?_ ?_
 ·rintro args Qd ⟨a,k,rfl,_⟩; rfl
 ·rintro args Qd ⟨a,k,rfl,q⟩
  refine ⟨noOw_of rfl,?_⟩
  refine ⟨by walk_at "po",.inl ⟨by decide,by decide⟩,.inr ⟨by decide,by decide⟩,by walk_at "po",?_⟩
  refine ⟨.inl ⟨by omega,by omega⟩,.inl ⟨by decide,by decide⟩,by walk_at "po",?_⟩
  refine ⟨.inl ⟨by omega,by omega⟩,.inl ⟨by decide,by decide⟩,.inl ⟨by decide,by decide⟩,by walk_at "po",⟨by decide,by decide⟩,?_⟩
  exact q _ _ (by omega)
structure CalsA (P:Program) (w:World) (K:PySem.W.Frag) (mg:Str -> Option Value) (base:Heap):Prop where
 law_mixed:Cal P w K mg base 1 "_law_mixed" ["_law_cell","_law_k"] (conSp K cMixed)
noncomputable def cTake:Con:=fun args Q=>∃ (ns:List Int) (k l m:Int),args = [.io (penD ns k l),.fz (.int m)] /\ 0 <= k /\ 0 <= l /\ 0 < m /\ m < 1000000 /\
 ∀ (r k' l':Int) (o:Ev),0 <= r -> r < m -> 0 <= k' -> 0 <= l' -> Q (.fz (.int r)) (some (.io (penD ns k' l')) :: o)
theorem scTake:FnScope ["_law_state","_law_most","_law_k","_law_script","_law_cell","_law_found"] ["_law_state","_law_most"] (defScope (top 28)):=⟨rfl,rfl,rfl,by decide +kernel,rfl,by decide +kernel,by decide +kernel⟩
theorem ok_take {f:Addr} {fd:FuncData} (F:Fun K "_law_take" "_law_take" (top 28) f fd) (T:Txt mg) (C:CalsA P w K mg base):FnOk P w K mg base CX0 2 f fd ["_law_state","_law_most"] (conSp K cTake):=by
 have S:=scTake
 refine wfn F S (fun cdv A outer s H E hr=>(s_cons (s_set (i:=2) S.nd rfl (Or.inl rfl) (w_dget (hu_of hr) (wn 0) (wx w_str)))
     (s_cons (s_set (i:=3) S.nd rfl (Or.inl rfl) (w_dget (hu_of hr) (wn 0) (wx w_str)))
     (s_cons (s_if (t_cmp ok_eq (op_eqE (K:=K) rfl hr.units) (wx (w_dget (hu_of hr) (wn 0) (wx w_str))) (wx w_int)) (s_cons (s_key (hu_of hr) (wn 0) (wx w_str) (w_bin ok_add op_addD (wn 2) (wx w_int)))
     (s_cons (s_set (i:=4) S.nd rfl (Or.inl rfl) w_int)
     (s_cons (s_if (t_cmp ok_gt op_gt (wx (w_callB ok_len (call_lenK (K:=K) rfl) T.len_ PySem.boot_len (wa_cons (wn 3) wa_nil))) (wx w_int)) (s_one (s_set (i:=4) S.nd rfl (Or.inl rfl) (w_ix rfl (wn 3) (wx (w_bin ok_mod op_mod (wn 2) (wx (w_callB ok_len (call_lenK (K:=K) rfl) T.len_ PySem.boot_len (wa_cons (wn 3) wa_nil)))))))) s_nil)
     (s_cons (s_if (t_w (t_or (t_cmp ok_ge op_ge (wn 2) (wx (w_callB ok_len (call_lenK (K:=K) rfl) T.len_ PySem.boot_len (wa_cons (wn 3) wa_nil)))) (t_or1 (t_cmp ok_lt op_lt (wx (w_callB ok_abs call_abs T.abs_ boot_abs (wa_cons (wn 4) wa_nil))) (wx (w_bin ok_pow op_pow (wx w_int) (wx w_int))))))) (s_one (s_ret (w_bin ok_mod op_mod (wx (w_fn C.law_mixed (hr.mono (by first | decide | omega)) (wa_cons (wn 4) (wa_cons (wn 2) wa_nil)))) (wn 1)))) s_nil)
     (s_one (s_key (hu_of hr) (wn 0) (wx w_str) (w_callB ok_abs call_abs T.abs_ boot_abs (wa_cons (wn 4) wa_nil)))))))) s_nil)
     (s_cons (s_set (i:=5) S.nd rfl (Or.inl rfl) (w_bin ok_mod op_mod (wx (w_dget (hu_of hr) (wn 0) (wx w_str))) (wn 1)))
     (s_cons (s_key (hu_of hr) (wn 0) (wx w_str) (w_bin ok_fdiv op_fdiv (wx (w_dget (hu_of hr) (wn 0) (wx w_str))) (wn 1)))
     (s_one (s_retV (wn 5))))))))) ?_ ?_
 ·rintro args Qd ⟨ns,k,l,m,rfl,_⟩; rfl
 ·rintro args Qd ⟨ns,k,l,m,rfl,hk,hl,m0,m1,q⟩
  refine ⟨noOw_of rfl,?_⟩
  have fin:∀ (k1 l1:Int) (c:Option Sl),0 <= k1 -> 0 <= l1 -> dSeq (dSet 5 (dOp [Sum.inr (dOp [Sum.inl 0,Sum.inr (dC (.str "left"))] (o2 fDGet)),Sum.inl 1] (o2 (fI CMod fun i j=>.int (i % j)))))
    (dSeq (dSetKey 0 (Sum.inr (dC (.str "left"))) (dOp [Sum.inr (dOp [Sum.inl 0,Sum.inr (dC (.str "left"))] (o2 fDGet)),Sum.inl 1] (o2 (fI CDiv fun i j=>.int (i / j))))) (dRetV 5))
    (endsOf [Sl.io (penD ns k l),Sl.fz (.int m)] Qd) [some (.io (penD ns k1 l1)),some (.fz (.int m)),some (.fz (.int k)),some (.fz (scrD ns)),c,none]:=fun k1 l1 c hk1 hl1 =>
   ⟨_,g_left ns k1 l1,m0,_,g_left ns k1 l1,⟨m0,by omega⟩,z3 ns k1 l1,s_left ns k1 l1,q _ _ _ _ (Int.emod_nonneg _ (by omega)) (Int.emod_lt_of_pos _ m0) hk1 (Int.ediv_nonneg hl1 (by omega))⟩
  refine ⟨_,g_at ns k l,?_⟩
  refine ⟨_,g_script ns k l,?_⟩
  refine ⟨_,g_left ns k l,?_⟩
  refine ite2 (fun h1=>?_) (fun h1=>?_)
  ·refine ⟨z3 ns k l,s_at ns k l,?_⟩
   have tail:∀ c:Int,dSeq (dIfS (dOr (dTst (dOp [Sum.inl 2,Sum.inr (dOp [Sum.inl 3] (o1 fLen))] (o2 (fI0 fun i j=>.bool (decide (j <= i)))))) (dTst (dOp [Sum.inr (dOp [Sum.inl 4] (o1 fAbs)),Sum.inr (dOp [Sum.inr (dC (.int 10)),Sum.inr (dC (.int 18))] (o2 (fI CPow fun i j=>.int (i ^ j.toNat))))] (o2 (fI0 fun i j=>.bool (decide (i < j)))))))
         (dRet (dOp [Sum.inr (dCall cMixed [Sum.inl 4,Sum.inl 2]),Sum.inl 1] (o2 (fI CMod fun i j=>.int (i % j))))) dNext) (dSetKey 0 (Sum.inr (dC (.str "left"))) (dOp [Sum.inl 4] (o1 fAbs)))
      { nx:=fun ρ'=>dSeq (dSet 5 (dOp [Sum.inr (dOp [Sum.inl 0,Sum.inr (dC (.str "left"))] (o2 fDGet)),Sum.inl 1] (o2 (fI CMod fun i j=>.int (i % j)))))
          (dSeq (dSetKey 0 (Sum.inr (dC (.str "left"))) (dOp [Sum.inr (dOp [Sum.inl 0,Sum.inr (dC (.str "left"))] (o2 fDGet)),Sum.inl 1] (o2 (fI CDiv fun i j=>.int (i / j))))) (dRetV 5)) (endsOf [Sl.io (penD ns k l),Sl.fz (.int m)] Qd) ρ',
        rt:=(endsOf [Sl.io (penD ns k l),Sl.fz (.int m)] Qd).rt,bk:=(endsOf [Sl.io (penD ns k l),Sl.fz (.int m)] Qd).bk,ct:=(endsOf [Sl.io (penD ns k l),Sl.fz (.int m)] Qd).ct }
      [some (.io (penD ns (k + 1) l)),some (.fz (.int m)),some (.fz (.int k)),some (.fz (scrD ns)),some (.fz (.int c)),none]:=fun c=>by
    have done:dRet (dOp [Sum.inr (dCall cMixed [Sum.inl 4,Sum.inl 2]),Sum.inl 1] (o2 (fI CMod fun i j=>.int (i % j)))) (endsOf [Sl.io (penD ns k l),Sl.fz (.int m)] Qd)
      [some (.io (penD ns (k + 1) l)),some (.fz (.int m)),some (.fz (.int k)),some (.fz (scrD ns)),some (.fz (.int c)),none] :=
     ⟨c,k,rfl,fun r _ hr=>⟨m0,q _ _ _ _ (Int.emod_nonneg _ (by omega)) (Int.emod_lt_of_pos _ m0) (by omega) hl⟩⟩
    refine ⟨ns,rfl,?_⟩
    refine ite2 (fun h3=>?_) (fun h3=>?_)
    ·exact done
    ·refine ⟨⟨by decide,by decide,by decide⟩,?_⟩
     refine ite2 (fun h4=>?_) (fun h4=>?_)
     ·exact done
     ·refine ⟨z3 ns (k + 1) l,s_left ns (k + 1) l,?_⟩
      exact fin (k + 1) _ _ (by omega) (by split <;> omega)
   refine ⟨ns,rfl,?_⟩
   refine ite2 (fun h2=>?_) (fun h2=>?_)
   ·have hpos:(0:Int) < (ns.length:Int):=of_decide_eq_true h2
    have hb:=Int.emod_lt_of_pos k hpos
    have ha:=Int.emod_nonneg k (show (ns.length:Int) ≠ 0 by omega)
    obtain ⟨j,hj⟩:=Int.eq_ofNat_of_zero_le ha
    have hjl:j < ns.length:=by omega
    refine ⟨ns,rfl,hpos,ns,ns[j],rfl,?_,?_⟩
    ·rw [hj]; exact atI_nat (List.getElem?_eq_getElem hjl)
    ·exact tail _
   ·exact tail 0
  ·exact fin k l none hk hl
structure CalsB (P:Program) (w:World) (K:PySem.W.Frag) (mg:Str -> Option Value) (base:Heap):Prop where
 law_take:Cal P w K mg base 2 "_law_take" ["_law_state","_law_most"] (conSp K cTake)
noncomputable def cNumber:Con:=fun args Q=>∃ (ns:List Int) (k l:Int),args = [.io (penD ns k l)] /\ 0 <= k /\ 0 <= l /\ ∀ (r k' l':Int) (o:Ev),0 <= k' -> 0 <= l' -> -(10 ^ 30) < r -> r < 10 ^ 30 -> Q (.fz (.int r)) (some (.io (penD ns k' l')) :: o)
theorem scNumber:FnScope ["_law_state","_law_way"] ["_law_state"] (defScope (top 30)):=⟨rfl,rfl,rfl,by decide +kernel,rfl,by decide +kernel,by decide +kernel⟩
theorem ok_number {f:Addr} {fd:FuncData} (F:Fun K "_law_number" "_law_number" (top 30) f fd) (C:CalsB P w K mg base):FnOk P w K mg base CX0 3 f fd ["_law_state"] (conSp K cNumber):=by
 have S:=scNumber
 refine wfn F S (fun cdv A outer s H E hr=>(s_cons (s_set (i:=1) S.nd rfl (Or.inl rfl) (w_fnI C.law_take (hr.mono (by first | decide | omega)) (wa_cons (wn 0) (wa_cons (wx w_int) wa_nil))))
     (s_cons (s_if (t_cmp ok_lt op_lt (wn 1) (wx w_int)) (s_one (s_ret (w_bin ok_sub op_sub (wx (w_fnI C.law_take (hr.mono (by first | decide | omega)) (wa_cons (wn 0) (wa_cons (wx w_int) wa_nil)))) (wx w_int)))) s_nil)
     (s_cons (s_if (t_cmp ok_lt op_lt (wn 1) (wx w_int)) (s_one (s_ret w_int)) s_nil)
     (s_cons (s_if (t_cmp ok_lt op_lt (wn 1) (wx w_int)) (s_one (s_ret (w_bin ok_sub op_sub (wx (w_fnI C.law_take (hr.mono (by first | decide | omega)) (wa_cons (wn 0) (wa_cons (wx w_int) wa_nil)))) (wx w_int)))) s_nil)
     (s_one (s_ret (w_bin ok_mul op_mulD (wx (w_bin ok_sub op_sub (wx w_int) (wx (w_bin ok_mul op_mulD (wx w_int) (wx (w_fnI C.law_take (hr.mono (by first | decide | omega)) (wa_cons (wn 0) (wa_cons (wx w_int) wa_nil)))))))) (wx (w_bin ok_sub op_sub (wx (w_bin ok_sub op_sub (wx (w_bin ok_pow op_pow (wx w_int) (wx w_int))) (wx w_int))) (wx (w_fnI C.law_take (hr.mono (by first | decide | omega)) (wa_cons (wn 0) (wa_cons (wx w_int) wa_nil)))))))))))))) ?_ ?_
 ·rintro args Qd ⟨ns,k,l,rfl,_⟩; rfl
 ·rintro args Qd ⟨ns,k,l,rfl,hk,hl,q⟩
  refine ⟨noOw_of rfl,?_⟩
  refine ⟨ns,k,l,_,rfl,hk,hl,by decide,by decide,fun way k1 l1 _ w0 w1 hk1 hl1=>?_⟩
  refine ite2 (fun _=>?_) (fun _=>?_)
  ·exact ⟨ns,k1,l1,_,rfl,hk1,hl1,by decide,by decide,fun r k2 l2 _ r0 r1 hk2 hl2=>q _ _ _ _ hk2 hl2 (by omega) (by omega)⟩
  refine ite2 (fun _=>?_) (fun _=>?_)
  ·exact q _ _ _ _ hk1 hl1 (by decide) (by decide)
  refine ite2 (fun _=>?_) (fun _=>?_)
  ·exact ⟨ns,k1,l1,_,rfl,hk1,hl1,by decide,by decide,fun r k2 l2 _ r0 r1 hk2 hl2=>q _ _ _ _ hk2 hl2 (by omega) (by omega)⟩
  ·refine ⟨ns,k1,l1,_,rfl,hk1,hl1,by decide,by decide,fun r k2 l2 _ r0 r1 hk2 hl2=>?_⟩
   refine ⟨.inl ⟨by decide,by decide⟩,⟨by decide,by decide,by decide⟩,ns,k2,l2,_,rfl,hk2,hl2,by decide,by decide,fun r' k3 l3 _ r0' r1' hk3 hl3=>?_⟩
   have e:r = 0 \/ r = 1:=by omega
   refine ⟨.inl ⟨by omega,by omega⟩,q _ _ _ _ hk3 hl3 ?_ ?_⟩
   ·rcases e with rfl | rfl
    ·show -(10 ^ 30:Int) < (1 - 2 * 0) * (10 ^ 30 - 1 - r'); omega
    ·show -(10 ^ 30:Int) < (1 - 2 * 1) * (10 ^ 30 - 1 - r'); omega
   ·rcases e with rfl | rfl
    ·show (1 - 2 * 0) * (10 ^ 30 - 1 - r') < (10 ^ 30:Int); omega
    ·show (1 - 2 * 1) * (10 ^ 30 - 1 - r') < (10 ^ 30:Int); omega
end
end R46
namespace R46
open PySem L2 L3 PyProof.Rows
section
variable {P:Program} {w:World} {K:PySem.W.Frag} {mg:Str -> Option Value} {base:Heap}
structure CalsC (P:Program) (w:World) (K:PySem.W.Frag) (mg:Str -> Option Value) (base:Heap):Prop where
 law_take:Cal P w K mg base 2 "_law_take" ["_law_state","_law_most"] (conSp K cTake)
 law_number:Cal P w K mg base 3 "_law_number" ["_law_state"] (conSp K cNumber)
noncomputable def Big (c:Int):Prop:=-(10 ^ 30) < c /\ c < 10 ^ 30
noncomputable def cCells:Con:=fun args Q=>∃ (ns:List Int) (k l:Int) (n:Nat),args = [.io (penD ns k l),.fz (.int n)] /\ 0 <= k /\ 0 <= l /\ n <= 1000 /\
 ∀ (cs:List Int) (k' l':Int) (o:Ev),cs.length = n -> (∀ c ∈ cs,Big c) -> 0 <= k' -> 0 <= l' -> Q (.ow (.list (cs.map PyData.int))) (some (.io (penD ns k' l')) :: o)
theorem scCells:FnScope ["_law_state","_law_many","_law_some"] ["_law_state","_law_many"] (defScope (top 31)):=⟨rfl,rfl,rfl,by decide +kernel,rfl,by decide +kernel,by decide +kernel⟩
theorem ok_cells {f:Addr} {fd:FuncData} (F:Fun K "_law_cells" "_law_cells" (top 31) f fd) (T:Txt mg) (C:CalsC P w K mg base):FnOk P w K mg base CX0 4 f fd ["_law_state","_law_many"] (conSp K cCells):=by
 have S:=scCells
 refine wfn F S (fun cdv A outer s H E hr=>(s_cons (s_set (i:=2) S.nd rfl (Or.inr rfl) (w_lst (wa_cons (wx (w_fnI C.law_number (hr.mono (by first | decide | omega)) (wa_cons (wn 0) wa_nil))) (wa_cons (wx (w_fnI C.law_number (hr.mono (by first | decide | omega)) (wa_cons (wn 0) wa_nil))) wa_nil))))
     (s_cons (s_if (t_cmp ok_eq (op_eqE (K:=K) rfl hr.units) (wx (w_fnI C.law_take (hr.mono (by first | decide | omega)) (wa_cons (wn 0) (wa_cons (wx w_int) wa_nil)))) (wx w_int)) (s_one (s_ret (w_comp rfl (own:=["_law_k"]) (fr:=[2,0]) (by kernel_rfl) (i_rng1 T.range_ (wa_cons (wn 1) wa_nil)) (fun _ _ _ _=>(g_name (i:=0) (by decide +kernel:List.Nodup (["_law_k","_law_some","_law_state"]:List Str)) rfl (Or.inl rfl))) (fun _ _ _ _=>if0) (fun _ _ _ _=>(w_ix rfl (wn 1) (wx (w_fnI C.law_take (hr.mono (by first | decide | omega)) (wa_cons (wn 2) (wa_cons (wx w_int) wa_nil))))))))) s_nil)
     (s_one (s_ret (w_comp rfl (own:=["_law_k"]) (fr:=[0]) (by kernel_rfl) (i_rng1 T.range_ (wa_cons (wn 1) wa_nil)) (fun _ _ _ _=>(g_name (i:=0) (by decide +kernel:List.Nodup (["_law_k","_law_state"]:List Str)) rfl (Or.inl rfl))) (fun _ _ _ _=>if0) (fun _ _ _ _=>(w_fnI C.law_number (hr.mono (by first | decide | omega)) (wa_cons (wn 1) wa_nil))))))))) ?_ ?_
 ·rintro args Qd ⟨ns,k,l,n,rfl,_⟩; rfl
 ·rintro args Qd ⟨ns,k,l,n,rfl,hk,hl,hn,q⟩
  refine ⟨noOw_of rfl,?_⟩
  refine ⟨ns,k,l,rfl,hk,hl,fun a k1 l1 _ hk1 hl1 a0 a1=>?_⟩
  refine ⟨ns,k1,l1,rfl,hk1,hl1,fun b k2 l2 _ hk2 hl2 b0 b1=>?_⟩
  refine ⟨ns,k2,l2,_,rfl,hk2,hl2,by decide,by decide,fun r k3 l3 _ r0 r1 hk3 hl3=>?_⟩
  have hrl:(rangeD 0 (n:Int).toNat).length <= sizeLine:=by rw [rangeD,List.length_map,List.length_range]; exact le_size (by omega)
  have hb:∀ c ∈ [a,b],Big c:=fun c hc=>by simp at hc; rcases hc with rfl | rfl; exact ⟨a0,a1⟩; exact ⟨b0,b1⟩
  refine ite2 (fun _=>?_) (fun _=>?_)
  ·refine ⟨by omega,by omega,hrl,compN (fun rest acc τ=>∃ (cs:List Int) (k4 l4:Int),τ = [none,some (.io (.list [.int a,.int b])),some (.io (penD ns k4 l4))] /\ acc = cs.map PyData.int /\ cs.length + rest.length = n /\ (∀ c ∈ cs,Big c) /\ 0 <= k4 /\ 0 <= l4) ?_ ?_
     ⟨[],k3,l3,rfl,rfl,by simp [rangeD],fun c hc=>by simp at hc,hk3,hl3⟩⟩
   ·rintro d ds acc τ ⟨cs,k4,l4,rfl,rfl,hlen,hB,hk4,hl4⟩ N hN
    refine ⟨ns,k4,l4,_,rfl,hk4,hl4,by decide,by decide,fun j k5 l5 _ j0 j1 hk5 hl5=>?_⟩
    have hj:j = 0 \/ j = 1:=by omega
    rcases hj with rfl | rfl
    ·exact ⟨.int a,rfl,hN _ _ ⟨cs ++ [a],k5,l5,rfl,by simp [Sl.d],by simp at hlen ⊢; omega,fun c hc=>by rcases List.mem_append.mp hc with z | z; exact hB c z; exact hb c (by simp at z ⊢; exact .inl z),hk5,hl5⟩⟩
    ·exact ⟨.int b,rfl,hN _ _ ⟨cs ++ [b],k5,l5,rfl,by simp [Sl.d],by simp at hlen ⊢; omega,fun c hc=>by rcases List.mem_append.mp hc with z | z; exact hB c z; exact hb c (by simp at z ⊢; exact .inr z),hk5,hl5⟩⟩
   ·rintro acc τ ⟨cs,k4,l4,rfl,rfl,hlen,hB,hk4,hl4⟩
    exact q cs k4 l4 _ (by simpa using hlen) hB hk4 hl4
  ·refine ⟨by omega,by omega,hrl,compN (fun rest acc τ=>∃ (cs:List Int) (k4 l4:Int),τ = [none,some (.io (penD ns k4 l4))] /\ acc = cs.map PyData.int /\ cs.length + rest.length = n /\ (∀ c ∈ cs,Big c) /\ 0 <= k4 /\ 0 <= l4) ?_ ?_
     ⟨[],k3,l3,rfl,rfl,by simp [rangeD],fun c hc=>by simp at hc,hk3,hl3⟩⟩
   ·rintro d ds acc τ ⟨cs,k4,l4,rfl,rfl,hlen,hB,hk4,hl4⟩ N hN
    refine ⟨ns,k4,l4,rfl,hk4,hl4,fun c k5 l5 _ hk5 hl5 c0 c1=>?_⟩
    exact hN _ _ ⟨cs ++ [c],k5,l5,rfl,by simp [Sl.d],by simp at hlen ⊢; omega,fun c' hc=>by rcases List.mem_append.mp hc with z | z; exact hB c' z; rw [List.mem_singleton.mp z]; exact ⟨c0,c1⟩,hk5,hl5⟩
   ·rintro acc τ ⟨cs,k4,l4,rfl,rfl,hlen,hB,hk4,hl4⟩
    exact q cs k4 l4 _ (by simpa using hlen) hB hk4 hl4
end
end R46
namespace R46
open PySem L2 L3 PyProof.Rows
section
variable {P:Program} {w:World} {K:PySem.W.Frag} {mg:Str -> Option Value} {base:Heap}
theorem rangeD_succ (lo:Int) (n:Nat):rangeD lo (n + 1) = PyData.int lo :: rangeD (lo + 1) n:=by
 simp only [rangeD,List.range_succ_eq_map,List.map_cons,List.map_map]
 refine congr (congrArg List.cons (by simp)) (List.map_congr_left fun a _=>?_)
 simp only [Function.comp_def,PyData.int.injEq,Int.natCast_succ]
 omega
noncomputable def prodI:List Int -> Int
 | []=>1
 | a :: r=>a * prodI r
theorem prodI_pos:∀ {l:List Int},(∀ c ∈ l,1 <= c) -> 1 <= prodI l
 | [],_=>Int.le_refl _
 | a :: r,h=>by
  have h1:=h a List.mem_cons_self
  have h2:=prodI_pos (l:=r) fun c hc=>h c (List.mem_cons_of_mem _ hc)
  show 1 <= a * prodI r
  have:=Int.mul_le_mul h1 h2 (by decide) (by omega)
  omega
theorem prodI_append (l r:List Int):prodI (l ++ r) = prodI l * prodI r:=by
 induction l with
 | nil=>show prodI r = 1 * prodI r; rw [Int.one_mul]
 | cons a l ih=>show a * prodI (l ++ r) = a * prodI l * prodI r; rw [ih,Int.mul_assoc]
structure Sd (sd:List Int):Prop where
 l1:1 <= sd.length
 l3:sd.length <= 3
 p:∀ c ∈ sd,1 <= c
 m:prodI sd <= 120
structure S0 (sd:List Int):Prop where
 l3:sd.length <= 3
 p:∀ c ∈ sd,1 <= c
 m:prodI sd <= 120
theorem prodI_le {b:Int} (hb:1 <= b):∀ {l:List Int},(∀ c ∈ l,1 <= c /\ c <= b) -> prodI l <= b ^ l.length
 | [],_=>by show (1:Int) <= b ^ 0; rw [Int.pow_zero]; decide
 | a :: r,h=>by
  have h1:=h a List.mem_cons_self
  have h2:=prodI_le hb (l:=r) fun c hc=>h c (List.mem_cons_of_mem _ hc)
  have h3:=prodI_pos (l:=r) fun c hc=>(h c (List.mem_cons_of_mem _ hc)).1
  show a * prodI r <= b ^ (r.length + 1)
  rw [Int.pow_succ,Int.mul_comm (b ^ r.length) b]
  exact Int.mul_le_mul h1.2 h2 (by omega) (by omega)
noncomputable abbrev tupD (p:List Int):PyData:=.tuple (p.map PyData.int)
noncomputable def cSides:Con:=fun args Q=>∃ (ns:List Int) (k l m:Int),args = [.io (penD ns k l),.fz (.int m)] /\ 0 <= k /\ 0 <= l /\ 27 <= m /\ m <= 120 /\
 ∀ (sd:List Int) (k' l':Int) (o:Ev),Sd sd -> prodI sd <= m -> 0 <= k' -> 0 <= l' -> Q (.fz (tupD sd)) (some (.io (penD ns k' l')) :: o)
theorem scSides:FnScope ["_law_state","_law_most","_law_way","_law_found","_law_k","_law_side"] ["_law_state","_law_most"] (defScope (top 29)):=⟨rfl,rfl,rfl,by decide +kernel,rfl,by decide +kernel,by decide +kernel⟩
theorem ok_sides {f:Addr} {fd:FuncData} (F:Fun K "_law_sides" "_law_sides" (top 29) f fd) (T:Txt mg) (C:CalsB P w K mg base):FnOk P w K mg base CX0 3 f fd ["_law_state","_law_most"] (conSp K cSides):=by
 have S:=scSides
 refine wfn F S (fun cdv A outer s H E hr=>(s_cons (s_set (i:=2) S.nd rfl (Or.inl rfl) (w_fnI C.law_take (hr.mono (by first | decide | omega)) (wa_cons (wn 0) (wa_cons (wx w_int) wa_nil))))
     (s_cons (s_if (t_cmp ok_lt op_lt (wx (w_fnI C.law_take (hr.mono (by first | decide | omega)) (wa_cons (wn 0) (wa_cons (wx w_int) wa_nil)))) (wx w_int)) (s_one (s_ret (w_callT ok_tuple (call_tupleK (K:=K) rfl) T.tuple_ boot_tuple (wa_cons (wx (w_comp rfl (own:=["_law_one"]) (fr:=[0]) (by kernel_rfl) (i_seq rfl (w_ix rfl (wx (w_lst (wa_cons (wx (w_lst (wa_cons (wx w_int) wa_nil))) (wa_cons (wx (w_lst (wa_cons (wx w_int) (wa_cons (wx w_int) wa_nil)))) (wa_cons (wx (w_lst (wa_cons (wx w_int) (wa_cons (wx w_int) (wa_cons (wx w_int) wa_nil))))) wa_nil))))) (wn 2))) (fun _ _ _ _=>(g_name (i:=0) (by decide +kernel:List.Nodup (["_law_one","_law_state"]:List Str)) rfl (Or.inl rfl))) (fun _ _ _ _=>if0) (fun _ _ _ _=>(w_bin ok_add op_addD (wx w_int) (wx (w_fnI C.law_take (hr.mono (by first | decide | omega)) (wa_cons (wn 1) (wa_cons (wn 0) wa_nil)))))))) wa_nil)))) s_nil)
     (s_cons (s_set (i:=3) S.nd rfl (Or.inl rfl) (w_lst wa_nil))
     (s_cons (s_for [4,5] PassesOwn.never rfl (i_rng1 T.range_ (wa_cons (wx (w_bin ok_add op_addD (wn 2) (wx w_int))) wa_nil)) (g_name (i:=4) S.nd rfl (Or.inl rfl)) (s_cons (s_set (i:=5) S.nd rfl (Or.inl rfl) (w_bin ok_add op_addD (wx w_int) (wx (w_fnI C.law_take (hr.mono (by first | decide | omega)) (wa_cons (wn 0) (wa_cons (wx (w_callB ok_2I (call_min2 rfl) T.min_ boot_min (wa_cons (wn 1) (wa_cons (wx (w_ix rfl (wx (w_lst (wa_cons (wx w_int) (wa_cons (wx (wv 1)) wa_nil)))) (wx (w_fnI C.law_take (hr.mono (by first | decide | omega)) (wa_cons (wn 0) (wa_cons (wx w_int) wa_nil)))))) wa_nil)))) wa_nil))))))
     (s_cons (s_expr (w_m ok_insert rfl PySem.F.slot_list_insert PySem.F.type_list_insert mt_insert (wn 3) (wa_cons (wx (w_fnI C.law_take (hr.mono (by first | decide | omega)) (wa_cons (wn 0) (wa_cons (wx (w_bin ok_add op_addD (wn 4) (wx w_int))) wa_nil)))) (wa_cons (wx (wv 5)) wa_nil))))
     (s_one (s_set (i:=1) S.nd rfl (Or.inl rfl) (w_bin ok_fdiv op_fdiv (wn 1) (wn 5)))))))
     (s_one (s_ret (w_callT ok_tuple (call_tupleK (K:=K) rfl) T.tuple_ boot_tuple (wa_cons (wn 3) wa_nil))))))))) ?_ ?_
 ·rintro args Qd ⟨ns,k,l,m,rfl,_⟩; rfl
 ·rintro args Qd ⟨ns,k,l,m,rfl,hk,hl,m1,m2,q⟩
  refine ⟨noOw_of rfl,?_⟩
  refine ⟨ns,k,l,_,rfl,hk,hl,by decide,by decide,fun way k1 l1 _ w0 w1 hk1 hl1=>?_⟩
  refine ⟨ns,k1,l1,_,rfl,hk1,hl1,by decide,by decide,fun r2 k2 l2 _ _ _ hk2 hl2=>?_⟩
  refine ite2 (fun _=>?_) (fun _=>?_)
  ·have pick:∃ (n:Nat) (b:Int),atI [PyData.list [.int 12],PyData.list [.int 5,.int 5],PyData.list [.int 3,.int 3,.int 3]] way = some (.list (List.replicate n (.int b))) /\ 1 <= n /\ n <= 3 /\ 1 <= b /\ b <= 12 /\ b ^ n <= 27:=by
    have hw:way = 0 \/ way = 1 \/ way = 2:=by omega
    rcases hw with rfl | rfl | rfl
    ·exact ⟨1,12,rfl,by decide,by decide,by decide,by decide,by decide⟩
    ·exact ⟨2,5,rfl,by decide,by decide,by decide,by decide,by decide⟩
    ·exact ⟨3,3,rfl,by decide,by decide,by decide,by decide,by decide⟩
   obtain ⟨n,b,hat,n1,n3,b1,b12,hbn⟩:=pick
   refine ⟨_,hat,by rw [List.length_replicate]; exact le_size (by omega),compN (fun rest acc τ=>∃ (cs:List Int) (k4 l4:Int),τ = [none,some (.io (penD ns k4 l4))] /\ acc = cs.map PyData.int /\ (∃ m',rest = List.replicate m' (.int b) /\ cs.length + m' = n) /\ (∀ c ∈ cs,1 <= c /\ c <= b) /\ 0 <= k4 /\ 0 <= l4) ?_ ?_
     ⟨[],k2,l2,rfl,rfl,⟨n,rfl,by simp⟩,fun c hc=>by simp at hc,hk2,hl2⟩⟩
   ·rintro d ds acc τ ⟨cs,k4,l4,rfl,rfl,⟨m',em,hlen⟩,hB,hk4,hl4⟩ N hN
    cases m' with
    | zero=>cases em
    | succ m' =>
     rw [List.replicate_succ] at em
     cases em
     refine ⟨ns,k4,l4,_,rfl,hk4,hl4,by omega,by omega,fun j k5 l5 _ j0 j1 hk5 hl5=>?_⟩
     exact hN _ _ ⟨cs ++ [1 + j],k5,l5,rfl,by simp [Sl.d],⟨m',rfl,by simp; omega⟩,fun c hc=>by rcases List.mem_append.mp hc with z | z; exact hB c z; rw [List.mem_singleton.mp z]; omega,hk5,hl5⟩
   ·rintro acc τ ⟨cs,k4,l4,rfl,rfl,⟨m',em,hlen⟩,hB,hk4,hl4⟩
    cases m' with
    | succ m'=>cases em
    | zero =>
     have hp:=prodI_le b1 hB
     rw [show cs.length = n by omega] at hp
     exact q cs k4 l4 _ ⟨by omega,by omega,fun c hc=>(hB c hc).1,by omega⟩ (by omega) hk4 hl4
  ·refine ⟨by omega,by omega,loopC (fun rest ρ=>∃ (mc:Int) (fs:List Int) (k4 l4:Int),ρ = [some (.io (penD ns k4 l4)),some (.fz (.int mc)),some (.fz (.int way)),some (.ow (.list (fs.map PyData.int))),none,none] /\
       (∃ n:Nat,rest = rangeD fs.length n /\ (fs.length:Int) + n = way + 1) /\ (∀ c ∈ fs,1 <= c) /\ 1 <= mc /\ prodI fs * mc <= m /\ 0 <= k4 /\ 0 <= l4) ?_ ?_
     ⟨m,[],k2,l2,rfl,⟨(way + 1).toNat,rfl,by simp; omega⟩,fun c hc=>by simp at hc,by omega,by show 1 * m <= m; omega,hk2,hl2⟩⟩
   ·rintro d ds ρ ⟨mc,fs,k4,l4,rfl,⟨n,en,hlen⟩,hfp,hm1,hpm,hk4,hl4⟩ N hN
    cases n with
    | zero=>cases en
    | succ n =>
     have e2:rangeD fs.length (n + 1) = PyData.int fs.length :: rangeD (fs.length + 1) n:=by
      exact rangeD_succ _ _
     rw [e2] at en
     cases en
     have hp1:=prodI_pos hfp
     have hmc:mc <= m:=Int.le_trans (by have:=Int.mul_le_mul_of_nonneg_right hp1 (show (0:Int) <= mc by omega); omega) hpm
     refine ⟨ns,k4,l4,_,rfl,hk4,hl4,by decide,by decide,fun r k5 l5 _ r0 r1 hk5 hl5=>?_⟩
     have pick:∃ x:Int,atI [PyData.int 12,PyData.int mc] r = some (.int x) /\ 1 <= x:=by
      have:r = 0 \/ r = 1:=by omega
      rcases this with rfl | rfl
      ·exact ⟨12,rfl,by decide⟩
      ·exact ⟨mc,rfl,hm1⟩
     obtain ⟨x,hx,hx1⟩:=pick
     refine ⟨_,hx,?_⟩
     refine ⟨ns,k5,l5,_,rfl,hk5,hl5,by split <;> omega,by split <;> omega,fun r6 k6 l6 _ r60 r61 hk6 hl6=>?_⟩
     have hs1:1 + r6 <= mc:=by
      have:(if x < mc then x else mc) <= mc:=by split <;> omega
      omega
     refine ⟨ns,k6,l6,_,rfl,hk6,hl6,by omega,by omega,fun r7 k7 l7 _ r70 r71 hk7 hl7=>?_⟩
     refine ⟨by rw [List.length_map]; exact Nat.lt_of_lt_of_le (show fs.length < 1000 by omega) (by decide),r70,by rw [List.length_map]; omega,⟨by omega,by omega⟩,?_⟩
     have ep:prodI (fs.take r7.toNat ++ (1 + r6) :: fs.drop r7.toNat) = (1 + r6) * prodI fs:=by
      rw [prodI_append]
      show prodI (fs.take r7.toNat) * ((1 + r6) * prodI (fs.drop r7.toNat)) = _
      rw [Int.mul_left_comm,<- prodI_append,List.take_append_drop]
     have hl:(fs.take r7.toNat ++ (1 + r6) :: fs.drop r7.toNat).length = fs.length + 1:=by
      rw [List.length_append,List.length_cons,List.length_take,List.length_drop]; omega
     refine hN _ ⟨mc / (1 + r6),fs.take r7.toNat ++ (1 + r6) :: fs.drop r7.toNat,k7,l7,?_,⟨n,by rw [hl]; rfl,by rw [hl]; omega⟩,?_,?_,?_,hk7,hl7⟩
     ·have e3:(fs.map PyData.int).take r7.toNat ++ PyData.int (1 + r6) :: (fs.map PyData.int).drop r7.toNat = (fs.take r7.toNat ++ (1 + r6) :: fs.drop r7.toNat).map PyData.int:=by simp
      rw [<- e3]; rfl
     ·intro c hc
      rcases List.mem_append.mp hc with z | z
      ·exact hfp c (List.mem_of_mem_take z)
      ·rcases List.mem_cons.mp z with z | z
       ·omega
       ·exact hfp c (List.mem_of_mem_drop z)
     ·exact Int.le_ediv_of_mul_le (by omega) (by omega)
     ·rw [ep]
      have h1:(1 + r6) * (mc / (1 + r6)) <= mc:=Int.mul_ediv_self_le (by omega)
      have h2:prodI fs * ((1 + r6) * (mc / (1 + r6))) <= prodI fs * mc:=Int.mul_le_mul_of_nonneg_left h1 (by omega)
      rw [Int.mul_comm (1 + r6) (prodI fs),Int.mul_assoc]
      omega
   ·rintro ρ ⟨mc,fs,k4,l4,rfl,⟨n,en,hlen⟩,hfp,hm1,hpm,hk4,hl4⟩
    cases n with
    | succ n=>simp [rangeD,List.range_succ] at en
    | zero =>
     have hp1:=prodI_pos hfp
     have:=Int.mul_le_mul_of_nonneg_left hm1 (show (0:Int) <= prodI fs by omega)
     exact q fs k4 l4 _ ⟨by omega,by omega,hfp,by omega⟩ (by omega) hk4 hl4
end
end R46
namespace R46
open PySem L2 L3 PyProof.Rows
noncomputable def eachA {α:Type} (acc:List (List α)):List (List α) -> List (List α)
 | []=>acc
 | c :: cs=>eachA (acc.flatMap fun p=>c.map fun x=>p ++ [x]) cs
noncomputable def lenP {α:Type}:List (List α) -> Nat
 | []=>1
 | c :: cs=>c.length * lenP cs
theorem lenP_pos {α:Type}:∀ {cs:List (List α)},(∀ c ∈ cs,c ≠ []) -> 1 <= lenP cs
 | [],_=>Nat.le_refl _
 | c :: cs,h=>by
  have h1:1 <= c.length:=List.length_pos_iff.mpr (h c List.mem_cons_self)
  have h2:=lenP_pos (cs:=cs) fun d hd=>h d (List.mem_cons_of_mem _ hd)
  exact Nat.mul_le_mul h1 h2
theorem flat_len {α:Type} (c:List α):∀ acc:List (List α),(acc.flatMap fun p=>c.map fun x=>p ++ [x]).length = acc.length * c.length
 | []=>by simp
 | p :: acc=>by rw [List.flatMap_cons,List.length_append,flat_len c acc,List.length_map,List.length_cons,Nat.succ_mul,Nat.add_comm]
theorem eachA_len {α:Type}:∀ (cs acc:List (List α)),(eachA acc cs).length = acc.length * lenP cs
 | [],acc=>by simp [eachA,lenP]
 | c :: cs,acc=>by rw [eachA,eachA_len cs,flat_len,lenP,Nat.mul_assoc]
noncomputable def rng (s:Int):List Int:=(List.range s.toNat).map fun (n:Nat)=>(n:Int)
theorem rangeD_rng (s:Int):rangeD 0 s.toNat = (rng s).map PyData.int:=by simp [rangeD,rng,List.map_map,Function.comp_def]
theorem rng_len (s:Int):(rng s).length = s.toNat:=by simp [rng]
noncomputable def plc (sd:List Int):List (List Int):=eachA [[]] (sd.map rng)
theorem lenP_rng:∀ {sd:List Int},(∀ c ∈ sd,1 <= c) -> (lenP (sd.map rng):Int) = prodI sd
 | [],_=>rfl
 | a :: r,h=>by
  have h1:=h a List.mem_cons_self
  have h2:=lenP_rng (sd:=r) fun c hc=>h c (List.mem_cons_of_mem _ hc)
  show ((((rng a).length * lenP (r.map rng):Nat)):Int) = a * prodI r
  rw [rng_len,Int.natCast_mul,h2]
  congr 1
  omega
section
variable {P:Program} {w:World} {K:PySem.W.Frag} {mg:Str -> Option Value} {base:Heap}
noncomputable def cPlaces:Con:=fun args Q=>∃ sd:List Int,(args = [.fz (tupD sd)] \/ args = [.fz (.list (sd.map PyData.int))]) /\ (∀ c ∈ sd,1 <= c) /\ prodI sd <= 1000 /\ sd.length <= 3 /\ ∀ o,Q (.ow (.list ((plc sd).map tupD))) o
theorem scPlaces:FnScope ["_law_sides_here","_law_found","_law_side","_law_longer","_law_place"] ["_law_sides_here"] (defScope (top 32)):=⟨rfl,rfl,rfl,by decide +kernel,rfl,by decide +kernel,by decide +kernel⟩
theorem ok_places {f:Addr} {fd:FuncData} (F:Fun K "_law_places" "_law_places" (top 32) f fd) (T:Txt mg):FnOk P w K mg base CX0 1 f fd ["_law_sides_here"] (conSp K cPlaces):=by
 have S:=scPlaces
 refine wfn F S (fun cdv A outer s H E hr=>(s_cons (s_set (i:=1) S.nd rfl (Or.inl rfl) (w_lst (wa_cons (wx (w_tup wa_nil)) wa_nil)))
     (s_cons (s_for [2,3,4] PassesOwn.never rfl (i_seq rfl (wv 0)) (g_name (i:=2) S.nd rfl (Or.inl rfl)) (s_cons (s_set (i:=3) S.nd rfl (Or.inl rfl) (w_lst wa_nil))
     (s_cons (s_for [4] PassesOwn.never rfl (i_seq rfl (wv 1)) (g_name (i:=4) S.nd rfl (Or.inr rfl)) (s_one (s_set (i:=3) S.nd rfl (Or.inl rfl) (w_bin ok_add op_addD (wn 3) (wx (w_comp rfl (own:=["_law_number_here"]) (fr:=[4]) (by kernel_rfl) (i_rng1 T.range_ (wa_cons (wn 2) wa_nil)) (fun _ _ _ _=>(g_name (i:=0) (by decide +kernel:List.Nodup (["_law_number_here","_law_place"]:List Str)) rfl (Or.inl rfl))) (fun _ _ _ _=>if0) (fun _ _ _ _=>(w_bin ok_add op_addD (wn 1) (wx (w_tup (wa_cons (wx (wv 0)) wa_nil)))))))))))
     (s_one (s_move (i:=1) S.nd rfl (Or.inl rfl) (wn 3))))))
     (s_one (s_retV (wn 1)))))) ?_ ?_
 ·rintro args Qd ⟨sd,rfl | rfl,_⟩ <;> rfl
 ·rintro args Qd ⟨sd,ha,hp,hm,h3,q⟩
  have main:∀ (d0:PyData) (E:DE),E.nx [some (.fz d0),some (.ow (.list ((plc sd).map tupD))),none,none,none] -> dLoopC [2,3,4] (dGN 2)
    (dSeq (dSet 3 (dOpF [] fLstD)) (dSeq (dForC [4] (dISeq (dVar 1)) (dGN 4) (dSet 3 (dOp [Sum.inl 3,Sum.inr (dCompC (dIRng1 (Sum.inl 2)) ["_law_number_here"] [4] (dGN 0) dYes (dOp [Sum.inl 1,Sum.inr (dOpF [Sum.inr (dVar 0)] fTupD)] (o2 fAdd)))] (o2 fAdd)))) (dMove 1 3)))
    E (sd.map PyData.int) [some (.fz d0),some (.ow (.list [.tuple []])),none,none,none]:=by
   intro d0 E hE
   refine loopC (fun rest ρ=>∃ (acc:List (List Int)) (rs:List Int),ρ = [some (.fz d0),some (.ow (.list (acc.map tupD))),none,none,none] /\ rest = rs.map PyData.int /\ (∀ c ∈ rs,1 <= c) /\ eachA acc (rs.map rng) = plc sd /\ (∀ p ∈ acc,p.length + rs.length <= 3)) ?_ ?_
    ⟨[[]],sd,rfl,rfl,hp,rfl,fun p hp=>by simp at hp; subst hp; simpa using h3⟩
   ·rintro d ds ρ ⟨acc,rs,rfl,er,hr1,hacc,hl3⟩ N hN
    cases rs with
    | nil=>cases er
    | cons a rs =>
     cases er
     have ha1:=hr1 a List.mem_cons_self
     have hr2:∀ c ∈ rs,1 <= c:=fun c hc=>hr1 c (List.mem_cons_of_mem _ hc)
     have hlp:=lenP_pos (cs:=rs.map rng) fun c hc=>by
      obtain ⟨x,hx,rfl⟩:=List.mem_map.mp hc
      intro z
      have:=congrArg List.length z
      rw [rng_len] at this
      have:=hr2 x hx
      simp at *
      omega
     have htot:(acc.flatMap fun p=>(rng a).map fun x=>p ++ [x]).length <= 1000:=by
      have h1:=eachA_len (rs.map rng) (acc.flatMap fun p=>(rng a).map fun x=>p ++ [x])
      have h2:(eachA (acc.flatMap fun p=>(rng a).map fun x=>p ++ [x]) (rs.map rng)) = plc sd:=hacc
      rw [h2] at h1
      have h3:=eachA_len (sd.map rng) [[]]
      have h4:=lenP_rng hp
      unfold plc at h1
      have:(acc.flatMap fun p=>(rng a).map fun x=>p ++ [x]).length <= (acc.flatMap fun p=>(rng a).map fun x=>p ++ [x]).length * lenP (rs.map rng):=Nat.le_mul_of_pos_right _ hlp
      simp only [List.length_singleton,Nat.one_mul] at h3
      omega
     refine loopC (fun rest ρ=>∃ (lg rp:List (List Int)),ρ = [some (.fz d0),some (.fz (.list (acc.map tupD))),some (.fz (.int a)),some (.ow (.list (lg.map tupD))),none] /\ rest = rp.map tupD /\ (lg ++ rp.flatMap fun p=>(rng a).map fun x=>p ++ [x]) = (acc.flatMap fun p=>(rng a).map fun x=>p ++ [x]) /\ (∀ p ∈ rp,p ∈ acc)) ?_ ?_
      ⟨[],acc,rfl,rfl,rfl,fun p hp=>hp⟩
     ·rintro d ds ρ ⟨lg,rp,rfl,er,he,hin⟩ M hM
      cases rp with
      | nil=>cases er
      | cons p rp =>
       cases er
       have hpl:=hl3 p (hin p List.mem_cons_self)
       have hl5:lg.length + (rng a).length <= 1000:=by
        have:=congrArg List.length he
        rw [List.length_append,List.flatMap_cons,List.length_append,List.length_map] at this
        omega
       have hra:a.toNat <= 1000:=by rw [rng_len] at hl5; omega
       refine ⟨by omega,by omega,by rw [rangeD,List.length_map,List.length_range]; exact le_size hra,mapC (fun d=>.tuple (p.map PyData.int ++ [d])) ?_ ?_⟩
       ·rintro d hd R hR
        exact ⟨by simp only [List.length_map,List.length_singleton]; simp at hpl; exact le_size (by omega),hR⟩
       ·refine ⟨by rw [List.length_map,List.length_map,rangeD,List.length_map,List.length_range]; rw [rng_len] at hl5; exact le_size (by omega),?_⟩
        refine hM _ ⟨lg ++ (rng a).map fun x=>p ++ [x],rp,?_,rfl,by rw [List.append_assoc,<- he,List.flatMap_cons],fun p' hp'=>hin p' (List.mem_cons_of_mem _ hp')⟩
        have e1:(lg.map tupD) ++ ((rangeD 0 a.toNat).map fun d=>PyData.tuple (p.map PyData.int ++ [d])) = (lg ++ (rng a).map fun x=>p ++ [x]).map tupD:=by
         rw [rangeD_rng,List.map_append,List.map_map,List.map_map]
         congr 1
         refine List.map_congr_left fun x _=>?_
         simp [tupD]
        rw [<- e1]; rfl
     ·rintro ρ ⟨lg,rp,rfl,er,he,hin⟩
      cases rp with
      | cons p rp=>cases er
      | nil =>
       rw [List.flatMap_nil,List.append_nil] at he
       refine hN _ ⟨acc.flatMap fun p=>(rng a).map fun x=>p ++ [x],rs,?_,rfl,hr2,hacc,fun p hp=>?_⟩
       ·rw [he]; rfl
       ·obtain ⟨p',hp',hx⟩:=List.mem_flatMap.mp hp
        obtain ⟨x,_,rfl⟩:=List.mem_map.mp hx
        have:=hl3 p' hp'
        simp at this ⊢
        omega
   ·rintro ρ ⟨acc,rs,rfl,er,hr1,hacc,hl3⟩
    cases rs with
    | cons a rs=>cases er
    | nil =>
     have hacc:acc = plc sd:=hacc
     rw [hacc]
     exact hE
  rcases ha with rfl | rfl
  ·exact ⟨noOw_of rfl,main (tupD sd) _ (q _)⟩
  ·exact ⟨noOw_of rfl,main (.list (sd.map PyData.int)) _ (q _)⟩
end
end R46
namespace R46
open PySem L2 L3 PyProof.Rows
theorem eachA_map {α β:Type} (f:α -> β):∀ (cs acc:List (List α)),(eachA acc cs).map (List.map f) = eachA (acc.map (List.map f)) (cs.map (List.map f))
 | [],acc=>rfl
 | c :: cs,acc=>by
  show (eachA (acc.flatMap fun p=>c.map fun x=>p ++ [x]) cs).map (List.map f) = eachA ((acc.map (List.map f)).flatMap fun p=>(c.map f).map fun x=>p ++ [x]) (cs.map (List.map f))
  rw [eachA_map f cs]
  congr 1
  rw [List.map_flatMap,List.flatMap_map]
  congr 1
  funext p
  simp [List.map_map,Function.comp_def]
section
variable {P:Program} {w:World} {K:PySem.W.Frag} {mg:Str -> Option Value} {base:Heap}
noncomputable def cEach:Con:=fun args Q=>∃ cs:List (List PyData),args = [.fz (.list (cs.map PyData.list))] /\ (∀ c ∈ cs,c ≠ []) /\ lenP cs <= 1000 /\ cs.length <= 1000 /\ ∀ o,Q (.ow (.list ((eachA [[]] cs).map PyData.tuple))) o
theorem scEach:FnScope ["choices","chosen","things","longer","ahead","thing"] ["choices"] (defScope (top 3)):=⟨rfl,rfl,rfl,by decide +kernel,rfl,by decide +kernel,by decide +kernel⟩
theorem ok_each {f:Addr} {fd:FuncData} (F:Fun K "one_of_each" "one_of_each" (top 3) f fd):FnOk P w K mg base CX0 1 f fd ["choices"] (conSp K cEach):=by
 have S:=scEach
 refine wfn F S (fun cdv A outer s H E hr=>(s_cons (s_set (i:=1) S.nd rfl (Or.inl rfl) (w_lst (wa_cons (wx (w_tup wa_nil)) wa_nil)))
     (s_cons (s_for [2,3,4] PassesOwn.never rfl (i_seq rfl (wv 0)) (g_name (i:=2) S.nd rfl (Or.inl rfl)) (s_cons (s_set (i:=3) S.nd rfl (Or.inl rfl) (w_lst wa_nil))
     (s_cons (s_for [4,5] PassesOwn.never rfl (i_seq rfl (wv 1)) (g_name (i:=4) S.nd rfl (Or.inl rfl)) (s_one (s_for [5] PassesOwn.never rfl (i_seq rfl (wv 2)) (g_name (i:=5) S.nd rfl (Or.inl rfl)) (s_one (s_expr (w_m ok_append rfl PySem.F.slot_list_append PySem.F.type_list_append mt_append (wn 3) (wa_cons (wx (w_bin ok_add op_addD (wn 4) (wx (w_tup (wa_cons (wx (wv 5)) wa_nil))))) wa_nil)))))))
     (s_one (s_move (i:=1) S.nd rfl (Or.inl rfl) (wn 3))))))
     (s_one (s_retV (wn 1)))))) ?_ ?_
 ·rintro args Qd ⟨cs,rfl,_⟩; rfl
 ·rintro args Qd ⟨cs,rfl,hne,hlen,hcl,q⟩
  refine ⟨noOw_of rfl,?_⟩
  refine loopC (fun rest ρ=>∃ (acc rs:List (List PyData)),ρ = [some (.fz (.list (cs.map PyData.list))),some (.ow (.list (acc.map PyData.tuple))),none,none,none,none] /\ rest = rs.map PyData.list /\ (∀ c ∈ rs,c ≠ []) /\ acc.length * lenP rs = lenP cs /\ eachA acc rs = eachA [[]] cs /\ (∀ p ∈ acc,p.length + rs.length <= 1000)) ?_ ?_
   ⟨[[]],cs,rfl,rfl,hne,by simp,rfl,fun p hp=>by simp at hp; subst hp; simpa using hcl⟩
  ·rintro d ds ρ ⟨acc,rs,rfl,er,hne',hln,hacc,hpl⟩ N hN
   cases rs with
   | nil=>cases er
   | cons c rs =>
    cases er
    have hr2:∀ c ∈ rs,c ≠ []:=fun c hc=>hne' c (List.mem_cons_of_mem _ hc)
    have hlp:=lenP_pos hr2
    have htot:(acc.flatMap fun p=>c.map fun x=>p ++ [x]).length <= 1000:=by
     rw [flat_len]
     have h1:acc.length * (c.length * lenP rs) = lenP cs:=hln
     rw [<- Nat.mul_assoc] at h1
     have:acc.length * c.length <= acc.length * c.length * lenP rs:=Nat.le_mul_of_pos_right _ hlp
     omega
    refine loopC (fun rest ρ=>∃ (lg rp:List (List PyData)),ρ = [some (.fz (.list (cs.map PyData.list))),some (.fz (.list (acc.map PyData.tuple))),some (.fz (.list c)),some (.ow (.list (lg.map PyData.tuple))),none,none] /\ rest = rp.map PyData.tuple /\ (lg ++ rp.flatMap fun p=>c.map fun x=>p ++ [x]) = (acc.flatMap fun p=>c.map fun x=>p ++ [x]) /\ (∀ p ∈ rp,p ∈ acc)) ?_ ?_
     ⟨[],acc,rfl,rfl,rfl,fun p hp=>hp⟩
    ·rintro d ds ρ ⟨lg,rp,rfl,er,he,hin⟩ M hM
     cases rp with
     | nil=>cases er
     | cons p rp =>
      cases er
      have hp1:=hpl p (hin p List.mem_cons_self)
      have hl5:lg.length + c.length <= 1000:=by
       have:=congrArg List.length he
       rw [List.length_append,List.flatMap_cons,List.length_append,List.length_map] at this
       omega
      refine loopC (fun rest ρ=>∃ (pre:List PyData),c = pre ++ rest /\ ρ = [some (.fz (.list (cs.map PyData.list))),some (.fz (.list (acc.map PyData.tuple))),some (.fz (.list c)),some (.ow (.list ((lg ++ pre.map fun x=>p ++ [x]).map PyData.tuple))),some (.fz (.tuple p)),none]) ?_ ?_
       ⟨[],rfl,by simp; rfl⟩
      ·rintro x ds' ρ ⟨pre,hc,rfl⟩ L hL
       refine ⟨by simp at hp1 ⊢; exact le_size (by omega),by rw [List.length_map,List.length_append,List.length_map]; have:=congrArg List.length hc; simp at this; exact Nat.lt_of_lt_of_le (show _ < 1000 by omega) (by decide),?_⟩
       refine hL _ ⟨pre ++ [x],by rw [hc]; simp,?_⟩
       have e1:((lg ++ pre.map fun x=>p ++ [x]).map PyData.tuple) ++ [PyData.tuple (p ++ [x])] = ((lg ++ (pre ++ [x]).map fun x=>p ++ [x]).map PyData.tuple):=by simp
       rw [<- e1]; rfl
      ·rintro ρ ⟨pre,hc,rfl⟩
       rw [List.append_nil] at hc
       subst hc
       exact hM _ ⟨lg ++ c.map fun x=>p ++ [x],rp,rfl,rfl,by rw [List.append_assoc,<- he,List.flatMap_cons],fun p' hp'=>hin p' (List.mem_cons_of_mem _ hp')⟩
    ·rintro ρ ⟨lg,rp,rfl,er,he,hin⟩
     cases rp with
     | cons p rp=>cases er
     | nil =>
      rw [List.flatMap_nil,List.append_nil] at he
      refine hN _ ⟨acc.flatMap fun p=>c.map fun x=>p ++ [x],rs,by rw [he]; rfl,rfl,hr2,?_,hacc,fun p hp=>?_⟩
      ·rw [flat_len,Nat.mul_assoc]; exact hln
      ·obtain ⟨p',hp',hx⟩:=List.mem_flatMap.mp hp
       obtain ⟨x,_,rfl⟩:=List.mem_map.mp hx
       have:=hpl p' hp'
       simp at this ⊢
       omega
  ·rintro ρ ⟨acc,rs,rfl,er,hne',hln,hacc,hpl⟩
   cases rs with
   | cons a rs=>cases er
   | nil =>
    have hacc:acc = eachA [[]] cs:=hacc
    rw [hacc]
    exact q _
end
end R46
namespace R46
open PySem L2 L3 PyProof.Rows
theorem zipD_ints (a b:List Int):zipD (a.map PyData.int) (b.map PyData.int) = (a.zip b).map fun p=>PyData.tuple [.int p.1,.int p.2]:=by
 rw [zipD,List.zip_map,List.map_map]; rfl
noncomputable def rng2 (a b:Int):List Int:=(List.range (b + 1 - a).toNat).map fun (n:Nat)=>a + (n:Int)
theorem rangeD_rng2 (a b:Int):rangeD a (b + 1 - a).toNat = (rng2 a b).map PyData.int:=by simp [rangeD,rng2,List.map_map,Function.comp_def]
theorem rng2_zero (s:Int):rng2 0 (s - 1) = rng s:=by
 unfold rng2 rng
 rw [show s - 1 + 1 - 0 = s by omega]
 simp
noncomputable def btw (low high:List Int):List (List Int):=eachA [[]] ((low.zip high).map fun p=>rng2 p.1 p.2)
section
variable {P:Program} {w:World} {K:PySem.W.Frag} {mg:Str -> Option Value} {base:Heap}
structure CalsE (P:Program) (w:World) (K:PySem.W.Frag) (mg:Str -> Option Value) (base:Heap):Prop where
 one_of_each:Cal P w K mg base 1 "one_of_each" ["choices"] (conSp K cEach)
noncomputable def cBtw:Con:=fun args Q=>∃ low high:List Int,args = [.fz (tupD low),.fz (tupD high)] /\ low.length = high.length /\ low.length <= 3 /\ (∀ p ∈ low.zip high,0 <= p.1 /\ p.1 <= p.2 /\ p.2 <= 1000) /\ lenP ((low.zip high).map fun p=>rng2 p.1 p.2) <= 1000 /\ ∀ o,Q (.ow (.list ((btw low high).map tupD))) o
theorem scBtw:FnScope ["low","high"] ["low","high"] (defScope (top 4)):=⟨rfl,rfl,rfl,by decide +kernel,rfl,by decide +kernel,by decide +kernel⟩
theorem ok_btw {f:Addr} {fd:FuncData} (F:Fun K "places_between" "places_between" (top 4) f fd) (T:Txt mg) (C:CalsE P w K mg base):FnOk P w K mg base CX0 2 f fd ["low","high"] (conSp K cBtw):=by
 have S:=scBtw
 refine wfn F S (fun cdv A outer s H E hr=>(s_one (s_ret (w_fn C.one_of_each (hr.mono (by first | decide | omega)) (wa_cons (wx (w_comp rfl (own:=["first","last"]) (fr:=[]) (by kernel_rfl) (i_zip2 rfl T.zip_ (wa_cons (wn 0) (wa_cons (wn 1) wa_nil))) (fun _ _ _ _=>(g_tup rfl rfl (gs_cons (g_name (i:=0) (by decide +kernel:List.Nodup (["first","last"]:List Str)) rfl (Or.inl rfl)) (gs_cons (g_name (i:=1) (by decide +kernel:List.Nodup (["first","last"]:List Str)) rfl (Or.inl rfl)) gs_nil)))) (fun _ _ _ _=>if0) (fun _ _ _ _=>(w_LR rfl T.list_ T.range_ (wa_cons (wn 0) (wa_cons (wx (w_bin ok_add op_addD (wn 1) (wx w_int))) wa_nil)))))) wa_nil))))) ?_ ?_
 ·rintro args Qd ⟨low,high,rfl,_⟩; rfl
 ·rintro args Qd ⟨low,high,rfl,hl,h3,hb,hlen,q⟩
  refine ⟨noOw_of rfl,?_⟩
  have hz:(zipD (low.map PyData.int) (high.map PyData.int)).length <= sizeLine:=by rw [zipD_ints,List.length_map,List.length_zip]; exact le_size (by omega)
  refine ⟨hz,mapC (fun d=>match d with | .tuple [.int a,.int b]=>.list (rangeD a (b + 1 - a).toNat) | _=>.none) ?_ ?_⟩
  ·intro d hd N hN
   rw [zipD_ints] at hd
   obtain ⟨⟨a,b⟩,hp,rfl⟩:=List.mem_map.mp hd
   have hab:=hb _ hp
   simp only at hab
   exact ⟨rfl,⟨by omega,by omega,by omega,by omega⟩,by omega,hN⟩
  ·have e1:(zipD (low.map PyData.int) (high.map PyData.int)).map (fun d=>match d with | .tuple [.int a,.int b]=>PyData.list (rangeD a (b + 1 - a).toNat) | _=>.none) = (((low.zip high).map fun p=>rng2 p.1 p.2).map (List.map PyData.int)).map PyData.list:=by
    rw [zipD_ints,List.map_map,List.map_map,List.map_map]
    refine List.map_congr_left fun p _=>?_
    simp [rangeD_rng2]
   rw [e1]
   have hl2:lenP (((low.zip high).map fun p=>rng2 p.1 p.2).map (List.map PyData.int)) = lenP ((low.zip high).map fun p=>rng2 p.1 p.2):=by
    generalize (low.zip high).map (fun p=>rng2 p.1 p.2) = cs
    induction cs with
    | nil=>rfl
    | cons c cs ih=>simp [lenP,ih]
   refine ⟨((low.zip high).map fun p=>rng2 p.1 p.2).map (List.map PyData.int),rfl,?_,by rw [hl2]; exact hlen,by simp; omega,fun o=>?_⟩
   ·intro c hc
    obtain ⟨c',hc',rfl⟩:=List.mem_map.mp hc
    obtain ⟨p,hp,rfl⟩:=List.mem_map.mp hc'
    have:=hb p hp
    intro z
    have:=congrArg List.length z
    simp [rng2] at this
    omega
   ·have e2:(eachA [[]] (((low.zip high).map fun p=>rng2 p.1 p.2).map (List.map PyData.int))).map PyData.tuple = (btw low high).map tupD:=by
     have:=eachA_map PyData.int ((low.zip high).map fun p=>rng2 p.1 p.2) [[]]
     simp only [List.map_cons,List.map_nil] at this
     rw [<- this,List.map_map]; rfl
    rw [e2]
    exact q _
noncomputable def cFirst:Con:=fun args Q=>∃ sd:List Int,args = [.fz (tupD sd)] /\ sd.length <= 1000 /\ ∀ o,Q (.fz (tupD (sd.map fun _=>0))) o
theorem scFirst:FnScope ["sides"] ["sides"] (defScope (top 9)):=⟨rfl,rfl,rfl,by decide +kernel,rfl,by decide +kernel,by decide +kernel⟩
theorem ok_first {f:Addr} {fd:FuncData} (F:Fun K "first_place" "first_place" (top 9) f fd) (T:Txt mg):FnOk P w K mg base CX0 1 f fd ["sides"] (conSp K cFirst):=by
 have S:=scFirst
 refine wfn F S (fun cdv A outer s H E hr=>(s_one (s_ret (w_callT ok_tuple (call_tupleK (K:=K) rfl) T.tuple_ boot_tuple (wa_cons (wx (w_comp rfl (own:=["side"]) (fr:=[]) (by kernel_rfl) (i_seq rfl (wv 0)) (fun _ _ _ _=>(g_name (i:=0) (by decide +kernel:List.Nodup (["side"]:List Str)) rfl (Or.inl rfl))) (fun _ _ _ _=>if0) (fun _ _ _ _=>w_int))) wa_nil))))) ?_ ?_
 ·rintro args Qd ⟨sd,rfl,_⟩; rfl
 ·rintro args Qd ⟨sd,rfl,hl,q⟩
  refine ⟨noOw_of rfl,?_⟩
  refine ⟨by rw [List.length_map]; exact le_size hl,mapC (fun _=>.int 0) (fun d hd N hN=>hN) ?_⟩
  have e:(sd.map PyData.int).map (fun _=>PyData.int 0) = (sd.map fun _=>0).map PyData.int:=by simp [List.map_map,Function.comp_def]
  rw [e]
  exact q _
noncomputable def cLast:Con:=fun args Q=>∃ sd:List Int,args = [.fz (tupD sd)] /\ sd.length <= 1000 /\ ∀ o,Q (.fz (tupD (sd.map fun s=>s - 1))) o
theorem scLast:FnScope ["sides"] ["sides"] (defScope (top 10)):=⟨rfl,rfl,rfl,by decide +kernel,rfl,by decide +kernel,by decide +kernel⟩
theorem ok_last {f:Addr} {fd:FuncData} (F:Fun K "last_place" "last_place" (top 10) f fd) (T:Txt mg):FnOk P w K mg base CX0 1 f fd ["sides"] (conSp K cLast):=by
 have S:=scLast
 refine wfn F S (fun cdv A outer s H E hr=>(s_one (s_ret (w_callT ok_tuple (call_tupleK (K:=K) rfl) T.tuple_ boot_tuple (wa_cons (wx (w_comp rfl (own:=["side"]) (fr:=[]) (by kernel_rfl) (i_seq rfl (wv 0)) (fun _ _ _ _=>(g_name (i:=0) (by decide +kernel:List.Nodup (["side"]:List Str)) rfl (Or.inl rfl))) (fun _ _ _ _=>if0) (fun _ _ _ _=>(w_bin ok_sub op_sub (wn 0) (wx w_int))))) wa_nil))))) ?_ ?_
 ·rintro args Qd ⟨sd,rfl,_⟩; rfl
 ·rintro args Qd ⟨sd,rfl,hl,q⟩
  refine ⟨noOw_of rfl,?_⟩
  refine ⟨by rw [List.length_map]; exact le_size hl,mapC (fun d=>match d with | .int i=>.int (i - 1) | _=>.none) (fun d hd N hN=>?_) ?_⟩
  ·obtain ⟨i,_,rfl⟩:=List.mem_map.mp hd
   exact hN
  ·refine Eq.mpr (congrArg (fun z=>Qd (.fz (.tuple z)) _) ?_) (q _)
   simp [List.map_map,Function.comp_def]
structure CalsF (P:Program) (w:World) (K:PySem.W.Frag) (mg:Str -> Option Value) (base:Heap):Prop where
 places_between:Cal P w K mg base 2 "places_between" ["low","high"] (conSp K cBtw)
 first_place:Cal P w K mg base 1 "first_place" ["sides"] (conSp K cFirst)
 last_place:Cal P w K mg base 1 "last_place" ["sides"] (conSp K cLast)
theorem zip_zero:∀ sd:List Int,((sd.map fun _=>(0:Int)).zip (sd.map fun s=>s - 1)) = sd.map fun s=>(0,s - 1)
 | []=>rfl
 | a :: r=>by simp [zip_zero r]
theorem le_prodI:∀ {sd:List Int},(∀ c ∈ sd,1 <= c) -> ∀ c ∈ sd,c <= prodI sd
 | a :: r,h,c,hc=>by
  have h1:=h a List.mem_cons_self
  have hr:∀ c ∈ r,1 <= c:=fun c hc=>h c (List.mem_cons_of_mem _ hc)
  have h2:=prodI_pos hr
  show c <= a * prodI r
  rcases List.mem_cons.mp hc with rfl | hc
  ·have:=Int.mul_le_mul_of_nonneg_left h2 (show (0:Int) <= c by omega); omega
  ·have h3:=le_prodI hr c hc
   have:=Int.mul_le_mul_of_nonneg_right h1 (show (0:Int) <= prodI r by omega); omega
noncomputable def cAllPlaces:Con:=fun args Q=>∃ sd:List Int,args = [.fz (tupD sd)] /\ S0 sd /\ ∀ o,Q (.ow (.list ((plc sd).map tupD))) o
theorem scAllPlaces:FnScope ["sides"] ["sides"] (defScope (top 11)):=⟨rfl,rfl,rfl,by decide +kernel,rfl,by decide +kernel,by decide +kernel⟩
theorem ok_allPlaces {f:Addr} {fd:FuncData} (F:Fun K "all_places" "all_places" (top 11) f fd) (C:CalsF P w K mg base):FnOk P w K mg base CX0 3 f fd ["sides"] (conSp K cAllPlaces):=by
 have S:=scAllPlaces
 refine wfn F S (fun cdv A outer s H E hr=>(s_one (s_ret (w_fn C.places_between (hr.mono (by first | decide | omega)) (wa_cons (wx (w_fn C.first_place (hr.mono (by first | decide | omega)) (wa_cons (wn 0) wa_nil))) (wa_cons (wx (w_fn C.last_place (hr.mono (by first | decide | omega)) (wa_cons (wn 0) wa_nil))) wa_nil)))))) ?_ ?_
 ·rintro args Qd ⟨sd,rfl,_⟩; rfl
 ·rintro args Qd ⟨sd,rfl,hsd,q⟩
  have h3:=hsd.l3
  refine ⟨noOw_of rfl,?_⟩
  refine ⟨sd,rfl,by omega,fun o1=>?_⟩
  refine ⟨sd,rfl,by omega,fun o2=>?_⟩
  have e:((sd.map fun _=>(0:Int)).zip (sd.map fun s=>s - 1)).map (fun p=>rng2 p.1 p.2) = sd.map rng:=by
   rw [zip_zero,List.map_map]
   exact List.map_congr_left fun s _=>rng2_zero s
  refine ⟨sd.map fun _=>0,sd.map fun s=>s - 1,rfl,by simp,by simpa using h3,fun p hp=>?_,?_,fun o3=>?_⟩
  ·rw [zip_zero] at hp
   obtain ⟨s,hs,rfl⟩:=List.mem_map.mp hp
   have h1:=hsd.p s hs
   have h2:=le_prodI hsd.p s hs
   have:=hsd.m
   exact ⟨by show (0:Int) <= 0; decide,by show (0:Int) <= s - 1; omega,by show s - 1 <= 1000; omega⟩
  ·rw [e]
   have h1:=lenP_rng hsd.p
   have:=hsd.m
   omega
  ·unfold btw
   rw [e]
   exact q _
end
end R46
namespace R46
open PySem L2 L3 PyProof.Rows
section
variable {P:Program} {w:World} {K:PySem.W.Frag} {mg:Str -> Option Value} {base:Heap}
noncomputable def idx (sd pl:List Int):Int:=(sd.zip pl).foldl (fun i p=>i * p.1 + p.2) 0
noncomputable def cIndex:Con:=fun args Q=>∃ sd pl:List Int,args = [.fz (tupD sd),.fz (tupD pl)] /\ sd.length <= 1000 /\ (∀ s ∈ sd,0 <= s /\ s < 2 ^ 64) /\ ∀ o,Q (.fz (.int (idx sd pl))) o
theorem scIndex:FnScope ["sides","place","index","side","number"] ["sides","place"] (defScope (top 5)):=⟨rfl,rfl,rfl,by decide +kernel,rfl,by decide +kernel,by decide +kernel⟩
theorem ok_index {f:Addr} {fd:FuncData} (F:Fun K "index_of" "index_of" (top 5) f fd) (T:Txt mg):FnOk P w K mg base CX0 1 f fd ["sides","place"] (conSp K cIndex):=by
 have S:=scIndex
 refine wfn F S (fun cdv A outer s H E hr=>(s_cons (s_set (i:=2) S.nd rfl (Or.inl rfl) w_int)
     (s_cons (s_for [3,4] PassesOwn.never rfl (i_zip2 rfl T.zip_ (wa_cons (wn 0) (wa_cons (wn 1) wa_nil))) (g_tup rfl rfl (gs_cons (g_name (i:=3) S.nd rfl (Or.inl rfl)) (gs_cons (g_name (i:=4) S.nd rfl (Or.inl rfl)) gs_nil))) (s_one (s_set (i:=2) S.nd rfl (Or.inl rfl) (w_bin ok_add op_addD (wx (w_bin ok_mul op_mulD (wn 2) (wn 3))) (wn 4)))))
     (s_one (s_retV (wn 2)))))) ?_ ?_
 ·rintro args Qd ⟨sd,pl,rfl,_⟩; rfl
 ·rintro args Qd ⟨sd,pl,rfl,hl,hs,q⟩
  refine ⟨noOw_of rfl,?_⟩
  refine loopC (fun rest ρ=>∃ (i:Int) (rs:List (Int × Int)),ρ = [some (.fz (tupD sd)),some (.fz (tupD pl)),some (.fz (.int i)),none,none] /\ rest = rs.map (fun p=>PyData.tuple [.int p.1,.int p.2]) /\ (∀ p ∈ rs,p ∈ sd.zip pl) /\ rs.foldl (fun i p=>i * p.1 + p.2) i = idx sd pl) ?_ ?_
   ⟨0,sd.zip pl,rfl,zipD_ints _ _,fun _ h=>h,rfl⟩
  ·rintro d ds ρ ⟨i,rs,rfl,er,hin,hf⟩ N hN
   cases rs with
   | nil=>cases er
   | cons p rs =>
    cases er
    have hp:=hs p.1 (List.of_mem_zip (hin p List.mem_cons_self)).1
    exact ⟨rfl,.inr ⟨by omega,by omega⟩,hN _ ⟨i * p.1 + p.2,rs,rfl,rfl,fun x hx=>hin x (List.mem_cons_of_mem _ hx),hf⟩⟩
  ·rintro ρ ⟨i,rs,rfl,er,hin,hf⟩
   cases rs with
   | nil =>
    have hf:i = idx sd pl:=hf
    subst hf
    exact q _
   | cons _ _=>cases er
noncomputable abbrev pr2 (p:Int × Int):PyData:=.tuple [.int p.1,.int p.2]
noncomputable def cor (a b:Int):List (Int × Int):=if a = 0 then [(b,1)] else [(a - 1,-1),(b,1)]
noncomputable def cCorner:Con:=fun args Q=>∃ a b:Int,args = [.fz (.int a),.fz (.int b)] /\ ∀ o,Q (.ow (.list ((cor a b).map pr2))) o
theorem scCorner:FnScope ["first","last"] ["first","last"] (defScope (top 17)):=⟨rfl,rfl,rfl,by decide +kernel,rfl,by decide +kernel,by decide +kernel⟩
theorem ok_corner {f:Addr} {fd:FuncData} (F:Fun K "corner_numbers" "corner_numbers" (top 17) f fd) (T:Txt mg):FnOk P w K mg base CX0 1 f fd ["first","last"] (conSp K cCorner):=by
 have S:=scCorner
 refine wfn F S (fun cdv A outer s H E hr=>(s_cons (s_if (t_cmp ok_eq (op_eqE (K:=K) rfl hr.units) (wn 0) (wx w_int)) (s_one (s_ret (w_lst (wa_cons (wx (w_tup (wa_cons (wx (wv 1)) (wa_cons (wx w_int) wa_nil)))) wa_nil)))) s_nil)
     (s_one (s_ret (w_lst (wa_cons (wx (w_tup (wa_cons (wx (w_bin ok_sub op_sub (wn 0) (wx w_int))) (wa_cons (wx (w_neg (wx w_int))) wa_nil)))) (wa_cons (wx (w_tup (wa_cons (wx (wv 1)) (wa_cons (wx w_int) wa_nil)))) wa_nil))))))) ?_ ?_
 ·rintro args Qd ⟨a,b,rfl,_⟩; rfl
 ·rintro args Qd ⟨a,b,rfl,q⟩
  refine ⟨noOw_of rfl,?_⟩
  refine ite2 (fun h=>?_) (fun h=>?_)
  ·have h0:a = 0:=by simpa using h
   have:=q
   simp only [cor,if_pos h0] at this
   exact this _
  ·have h0:a ≠ 0:=by simpa using h
   have:=q
   simp only [cor,if_neg h0] at this
   exact this _
end
end R46
namespace R46
open PySem L2 L3 PyProof.Rows
section
variable {P:Program} {w:World} {K:PySem.W.Frag} {mg:Str -> Option Value} {base:Heap}
noncomputable def sgn (cs:List (Int × Int)):Int:=cs.foldl (fun s p=>s * p.2) 1
noncomputable abbrev sgD (cs:List (Int × Int)):PyData:=.tuple [.int (sgn cs),tupD (cs.map (·.1))]
noncomputable def fst2:PyData -> PyData
 | .tuple [x,_]=>x
 | _=>.none
noncomputable def cSigned:Con:=fun args Q=>∃ cs:List (Int × Int),args = [.fz (.tuple (cs.map pr2))] /\ cs.length <= 1000 /\ (∀ p ∈ cs,-1 <= p.2 /\ p.2 <= 1) /\ ∀ o,Q (.fz (sgD cs)) o
theorem scSigned:FnScope ["chosen","sign","pair"] ["chosen"] (defScope (top 18)):=⟨rfl,rfl,rfl,by decide +kernel,rfl,by decide +kernel,by decide +kernel⟩
theorem ok_signed {f:Addr} {fd:FuncData} (F:Fun K "signed_place" "signed_place" (top 18) f fd) (T:Txt mg):FnOk P w K mg base CX0 1 f fd ["chosen"] (conSp K cSigned):=by
 have S:=scSigned
 refine wfn F S (fun cdv A outer s H E hr=>(s_cons (s_set (i:=1) S.nd rfl (Or.inl rfl) w_int)
     (s_cons (s_for [2] PassesOwn.never rfl (i_seq rfl (wv 0)) (g_name (i:=2) S.nd rfl (Or.inl rfl)) (s_one (s_set (i:=1) S.nd rfl (Or.inl rfl) (w_bin ok_mul op_mulD (wn 1) (wx (w_ix rfl (wn 2) (wx w_int)))))))
     (s_one (s_ret (w_tup (wa_cons (wx (wv 1)) (wa_cons (wx (w_callT ok_tuple (call_tupleK (K:=K) rfl) T.tuple_ boot_tuple (wa_cons (wx (w_comp rfl (own:=["pair"]) (fr:=[]) (by kernel_rfl) (i_seq rfl (wv 0)) (fun _ _ _ _=>(g_name (i:=0) (by decide +kernel:List.Nodup (["pair"]:List Str)) rfl (Or.inl rfl))) (fun _ _ _ _=>if0) (fun _ _ _ _=>(w_ix rfl (wn 0) (wx w_int))))) wa_nil))) wa_nil)))))))) ?_ ?_
 ·rintro args Qd ⟨cs,rfl,_⟩; rfl
 ·rintro args Qd ⟨cs,rfl,hl,hs,q⟩
  refine ⟨noOw_of rfl,?_⟩
  refine loopC (fun rest ρ=>∃ (i:Int) (rs:List (Int × Int)),ρ = [some (.fz (.tuple (cs.map pr2))),some (.fz (.int i)),none] /\ rest = rs.map pr2 /\ (∀ p ∈ rs,p ∈ cs) /\ rs.foldl (fun s p=>s * p.2) i = sgn cs) ?_ ?_
   ⟨1,cs,rfl,rfl,fun _ h=>h,rfl⟩
  ·rintro d ds ρ ⟨i,rs,rfl,er,hin,hf⟩ N hN
   cases rs with
   | nil=>cases er
   | cons p rs =>
    cases er
    have hp:=hs p (hin p List.mem_cons_self)
    exact ⟨.int p.2,rfl,.inr ⟨by omega,by omega⟩,hN _ ⟨i * p.2,rs,rfl,rfl,fun x hx=>hin x (List.mem_cons_of_mem _ hx),hf⟩⟩
  ·rintro ρ ⟨i,rs,rfl,er,hin,hf⟩
   cases rs with
   | nil =>
    have hf:i = sgn cs:=hf
    subst hf
    refine ⟨by rw [List.length_map]; exact le_size hl,mapC fst2 ?_ ?_⟩
    ·intro d hd N hN
     obtain ⟨p,hp,rfl⟩:=List.mem_map.mp hd
     exact ⟨.int p.1,rfl,hN⟩
    ·have e:(cs.map pr2).map fst2 = (cs.map (·.1)).map PyData.int:=by rw [List.map_map,List.map_map]; rfl
     rw [e]
     exact q _
   | cons _ _=>cases er
end
end R46
namespace R46
open PySem L2 L3 PyProof.Rows
section
variable {P:Program} {w:World} {K:PySem.W.Frag} {mg:Str -> Option Value} {base:Heap}
structure CalsR (P:Program) (w:World) (K:PySem.W.Frag) (mg:Str -> Option Value) (base:Heap):Prop where
 one_of_each:Cal P w K mg base 1 "one_of_each" ["choices"] (conSp K cEach)
 corner_numbers:Cal P w K mg base 1 "corner_numbers" ["first","last"] (conSp K cCorner)
 signed_place:Cal P w K mg base 1 "signed_place" ["chosen"] (conSp K cSigned)
noncomputable def crn (lo hi:List Int):List (List (Int × Int)):=eachA [[]] ((lo.zip hi).map fun p=>cor p.1 p.2)
theorem cor_sgn (a b:Int):∀ p ∈ cor a b,-1 <= p.2 /\ p.2 <= 1:=by
 unfold cor
 split <;> intro p hp <;> simp at hp
 ·subst hp; simp
 ·rcases hp with rfl | rfl <;> simp
theorem cor_ne (a b:Int):cor a b ≠ []:=by unfold cor; split <;> simp
theorem cor_len (a b:Int):(cor a b).length <= 2:=by unfold cor; split <;> simp
noncomputable def cCorners:Con:=fun args Q=>∃ sd lo hi:List Int,args = [.fz (tupD sd),.fz (.tuple [tupD lo,tupD hi])] /\ lo.length = hi.length /\ lo.length <= 3 /\ ∀ o,Q (.ow (.list ((crn lo hi).map sgD))) o
theorem each_in {α:Type}:∀ {cs acc:List (List α)} {P:α -> Prop},(∀ c ∈ cs,∀ x ∈ c,P x) -> (∀ p ∈ acc,∀ x ∈ p,P x) -> ∀ p ∈ eachA acc cs,∀ x ∈ p,P x
 | [],acc,P,_,ha=>ha
 | c :: cs,acc,P,hc,ha=>by
  refine each_in (cs:=cs) (fun c' h=>hc c' (List.mem_cons_of_mem _ h)) ?_
  intro p hp x hx
  obtain ⟨q,hq,hp⟩:=List.mem_flatMap.mp hp
  obtain ⟨y,hy,rfl⟩:=List.mem_map.mp hp
  rcases List.mem_append.mp hx with h | h
  ·exact ha q hq x h
  ·rw [List.mem_singleton.mp h]; exact hc c List.mem_cons_self y hy
theorem each_len {α:Type}:∀ {cs acc:List (List α)} {n:Nat},(∀ p ∈ acc,p.length = n) -> ∀ p ∈ eachA acc cs,p.length = n + cs.length
 | [],acc,n,ha=>fun p hp=>by simpa using ha p hp
 | c :: cs,acc,n,ha=>fun p hp=>by
  have:=each_len (cs:=cs) (acc:=acc.flatMap fun p=>c.map fun x=>p ++ [x]) (n:=n + 1) (fun p hp=>by
    obtain ⟨q,hq,hp⟩:=List.mem_flatMap.mp hp
    obtain ⟨y,hy,rfl⟩:=List.mem_map.mp hp
    simp [ha q hq]) p hp
  simp only [List.length_cons]
  omega
noncomputable def fCor:PyData -> PyData
 | .tuple [.int a,.int b]=>.list ((cor a b).map pr2)
 | _=>.none
noncomputable def unp:PyData -> Int × Int
 | .tuple [.int a,.int b]=>(a,b)
 | _=>(0,0)
theorem unp_pr2 (cs:List (Int × Int)):(cs.map pr2).map unp = cs:=by
 rw [List.map_map]
 exact List.map_id cs
noncomputable def fSg:PyData -> PyData
 | .tuple ds=>sgD (ds.map unp)
 | _=>.none
theorem lenP_two {α:Type}:∀ {cs:List (List α)},(∀ c ∈ cs,c.length <= 2) -> lenP cs <= 2 ^ cs.length
 | [],_=>by simp [lenP]
 | c :: cs,h=>by
  have h1:=h c List.mem_cons_self
  have h2:=lenP_two (cs:=cs) fun c' hc=>h c' (List.mem_cons_of_mem _ hc)
  simp only [lenP,List.length_cons,Nat.pow_succ]
  calc c.length * lenP cs <= 2 * 2 ^ cs.length:=Nat.mul_le_mul h1 h2
   _ = 2 ^ cs.length * 2:=Nat.mul_comm _ _
theorem scCorners:FnScope ["sides","box","choices"] ["sides","box"] (defScope (top 16)):=⟨rfl,rfl,rfl,by decide +kernel,rfl,by decide +kernel,by decide +kernel⟩
theorem ok_corners {f:Addr} {fd:FuncData} (F:Fun K "corners" "corners" (top 16) f fd) (T:Txt mg) (C:CalsR P w K mg base):FnOk P w K mg base CX0 2 f fd ["sides","box"] (conSp K cCorners):=by
 have S:=scCorners
 refine wfn F S (fun cdv A outer s H E hr=>(s_cons (s_setC (i:=2) S.nd rfl rfl rfl (own:=["first","last"]) (fr:=[]) (by kernel_rfl) (i_zip2 rfl T.zip_ (wa_cons (wx (w_ix rfl (wn 1) (wx w_int))) (wa_cons (wx (w_ix rfl (wn 1) (wx w_int))) wa_nil))) (fun _ _ _ _=>(g_tup rfl rfl (gs_cons (g_name (i:=0) (by decide +kernel:List.Nodup (["first","last"]:List Str)) rfl (Or.inl rfl)) (gs_cons (g_name (i:=1) (by decide +kernel:List.Nodup (["first","last"]:List Str)) rfl (Or.inl rfl)) gs_nil)))) (fun _ _ _ _=>if0) (fun _ _ _ _=>(w_fn C.corner_numbers (hr.mono (by first | decide | omega)) (wa_cons (wn 0) (wa_cons (wn 1) wa_nil)))))
     (s_one (s_ret (w_comp rfl (own:=["chosen"]) (fr:=[]) (by kernel_rfl) (i_seq rfl (w_fn C.one_of_each (hr.mono (by first | decide | omega)) (wa_cons (wx (wv 2)) wa_nil))) (fun _ _ _ _=>(g_name (i:=0) (by decide +kernel:List.Nodup (["chosen"]:List Str)) rfl (Or.inl rfl))) (fun _ _ _ _=>if0) (fun _ _ _ _=>(w_fn C.signed_place (hr.mono (by first | decide | omega)) (wa_cons (wn 0) wa_nil)))))))) ?_ ?_
 ·rintro args Qd ⟨sd,lo,hi,rfl,_⟩; rfl
 ·rintro args Qd ⟨sd,lo,hi,rfl,hl,h3,q⟩
  refine ⟨noOw_of rfl,?_⟩
  have hz:(zipD (lo.map PyData.int) (hi.map PyData.int)).length <= sizeLine:=by rw [zipD_ints,List.length_map,List.length_zip]; exact le_size (by omega)
  refine ⟨tupD lo,rfl,tupD hi,rfl,hz,mapC fCor ?_ ?_⟩
  ·intro d hd N hN
   rw [zipD_ints] at hd
   obtain ⟨⟨a,b⟩,hp,rfl⟩:=List.mem_map.mp hd
   exact ⟨rfl,a,b,rfl,fun o=>hN⟩
  ·have e1:(zipD (lo.map PyData.int) (hi.map PyData.int)).map fCor = (((lo.zip hi).map fun p=>cor p.1 p.2).map (List.map pr2)).map PyData.list:=by
    rw [zipD_ints,List.map_map,List.map_map,List.map_map]
    rfl
   rw [e1]
   have hin:∀ c ∈ ((lo.zip hi).map fun p=>cor p.1 p.2).map (List.map pr2),∃ p:Int × Int,c = (cor p.1 p.2).map pr2:=fun c hc=>by
    obtain ⟨c',hc',rfl⟩:=List.mem_map.mp hc
    obtain ⟨p,_,rfl⟩:=List.mem_map.mp hc'
    exact ⟨p,rfl⟩
   have hlen:lenP (((lo.zip hi).map fun p=>cor p.1 p.2).map (List.map pr2)) <= 1000:=by
    have h1:=lenP_two (cs:=((lo.zip hi).map fun p=>cor p.1 p.2).map (List.map pr2)) fun c hc=>by
     obtain ⟨p,rfl⟩:=hin c hc
     rw [List.length_map]; exact cor_len _ _
    have h2:(((lo.zip hi).map fun p=>cor p.1 p.2).map (List.map pr2)).length <= 3:=by simp; omega
    have h3:=Nat.pow_le_pow_right (n:=2) (by decide) h2
    omega
   refine ⟨((lo.zip hi).map fun p=>cor p.1 p.2).map (List.map pr2),rfl,?_,hlen,by simp; omega,fun o=>?_⟩
   ·intro c hc z
    obtain ⟨p,rfl⟩:=hin c hc
    exact cor_ne _ _ (List.map_eq_nil_iff.mp z)
   have e2:eachA [[]] (((lo.zip hi).map fun p=>cor p.1 p.2).map (List.map pr2)) = (crn lo hi).map (List.map pr2):=by
    have:=eachA_map pr2 ((lo.zip hi).map fun p=>cor p.1 p.2) [[]]
    simp only [List.map_cons,List.map_nil] at this
    exact this.symm
   have hcl:(crn lo hi).length <= 1000:=by
    have h1:=eachA_len (((lo.zip hi).map fun p=>cor p.1 p.2).map (List.map pr2)) [[]]
    rw [e2,List.length_map] at h1
    simp only [List.length_singleton,Nat.one_mul] at h1
    omega
   rw [e2]
   refine ⟨by rw [List.length_map,List.length_map]; exact le_size hcl,mapC fSg ?_ ?_⟩
   ·intro d hd N hN
    obtain ⟨d',hd',rfl⟩:=List.mem_map.mp hd
    obtain ⟨cs,hcs,rfl⟩:=List.mem_map.mp hd'
    have h1:∀ p ∈ cs,-1 <= p.2 /\ p.2 <= 1:=each_in (P:=fun p:Int × Int=>-1 <= p.2 /\ p.2 <= 1) (fun c hc x hx=>by
      obtain ⟨p,_,rfl⟩:=List.mem_map.mp hc
      exact cor_sgn _ _ x hx) (fun p hp x hx=>by simp at hp; subst hp; simp at hx) cs hcs
    have h2:cs.length <= 1000:=by
     have:=each_len (n:=0) (fun p hp=>by simp at hp; subst hp; rfl) cs hcs
     simp at this
     omega
    have h3:fSg (.tuple (cs.map pr2)) = sgD cs:=by rw [fSg,unp_pr2]
    rw [h3] at hN
    exact ⟨cs,rfl,h2,h1,fun o=>hN⟩
   ·have e3:(((crn lo hi).map (List.map pr2)).map PyData.tuple).map fSg = (crn lo hi).map sgD:=by
     rw [List.map_map,List.map_map]
     refine List.map_congr_left fun cs _=>?_
     show fSg (.tuple (cs.map pr2)) = sgD cs
     rw [fSg,unp_pr2]
    rw [e3]
    exact q _
end
end R46
namespace R46
open PySem L2 L3 PyProof.Rows
section
variable {P:Program} {w:World} {K:PySem.W.Frag} {mg:Str -> Option Value} {base:Heap}
structure CalsS (P:Program) (w:World) (K:PySem.W.Frag) (mg:Str -> Option Value) (base:Heap):Prop where
 index_of:Cal P w K mg base 1 "index_of" ["sides","place"] (conSp K cIndex)
 corners:Cal P w K mg base 2 "corners" ["sides","box"] (conSp K cCorners)
noncomputable def vat (cl:List Int) (i:Int):Int:=(atI cl i).getD 0
noncomputable def unI:PyData -> Int
 | .int i=>i
 | _=>0
theorem unI_int (ns:List Int):(ns.map PyData.int).map unI = ns:=by
 rw [List.map_map]; exact List.map_id ns
noncomputable def fTm (sd cl:List Int):PyData -> PyData
 | .tuple [.int s,.tuple ds]=>.int (s * vat cl (idx sd (ds.map unI)))
 | _=>.none
noncomputable def sbr (sd cl lo hi:List Int):Int:=((crn lo hi).map fun cs=>sgn cs * vat cl (idx sd (cs.map (·.1)))).sum
theorem fTm_sg (sd cl:List Int) (cs:List (Int × Int)):fTm sd cl (sgD cs) = .int (sgn cs * vat cl (idx sd (cs.map (·.1)))):=by
 show PyData.int (sgn cs * vat cl (idx sd (((cs.map (·.1)).map PyData.int).map unI))) = _
 rw [unI_int]
theorem sgn_b {cs:List (Int × Int)} (h:∀ p ∈ cs,-1 <= p.2 /\ p.2 <= 1):-1 <= sgn cs /\ sgn cs <= 1:=by
 have gen:∀ (l:List (Int × Int)) (s:Int),(∀ p ∈ l,-1 <= p.2 /\ p.2 <= 1) -> -1 <= s /\ s <= 1 -> -1 <= l.foldl (fun s p=>s * p.2) s /\ l.foldl (fun s p=>s * p.2) s <= 1:=by
  intro l
  induction l with
  | nil=>intro s _ hs; exact hs
  | cons p l ih =>
   intro s hl hs
   refine ih _ (fun q hq=>hl q (List.mem_cons_of_mem _ hq)) ?_
   have hp:=hl p List.mem_cons_self
   have:p.2 = -1 \/ p.2 = 0 \/ p.2 = 1:=by omega
   show -1 <= s * p.2 /\ s * p.2 <= 1
   rcases this with e | e | e <;> rw [e] <;> omega
 exact gen cs 1 h (by decide)
theorem crn_sgn {lo hi:List Int} {cs:List (Int × Int)} (h:cs ∈ crn lo hi):∀ p ∈ cs,-1 <= p.2 /\ p.2 <= 1 :=
 each_in (P:=fun p:Int × Int=>-1 <= p.2 /\ p.2 <= 1) (fun c hc x hx=>by
   obtain ⟨p,_,rfl⟩:=List.mem_map.mp hc
   exact cor_sgn _ _ x hx) (fun p hp x hx=>by simp at hp; subst hp; simp at hx) cs h
theorem crn_len (lo hi:List Int) (hl:lo.length = hi.length) (h3:lo.length <= 3):(crn lo hi).length <= 1000:=by
 have h1:=eachA_len ((lo.zip hi).map fun p=>cor p.1 p.2) [[]]
 have h2:=lenP_two (cs:=(lo.zip hi).map fun p=>cor p.1 p.2) fun c hc=>by
  obtain ⟨p,_,rfl⟩:=List.mem_map.mp hc
  exact cor_len _ _
 have h4:((lo.zip hi).map fun p=>cor p.1 p.2).length <= 3:=by simp; omega
 have h5:=Nat.pow_le_pow_right (n:=2) (by decide) h4
 simp only [List.length_singleton,Nat.one_mul] at h1
 unfold crn
 omega
noncomputable def IsC (cl:List Int) (d:PyData):Prop:=d = tupD cl \/ d = .list (cl.map PyData.int)
noncomputable def cSbr:Con:=fun args Q=>∃ (sd cl lo hi:List Int) (d:PyData),args = [.fz (tupD sd),.fz d,.fz (.tuple [tupD lo,tupD hi])] /\ IsC cl d /\ lo.length = hi.length /\ lo.length <= 3 /\ sd.length <= 1000 /\ (∀ s ∈ sd,0 <= s /\ s < 2 ^ 64) /\
 (∀ cs ∈ crn lo hi,(atI cl (idx sd (cs.map (·.1)))).isSome = true) /\ ∀ o,Q (.fz (.int (sbr sd cl lo hi))) o
theorem scSbr:FnScope ["sides","table","box"] ["sides","table","box"] (defScope (top 19)):=⟨rfl,rfl,rfl,by decide +kernel,rfl,by decide +kernel,by decide +kernel⟩
theorem ok_sbr {f:Addr} {fd:FuncData} (F:Fun K "sum_by_running" "sum_by_running" (top 19) f fd) (T:Txt mg) (C:CalsS P w K mg base):FnOk P w K mg base CX0 3 f fd ["sides","table","box"] (conSp K cSbr):=by
 have S:=scSbr
 refine wfn F S (fun cdv A outer s H E hr=>(s_one (s_ret (w_callB ok_sum (call_sumK (K:=K) rfl rfl) T.sum_ boot_sum (wa_cons (wx (w_comp rfl (own:=["sign","place"]) (fr:=[1,0]) (by kernel_rfl) (i_seq rfl (w_fn C.corners (hr.mono (by first | decide | omega)) (wa_cons (wn 0) (wa_cons (wn 2) wa_nil)))) (fun _ _ _ _=>(g_tup rfl rfl (gs_cons (g_name (i:=0) (by decide +kernel:List.Nodup (["sign","place","table","sides"]:List Str)) rfl (Or.inl rfl)) (gs_cons (g_name (i:=1) (by decide +kernel:List.Nodup (["sign","place","table","sides"]:List Str)) rfl (Or.inl rfl)) gs_nil)))) (fun _ _ _ _=>if0) (fun _ _ _ _=>(w_bin ok_mul op_mulD (wn 0) (wx (w_ix rfl (wn 2) (wx (w_fn C.index_of (hr.mono (by first | decide | omega)) (wa_cons (wn 3) (wa_cons (wn 1) wa_nil)))))))))) wa_nil))))) ?_ ?_
 ·rintro args Qd ⟨sd,cl,lo,hi,d,rfl,_⟩; rfl
 ·rintro args Qd ⟨sd,cl,lo,hi,d,rfl,hdd,hl,h3,hsd,hs,hix,q⟩
  refine ⟨noOw_of rfl,?_⟩
  refine ⟨sd,lo,hi,rfl,hl,h3,fun o=>⟨by rw [List.length_map]; exact le_size (crn_len lo hi hl h3),mapC (fTm sd cl) ?_ ?_⟩⟩
  ·intro d hd N hN
   obtain ⟨cs,hcs,rfl⟩:=List.mem_map.mp hd
   obtain ⟨v,hv⟩:=Option.isSome_iff_exists.mp (hix cs hcs)
   have hb:=sgn_b (crn_sgn hcs)
   rw [fTm_sg,show vat cl (idx sd (cs.map (·.1))) = v by rw [vat,hv]; rfl] at hN
   rcases hdd with rfl | rfl
   all_goals exact ⟨rfl,sd,cs.map (·.1),rfl,hsd,hs,fun o=>⟨.int v,atI_map PyData.int hv,.inl ⟨by omega,by omega⟩,hN⟩⟩
  ·have e3:((crn lo hi).map sgD).map (fTm sd cl) = ((crn lo hi).map fun cs=>sgn cs * vat cl (idx sd (cs.map (·.1)))).map PyData.int:=by
    rw [List.map_map,List.map_map]
    exact List.map_congr_left fun cs _=>fTm_sg sd cl cs
   rw [e3]
   exact ⟨_,rfl,q _⟩
end
end R46
namespace R46
open PySem L2 L3 PyProof.Rows
noncomputable def InW {α:Type}:List α -> List (List α) -> Prop
 | [],[]=>True
 | x :: xs,c :: cs=>x ∈ c /\ InW xs cs
 | _,_=>False
theorem each_mem {α:Type}:∀ {cs acc:List (List α)} {p:List α},p ∈ eachA acc cs -> ∃ a ∈ acc,∃ q,p = a ++ q /\ InW q cs
 | [],acc,p,h=>⟨p,h,[],by simp,trivial⟩
 | c :: cs,acc,p,h=>by
  obtain ⟨a',ha',q,rfl,hq⟩:=each_mem (cs:=cs) h
  obtain ⟨a,ha,hb⟩:=List.mem_flatMap.mp ha'
  obtain ⟨x,hx,rfl⟩:=List.mem_map.mp hb
  exact ⟨a,ha,x :: q,by simp,hx,hq⟩
theorem each_mem0 {α:Type} {cs:List (List α)} {p:List α} (h:p ∈ eachA [[]] cs):InW p cs:=by
 obtain ⟨a,ha,q,rfl,hq⟩:=each_mem h
 simp at ha
 subst ha
 exact hq
theorem mem_rng {x s:Int} (h:x ∈ rng s):0 <= x /\ x < s:=by
 unfold rng at h
 obtain ⟨n,hn,rfl⟩:=List.mem_map.mp h
 have:=List.mem_range.mp hn
 omega
noncomputable def Wi:List Int -> List Int -> Prop
 | [],[]=>True
 | x :: xs,s :: ss=>(0 <= x /\ x < s) /\ Wi xs ss
 | _,_=>False
theorem plc_wi {sd p:List Int} (hm:p ∈ plc sd):Wi p sd:=by
 have h:=each_mem0 hm
 clear hm
 induction sd generalizing p with
 | nil=>cases p with
  | nil=>trivial
  | cons _ _=>exact h.elim
 | cons s ss ih=>cases p with
  | nil=>exact h.elim
  | cons x xs=>exact ⟨mem_rng h.1,ih h.2⟩
theorem idx_b:∀ {sd pl:List Int} {i m:Int},Wi pl sd -> 0 <= i -> i < m -> 0 <= (sd.zip pl).foldl (fun i p=>i * p.1 + p.2) i /\ (sd.zip pl).foldl (fun i p=>i * p.1 + p.2) i < m * prodI sd
 | [],[],i,m,_,h0,h1=>by simp [prodI]; omega
 | [],_ :: _,_,_,h,_,_=>h.elim
 | _ :: _,[],_,_,h,_,_=>h.elim
 | s :: ss,x :: xs,i,m,h,h0,h1=>by
  have hx:=h.1
  have hs:0 <= s:=by omega
  have e1:0 <= i * s:=Int.mul_nonneg h0 hs
  have e2:i * s <= (m - 1) * s:=Int.mul_le_mul_of_nonneg_right (by omega) hs
  rw [Int.sub_mul,Int.one_mul] at e2
  have:=idx_b (sd:=ss) (pl:=xs) (i:=i * s + x) (m:=m * s) h.2 (by omega) (by omega)
  rw [Int.mul_assoc] at this
  exact this
theorem at_some {cl:List Int} {i:Int} (h0:0 <= i) (h1:i < cl.length):(atI cl i).isSome = true:=by
 have:i.toNat < cl.length:=by omega
 unfold atI ixN
 simp [h0,h1,this]
theorem plc_len {sd:List Int} (hp:∀ c ∈ sd,1 <= c):((plc sd).length:Int) = prodI sd:=by
 rw [plc,eachA_len,<- lenP_rng hp]
 simp
theorem wi_len:∀ {p sd:List Int},Wi p sd -> p.length = sd.length
 | [],[],_=>rfl
 | [],_ :: _,h=>h.elim
 | _ :: _,[],h=>h.elim
 | _ :: _,_ :: _,h=>by simp [wi_len h.2]
end R46
namespace R46
open PySem L2 L3 PyProof.Rows
noncomputable def W {α:Type}:List (List α) -> (List α -> Int) -> Int
 | [],g=>g []
 | c :: cs,g=>(c.map fun x=>W cs fun q=>g (x :: q)).sum
theorem sum_flat {α β:Type} (f:β -> Int) (h:α -> List β):∀ l:List α,((l.flatMap h).map f).sum = (l.map fun a=>((h a).map f).sum).sum
 | []=>rfl
 | a :: l=>by simp [sum_flat f h l]
theorem each_sum {α:Type}:∀ (cs acc:List (List α)) (g:List α -> Int),((eachA acc cs).map g).sum = (acc.map fun a=>W cs fun q=>g (a ++ q)).sum
 | [],acc,g=>by simp [eachA,W]
 | c :: cs,acc,g=>by
  rw [eachA,each_sum cs,sum_flat]
  congr 1
  refine List.map_congr_left fun a _=>?_
  rw [List.map_map,W]
  congr 1
  refine List.map_congr_left fun x _=>?_
  show (W cs fun q=>g ((a ++ [x]) ++ q)) = W cs fun q=>g (a ++ x :: q)
  congr 1
  funext q
  simp
theorem each_sum0 {α:Type} (cs:List (List α)) (g:List α -> Int):((eachA [[]] cs).map g).sum = W cs g:=by
 rw [each_sum]; simp
theorem W_mul {α:Type} (e:Int):∀ (cs:List (List α)) (g:List α -> Int),(W cs fun q=>e * g q) = e * W cs g
 | [],g=>rfl
 | c :: cs,g=>by
  have hs:∀ (l:List α) (f:α -> Int),(l.map fun x=>e * f x).sum = e * (l.map f).sum:=by
   intro l f
   induction l with
   | nil=>simp
   | cons a l ih=>simp [ih,Int.mul_add]
  simp only [W]
  rw [<- hs]
  congr 1
  exact List.map_congr_left fun x _=>W_mul e cs fun q=>g (x :: q)
theorem sgn_fold:∀ (l:List (Int × Int)) (s:Int),l.foldl (fun s p=>s * p.2) s = s * sgn l
 | [],s=>by simp [sgn]
 | p :: l,s=>by
  have h1:=sgn_fold l (s * p.2)
  have h2:=sgn_fold l (1 * p.2)
  unfold sgn at *
  simp only [List.foldl_cons]
  rw [h1,h2,Int.one_mul,Int.mul_assoc]
theorem sgn_cons (p:Int × Int) (l:List (Int × Int)):sgn (p :: l) = p.2 * sgn l:=by
 have:=sgn_fold l (1 * p.2)
 rw [Int.one_mul] at this
 unfold sgn
 simp only [List.foldl_cons,Int.one_mul]
 exact this
noncomputable def lsg (l:List Int):Int:=1 - 2 * (l.sum % 2)
theorem lsg_cons0 (l:List Int):lsg (0 :: l) = lsg l:=by simp [lsg]
theorem W_zero {α:Type}:∀ (cs:List (List α)),(W cs fun _=>(0:Int)) = 0
 | []=>rfl
 | c :: cs=>by
  simp only [W,W_zero cs]
  induction c with
  | nil=>rfl
  | cons a c ih=>simpa using ih
theorem W_add {α:Type}:∀ (cs:List (List α)) (f g:List α -> Int),(W cs fun q=>f q + g q) = W cs f + W cs g
 | [],f,g=>rfl
 | c :: cs,f,g=>by
  simp only [W,W_add cs]
  induction c with
  | nil=>rfl
  | cons a c ih=>simp only [List.map_cons,List.sum_cons,ih]; omega
end R46
namespace R46
open PySem L2 L3 PyProof.Rows
theorem rng_at {s:Int} {j:Nat} {x:Int} (h:(rng s)[j]? = some x):x = j /\ (j:Int) < s:=by
 unfold rng at h
 rw [List.getElem?_map,Option.map_eq_some_iff] at h
 obtain ⟨n,hn,rfl⟩:=h
 rw [List.getElem?_eq_some_iff] at hn
 obtain ⟨h1,h2⟩:=hn
 simp at h1 h2
 omega
theorem flat_at {s:Int} (hs:1 <= s):∀ {acc:List (List Int)} {j':Nat} {a':List Int},(acc.flatMap fun p=>(rng s).map fun x=>p ++ [x])[j']? = some a' ->
  ∃ (j:Nat) (a:List Int) (x:Int),acc[j]? = some a /\ a' = a ++ [x] /\ (0 <= x /\ x < s) /\ (j':Int) = j * s + x
 | [],j',a',h=>by simp at h
 | a :: acc,j',a',h=>by
  rw [List.flatMap_cons] at h
  rcases Nat.lt_or_ge j' ((rng s).map fun x=>a ++ [x]).length with g | g
  ·rw [List.getElem?_append_left g,List.getElem?_map,Option.map_eq_some_iff] at h
   obtain ⟨x,hx,rfl⟩:=h
   obtain ⟨rfl,h2⟩:=rng_at hx
   exact ⟨0,a,_,rfl,rfl,⟨by omega,h2⟩,by simp⟩
  ·rw [List.getElem?_append_right g] at h
   obtain ⟨j,b,x,h1,h2,h3,h4⟩:=flat_at hs h
   rw [List.length_map,rng_len] at g h4
   refine ⟨j + 1,b,x,h1,h2,h3,?_⟩
   rw [show ((j + 1:Nat):Int) = (j:Int) + 1 by omega,Int.add_mul,Int.one_mul]
   omega
theorem each_at:∀ {sd:List Int} {acc:List (List Int)} {k:Nat} {p:List Int},(∀ c ∈ sd,1 <= c) -> (eachA acc (sd.map rng))[k]? = some p ->
  ∃ (j:Nat) (a q:List Int),acc[j]? = some a /\ p = a ++ q /\ Wi q sd /\ (sd.zip q).foldl (fun i p=>i * p.1 + p.2) (j:Int) = k
 | [],acc,k,p,_,h=>⟨k,p,[],h,by simp,trivial,rfl⟩
 | s :: ss,acc,k,p,hp,h=>by
  obtain ⟨j',a',q',h1,h2,h3,h4⟩:=each_at (sd:=ss) (fun c hc=>hp c (List.mem_cons_of_mem _ hc)) h
  obtain ⟨j,a,x,g1,g2,g3,g4⟩:=flat_at (hp s List.mem_cons_self) h1
  refine ⟨j,a,x :: q',g1,by rw [h2,g2]; simp,⟨g3,h3⟩,?_⟩
  rw [g4] at h4
  exact h4
theorem plc_at {sd:List Int} (hp:∀ c ∈ sd,1 <= c) {k:Nat} {p:List Int} (h:(plc sd)[k]? = some p):Wi p sd /\ idx sd p = k:=by
 obtain ⟨j,a,q,h1,h2,h3,h4⟩:=each_at hp h
 have hj:j = 0:=by
  rcases j with _ | j
  ·rfl
  ·simp at h1
 subst hj
 simp at h1
 subst h1
 simp at h2
 subst h2
 exact ⟨h3,h4⟩
theorem plc_nodup {sd:List Int} (hp:∀ c ∈ sd,1 <= c):(plc sd).Nodup:=by
 rw [List.nodup_iff_pairwise_ne,List.pairwise_iff_getElem]
 intro i j hi hj hij e
 have h1:=plc_at hp (k:=i) (p:=(plc sd)[i]) (by simp [hi])
 have h2:=plc_at hp (k:=j) (p:=(plc sd)[j]) (by simp [hj])
 rw [e] at h1
 have:=h1.2.symm.trans h2.2
 omega
end R46
namespace R46
open PySem L2 L3 PyProof.Rows
theorem W_congr {α:Type}:∀ (cs:List (List α)) {f g:List α -> Int},(∀ q,InW q cs -> f q = g q) -> W cs f = W cs g
 | [],f,g,h=>h [] trivial
 | c :: cs,f,g,h=>by
  show (c.map fun x=>W cs fun q=>f (x :: q)).sum = (c.map fun x=>W cs fun q=>g (x :: q)).sum
  congr 1
  exact List.map_congr_left fun x hx=>W_congr cs fun q hq=>h (x :: q) ⟨hx,hq⟩
theorem idx_nn {sd p:List Int} (h:Wi p sd):0 <= idx sd p /\ idx sd p < prodI sd:=by
 have:=idx_b h (Int.le_refl 0) (by decide:(0:Int) < 1)
 rw [Int.one_mul] at this
 exact this
theorem prodI_RM:∀ l:List Int,RM.prodI l = prodI l
 | []=>rfl
 | a :: r=>by show a * RM.prodI r = a * prodI r; rw [prodI_RM r]
theorem prodN_I {l:List Int} (h:∀ c ∈ l,1 <= c):prodI l = (RM.prodN l:Int):=by rw [<- prodI_RM]; exact RM.prodN_I h
noncomputable def stL (sd cl:List Int):List Int:=(List.range (RM.prodN sd)).map fun k=>RM.dif sd (fun i=>cl.getD i 0) k
noncomputable def ruL (sd cl:List Int):List Int:=(List.range (RM.prodN sd)).map fun k=>RM.pre sd (fun i=>cl.getD i 0) k
theorem plc_lenN {sd:List Int} (hp:∀ c ∈ sd,1 <= c):(plc sd).length = RM.prodN sd:=by
 have h1:=plc_len hp
 rw [prodN_I hp] at h1
 omega
theorem plc_RM (sd:List Int):plc sd = RM.placesOf sd:=by
 have gen:∀ (sd:List Int) (acc:List (List Int)),eachA acc (sd.map rng) = sd.foldl RM.stepP acc:=by
  intro sd
  induction sd with
  | nil=>intro acc; rfl
  | cons a r ih =>
   intro acc
   show eachA (acc.flatMap fun p=>(rng a).map fun x=>p ++ [x]) (r.map rng) = r.foldl RM.stepP (RM.stepP acc a)
   rw [ih]
   congr 1
   unfold RM.stepP
   congr 1
   funext p
   simp [rng,RM.rowP]
 exact gen sd [[]]
theorem prog_flat {sd cl:List Int} (hp:∀ c ∈ sd,1 <= c) (hl:cl.length = RM.prodN sd):RM.runProg sd.reverse 1 cl = ruL sd cl:=by
 refine List.ext_getElem (by rw [RM.runProg_len]; simp [ruL,hl]) fun k h1 h2=>?_
 have hk:k < RM.prodN sd:=by rw [RM.runProg_len] at h1; omega
 have e1:=RM.prog_val sd hp cl 1 (by rw [hl,Nat.one_mul]) k (by omega)
 rw [List.getD_eq_getElem?_getD,List.getElem?_eq_getElem h1,Option.getD_some,Nat.div_eq_of_lt hk,Nat.mod_eq_of_lt hk] at e1
 rw [e1]
 simp only [ruL,List.getElem_map,List.getElem_range]
 exact RM.pre_congrU sd k fun i=>by rw [Nat.zero_mul,Nat.zero_add]
theorem law_flat {sd cl:List Int} (hp:∀ c ∈ sd,1 <= c) (hl:cl.length = RM.prodN sd):RM.runOf sd cl = ruL sd cl:=by
 rw [<- prog_flat hp hl,RM.runEq hp (by rw [hl,<- plc_lenN hp,plc_RM])]
end R46
namespace R46
open PySem PySem.Spec L2 L3 PyProof.Rows
section
variable {P:Program} {w:World} {K:PySem.W.Frag} {mg:Str -> Option Value} {base:Heap}
theorem at_ints {xs:List Int} {i:Nat} (h:i < xs.length):atI (xs.map PyData.int) (i:Int) = some (.int (xs.getD i 0)):=by
 refine atI_nat ?_
 rw [List.getElem?_map,List.getElem?_eq_getElem h,List.getD_eq_getElem?_getD,List.getElem?_eq_getElem h]
 rfl
theorem ix_nat {n i:Nat} (h:i < n):ixN n (i:Int) = some i:=by
 unfold ixN
 simp
 omega
noncomputable def cAdd:Con:=fun args Q=>∃ (xs:List Int) (side step:Int),args = [.io (.list (xs.map PyData.int)),.fz (.int side),.fz (.int step)] /\ xs.length <= 1000 /\ 1 <= side /\ side <= 1000 /\ 1 <= step /\ step <= 1000 /\
 ∀ o,Q (.fz .none) (some (.io (.list ((RM.addAlong side step xs).map PyData.int))) :: o)
theorem scAdd:FnScope ["table","side","step","index"] ["table","side","step"] (defScope (top 15)):=⟨rfl,rfl,rfl,by decide +kernel,rfl,by decide +kernel,by decide +kernel⟩
theorem ok_addA {f:Addr} {fd:FuncData} (F:Fun K "add_along" "add_along" (top 15) f fd) (T:Txt mg):FnOk P w K mg base CX0 1 f fd ["table","side","step"] (conSp K cAdd):=by
 have S:=scAdd
 refine wfn F S (fun cdv A outer s H E hr=>(s_one (s_for [3] PassesOwn.never rfl (i_rng2 T.range_ (wa_cons (wn 2) (wa_cons (wx (w_callB ok_len (call_lenK (K:=K) rfl) T.len_ PySem.boot_len (wa_cons (wn 0) wa_nil))) wa_nil))) (g_name (i:=3) S.nd rfl (Or.inl rfl)) (s_one (s_if (t_cmp ok_gt op_gt (wx (w_bin ok_mod op_mod (wx (w_bin ok_fdiv op_fdiv (wn 3) (wn 2))) (wn 1))) (wx w_int)) (s_one (s_ix (w_bin ok_add op_addD (wx (w_ix rfl (wn 0) (wn 3))) (wx (w_ix rfl (wn 0) (wx (w_bin ok_sub op_sub (wn 3) (wn 2)))))) (wn 0) (wn 3))) s_nil))))) ?_ ?_
 ·rintro args Qd ⟨xs,side,step,rfl,_⟩; rfl
 ·rintro args Qd ⟨xs,side,step,rfl,hx,a1,a2,b1,b2,q⟩
  refine ⟨noOw_of rfl,?_⟩
  have hst:((step.toNat:Nat):Int) = step:=Int.toNat_of_nonneg (by omega)
  refine ⟨⟨by omega,by omega,by rw [List.length_map]; omega,by rw [List.length_map]; omega⟩,?_⟩
  refine loopC (fun rest ρ=>∃ (j m:Nat),ρ = [some (.io (.list ((RM.addN side step xs j).map PyData.int))),some (.fz (.int side)),some (.fz (.int step)),none] /\ rest = rangeD (step + j) m /\ j + m = xs.length - step.toNat) ?_ ?_
   ⟨0,xs.length - step.toNat,rfl,by rw [List.length_map]; congr 1 <;> omega,by omega⟩
  ·rintro d ds ρ ⟨j,m,rfl,er,hjm⟩ N hN
   cases m with
   | zero=>cases er
   | succ m =>
    rw [rangeD_succ] at er
    cases er
    have hlen:=RM.addN_len side step xs j
    have hi:step.toNat + j < (RM.addN side step xs j).length:=by omega
    have ei:step + (j:Int) = ((step.toNat + j:Nat):Int):=by omega
    have ei2:step + (j:Int) - step = ((j:Nat):Int):=by omega
    have hj:j < (RM.addN side step xs j).length:=by omega
    have nextE:RM.addN side step xs (j + 1) = RM.addT side step (RM.addN side step xs j) (step.toNat + j):=rfl
    have er2:rangeD (step + (j:Int) + 1) m = rangeD (step + ((j + 1:Nat):Int)) m:=by congr 1; omega
    refine ⟨⟨by omega,by omega⟩,by show (0:Int) < side; omega,?_⟩
    refine ite2 (fun h=>?_) (fun h=>?_)
    ·have h:0 < (step + (j:Int)) / step % side:=of_decide_eq_true h
     refine ⟨.int ((RM.addN side step xs j).getD (step.toNat + j) 0),by rw [ei]; exact at_ints hi,.int ((RM.addN side step xs j).getD j 0),by rw [ei2]; exact at_ints hj,step.toNat + j,by rw [List.length_map,ei]; exact ix_nat hi,?_⟩
     refine hN _ ⟨j + 1,m,?_,er2,by omega⟩
     rw [nextE]
     unfold RM.addT
     rw [if_pos (by rw [<- ei]; exact h),Nat.add_sub_cancel_left]
     have e3:((RM.addN side step xs j).set (step.toNat + j) ((RM.addN side step xs j).getD (step.toNat + j) 0 + (RM.addN side step xs j).getD j 0)).map PyData.int = ((RM.addN side step xs j).map PyData.int).set (step.toNat + j) (.int ((RM.addN side step xs j).getD (step.toNat + j) 0 + (RM.addN side step xs j).getD j 0)):=by rw [List.map_set]
     rw [e3]
     rfl
    ·have h:¬ 0 < (step + (j:Int)) / step % side:=fun z=>h (decide_eq_true z)
     refine hN _ ⟨j + 1,m,?_,er2,by omega⟩
     rw [nextE]
     unfold RM.addT
     rw [if_neg (by rw [<- ei]; exact h)]
     rfl
  ·rintro ρ ⟨j,m,rfl,er,hjm⟩
   cases m with
   | succ m=>rw [rangeD_succ] at er; cases er
   | zero =>
    have hj:j = xs.length - step.toNat:=by omega
    subst hj
    exact q _
structure CalsRO (P:Program) (w:World) (K:PySem.W.Frag) (mg:Str -> Option Value) (base:Heap):Prop where
 add_along:Cal P w K mg base 1 "add_along" ["table","side","step"] (conSp K cAdd)
noncomputable def cRunOf:Con:=fun args Q=>∃ (sd cl:List Int) (d:PyData),args = [.fz (.tuple [tupD sd,d])] /\ IsC cl d /\ Sd sd /\ cl.length = (plc sd).length /\ ∀ o,Q (.ow (.list ((ruL sd cl).map PyData.int))) o
theorem scRunOf:FnScope ["field","table","step","side"] ["field"] (defScope (top 14)):=⟨rfl,rfl,rfl,by decide +kernel,rfl,by decide +kernel,by decide +kernel⟩
theorem ok_runOf {f:Addr} {fd:FuncData} (F:Fun K "running_of" "running_of" (top 14) f fd) (T:Txt mg) (C:CalsRO P w K mg base):FnOk P w K mg base CX0 2 f fd ["field"] (conSp K cRunOf):=by
 have S:=scRunOf
 refine wfn F S (fun cdv A outer s H E hr=>(s_cons (s_set (i:=1) S.nd rfl (Or.inl rfl) (w_callT ok_list (call_listK (K:=K) rfl) T.list_ boot_list (wa_cons (wx (w_ix rfl (wn 0) (wx w_int))) wa_nil)))
     (s_cons (s_set (i:=2) S.nd rfl (Or.inl rfl) w_int)
     (s_cons (s_for [3] PassesOwn.never rfl (i_rev rfl T.reversed_ (wa_cons (wx (w_ix rfl (wn 0) (wx w_int))) wa_nil)) (g_name (i:=3) S.nd rfl (Or.inl rfl)) (s_cons (s_expr (w_fnI C.add_along (hr.mono (by first | decide | omega)) (wa_cons (wn 1) (wa_cons (wn 3) (wa_cons (wn 2) wa_nil)))))
     (s_one (s_set (i:=2) S.nd rfl (Or.inl rfl) (w_bin ok_mul op_mulD (wn 2) (wn 3))))))
     (s_one (s_retV (wn 1))))))) ?_ ?_
 ·rintro args Qd ⟨sd,cl,d,rfl,_⟩; rfl
 ·rintro args Qd ⟨sd,cl,d,rfl,hd,hsd,hc,q⟩
  have hm:=hsd.m
  have hpl:=plc_len hsd.p
  have hpN:=plc_lenN hsd.p
  rw [<- prog_flat hsd.p (by omega)] at q
  refine ⟨noOw_of rfl,?_⟩
  have main:∀ E:DE,(E.nx [some (.fz (.tuple [tupD sd,d])),some (.ow (.list ((RM.runProg sd.reverse 1 cl).map PyData.int))),none,none]) -> E.nx [some (.fz (.tuple [tupD sd,d])),some (.ow (.list ((RM.runProg sd.reverse 1 cl).map PyData.int))),none,none]:=fun _ h=>h
  have key:∀ rs:List Int,(∀ c ∈ rs,1 <= c) -> (rs.map PyData.int) = (rs.map PyData.int):=fun _ _=>rfl
  refine ⟨d,rfl,?_⟩
  rcases hd with rfl | rfl
  all_goals
   refine ⟨tupD sd,rfl,?_⟩
   refine loopC (fun rest ρ=>∃ (rs xs:List Int) (st:Int),ρ = [some (.fz _),some (.ow (.list (xs.map PyData.int))),some (.fz (.int st)),none] /\ rest = rs.map PyData.int /\ RM.runProg rs st xs = RM.runProg sd.reverse 1 cl /\ xs.length = cl.length /\ 1 <= st /\ st * prodI rs <= 120 /\ ∀ c ∈ rs,1 <= c) ?_ ?_
    ⟨sd.reverse,cl,1,rfl,by rw [List.map_reverse],rfl,rfl,by decide,by rw [Int.one_mul,<- prodI_RM,RM.prodI_rev,prodI_RM]; exact hm,fun c h=>hsd.p c (List.mem_reverse.mp h)⟩
   ·rintro d ds ρ ⟨rs,xs,st,rfl,er,hrun,hxl,h1,hp,hrs⟩ N hN
    cases rs with
    | nil=>cases er
    | cons a rs =>
     cases er
     have ha:=hrs a List.mem_cons_self
     have hr':∀ c ∈ rs,1 <= c:=fun c h=>hrs c (List.mem_cons_of_mem _ h)
     have hrp:=prodI_pos hr'
     have hp2:st * a * prodI rs <= 120:=by
      have:st * (a * prodI rs) <= 120:=hp
      rw [Int.mul_assoc]; exact this
     have hsa:st * a <= 120:=by
      have:=Int.mul_le_mul_of_nonneg_left hrp (show (0:Int) <= st * a from Int.mul_nonneg (by omega) (by omega))
      omega
     have hst:st <= 120:=by
      have:=Int.mul_le_mul_of_nonneg_left ha (show (0:Int) <= st by omega)
      omega
     have ha2:a <= 120:=by
      have:=Int.mul_le_mul_of_nonneg_right h1 (show (0:Int) <= a by omega)
      omega
     have hsa1:1 <= st * a:=by
      have:=Int.mul_le_mul_of_nonneg_left ha (show (0:Int) <= st by omega)
      omega
     refine ⟨xs,a,st,rfl,by omega,ha,by omega,h1,by omega,fun o=>?_⟩
     refine ⟨.inl ⟨by omega,by omega⟩,?_⟩
     exact hN _ ⟨rs,RM.addAlong a st xs,st * a,rfl,rfl,hrun,by rw [RM.addAlong_len]; exact hxl,hsa1,hp2,hr'⟩
   ·rintro ρ ⟨rs,xs,st,rfl,er,hrun,hxl,h1,hp,hrs⟩
    cases rs with
    | nil =>
     have hrun:xs = RM.runProg sd.reverse 1 cl:=hrun
     rw [<- hrun] at q
     exact q _
    | cons _ _=>cases er
end
end R46
namespace R46
open PySem L2 L3 PyProof.Rows
noncomputable def Bx:List Int -> List Int -> List Int -> Prop
 | [],[],[]=>True
 | x :: lo,y :: hi,s :: sd=>(0 <= x /\ x <= y /\ y < s) /\ Bx lo hi sd
 | _,_,_=>False
theorem crn_wi2:∀ {sd lo hi:List Int} {cs:List (Int × Int)},Bx lo hi sd -> InW cs ((lo.zip hi).map fun q=>cor q.1 q.2) -> Wi (cs.map (·.1)) sd
 | [],[],[],[],_,_=>trivial
 | [],[],[],_ :: _,_,h=>h.elim
 | _ :: _,_ :: _,_ :: _,[],_,h=>h.elim
 | s :: sd,x :: lo,y :: hi,c :: cs,h,k=>by
  refine ⟨?_,crn_wi2 h.2 k.2⟩
  have h1:=h.1
  have k1:c ∈ cor x y:=k.1
  unfold cor at k1
  split at k1 <;> simp at k1
  ·subst k1; show 0 <= y /\ y < s; omega
  ·rcases k1 with rfl | rfl
   ·show 0 <= x - 1 /\ x - 1 < s; omega
   ·show 0 <= y /\ y < s; omega
 | [],[],_ :: _,_,h,_=>h.elim
 | [],_ :: _,z,_,h,_=>by cases z <;> exact h.elim
 | _ :: _,[],z,_,h,_=>by cases z <;> exact h.elim
 | _ :: _,_ :: _,[],_,h,_=>h.elim
noncomputable abbrev ocD (p:List Int × Int):PyData:=.tuple [tupD p.1,.int p.2]
theorem zip_oc (ps:List (List Int)) (cl:List Int):zipD (ps.map tupD) (cl.map PyData.int) = (ps.zip cl).map ocD:=by
 unfold zipD
 rw [List.zip_map,List.map_map]
 rfl
noncomputable def fLe2:PyData -> PyData
 | .tuple [.int a,.int b]=>.bool (decide (a <= b))
 | _=>.none
end R46
namespace R46
open PySem PySem.Spec L2 L3 PyProof.Rows
noncomputable abbrev bxD (b:List Int × List Int):PyData:=.tuple [tupD b.1,tupD b.2]
theorem bx_of:∀ {sd lo hi:List Int},Wi lo sd -> Wi hi sd -> RM.leq hi lo = true -> Bx lo hi sd
 | [],[],[],_,_,_=>trivial
 | s :: sd,x :: lo,y :: hi,h1,h2,h=>by
  rw [RM.leq_cons,Bool.and_eq_true] at h
  exact ⟨⟨h1.1.1,by simpa using h.1,h2.1.2⟩,bx_of h1.2 h2.2 h.2⟩
 | [],_ :: _,_,h,_,_=>h.elim
 | [],[],_ :: _,_,h,_=>h.elim
 | _ :: _,[],_,h,_,_=>h.elim
 | _ :: _,_ :: _,[],_,h,_=>h.elim
theorem bx_snoc:∀ {sd lo hi:List Int} {x y s:Int},Bx lo hi sd -> 0 <= x /\ x <= y /\ y < s -> Bx (lo ++ [x]) (hi ++ [y]) (sd ++ [s])
 | [],[],[],_,_,_,_,h=>⟨h,trivial⟩
 | _ :: _,_ :: _,_ :: _,_,_,_,h1,h=>⟨h1.1,bx_snoc h1.2 h⟩
 | [],[],_ :: _,_,_,_,h,_=>h.elim
 | [],_ :: _,z,_,_,_,h,_=>by cases z <;> exact h.elim
 | _ :: _,[],z,_,_,_,h,_=>by cases z <;> exact h.elim
 | _ :: _,_ :: _,[],_,_,_,h,_=>h.elim
theorem bx_len:∀ {sd lo hi:List Int},Bx lo hi sd -> lo.length = sd.length /\ hi.length = sd.length
 | [],[],[],_=>⟨rfl,rfl⟩
 | _ :: _,_ :: _,_ :: _,h=>by have:=bx_len h.2; simp; omega
 | [],[],_ :: _,h=>h.elim
 | [],_ :: _,z,h=>by cases z <;> exact h.elim
 | _ :: _,[],z,h=>by cases z <;> exact h.elim
 | _ :: _,_ :: _,[],h=>h.elim
section
variable {P:Program} {w:World} {K:PySem.W.Frag} {mg:Str -> Option Value} {base:Heap}
noncomputable def lbF (sd lo:List Int):List (List Int × List Int):=((plc sd).filter fun hi=>RM.leq hi lo).map fun hi=>(lo,hi)
noncomputable def lbx (sd:List Int):List (List Int × List Int):=(plc sd).flatMap (lbF sd)
structure CalsBS (P:Program) (w:World) (K:PySem.W.Frag) (mg:Str -> Option Value) (base:Heap):Prop where
 law_places:Cal P w K mg base 1 "_law_places" ["_law_sides_here"] (conSp K cPlaces)
noncomputable def cBoxes:Con:=fun args Q=>∃ sd:List Int,args = [.fz (tupD sd)] /\ S0 sd /\ ∀ o,Q (.ow (.list ((lbx sd).map bxD))) o
theorem scBoxes:FnScope ["_law_sides_here","_law_places_here","_law_found","_law_low","_law_high"] ["_law_sides_here"] (defScope (top 34)):=⟨rfl,rfl,rfl,by decide +kernel,rfl,by decide +kernel,by decide +kernel⟩
theorem ok_boxes {f:Addr} {fd:FuncData} (F:Fun K "_law_boxes" "_law_boxes" (top 34) f fd) (T:Txt mg) (C:CalsBS P w K mg base):FnOk P w K mg base CX0 2 f fd ["_law_sides_here"] (conSp K cBoxes):=by
 have S:=scBoxes
 refine wfn F S (fun cdv A outer s H E hr=>(s_cons (s_set (i:=1) S.nd rfl (Or.inl rfl) (w_fn C.law_places (hr.mono (by first | decide | omega)) (wa_cons (wn 0) wa_nil)))
     (s_cons (s_set (i:=2) S.nd rfl (Or.inl rfl) (w_lst wa_nil))
     (s_cons (s_for [3,4] PassesOwn.never rfl (i_seq rfl (wv 1)) (g_name (i:=3) S.nd rfl (Or.inl rfl)) (s_one (s_for [4] PassesOwn.never rfl (i_seq rfl (wv 1)) (g_name (i:=4) S.nd rfl (Or.inl rfl)) (s_one (s_if (t_val (w_callB ok_all (call_allK (K:=K) rfl rfl) T.all_ boot_all (wa_cons (wx (w_comp rfl (own:=["_law_one","_law_other"]) (fr:=[]) (by kernel_rfl) (i_zip2 rfl T.zip_ (wa_cons (wn 3) (wa_cons (wn 4) wa_nil))) (fun _ _ _ _=>(g_tup rfl rfl (gs_cons (g_name (i:=0) (by decide +kernel:List.Nodup (["_law_one","_law_other"]:List Str)) rfl (Or.inl rfl)) (gs_cons (g_name (i:=1) (by decide +kernel:List.Nodup (["_law_one","_law_other"]:List Str)) rfl (Or.inl rfl)) gs_nil)))) (fun _ _ _ _=>if0) (fun _ _ _ _=>(w_cmp ok_le op_le (wn 0) (wn 1))))) wa_nil))) (s_one (s_expr (w_m ok_append rfl PySem.F.slot_list_append PySem.F.type_list_append mt_append (wn 2) (wa_cons (wx (w_tup (wa_cons (wx (wv 3)) (wa_cons (wx (wv 4)) wa_nil)))) wa_nil)))) s_nil)))))
     (s_one (s_retV (wn 2))))))) ?_ ?_
 ·rintro args Qd ⟨sd,rfl,_⟩; rfl
 ·rintro args Qd ⟨sd,rfl,hsd,q⟩
  have hm:=hsd.m
  have h3:=hsd.l3
  have hpl:=plc_len hsd.p
  refine ⟨noOw_of rfl,?_⟩
  refine ⟨sd,.inl rfl,hsd.p,by omega,hsd.l3,fun o=>?_⟩
  refine loopC (fun rest ρ=>∃ (dn rs:List (List Int)) (bs:List (List Int × List Int)),plc sd = dn ++ rs /\ ρ = [some (.fz (tupD sd)),some (.fz (.list ((plc sd).map tupD))),some (.ow (.list (bs.map bxD))),none,none] /\ rest = rs.map tupD /\ bs = dn.flatMap (lbF sd) /\ bs.length <= 120 * dn.length) ?_ ?_
   ⟨[],plc sd,[],rfl,rfl,rfl,rfl,by simp⟩
  ·rintro e ds ρ ⟨dn,rs,bs,hpe,rfl,er,hbs,hbl⟩ N hN
   cases rs with
   | nil=>cases er
   | cons lo rs =>
    cases er
    have hlo:Wi lo sd:=plc_wi (by rw [hpe]; simp)
    have hdn:dn.length + 1 <= 120:=by
     have h7:=congrArg List.length hpe
     simp at h7
     omega
    refine loopC (fun rest ρ=>∃ (dm rm:List (List Int)) (bs:List (List Int × List Int)),plc sd = dm ++ rm /\ ρ = [some (.fz (tupD sd)),some (.fz (.list ((plc sd).map tupD))),some (.ow (.list (bs.map bxD))),some (.fz (tupD lo)),none] /\ rest = rm.map tupD /\ bs = dn.flatMap (lbF sd) ++ ((dm.filter fun hi=>RM.leq hi lo).map fun hi=>(lo,hi)) /\ bs.length <= 120 * dn.length + dm.length) ?_ ?_
     ⟨[],plc sd,bs,rfl,rfl,rfl,by rw [hbs]; simp,by simpa using hbl⟩
    ·rintro e ds ρ ⟨dm,rm,bs,hpm,rfl,er,hbs,hbl⟩ M hM
     cases rm with
     | nil=>cases er
     | cons hi rm =>
      cases er
      have hhi:Wi hi sd:=plc_wi (by rw [hpm]; simp)
      have hdm:dm.length + 1 <= 120:=by
       have h7:=congrArg List.length hpm
       simp at h7
       omega
      have hz:=zipD_ints lo hi
      refine ⟨by rw [hz,List.length_map,List.length_zip,wi_len hlo]; exact le_size (by omega),mapC fLe2 ?_ ?_⟩
      ·intro x hx R hR
       rw [hz] at hx
       obtain ⟨⟨a,b⟩,_,rfl⟩:=List.mem_map.mp hx
       exact ⟨rfl,hR⟩
      ·rw [hz,List.map_map]
       refine ⟨RM.leqs hi lo,by unfold RM.leqs; rw [List.map_map]; rfl,?_⟩
       refine ite2 (fun h=>?_) (fun h=>?_)
       ·have h:RM.leq hi lo = true:=h
        refine ⟨by rw [List.length_map]; exact Nat.lt_of_le_of_lt (show bs.length <= 20000 by omega) (by decide),?_⟩
        refine hM _ ⟨dm ++ [hi],rm,bs ++ [(lo,hi)],by rw [hpm]; simp,by rw [List.map_append]; rfl,rfl,?_,by simp; omega⟩
        rw [hbs,List.filter_append,List.map_append,List.filter_cons_of_pos (p:=fun hi=>RM.leq hi lo) h,List.filter_nil,List.append_assoc]
        rfl
       ·refine hM _ ⟨dm ++ [hi],rm,bs,by rw [hpm]; simp,rfl,rfl,?_,by simp; omega⟩
        rw [hbs,List.filter_append,List.filter_cons_of_neg (p:=fun hi=>RM.leq hi lo) h,List.filter_nil,List.append_nil]
    ·rintro ρ ⟨dm,rm,bs,hpm,rfl,er,hbs,hbl⟩
     have hdm:dm.length <= 120:=by
      have h7:=congrArg List.length hpm
      simp at h7
      omega
     have rm0:rm = []:=by
      cases rm with
      | nil=>rfl
      | cons _ _=>cases er
     subst rm0
     rw [List.append_nil] at hpm
     exact hN _ ⟨dn ++ [lo],rs,bs,by rw [hpe]; simp,rfl,rfl,by rw [hbs,<- hpm,List.flatMap_append]; simp [lbF],by simp; omega⟩
  ·rintro ρ ⟨dn,rs,bs,hpe,rfl,er,hbs,hbl⟩
   have rs0:rs = []:=by
    cases rs with
    | nil=>rfl
    | cons _ _=>cases er
   subst rs0
   rw [List.append_nil] at hpe
   have e:bs = lbx sd:=by rw [hbs,lbx,hpe]
   subst e
   exact q _
structure CalsBX (P:Program) (w:World) (K:PySem.W.Frag) (mg:Str -> Option Value) (base:Heap):Prop where
 law_take:Cal P w K mg base 2 "_law_take" ["_law_state","_law_most"] (conSp K cTake)
noncomputable def lie:List Int -> List Int -> List Int -> Bool
 | x :: lo,p :: pl,y :: hi=>(decide (x <= p) && decide (p <= y)) && lie lo pl hi
 | _,_,_=>true
noncomputable def fLie:PyData -> PyData
 | .tuple [.int a,.int b,.int c]=>.bool (decide (a <= b) && decide (b <= c))
 | _=>.none
noncomputable def lies (lo p hi:List Int):List Bool:=(lo.zip (p.zip hi)).map fun q=>decide (q.1 <= q.2.1) && decide (q.2.1 <= q.2.2)
theorem lies_all:∀ (lo p hi:List Int),(lies lo p hi).all id = lie lo p hi
 | x :: lo,p :: pl,y :: hi=>by
  have:=lies_all lo pl hi
  simp only [lies,lie,List.zip_cons_cons,List.map_cons,List.all_cons,id] at this ⊢
  rw [this]
 | [],_,_=>by simp [lies,lie]
 | _ :: _,[],_=>by simp [lies,lie]
 | _ :: _,_ :: _,[]=>by simp [lies,lie]
theorem zip3_ints (a b c:List Int):zip3D (a.map PyData.int) (b.map PyData.int) (c.map PyData.int) = (a.zip (b.zip c)).map fun q=>PyData.tuple [.int q.1,.int q.2.1,.int q.2.2]:=by
 unfold zip3D
 rw [List.zip_map,List.zip_map,List.map_map]
 rfl
noncomputable def cLies:Con:=fun args Q=>∃ lo hi p:List Int,args = [.fz (bxD (lo,hi)),.fz (tupD p)] /\ lo.length <= 1000 /\ ∀ o,Q (.fz (.bool (lie lo p hi))) o
theorem scLies:FnScope ["_law_box_here","_law_place","_law_low","_law_high"] ["_law_box_here","_law_place"] (defScope (top 36)):=⟨rfl,rfl,rfl,by decide +kernel,rfl,by decide +kernel,by decide +kernel⟩
theorem ok_lies {f:Addr} {fd:FuncData} (F:Fun K "_law_lies" "_law_lies" (top 36) f fd) (T:Txt mg):FnOk P w K mg base CX0 1 f fd ["_law_box_here","_law_place"] (conSp K cLies):=by
 have S:=scLies
 refine wfn F S (fun cdv A outer s H E hr=>(s_cons (s_asgG (wv 0) (g_tup rfl rfl (gs_cons (g_name (i:=2) S.nd rfl (Or.inl rfl)) (gs_cons (g_name (i:=3) S.nd rfl (Or.inl rfl)) gs_nil))))
     (s_one (s_ret (w_callB ok_all (call_allK (K:=K) rfl rfl) T.all_ boot_all (wa_cons (wx (w_comp rfl (own:=["_law_first","_law_number_here","_law_last"]) (fr:=[]) (by kernel_rfl) (i_zip3 rfl T.zip_ (wa_cons (wn 2) (wa_cons (wn 1) (wa_cons (wn 3) wa_nil)))) (fun _ _ _ _=>(g_tup rfl rfl (gs_cons (g_name (i:=0) (by decide +kernel:List.Nodup (["_law_first","_law_number_here","_law_last"]:List Str)) rfl (Or.inl rfl)) (gs_cons (g_name (i:=1) (by decide +kernel:List.Nodup (["_law_first","_law_number_here","_law_last"]:List Str)) rfl (Or.inl rfl)) (gs_cons (g_name (i:=2) (by decide +kernel:List.Nodup (["_law_first","_law_number_here","_law_last"]:List Str)) rfl (Or.inl rfl)) gs_nil))))) (fun _ _ _ _=>if0) (fun _ _ _ _=>(w_chain op_le op_le (wn 0) (wn 1) (wn 2))))) wa_nil)))))) ?_ ?_
 ·rintro args Qd ⟨lo,hi,p,rfl,_⟩; rfl
 ·rintro args Qd ⟨lo,hi,p,rfl,hl,q⟩
  refine ⟨noOw_of rfl,?_⟩
  refine ⟨rfl,?_⟩
  have hz:=zip3_ints lo p hi
  refine ⟨by rw [hz,List.length_map,List.length_zip]; exact le_size (by omega),mapC fLie ?_ ?_⟩
  ·intro x hx R hR
   rw [hz] at hx
   obtain ⟨⟨a,b,c⟩,_,rfl⟩:=List.mem_map.mp hx
   refine ⟨rfl,?_⟩
   have hR:R (.bool (decide (a <= b) && decide (b <= c))) _:=hR
   refine ite2 (fun h=>?_) (fun h=>?_)
   ·have h:decide (a <= b) = true:=h
    rw [h,Bool.true_and] at hR
    exact hR
   ·have h:¬ decide (a <= b) = true:=h
    rw [Bool.eq_false_iff.mpr h,Bool.false_and] at hR
    exact hR
  ·rw [hz,List.map_map]
   refine ⟨lies lo p hi,by unfold lies; rw [List.map_map]; rfl,?_⟩
   rw [lies_all]
   exact q _
end
end R46
namespace R46
open PySem PySem.Spec L2 L3 PyProof.Rows
theorem each_in2 {α:Type}:∀ {cs acc:List (List α)} {a q:List α},a ∈ acc -> InW q cs -> a ++ q ∈ eachA acc cs
 | [],acc,a,[],ha,_=>by simpa [eachA] using ha
 | [],_,_,_ :: _,_,h=>h.elim
 | _ :: _,_,_,[],_,h=>h.elim
 | c :: cs,acc,a,x :: q,ha,h=>by
  have:=each_in2 (cs:=cs) (acc:=acc.flatMap fun p=>c.map fun x=>p ++ [x]) (a:=a ++ [x]) (q:=q) (List.mem_flatMap.mpr ⟨a,ha,List.mem_map.mpr ⟨x,h.1,rfl⟩⟩) h.2
  simpa [eachA] using this
theorem rng_mem {x s:Int} (h0:0 <= x) (h1:x < s):x ∈ rng s:=List.mem_map.mpr ⟨x.toNat,List.mem_range.mpr (by omega),by omega⟩
theorem wi_inW:∀ {p sd:List Int},Wi p sd -> InW p (sd.map rng)
 | [],[],_=>trivial
 | [],_ :: _,h=>h.elim
 | _ :: _,[],h=>h.elim
 | x :: p,s :: sd,h=>⟨rng_mem h.1.1 h.1.2,wi_inW h.2⟩
theorem wi_mem {p sd:List Int} (h:Wi p sd):p ∈ plc sd:=each_in2 (a:=[]) (by simp) (wi_inW h)
theorem leq_nil:RM.leq [] [] = true:=rfl
theorem W_one (z y e:Int) (cs:List (List (Int × Int))) (o:List Int) :
  (W cs fun q=>sgn ((y,e) :: q) * (if RM.leq (((y,e) :: q).map (·.1)) (z :: o) = true then 1 else 0)) = e * ((if z <= y then 1 else 0) * W cs fun q=>sgn q * (if RM.leq (q.map (·.1)) o = true then 1 else 0)):=by
 by_cases h:z <= y
 ·rw [if_pos h,Int.one_mul,<- W_mul]
  congr 1
  funext q
  rw [sgn_cons,Int.mul_assoc]
  show e * (sgn q * (if RM.leq (y :: q.map (·.1)) (z :: o) = true then 1 else 0)) = _
  rw [RM.leq_cons,decide_eq_true h,Bool.true_and]
 ·rw [if_neg h,Int.zero_mul,Int.mul_zero]
  refine Eq.trans ?_ (W_zero cs)
  congr 1
  funext q
  show sgn ((y,e) :: q) * (if RM.leq (y :: q.map (·.1)) (z :: o) = true then 1 else 0) = 0
  rw [RM.leq_cons,decide_eq_false h,Bool.false_and,if_neg (by simp),Int.mul_zero]
theorem ind:∀ {sd lo hi o:List Int},Bx lo hi sd -> Wi o sd -> (W ((lo.zip hi).map fun q=>cor q.1 q.2) fun cs=>sgn cs * (if RM.leq (cs.map (·.1)) o = true then 1 else 0)) = if lie lo o hi = true then 1 else 0
 | [],[],[],[],_,_=>by simp [W,sgn,lie,leq_nil]
 | s :: sd,x :: lo,y :: hi,z :: o,h,k=>by
  have ih:=ind h.2 k.2
  have h1:=h.1
  have k1:=k.1
  show ((cor x y).map fun c=>W ((lo.zip hi).map fun q=>cor q.1 q.2) fun q=>sgn (c :: q) * (if RM.leq ((c :: q).map (·.1)) (z :: o) = true then 1 else 0)).sum = if ((decide (x <= z) && decide (z <= y)) && lie lo o hi) = true then 1 else 0
  have fin:(if ((decide (x <= z) && decide (z <= y)) && lie lo o hi) = true then (1:Int) else 0) = (if x <= z /\ z <= y then 1 else 0) * (if lie lo o hi = true then 1 else 0):=by
   by_cases a:x <= z <;> by_cases b:z <= y <;> by_cases c:lie lo o hi = true <;> simp [a,b,c]
  rw [fin,<- ih]
  generalize hW:(W ((lo.zip hi).map fun q=>cor q.1 q.2) fun cs=>sgn cs * (if RM.leq (cs.map (·.1)) o = true then 1 else 0)) = ww
  by_cases h0:x = 0
  ·rw [cor,if_pos h0]
   simp only [List.map_cons,List.map_nil,List.sum_cons,List.sum_nil]
   have w1:=W_one z y 1 ((lo.zip hi).map fun q=>cor q.1 q.2) o
   simp only [List.map_cons] at w1
   rw [w1,hW]
   have:(x <= z /\ z <= y) ↔ z <= y:=by omega
   simp [this]
  ·rw [cor,if_neg h0]
   simp only [List.map_cons,List.map_nil,List.sum_cons,List.sum_nil]
   have w1:=W_one z y 1 ((lo.zip hi).map fun q=>cor q.1 q.2) o
   have w2:=W_one z (x - 1) (-1) ((lo.zip hi).map fun q=>cor q.1 q.2) o
   simp only [List.map_cons] at w1 w2
   rw [w1,w2,hW]
   by_cases a:z <= x - 1
   ·have b:z <= y:=by omega
    have c:¬ (x <= z /\ z <= y):=by omega
    rw [if_pos a,if_pos b,if_neg c]
    simp only [Int.one_mul,Int.zero_mul,Int.neg_mul]
    omega
   ·by_cases b:z <= y
    ·have c:x <= z /\ z <= y:=by omega
     simp [a,b,c]
    ·have c:¬ (x <= z /\ z <= y):=by omega
     simp [a,b,c]
 | [],[],[],_ :: _,_,k=>k.elim
 | _ :: _,_ :: _,_ :: _,[],_,k=>k.elim
 | [],[],_ :: _,_,h,_=>h.elim
 | [],_ :: _,z,_,h,_=>by cases z <;> exact h.elim
 | _ :: _,[],z,_,h,_=>by cases z <;> exact h.elim
 | _ :: _,_ :: _,[],_,h,_=>h.elim
noncomputable def bsum (rows:List (List Int × Int)) (lo hi:List Int):Int:=((rows.filter fun r=>lie lo r.1 hi).map (·.2)).sum
theorem bsum_if (lo hi:List Int):∀ rows:List (List Int × Int),bsum rows lo hi = (rows.map fun r=>if lie lo r.1 hi = true then r.2 else 0).sum
 | []=>rfl
 | r :: rows=>by
  have ih:=bsum_if lo hi rows
  unfold bsum at ih ⊢
  rw [List.map_cons,List.sum_cons,<- ih]
  by_cases h:lie lo r.1 hi = true
  ·rw [List.filter_cons_of_pos (p:=fun r:List Int × Int=>lie lo r.1 hi) h,if_pos h]; simp
  ·rw [List.filter_cons_of_neg (p:=fun r:List Int × Int=>lie lo r.1 hi) h,if_neg h]; simp
theorem tot_sum (p:List Int):∀ (rows:List (List Int × Int)) (t:Int),rows.foldl (fun acc oc=>if RM.leq p oc.1 = true then acc + oc.2 else acc) t = t + (rows.map fun r=>if RM.leq p r.1 = true then r.2 else 0).sum
 | [],t=>by simp
 | r :: rows,t=>by
  rw [List.foldl_cons,tot_sum p rows,List.map_cons,List.sum_cons]
  split <;> omega
theorem swap {sd lo hi:List Int} (hb:Bx lo hi sd):∀ rows:List (List Int × Int),(∀ r ∈ rows,Wi r.1 sd) ->
  (W ((lo.zip hi).map fun q=>cor q.1 q.2) fun cs=>sgn cs * (rows.map fun r=>if RM.leq (cs.map (·.1)) r.1 = true then r.2 else 0).sum) = (rows.map fun r=>if lie lo r.1 hi = true then r.2 else 0).sum
 | [],_=>by
  refine Eq.trans ?_ (W_zero ((lo.zip hi).map fun q=>cor q.1 q.2))
  congr 1
  funext cs
  simp
 | r :: rows,h=>by
  have ih:=swap hb rows fun x hx=>h x (List.mem_cons_of_mem _ hx)
  have e:(fun cs:List (Int × Int)=>sgn cs * ((r :: rows).map fun r=>if RM.leq (cs.map (·.1)) r.1 = true then r.2 else 0).sum) = fun cs=>r.2 * (sgn cs * (if RM.leq (cs.map (·.1)) r.1 = true then 1 else 0)) + sgn cs * (rows.map fun r=>if RM.leq (cs.map (·.1)) r.1 = true then r.2 else 0).sum:=by
   funext cs
   rw [List.map_cons,List.sum_cons,Int.mul_add]
   congr 1
   split
   ·rw [Int.mul_one,Int.mul_comm]
   ·simp
  rw [e,W_add,W_mul,ih,ind hb (h r List.mem_cons_self),List.map_cons,List.sum_cons]
  congr 1
  split
  ·rw [Int.mul_one]
  ·rw [Int.mul_zero]
theorem vat_plc {sd:List Int} (hp:∀ c ∈ sd,1 <= c) (f:List Int -> Int) {c:List Int} (h:Wi c sd):vat ((plc sd).map f) (idx sd c) = f c:=by
 obtain ⟨k,hk,ek⟩:=List.mem_iff_getElem.mp (wi_mem h)
 have h4:=(plc_at hp (k:=k) (p:=c) (by rw [List.getElem?_eq_getElem hk,ek])).2
 rw [h4,vat,atI,ixN,if_pos (by omega),if_pos (by rw [List.length_map]; omega)]
 simp [hk,ek]
theorem sbr_bsum {sd cl lo hi:List Int} (hp:∀ c ∈ sd,1 <= c) (hl:cl.length = (plc sd).length) (hb:Bx lo hi sd):sbr sd (ruL sd cl) lo hi = bsum ((plc sd).zip cl) lo hi:=by
 have hro:ruL sd cl = (plc sd).map fun p=>RM.tot p ((plc sd).zip cl):=by rw [<- law_flat hp (by rw [hl,plc_lenN hp]),plc_RM]; rfl
 rw [bsum_if,<- swap hb ((plc sd).zip cl) fun r hr=>plc_wi (List.of_mem_zip (a:=r.1) (b:=r.2) hr).1,sbr,crn,each_sum0]
 refine W_congr _ fun cs hcs=>?_
 rw [hro,vat_plc hp _ (crn_wi2 hb hcs),RM.tot,tot_sum,Int.zero_add]
end R46
namespace R46
open PySem PySem.Spec L2 L3 PyProof.Rows
theorem rng2_lt (a b:Int):(rng2 a b).Pairwise (· < ·):=by
 unfold rng2
 rw [List.pairwise_map]
 exact List.pairwise_lt_range.imp fun h=>by omega
theorem eachA_acc:∀ (cs acc:List (List Int)),eachA acc cs = acc.flatMap fun a=>(eachA [[]] cs).map fun t=>a ++ t
 | [],acc=>by
  show acc = acc.flatMap fun a=>[a ++ []]
  simp
 | c :: cs,acc=>by
  show eachA (acc.flatMap fun p=>c.map fun x=>p ++ [x]) cs = acc.flatMap fun a=>(eachA ([[]].flatMap fun p=>c.map fun x=>p ++ [x]) cs).map fun t=>a ++ t
  rw [eachA_acc cs (acc.flatMap _),eachA_acc cs ([[]].flatMap _)]
  simp [List.flatMap_assoc,List.map_flatMap,List.flatMap_map,Function.comp_def]
theorem eachA_cons (c:List Int) (cs:List (List Int)):eachA [[]] (c :: cs) = c.flatMap fun x=>(eachA [[]] cs).map fun t=>x :: t:=by
 show eachA ([[]].flatMap fun p=>c.map fun x=>p ++ [x]) cs = _
 rw [eachA_acc]
 simp [List.flatMap_map]
theorem plc_cons (s:Int) (sd:List Int):plc (s :: sd) = (rng s).flatMap fun x=>(plc sd).map fun t=>x :: t:=eachA_cons _ _
theorem btw_cons (l h:Int) (lo hi:List Int):btw (l :: lo) (h :: hi) = (rng2 l h).flatMap fun x=>(btw lo hi).map fun t=>x :: t:=eachA_cons _ _
noncomputable def leqL:List Int -> List Int -> Bool
 | a :: as,b :: bs=>decide (a <= b) && leqL as bs
 | _,_=>true
inductive In:List Int -> List Int -> Prop
 | nil:In [] []
 | cons {a s:Int} {as sd:List Int}:0 <= a -> a < s -> In as sd -> In (a :: as) (s :: sd)
theorem In.len:∀ {p sd:List Int},In p sd -> p.length = sd.length
 | _,_,.nil=>rfl
 | _,_,.cons _ _ h=>by rw [List.length_cons,List.length_cons,h.len]
theorem mem_rngI {x s:Int}:x ∈ rng s ↔ 0 <= x /\ x < s:=by
 unfold rng
 rw [List.mem_map]
 constructor
 ·rintro ⟨n,hn,rfl⟩
  have:=List.mem_range.mp hn
  omega
 ·intro h
  exact ⟨x.toNat,List.mem_range.mpr (by omega),by omega⟩
theorem mem_rng2 {x a b:Int}:x ∈ rng2 a b ↔ a <= x /\ x <= b:=by
 unfold rng2
 rw [List.mem_map]
 constructor
 ·rintro ⟨n,hn,rfl⟩
  have:=List.mem_range.mp hn
  omega
 ·intro h
  exact ⟨(x - a).toNat,List.mem_range.mpr (by omega),by omega⟩
theorem plc_in:∀ {sd p:List Int},p ∈ plc sd -> In p sd
 | [],p,h=>by
  have:p = []:=by simpa [plc,eachA] using h
  subst this
  exact .nil
 | s :: sd,p,h=>by
  rw [plc_cons] at h
  obtain ⟨x,hx,ht⟩:=List.mem_flatMap.mp h
  obtain ⟨t,ht2,rfl⟩:=List.mem_map.mp ht
  have:=mem_rngI.mp hx
  exact .cons this.1 this.2 (plc_in ht2)
theorem srt_uniq {α:Type} {lt:α -> α -> Bool} (an:∀ a b,lt a b = false -> lt b a = false -> a = b):∀ {l m:List α},l.Perm m -> l.Pairwise (fun a b=>lt b a = false) -> m.Pairwise (fun a b=>lt b a = false) -> l = m
 | [],m,p,_,_=>by rw [List.nil_perm.mp p]
 | x :: l,[],p,_,_=>by simp at p
 | x :: l,y :: m,p,h1,h2=>by
  have e:x = y:=by
   rcases List.mem_cons.mp (p.mem_iff.mp List.mem_cons_self) with e | hx
   ·exact e
   ·rcases List.mem_cons.mp (p.mem_iff.mpr List.mem_cons_self) with e | hy
    ·exact e.symm
    ·exact an x y ((List.pairwise_cons.mp h2).1 x hx) ((List.pairwise_cons.mp h1).1 y hy)
  subst e
  rw [srt_uniq an (List.perm_cons x |>.mp p) (List.pairwise_cons.mp h1).2 (List.pairwise_cons.mp h2).2]
theorem rng_filter {l s:Int} (h0:0 <= l):(rng s).filter (fun x=>decide (l <= x)) = rng2 l (s - 1):=by
 have e:rng s = rng2 0 (s - 1):=(rng2_zero s).symm
 have p1:((rng s).filter fun x=>decide (l <= x)).Pairwise (· < ·):=by rw [e]; exact (rng2_lt 0 (s - 1)).filter _
 have p2:=rng2_lt l (s - 1)
 refine srt_uniq (lt:=fun a b:Int=>decide (a < b)) (fun a b h1 h2=>?_) ((List.perm_ext_iff_of_nodup (p1.imp fun h=>by omega) (p2.imp fun h=>by omega)).mpr fun x=>?_) (p1.imp fun h=>?_) (p2.imp fun h=>?_)
 ·have:=of_decide_eq_false h1
  have:=of_decide_eq_false h2
  omega
 ·rw [List.mem_filter,mem_rngI,mem_rng2,decide_eq_true_eq]
  omega
 ·exact decide_eq_false (by omega)
 ·exact decide_eq_false (by omega)
theorem flat_if {α β:Type} (p:α -> Bool) (f:α -> List β):∀ l:List α,(l.flatMap fun x=>if p x = true then f x else []) = (l.filter p).flatMap f
 | []=>rfl
 | a :: l=>by
  rw [List.flatMap_cons,flat_if p f l,List.filter_cons]
  split
  ·rw [List.flatMap_cons]
  ·rfl
theorem plc_filter:∀ {lo sd:List Int},In lo sd -> (plc sd).filter (leqL lo) = btw lo (sd.map fun s=>s - 1)
 | _,_,.nil=>rfl
 | _,_,.cons (a:=l) (s:=s) (as:=lo) (sd:=sd) h0 h1 h=>by
  rw [plc_cons,List.map_cons,btw_cons,<- plc_filter h,<- rng_filter h0,List.filter_flatMap,<- flat_if]
  congr 1
  funext x
  rw [List.filter_map]
  split
  ·rename_i q
   congr 1
   refine List.filter_congr fun t _=>?_
   show (decide (l <= x) && leqL lo t) = leqL lo t
   rw [q,Bool.true_and]
  ·rename_i q
   have e:(plc sd).filter ((leqL (l :: lo)) ∘ fun t=>x :: t) = []:=by
    rw [List.filter_eq_nil_iff]
    intro t _ z
    have z:(decide (l <= x) && leqL lo t) = true:=z
    rw [Bool.and_eq_true] at z
    exact q z.1
   rw [e]
   rfl
noncomputable def bxs (sd:List Int):List (List Int × List Int):=(plc sd).flatMap fun lo=>(btw lo (sd.map fun s=>s - 1)).map fun hi=>(lo,hi)
theorem plc_len2 {sd:List Int} (hsd:S0 sd):(plc sd).length <= 120:=by
 have h1:=eachA_len (sd.map rng) [[]]
 have h2:=lenP_rng hsd.p
 have h3:=hsd.m
 rw [List.length_singleton,Nat.one_mul] at h1
 show (eachA [[]] (sd.map rng)).length <= 120
 omega
theorem btw_len {lo sd:List Int} (hsd:S0 sd) (h:In lo sd):(btw lo (sd.map fun s=>s - 1)).length <= 120:=by
 rw [<- plc_filter h]
 exact Nat.le_trans (List.length_filter_le _ _) (plc_len2 hsd)
theorem in_zip {lo sd:List Int} (hsd:S0 sd) (h:In lo sd):∀ p ∈ lo.zip (sd.map fun s=>s - 1),0 <= p.1 /\ p.1 <= p.2 /\ p.2 <= 1000:=by
 have gen:∀ {lo sd:List Int},In lo sd -> (∀ c ∈ sd,c <= 120) -> ∀ p ∈ lo.zip (sd.map fun s=>s - 1),0 <= p.1 /\ p.1 <= p.2 /\ p.2 <= 1000:=by
  intro lo sd h
  induction h with
  | nil=>intro _ p hp; simp at hp
  | cons h0 h1 _ ih =>
   intro hc p hp
   rw [List.map_cons,List.zip_cons_cons] at hp
   rcases List.mem_cons.mp hp with rfl | hp
   ·have:=hc _ List.mem_cons_self
    exact ⟨h0,by show _ <= _ - 1; omega,by show _ - 1 <= 1000; omega⟩
   ·exact ih (fun c hc'=>hc c (List.mem_cons_of_mem _ hc')) p hp
 exact gen h fun c hc=>Int.le_trans (le_prodI hsd.p c hc) hsd.m
theorem flat_le {α β:Type} (f:α -> List β) (b:Nat):∀ l:List α,(∀ x ∈ l,(f x).length <= b) -> (l.flatMap f).length <= l.length * b
 | [],_=>by simp
 | a :: l,h=>by
  have h1:=h a List.mem_cons_self
  have h2:=flat_le f b l fun x hx=>h x (List.mem_cons_of_mem _ hx)
  rw [List.flatMap_cons,List.length_append,List.length_cons,Nat.succ_mul]
  omega
theorem part_le {sd:List Int} (hsd:S0 sd) (ls:List (List Int)) (h:∀ x ∈ ls,x ∈ plc sd) (hl:ls.length <= 120):(ls.flatMap fun lo=>(btw lo (sd.map fun s=>s - 1)).map fun hi=>(lo,hi)).length <= 14400:=by
 have:=flat_le (fun lo=>(btw lo (sd.map fun s=>s - 1)).map fun hi=>(lo,hi)) 120 ls fun x hx=>by
  rw [List.length_map]
  exact btw_len hsd (plc_in (h x hx))
 have:ls.length * 120 <= 120 * 120:=Nat.mul_le_mul_right _ hl
 omega
theorem leq_leqL:∀ (hi lo:List Int),RM.leq hi lo = leqL lo hi
 | [],[]=>rfl
 | [],_ :: _=>rfl
 | _ :: _,[]=>rfl
 | a :: hi,b :: lo=>by rw [RM.leq_cons,leq_leqL hi lo]; rfl
theorem lbx_bxs (sd:List Int):lbx sd = bxs sd:=by
 unfold lbx bxs
 have:∀ lo ∈ plc sd,lbF sd lo = (btw lo (sd.map fun s=>s - 1)).map fun hi=>(lo,hi):=fun lo hlo=>by
  rw [lbF,<- plc_filter (plc_in hlo)]
  congr 2
  funext hi
  exact leq_leqL hi lo
 have gen:∀ (l:List (List Int)),(∀ x ∈ l,x ∈ plc sd) -> l.flatMap (lbF sd) = l.flatMap fun lo=>(btw lo (sd.map fun s=>s - 1)).map fun hi=>(lo,hi):=by
  intro l
  induction l with
  | nil=>intro _; rfl
  | cons a l ih =>
   intro h
   rw [List.flatMap_cons,List.flatMap_cons,this a (h a List.mem_cons_self),ih fun x hx=>h x (List.mem_cons_of_mem _ hx)]
 exact gen _ fun _ h=>h
theorem bxs_bx {sd:List Int} {b:List Int × List Int} (h:b ∈ bxs sd):Bx b.1 b.2 sd:=by
 rw [<- lbx_bxs] at h
 obtain ⟨lo,hlo,hb⟩:=List.mem_flatMap.mp h
 obtain ⟨hi,hhi,rfl⟩:=List.mem_map.mp hb
 have:=List.mem_filter.mp hhi
 exact bx_of (plc_wi hlo) (plc_wi this.1) this.2
theorem bx_bxs {sd lo hi:List Int} (h:Bx lo hi sd):(lo,hi) ∈ bxs sd:=by
 have gen:∀ {sd lo hi:List Int},Bx lo hi sd -> Wi lo sd /\ Wi hi sd /\ RM.leq hi lo = true:=by
  intro sd
  induction sd with
  | nil =>
   intro lo hi h
   cases lo with
   | nil=>cases hi with
    | nil=>exact ⟨trivial,trivial,rfl⟩
    | cons _ _=>exact h.elim
   | cons _ _=>cases hi <;> exact h.elim
  | cons s sd ih =>
   intro lo hi h
   cases lo with
   | nil=>cases hi <;> exact h.elim
   | cons x lo=>cases hi with
    | nil=>exact h.elim
    | cons y hi =>
     have h1:=h.1
     obtain ⟨a,b,c⟩:=ih h.2
     refine ⟨⟨⟨h1.1,by omega⟩,a⟩,⟨⟨by omega,h1.2.2⟩,b⟩,?_⟩
     rw [RM.leq_cons,c,decide_eq_true h1.2.1]; rfl
 obtain ⟨a,b,c⟩:=gen h
 rw [<- lbx_bxs]
 exact List.mem_flatMap.mpr ⟨lo,wi_mem a,List.mem_map.mpr ⟨hi,List.mem_filter.mpr ⟨wi_mem b,c⟩,rfl⟩⟩
section
variable {P:Program} {w:World} {K:PySem.W.Frag} {mg:Str -> Option Value} {base:Heap}
structure CalsAB (P:Program) (w:World) (K:PySem.W.Frag) (mg:Str -> Option Value) (base:Heap):Prop where
 all_places:Cal P w K mg base 3 "all_places" ["sides"] (conSp K cAllPlaces)
 places_between:Cal P w K mg base 2 "places_between" ["low","high"] (conSp K cBtw)
 last_place:Cal P w K mg base 1 "last_place" ["sides"] (conSp K cLast)
noncomputable def cAllB:Con:=fun args Q=>∃ sd:List Int,args = [.fz (tupD sd)] /\ S0 sd /\ ∀ o,Q (.ow (.list ((bxs sd).map bxD))) o
theorem scAllB:FnScope ["sides","boxes","low","high"] ["sides"] (defScope (top 12)):=⟨rfl,rfl,rfl,by decide +kernel,rfl,by decide +kernel,by decide +kernel⟩
theorem ok_allB {f:Addr} {fd:FuncData} (F:Fun K "all_boxes" "all_boxes" (top 12) f fd) (C:CalsAB P w K mg base):FnOk P w K mg base CX0 4 f fd ["sides"] (conSp K cAllB):=by
 have S:=scAllB
 refine wfn F S (fun cdv A outer s H E hr=>(s_cons (s_set (i:=1) S.nd rfl (Or.inl rfl) (w_lst wa_nil))
     (s_cons (s_for [2,3] PassesOwn.never rfl (i_seq rfl (w_fn C.all_places (hr.mono (by first | decide | omega)) (wa_cons (wn 0) wa_nil))) (g_name (i:=2) S.nd rfl (Or.inl rfl)) (s_one (s_for [3] PassesOwn.never rfl (i_seq rfl (w_fn C.places_between (hr.mono (by first | decide | omega)) (wa_cons (wn 2) (wa_cons (wx (w_fn C.last_place (hr.mono (by first | decide | omega)) (wa_cons (wn 0) wa_nil))) wa_nil)))) (g_name (i:=3) S.nd rfl (Or.inl rfl)) (s_one (s_expr (w_m ok_append rfl PySem.F.slot_list_append PySem.F.type_list_append mt_append (wn 1) (wa_cons (wx (w_tup (wa_cons (wx (wv 2)) (wa_cons (wx (wv 3)) wa_nil)))) wa_nil)))))))
     (s_one (s_retV (wn 1)))))) ?_ ?_
 ·rintro args Qd ⟨sd,rfl,_⟩; rfl
 ·rintro args Qd ⟨sd,rfl,hsd,q⟩
  have h3:=hsd.l3
  have hpl:=plc_len2 hsd
  refine ⟨noOw_of rfl,?_⟩
  refine ⟨sd,rfl,hsd,fun o=>?_⟩
  refine loopC (fun rest ρ=>∃ (dn:List (List Int × List Int)) (rs:List (List Int)),ρ = [some (.fz (tupD sd)),some (.ow (.list (dn.map bxD))),none,none] /\ rest = rs.map tupD /\ (∀ p ∈ rs,p ∈ plc sd) /\ rs.length <= 120 /\ (dn ++ rs.flatMap fun lo=>(btw lo (sd.map fun s=>s - 1)).map fun hi=>(lo,hi)) = bxs sd) ?_ ?_
   ⟨[],plc sd,rfl,rfl,fun p h=>h,hpl,rfl⟩
  ·rintro d ds ρ ⟨dn,rs,rfl,er,hin,hl,he⟩ N hN
   cases rs with
   | nil=>cases er
   | cons lo rs =>
    cases er
    have hi:=plc_in (hin lo List.mem_cons_self)
    have hb:=btw_len hsd hi
    have htot:(bxs sd).length <= 14400:=part_le hsd (plc sd) (fun x h=>h) hpl
    refine ⟨sd,rfl,by omega,fun o=>?_⟩
    refine ⟨lo,sd.map fun s=>s - 1,rfl,by rw [List.length_map,hi.len],by rw [hi.len]; exact h3,in_zip hsd hi,?_,fun o=>?_⟩
    ·have:=eachA_len ((lo.zip (sd.map fun s=>s - 1)).map fun p=>rng2 p.1 p.2) [[]]
     rw [List.length_singleton,Nat.one_mul] at this
     have h2:(eachA [[]] ((lo.zip (sd.map fun s=>s - 1)).map fun p=>rng2 p.1 p.2)).length <= 120:=hb
     omega
    refine loopC (fun rest ρ=>∃ (d2:List (List Int × List Int)) (rh:List (List Int)),ρ = [some (.fz (tupD sd)),some (.ow (.list (d2.map bxD))),some (.fz (tupD lo)),none] /\ rest = rh.map tupD /\ d2 ++ rh.map (fun hi=>(lo,hi)) = dn ++ (btw lo (sd.map fun s=>s - 1)).map fun hi=>(lo,hi)) ?_ ?_
     ⟨dn,btw lo (sd.map fun s=>s - 1),rfl,rfl,rfl⟩
    ·rintro d ds ρ ⟨d2,rh,rfl,er,he2⟩ M hM
     cases rh with
     | nil=>cases er
     | cons h rh =>
      cases er
      have hz:d2.length < 14401:=by
       have e1:=congrArg List.length he
       have e2:=congrArg List.length he2
       simp only [List.flatMap_cons,List.length_append,List.length_map,List.length_cons] at e1 e2
       omega
      refine ⟨by rw [List.length_map]; exact Nat.lt_of_lt_of_le hz (by decide),?_⟩
      exact hM _ ⟨d2 ++ [(lo,h)],rh,by rw [List.map_append]; rfl,rfl,by rw [<- he2]; simp⟩
    ·rintro ρ ⟨d2,rh,rfl,er,he2⟩
     cases rh with
     | cons h rh=>cases er
     | nil =>
      rw [List.map_nil,List.append_nil] at he2
      subst he2
      refine hN _ ⟨_,rs,rfl,rfl,fun p h=>hin p (List.mem_cons_of_mem _ h),by simp at hl; omega,?_⟩
      rw [<- he,List.flatMap_cons,List.append_assoc]
  ·rintro ρ ⟨dn,rs,rfl,er,hin,hl,he⟩
   cases rs with
   | cons h rs=>cases er
   | nil =>
    rw [List.flatMap_nil,List.append_nil] at he
    subst he
    exact q _
end
end R46
namespace R46
open PySem PySem.Spec L2 L3 PyProof.Rows
theorem take_init (ss:List Int) (z:Int):(((ss ++ [z]).map PyData.int).take (if (-1:Int) < 0 then ((-1:Int) + (((ss ++ [z]).map PyData.int).length:Nat)).toNat else (-1:Int).toNat)) = ss.map PyData.int:=by
 rw [if_pos (by decide),List.length_map,List.length_append,List.length_singleton,show ((-1:Int) + ((ss.length + 1:Nat):Int)).toNat = ss.length by omega,List.map_append,List.take_append_of_le_length (by rw [List.length_map]; exact Nat.le_refl _),List.take_of_length_le (by rw [List.length_map]; exact Nat.le_refl _)]
theorem one_le_init (ss:List Int) (z:Int):if (-1:Int) < 0 then 1 <= ((ss ++ [z]).map PyData.int).length else (-1:Int) < (((ss ++ [z]).map PyData.int).length:Nat):=by
 rw [if_pos (by decide),List.length_map,List.length_append,List.length_singleton]; omega
theorem at_last (ss:List Int) (z:Int):atI ((ss ++ [z]).map PyData.int) (-1) = some (.int z):=by
 unfold atI ixN
 rw [if_neg (by decide),List.length_map,List.length_append,List.length_singleton,if_pos (by omega)]
 show ((ss ++ [z]).map PyData.int)[((-1:Int) + ((ss.length + 1:Nat):Int)).toNat]? = _
 rw [show ((-1:Int) + ((ss.length + 1:Nat):Int)).toNat = ss.length by omega]
 simp
theorem bx_wi:∀ {sd lo hi:List Int},Bx lo hi sd -> Wi lo sd /\ Wi hi sd /\ RM.leq hi lo = true
 | [],[],[],_=>⟨trivial,trivial,rfl⟩
 | s :: sd,x :: lo,y :: hi,h=>by
  have h1:=h.1
  obtain ⟨a,b,c⟩:=bx_wi h.2
  refine ⟨⟨⟨h1.1,by omega⟩,a⟩,⟨⟨by omega,h1.2.2⟩,b⟩,?_⟩
  rw [RM.leq_cons,c,decide_eq_true h1.2.1]; rfl
 | [],[],_ :: _,h=>h.elim
 | [],_ :: _,z,h=>by cases z <;> exact h.elim
 | _ :: _,[],z,h=>by cases z <;> exact h.elim
 | _ :: _,_ :: _,[],h=>h.elim
noncomputable def areB (n:Int):Int -> List (Int × Int) -> Bool
 | _,[]=>true
 | a,x :: xs=>if n < x.2 \/ x.2 < x.1 + max a 0 then false else areB n x.2 xs
mutual
noncomputable def okD:PyData -> Bool
 | .dict es=>notScr es
 | .list xs=>okAll xs
 | .tuple xs=>okAll xs
 | .none=>true
 | .bool _=>true
 | .int _=>true
 | .str _=>true
noncomputable def okAll:List PyData -> Bool
 | []=>true
 | x :: xs=>okD x && okAll xs
end
theorem okAll_mem:∀ {xs:List PyData},okAll xs = true -> ∀ d ∈ xs,okD d = true
 | [],_,d,h=>by simp at h
 | x :: xs,h,d,hd=>by
  simp [okAll] at h
  rcases List.mem_cons.mp hd with rfl | hd
  ·exact h.1
  ·exact okAll_mem h.2 d hd
theorem okAll_of:∀ {xs:List PyData},(∀ d ∈ xs,okD d = true) -> okAll xs = true
 | [],_=>rfl
 | x :: xs,h=>by
  simp [okAll]
  exact ⟨h x List.mem_cons_self,okAll_of fun d hd=>h d (List.mem_cons_of_mem _ hd)⟩
noncomputable def isI:PyData -> Bool
 | .int _=>true
 | _=>false
noncomputable def num1 (s:Int):PyData -> Bool
 | .int i=>decide (0 <= i) && decide (i < s)
 | _=>false
noncomputable def okZ:List PyData -> List Int -> Bool
 | d :: ds,s :: sd=>num1 s d && okZ ds sd
 | _,_=>true
noncomputable def isPl (sd:List Int):PyData -> Bool
 | .tuple ds=>decide (ds.length = sd.length) && okZ ds sd
 | _=>false
theorem isPl_not {sd:List Int} {d:PyData} (h:∀ ds,d = .tuple ds -> ds.length ≠ sd.length):isPl sd d = false:=by
 cases d <;> first | rfl | skip
 rename_i ds
 have:=h ds rfl
 simp [isPl,this]
theorem ints_of:∀ {ds:List PyData},ds.all isI = true -> ∃ ns:List Int,ds = ns.map PyData.int
 | [],_=>⟨[],rfl⟩
 | d :: ds,h=>by
  simp at h
  obtain ⟨ns,e⟩:=ints_of (ds:=ds) (by simpa using h.2)
  cases d <;> simp [isI] at h
  rename_i i
  exact ⟨i :: ns,by rw [e]; rfl⟩
theorem okZ_ints:∀ {ds:List PyData} {sd:List Int},ds.length = sd.length -> okZ ds sd = true -> ds.all isI = true
 | [],_,_,_=>rfl
 | d :: ds,[],h,_=>by simp at h
 | d :: ds,s :: sd,h,k=>by
  simp [okZ] at k
  have:=okZ_ints (ds:=ds) (sd:=sd) (by simpa using h) k.2
  cases d <;> simp [num1] at k
  rename_i i
  show (isI (.int i) && ds.all isI) = true
  rw [this]; rfl
noncomputable def numZ (p:Int × Int):Bool:=decide (0 <= p.1) && decide (p.1 < p.2)
theorem okZ_zip:∀ (ns sd:List Int),okZ (ns.map PyData.int) sd = ((ns.zip sd).map numZ).all id
 | [],_=>by simp [okZ]
 | n :: ns,[]=>by simp [okZ]
 | n :: ns,s :: sd=>by simp [okZ,num1,numZ,okZ_zip ns sd]
noncomputable def leZ (ns ms:List Int):Bool:=((ns.zip ms).map fun p=>decide (p.1 <= p.2)).all id
noncomputable def leD:PyData -> PyData -> Bool
 | .tuple xs,.tuple ys=>leZ (xs.map unI) (ys.map unI)
 | _,_=>false
noncomputable def isBx (sd:List Int):PyData -> Bool
 | .tuple [a,b]=>isPl sd a && isPl sd b && leD a b
 | _=>false
theorem isPl_ints {sd:List Int} {d:PyData} (h:isPl sd d = true):∃ ns:List Int,d = tupD ns /\ ns.length = sd.length:=by
 cases d <;> simp [isPl] at h
 rename_i ds
 obtain ⟨ns,e⟩:=ints_of (okZ_ints h.1 h.2)
 subst e
 exact ⟨ns,rfl,by simpa using h.1⟩
theorem isBx_len {sd:List Int} {xs:List PyData} (h:xs.length ≠ 2):isBx sd (.tuple xs) = false:=by
 rcases xs with _ | ⟨a,_ | ⟨b,_ | ⟨c,xs⟩⟩⟩ <;> first | rfl | simp at h
theorem sameAll_ints:∀ a b:List Int,sameAll (a.map PyData.int) (b.map PyData.int) = decide (a = b)
 | [],[]=>rfl
 | [],_ :: _=>by simp [sameAll]
 | _ :: _,[]=>by simp [sameAll]
 | x :: a,y :: b=>by
  have ih:=sameAll_ints a b
  simp only [List.map_cons,sameAll,same,ih]
  by_cases h1:x = y <;> by_cases h2:a = b <;> simp [h1,h2]
theorem mixAll_ints:∀ a b:List Int,SeqAt.noMixAll (a.map PyData.int) (b.map PyData.int) = true
 | [],[]=>rfl
 | [],_ :: _=>by simp [SeqAt.noMixAll]
 | _ :: _,[]=>by simp [SeqAt.noMixAll]
 | x :: a,y :: b=>by simp [SeqAt.noMixAll,SeqAt.noMix,mixAll_ints a b]
theorem rw_inj {a b:List Int} (h:tupD a = tupD b):a = b:=by
 injection h with h
 exact List.map_inj_right (fun _ _ z=>by injection z) |>.mp h
noncomputable abbrev e2D (a b:List Int):PyData:=.tuple [tupD a,tupD b]
theorem same_e2 (a b c d:List Int):same (e2D a b) (e2D c d) = (decide (a = c) && decide (b = d)):=by
 show (same (tupD a) (tupD c) && (same (tupD b) (tupD d) && true)) = _
 show (sameAll (a.map PyData.int) (c.map PyData.int) && (sameAll (b.map PyData.int) (d.map PyData.int) && true)) = _
 rw [sameAll_ints,sameAll_ints,Bool.and_true]
theorem mix_e2 (a b c d:List Int):SeqAt.noMix (e2D a b) (e2D c d) = true:=by
 simp [SeqAt.noMix,SeqAt.noMixAll,mixAll_ints]
theorem nice_bx (b:List Int × List Int):Nice 2 (bxD b):=.tuple fun d hd=>by
 have hd:d = tupD b.1 \/ d = tupD b.2:=by simpa using hd
 rcases hd with rfl | rfl
 ·exact Nice.tup _
 ·exact Nice.tup _
theorem wi_isPl:∀ {p sd:List Int},Wi p sd -> isPl sd (tupD p) = true:=fun {p sd} h=>by
 have hl:=wi_len h
 have hz:∀ {p sd:List Int},Wi p sd -> okZ (p.map PyData.int) sd = true:=by
  intro p
  induction p with
  | nil=>intro sd _; rfl
  | cons x p ih =>
   intro sd h
   cases sd with
   | nil=>exact h.elim
   | cons s sd =>
    have:=ih h.2
    simp [okZ,num1,this,h.1.1,h.1.2]
 simp [isPl,hl,hz h]
theorem leZ_leq:∀ {lo hi:List Int},RM.leq hi lo = true -> leZ lo hi = true
 | [],_,_=>by simp [leZ]
 | _ :: _,[],_=>by simp [leZ]
 | x :: lo,y :: hi,h=>by
  rw [RM.leq_cons,Bool.and_eq_true,decide_eq_true_eq] at h
  have:=leZ_leq (lo:=lo) (hi:=hi) h.2
  have e:leZ (x :: lo) (y :: hi) = (decide (x <= y) && leZ lo hi):=by simp [leZ]
  rw [e,this,decide_eq_true h.1]
  rfl
theorem bx_isBx {ss:List Int} {b:List Int × List Int} (h:Bx b.1 b.2 ss):isBx ss (bxD b) = true:=by
 obtain ⟨w1,w2,w3⟩:=bx_wi h
 have e:leD (tupD b.1) (tupD b.2) = true:=by
  show leZ ((b.1.map PyData.int).map unI) ((b.2.map PyData.int).map unI) = true
  rw [unI_int,unI_int]
  exact leZ_leq w3
 show (isPl ss (tupD b.1) && isPl ss (tupD b.2) && leD (tupD b.1) (tupD b.2)) = true
 rw [wi_isPl w1,wi_isPl w2,e]
 rfl
theorem isBx_ints {ss:List Int} {d:PyData} (h:isBx ss d = true):∃ b:List Int × List Int,d = bxD b:=by
 cases d <;> first | cases h | skip
 rename_i xs
 rcases xs with _ | ⟨a,_ | ⟨c,_ | ⟨e,xs⟩⟩⟩ <;> first | cases h | skip
 have h:(isPl ss a && isPl ss c && leD a c) = true:=h
 rw [Bool.and_eq_true,Bool.and_eq_true] at h
 obtain ⟨ns,rfl,_⟩:=isPl_ints h.1.1
 obtain ⟨ms,rfl,_⟩:=isPl_ints h.1.2
 exact ⟨(ns,ms),rfl⟩
noncomputable def isB (p:Prop):Bool:=@decide p (Classical.propDecidable p)
theorem isB_t {p:Prop} (h:p):isB p = true:=@decide_eq_true _ (Classical.propDecidable _) h
theorem isB_f {p:Prop} (h:¬ p):isB p = false:=@decide_eq_false _ (Classical.propDecidable _) h
theorem of_isB {p:Prop} (h:isB p = true):p:=@of_decide_eq_true _ (Classical.propDecidable _) h
noncomputable abbrev enD (x:(List Int × List Int) × List Int):PyData:=.tuple [bxD x.1,tupD x.2]
noncomputable def Ent (z:Int) (b:List Int × List Int) (d:PyData):Prop:=∃ bs:List Int,d = enD (b,bs) /\ (bs.length:Int) = z
section
variable {P:Program} {w:World} {K:PySem.W.Frag} {mg:Str -> Option Value} {base:Heap}
noncomputable def cWholeX:Con:=fun args Q=>∃ d,args = [.fz d] /\ okD d = true /\ ∀ o,Q (.fz (.bool (isI d))) o
theorem scWholeX:FnScope ["thing"] ["thing"] (defScope (top 1)):=⟨rfl,rfl,rfl,by decide +kernel,rfl,by decide +kernel,by decide +kernel⟩
theorem ok_wholeX {f:Addr} {fd:FuncData} (F:Fun K "is_whole" "is_whole" (top 1) f fd) (T:Txt mg):FnOk P w K mg base CX0 1 f fd ["thing"] (conSp K cWholeX):=by
 have S:=scWholeX
 refine wfn F S (fun cdv A outer s H E hr=>(s_one (s_ret (w_and (w_isiA .int rfl T.isinstance_ T.int_ boot_int (wn 0)) (w_one (w_not (w_isiA .bl rfl T.isinstance_ T.bool_ boot_bool (wn 0)))))))) ?_ ?_
 ·rintro args Qd ⟨d,rfl,_⟩; rfl
 ·rintro args Qd ⟨d,rfl,hd,q⟩
  refine ⟨noOw_of rfl,?_⟩
  cases d with
  | dict es=>exact ⟨hd,q _⟩
  | int i=>exact q _
  | bool b=>exact q _
  | none=>exact q _
  | str x=>exact q _
  | list xs=>exact q _
  | tuple xs=>exact q _
structure CalsCX (P:Program) (w:World) (K:PySem.W.Frag) (mg:Str -> Option Value) (base:Heap):Prop where
 is_whole:Cal P w K mg base 1 "is_whole" ["thing"] (conSp K cWholeX)
noncomputable def areW (n:Nat):PyData -> Bool
 | .tuple ds=>decide (ds.length = n) && ds.all isI
 | _=>false
noncomputable def cAreW:Con:=fun args Q=>∃ (d:PyData) (n:Nat),args = [.fz d,.fz (.int n)] /\ okD d = true /\ n <= 1000 /\ ∀ o,Q (.fz (.bool (areW n d))) o
theorem scAreW:FnScope ["thing","many"] ["thing","many"] (defScope (top 2)):=⟨rfl,rfl,rfl,by decide +kernel,rfl,by decide +kernel,by decide +kernel⟩
theorem ok_areW {f:Addr} {fd:FuncData} (F:Fun K "are_wholes" "are_wholes" (top 2) f fd) (T:Txt mg) (C:CalsCX P w K mg base):FnOk P w K mg base CX0 2 f fd ["thing","many"] (conSp K cAreW):=by
 have S:=scAreW
 refine wfn F S (fun cdv A outer s H E hr=>(s_cons (s_if (t_w (t_or (t_not (t_val (w_isiA .tup rfl T.isinstance_ T.tuple_ boot_tuple (wn 0)))) (t_or1 (t_cmp ok_ne (op_neE (K:=K) rfl hr.units) (wx (w_callB ok_len (call_lenK (K:=K) rfl) T.len_ PySem.boot_len (wa_cons (wn 0) wa_nil))) (wn 1))))) (s_one (s_ret w_bl)) s_nil)
     (s_one (s_ret (w_callB ok_all (call_allK (K:=K) rfl rfl) T.all_ boot_all (wa_cons (wx (w_comp rfl (own:=["number"]) (fr:=[]) (by kernel_rfl) (i_seq rfl (wv 0)) (fun _ _ _ _=>(g_name (i:=0) (by decide +kernel:List.Nodup (["number"]:List Str)) rfl (Or.inl rfl))) (fun _ _ _ _=>if0) (fun _ _ _ _=>(w_fn C.is_whole (hr.mono (by first | decide | omega)) (wa_cons (wn 0) wa_nil))))) wa_nil)))))) ?_ ?_
 ·rintro args Qd ⟨d,n,rfl,_⟩; rfl
 ·rintro args Qd ⟨d,n,rfl,hd,hn,q⟩
  refine ⟨noOw_of rfl,?_⟩
  cases d with
  | dict es=>exact ⟨hd,q _⟩
  | int i=>exact q _
  | bool b=>exact q _
  | none=>exact q _
  | str x=>exact q _
  | list xs=>exact q _
  | tuple xs =>
   refine ite2 (fun h=>?_) (fun h=>?_)
   ·have h:¬ (xs.length:Int) = n:=by simpa using h
    have e:areW n (.tuple xs) = false:=by simp [areW]; intro z; omega
    rw [e] at q
    exact q _
   ·have h:(xs.length:Int) = n:=by simpa using h
    have hl:xs.length = n:=by omega
    refine ⟨le_size (by omega),mapC (fun d=>.bool (isI d)) ?_ ?_⟩
    ·intro d hd2 N hN
     exact ⟨d,rfl,okAll_mem (by simpa [okD] using hd) d hd2,fun o=>hN⟩
    ·refine ⟨xs.map isI,by rw [List.map_map]; rfl,?_⟩
     have e:areW n (.tuple xs) = (xs.map isI).all id:=by simp [areW,hl]
     rw [<- e]
     exact q _
structure CalsDX (P:Program) (w:World) (K:PySem.W.Frag) (mg:Str -> Option Value) (base:Heap):Prop where
 are_wholes:Cal P w K mg base 2 "are_wholes" ["thing","many"] (conSp K cAreW)
noncomputable def cIsPlace:Con:=fun args Q=>∃ (sd:List Int) (d:PyData),args = [.fz (tupD sd),.fz d] /\ okD d = true /\ sd.length <= 1000 /\ ∀ o,Q (.fz (.bool (isPl sd d))) o
noncomputable def fNum:PyData -> PyData
 | .tuple [.int a,.int b]=>.bool (numZ (a,b))
 | _=>.none
theorem scIsPlace:FnScope ["sides","thing"] ["sides","thing"] (defScope (top 7)):=⟨rfl,rfl,rfl,by decide +kernel,rfl,by decide +kernel,by decide +kernel⟩
theorem ok_isPlace {f:Addr} {fd:FuncData} (F:Fun K "is_place" "is_place" (top 7) f fd) (T:Txt mg) (C:CalsDX P w K mg base):FnOk P w K mg base CX0 3 f fd ["sides","thing"] (conSp K cIsPlace):=by
 have S:=scIsPlace
 refine wfn F S (fun cdv A outer s H E hr=>(s_cons (s_if (t_not (t_val (w_fn C.are_wholes (hr.mono (by first | decide | omega)) (wa_cons (wn 1) (wa_cons (wx (w_callB ok_len (call_lenK (K:=K) rfl) T.len_ PySem.boot_len (wa_cons (wn 0) wa_nil))) wa_nil))))) (s_one (s_ret w_bl)) s_nil)
     (s_one (s_ret (w_callB ok_all (call_allK (K:=K) rfl rfl) T.all_ boot_all (wa_cons (wx (w_comp rfl (own:=["number","side"]) (fr:=[]) (by kernel_rfl) (i_zip2 rfl T.zip_ (wa_cons (wn 1) (wa_cons (wn 0) wa_nil))) (fun _ _ _ _=>(g_tup rfl rfl (gs_cons (g_name (i:=0) (by decide +kernel:List.Nodup (["number","side"]:List Str)) rfl (Or.inl rfl)) (gs_cons (g_name (i:=1) (by decide +kernel:List.Nodup (["number","side"]:List Str)) rfl (Or.inl rfl)) gs_nil)))) (fun _ _ _ _=>if0) (fun _ _ _ _=>(w_chain op_le op_lt (wx w_int) (wn 0) (wn 1))))) wa_nil)))))) ?_ ?_
 ·rintro args Qd ⟨sd,d,rfl,_⟩; rfl
 ·rintro args Qd ⟨sd,d,rfl,hd,hn,q⟩
  refine ⟨noOw_of rfl,?_⟩
  refine ⟨d,sd.length,by rw [List.length_map]; rfl,hd,hn,fun o=>?_⟩
  cases ha:areW sd.length d with
  | false =>
   have e:isPl sd d = false:=by
    cases d <;> first | rfl | skip
    rename_i ds
    simp [areW] at ha
    by_cases h:ds.length = sd.length
    ·cases hz:okZ ds sd with
     | false=>simp [isPl,hz]
     | true =>
      have:=okZ_ints h hz
      exact absurd this (by simpa using ha h)
    ·simp [isPl,h]
   rw [e] at q
   exact q _
  | true =>
   cases d <;> simp [areW] at ha
   rename_i ds
   obtain ⟨hl,hi⟩:=ha
   obtain ⟨ns,rfl⟩:=ints_of (ds:=ds) (by simpa using hi)
   have hz:zipD (ns.map PyData.int) (sd.map PyData.int) = (ns.zip sd).map fun p=>PyData.tuple [.int p.1,.int p.2]:=zipD_ints ns sd
   have hln:ns.length = sd.length:=by simpa using hl
   refine ⟨by rw [hz,List.length_map,List.length_zip]; exact le_size (by omega),mapC fNum ?_ ?_⟩
   ·intro d hd2 N hN
    rw [hz] at hd2
    obtain ⟨⟨a,b⟩,_,rfl⟩:=List.mem_map.mp hd2
    have hN:N (.bool (numZ (a,b))) _:=hN
    refine ⟨rfl,?_⟩
    refine ite2 (fun h=>?_) (fun h=>?_)
    ·have e:numZ (a,b) = decide (a < b):=by
      have h:decide (0 <= a) = true:=h
      simp [numZ,of_decide_eq_true h]
     rw [e] at hN
     exact hN
    ·have e:numZ (a,b) = false:=by
      have h:¬ decide (0 <= a) = true:=h
      simp [numZ]
      intro z
      exact absurd (decide_eq_true z) h
     rw [e] at hN
     exact hN
   ·rw [hz,List.map_map]
    refine ⟨(ns.zip sd).map numZ,by rw [List.map_map]; rfl,?_⟩
    have e:isPl sd (.tuple (ns.map PyData.int)) = ((ns.zip sd).map numZ).all id:=by
     rw [<- okZ_zip]
     simp [isPl,hln]
    rw [<- e]
    exact q _
structure CalsEX (P:Program) (w:World) (K:PySem.W.Frag) (mg:Str -> Option Value) (base:Heap):Prop where
 is_place:Cal P w K mg base 3 "is_place" ["sides","thing"] (conSp K cIsPlace)
noncomputable def cIsBox:Con:=fun args Q=>∃ (sd:List Int) (d:PyData),args = [.fz (tupD sd),.fz d] /\ okD d = true /\ sd.length <= 1000 /\ ∀ o,Q (.fz (.bool (isBx sd d))) o
noncomputable def fLe:PyData -> PyData
 | .tuple [.int a,.int b]=>.bool (decide (a <= b))
 | _=>.none
theorem scIsBox:FnScope ["sides","thing"] ["sides","thing"] (defScope (top 8)):=⟨rfl,rfl,rfl,by decide +kernel,rfl,by decide +kernel,by decide +kernel⟩
theorem ok_isBox {f:Addr} {fd:FuncData} (F:Fun K "is_box" "is_box" (top 8) f fd) (T:Txt mg) (C:CalsEX P w K mg base):FnOk P w K mg base CX0 4 f fd ["sides","thing"] (conSp K cIsBox):=by
 have S:=scIsBox
 refine wfn F S (fun cdv A outer s H E hr=>(s_cons (s_if (t_w (t_or (t_not (t_val (w_isiA .tup rfl T.isinstance_ T.tuple_ boot_tuple (wn 1)))) (t_or1 (t_cmp ok_ne (op_neE (K:=K) rfl hr.units) (wx (w_callB ok_len (call_lenK (K:=K) rfl) T.len_ PySem.boot_len (wa_cons (wn 1) wa_nil))) (wx w_int))))) (s_one (s_ret w_bl)) s_nil)
     (s_cons (s_if (t_w (t_or (t_not (t_val (w_fn C.is_place (hr.mono (by first | decide | omega)) (wa_cons (wn 0) (wa_cons (wx (w_ix rfl (wn 1) (wx w_int))) wa_nil))))) (t_or1 (t_not (t_val (w_fn C.is_place (hr.mono (by first | decide | omega)) (wa_cons (wn 0) (wa_cons (wx (w_ix rfl (wn 1) (wx w_int))) wa_nil)))))))) (s_one (s_ret w_bl)) s_nil)
     (s_one (s_ret (w_callB ok_all (call_allK (K:=K) rfl rfl) T.all_ boot_all (wa_cons (wx (w_comp rfl (own:=["first","last"]) (fr:=[]) (by kernel_rfl) (i_zip2 rfl T.zip_ (wa_cons (wx (w_ix rfl (wn 1) (wx w_int))) (wa_cons (wx (w_ix rfl (wn 1) (wx w_int))) wa_nil))) (fun _ _ _ _=>(g_tup rfl rfl (gs_cons (g_name (i:=0) (by decide +kernel:List.Nodup (["first","last"]:List Str)) rfl (Or.inl rfl)) (gs_cons (g_name (i:=1) (by decide +kernel:List.Nodup (["first","last"]:List Str)) rfl (Or.inl rfl)) gs_nil)))) (fun _ _ _ _=>if0) (fun _ _ _ _=>(w_cmp ok_le op_le (wn 0) (wn 1))))) wa_nil))))))) ?_ ?_
 ·rintro args Qd ⟨sd,d,rfl,_⟩; rfl
 ·rintro args Qd ⟨sd,d,rfl,hd,hn,q⟩
  refine ⟨noOw_of rfl,?_⟩
  cases d with
  | dict es=>exact ⟨hd,q _⟩
  | int i=>exact q _
  | bool b=>exact q _
  | none=>exact q _
  | str x=>exact q _
  | list xs=>exact q _
  | tuple xs =>
   refine ite2 (fun h=>?_) (fun h=>?_)
   ·have h:¬ (xs.length:Int) = 2:=by simpa using h
    rw [isBx_len (by omega)] at q
    exact q _
   ·have h:(xs.length:Int) = 2:=by simpa using h
    obtain ⟨a,b,rfl⟩:∃ a b,xs = [a,b]:=by
     rcases xs with _ | ⟨a,_ | ⟨b,_ | ⟨c,xs⟩⟩⟩
     ·simp at h
     ·simp at h
     ·exact ⟨a,b,rfl⟩
     ·simp at h; omega
    have hab:okD a = true /\ okD b = true:=by simpa [okD,okAll] using hd
    refine ⟨a,rfl,sd,a,rfl,hab.1,hn,fun o=>?_⟩
    cases ha:isPl sd a with
    | false =>
     have e:isBx sd (.tuple [a,b]) = false:=by simp [isBx,ha]
     rw [e] at q
     exact q _
    | true =>
     refine ⟨b,rfl,sd,b,rfl,hab.2,hn,fun o=>?_⟩
     cases hb:isPl sd b with
     | false =>
      have e:isBx sd (.tuple [a,b]) = false:=by simp [isBx,hb]
      rw [e] at q
      exact q _
     | true =>
      obtain ⟨ns,rfl,hns⟩:=isPl_ints ha
      obtain ⟨ms,rfl,hms⟩:=isPl_ints hb
      have hz:=zipD_ints ns ms
      refine ⟨tupD ns,rfl,tupD ms,rfl,by rw [hz,List.length_map,List.length_zip]; exact le_size (by omega),mapC fLe ?_ ?_⟩
      ·intro d hd2 N hN
       rw [hz] at hd2
       obtain ⟨⟨a,b⟩,_,rfl⟩:=List.mem_map.mp hd2
       exact ⟨rfl,hN⟩
      ·rw [hz,List.map_map]
       refine ⟨(ns.zip ms).map fun p=>decide (p.1 <= p.2),by rw [List.map_map]; rfl,?_⟩
       have e:isBx sd (.tuple [tupD ns,tupD ms]) = ((ns.zip ms).map fun p=>decide (p.1 <= p.2)).all id:=by
        simp only [isBx,ha,hb,Bool.true_and]
        show leZ ((ns.map PyData.int).map unI) ((ms.map PyData.int).map unI) = _
        rw [unI_int,unI_int]; rfl
       rw [<- e]
       exact q _
theorem areW_of {n:Nat} {d:PyData} (h:areW n d = true):∃ l:List Int,d = tupD l /\ l.length = n:=by
 cases d <;> first | cases h | skip
 rename_i xs
 have h:(decide (xs.length = n) && xs.all isI) = true:=h
 rw [Bool.and_eq_true,decide_eq_true_eq] at h
 obtain ⟨ns,rfl⟩:=ints_of h.2
 rw [List.length_map] at h
 exact ⟨ns,rfl,h.1⟩
theorem areW_ints (l:List Int):areW l.length (tupD l) = true:=by
 have e:(l.map PyData.int).all isI = true:=by
  rw [List.all_eq_true]
  intro d hd
  obtain ⟨i,_,rfl⟩:=List.mem_map.mp hd
  rfl
 show (decide ((l.map PyData.int).length = l.length) && (l.map PyData.int).all isI) = true
 rw [e,decide_eq_true (List.length_map _)]
 rfl
structure CalsIE (P:Program) (w:World) (K:PySem.W.Frag) (mg:Str -> Option Value) (base:Heap):Prop where
 is_box:Cal P w K mg base 4 "is_box" ["sides","thing"] (conSp K cIsBox)
 are_wholes:Cal P w K mg base 2 "are_wholes" ["thing","many"] (conSp K cAreW)
noncomputable def cIE:Con:=fun args Q=>∃ (ss:List Int) (z:Int) (b:List Int × List Int) (d:PyData),args = [.fz (tupD (ss ++ [z])),.fz (bxD b),.fz d] /\ S0 ss /\ Bx b.1 b.2 ss /\ 0 <= z /\ z <= 1000 /\ okD d = true /\ ∀ o,Q (.fz (.bool (isB (Ent z b d)))) o
theorem scIE:FnScope ["sides","base","thing"] ["sides","base","thing"] (defScope (top 23)):=⟨rfl,rfl,rfl,by decide +kernel,rfl,by decide +kernel,by decide +kernel⟩
theorem ok_ie {f:Addr} {fd:FuncData} (F:Fun K "is_entry" "is_entry" (top 23) f fd) (T:Txt mg) (C:CalsIE P w K mg base):FnOk P w K mg base CX0 5 f fd ["sides","base","thing"] (conSp K cIE):=by
 have S:=scIE
 refine wfn F S (fun cdv A outer s H E hr=>(s_cons (s_if (t_w (t_or (t_not (t_val (w_isiA .tup rfl T.isinstance_ T.tuple_ boot_tuple (wn 2)))) (t_or1 (t_cmp ok_ne (op_neE (K:=K) rfl hr.units) (wx (w_callB ok_len (call_lenK (K:=K) rfl) T.len_ PySem.boot_len (wa_cons (wn 2) wa_nil))) (wx w_int))))) (s_one (s_ret w_bl)) s_nil)
     (s_one (s_ret (w_and (w_fn C.is_box (hr.mono (by first | decide | omega)) (wa_cons (wx (w_slHi rfl (wn 0) (wx (w_neg (wx w_int))))) (wa_cons (wx (w_ix rfl (wn 2) (wx w_int))) wa_nil))) (w_and (w_cmp ok_eq (op_eqE (K:=K) rfl hr.units) (wx (w_ix rfl (wn 2) (wx w_int))) (wn 1)) (w_one (w_fn C.are_wholes (hr.mono (by first | decide | omega)) (wa_cons (wx (w_ix rfl (wn 2) (wx w_int))) (wa_cons (wx (w_ix rfl (wn 0) (wx (w_neg (wx w_int))))) wa_nil)))))))))) ?_ ?_
 ·rintro args Qd ⟨ss,z,b,d,rfl,_⟩; rfl
 ·rintro args Qd ⟨ss,z,b,d,rfl,hsd,hb,hz0,hz1,hd,q⟩
  refine ⟨noOw_of rfl,?_⟩
  obtain ⟨m,rfl⟩:=Int.eq_ofNat_of_zero_le hz0
  have q0:¬ Ent (m:Nat) b d -> ∀ o,Qd (.fz (.bool false)) o:=fun h o=>by
   have:=q o
   rw [isB_f h] at this
   exact this
  cases d with
  | dict es=>exact ⟨hd,q0 (fun ⟨_,z,_⟩=>by cases z) _⟩
  | int i=>exact q0 (fun ⟨_,z,_⟩=>by cases z) _
  | bool b=>exact q0 (fun ⟨_,z,_⟩=>by cases z) _
  | none=>exact q0 (fun ⟨_,z,_⟩=>by cases z) _
  | str x=>exact q0 (fun ⟨_,z,_⟩=>by cases z) _
  | list xs=>exact q0 (fun ⟨_,z,_⟩=>by cases z) _
  | tuple xs =>
   refine ite2 (fun h=>?_) (fun h=>?_)
   ·have h:¬ (xs.length:Int) = 2:=by simpa using h
    exact q0 (fun ⟨_,z,_⟩=>by cases z; exact h rfl) _
   ·have h:(xs.length:Int) = 2:=by simpa using h
    obtain ⟨a,c,rfl⟩:∃ a c,xs = [a,c]:=by
     rcases xs with _ | ⟨a,_ | ⟨b,_ | ⟨c,xs⟩⟩⟩
     ·simp at h
     ·simp at h
     ·exact ⟨a,b,rfl⟩
     ·simp at h; omega
    have hab:okD a = true /\ okD c = true:=by simpa [okD,okAll] using hd
    have h3:=hsd.l3
    refine ⟨one_le_init ss m,a,rfl,ss,a,by rw [take_init]; rfl,hab.1,by omega,fun o=>?_⟩
    cases hA:isBx ss a with
    | false =>
     exact q0 (fun ⟨_,z,_⟩=>by
       have z:a = bxD b:=by injection z with z; injection z
       rw [z,bx_isBx hb] at hA
       cases hA) _
    | true =>
     obtain ⟨e,rfl⟩:=isBx_ints hA
     have nb:=nice_bx b
     have ne:=nice_bx e
     refine ⟨_,rfl,ne.p,nb.p,ne.sh (by decide),nb.sh (by decide),mix_e2 _ _ _ _,?_⟩
     have es:same (bxD e) (bxD b) = (decide (e.1 = b.1) && decide (e.2 = b.2)):=same_e2 _ _ _ _
     refine ite2 (fun h=>?_) (fun h=>?_)
     ·have h:same (bxD e) (bxD b) = true:=h
      rw [es,Bool.and_eq_true,decide_eq_true_eq,decide_eq_true_eq] at h
      have eb:e = b:=Prod.ext h.1 h.2
      subst eb
      refine ⟨c,rfl,_,at_last ss m,c,m,rfl,hab.2,by omega,fun o=>?_⟩
      cases hC:areW m c with
      | false =>
       exact q0 (fun ⟨bs,z,zl⟩=>by
         have z:c = tupD bs:=by injection z with z; injection z with _ z; injection z
         have:=areW_ints bs
         rw [<- z,show bs.length = m by omega,hC] at this
         cases this) _
      | true =>
       obtain ⟨bs,rfl,hl⟩:=areW_of hC
       have q1:∀ o,Qd (.fz (.bool true)) o:=fun o=>by
        have:=q o
        rw [isB_t ⟨bs,rfl,by omega⟩] at this
        exact this
       exact q1 _
     ·have h:¬ same (bxD e) (bxD b) = true:=h
      exact q0 (fun ⟨_,z,_⟩=>by
        have z:bxD e = bxD b:=by injection z with z; injection z
        rw [z,same_self] at h
        exact h rfl) _
noncomputable def cAB:Con:=fun args Q=>∃ (r bs:List Int) (n:Int),args = [.fz (.list (r.map PyData.int)),.fz (tupD bs),.fz (.int n)] /\ ∀ o,Q (.fz (.bool (areB n 0 (r.zip bs)))) o
theorem scAB:FnScope ["sums","bests","number","ahead","total","best"] ["sums","bests","number"] (defScope (top 24)):=⟨rfl,rfl,rfl,by decide +kernel,rfl,by decide +kernel,by decide +kernel⟩
theorem ok_ab {f:Addr} {fd:FuncData} (F:Fun K "are_bests" "are_bests" (top 24) f fd) (T:Txt mg):FnOk P w K mg base CX0 1 f fd ["sums","bests","number"] (conSp K cAB):=by
 have S:=scAB
 refine wfn F S (fun cdv A outer s H E hr=>(s_cons (s_set (i:=3) S.nd rfl (Or.inl rfl) w_int)
     (s_cons (s_for [4,5] PassesOwn.never rfl (i_zip2 rfl T.zip_ (wa_cons (wn 0) (wa_cons (wn 1) wa_nil))) (g_tup rfl rfl (gs_cons (g_name (i:=4) S.nd rfl (Or.inl rfl)) (gs_cons (g_name (i:=5) S.nd rfl (Or.inl rfl)) gs_nil))) (s_cons (s_if (t_w (t_or (t_cmp ok_gt op_gt (wn 5) (wn 2)) (t_or1 (t_cmp ok_lt op_lt (wn 5) (wx (w_bin ok_add op_addD (wn 4) (wx (w_callB ok_2I (call_max2 rfl) T.max_ boot_max (wa_cons (wn 3) (wa_cons (wx w_int) wa_nil)))))))))) (s_one (s_ret w_bl)) s_nil)
     (s_one (s_move (i:=3) S.nd rfl (Or.inl rfl) (wn 5)))))
     (s_one (s_ret w_bl))))) ?_ ?_
 ·rintro args Qd ⟨r,bs,n,rfl,_⟩; rfl
 ·rintro args Qd ⟨r,bs,n,rfl,q⟩
  refine ⟨noOw_of rfl,?_⟩
  have hz:=zipD_ints r bs
  show dLoopC _ _ _ _ (zipD (r.map PyData.int) (bs.map PyData.int)) _
  rw [hz]
  refine loopC (fun rest ρ=>∃ (a:Int) (rs:List (Int × Int)),rest = rs.map (fun p=>PyData.tuple [.int p.1,.int p.2]) /\ ρ = [some (.fz (.list (r.map PyData.int))),some (.fz (tupD bs)),some (.fz (.int n)),some (.fz (.int a)),none,none] /\ areB n a rs = areB n 0 (r.zip bs)) ?_ ?_ ⟨0,_,rfl,rfl,rfl⟩
  ·rintro d ds ρ ⟨a,rs,er,rfl,he⟩ N hN
   cases rs with
   | nil=>cases er
   | cons x rs =>
    cases er
    refine ⟨rfl,?_⟩
    refine ite2 (fun h=>?_) (fun h=>?_)
    ·have h:n < x.2:=of_decide_eq_true h
     rw [<- he,areB,if_pos (.inl h)] at q
     exact q _
    ·have h:¬ n < x.2:=fun z=>h (decide_eq_true z)
     refine ite2 (fun h2=>?_) (fun h2=>?_)
     ·have h2:x.2 < x.1 + (if a < 0 then 0 else a):=of_decide_eq_true h2
      rw [<- he,areB,if_pos (.inr (by omega))] at q
      exact q _
     ·have h2:¬ x.2 < x.1 + (if a < 0 then 0 else a):=fun z=>h2 (decide_eq_true z)
      refine hN _ ⟨x.2,rs,rfl,rfl,?_⟩
      rw [<- he,areB,if_neg (by omega)]
  ·rintro ρ ⟨a,rs,er,rfl,he⟩
   cases rs with
   | nil =>
    rw [areB] at he
    rw [<- he] at q
    exact q _
   | cons _ _=>cases er
structure CalsSA (P:Program) (w:World) (K:PySem.W.Frag) (mg:Str -> Option Value) (base:Heap):Prop where
 sum_by_running:Cal P w K mg base 3 "sum_by_running" ["sides","table","box"] (conSp K cSbr)
noncomputable def rowB (ss cl:List Int) (z:Int) (b:List Int × List Int):List Int:=(rng z).map fun t=>bsum ((plc (ss ++ [z])).zip cl) (b.1 ++ [t]) (b.2 ++ [t])
noncomputable def fAl (ss cl:List Int) (z:Int) (b:List Int × List Int):PyData -> PyData
 | .int t=>.int (bsum ((plc (ss ++ [z])).zip cl) (b.1 ++ [t]) (b.2 ++ [t]))
 | _=>.none
noncomputable def cSA:Con:=fun args Q=>∃ (ss cl:List Int) (z:Int) (b:List Int × List Int),args = [.fz (tupD (ss ++ [z])),.fz (.list ((ruL (ss ++ [z]) cl).map PyData.int)),.fz (bxD b)] /\ Sd (ss ++ [z]) /\ cl.length = (plc (ss ++ [z])).length /\ Bx b.1 b.2 ss /\ ∀ o,Q (.ow (.list ((rowB ss cl z b).map PyData.int))) o
theorem scSA:FnScope ["sides","running","base","low","high"] ["sides","running","base"] (defScope (top 20)):=⟨rfl,rfl,rfl,by decide +kernel,rfl,by decide +kernel,by decide +kernel⟩
theorem ok_sa {f:Addr} {fd:FuncData} (F:Fun K "sums_along" "sums_along" (top 20) f fd) (T:Txt mg) (C:CalsSA P w K mg base):FnOk P w K mg base CX0 4 f fd ["sides","running","base"] (conSp K cSA):=by
 have S:=scSA
 refine wfn F S (fun cdv A outer s H E hr=>(s_cons (s_set (i:=3) S.nd rfl (Or.inr rfl) (w_ix rfl (wn 2) (wx w_int)))
     (s_cons (s_set (i:=4) S.nd rfl (Or.inr rfl) (w_ix rfl (wn 2) (wx w_int)))
     (s_one (s_ret (w_comp rfl (own:=["last"]) (fr:=[0,1,3,4]) (by kernel_rfl) (i_rng1 T.range_ (wa_cons (wx (w_ix rfl (wn 0) (wx (w_neg (wx w_int))))) wa_nil)) (fun _ _ _ _=>(g_name (i:=0) (by decide +kernel:List.Nodup (["last","sides","running","low","high"]:List Str)) rfl (Or.inl rfl))) (fun _ _ _ _=>if0) (fun _ _ _ _=>(w_fn C.sum_by_running (hr.mono (by first | decide | omega)) (wa_cons (wn 1) (wa_cons (wn 2) (wa_cons (wx (w_tup (wa_cons (wx (w_bin ok_add op_addD (wn 3) (wx (w_tup (wa_cons (wx (wv 0)) wa_nil))))) (wa_cons (wx (w_bin ok_add op_addD (wn 4) (wx (w_tup (wa_cons (wx (wv 0)) wa_nil))))) wa_nil)))) wa_nil))))))))))) ?_ ?_
 ·rintro args Qd ⟨ss,cl,z,b,rfl,_⟩; rfl
 ·rintro args Qd ⟨ss,cl,z,b,rfl,hsd,hc,hb,q⟩
  have h3:=hsd.l3
  have hm:=hsd.m
  have hz1:=hsd.p z (by simp)
  have hz2:=le_prodI hsd.p z (by simp)
  have hbl:=bx_len hb
  have hpl:=plc_len hsd.p
  rw [List.length_append,List.length_singleton] at h3
  refine ⟨noOw_of rfl,?_⟩
  refine ⟨_,rfl,_,rfl,_,at_last ss z,by omega,by omega,by rw [rangeD,List.length_map,List.length_range]; exact le_size (by omega),?_⟩
  rw [rangeD_rng]
  refine mapC (fAl ss cl z b) ?_ ?_
  ·intro d hd N hN
   obtain ⟨t,ht,rfl⟩:=List.mem_map.mp hd
   have ht:=mem_rng ht
   have hbx:Bx (b.1 ++ [t]) (b.2 ++ [t]) (ss ++ [z]):=bx_snoc hb ⟨ht.1,Int.le_refl _,ht.2⟩
   have hN:N (.int (bsum ((plc (ss ++ [z])).zip cl) (b.1 ++ [t]) (b.2 ++ [t]))) _:=hN
   rw [<- sbr_bsum hsd.p hc hbx] at hN
   have hrl:(ruL (ss ++ [z]) cl).length = (plc (ss ++ [z])).length:=by simp [ruL,plc_lenN hsd.p]
   have hl1:(b.1 ++ [t]).length = ss.length + 1:=by rw [List.length_append,List.length_singleton]; omega
   have hl2:(b.2 ++ [t]).length = ss.length + 1:=by rw [List.length_append,List.length_singleton]; omega
   refine ⟨by show (b.1.map PyData.int).length + 1 <= sizeLine; rw [List.length_map]; exact le_size (by omega),by show (b.2.map PyData.int).length + 1 <= sizeLine; rw [List.length_map]; exact le_size (by omega),?_⟩
   refine ⟨ss ++ [z],ruL (ss ++ [z]) cl,b.1 ++ [t],b.2 ++ [t],_,?_,.inr rfl,by omega,by omega,by rw [List.length_append,List.length_singleton]; omega,fun s hs=>?_,fun cs hcs=>?_,fun o=>hN⟩
   ·show _ = [Sl.fz _,.fz _,.fz (.tuple [.tuple ((b.1 ++ [t]).map PyData.int),.tuple ((b.2 ++ [t]).map PyData.int)])]
    rw [List.map_append (l₁:=b.1),List.map_append (l₁:=b.2)]
    rfl
   ·have h1:=hsd.p s hs
    have h2:=le_prodI hsd.p s hs
    omega
   ·have h1:=idx_nn (crn_wi2 hbx (each_mem0 hcs))
    exact at_some h1.1 (by omega)
  ·have e3:((rng z).map PyData.int).map (fAl ss cl z b) = (rowB ss cl z b).map PyData.int:=by
    rw [rowB,List.map_map,List.map_map]; rfl
   rw [e3]
   exact q _
structure CalsHB (P:Program) (w:World) (K:PySem.W.Frag) (mg:Str -> Option Value) (base:Heap):Prop where
 all_boxes:Cal P w K mg base 4 "all_boxes" ["sides"] (conSp K cAllB)
 is_entry:Cal P w K mg base 5 "is_entry" ["sides","base","thing"] (conSp K cIE)
 running_of:Cal P w K mg base 2 "running_of" ["field"] (conSp K cRunOf)
 sums_along:Cal P w K mg base 4 "sums_along" ["sides","running","base"] (conSp K cSA)
 are_bests:Cal P w K mg base 1 "are_bests" ["sums","bests","number"] (conSp K cAB)
noncomputable def hold (ss cl:List Int) (z n:Int) (xs:List ((List Int × List Int) × List Int)):Bool:=xs.all fun x=>areB n 0 ((rowB ss cl z x.1).zip x.2)
structure Fld (ss cl:List Int) (z:Int):Prop where
 sd:Sd (ss ++ [z])
 s0:S0 ss
 c:cl.length = (plc (ss ++ [z])).length
theorem hsd_m {ss cl:List Int} {z:Int} (h:Fld ss cl z):1 <= z /\ z <= 120:=by
 have h1:=h.sd.p z (by simp)
 have h2:=le_prodI h.sd.p z (by simp)
 have:=h.sd.m
 omega
theorem okRes_ints (l:List Int):okRes (.ow (.list (l.map PyData.int))) = true:=by
 show noMutAll (l.map PyData.int) = true
 induction l with
 | nil=>rfl
 | cons a l ih=>exact ih
noncomputable def fHb (ss cl:List Int) (z n:Int):PyData -> PyData
 | .tuple [.tuple [.tuple lo,.tuple hi],.tuple bs]=>.bool (areB n 0 ((rowB ss cl z (lo.map unI,hi.map unI)).zip (bs.map unI)))
 | _=>.none
theorem fHb_en (ss cl:List Int) (z n:Int) (x:(List Int × List Int) × List Int):fHb ss cl z n (enD x) = .bool (areB n 0 ((rowB ss cl z x.1).zip x.2)):=by
 show PyData.bool (areB n 0 ((rowB ss cl z ((x.1.1.map PyData.int).map unI,(x.1.2.map PyData.int).map unI)).zip ((x.2.map PyData.int).map unI))) = _
 rw [unI_int,unI_int,unI_int]
theorem zip_en:∀ (xs:List ((List Int × List Int) × List Int)),zipD ((xs.map (·.1)).map bxD) (xs.map enD) = xs.map fun x=>PyData.tuple [bxD x.1,enD x]
 | []=>rfl
 | x :: xs=>by
  have:=zip_en xs
  unfold zipD at this ⊢
  simp only [List.map_cons,List.zip_cons_cons,this]
theorem bxs_len {ss:List Int} (h:S0 ss):(bxs ss).length <= 14400:=part_le h (plc ss) (fun x h=>h) (plc_len2 h)
theorem en_inj:∀ {xs ys:List ((List Int × List Int) × List Int)},xs.map enD = ys.map enD -> xs = ys
 | [],[],_=>rfl
 | [],_ :: _,h=>by cases h
 | _ :: _,[],h=>by cases h
 | x :: xs,y :: ys,h=>by
  simp only [List.map_cons,List.cons.injEq] at h
  have ih:=en_inj h.2
  have h1:enD x = enD y:=h.1
  have e:∀ {a b:List Int},tupD a = tupD b -> a = b:=fun {a b} z=>by
   have z:a.map PyData.int = b.map PyData.int:=by injection z
   have:=congrArg (List.map unI) z
   rw [unI_int,unI_int] at this
   exact this
  obtain ⟨⟨a,b⟩,c⟩:=x
  obtain ⟨⟨a',b'⟩,c'⟩:=y
  injection h1 with h1
  injection h1 with z1 z2
  injection z2 with z2 _
  injection z1 with z1
  injection z1 with z1 z3
  injection z3 with z3 _
  have z1:a = a':=e z1
  have z3:b = b':=e z3
  have z2:c = c':=e z2
  rw [z1,z3,z2,ih]
noncomputable def Rgt (ss cl:List Int) (z n:Int) (d:PyData):Prop:=∃ xs:List ((List Int × List Int) × List Int),d = .list (xs.map enD) /\ xs.map (·.1) = bxs ss /\ (∀ x ∈ xs,(x.2.length:Int) = z) /\ hold ss cl z n xs = true
noncomputable def fIE (z:Int):PyData -> PyData
 | .tuple [.tuple [.tuple lo,.tuple hi],d]=>.bool (isB (Ent z (lo.map unI,hi.map unI) d))
 | _=>.none
theorem fIE_en (z:Int) (b:List Int × List Int) (d:PyData):fIE z (.tuple [bxD b,d]) = .bool (isB (Ent z b d)):=by
 show PyData.bool (isB (Ent z ((b.1.map PyData.int).map unI,(b.2.map PyData.int).map unI) d)) = _
 rw [unI_int,unI_int]
theorem ents_of {z:Int}:∀ {bs:List (List Int × List Int)} {ds:List PyData},ds.length = bs.length -> (∀ p ∈ bs.zip ds,Ent z p.1 p.2) -> ∃ xs:List ((List Int × List Int) × List Int),ds = xs.map enD /\ xs.map (·.1) = bs /\ ∀ x ∈ xs,(x.2.length:Int) = z
 | [],[],_,_=>⟨[],rfl,rfl,fun x hx=>(by cases hx)⟩
 | [],_ :: _,h,_=>by cases h
 | _ :: _,[],h,_=>by cases h
 | b :: bs,d :: ds,h,k=>by
  obtain ⟨l,e,hl⟩:=k (b,d) (by simp)
  obtain ⟨xs,e1,e2,e3⟩:=ents_of (bs:=bs) (ds:=ds) (by simpa using h) fun p hp=>k p (by simp [hp])
  have e:d = enD (b,l):=e
  refine ⟨(b,l) :: xs,by rw [e1,e]; rfl,by rw [List.map_cons,e2],fun x hx=>?_⟩
  rcases List.mem_cons.mp hx with rfl | hx
  ·exact hl
  ·exact e3 x hx
theorem ents_all {z:Int}:∀ {xs:List ((List Int × List Int) × List Int)},(∀ x ∈ xs,(x.2.length:Int) = z) -> ∀ p ∈ (xs.map (·.1)).zip (xs.map enD),Ent z p.1 p.2
 | [],_,p,hp=>by cases hp
 | x :: xs,h,p,hp=>by
  rcases List.mem_cons.mp hp with rfl | hp
  ·exact ⟨x.2,rfl,h x List.mem_cons_self⟩
  ·exact ents_all (fun y hy=>h y (List.mem_cons_of_mem _ hy)) p hp
noncomputable def cHB:Con:=fun args Q=>∃ (ss cl:List Int) (z n:Int) (d:PyData),args = [.fz (.tuple [tupD (ss ++ [z]),tupD cl]),.fz (.int n),.fz d] /\ Fld ss cl z /\ (okD d = true \/ d = opqD) /\ ∀ o,Q (.fz (.bool (isB (Rgt ss cl z n d)))) o
theorem scHB:FnScope ["field","number","paper","sides","bases","running"] ["field","number","paper"] (defScope (top 22)):=⟨rfl,rfl,rfl,by decide +kernel,rfl,by decide +kernel,by decide +kernel⟩
theorem ok_hb {f:Addr} {fd:FuncData} (F:Fun K "holds_bests" "holds_bests" (top 22) f fd) (T:Txt mg) (C:CalsHB P w K mg base):FnOk P w K mg base CX0 6 f fd ["field","number","paper"] (conSp K cHB):=by
 have S:=scHB
 refine wfn F S (fun cdv A outer s H E hr=>(s_cons (s_set (i:=3) S.nd rfl (Or.inr rfl) (w_ix rfl (wn 0) (wx w_int)))
     (s_cons (s_set (i:=4) S.nd rfl (Or.inl rfl) (w_fn C.all_boxes (hr.mono (by first | decide | omega)) (wa_cons (wx (w_slHi rfl (wn 3) (wx (w_neg (wx w_int))))) wa_nil)))
     (s_cons (s_if (t_w (t_or (t_not (t_val (w_isiO .lst rfl T.isinstance_ T.list_ boot_list (wn 2)))) (t_or1 (t_cmp ok_ne (op_neE (K:=K) rfl hr.units) (wx (w_callB ok_len (call_lenK (K:=K) rfl) T.len_ PySem.boot_len (wa_cons (wn 2) wa_nil))) (wx (w_callB ok_len (call_lenK (K:=K) rfl) T.len_ PySem.boot_len (wa_cons (wn 4) wa_nil))))))) (s_one (s_ret w_bl)) s_nil)
     (s_cons (s_if (t_not (t_val (w_callB ok_all (call_allK (K:=K) rfl rfl) T.all_ boot_all (wa_cons (wx (w_comp rfl (own:=["base","entry"]) (fr:=[3]) (by kernel_rfl) (i_zip2 rfl T.zip_ (wa_cons (wx (wv 4)) (wa_cons (wx (wv 2)) wa_nil))) (fun _ _ _ _=>(g_tup rfl rfl (gs_cons (g_name (i:=0) (by decide +kernel:List.Nodup (["base","entry","sides"]:List Str)) rfl (Or.inl rfl)) (gs_cons (g_name (i:=1) (by decide +kernel:List.Nodup (["base","entry","sides"]:List Str)) rfl (Or.inl rfl)) gs_nil)))) (fun _ _ _ _=>if0) (fun _ _ _ _=>(w_fn C.is_entry (hr.mono (by first | decide | omega)) (wa_cons (wn 2) (wa_cons (wn 0) (wa_cons (wn 1) wa_nil))))))) wa_nil)))) (s_one (s_ret w_bl)) s_nil)
     (s_cons (s_set (i:=5) S.nd rfl (Or.inr rfl) (w_fn C.running_of (hr.mono (by first | decide | omega)) (wa_cons (wn 0) wa_nil)))
     (s_one (s_ret (w_callB ok_all (call_allK (K:=K) rfl rfl) T.all_ boot_all (wa_cons (wx (w_comp rfl (own:=["base","bests"]) (fr:=[3,5,1]) (by kernel_rfl) (i_seq rfl (wv 2)) (fun _ _ _ _=>(g_tup rfl rfl (gs_cons (g_name (i:=0) (by decide +kernel:List.Nodup (["base","bests","sides","running","number"]:List Str)) rfl (Or.inl rfl)) (gs_cons (g_name (i:=1) (by decide +kernel:List.Nodup (["base","bests","sides","running","number"]:List Str)) rfl (Or.inl rfl)) gs_nil)))) (fun _ _ _ _=>if0) (fun _ _ _ _=>(w_fn C.are_bests (hr.mono (by first | decide | omega)) (wa_cons (wx (w_fnL C.sums_along (hr.mono (by first | decide | omega)) (wa_cons (wn 2) (wa_cons (wn 3) (wa_cons (wn 0) wa_nil))))) (wa_cons (wn 1) (wa_cons (wn 4) wa_nil))))))) wa_nil)))))))))) ?_ ?_
 ·rintro args Qd ⟨ss,cl,z,n,d,rfl,_⟩; rfl
 ·rintro args Qd ⟨ss,cl,z,n,d,rfl,hf,hd,q⟩
  refine ⟨noOw_of rfl,?_⟩
  have q0:¬ Rgt ss cl z n d -> ∀ o,Qd (.fz (.bool false)) o:=fun h o=>by
   have:=q o
   rw [isB_f h] at this
   exact this
  refine ⟨_,rfl,one_le_init ss z,ss,by rw [take_init]; rfl,hf.s0,fun o=>?_⟩
  rcases hd with hd | rfl
  rotate_left
  ·exact .inr ⟨rfl,q0 (fun ⟨_,z,_⟩=>by cases z) _⟩
  cases d with
  | dict es=>exact .inl ⟨hd,q0 (fun ⟨_,z,_⟩=>by cases z) _⟩
  | int i=>exact .inl (q0 (fun ⟨_,z,_⟩=>by cases z) _)
  | bool b=>exact .inl (q0 (fun ⟨_,z,_⟩=>by cases z) _)
  | none=>exact .inl (q0 (fun ⟨_,z,_⟩=>by cases z) _)
  | str x=>exact .inl (q0 (fun ⟨_,z,_⟩=>by cases z) _)
  | tuple xs=>exact .inl (q0 (fun ⟨_,z,_⟩=>by cases z) _)
  | list ds =>
   refine .inl ?_
   have hblen:=bxs_len hf.s0
   have hm:=hsd_m hf
   have hbm:((bxs ss).map bxD).length = (bxs ss).length:=List.length_map _
   refine ite2 (fun h=>?_) (fun h=>?_)
   ·have h:¬ (ds.length:Int) = (((bxs ss).map bxD).length:Int):=by simpa using h
    exact q0 (fun ⟨xs,z,hx,_⟩=>by
      injection z with z
      rw [z,hbm,<- hx,List.length_map,List.length_map] at h
      exact h rfl) _
   have h:(ds.length:Int) = (((bxs ss).map bxD).length:Int):=by simpa using h
   have hl:ds.length = (bxs ss).length:=by omega
   have hzp:zipD ((bxs ss).map bxD) ds = ((bxs ss).zip ds).map fun p=>PyData.tuple [bxD p.1,p.2]:=by
    unfold zipD
    rw [List.zip_map_left,List.map_map]
    rfl
   have hod:∀ d ∈ ds,okD d = true:=okAll_mem (by simpa [okD] using hd)
   refine ⟨by rw [hzp,List.length_map,List.length_zip]; exact Nat.le_trans (show _ <= 14400 by omega) (by decide),?_⟩
   rw [hzp]
   refine mapC (fIE z) ?_ ?_
   ·intro d hd N hN
    obtain ⟨⟨b,e⟩,hbe,rfl⟩:=List.mem_map.mp hd
    obtain ⟨m1,m2⟩:=List.of_mem_zip hbe
    rw [fIE_en] at hN
    exact ⟨rfl,ss,z,b,e,rfl,hf.s0,bxs_bx m1,by omega,by omega,hod e m2,fun o=>hN⟩
   have e1:(((bxs ss).zip ds).map fun p=>PyData.tuple [bxD p.1,p.2]).map (fIE z) = (((bxs ss).zip ds).map fun p=>isB (Ent z p.1 p.2)).map PyData.bool:=by
    rw [List.map_map,List.map_map]
    exact List.map_congr_left fun p _=>fIE_en z p.1 p.2
   refine ⟨_,e1,?_⟩
   cases hA:(((bxs ss).zip ds).map fun p=>isB (Ent z p.1 p.2)).all id with
   | false =>
    exact q0 (fun ⟨xs,ez,hx,hxl,_⟩=>by
      injection ez with ez
      have hall:(((bxs ss).zip ds).map fun p=>isB (Ent z p.1 p.2)).all id = true:=by
        rw [List.all_map,List.all_eq_true]
        intro p hp
        rw [<- hx,ez] at hp
        exact isB_t (ents_all hxl p hp)
      rw [hall] at hA
      cases hA) _
   | true =>
    rw [List.all_map,List.all_eq_true] at hA
    obtain ⟨xs,rfl,hx,hz⟩:=ents_of hl fun p hp=>of_isB (hA p hp)
    have hlen:xs.length <= 14400:=by rw [<- hx,List.length_map] at hblen; exact hblen
    refine ⟨ss ++ [z],cl,_,rfl,.inl rfl,hf.sd,hf.c,fun o=>?_⟩
    refine ⟨by rw [List.length_map]; exact Nat.le_trans hlen (by decide),mapC (fHb ss cl z n) ?_ ?_⟩
    ·intro d hd N hN
     obtain ⟨x,hxm,rfl⟩:=List.mem_map.mp hd
     have hb:Bx x.1.1 x.1.2 ss:=bxs_bx (by rw [<- hx]; exact List.mem_map.mpr ⟨x,hxm,rfl⟩)
     rw [fHb_en] at hN
     refine ⟨rfl,ss,cl,z,x.1,rfl,hf.sd,hf.c,hb,fun o=>⟨okRes_ints _,?_⟩⟩
     exact ⟨_,x.2,n,rfl,fun o=>hN⟩
    ·have e:(xs.map enD).map (fHb ss cl z n) = (xs.map fun x=>areB n 0 ((rowB ss cl z x.1).zip x.2)).map PyData.bool:=by
      rw [List.map_map,List.map_map]
      exact List.map_congr_left fun x _=>fHb_en ss cl z n x
     refine ⟨_,e,?_⟩
     have e2:((xs.map fun x=>areB n 0 ((rowB ss cl z x.1).zip x.2)).all id) = hold ss cl z n xs:=by
      rw [hold,List.all_map]; rfl
     rw [e2]
     have e3:isB (Rgt ss cl z n (.list (xs.map enD))) = hold ss cl z n xs:=by
      cases hh:hold ss cl z n xs with
      | true=>exact isB_t ⟨xs,rfl,hx,hz,hh⟩
      | false =>
       refine isB_f fun hr=>?_
       obtain ⟨ys,ez,_,_,hy⟩:=hr
       injection ez with ez
       have ey:=en_inj ez
       subst ey
       rw [hh] at hy
       cases hy
     rw [<- e3]
     exact q _
end
end R46
namespace R46
open PySem PySem.Spec L2 L3 PyProof.Rows
theorem cutS {t u:TDS} {E:DE} {ρ:Ev} (J:Ev -> Prop) (h1:∀ N:Ev -> Prop,(∀ ρ',J ρ' -> N ρ') -> t { nx:=N,rt:=E.rt,bk:=E.bk,ct:=E.ct } ρ) (h2:∀ ρ',J ρ' -> u E ρ'):dSeq t u E ρ:=h1 _ h2
theorem both {d:PyData} {Pr:Sl -> Prop} (h:Pr (.fz d)) (k:Pr (.fz d) -> Pr (.ow d)):∀ s,(s = .ow d \/ s = .fz d) -> Pr s
 | _,.inl rfl=>k h
 | _,.inr rfl=>h
theorem gn_any {i:Nat} {x:Option Sl} {d:PyData} {ρ:Ev} {Q:Ev -> Prop} (e:ρ[i]? = some x) (hx:x = none \/ ∃ d',x = some (.fz d')) (q:Q (ρ.set i (some (.fz d)))):dGN i d ρ Q:=by
 unfold dGN
 rw [e]
 rcases hx with rfl | ⟨d',rfl⟩
 ·exact q
 ·exact q
theorem lie_snoc:∀ {lo p hi:List Int} {x y z:Int},lo.length = p.length -> p.length = hi.length -> lie (lo ++ [x]) (p ++ [y]) (hi ++ [z]) = (lie lo p hi && (decide (x <= y) && decide (y <= z)))
 | [],[],[],x,y,z,_,_=>by simp [lie]
 | a :: lo,b :: p,c :: hi,x,y,z,h1,h2=>by
  have:=lie_snoc (lo:=lo) (p:=p) (hi:=hi) (x:=x) (y:=y) (z:=z) (by simpa using h1) (by simpa using h2)
  simp only [List.cons_append,lie,this,Bool.and_assoc]
 | [],[],_ :: _,_,_,_,_,h=>by simp at h
 | [],_ :: _,_,_,_,_,h,_=>by simp at h
 | _ :: _,[],_,_,_,_,h,_=>by simp at h
 | _ :: _,_ :: _,[],_,_,_,_,h=>by simp at h
theorem bsum_snoc (dn:List (List Int × Int)) (x:List Int × Int) (lo hi:List Int):bsum (dn ++ [x]) lo hi = bsum dn lo hi + (if lie lo x.1 hi = true then x.2 else 0):=by
 rw [bsum_if,bsum_if,List.map_append,List.sum_append]
 simp
noncomputable def rowD (dn:List (List Int × Int)) (z:Int) (b:List Int × List Int):List Int:=(rng z).map fun t=>bsum dn (b.1 ++ [t]) (b.2 ++ [t])
theorem rowD_nil (z:Int) (b:List Int × List Int):rowD [] z b = (rng z).map fun _=>(0:Int):=rfl
theorem rng_get {z:Int} {i:Nat} (h:(i:Int) < z):(rng z)[i]? = some (i:Int):=by
 unfold rng
 rw [List.getElem?_map,List.getElem?_range (by omega)]
 rfl
theorem rowD_len (dn:List (List Int × Int)) (z:Int) (b:List Int × List Int):(rowD dn z b).length = z.toNat:=by simp [rowD,rng_len]
theorem rowD_at (dn:List (List Int × Int)) {z:Int} (b:List Int × List Int) {i:Nat} (h:(i:Int) < z):(rowD dn z b).getD i 0 = bsum dn (b.1 ++ [(i:Int)]) (b.2 ++ [(i:Int)]):=by
 rw [List.getD_eq_getElem?_getD,rowD,List.getElem?_map,rng_get h]
 rfl
theorem row_in {dn:List (List Int × Int)} {ss p:List Int} {y c z:Int} {b:List Int × List Int} (hb:Bx b.1 b.2 ss) (hp:p.length = ss.length) (hy:0 <= y) (hyz:y < z) (h:lie b.1 p b.2 = true) :
  rowD (dn ++ [(p ++ [y],c)]) z b = (rowD dn z b).set y.toNat ((rowD dn z b).getD y.toNat 0 + c):=by
 have hbl:=bx_len hb
 apply List.ext_getElem?
 intro i
 by_cases hi:(i:Int) < z
 ·rw [rowD,List.getElem?_map,rng_get hi,List.getElem?_set]
  rw [Option.map_some,bsum_snoc,lie_snoc (by omega) (by omega),h,Bool.true_and]
  by_cases e:y.toNat = i
  ·have e1:(decide ((i:Int) <= y) && decide (y <= (i:Int))) = true:=by
    rw [decide_eq_true (show (i:Int) <= y by omega),decide_eq_true (show y <= (i:Int) by omega)]; rfl
   rw [if_pos e,e1,if_pos rfl,if_pos (by rw [rowD_len]; omega),e,rowD_at dn b hi]
  ·have e1:(decide ((i:Int) <= y) && decide (y <= (i:Int))) = false:=by
    by_cases h2:(i:Int) <= y
    ·rw [decide_eq_true h2,decide_eq_false (show ¬ y <= (i:Int) by omega)]; rfl
    ·rw [decide_eq_false h2]; rfl
   rw [if_neg e,e1,if_neg (by simp),Int.add_zero,rowD,List.getElem?_map,rng_get hi]
   rfl
 ·rw [List.getElem?_eq_none_iff.mpr (by rw [rowD_len]; omega),List.getElem?_eq_none_iff.mpr (by rw [List.length_set,rowD_len]; omega)]
theorem row_out {dn:List (List Int × Int)} {ss p:List Int} {y c z:Int} {b:List Int × List Int} (hb:Bx b.1 b.2 ss) (hp:p.length = ss.length) (h:¬ lie b.1 p b.2 = true) :
  rowD (dn ++ [(p ++ [y],c)]) z b = rowD dn z b:=by
 have hbl:=bx_len hb
 refine List.map_congr_left fun t _=>?_
 rw [bsum_snoc,lie_snoc (by omega) (by omega),Bool.eq_false_iff.mpr h,Bool.false_and,if_neg (by simp),Int.add_zero]
theorem wi_snoc:∀ {q ss:List Int} {z:Int},Wi q (ss ++ [z]) -> ∃ p y,q = p ++ [y] /\ Wi p ss /\ 0 <= y /\ y < z
 | [],[],_,h=>h.elim
 | [y],[],z,h=>⟨[],y,rfl,trivial,h.1.1,h.1.2⟩
 | _ :: _ :: _,[],_,h=>h.2.elim
 | [],_ :: _,_,h=>h.elim
 | x :: q,s :: ss,z,h=>by
  obtain ⟨p,y,rfl,h1,h2,h3⟩:=wi_snoc h.2
  exact ⟨x :: p,y,rfl,⟨h.1,h1⟩,h2,h3⟩
noncomputable abbrev lnD (ss cl:List Int) (z:Int) (b:List Int × List Int):PyData:=.tuple [bxD b,.list ((rowB ss cl z b).map PyData.int)]
section
variable {P:Program} {w:World} {K:PySem.W.Frag} {mg:Str -> Option Value} {base:Heap}
structure CalsLN (P:Program) (w:World) (K:PySem.W.Frag) (mg:Str -> Option Value) (base:Heap):Prop where
 law_places:Cal P w K mg base 1 "_law_places" ["_law_sides_here"] (conSp K cPlaces)
 law_boxes:Cal P w K mg base 2 "_law_boxes" ["_law_sides_here"] (conSp K cBoxes)
 law_lies:Cal P w K mg base 1 "_law_lies" ["_law_box_here","_law_place"] (conSp K cLies)
noncomputable def cLN:Con:=fun args Q=>∃ (ss cl:List Int) (z:Int),args = [.fz (tupD (ss ++ [z])),.fz (tupD cl)] /\ Fld ss cl z /\ ∀ o,Q (.ow (.list ((bxs ss).map (lnD ss cl z)))) o
theorem scLN:FnScope ["_law_sides_here","_law_cells_here","_law_found","_law_places_here","_law_box_here","_law_row","_law_place","_law_cell"] ["_law_sides_here","_law_cells_here"] (defScope (top 38)):=⟨rfl,rfl,rfl,by decide +kernel,rfl,by decide +kernel,by decide +kernel⟩
theorem ok_ln {f:Addr} {fd:FuncData} (F:Fun K "_law_lines" "_law_lines" (top 38) f fd) (T:Txt mg) (C:CalsLN P w K mg base):FnOk P w K mg base CX0 3 f fd ["_law_sides_here","_law_cells_here"] (conSp K cLN):=by
 have S:=scLN
 refine wfn F S (fun cdv A outer s H E hr=>(s_cons (s_set (i:=2) S.nd rfl (Or.inl rfl) (w_lst wa_nil))
     (s_cons (s_set (i:=3) S.nd rfl (Or.inl rfl) (w_fn C.law_places (hr.mono (by first | decide | omega)) (wa_cons (wn 0) wa_nil)))
     (s_cons (s_for [4,5,6,7] PassesOwn.never rfl (i_seq rfl (w_fn C.law_boxes (hr.mono (by first | decide | omega)) (wa_cons (wx (w_slHi rfl (wn 0) (wx (w_neg (wx w_int))))) wa_nil))) (g_name (i:=4) S.nd rfl (Or.inl rfl)) (s_cons (s_set (i:=5) S.nd rfl (Or.inl rfl) (w_bin ok_mul op_mulD (wx (w_lst (wa_cons (wx w_int) wa_nil))) (wx (w_ix rfl (wn 0) (wx (w_neg (wx w_int)))))))
     (s_cons (s_for [6,7] PassesOwn.never rfl (i_zip2 rfl T.zip_ (wa_cons (wx (wv 3)) (wa_cons (wx (wv 1)) wa_nil))) (g_tup rfl rfl (gs_cons (g_name (i:=6) S.nd rfl (Or.inl rfl)) (gs_cons (g_name (i:=7) S.nd rfl (Or.inl rfl)) gs_nil))) (s_one (s_if (t_val (w_fn C.law_lies (hr.mono (by first | decide | omega)) (wa_cons (wn 4) (wa_cons (wx (w_slHi rfl (wn 6) (wx (w_neg (wx w_int))))) wa_nil)))) (s_one (s_ix (w_bin ok_add op_addD (wx (w_ix rfl (wn 5) (wx (w_ix rfl (wn 6) (wx (w_neg (wx w_int))))))) (wn 7)) (wn 5) (wx (w_ix rfl (wn 6) (wx (w_neg (wx w_int))))))) s_nil)))
     (s_one (s_expr (w_m ok_append rfl PySem.F.slot_list_append PySem.F.type_list_append mt_append (wn 2) (wa_cons (wx (w_tup (wa_cons (wx (wv 4)) (wa_cons (wx (wv 5)) wa_nil)))) wa_nil)))))))
     (s_one (s_retV (wn 2))))))) ?_ ?_
 ·rintro args Qd ⟨ss,cl,z,rfl,_⟩; rfl
 ·rintro args Qd ⟨ss,cl,z,rfl,hf,q⟩
  have h3:=hf.sd.l3
  have hm:=hf.sd.m
  have hz:=hsd_m hf
  refine ⟨noOw_of rfl,?_⟩
  refine ⟨ss ++ [z],.inl rfl,hf.sd.p,by omega,h3,fun o=>?_⟩
  refine ⟨one_le_init ss z,ss,by rw [take_init]; rfl,hf.s0,fun o=>?_⟩
  rw [lbx_bxs]
  have htot:=bxs_len hf.s0
  have hzp:=zip_oc (plc (ss ++ [z])) cl
  refine loopC (fun rest ρ=>∃ (dn rs:List (List Int × List Int)) (px:Sl),dn ++ rs = bxs ss /\ rest = rs.map bxD /\ (px = .ow (.list ((plc (ss ++ [z])).map tupD)) \/ px = .fz (.list ((plc (ss ++ [z])).map tupD))) /\
    ρ = [some (.fz (tupD (ss ++ [z]))),some (.fz (tupD cl)),some (.ow (.list (dn.map (lnD ss cl z)))),some px,none,none,none,none]) ?_ ?_ ⟨[],bxs ss,_,rfl,rfl,.inl rfl,rfl⟩
  ·rintro d ds ρ ⟨dn,rs,px,hd,er,hpx,rfl⟩ N hN
   cases rs with
   | nil=>cases er
   | cons b rs =>
    cases er
    have hb:Bx b.1 b.2 ss:=bxs_bx (by rw [<- hd]; simp)
    have hbl:=bx_len hb
    revert px
    refine both ?_ (fun h=>h)
    refine ⟨_,at_last ss z,?_⟩
    have e0:(List.replicate z.toNat [PyData.int 0]).flatten = (rowD [] z b).map PyData.int:=by
     rw [rowD_nil,List.map_map,List.flatten_replicate_singleton]
     refine (List.eq_replicate_iff.mpr ⟨by rw [List.length_map,rng_len],fun d hd=>?_⟩).symm
     obtain ⟨_,_,rfl⟩:=List.mem_map.mp hd
     rfl
    refine ⟨by omega,by omega,by show 1 * z.toNat <= sizeLine; exact le_size (by omega),?_⟩
    refine (?_:dLoopC _ _ _ _ (zipD ((plc (ss ++ [z])).map tupD) (cl.map PyData.int)) [some (.fz (tupD (ss ++ [z]))),some (.fz (tupD cl)),some (.ow (.list (dn.map (lnD ss cl z)))),some (.fz (.list ((plc (ss ++ [z])).map tupD))),some (.fz (bxD b)),some (.ow (.list (List.replicate z.toNat [PyData.int 0]).flatten)),none,none])
    rw [hzp,e0]
    refine loopC (fun rest ρ=>∃ (dm rm:List (List Int × Int)),dm ++ rm = (plc (ss ++ [z])).zip cl /\ rest = rm.map ocD /\
      ρ = [some (.fz (tupD (ss ++ [z]))),some (.fz (tupD cl)),some (.ow (.list (dn.map (lnD ss cl z)))),some (.fz (.list ((plc (ss ++ [z])).map tupD))),some (.fz (bxD b)),some (.ow (.list ((rowD dm z b).map PyData.int))),none,none]) ?_ ?_ ⟨[],_,rfl,rfl,rfl⟩
    ·rintro d ds ρ ⟨dm,rm,hdm,er,rfl⟩ M hM
     cases rm with
     | nil=>cases er
     | cons x rm =>
      cases er
      have hx:x ∈ (plc (ss ++ [z])).zip cl:=by rw [<- hdm]; simp
      obtain ⟨p,y,hpy,hwp,y0,y1⟩:=wi_snoc (plc_wi (List.of_mem_zip (a:=x.1) (b:=x.2) hx).1)
      obtain ⟨q1,c⟩:=x
      have hpy:q1 = p ++ [y]:=hpy
      subst hpy
      have hpl:=wi_len hwp
      refine ⟨rfl,one_le_init p y,b.1,b.2,p,by rw [take_init]; rfl,by have:=hf.s0.l3; omega,fun o=>?_⟩
      refine ite2 (fun h=>?_) (fun h=>?_)
      ·obtain ⟨k,rfl⟩:=Int.eq_ofNat_of_zero_le y0
       have hk:k < (rowD dm z b).length:=by rw [rowD_len]; omega
       refine ⟨_,at_last p _,_,at_ints hk,_,at_last p _,k,by rw [List.length_map]; exact ix_nat hk,?_⟩
       refine hM _ ⟨dm ++ [(p ++ [(k:Int)],c)],rm,by rw [<- hdm]; simp,rfl,?_⟩
       have e:=row_in (dn:=dm) (c:=c) hb hpl y0 y1 h
       have e2:(rowD (dm ++ [(p ++ [(k:Int)],c)]) z b).map PyData.int = ((rowD dm z b).map PyData.int).set k (.int ((rowD dm z b).getD k 0 + c)):=by
        rw [e,List.map_set]; rfl
       rw [e2]
       rfl
      ·refine hM _ ⟨dm ++ [(p ++ [y],c)],rm,by rw [<- hdm]; simp,rfl,?_⟩
       rw [row_out (z:=z) hb hpl h]
       rfl
    ·rintro ρ ⟨dm,rm,hdm,er,rfl⟩
     cases rm with
     | cons _ _=>cases er
     | nil =>
      rw [List.append_nil] at hdm
      subst hdm
      have hdl:dn.length <= 14400:=by
       have:=congrArg List.length hd
       rw [List.length_append] at this
       omega
      refine ⟨by rw [List.length_map]; exact Nat.lt_of_le_of_lt hdl (by decide),?_⟩
      refine hN _ ⟨dn ++ [b],rs,_,by rw [<- hd]; simp,rfl,.inr rfl,?_⟩
      rw [List.map_append]
      rfl
  ·rintro ρ ⟨dn,rs,px,hd,er,hpx,rfl⟩
   cases rs with
   | nil =>
    rw [List.append_nil] at hd
    subst hd
    exact q _
   | cons _ _=>cases er
end
end R46
namespace R46
open PySem PySem.Spec L2 L3 PyProof.Rows
noncomputable def lst:Int -> List Int -> List Int
 | _,[]=>[]
 | a,x :: r=>(x + max a 0) :: lst (x + max a 0) r
theorem lst_len:∀ (a:Int) (r:List Int),(lst a r).length = r.length
 | _,[]=>rfl
 | a,x :: r=>by rw [lst,List.length_cons,List.length_cons,lst_len]
theorem lst_hold {n:Int}:∀ {a:Int} {r:List Int},(∀ v ∈ lst a r,v <= n) -> areB n a (r.zip (lst a r)) = true
 | _,[],_=>rfl
 | a,x :: r,h=>by
  have h1:=h (x + max a 0) (by rw [lst]; exact List.mem_cons_self)
  show (if n < x + max a 0 \/ x + max a 0 < x + max a 0 then false else areB n (x + max a 0) (r.zip (lst (x + max a 0) r))) = true
  rw [if_neg (by omega)]
  exact lst_hold fun v hv=>h v (by rw [lst]; exact List.mem_cons_of_mem _ hv)
theorem hold_le_ {n:Int}:∀ {a:Int} {xs:List (Int × Int)},areB n a xs = true -> ∀ x ∈ xs,x.2 <= n
 | _,[],_,_,h=>by cases h
 | a,y :: xs,h,x,hx=>by
  rw [areB] at h
  split at h
  ·cases h
  ·rcases List.mem_cons.mp hx with rfl | hx
   ·omega
   ·exact hold_le_ h x hx
theorem zip_snd:∀ {r bs:List Int} {v:Int},r.length = bs.length -> v ∈ bs -> ∃ x,(x,v) ∈ r.zip bs
 | [],[],_,_,h=>by cases h
 | [],_ :: _,_,h,_=>by cases h
 | _ :: _,[],_,h,_=>by cases h
 | x :: r,y :: bs,v,hl,h=>by
  rcases List.mem_cons.mp h with rfl | h
  ·exact ⟨x,by simp⟩
  ·obtain ⟨u,hu⟩:=zip_snd (r:=r) (bs:=bs) (by simpa using hl) h
   exact ⟨u,by simp [hu]⟩
theorem lst_over {n:Int} {r:List Int} {v:Int} (hv:v ∈ lst 0 r) (h:n < v):areB n 0 (r.zip (lst 0 r)) = false:=by
 cases e:areB n 0 (r.zip (lst 0 r)) with
 | false=>rfl
 | true =>
  obtain ⟨x,hx⟩:=zip_snd (lst_len 0 r).symm hv
  have:=hold_le_ e _ hx
  simp only at this
  omega
theorem lst_bent {n:Int}:∀ {a:Int} {r:List Int} {j:Nat} {v:Int},(lst a r)[j]? = some v -> areB n a (r.zip ((lst a r).take j ++ (v - 1) :: (lst a r).drop (j + 1))) = false
 | _,[],_,_,h=>by simp [lst] at h
 | a,x :: r,0,v,h=>by
  have h:some (x + max a 0) = some v:=h
  injection h with h
  show (if n < v - 1 \/ v - 1 < x + max a 0 then false else _) = false
  rw [if_pos (by omega)]
 | a,x :: r,j + 1,v,h=>by
  have h:(lst (x + max a 0) r)[j]? = some v:=h
  show (if n < x + max a 0 \/ x + max a 0 < x + max a 0 then false else areB n (x + max a 0) (r.zip ((lst (x + max a 0) r).take j ++ (v - 1) :: (lst (x + max a 0) r).drop (j + 1)))) = false
  split
  ·rfl
  ·exact lst_bent h
theorem lst_abs {B:Nat}:∀ {a:Int} {r:List Int} {c:Nat},(∀ x ∈ r,x.natAbs <= B) -> a.natAbs <= c -> ∀ v ∈ lst a r,v.natAbs <= c + r.length * B
 | _,[],_,_,_,v,hv=>by cases hv
 | a,x :: r,c,h,ha,v,hv=>by
  have hx:=h x List.mem_cons_self
  rw [lst] at hv
  rw [List.length_cons,Nat.succ_mul]
  have hm:(x + max a 0).natAbs <= c + B:=by omega
  rcases List.mem_cons.mp hv with rfl | hv
  ·have:c + B <= c + (r.length * B + B):=by omega
   exact Nat.le_trans hm this
  ·have:=lst_abs (a:=x + max a 0) (r:=r) (c:=c + B) (fun y hy=>h y (List.mem_cons_of_mem _ hy)) hm v hv
   omega
theorem sum_abs {B:Nat}:∀ {l:List Int},(∀ x ∈ l,x.natAbs <= B) -> l.sum.natAbs <= l.length * B
 | [],_=>by simp
 | x :: l,h=>by
  have h1:=h x List.mem_cons_self
  have h2:=sum_abs (l:=l) fun y hy=>h y (List.mem_cons_of_mem _ hy)
  rw [List.sum_cons,List.length_cons,Nat.succ_mul]
  omega
theorem bsum_abs {B:Nat} {rows:List (List Int × Int)} {lo hi:List Int} (h:∀ r ∈ rows,r.2.natAbs <= B):(bsum rows lo hi).natAbs <= rows.length * B:=by
 unfold bsum
 have h1:=sum_abs (B:=B) (l:=(rows.filter fun r=>lie lo r.1 hi).map (·.2)) fun x hx=>by
  obtain ⟨r,hr,rfl⟩:=List.mem_map.mp hx
  exact h r (List.mem_filter.mp hr).1
 rw [List.length_map] at h1
 exact Nat.le_trans h1 (Nat.mul_le_mul_right _ (List.length_filter_le _ _))
noncomputable def lbs (ss cl:List Int) (z:Int) (b:List Int × List Int):List Int:=lst 0 (rowB ss cl z b)
theorem rowBlen (ss cl:List Int) (z:Int) (b:List Int × List Int):(rowB ss cl z b).length = z.toNat:=by simp [rowB,rng_len]
theorem lbs_len {ss cl:List Int} {z:Int} (h:Fld ss cl z) (b:List Int × List Int):((lbs ss cl z b).length:Int) = z:=by
 have:=hsd_m h
 rw [lbs,lst_len,rowBlen]
 omega
theorem lbs_abs {ss cl:List Int} {z:Int} (h:Fld ss cl z) (hB:∀ c ∈ cl,c.natAbs <= 10 ^ 31) (b:List Int × List Int):∀ v ∈ lbs ss cl z b,v.natAbs <= 10 ^ 36:=by
 have hm:=hsd_m h
 have hpl:=plc_len h.sd.p
 have hsm:=h.sd.m
 have hr:∀ x ∈ rowB ss cl z b,x.natAbs <= 120 * 10 ^ 31:=fun x hx=>by
  obtain ⟨t,_,rfl⟩:=List.mem_map.mp hx
  have h1:=bsum_abs (B:=10 ^ 31) (rows:=(plc (ss ++ [z])).zip cl) (lo:=b.1 ++ [t]) (hi:=b.2 ++ [t]) fun r hr=>hB _ (List.of_mem_zip (a:=r.1) (b:=r.2) hr).2
  have h2:((plc (ss ++ [z])).zip cl).length <= 120:=by rw [List.length_zip]; omega
  exact Nat.le_trans h1 (Nat.mul_le_mul_right _ h2)
 intro v hv
 have h3:=lst_abs (a:=0) (c:=0) hr (by decide) v hv
 have h4:(rowB ss cl z b).length <= 120:=by rw [rowBlen]; omega
 have h5:=Nat.mul_le_mul_right (120 * 10 ^ 31) h4
 exact Nat.le_trans h3 (by omega)
noncomputable def lps (ss cl:List Int) (z:Int):List ((List Int × List Int) × List Int):=(bxs ss).map fun b=>(b,lbs ss cl z b)
theorem lps_fst (ss cl:List Int) (z:Int):(lps ss cl z).map (·.1) = bxs ss:=by
 unfold lps
 rw [List.map_map]
 exact List.map_id _
theorem lps_len {ss cl:List Int} {z:Int} (h:Fld ss cl z):∀ x ∈ lps ss cl z,(x.2.length:Int) = z:=fun x hx=>by
 obtain ⟨b,_,rfl⟩:=List.mem_map.mp hx
 exact lbs_len h b
theorem lps_hold {ss cl:List Int} {z n:Int} (h:∀ x ∈ lps ss cl z,∀ v ∈ x.2,v <= n):hold ss cl z n (lps ss cl z) = true:=by
 unfold hold
 rw [List.all_eq_true]
 intro x hx
 have hv:=h x hx
 obtain ⟨b,_,rfl⟩:=List.mem_map.mp hx
 exact lst_hold hv
theorem lps_over {ss cl:List Int} {z n:Int} {x:(List Int × List Int) × List Int} {v:Int} (hx:x ∈ lps ss cl z) (hv:v ∈ x.2) (h:n < v):hold ss cl z n (lps ss cl z) = false:=by
 cases e:hold ss cl z n (lps ss cl z) with
 | false=>rfl
 | true =>
  unfold hold at e
  rw [List.all_eq_true] at e
  have h1:=e x hx
  obtain ⟨b,_,rfl⟩:=List.mem_map.mp hx
  have h1:areB n 0 ((rowB ss cl z b).zip (lst 0 (rowB ss cl z b))) = true:=h1
  rw [lst_over hv h] at h1
  cases h1
theorem rgt_iff {ss cl:List Int} {z n:Int} {xs:List ((List Int × List Int) × List Int)} (h1:xs.map (·.1) = bxs ss) (h2:∀ x ∈ xs,(x.2.length:Int) = z):isB (Rgt ss cl z n (.list (xs.map enD))) = hold ss cl z n xs:=by
 cases hh:hold ss cl z n xs with
 | true=>exact isB_t ⟨xs,rfl,h1,h2,hh⟩
 | false =>
  refine isB_f fun hr=>?_
  obtain ⟨ys,ez,_,_,hy⟩:=hr
  injection ez with ez
  have ey:=en_inj ez
  subst ey
  rw [hh] at hy
  cases hy
section
variable {P:Program} {w:World} {K:PySem.W.Frag} {mg:Str -> Option Value} {base:Heap}
noncomputable def cLst:Con:=fun args Q=>∃ (r:List Int) (d:PyData),args = [.fz d] /\ (d = .list (r.map PyData.int) \/ d = tupD r) /\ r.length <= 1000 /\ ∀ o,Q (.ow (.list ((lst 0 r).map PyData.int))) o
theorem lst_snoc:∀ {a:Int} {r:List Int} {x:Int},lst a (r ++ [x]) = lst a r ++ [x + max ((lst a r).getLastD a) 0]
 | a,[],x=>rfl
 | a,y :: r,x=>by
  have:=lst_snoc (a:=y + max a 0) (r:=r) (x:=x)
  rw [List.cons_append,lst,this,lst,List.cons_append]
  congr 3
  cases h:lst (y + max a 0) r with
  | nil=>rfl
  | cons u l=>rfl
theorem last_d {l:List Int} (h:l ≠ []):atI (l.map PyData.int) (-1) = some (.int (l.getLastD 0)):=by
 rcases List.eq_nil_or_concat l with e | ⟨a,b,e⟩
 ·exact absurd e h
 ·have e:l = a ++ [b]:=by simpa using e
  subst e
  rw [at_last a b]
  simp
theorem forS {ks:List Nat} {g:TDG} {tb:TDS} {E:DE} {d:PyData} {ρ:Ev} {L:List PyData} (hd:d = .list L \/ d = .tuple L) (h2:dLoopC ks g tb E L (clean ks (some (.fz d) :: ρ))):dForC ks (dISeq (dVar 0)) g tb E (some (.fz d) :: ρ):=by
 rcases hd with rfl | rfl
 ·exact h2
 ·exact h2
theorem scLst:FnScope ["_law_row","_law_found","_law_number_here"] ["_law_row"] (defScope (top 39)):=⟨rfl,rfl,rfl,by decide +kernel,rfl,by decide +kernel,by decide +kernel⟩
theorem ok_lst {f:Addr} {fd:FuncData} (F:Fun K "_law_least" "_law_least" (top 39) f fd):FnOk P w K mg base CX0 1 f fd ["_law_row"] (conSp K cLst):=by
 have S:=scLst
 refine wfn F S (fun cdv A outer s H E hr=>(s_cons (s_set (i:=1) S.nd rfl (Or.inl rfl) (w_lst wa_nil))
     (s_cons (s_for [2] PassesOwn.never rfl (i_seq rfl (wv 0)) (g_name (i:=2) S.nd rfl (Or.inl rfl)) (s_cons (s_if (t_w (t_and (t_cmp ok_ne (op_neE (K:=K) rfl hr.units) (wn 1) (wx (w_lst wa_nil))) (t_and1 (t_cmp ok_gt op_gt (wx (w_ix rfl (wn 1) (wx (w_neg (wx w_int))))) (wx w_int))))) (s_one (s_set (i:=2) S.nd rfl (Or.inl rfl) (w_bin ok_add op_addD (wn 2) (wx (w_ix rfl (wn 1) (wx (w_neg (wx w_int)))))))) s_nil)
     (s_one (s_expr (w_m ok_append rfl PySem.F.slot_list_append PySem.F.type_list_append mt_append (wn 1) (wa_cons (wx (wv 2)) wa_nil))))))
     (s_one (s_retV (wn 1)))))) ?_ ?_
 ·rintro args Qd ⟨r,d,rfl,_⟩; rfl
 ·rintro args Qd ⟨r,d,rfl,hd,hl,q⟩
  refine ⟨noOw_of rfl,?_⟩
  with_reducible refine cutS (fun ρ=>ρ = [some (.fz d),some (.ow (.list [])),none]) ?_ ?_
  ·intro N hN
   exact hN _ rfl
  rintro _ rfl
  with_reducible refine cutS (fun ρ=>ρ = [some (.fz d),some (.ow (.list ((lst 0 r).map PyData.int))),none]) ?_ ?_
  ·intro N hN
   refine forS hd ?_
   ·refine loopC (fun rest ρ=>∃ dn rs:List Int,r = dn ++ rs /\ rest = rs.map PyData.int /\ ρ = [some (.fz d),some (.ow (.list ((lst 0 dn).map PyData.int))),none]) ?_ ?_ ⟨[],r,rfl,rfl,rfl⟩
    ·rintro e ds ρ ⟨dn,rs,er,es,rfl⟩ M hM
     cases rs with
     | nil=>cases es
     | cons x rs =>
      cases es
      have hdl:dn.length <= 1000:=by rw [er,List.length_append] at hl; omega
      have fin:∀ {u:Int},u = x + max ((lst 0 dn).getLastD 0) 0 -> ∃ dn' rs':List Int,r = dn' ++ rs' /\ rs.map PyData.int = rs'.map PyData.int /\ (lst 0 dn).map PyData.int ++ [PyData.int u] = (lst 0 dn').map PyData.int:=fun {u} hu=>⟨dn ++ [x],rs,by rw [er]; simp,rfl,by rw [lst_snoc,List.map_append,hu]; rfl⟩
      have nl:Nice 1 (.list ((lst 0 dn).map PyData.int)):=Nice.ints _
      have ne:Nice 1 (.list ([]:List PyData)):=Nice.ints []
      with_reducible refine gnC rfl ?_
      with_reducible refine cutS (fun ρ=>ρ = [some (.fz d),some (.ow (.list ((lst 0 dn).map PyData.int))),some (.fz (.int (x + max ((lst 0 dn).getLastD 0) 0)))]) ?_ ?_
      ·intro M2 hM2
       refine ⟨nl.p,ne.p,nl.sh (by decide),ne.sh (by decide),mixAll_ints (lst 0 dn) [],?_⟩
       have es:same (.list ((lst 0 dn).map PyData.int)) (.list []) = decide (lst 0 dn = []):=sameAll_ints (lst 0 dn) []
       refine ite2 (fun h=>?_) (fun h=>?_)
       ·have h:(!same (.list ((lst 0 dn).map PyData.int)) (.list [])) = true:=h
        have hne:lst 0 dn ≠ []:=fun z=>by rw [es,z] at h; simp at h
        refine ⟨_,last_d hne,ite2 (fun h2=>?_) (fun h2=>?_)⟩
        ·have h2:0 < (lst 0 dn).getLastD 0:=of_decide_eq_true h2
         refine ⟨_,last_d hne,?_⟩
         have e:max ((lst 0 dn).getLastD 0) 0 = (lst 0 dn).getLastD 0:=by omega
         rw [e] at hM2
         exact hM2 _ rfl
        ·have h2:¬ 0 < (lst 0 dn).getLastD 0:=fun z=>h2 (decide_eq_true z)
         have e:x + max ((lst 0 dn).getLastD 0) 0 = x:=by omega
         rw [e] at hM2
         exact hM2 _ rfl
       ·have h:¬ (!same (.list ((lst 0 dn).map PyData.int)) (.list [])) = true:=h
        have he:lst 0 dn = []:=Classical.byContradiction fun z=>h (by rw [es,decide_eq_false z]; rfl)
        have e:x + max ((lst 0 dn).getLastD 0) 0 = x:=by rw [he]; show x + max 0 0 = x; omega
        rw [e] at hM2
        exact hM2 _ rfl
      rintro _ rfl
      obtain ⟨dn',rs',e1,e2,e3⟩:=fin rfl
      refine ⟨by rw [List.length_map,lst_len]; exact Nat.lt_of_le_of_lt hdl (by decide),?_⟩
      refine hM _ ⟨dn',rs',e1,e2,?_⟩
      rw [<- e3]
      rfl
    ·rintro ρ ⟨dn,rs,er,es,rfl⟩
     cases rs with
     | cons _ _=>cases es
     | nil =>
      rw [List.append_nil] at er
      subst er
      exact hN _ rfl
  rintro _ rfl
  exact q _
end
end R46
namespace R46
open PySem PySem.Spec L2 L3 PyProof.Rows
theorem setJ {i:Nat} {a:TD} {E:DE} {ρ:Ev} (J:Sl -> Ev -> Prop) (h1:∀ Q:Sl -> Ev -> Prop,(∀ r ρ',J r ρ' -> Q r ρ') -> a ρ Q) (h2:∀ r ρ',J r ρ' -> match ρ'[i]? with
  | some (some (.io _))=>False
  | some _=>E.nx (ρ'.set i (some r))
  | none=>False):dSet i a E ρ:=h1 _ h2
theorem okI (l:List Int):okAll (l.map PyData.int) = true:=okAll_of fun d hd=>by
 obtain ⟨i,_,rfl⟩:=List.mem_map.mp hd
 rfl
theorem okAdd {a b:List PyData} (h1:okAll a = true) (h2:okAll b = true):okAll (a ++ b) = true:=okAll_of fun d hd=>by
 rcases List.mem_append.mp hd with z | z
 ·exact okAll_mem h1 d z
 ·exact okAll_mem h2 d z
theorem okTake {a:List PyData} {n:Nat} (h:okAll a = true):okAll (a.take n) = true:=okAll_of fun d hd=>okAll_mem h d (List.mem_of_mem_take hd)
theorem okDrop {a:List PyData} {n:Nat} (h:okAll a = true):okAll (a.drop n) = true:=okAll_of fun d hd=>okAll_mem h d (List.mem_of_mem_drop hd)
theorem okOne {d:PyData} (h:okD d = true):okAll [d] = true:=okAll_of fun e he=>by rw [List.mem_singleton.mp he]; exact h
theorem okT {l:List PyData} (h:okAll l = true):okD (.tuple l) = true:=by simpa [okD] using h
theorem okL {l:List PyData} (h:okAll l = true):okD (.list l) = true:=by simpa [okD] using h
theorem okTI (l:List Int):okD (tupD l) = true:=okT (okI l)
theorem okAll2 {a b:PyData} (h1:okD a = true) (h2:okD b = true):okAll [a,b] = true:=okAll_of fun e he=>by
 simp only [List.mem_cons,List.not_mem_nil,or_false] at he
 rcases he with rfl | rfl
 ·exact h1
 ·exact h2
theorem okAll3 {a b c:PyData} (h1:okD a = true) (h2:okD b = true) (h3:okD c = true):okAll [a,b,c] = true:=okAll_of fun e he=>by
 simp only [List.mem_cons,List.not_mem_nil,or_false] at he
 rcases he with rfl | rfl | rfl
 ·exact h1
 ·exact h2
 ·exact h3
theorem okBx (b:List Int × List Int):okD (bxD b) = true:=okT (okAll2 (okTI _) (okTI _))
theorem ne_len {l:List PyData} {m:List Int} (h:l.length ≠ m.length):PyData.tuple l ≠ tupD m:=fun z=>by
 injection z with z
 rw [z,List.length_map] at h
 exact h rfl
theorem ne_in {l:List PyData} {m:List Int} {d:PyData} (hd:d ∈ l) (hi:isI d = false):PyData.tuple l ≠ tupD m:=fun z=>by
 injection z with z
 rw [z] at hd
 obtain ⟨i,_,rfl⟩:=List.mem_map.mp hd
 cases hi
theorem ne_one {a c:PyData} {b:List Int × List Int} (h:a ≠ tupD b.1):PyData.tuple [a,c] ≠ bxD b:=fun z=>by
 injection z with z
 injection z with z _
 exact h z
theorem ne_two {a c:PyData} {b:List Int × List Int} (h:c ≠ tupD b.2):PyData.tuple [a,c] ≠ bxD b:=fun z=>by
 injection z with z
 injection z with _ z
 injection z with z _
 exact h z
noncomputable def NoB (bs:List Int) (d:PyData):Prop:=okD d = true /\ ∀ l:List Int,l.length = bs.length -> d ≠ tupD l
noncomputable def NoX (b:List Int × List Int) (d:PyData):Prop:=okD d = true /\ d ≠ bxD b
noncomputable def NoE (z:Int) (b:List Int × List Int) (d:PyData):Prop:=okD d = true /\ ¬ Ent z b d
theorem NoB.cut {bs:List Int} {d:PyData} {i j:Nat} (h:okD d = true) (hi:isI d = false):NoB bs (.tuple ((bs.map PyData.int).take i ++ [d] ++ (bs.map PyData.int).drop j)) :=
 ⟨okT (okAdd (okAdd (okTake (okI _)) (okOne h)) (okDrop (okI _))),fun l _=>ne_in (d:=d) (by simp) hi⟩
theorem noE_b {z:Int} {b:List Int × List Int} {bs:List Int} {d:PyData} (hz:(bs.length:Int) = z) (h:NoB bs d):NoE z b (.tuple [bxD b,d]):=⟨okT (okAll2 (okBx b) h.1),fun ⟨l,e,hl⟩=>by
  injection e with e
  injection e with _ e
  injection e with e _
  exact h.2 l (by omega) e⟩
theorem noE_x {z:Int} {b:List Int × List Int} {bs:List Int} {d:PyData} (h:NoX b d):NoE z b (.tuple [d,tupD bs]):=⟨okT (okAll2 h.1 (okTI _)),fun ⟨l,e,hl⟩=>by
  injection e with e
  injection e with e _
  exact h.2 e⟩
theorem log_lt {v:Int} (h:v.natAbs <= 10 ^ 36):v.natAbs.log2 < 1920:=by
 by_cases h0:v.natAbs = 0
 ·rw [h0]; decide
 ·exact (Nat.log2_lt h0).mpr (Nat.lt_of_le_of_lt h (Nat.lt_of_lt_of_le (show 10 ^ 36 < 2 ^ 120 by decide) (Nat.pow_le_pow_right (by decide) (by decide))))
theorem addJ {a:TD} {j:Nat} {l:List PyData} {ρ ρ1:Ev} {Q:Sl -> Ev -> Prop} (m:List PyData) (e0:ρ[j]? = some (some (.ow (.list l)))) (e1:ρ1[j]? = some (some (.ow (.list l)))) (h1:∀ Q':Sl -> Ev -> Prop,Q' (.ow (.list m)) ρ1 -> a ρ Q') (h2:l.length + m.length <= sizeLine) (h3:Q (.ow (.list (l ++ m))) ρ1):dOp [.inl j,.inr a] (o2 fAdd) ρ Q:=by
 unfold dOp dArgs
 rw [e0]
 refine h1 _ ?_
 have g:looksQ ρ1 [.inl j,.inr (.list m)] fun ds=>o2 fAdd ds fun r=>Q r ρ1:=by
  unfold looksQ
  rw [e1]
  exact ⟨h2,h3⟩
 unfold dArgs
 exact g
section
variable {P:Program} {w:World} {K:PySem.W.Frag} {mg:Str -> Option Value} {base:Heap}
structure CalsRS (P:Program) (w:World) (K:PySem.W.Frag) (mg:Str -> Option Value) (base:Heap):Prop where
 law_take:Cal P w K mg base 2 "_law_take" ["_law_state","_law_most"] (conSp K cTake)
noncomputable def cRS:Con:=fun args Q=>∃ (ns:List Int) (k l:Int) (b:List Int × List Int) (bs:List Int),args = [.io (penD ns k l),.fz (enD (b,bs))] /\ 0 <= k /\ 0 <= l /\ b.1.length <= 3 /\ b.2.length = b.1.length /\ 1 <= bs.length /\ bs.length <= 200 /\ (∀ v ∈ bs,v.natAbs <= 10 ^ 36) /\
 ∀ (rs:List PyData) (k' l':Int) (o:Ev),(∀ r ∈ rs,NoE bs.length b r) -> rs.length <= 100 -> 0 <= k' -> 0 <= l' -> Q (.ow (.list rs)) (some (.io (penD ns k' l')) :: o)
theorem scRS:FnScope ["_law_state","_law_row","_law_box_here","_law_bests","_law_at","_law_some","_law_low","_law_high","_law_others","_law_end","_law_place","_law_number_here","_law_rim","_law_found"] ["_law_state","_law_row"] (defScope (top 41)):=⟨rfl,rfl,rfl,by decide +kernel,rfl,by decide +kernel,by decide +kernel⟩
theorem ok_rs {f:Addr} {fd:FuncData} (F:Fun K "_law_rows_spoilt" "_law_rows_spoilt" (top 41) f fd) (T:Txt mg) (C:CalsRS P w K mg base):FnOk P w K mg base CX0 3 f fd ["_law_state","_law_row"] (conSp K cRS):=by
 have S:=scRS
 refine wfn F S (fun cdv A outer s H E hr=>(s_cons (s_asgG (wv 1) (g_tup rfl rfl (gs_cons (g_name (i:=2) S.nd rfl (Or.inr rfl)) (gs_cons (g_name (i:=3) S.nd rfl (Or.inr rfl)) gs_nil))))
     (s_cons (s_set (i:=4) S.nd rfl (Or.inr rfl) (w_fnI C.law_take (hr.mono (by first | decide | omega)) (wa_cons (wn 0) (wa_cons (wx (w_callB ok_len (call_lenK (K:=K) rfl) T.len_ PySem.boot_len (wa_cons (wn 3) wa_nil))) wa_nil))))
     (s_cons (s_setC (i:=5) S.nd rfl rfl rfl (own:=["_law_one"]) (fr:=[3,4]) (by kernel_rfl) (i_seq rfl (w_lst (wa_cons (wx w_bl) (wa_cons (wx w_bl) (wa_cons (wx (w_callT ok_strI call_str_int T.str_ boot_str (wa_cons (wx (w_ix rfl (wn 3) (wn 4))) wa_nil))) (wa_cons (wx w_non) (wa_cons (wx (w_lst (wa_cons (wx (w_ix rfl (wn 3) (wn 4))) wa_nil))) (wa_cons (wx (w_tup wa_nil)) wa_nil)))))))) (fun _ _ _ _=>(g_name (i:=0) (by decide +kernel:List.Nodup (["_law_one","_law_bests","_law_at"]:List Str)) rfl (Or.inl rfl))) (fun _ _ _ _=>if0) (fun _ _ _ _=>(w_bin ok_add op_addD (wx (w_bin ok_add op_addD (wx (w_sl2T rfl (wn 1) (wn 2))) (wx (w_tup (wa_cons (wx (wv 0)) wa_nil))))) (wx (w_sl1T rfl (wn 1) (wx (w_bin ok_add op_addD (wn 2) (wx w_int))))))))
     (s_cons (s_set (i:=5) S.nd rfl (Or.inl rfl) (w_bin ok_add op_addD (wn 5) (wx (w_lst (wa_cons (wx (w_callT ok_list (call_listK (K:=K) rfl) T.list_ boot_list (wa_cons (wn 3) wa_nil))) (wa_cons (wx (w_sl1T rfl (wn 3) (wx w_int))) (wa_cons (wx (w_bin ok_add op_addD (wn 3) (wx (w_sl2T rfl (wn 3) (wx w_int))))) (wa_cons (wx w_non) (wa_cons (wx w_int) (wa_cons (wx w_dnew) wa_nil))))))))))
     (s_cons (s_asgG (wv 2) (g_tup rfl rfl (gs_cons (g_name (i:=6) S.nd rfl (Or.inl rfl)) (gs_cons (g_name (i:=7) S.nd rfl (Or.inl rfl)) gs_nil))))
     (s_cons (s_set (i:=8) S.nd rfl (Or.inl rfl) (w_lst (wa_cons (wx (w_lst (wa_cons (wx (wv 6)) (wa_cons (wx (wv 7)) wa_nil)))) (wa_cons (wx (w_tup (wa_cons (wx (w_callT ok_list (call_listK (K:=K) rfl) T.list_ boot_list (wa_cons (wn 6) wa_nil))) (wa_cons (wx (w_callT ok_list (call_listK (K:=K) rfl) T.list_ boot_list (wa_cons (wn 7) wa_nil))) wa_nil)))) (wa_cons (wx (w_tup (wa_cons (wx (wv 6)) (wa_cons (wx (wv 7)) (wa_cons (wx (wv 6)) wa_nil))))) (wa_cons (wx (w_tup (wa_cons (wx (w_bin ok_add op_addD (wn 6) (wx (w_tup (wa_cons (wx w_int) wa_nil))))) (wa_cons (wx (w_bin ok_add op_addD (wn 7) (wx (w_tup (wa_cons (wx w_int) wa_nil))))) wa_nil)))) (wa_cons (wx (wv 6)) (wa_cons (wx w_non) (wa_cons (wx (w_tup (wa_cons (wx (wv 6)) wa_nil))) wa_nil)))))))))
     (s_cons (s_set (i:=8) S.nd rfl (Or.inl rfl) (w_bin ok_add op_addD (wn 8) (wx (w_lst (wa_cons (wx w_str) (wa_cons (wx (w_tup (wa_cons (wx (w_bin ok_add op_addD (wn 6) (wx (w_tup (wa_cons (wx w_bl) wa_nil))))) (wa_cons (wx (wv 7)) wa_nil)))) (wa_cons (wx (w_tup (wa_cons (wx (w_bin ok_add op_addD (wx (w_tup (wa_cons (wx w_int) wa_nil))) (wn 6))) (wa_cons (wx (wv 7)) wa_nil)))) wa_nil)))))))
     (s_cons (s_if (t_cmp ok_ne (op_neE (K:=K) rfl hr.units) (wn 6) (wx (w_tup wa_nil))) (s_cons (s_set (i:=8) S.nd rfl (Or.inl rfl) (w_bin ok_add op_addD (wn 8) (wx (w_lst (wa_cons (wx (w_tup (wa_cons (wx (w_bin ok_add op_addD (wx (w_tup (wa_cons (wx (w_bin ok_add op_addD (wx (w_ix rfl (wn 6) (wx w_int))) (wx w_int))) wa_nil))) (wx (w_sl1T rfl (wn 6) (wx w_int))))) (wa_cons (wx (wv 7)) wa_nil)))) (wa_cons (wx (w_tup (wa_cons (wx (wv 6)) (wa_cons (wx (w_bin ok_add op_addD (wx (w_slHi rfl (wn 7) (wx (w_neg (wx w_int))))) (wx (w_tup (wa_cons (wx (w_bin ok_add op_addD (wx (w_ix rfl (wn 7) (wx (w_neg (wx w_int))))) (wx w_int))) wa_nil))))) wa_nil)))) (wa_cons (wx (w_tup (wa_cons (wx (w_tup wa_nil)) (wa_cons (wx (w_tup wa_nil)) wa_nil)))) wa_nil)))))))
     (s_one (s_expr (w_m ok_append rfl PySem.F.slot_list_append PySem.F.type_list_append mt_append (wn 8) (wa_cons (wx (w_tup (wa_cons (wx (w_bin ok_add op_addD (wx (w_tup (wa_cons (wx (w_cmp ok_eq (op_eqE (K:=K) rfl hr.units) (wx (w_ix rfl (wn 6) (wx w_int))) (wx w_int))) wa_nil))) (wx (w_sl1T rfl (wn 6) (wx w_int))))) (wa_cons (wx (w_bin ok_add op_addD (wx (w_tup (wa_cons (wx (w_cmp ok_eq (op_eqE (K:=K) rfl hr.units) (wx (w_ix rfl (wn 7) (wx w_int))) (wx w_int))) wa_nil))) (wx (w_sl1T rfl (wn 7) (wx w_int))))) wa_nil)))) wa_nil))))) s_nil)
     (s_cons (s_for [9,10,11] PassesOwn.never rfl (i_rng1 T.range_ (wa_cons (wx w_int) wa_nil)) (g_name (i:=9) S.nd rfl (Or.inl rfl)) (s_one (s_for [10,11] PassesOwn.never rfl (i_enum rfl T.enumerate_ (wa_cons (wx (w_ix rfl (wn 2) (wn 9))) wa_nil)) (g_tup rfl rfl (gs_cons (g_name (i:=10) S.nd rfl (Or.inl rfl)) (gs_cons (g_name (i:=11) S.nd rfl (Or.inl rfl)) gs_nil))) (s_one (s_if (t_cmp ok_lt op_lt (wn 11) (wx w_int)) (s_cons (s_set (i:=12) S.nd rfl (Or.inl rfl) (w_bin ok_add op_addD (wx (w_bin ok_add op_addD (wx (w_sl2T rfl (wx (w_ix rfl (wn 2) (wn 9))) (wn 10))) (wx (w_tup (wa_cons (wx (w_cmp ok_eq (op_eqE (K:=K) rfl hr.units) (wn 11) (wx w_int))) wa_nil))))) (wx (w_sl1T rfl (wx (w_ix rfl (wn 2) (wn 9))) (wx (w_bin ok_add op_addD (wn 10) (wx w_int)))))))
     (s_one (s_expr (w_m ok_append rfl PySem.F.slot_list_append PySem.F.type_list_append mt_append (wn 8) (wa_cons (wx (w_ix rfl (wx (w_lst (wa_cons (wx (w_tup (wa_cons (wx (wv 12)) (wa_cons (wx (wv 7)) wa_nil)))) (wa_cons (wx (w_tup (wa_cons (wx (wv 6)) (wa_cons (wx (wv 12)) wa_nil)))) wa_nil)))) (wn 9))) wa_nil))))) s_nil)))))
     (s_cons (s_set (i:=13) S.nd rfl (Or.inl rfl) (w_bin ok_add op_addD (wx (w_comp rfl (own:=["_law_one"]) (fr:=[2]) (by kernel_rfl) (i_seq rfl (wv 5)) (fun _ _ _ _=>(g_name (i:=0) (by decide +kernel:List.Nodup (["_law_one","_law_box_here"]:List Str)) rfl (Or.inl rfl))) (fun _ _ _ _=>if0) (fun _ _ _ _=>(w_tup (wa_cons (wx (wv 1)) (wa_cons (wx (wv 0)) wa_nil)))))) (wx (w_comp rfl (own:=["_law_one"]) (fr:=[3]) (by kernel_rfl) (i_seq rfl (wv 8)) (fun _ _ _ _=>(g_name (i:=0) (by decide +kernel:List.Nodup (["_law_one","_law_bests"]:List Str)) rfl (Or.inl rfl))) (fun _ _ _ _=>if0) (fun _ _ _ _=>(w_tup (wa_cons (wx (wv 0)) (wa_cons (wx (wv 1)) wa_nil))))))))
     (s_one (s_ret (w_bin ok_add op_addD (wn 13) (wx (w_lst (wa_cons (wx (w_lst (wa_cons (wx (wv 2)) (wa_cons (wx (wv 3)) wa_nil)))) (wa_cons (wx (w_tup (wa_cons (wx (wv 2)) (wa_cons (wx (wv 3)) (wa_cons (wx (wv 3)) wa_nil))))) (wa_cons (wx (w_tup (wa_cons (wx (wv 2)) wa_nil))) (wa_cons (wx w_non) (wa_cons (wx w_str) (wa_cons (wx w_int) (wa_cons (wx (wv 3)) wa_nil))))))))))))))))))))))) ?_ ?_
 ·rintro args Qd ⟨ns,k,l,b,bs,rfl,_⟩; rfl
 ·rintro args Qd ⟨ns,k,l,b,bs,rfl,hk,hl,hb1,hb2,hs1,hs2,hv,q⟩
  refine ⟨noOw_of rfl,?_⟩
  have hbm:(bs.map PyData.int).length = bs.length:=List.length_map _
  have hlm:(b.1.map PyData.int).length = b.1.length:=List.length_map _
  have hhm:(b.2.map PyData.int).length = b.2.length:=List.length_map _
  with_reducible refine cutS (fun ρ=>ρ = [some (.io (penD ns k l)),some (.fz (enD (b,bs))),some (.fz (bxD b)),some (.fz (tupD bs)),none,none,none,none,none,none,none,none,none,none]) ?_ ?_
  ·intro N hN
   exact ⟨rfl,hN _ rfl⟩
  rintro _ rfl
  with_reducible refine cutS (fun ρ=>∃ (i:Nat) (k1 l1:Int),i < bs.length /\ 0 <= k1 /\ 0 <= l1 /\ ρ = [some (.io (penD ns k1 l1)),some (.fz (enD (b,bs))),some (.fz (bxD b)),some (.fz (tupD bs)),some (.fz (.int (i:Nat))),none,none,none,none,none,none,none,none,none]) ?_ ?_
  ·intro N hN
   refine ⟨ns,k,l,_,rfl,hk,hl,by rw [hbm]; omega,by rw [hbm]; omega,fun r k1 l1 _ r0 r1 hk1 hl1=>?_⟩
   rw [hbm] at r1
   obtain ⟨i,rfl⟩:=Int.eq_ofNat_of_zero_le r0
   exact hN _ ⟨i,k1,l1,by omega,hk1,hl1,rfl⟩
  rintro _ ⟨i,k1,l1,hi,hk1,hl1,rfl⟩
  obtain ⟨v,hvi⟩:∃ v,bs[i]? = some v:=⟨_,List.getElem?_eq_getElem hi⟩
  have hat:atI (bs.map PyData.int) (i:Int) = some (.int v):=atI_nat (by rw [List.getElem?_map,hvi]; rfl)
  have hvb:=hv v (List.mem_of_getElem? hvi)
  with_reducible refine cutS (fun ρ=>∃ so:List PyData,so.length = 6 /\ (∀ d ∈ so,NoB bs d) /\ ρ = [some (.io (penD ns k1 l1)),some (.fz (enD (b,bs))),some (.fz (bxD b)),some (.fz (tupD bs)),some (.fz (.int (i:Nat))),some (.ow (.list so)),none,none,none,none,none,none,none,none]) ?_ ?_
  ·intro N hN
   refine setJ (fun r ρ=>∃ so:List PyData,so.length = 6 /\ (∀ d ∈ so,NoB bs d) /\ r = .ow (.list so) /\ ρ = [some (.io (penD ns k1 l1)),some (.fz (enD (b,bs))),some (.fz (bxD b)),some (.fz (tupD bs)),some (.fz (.int (i:Nat))),none,none,none,none,none,none,none,none,none]) (fun Q hQ=>?_) ?_
   ·refine ⟨_,hat,log_lt hvb,_,hat,le_size (by simp),?_⟩
    refine mapC (fun d=>.tuple ((bs.map PyData.int).take (i:Int).toNat ++ [d] ++ (bs.map PyData.int).drop ((i:Int) + 1).toNat)) ?_ ?_
    ·intro d hd N' hN'
     exact ⟨by omega,le_size (by simp; omega),by show (0:Int) <= (i:Int) + 1; omega,le_size (by simp; omega),hN'⟩
    ·refine hQ _ _ ⟨_,rfl,?_,rfl,rfl⟩
     intro d hd
     simp only [List.map_cons,List.map_nil,List.mem_cons,List.not_mem_nil,or_false] at hd
     rcases hd with rfl | rfl | rfl | rfl | rfl | rfl
     ·exact NoB.cut rfl rfl
     ·exact NoB.cut rfl rfl
     ·exact NoB.cut rfl rfl
     ·exact NoB.cut rfl rfl
     ·exact NoB.cut rfl rfl
     ·exact NoB.cut rfl rfl
   ·rintro r ρ' ⟨so,e1,e2,rfl,rfl⟩
    exact hN _ ⟨so,e1,e2,rfl⟩
  rintro _ ⟨so,hso,hsB,rfl⟩
  with_reducible refine cutS (fun ρ=>∃ so:List PyData,so.length = 12 /\ (∀ d ∈ so,NoB bs d) /\ ρ = [some (.io (penD ns k1 l1)),some (.fz (enD (b,bs))),some (.fz (bxD b)),some (.fz (tupD bs)),some (.fz (.int (i:Nat))),some (.ow (.list so)),none,none,none,none,none,none,none,none]) ?_ ?_
  ·intro N hN
   refine setJ (fun r ρ=>(∃ so:List PyData,so.length = 12 /\ (∀ d ∈ so,NoB bs d) /\ r = .ow (.list so)) /\ ρ = [some (.io (penD ns k1 l1)),some (.fz (enD (b,bs))),some (.fz (bxD b)),some (.fz (tupD bs)),some (.fz (.int (i:Nat))),some (.ow (.list so)),none,none,none,none,none,none,none,none]) (fun Q hQ=>?_) ?_
   ·refine addJ [.list (bs.map PyData.int),.tuple ((bs.map PyData.int).drop (1:Int).toNat),.tuple (bs.map PyData.int ++ (bs.map PyData.int).take (1:Int).toNat),.none,.int 0,.dict []] rfl rfl (fun Q' hQ'=>?_) (le_size (by simp; omega)) (hQ _ _ ⟨⟨_,?_,?_,rfl⟩,rfl⟩)
    ·exact ⟨by decide,by decide,le_size (by simp; omega),hQ'⟩
    ·rw [List.length_append,hso]; rfl
    ·intro d hd
     rcases List.mem_append.mp hd with z | z
     ·exact hsB d z
     simp only [List.mem_cons,List.not_mem_nil,or_false] at z
     rcases z with rfl | rfl | rfl | rfl | rfl | rfl
     ·exact ⟨okL (okI _),fun l _ z=>by cases z⟩
     ·exact ⟨okT (okDrop (okI _)),fun l hl=>ne_len (by rw [List.length_drop,hbm]; show bs.length - 1 ≠ l.length; omega)⟩
     ·exact ⟨okT (okAdd (okI _) (okTake (okI _))),fun l hl=>ne_len (by rw [List.length_append,List.length_take,hbm]; show bs.length + min 1 bs.length ≠ l.length; omega)⟩
     ·exact ⟨rfl,fun l _ z=>by cases z⟩
     ·exact ⟨rfl,fun l _ z=>by cases z⟩
     ·exact ⟨rfl,fun l _ z=>by cases z⟩
   ·rintro r ρ' ⟨⟨so',e1,e2,rfl⟩,rfl⟩
    exact hN _ ⟨so',e1,e2,rfl⟩
  rintro _ ⟨so2,hso2,hsB2,rfl⟩
  with_reducible refine cutS (fun ρ=>ρ = [some (.io (penD ns k1 l1)),some (.fz (enD (b,bs))),some (.fz (bxD b)),some (.fz (tupD bs)),some (.fz (.int (i:Nat))),some (.ow (.list so2)),some (.fz (tupD b.1)),some (.fz (tupD b.2)),none,none,none,none,none,none]) ?_ ?_
  ·intro N hN
   exact ⟨rfl,hN _ rfl⟩
  rintro _ rfl
  have hlo:tupD b.1 ≠ bxD b:=fun z=>by
   injection z with z
   cases e:b.1 with
   | nil=>rw [e] at z; cases z
   | cons x l=>rw [e] at z; injection z with z _; cases z
  with_reducible refine cutS (fun ρ=>∃ ot:List PyData,ot.length = 7 /\ (∀ d ∈ ot,NoX b d) /\ ρ = [some (.io (penD ns k1 l1)),some (.fz (enD (b,bs))),some (.fz (bxD b)),some (.fz (tupD bs)),some (.fz (.int (i:Nat))),some (.ow (.list so2)),some (.fz (tupD b.1)),some (.fz (tupD b.2)),some (.ow (.list ot)),none,none,none,none,none]) ?_ ?_
  ·intro N hN
   refine setJ (fun r ρ=>∃ ot:List PyData,ot.length = 7 /\ (∀ d ∈ ot,NoX b d) /\ r = .ow (.list ot) /\ ρ = [some (.io (penD ns k1 l1)),some (.fz (enD (b,bs))),some (.fz (bxD b)),some (.fz (tupD bs)),some (.fz (.int (i:Nat))),some (.ow (.list so2)),some (.fz (tupD b.1)),some (.fz (tupD b.2)),none,none,none,none,none,none]) (fun Q hQ=>?_) ?_
   ·refine ⟨le_size (by simp; omega),le_size (by simp; omega),hQ _ _ ⟨_,rfl,?_,rfl,rfl⟩⟩
    intro d hd
    simp only [List.mem_cons,List.not_mem_nil,or_false] at hd
    rcases hd with rfl | rfl | rfl | rfl | rfl | rfl | rfl
    ·exact ⟨okL (okAll2 (okTI _) (okTI _)),fun z=>by cases z⟩
    ·exact ⟨okT (okAll2 (okL (okI _)) (okL (okI _))),ne_one fun z=>by cases z⟩
    ·exact ⟨okT (okAll3 (okTI _) (okTI _) (okTI _)),fun z=>by cases z⟩
    ·exact ⟨okT (okAll2 (okT (okAdd (okI _) (okOne rfl))) (okT (okAdd (okI _) (okOne rfl)))),ne_one (ne_len (by rw [List.length_append,hlm]; show b.1.length + 1 ≠ b.1.length; omega))⟩
    ·exact ⟨okTI _,hlo⟩
    ·exact ⟨rfl,fun z=>by cases z⟩
    ·exact ⟨okT (okOne (okTI _)),fun z=>by cases z⟩
   ·rintro r ρ' ⟨ot,e1,e2,rfl,rfl⟩
    exact hN _ ⟨ot,e1,e2,rfl⟩
  rintro _ ⟨p1,ho1,hX1,rfl⟩
  with_reducible refine cutS (fun ρ=>∃ ot:List PyData,ot.length = 10 /\ (∀ d ∈ ot,NoX b d) /\ ρ = [some (.io (penD ns k1 l1)),some (.fz (enD (b,bs))),some (.fz (bxD b)),some (.fz (tupD bs)),some (.fz (.int (i:Nat))),some (.ow (.list so2)),some (.fz (tupD b.1)),some (.fz (tupD b.2)),some (.ow (.list ot)),none,none,none,none,none]) ?_ ?_
  ·intro N hN
   refine setJ (fun r ρ=>(∃ ot:List PyData,ot.length = 10 /\ (∀ d ∈ ot,NoX b d) /\ r = .ow (.list ot)) /\ ρ = [some (.io (penD ns k1 l1)),some (.fz (enD (b,bs))),some (.fz (bxD b)),some (.fz (tupD bs)),some (.fz (.int (i:Nat))),some (.ow (.list so2)),some (.fz (tupD b.1)),some (.fz (tupD b.2)),some (.ow (.list p1)),none,none,none,none,none]) (fun Q hQ=>?_) ?_
   ·refine addJ [.str "box",.tuple [.tuple (b.1.map PyData.int ++ [.bool true]),tupD b.2],.tuple [.tuple ([.int 1] ++ b.1.map PyData.int),tupD b.2]] rfl rfl (fun Q' hQ'=>?_) (le_size (by simp; omega)) (hQ _ _ ⟨⟨_,?_,?_,rfl⟩,rfl⟩)
    ·exact ⟨le_size (by simp; omega),le_size (by simp; omega),hQ'⟩
    ·rw [List.length_append,ho1]; rfl
    ·intro d hd
     rcases List.mem_append.mp hd with z | z
     ·exact hX1 d z
     simp only [List.mem_cons,List.not_mem_nil,or_false] at z
     rcases z with rfl | rfl | rfl
     ·exact ⟨rfl,fun z=>by cases z⟩
     ·exact ⟨okT (okAll2 (okT (okAdd (okI _) (okOne rfl))) (okTI _)),ne_one (ne_in (d:=.bool true) (by simp) rfl)⟩
     ·exact ⟨okT (okAll2 (okT (okAdd (okOne rfl) (okI _))) (okTI _)),ne_one (ne_len (by rw [List.length_append,hlm]; show 1 + b.1.length ≠ b.1.length; omega))⟩
   ·rintro r ρ' ⟨⟨ot,e1,e2,rfl⟩,rfl⟩
    exact hN _ ⟨ot,e1,e2,rfl⟩
  rintro _ ⟨p2,ho2,hX2,rfl⟩
  with_reducible refine cutS (fun ρ=>∃ ot:List PyData,ot.length <= 14 /\ (∀ d ∈ ot,NoX b d) /\ ρ = [some (.io (penD ns k1 l1)),some (.fz (enD (b,bs))),some (.fz (bxD b)),some (.fz (tupD bs)),some (.fz (.int (i:Nat))),some (.ow (.list so2)),some (.fz (tupD b.1)),some (.fz (tupD b.2)),some (.ow (.list ot)),none,none,none,none,none]) ?_ ?_
  ·intro N hN
   have n1:=Nice.tup b.1
   have n2:=Nice.tup []
   refine ⟨n1.p,n2.p,n1.sh (by decide),n2.sh (by decide),mixAll_ints b.1 [],ite2 (fun h=>?_) (fun h=>hN _ ⟨p2,by omega,hX2,rfl⟩)⟩
   have h:(!sameAll (b.1.map PyData.int) (([]:List Int).map PyData.int)) = true:=h
   rw [sameAll_ints] at h
   have hne:b.1 ≠ []:=fun z=>by rw [z] at h; simp at h
   obtain ⟨x,lo,ex⟩:∃ x lo,b.1 = x :: lo:=by
    cases e:b.1 with
    | nil=>exact absurd e hne
    | cons x lo=>exact ⟨x,lo,rfl⟩
   obtain ⟨y,hi',ey⟩:∃ y hi',b.2 = y :: hi':=by
    cases e:b.2 with
    | nil=>rw [e,ex] at hb2; simp at hb2
    | cons y hi'=>exact ⟨y,hi',rfl⟩
   obtain ⟨h0,u,eu⟩:∃ h0 u,b.2 = h0 ++ [u]:=by
    rcases List.eq_nil_or_concat b.2 with e | ⟨a,c,e⟩
    ·rw [e] at ey; cases ey
    ·exact ⟨a,c,by simpa using e⟩
   have ax:atI (b.1.map PyData.int) 0 = some (.int x):=by rw [ex]; exact atI_nat (j:=0) rfl
   have ay:atI (b.2.map PyData.int) 0 = some (.int y):=by rw [ey]; exact atI_nat (j:=0) rfl
   have au:atI (b.2.map PyData.int) (-1) = some (.int u):=by rw [eu]; exact at_last h0 u
   have nx:=Nice.int 0 x
   have ny:=Nice.int 0 y
   have ni:=Nice.int 0 1
   with_reducible refine cutS (fun ρ=>∃ ot:List PyData,ot.length = 13 /\ (∀ d ∈ ot,NoX b d) /\ ρ = [some (.io (penD ns k1 l1)),some (.fz (enD (b,bs))),some (.fz (bxD b)),some (.fz (tupD bs)),some (.fz (.int (i:Nat))),some (.ow (.list so2)),some (.fz (tupD b.1)),some (.fz (tupD b.2)),some (.ow (.list ot)),none,none,none,none,none]) ?_ ?_
   ·intro M hM
    refine setJ (fun r ρ=>(∃ ot:List PyData,ot.length = 13 /\ (∀ d ∈ ot,NoX b d) /\ r = .ow (.list ot)) /\ ρ = [some (.io (penD ns k1 l1)),some (.fz (enD (b,bs))),some (.fz (bxD b)),some (.fz (tupD bs)),some (.fz (.int (i:Nat))),some (.ow (.list so2)),some (.fz (tupD b.1)),some (.fz (tupD b.2)),some (.ow (.list p2)),none,none,none,none,none]) (fun Q hQ=>?_) ?_
    ·refine addJ [.tuple [.tuple ([.int (x + 1)] ++ (b.1.map PyData.int).drop (1:Int).toNat),tupD b.2],.tuple [tupD b.1,.tuple ((b.2.map PyData.int).take (if (-1:Int) < 0 then ((-1:Int) + (b.2.map PyData.int).length).toNat else (-1:Int).toNat) ++ [.int (u + 1)])],.tuple [.tuple [],.tuple []]] rfl rfl (fun Q' hQ'=>?_) (le_size (by simp; omega)) (hQ _ _ ⟨⟨_,?_,?_,rfl⟩,rfl⟩)
     ·exact ⟨_,ax,by decide,le_size (by simp; omega),by rw [if_pos (by decide),hhm,ey]; simp,_,au,le_size (by simp; omega),hQ'⟩
     ·rw [List.length_append,ho2]; rfl
     ·intro d hd
      rcases List.mem_append.mp hd with z | z
      ·exact hX2 d z
      simp only [List.mem_cons,List.not_mem_nil,or_false] at z
      rcases z with rfl | rfl | rfl
      ·refine ⟨okT (okAll2 (okT (okAdd (okOne rfl) (okDrop (okI _)))) (okTI _)),ne_one fun z=>?_⟩
       injection z with z
       rw [ex] at z
       injection z with z _
       injection z with z
       omega
      ·refine ⟨okT (okAll2 (okTI _) (okT (okAdd (okTake (okI _)) (okOne rfl)))),ne_two fun z=>?_⟩
       injection z with z
       rw [eu,take_init,List.map_append] at z
       have z:=List.append_cancel_left z
       injection z with z _
       injection z with z
       omega
      ·exact ⟨rfl,ne_one (ne_len (by rw [ex]; simp))⟩
    ·rintro r ρ' ⟨⟨ot,e1,e2,rfl⟩,rfl⟩
     exact hM _ ⟨ot,e1,e2,rfl⟩
   rintro _ ⟨p3,ho3,hX3,rfl⟩
   refine ⟨_,ax,by decide,le_size (by simp; omega),_,ay,by decide,le_size (by simp; omega),Nat.lt_of_le_of_lt (show p3.length <= 1000 by omega) (by decide),?_⟩
   refine hN _ ⟨p3 ++ [.tuple [.tuple ([.bool (decide (x = 1))] ++ (b.1.map PyData.int).drop (1:Int).toNat),.tuple ([.bool (decide (y = 1))] ++ (b.2.map PyData.int).drop (1:Int).toNat)]],by rw [List.length_append,ho3]; exact Nat.le_refl 14,fun d hd=>?_,rfl⟩
   rcases List.mem_append.mp hd with z | z
   ·exact hX3 d z
   ·rw [List.mem_singleton.mp z]
    exact ⟨okT (okAll2 (okT (okAdd (okOne rfl) (okDrop (okI _)))) (okT (okAdd (okOne rfl) (okDrop (okI _))))),ne_one (ne_in (d:=.bool (decide (x = 1))) (by simp) rfl)⟩
  rintro _ ⟨p4,ho4,hX4,rfl⟩
  with_reducible refine cutS (fun ρ=>∃ (ot:List PyData) (o12:Option Sl),ot.length <= 20 /\ (∀ d ∈ ot,NoX b d) /\ (o12 = none \/ ∃ d,o12 = some (.fz d)) /\ ρ = [some (.io (penD ns k1 l1)),some (.fz (enD (b,bs))),some (.fz (bxD b)),some (.fz (tupD bs)),some (.fz (.int (i:Nat))),some (.ow (.list so2)),some (.fz (tupD b.1)),some (.fz (tupD b.2)),some (.ow (.list ot)),none,none,none,o12,none]) ?_ ?_
  ·intro N hN
   refine ⟨by decide,by decide,?_⟩
   have hr2:(rangeD 0 (2:Int).toNat).length = 2:=by decide
   have hr0:∀ d ∈ rangeD 0 (2:Int).toNat,d = .int 0 \/ d = .int 1:=by
    intro d hd
    have hd:d ∈ [PyData.int 0,.int 1]:=hd
    simpa using hd
   generalize rangeD 0 (2:Int).toNat = L at hr2 hr0 ⊢
   refine loopC (fun rest ρ=>∃ (ot:List PyData) (o12:Option Sl),ot.length + 3 * rest.length <= 20 /\ (∀ d ∈ ot,NoX b d) /\ (∀ d ∈ rest,d = .int 0 \/ d = .int 1) /\ (o12 = none \/ ∃ d,o12 = some (.fz d)) /\ ρ = [some (.io (penD ns k1 l1)),some (.fz (enD (b,bs))),some (.fz (bxD b)),some (.fz (tupD bs)),some (.fz (.int (i:Nat))),some (.ow (.list so2)),some (.fz (tupD b.1)),some (.fz (tupD b.2)),some (.ow (.list ot)),none,none,none,o12,none]) ?_ ?_ ⟨p4,none,by rw [hr2]; omega,hX4,hr0,.inl rfl,rfl⟩
   ·rintro d ds ρ ⟨ot,o12,hol,hoX,hds,h12,rfl⟩ M hM
    have hds':∀ d ∈ ds,d = .int 0 \/ d = .int 1:=fun d hd=>hds d (List.mem_cons_of_mem _ hd)
    have hol':ot.length + 3 * (ds.length + 1) <= 20:=by simpa using hol
    obtain ⟨e,m,rfl,hem,hml,hpick⟩:∃ (e:Int) (m:List Int),d = .int e /\ atI [tupD b.1,tupD b.2] e = some (tupD m) /\ m.length <= 3 /\ ∀ rim:PyData,okD rim = true -> rim ≠ tupD m -> ∃ v,atI [PyData.tuple [rim,tupD b.2],PyData.tuple [tupD b.1,rim]] e = some v /\ NoX b v:=by
     rcases hds d List.mem_cons_self with rfl | rfl
     ·exact ⟨0,b.1,rfl,rfl,hb1,fun rim h1 h2=>⟨_,rfl,okT (okAll2 h1 (okTI _)),ne_one h2⟩⟩
     ·exact ⟨1,b.2,rfl,rfl,by omega,fun rim h1 h2=>⟨_,rfl,okT (okAll2 (okTI _) h1),ne_two h2⟩⟩
    with_reducible refine gnC rfl ?_
    refine ⟨_,hem,?_⟩
    refine (?_:dLoopC _ _ _ _ (enumD (m.map PyData.int)) _)
    refine loopC (fun rest ρ=>∃ (dn rs:List Int) (ot:List PyData) (o12:Option Sl),m = dn ++ rs /\ rest = (rs.zipIdx dn.length).map (fun p=>PyData.tuple [.int (p.2:Nat),.int p.1]) /\ ot.length + rs.length + 3 * ds.length <= 20 /\ (∀ d ∈ ot,NoX b d) /\ (o12 = none \/ ∃ d,o12 = some (.fz d)) /\ ρ = [some (.io (penD ns k1 l1)),some (.fz (enD (b,bs))),some (.fz (bxD b)),some (.fz (tupD bs)),some (.fz (.int (i:Nat))),some (.ow (.list so2)),some (.fz (tupD b.1)),some (.fz (tupD b.2)),some (.ow (.list ot)),some (.fz (.int e)),none,none,o12,none]) ?_ ?_ ⟨[],m,ot,o12,rfl,by rw [enumD,List.zipIdx_map,List.map_map]; rfl,by omega,hoX,h12,rfl⟩
    ·rintro d es ρ ⟨dn,rs,ot,o12,em,er,hol2,hoX,h12,rfl⟩ M2 hM2
     cases rs with
     | nil=>cases er
     | cons x rs =>
      rw [List.zipIdx_cons,List.map_cons] at er
      cases er
      rw [List.length_cons] at hol2
      have hml2:dn.length + (rs.length + 1) <= 3:=by rw [em,List.length_append,List.length_cons] at hml; exact hml
      have hmm:(m.map PyData.int).length <= 3:=by rw [List.length_map]; exact hml
      refine ⟨rfl,?_⟩
      refine ite2 (fun h=>?_) (fun h=>hM2 _ ⟨dn ++ [x],rs,ot,o12,by rw [em]; simp,by rw [List.length_append]; rfl,by omega,hoX,h12,rfl⟩)
      with_reducible refine cutS (fun ρ=>∃ rm:PyData,okD rm = true /\ rm ≠ tupD m /\ ρ = [some (.io (penD ns k1 l1)),some (.fz (enD (b,bs))),some (.fz (bxD b)),some (.fz (tupD bs)),some (.fz (.int (i:Nat))),some (.ow (.list so2)),some (.fz (tupD b.1)),some (.fz (tupD b.2)),some (.ow (.list ot)),some (.fz (.int e)),some (.fz (.int (dn.length:Nat))),some (.fz (.int x)),some (.fz rm),none]) ?_ ?_
      ·intro M3 hM3
       refine setJ (fun r ρ=>(∃ rm:PyData,okD rm = true /\ rm ≠ tupD m /\ r = .fz rm) /\ ρ = [some (.io (penD ns k1 l1)),some (.fz (enD (b,bs))),some (.fz (bxD b)),some (.fz (tupD bs)),some (.fz (.int (i:Nat))),some (.ow (.list so2)),some (.fz (tupD b.1)),some (.fz (tupD b.2)),some (.ow (.list ot)),some (.fz (.int e)),some (.fz (.int (dn.length:Nat))),some (.fz (.int x)),o12,none]) (fun Q hQ=>?_) ?_
       ·refine ⟨_,hem,by omega,le_size (by simp; omega),_,hem,by show (0:Int) <= (dn.length:Int) + 1; omega,le_size (by simp; omega),hQ _ _ ⟨⟨_,?_,?_,rfl⟩,rfl⟩⟩
        ·exact okT (okAdd (okAdd (okTake (okI _)) (okOne rfl)) (okDrop (okI _)))
        ·exact ne_in (d:=.bool (decide (x = 1))) (List.mem_append_left _ (List.mem_append_right _ List.mem_cons_self)) rfl
       ·rintro r ρ' ⟨⟨rm,e1,e2,rfl⟩,rfl⟩
        rcases h12 with rfl | ⟨d,rfl⟩
        ·exact hM3 _ ⟨rm,e1,e2,rfl⟩
        ·exact hM3 _ ⟨rm,e1,e2,rfl⟩
      rintro _ ⟨rm,hr1,hr2',rfl⟩
      obtain ⟨v,hv1,hv2⟩:=hpick rm hr1 hr2'
      refine ⟨v,hv1,Nat.lt_of_le_of_lt (show ot.length <= 1000 by omega) (by decide),?_⟩
      refine hM2 _ ⟨dn ++ [x],rs,ot ++ [v],some (.fz rm),by rw [em]; simp,by rw [List.length_append]; rfl,by rw [List.length_append,List.length_singleton]; omega,fun d hd=>?_,.inr ⟨_,rfl⟩,rfl⟩
      rcases List.mem_append.mp hd with z | z
      ·exact hoX d z
      ·rw [List.mem_singleton.mp z]; exact hv2
    ·rintro ρ ⟨dn,rs,ot,o12,em,er,hol2,hoX,h12,rfl⟩
     exact hM _ ⟨ot,o12,by omega,hoX,hds',h12,rfl⟩
   ·rintro ρ ⟨ot,o12,hol,hoX,_,h12,rfl⟩
    exact hN _ ⟨ot,o12,by omega,hoX,h12,rfl⟩
  rintro _ ⟨ot,o12,hol,hoX,h12,rfl⟩
  have hz:(bs.length:Int) = bs.length:=rfl
  with_reducible refine cutS (fun ρ=>∃ fo:List PyData,fo.length <= 40 /\ (∀ d ∈ fo,NoE bs.length b d) /\ ρ = [some (.io (penD ns k1 l1)),some (.fz (enD (b,bs))),some (.fz (bxD b)),some (.fz (tupD bs)),some (.fz (.int (i:Nat))),some (.fz (.list so2)),some (.fz (tupD b.1)),some (.fz (tupD b.2)),some (.fz (.list ot)),none,none,none,o12,some (.ow (.list fo))]) ?_ ?_
  ·intro N hN
   refine setJ (fun r ρ=>∃ fo:List PyData,fo.length <= 40 /\ (∀ d ∈ fo,NoE bs.length b d) /\ r = .ow (.list fo) /\ ρ = [some (.io (penD ns k1 l1)),some (.fz (enD (b,bs))),some (.fz (bxD b)),some (.fz (tupD bs)),some (.fz (.int (i:Nat))),some (.fz (.list so2)),some (.fz (tupD b.1)),some (.fz (tupD b.2)),some (.fz (.list ot)),none,none,none,o12,none]) (fun Q hQ=>?_) ?_
   ·refine ⟨le_size (by omega),mapC (fun d=>.tuple [bxD b,d]) (fun d hd N' hN'=>hN') ⟨le_size (by omega),mapC (fun d=>.tuple [d,tupD bs]) (fun d hd N' hN'=>hN') ⟨le_size (by simp; omega),hQ _ _ ⟨_,?_,?_,rfl,?_⟩⟩⟩⟩
    ·rw [List.length_append,List.length_map,List.length_map]; omega
    ·intro d hd
     rcases List.mem_append.mp hd with z | z
     ·obtain ⟨e,he,rfl⟩:=List.mem_map.mp z
      exact noE_b rfl (hsB2 e he)
     ·obtain ⟨e,he,rfl⟩:=List.mem_map.mp z
      exact noE_x (hoX e he)
    ·rcases h12 with rfl | ⟨d,rfl⟩ <;> rfl
   ·rintro r ρ' ⟨fo,e1,e2,rfl,rfl⟩
    exact hN _ ⟨fo,e1,e2,rfl⟩
  rintro _ ⟨fo,hfo,hfE,rfl⟩
  refine ⟨le_size (by simp; omega),?_⟩
  refine q _ k1 l1 _ (fun r hr=>?_) (by rw [List.length_append]; show fo.length + 7 <= 100; omega) hk1 hl1
  rcases List.mem_append.mp hr with z | z
  ·exact hfE r z
  simp only [List.mem_cons,List.not_mem_nil,or_false] at z
  rcases z with rfl | rfl | rfl | rfl | rfl | rfl | rfl
  ·exact ⟨okL (okAll2 (okBx b) (okTI _)),fun ⟨_,z,_⟩=>by cases z⟩
  ·exact ⟨okT (okAll3 (okBx b) (okTI _) (okTI _)),fun ⟨_,z,_⟩=>by
     injection z with z
     cases congrArg List.length z⟩
  ·exact ⟨okT (okOne (okBx b)),fun ⟨_,z,_⟩=>by cases z⟩
  ·exact ⟨rfl,fun ⟨_,z,_⟩=>by cases z⟩
  ·exact ⟨rfl,fun ⟨_,z,_⟩=>by cases z⟩
  ·exact ⟨rfl,fun ⟨_,z,_⟩=>by cases z⟩
  ·refine ⟨okTI _,fun ⟨l,z,_⟩=>?_⟩
   injection z with z
   cases e:bs with
   | nil=>rw [e] at z; cases z
   | cons x l=>rw [e] at z; injection z with z _; cases z
end
end R46
namespace R46
open PySem PySem.Spec L2 L3 PyProof.Rows
noncomputable abbrev Ety:Type:=(List Int × List Int) × List Int
noncomputable def NoP (bb:List (List Int × List Int)) (z:Int) (r:PyData):Prop:=(okD r = true \/ r = opqD) /\ ¬ ∃ ys:List Ety,r = .list (ys.map enD) /\ ys.map (·.1) = bb /\ ∀ y ∈ ys,(y.2.length:Int) = z
theorem NoP.rgt {ss cl:List Int} {z n:Int} {r:PyData} (h:NoP (bxs ss) z r):isB (Rgt ss cl z n r) = false:=isB_f fun ⟨ys,e1,e2,e3,_⟩=>h.2 ⟨ys,e1,e2,e3⟩
theorem bxs_nodup {ss:List Int} (h:S0 ss):(bxs ss).Nodup:=by
 unfold bxs
 have hp:=plc_nodup h.p
 refine List.pairwise_flatMap.mpr ⟨fun lo hlo=>?_,hp.imp fun {a b} hab x hx y hy z=>?_⟩
 ·rw [List.pairwise_map,<- plc_filter (plc_in hlo)]
  exact (hp.filter _).imp fun {a b} hab z=>hab (by injection z)
 ·obtain ⟨u,_,rfl⟩:=List.mem_map.mp hx
  obtain ⟨v,_,rfl⟩:=List.mem_map.mp hy
  exact hab (by injection z)
theorem okEn (x:Ety):okD (enD x) = true:=okT (okAll2 (okBx _) (okTI _))
theorem okEs (xs:List Ety):okAll (xs.map enD) = true:=okAll_of fun d hd=>by
 obtain ⟨x,_,rfl⟩:=List.mem_map.mp hd
 exact okEn x
theorem noP_len {bb:List (List Int × List Int)} {z:Int} {ds:List PyData} (h1:okAll ds = true) (h2:ds.length ≠ bb.length):NoP bb z (.list ds):=⟨.inl (okL h1),fun ⟨ys,e,eb,_⟩=>by
  injection e with e
  rw [e,<- eb,List.length_map,List.length_map] at h2
  exact h2 rfl⟩
theorem noP_at {bb:List (List Int × List Int)} {z:Int} {ds:List PyData} {i:Nat} {b:List Int × List Int} {d:PyData} (h1:okAll ds = true) (hb:bb[i]? = some b) (hd:ds[i]? = some d) (hn:¬ Ent z b d):NoP bb z (.list ds):=⟨.inl (okL h1),fun ⟨ys,e,eb,hl⟩=>by
  injection e with e
  rw [e,List.getElem?_map,Option.map_eq_some_iff] at hd
  obtain ⟨y,hy,rfl⟩:=hd
  rw [<- eb,List.getElem?_map,hy] at hb
  have hb:some y.1 = some b:=hb
  injection hb with hb
  exact hn ⟨y.2,by rw [<- hb],hl y (List.mem_of_getElem? hy)⟩⟩
theorem get_cut {α:Type} {l m:List α} {i:Nat} {d:α} (h:i <= l.length):(l.take i ++ [d] ++ m)[i]? = some d:=by
 rw [List.append_assoc,List.getElem?_append_right (by rw [List.length_take]; omega),List.length_take,Nat.min_eq_left h,Nat.sub_self]
 rfl
structure PaX (z:Int) (xs:List Ety):Prop where
 one:1 <= xs.length
 len:xs.length <= 14400
 z1:1 <= z
 z2:z <= 200
 nd:(xs.map (·.1)).Nodup
 lo:∀ x ∈ xs,x.1.1.length <= 3 /\ x.1.2.length = x.1.1.length
 bl:∀ x ∈ xs,(x.2.length:Int) = z
 bb:∀ x ∈ xs,∀ v ∈ x.2,v.natAbs <= 10 ^ 36
noncomputable def prE (x:Ety):List Key × List Key × PyData:=(x.1.1.map Sum.inl,x.1.2.map Sum.inl,tupD x.2)
theorem prB_en (x:Ety):prB (prE x) = enD x:=by
 unfold prB prE
 simp only [List.map_map]
 rfl
theorem NoP.of {bb:List (List Int × List Int)} {z:Int} {r:PyData} (h:okD r = true) (n:∀ ds,r ≠ .list ds):NoP bb z r:=⟨.inl h,fun ⟨_,e,_⟩=>n _ e⟩
theorem big_size {n:Nat} (h:n <= 100000):n <= sizeLine:=Nat.le_trans h (by decide)
section
variable {P:Program} {w:World} {K:PySem.W.Frag} {mg:Str -> Option Value} {base:Heap}
structure CalsSP (P:Program) (w:World) (K:PySem.W.Frag) (mg:Str -> Option Value) (base:Heap):Prop where
 law_take:Cal P w K mg base 2 "_law_take" ["_law_state","_law_most"] (conSp K cTake)
 law_rows_spoilt:Cal P w K mg base 3 "_law_rows_spoilt" ["_law_state","_law_row"] (conSp K cRS)
noncomputable def cSpX:Con:=fun args Q=>∃ (ns:List Int) (k l z:Int) (xs:List Ety),args = [.io (penD ns k l),.fz (.list (xs.map enD))] /\ 0 <= k /\ 0 <= l /\ PaX z xs /\
 ∀ (rs:List PyData) (k' l':Int) (o:Ev),(∀ r ∈ rs,NoP (xs.map (·.1)) z r) -> rs.length <= 200 -> 0 <= k' -> 0 <= l' -> Q (.ow (.list rs)) (some (.io (penD ns k' l')) :: o)
theorem scSpX:FnScope ["_law_state","_law_paper","_law_at","_law_found","_law_to","_law_mixed_up"] ["_law_state","_law_paper"] (defScope (top 42)):=⟨rfl,rfl,rfl,by decide +kernel,rfl,by decide +kernel,by decide +kernel⟩
theorem ok_spX {f:Addr} {fd:FuncData} (F:Fun K "_law_spoilt" "_law_spoilt" (top 42) f fd) (T:Txt mg) (C:CalsSP P w K mg base):FnOk P w K mg base CX0 4 f fd ["_law_state","_law_paper"] (conSp K cSpX):=by
 have S:=scSpX
 refine wfn F S (fun cdv A outer s H E hr=>(s_cons (s_set (i:=2) S.nd rfl (Or.inr rfl) (w_fnI C.law_take (hr.mono (by first | decide | omega)) (wa_cons (wn 0) (wa_cons (wx (w_callB ok_len (call_lenK (K:=K) rfl) T.len_ PySem.boot_len (wa_cons (wn 1) wa_nil))) wa_nil))))
     (s_cons (s_setC (i:=3) S.nd rfl rfl rfl (own:=["_law_row"]) (fr:=[1,2]) (by kernel_rfl) (i_seq rfl (w_fnI C.law_rows_spoilt (hr.mono (by first | decide | omega)) (wa_cons (wn 0) (wa_cons (wx (w_ix rfl (wn 1) (wn 2))) wa_nil)))) (fun _ _ _ _=>(g_name (i:=0) (by decide +kernel:List.Nodup (["_law_row","_law_paper","_law_at"]:List Str)) rfl (Or.inl rfl))) (fun _ _ _ _=>if0) (fun _ _ _ _=>(w_bin ok_add op_addD (wx (w_bin ok_add op_addD (wx (w_slHiL rfl (wn 1) (wn 2))) (wx (w_lst (wa_cons (wx (wv 0)) wa_nil))))) (wx (w_slLoL rfl (wn 1) (wx (w_bin ok_add op_addD (wn 2) (wx w_int))))))))
     (s_cons (s_set (i:=3) S.nd rfl (Or.inl rfl) (w_bin ok_add op_addD (wn 3) (wx (w_lst (wa_cons (wx (w_bin ok_add op_addD (wx (w_slHiL rfl (wn 1) (wn 2))) (wx (w_slLoL rfl (wn 1) (wx (w_bin ok_add op_addD (wn 2) (wx w_int))))))) (wa_cons (wx (w_bin ok_add op_addD (wx (w_bin ok_add op_addD (wx (w_slHiL rfl (wn 1) (wn 2))) (wx (w_lst (wa_cons (wx (w_ix rfl (wn 1) (wn 2))) wa_nil))))) (wx (w_slLoL rfl (wn 1) (wn 2))))) (wa_cons (wx (w_bin ok_add op_addD (wn 1) (wx (w_slHiL rfl (wn 1) (wx w_int))))) wa_nil)))))))
     (s_cons (s_if (t_cmp ok_gt op_gt (wx (w_callB ok_len (call_lenK (K:=K) rfl) T.len_ PySem.boot_len (wa_cons (wn 1) wa_nil))) (wx w_int)) (s_cons (s_set (i:=4) S.nd rfl (Or.inl rfl) (w_bin ok_mod op_mod (wx (w_bin ok_add op_addD (wx (w_bin ok_add op_addD (wn 2) (wx w_int))) (wx (w_fnI C.law_take (hr.mono (by first | decide | omega)) (wa_cons (wn 0) (wa_cons (wx (w_bin ok_sub op_sub (wx (w_callB ok_len (call_lenK (K:=K) rfl) T.len_ PySem.boot_len (wa_cons (wn 1) wa_nil))) (wx w_int))) wa_nil)))))) (wx (w_callB ok_len (call_lenK (K:=K) rfl) T.len_ PySem.boot_len (wa_cons (wn 1) wa_nil)))))
     (s_cons (s_set (i:=5) S.nd rfl (Or.inl rfl) (w_callT ok_list (call_listK (K:=K) rfl) T.list_ boot_list (wa_cons (wn 1) wa_nil)))
     (s_cons (s_ix2 rfl rfl (w_tup (wa_cons (wx (w_ix rfl (wn 1) (wn 4))) (wa_cons (wx (w_ix rfl (wn 1) (wn 2))) wa_nil))) (wn 5) (wn 2) (wn 5) (wn 4))
     (s_one (s_expr (w_m ok_append rfl PySem.F.slot_list_append PySem.F.type_list_append mt_append (wn 3) (wa_cons (wx (wv 5)) wa_nil))))))) s_nil)
     (s_one (s_ret (w_bin ok_add op_addD (wn 3) (wx (w_lst (wa_cons (wx (w_callT ok_tuple (call_tupleK (K:=K) rfl) T.tuple_ boot_tuple (wa_cons (wn 1) wa_nil))) (wa_cons (wx w_non) (wa_cons (wx w_int) (wa_cons (wx w_str) (wa_cons (wx w_dnew) (wa_cons (wx (w_lst (wa_cons (wx (wv 1)) wa_nil))) (wa_cons (wx (w_dictB rfl rfl (hu6_of hr) T.dict_ (by decide +kernel) (wa_cons (wn 1) wa_nil))) (wa_cons (wx (w_lst wa_nil)) (wa_cons (wx w_bl) wa_nil))))))))))))))))))) ?_ ?_
 ·rintro args Qd ⟨ns,k,l,z,xs,rfl,_⟩; rfl
 ·rintro args Qd ⟨ns,k,l,z,xs,rfl,hk,hl,hx,q⟩
  refine ⟨noOw_of rfl,?_⟩
  have h1:=hx.one
  have h2:=hx.len
  have hz1:=hx.z1
  have hz2:=hx.z2
  have hxm:(xs.map enD).length = xs.length:=List.length_map _
  have hbm:(xs.map (·.1)).length = xs.length:=List.length_map _
  have hoks:=okEs xs
  with_reducible refine cutS (fun ρ=>∃ (i:Nat) (k1 l1:Int),i < xs.length /\ 0 <= k1 /\ 0 <= l1 /\ ρ = [some (.io (penD ns k1 l1)),some (.fz (.list (xs.map enD))),some (.fz (.int (i:Nat))),none,none,none]) ?_ ?_
  ·intro N hN
   refine ⟨ns,k,l,_,rfl,hk,hl,by rw [hxm]; omega,by rw [hxm]; omega,fun r k1 l1 _ r0 r1 hk1 hl1=>?_⟩
   rw [hxm] at r1
   obtain ⟨i,rfl⟩:=Int.eq_ofNat_of_zero_le r0
   exact hN _ ⟨i,k1,l1,by omega,hk1,hl1,rfl⟩
  rintro _ ⟨i,k0,l0,hi,hk0,hl0,rfl⟩
  obtain ⟨x,hxi⟩:∃ x,xs[i]? = some x:=⟨_,List.getElem?_eq_getElem hi⟩
  have hxe:x ∈ xs:=List.mem_of_getElem? hxi
  have hat:atI (xs.map enD) (i:Int) = some (enD x):=atI_nat (by rw [List.getElem?_map,hxi]; rfl)
  have hbi:(xs.map (·.1))[i]? = some x.1:=by rw [List.getElem?_map,hxi]; rfl
  have hb:=hx.bl x hxe
  have e1:(if ((i:Nat):Int) < 0 then ((i:Int) + (xs.map enD).length).toNat else (i:Int).toNat) = i:=by rw [if_neg (by omega)]; omega
  have e2:(if ((i:Nat):Int) + 1 < 0 then ((i:Int) + 1 + (xs.map enD).length).toNat else ((i:Int) + 1).toNat) = i + 1:=by rw [if_neg (by omega)]; omega
  with_reducible refine cutS (fun ρ=>∃ (fo:List PyData) (k1 l1:Int),fo.length <= 100 /\ (∀ d ∈ fo,NoP (xs.map (·.1)) z d) /\ 0 <= k1 /\ 0 <= l1 /\ ρ = [some (.io (penD ns k1 l1)),some (.fz (.list (xs.map enD))),some (.fz (.int (i:Nat))),some (.ow (.list fo)),none,none]) ?_ ?_
  ·intro N hN
   refine setJ (fun r ρ=>∃ (fo:List PyData) (k1 l1:Int),fo.length <= 100 /\ (∀ d ∈ fo,NoP (xs.map (·.1)) z d) /\ 0 <= k1 /\ 0 <= l1 /\ r = .ow (.list fo) /\ ρ = [some (.io (penD ns k1 l1)),some (.fz (.list (xs.map enD))),some (.fz (.int (i:Nat))),none,none,none]) (fun Q hQ=>?_) ?_
   ·refine ⟨_,hat,ns,k0,l0,x.1,x.2,rfl,hk0,hl0,(hx.lo x hxe).1,(hx.lo x hxe).2,by omega,by omega,hx.bb x hxe,fun rs k1 l1 _ hE hrl hk1 hl1=>?_⟩
    refine ⟨le_size (by omega),mapC (fun d=>.list ((xs.map enD).take (if ((i:Nat):Int) < 0 then ((i:Int) + (xs.map enD).length).toNat else (i:Int).toNat) ++ [d] ++ (xs.map enD).drop (if ((i:Nat):Int) + 1 < 0 then ((i:Int) + 1 + (xs.map enD).length).toNat else ((i:Int) + 1).toNat))) ?_ ?_⟩
    ·intro d hd N' hN'
     exact ⟨big_size (by simp; omega),big_size (by simp; omega),hN'⟩
    ·refine hQ _ _ ⟨_,k1,l1,by rw [List.length_map]; exact hrl,fun d hd=>?_,hk1,hl1,rfl,rfl⟩
     obtain ⟨e,he,rfl⟩:=List.mem_map.mp hd
     have hE:=hE e he
     rw [hb] at hE
     refine noP_at (okAdd (okAdd (okTake hoks) (okOne hE.1)) (okDrop hoks)) hbi ?_ hE.2
     rw [e1]
     exact get_cut (by rw [hxm]; omega)
   ·rintro r ρ' ⟨fo,k1,l1,f1,f2,hk1,hl1,rfl,rfl⟩
    exact hN _ ⟨fo,k1,l1,f1,f2,hk1,hl1,rfl⟩
  rintro _ ⟨f1,k1,l1,hf1,hF1,hk1,hl1,rfl⟩
  with_reducible refine cutS (fun ρ=>∃ (fo:List PyData),fo.length <= 103 /\ (∀ d ∈ fo,NoP (xs.map (·.1)) z d) /\ ρ = [some (.io (penD ns k1 l1)),some (.fz (.list (xs.map enD))),some (.fz (.int (i:Nat))),some (.ow (.list fo)),none,none]) ?_ ?_
  ·intro N hN
   refine setJ (fun r ρ=>(∃ fo:List PyData,fo.length <= 103 /\ (∀ d ∈ fo,NoP (xs.map (·.1)) z d) /\ r = .ow (.list fo)) /\ ρ = [some (.io (penD ns k1 l1)),some (.fz (.list (xs.map enD))),some (.fz (.int (i:Nat))),some (.ow (.list f1)),none,none]) (fun Q hQ=>?_) ?_
   ·refine addJ [.list ((xs.map enD).take (if ((i:Nat):Int) < 0 then ((i:Int) + (xs.map enD).length).toNat else (i:Int).toNat) ++ (xs.map enD).drop (if ((i:Nat):Int) + 1 < 0 then ((i:Int) + 1 + (xs.map enD).length).toNat else ((i:Int) + 1).toNat)),.list ((xs.map enD).take (if ((i:Nat):Int) < 0 then ((i:Int) + (xs.map enD).length).toNat else (i:Int).toNat) ++ [enD x] ++ (xs.map enD).drop (if ((i:Nat):Int) < 0 then ((i:Int) + (xs.map enD).length).toNat else (i:Int).toNat)),.list (xs.map enD ++ (xs.map enD).take (if (1:Int) < 0 then ((1:Int) + (xs.map enD).length).toNat else (1:Int).toNat))] rfl rfl (fun Q' hQ'=>?_) (le_size (by simp; omega)) (hQ _ _ ⟨⟨_,?_,?_,rfl⟩,rfl⟩)
    ·exact ⟨big_size (by simp; omega),_,hat,big_size (by simp; omega),big_size (by simp; omega),big_size (by simp; omega),hQ'⟩
    ·rw [List.length_append]; show f1.length + 3 <= 103; omega
    ·intro d hd
     rcases List.mem_append.mp hd with z | z
     ·exact hF1 d z
     simp only [List.mem_cons,List.not_mem_nil,or_false] at z
     rcases z with rfl | rfl | rfl
     ·refine noP_len (okAdd (okTake hoks) (okDrop hoks)) ?_
      rw [e1,e2,List.length_append,List.length_take,List.length_drop,hxm,hbm]
      omega
     ·refine noP_len (okAdd (okAdd (okTake hoks) (okOne (okEn x))) (okDrop hoks)) ?_
      rw [e1,List.length_append,List.length_append,List.length_take,List.length_drop,hxm,hbm]
      show min i xs.length + 1 + (xs.length - i) ≠ xs.length
      omega
     ·refine noP_len (okAdd hoks (okTake hoks)) ?_
      rw [List.length_append,List.length_take,hxm,hbm]
      show xs.length + min 1 xs.length ≠ xs.length
      omega
   ·rintro r ρ' ⟨⟨fo,f1,f2,rfl⟩,rfl⟩
    exact hN _ ⟨fo,f1,f2,rfl⟩
  rintro _ ⟨f2,hf2,hF2,rfl⟩
  with_reducible refine cutS (fun ρ=>∃ (fo:List PyData) (k1 l1:Int) (o4 o5:Option Sl),fo.length <= 104 /\ (∀ d ∈ fo,NoP (xs.map (·.1)) z d) /\ 0 <= k1 /\ 0 <= l1 /\ ρ = [some (.io (penD ns k1 l1)),some (.fz (.list (xs.map enD))),some (.fz (.int (i:Nat))),some (.ow (.list fo)),o4,o5]) ?_ ?_
  ·intro N hN
   refine ite2 (fun h=>?_) (fun h=>hN _ ⟨f2,k1,l1,none,none,by omega,hF2,hk1,hl1,rfl⟩)
   have h:(1:Int) < ((xs.map enD).length:Int):=of_decide_eq_true h
   rw [hxm] at h
   with_reducible refine cutS (fun ρ=>∃ (j:Nat) (k1 l1:Int),j < xs.length /\ j ≠ i /\ 0 <= k1 /\ 0 <= l1 /\ ρ = [some (.io (penD ns k1 l1)),some (.fz (.list (xs.map enD))),some (.fz (.int (i:Nat))),some (.ow (.list f2)),some (.fz (.int (j:Nat))),none]) ?_ ?_
   ·intro M hM
    refine ⟨ns,k1,l1,_,rfl,hk1,hl1,by rw [hxm]; omega,by rw [hxm]; omega,fun r k2 l2 _ r0 r1 hk2 hl2=>?_⟩
    rw [hxm] at r1
    obtain ⟨r',rfl⟩:=Int.eq_ofNat_of_zero_le r0
    have hm:((i:Int) + 1 + (r':Int)) % ((xs.map enD).length:Int) = (((i + 1 + r') % xs.length:Nat):Int):=by
     rw [hxm]
     exact (Int.natCast_emod (i + 1 + r') xs.length).symm
    refine ⟨by show (0:Int) < ((xs.map enD).length:Int); rw [hxm]; omega,?_⟩
    refine hM _ ⟨(i + 1 + r') % xs.length,k2,l2,Nat.mod_lt _ (by omega),?_,hk2,hl2,by rw [<- hm]; rfl⟩
    by_cases hc:i + 1 + r' < xs.length
    ·rw [Nat.mod_eq_of_lt hc]; omega
    ·rw [Nat.mod_eq_sub_mod (by omega),Nat.mod_eq_of_lt (by omega)]; omega
   rintro _ ⟨j,k2,l2,hj,hji,hk2,hl2,rfl⟩
   obtain ⟨y,hyj⟩:∃ y,xs[j]? = some y:=⟨_,List.getElem?_eq_getElem hj⟩
   have hatj:atI (xs.map enD) (j:Int) = some (enD y):=atI_nat (by rw [List.getElem?_map,hyj]; rfl)
   with_reducible refine cutS (fun ρ=>ρ = [some (.io (penD ns k2 l2)),some (.fz (.list (xs.map enD))),some (.fz (.int (i:Nat))),some (.ow (.list f2)),some (.fz (.int (j:Nat))),some (.ow (.list (xs.map enD)))]) ?_ ?_
   ·intro M hM
    exact hM _ rfl
   rintro _ rfl
   with_reducible refine cutS (fun ρ=>ρ = [some (.io (penD ns k2 l2)),some (.fz (.list (xs.map enD))),some (.fz (.int (i:Nat))),some (.ow (.list f2)),some (.fz (.int (j:Nat))),some (.ow (.list (((xs.map enD).set i (enD y)).set j (enD x))))]) ?_ ?_
   ·intro M hM
    exact ⟨_,hatj,_,hat,i,j,by rw [hxm]; exact ix_nat hi,by rw [hxm]; exact ix_nat hj,hM _ rfl⟩
   rintro _ rfl
   refine ⟨Nat.lt_of_le_of_lt (show f2.length <= 1000 by omega) (by decide),?_⟩
   refine hN _ ⟨f2 ++ [.list (((xs.map enD).set i (enD y)).set j (enD x))],k2,l2,_,_,by rw [List.length_append]; show f2.length + 1 <= 104; omega,fun d hd=>?_,hk2,hl2,rfl⟩
   rcases List.mem_append.mp hd with z | z
   ·exact hF2 d z
   ·rw [List.mem_singleton.mp z]
    refine noP_at (i:=i) (b:=x.1) (d:=enD y) (okAll_of fun e he=>?_) hbi ?_ ?_
    ·rcases List.mem_or_eq_of_mem_set he with z | rfl
     ·rcases List.mem_or_eq_of_mem_set z with z | rfl
      ·exact okAll_mem hoks e z
      ·exact okEn y
     ·exact okEn x
    ·rw [List.getElem?_set_ne hji,List.getElem?_set_self (by rw [hxm]; exact hi)]
    ·rintro ⟨l,e,_⟩
     have e3:=en_inj (xs:=[y]) (ys:=[(x.1,l)]) (by simp only [List.map_cons,List.map_nil,e])
     injection e3 with e3 _
     have e:y.1 = x.1:=by rw [e3]
     have hbj:(xs.map (·.1))[j]? = some x.1:=by rw [List.getElem?_map,hyj,<- e]; rfl
     exact hji ((List.getElem?_inj (by rw [hbm]; exact hj) hx.nd).mp (hbj.trans hbi.symm))
  rintro _ ⟨fo,k2,l2,o4,o5,hfo,hF,hk2,hl2,rfl⟩
  refine ⟨⟨xs.map prE,by rw [List.map_map]; exact List.map_congr_left fun x _=>(prB_en x).symm⟩,le_size (by simp; omega),?_⟩
  refine q _ k2 l2 _ (fun r hr=>?_) (by rw [List.length_append]; show fo.length + 9 <= 200; omega) hk2 hl2
  rcases List.mem_append.mp hr with z | z
  ·exact hF r z
  simp only [List.mem_cons,List.not_mem_nil,or_false] at z
  rcases z with rfl | rfl | rfl | rfl | rfl | rfl | rfl | rfl | rfl
  ·exact NoP.of (okT hoks) fun _ z=>by cases z
  ·exact NoP.of rfl fun _ z=>by cases z
  ·exact NoP.of rfl fun _ z=>by cases z
  ·exact NoP.of rfl fun _ z=>by cases z
  ·exact NoP.of rfl fun _ z=>by cases z
  ·refine ⟨.inl (okL (okOne (okL hoks))),fun ⟨ys,e,_⟩=>?_⟩
   injection e with e
   cases ys with
   | nil=>cases e
   | cons y ys=>injection e with e _; cases e
  ·exact ⟨.inr rfl,fun ⟨_,e,_⟩=>by cases e⟩
  ·exact noP_len rfl (by rw [hbm]; show 0 ≠ xs.length; omega)
  ·exact NoP.of rfl fun _ z=>by cases z
end
end R46
namespace R46
open PySem PySem.Spec L2 L3 PyProof.Rows
theorem gn_ok {i:Nat} {d:PyData} {ρ:Ev} {Q:Ev -> Prop} (h:noIo ρ i) (q:Q (ρ.set i (some (.fz d)))):dGN i d ρ Q:=by
 unfold noIo at h
 unfold dGN
 cases e:ρ[i]? with
 | none=>rw [e] at h; exact h.elim
 | some x =>
  cases x with
  | none=>exact q
  | some s=>cases s with
   | fz d=>exact q
   | ow d=>exact q
   | io d=>rw [e] at h; exact h.elim
theorem g3 {i j k:Nat} {x y u:PyData} {ρ:Ev} {Q:Ev -> Prop} (h1:noIo ρ i) (h2:noIo (ρ.set i (some (.fz x))) j) (h3:noIo ((ρ.set i (some (.fz x))).set j (some (.fz y))) k) (q:Q (((ρ.set i (some (.fz x))).set j (some (.fz y))).set k (some (.fz u)))):dGT [dGN i,dGT [dGN j,dGN k]] (.tuple [x,.tuple [y,u]]) ρ Q :=
 ⟨rfl,gn_ok h1 ⟨rfl,gn_ok h2 (gn_ok h3 q)⟩⟩
noncomputable def Wrg (ss cl:List Int) (z:Int) (d:PyData):Prop:=(okD d = true \/ d = opqD) /\ ∀ n,isB (Rgt ss cl z n d) = false
theorem NoP.wrg {ss cl:List Int} {z:Int} {d:PyData} (h:NoP (bxs ss) z d):Wrg ss cl z d:=⟨h.1,fun _=>h.rgt⟩
theorem lps_get {ss cl:List Int} {z:Int} {i:Nat} {b:List Int × List Int} (h:(bxs ss)[i]? = some b):(lps ss cl z)[i]? = some (b,lbs ss cl z b):=by
 unfold lps
 rw [List.getElem?_map,h]
 rfl
theorem map_cut {α β:Type} (f:α -> β) (l:List α) (i j:Nat) (x:α):(l.map f).take i ++ [f x] ++ (l.map f).drop j = (l.take i ++ x :: l.drop j).map f:=by
 simp [List.map_append,List.map_take,List.map_drop]
theorem mem_cutX {α:Type} {l:List α} {j k:Nat} {x y:α} (h:y ∈ l.take j ++ x :: l.drop k):y = x \/ y ∈ l:=by
 rcases List.mem_append.mp h with h | h
 ·exact .inr (List.mem_of_mem_take h)
 ·rcases List.mem_cons.mp h with h | h
  ·exact .inl h
  ·exact .inr (List.mem_of_mem_drop h)
theorem cut_same {α:Type} {l:List α} {i:Nat} {x:α} (h:l[i]? = some x):l.take i ++ x :: l.drop (i + 1) = l:=by
 have hi:=(List.getElem?_eq_some_iff.mp h).1
 have e:l[i] = x:=(List.getElem?_eq_some_iff.mp h).2
 rw [<- e,List.getElem_cons_drop,List.take_append_drop]
theorem less_wrg {ss cl:List Int} {z:Int} (hf:Fld ss cl z) {i j:Nat} {b:List Int × List Int} {v:Int} (hb:(bxs ss)[i]? = some b) (hv:(lbs ss cl z b)[j]? = some v) :
  Wrg ss cl z (.list (((lps ss cl z).map enD).take i ++ [enD (b,(lbs ss cl z b).take j ++ (v - 1) :: (lbs ss cl z b).drop (j + 1))] ++ ((lps ss cl z).map enD).drop (i + 1))):=by
 have hl:=lbs_len hf b
 have hj:=(List.getElem?_eq_some_iff.mp hv).1
 refine ⟨.inl (okL (okAdd (okAdd (okTake (okEs _)) (okOne (okEn _))) (okDrop (okEs _)))),fun n=>?_⟩
 rw [map_cut]
 rw [rgt_iff]
 ·unfold hold
  rw [List.all_eq_false]
  refine ⟨_,List.mem_append_right _ List.mem_cons_self,?_⟩
  have:=lst_bent (n:=n) (a:=0) (r:=rowB ss cl z b) hv
  show ¬ areB n 0 ((rowB ss cl z b).zip ((lst 0 (rowB ss cl z b)).take j ++ (v - 1) :: (lst 0 (rowB ss cl z b)).drop (j + 1))) = true
  rw [this]
  decide
 ·have e:=cut_same hb
  rw [List.map_append,List.map_cons,List.map_take,List.map_drop,lps_fst]
  exact e
 ·intro y hy
  rcases mem_cutX hy with rfl | hy
  ·show (((lbs ss cl z b).take j ++ (v - 1) :: (lbs ss cl z b).drop (j + 1)).length:Int) = z
   rw [List.length_append,List.length_take,List.length_cons,List.length_drop]
   omega
  ·exact lps_len hf y hy
section
variable {P:Program} {w:World} {K:PySem.W.Frag} {mg:Str -> Option Value} {base:Heap}
noncomputable def cES:Con:=fun args Q=>∃ (ss cl:List Int) (z:Int),args = [.fz (.list ((lps ss cl z).map enD))] /\ Fld ss cl z /\ (bxs ss).length * (z.toNat + 2) <= 500 /\ ∀ (rs:List PyData) (o:Ev),(∀ r ∈ rs,Wrg ss cl z r) -> Q (.ow (.list rs)) o
theorem scES:FnScope ["_law_paper","_law_found","_law_k","_law_box_here","_law_bests","_law_at","_law_less"] ["_law_paper"] (defScope (top 43)):=⟨rfl,rfl,rfl,by decide +kernel,rfl,by decide +kernel,by decide +kernel⟩
theorem ok_es {f:Addr} {fd:FuncData} (F:Fun K "_law_each_spoilt" "_law_each_spoilt" (top 43) f fd) (T:Txt mg):FnOk P w K mg base CX0 1 f fd ["_law_paper"] (conSp K cES):=by
 have S:=scES
 refine wfn F S (fun cdv A outer s H E hr=>(s_cons (s_set (i:=1) S.nd rfl (Or.inl rfl) (w_lst wa_nil))
     (s_cons (s_for [2,3,4,5] PassesOwn.never rfl (i_enum rfl T.enumerate_ (wa_cons (wn 0) wa_nil)) (g_tup rfl rfl (gs_cons (g_name (i:=2) S.nd rfl (Or.inl rfl)) (gs_cons (g_tup rfl rfl (gs_cons (g_name (i:=3) S.nd rfl (Or.inl rfl)) (gs_cons (g_name (i:=4) S.nd rfl (Or.inl rfl)) gs_nil))) gs_nil))) (s_cons (s_for [5,6] PassesOwn.never rfl (i_rng1 T.range_ (wa_cons (wx (w_callB ok_len (call_lenK (K:=K) rfl) T.len_ PySem.boot_len (wa_cons (wn 4) wa_nil))) wa_nil)) (g_name (i:=5) S.nd rfl (Or.inl rfl)) (s_cons (s_set (i:=6) S.nd rfl (Or.inl rfl) (w_tup (wa_cons (wx (wv 3)) (wa_cons (wx (w_bin ok_add op_addD (wx (w_bin ok_add op_addD (wx (w_sl2T rfl (wn 4) (wn 5))) (wx (w_tup (wa_cons (wx (w_bin ok_sub op_sub (wx (w_ix rfl (wn 4) (wn 5))) (wx w_int))) wa_nil))))) (wx (w_sl1T rfl (wn 4) (wx (w_bin ok_add op_addD (wn 5) (wx w_int))))))) wa_nil))))
     (s_one (s_expr (w_m ok_append rfl PySem.F.slot_list_append PySem.F.type_list_append mt_append (wn 1) (wa_cons (wx (w_bin ok_add op_addD (wx (w_bin ok_add op_addD (wx (w_slHiL rfl (wn 0) (wn 2))) (wx (w_lst (wa_cons (wx (wv 6)) wa_nil))))) (wx (w_slLoL rfl (wn 0) (wx (w_bin ok_add op_addD (wn 2) (wx w_int))))))) wa_nil))))))
     (s_one (s_set (i:=1) S.nd rfl (Or.inl rfl) (w_bin ok_add op_addD (wn 1) (wx (w_lst (wa_cons (wx (w_bin ok_add op_addD (wx (w_slHiL rfl (wn 0) (wn 2))) (wx (w_slLoL rfl (wn 0) (wx (w_bin ok_add op_addD (wn 2) (wx w_int))))))) (wa_cons (wx (w_bin ok_add op_addD (wx (w_bin ok_add op_addD (wx (w_slHiL rfl (wn 0) (wn 2))) (wx (w_lst (wa_cons (wx (w_ix rfl (wn 0) (wn 2))) wa_nil))))) (wx (w_slLoL rfl (wn 0) (wn 2))))) wa_nil)))))))))
     (s_one (s_retV (wn 1)))))) ?_ ?_
 ·rintro args Qd ⟨ss,cl,z,rfl,_⟩; rfl
 ·rintro args Qd ⟨ss,cl,z,rfl,hf,hn,q⟩
  refine ⟨noOw_of rfl,?_⟩
  have hz:=hsd_m hf
  have hblen:=bxs_len hf.s0
  have hxm:((lps ss cl z).map enD).length = (bxs ss).length:=by rw [List.length_map]; unfold lps; rw [List.length_map]
  have hpl:(lps ss cl z).length = (bxs ss).length:=by unfold lps; rw [List.length_map]
  have hoks:=okEs (lps ss cl z)
  with_reducible refine cutS (fun ρ=>ρ = [some (.fz (.list ((lps ss cl z).map enD))),some (.ow (.list [])),none,none,none,none,none]) ?_ ?_
  ·intro N hN
   exact hN _ rfl
  rintro _ rfl
  with_reducible refine cutS (fun ρ=>∃ fo:List PyData,(∀ d ∈ fo,Wrg ss cl z d) /\ ρ = [some (.fz (.list ((lps ss cl z).map enD))),some (.ow (.list fo)),none,none,none,none,none]) ?_ ?_
  ·intro N hN
   refine (?_:dLoopC _ _ _ _ (enumD ((lps ss cl z).map enD)) _)
   refine loopC (fun rest ρ=>∃ (dn rs:List (List Int × List Int)) (fo:List PyData),bxs ss = dn ++ rs /\ rest = (rs.zipIdx dn.length).map (fun p=>PyData.tuple [.int (p.2:Nat),enD (p.1,lbs ss cl z p.1)]) /\ fo.length <= dn.length * (z.toNat + 2) /\ (∀ d ∈ fo,Wrg ss cl z d) /\ ρ = [some (.fz (.list ((lps ss cl z).map enD))),some (.ow (.list fo)),none,none,none,none,none]) ?_ ?_ ⟨[],bxs ss,[],rfl,by unfold lps; rw [enumD,List.map_map,List.zipIdx_map,List.map_map]; rfl,Nat.zero_le _,fun d hd=>(by cases hd),rfl⟩
   ·rintro d es ρ ⟨dn,rs,fo,ed,er,hfl,hfW,rfl⟩ M hM
    cases rs with
    | nil=>cases er
    | cons b rs =>
     rw [List.zipIdx_cons,List.map_cons] at er
     cases er
     have hdl:dn.length + 1 <= (bxs ss).length:=by rw [ed,List.length_append,List.length_cons]; omega
     have hbi:(bxs ss)[dn.length]? = some b:=by rw [ed,List.getElem?_append_right (Nat.le_refl _),Nat.sub_self]; rfl
     have hxi:=lps_get (cl:=cl) (z:=z) hbi
     have hdn:(dn.length + 1) * (z.toNat + 2) <= 500:=Nat.le_trans (Nat.mul_le_mul_right _ hdl) hn
     rw [Nat.succ_mul] at hdn
     have hll:=lbs_len hf b
     have hlm:((lbs ss cl z b).map PyData.int).length = (lbs ss cl z b).length:=List.length_map _
     have enx:dn.length + 1 = (dn ++ [b]).length:=by rw [List.length_append]; rfl
     generalize hi0:dn.length = i at *
     have hat:atI ((lps ss cl z).map enD) (i:Int) = some (enD (b,lbs ss cl z b)):=atI_nat (by rw [List.getElem?_map,hxi]; rfl)
     have e1:(if ((i:Nat):Int) < 0 then ((i:Int) + ((lps ss cl z).map enD).length).toNat else (i:Int).toNat) = i:=by rw [if_neg (by omega)]; omega
     have e2:(if ((i:Nat):Int) + 1 < 0 then ((i:Int) + 1 + ((lps ss cl z).map enD).length).toNat else ((i:Int) + 1).toNat) = i + 1:=by rw [if_neg (by omega)]; omega
     refine g3 trivial trivial trivial ?_
     with_reducible refine cutS (fun ρ=>∃ fo:List PyData,fo.length <= i * (z.toNat + 2) + z.toNat /\ (∀ d ∈ fo,Wrg ss cl z d) /\ ρ = [some (.fz (.list ((lps ss cl z).map enD))),some (.ow (.list fo)),some (.fz (.int (i:Nat))),some (.fz (bxD b)),some (.fz (tupD (lbs ss cl z b))),none,none]) ?_ ?_
     ·intro M2 hM2
      refine ⟨by rw [hlm]; omega,by rw [hlm]; omega,?_⟩
      refine loopC (fun rest ρ=>∃ fo:List PyData,fo.length + rest.length <= i * (z.toNat + 2) + z.toNat /\ (∀ d ∈ fo,Wrg ss cl z d) /\ (∀ d ∈ rest,∃ j:Nat,j < (lbs ss cl z b).length /\ d = .int j) /\ ρ = [some (.fz (.list ((lps ss cl z).map enD))),some (.ow (.list fo)),some (.fz (.int (i:Nat))),some (.fz (bxD b)),some (.fz (tupD (lbs ss cl z b))),none,none]) ?_ ?_ ⟨fo,?_,hfW,?_,rfl⟩
      ·rintro d rest ρ ⟨fo,hl2,hW,hr,rfl⟩ M3 hM3
       obtain ⟨j,hj,rfl⟩:=hr d List.mem_cons_self
       obtain ⟨v,hv⟩:∃ v,(lbs ss cl z b)[j]? = some v:=⟨_,List.getElem?_eq_getElem hj⟩
       have hl3:fo.length + (rest.length + 1) <= i * (z.toNat + 2) + z.toNat:=by simpa using hl2
       have hav:atI ((lbs ss cl z b).map PyData.int) (j:Int) = some (.int v):=atI_nat (by rw [List.getElem?_map,hv]; rfl)
       with_reducible refine gnC rfl ?_
       with_reducible refine cutS (fun ρ=>ρ = [some (.fz (.list ((lps ss cl z).map enD))),some (.ow (.list fo)),some (.fz (.int (i:Nat))),some (.fz (bxD b)),some (.fz (tupD (lbs ss cl z b))),some (.fz (.int (j:Nat))),some (.fz (enD (b,(lbs ss cl z b).take j ++ (v - 1) :: (lbs ss cl z b).drop (j + 1))))]) ?_ ?_
       ·intro M4 hM4
        have e:((lbs ss cl z b).map PyData.int).take (j:Int).toNat ++ [PyData.int (v - 1)] ++ ((lbs ss cl z b).map PyData.int).drop ((j:Int) + 1).toNat = ((lbs ss cl z b).take j ++ (v - 1) :: (lbs ss cl z b).drop (j + 1)).map PyData.int:=by
         rw [show (j:Int).toNat = j by omega,show ((j:Int) + 1).toNat = j + 1 by omega,map_cut]
        unfold enD tupD at hM4
        rw [<- e] at hM4
        exact ⟨by omega,_,hav,le_size (by simp; omega),by show (0:Int) <= (j:Int) + 1; omega,le_size (by simp; omega),hM4 _ rfl⟩
       rintro _ rfl
       refine ⟨big_size (by simp; omega),big_size (by simp; omega),Nat.lt_of_le_of_lt (show fo.length <= 1000 by omega) (by decide),?_⟩
       refine hM3 _ ⟨fo ++ [_],by rw [List.length_append,List.length_singleton]; omega,fun d hd=>?_,fun d hd=>hr d (List.mem_cons_of_mem _ hd),rfl⟩
       rcases List.mem_append.mp hd with hz3 | hz3
       ·exact hW d hz3
       ·have W:=less_wrg hf hbi hv
        rw [List.mem_singleton.mp hz3]
        show Wrg ss cl z (.list (((lps ss cl z).map enD).take (if ((i:Nat):Int) < 0 then ((i:Int) + ((lps ss cl z).map enD).length).toNat else (i:Int).toNat) ++ [enD (b,(lbs ss cl z b).take j ++ (v - 1) :: (lbs ss cl z b).drop (j + 1))] ++ ((lps ss cl z).map enD).drop (if ((i:Nat):Int) + 1 < 0 then ((i:Int) + 1 + ((lps ss cl z).map enD).length).toNat else ((i:Int) + 1).toNat)))
        rw [e1,e2]
        exact W
      ·rintro ρ ⟨fo,hl2,hW,_,rfl⟩
       exact hM2 _ ⟨fo,by simpa using hl2,hW,rfl⟩
      ·rw [rangeD,List.length_map,List.length_range,hlm]; omega
      ·intro d hd
       rw [rangeD] at hd
       obtain ⟨k,hk,rfl⟩:=List.mem_map.mp hd
       have:=List.mem_range.mp hk
       rw [hlm] at this
       exact ⟨k,by omega,by rw [Int.zero_add]⟩
     rintro _ ⟨fo,hl2,hW,rfl⟩
     refine setJ (fun r ρ=>(∃ fo:List PyData,fo.length <= i * (z.toNat + 2) + (z.toNat + 2) /\ (∀ d ∈ fo,Wrg ss cl z d) /\ r = .ow (.list fo)) /\ ρ = [some (.fz (.list ((lps ss cl z).map enD))),some (.ow (.list fo)),some (.fz (.int (i:Nat))),some (.fz (bxD b)),some (.fz (tupD (lbs ss cl z b))),none,none]) (fun Q hQ=>?_) ?_
     ·refine addJ [.list (((lps ss cl z).map enD).take (if ((i:Nat):Int) < 0 then ((i:Int) + ((lps ss cl z).map enD).length).toNat else (i:Int).toNat) ++ ((lps ss cl z).map enD).drop (if ((i:Nat):Int) + 1 < 0 then ((i:Int) + 1 + ((lps ss cl z).map enD).length).toNat else ((i:Int) + 1).toNat)),.list (((lps ss cl z).map enD).take (if ((i:Nat):Int) < 0 then ((i:Int) + ((lps ss cl z).map enD).length).toNat else (i:Int).toNat) ++ [enD (b,lbs ss cl z b)] ++ ((lps ss cl z).map enD).drop (if ((i:Nat):Int) < 0 then ((i:Int) + ((lps ss cl z).map enD).length).toNat else (i:Int).toNat))] rfl rfl (fun Q' hQ'=>?_) (le_size (by simp; omega)) (hQ _ _ ⟨⟨_,?_,?_,rfl⟩,rfl⟩)
      ·exact ⟨big_size (by simp; omega),_,hat,big_size (by simp; omega),big_size (by simp; omega),hQ'⟩
      ·rw [List.length_append]; show fo.length + 2 <= _; omega
      ·intro d hd
       rcases List.mem_append.mp hd with z | z
       ·exact hW d z
       simp only [List.mem_cons,List.not_mem_nil,or_false] at z
       rcases z with rfl | rfl
       ·refine (noP_len (okAdd (okTake hoks) (okDrop hoks)) ?_).wrg
        rw [e1,e2,List.length_append,List.length_take,List.length_drop,hxm]
        omega
       ·refine (noP_len (okAdd (okAdd (okTake hoks) (okOne (okEn _))) (okDrop hoks)) ?_).wrg
        rw [e1,List.length_append,List.length_append,List.length_take,List.length_drop,hxm]
        show min i (bxs ss).length + 1 + ((bxs ss).length - i) ≠ (bxs ss).length
        omega
     ·rintro r ρ' ⟨⟨fo,f1,f2,rfl⟩,rfl⟩
      exact hM _ ⟨dn ++ [b],rs,fo,by rw [ed]; simp,by rw [<- enx],by rw [<- enx,Nat.succ_mul]; exact f1,f2,rfl⟩
   ·rintro ρ ⟨dn,rs,fo,ed,er,hfl,hfW,rfl⟩
    exact hN _ ⟨fo,hfW,rfl⟩
  rintro _ ⟨fo,hW,rfl⟩
  exact q fo _ hW
end
end R46
namespace R46
open PySem PySem.Spec L2 L3 PyProof.Rows
theorem bs1:∀ (cs:List Int) (a t:Nat),bsum (((List.range cs.length).map fun (k:Nat)=>[((a + k:Nat):Int)]).zip cs) [(t:Int)] [(t:Int)] = if a <= t /\ t < a + cs.length then cs.getD (t - a) 0 else 0
 | [],a,t=>by
  rw [if_neg (by simp)]
  rfl
 | c :: cs,a,t=>by
  have ih:=bs1 cs (a + 1) t
  rw [bsum_if] at ih ⊢
  rw [List.length_cons,List.range_succ_eq_map,List.map_cons,List.map_map,List.zip_cons_cons,List.map_cons,List.sum_cons]
  have e:(List.range cs.length).map ((fun (k:Nat)=>[((a + k:Nat):Int)]) ∘ Nat.succ) = (List.range cs.length).map fun (k:Nat)=>[((a + 1 + k:Nat):Int)]:=List.map_congr_left fun k _=>by
   show [((a + (k + 1):Nat):Int)] = _
   rw [show a + (k + 1) = a + 1 + k by omega]
  rw [e,ih]
  have el:lie [(t:Int)] [((a + 0:Nat):Int)] [(t:Int)] = decide (t = a):=by
   show (decide ((t:Int) <= ((a + 0:Nat):Int)) && decide (((a + 0:Nat):Int) <= (t:Int)) && true) = _
   by_cases h:t = a
   ·subst h; simp
   ·rw [decide_eq_false h]
    by_cases h2:t <= a
    ·rw [decide_eq_false (show ¬ ((a + 0:Nat):Int) <= (t:Int) by omega)]; simp
    ·rw [decide_eq_false (show ¬ (t:Int) <= ((a + 0:Nat):Int) by omega)]; simp
  show (if lie [(t:Int)] [((a + 0:Nat):Int)] [(t:Int)] = true then c else 0) + _ = _
  rw [el]
  by_cases h:t = a
  ·subst h
   rw [if_pos (by simp),if_neg (by omega),if_pos (by omega),Nat.sub_self]
   simp
  ·rw [if_neg (by simp [h])]
   by_cases h2:a + 1 <= t /\ t < a + 1 + cs.length
   ·rw [if_pos h2,if_pos (by omega),show t - a = (t - (a + 1)) + 1 by omega]
    simp
   ·rw [if_neg h2,if_neg (by omega)]
    rfl
theorem plc_one (n:Nat):plc ([] ++ [(n:Int)]) = (List.range n).map fun (k:Nat)=>[((0 + k:Nat):Int)]:=by
 show plc ((n:Int) :: []) = _
 rw [plc_cons]
 have e:plc ([]:List Int) = [[]]:=rfl
 rw [e,rng,List.flatMap_map]
 have:(n:Int).toNat = n:=by omega
 rw [this]
 show (List.range n).flatMap (fun (k:Nat)=>[[(k:Int)]]) = _
 rw [List.map_eq_flatMap]
 congr 1
 funext k
 rw [Nat.zero_add]
theorem rowB_nil (cs:List Int):rowB [] cs cs.length ([],[]) = cs:=by
 unfold rowB
 rw [plc_one,rng,List.map_map]
 refine List.ext_getElem? fun i=>?_
 rw [List.getElem?_map]
 by_cases h:i < cs.length
 ·rw [List.getElem?_range (by omega),List.getElem?_eq_getElem h]
  show some (bsum (((List.range cs.length).map fun (k:Nat)=>[((0 + k:Nat):Int)]).zip cs) [(i:Int)] [(i:Int)]) = _
  rw [bs1,if_pos (by omega),Nat.sub_zero,List.getD_eq_getElem?_getD,List.getElem?_eq_getElem h]
  rfl
 ·rw [List.getElem?_eq_none_iff.mpr (by rw [List.length_range]; omega),List.getElem?_eq_none_iff.mpr (by omega)]
  rfl
theorem fld_one {cs:List Int} (h1:1 <= cs.length) (h2:cs.length <= 120):Fld [] cs cs.length:=by
 have hp:∀ c ∈ ([] ++ [(cs.length:Int)]:List Int),1 <= c:=fun c hc=>by
  have:c = cs.length:=by simpa using hc
  omega
 have hm:prodI ([] ++ [(cs.length:Int)]) = cs.length:=by
  show (cs.length:Int) * 1 = cs.length
  omega
 refine ⟨⟨by simp,by simp,hp,by omega⟩,⟨by simp,fun c hc=>(by cases hc),by decide⟩,?_⟩
 have:=plc_len hp
 omega
theorem lbs_nil (cs:List Int):lbs [] cs cs.length ([],[]) = lst 0 cs:=by
 unfold lbs
 rw [rowB_nil]
theorem bxs_nil:bxs [] = [([],[])]:=rfl
theorem lps_nil (cs:List Int):lps [] cs cs.length = [(([],[]),lst 0 cs)]:=by
 unfold lps
 rw [bxs_nil,List.map_cons,lbs_nil]
 rfl
theorem forJ {a:TD} {ks:List Nat} {g:TDG} {tb:TDS} {E:DE} {ρ:Ev} (J:List PyData -> Ev -> Prop) (h1:∀ Q:Sl -> Ev -> Prop,(∀ L ρ1,J L ρ1 -> Q (.ow (.list L)) ρ1) -> a ρ Q) (h2:∀ L ρ1,J L ρ1 -> dLoopC ks g tb E L (clean ks ρ1)):dForC ks (dISeq a) g tb E ρ:=h1 _ h2
section
variable {P:Program} {w:World} {K:PySem.W.Frag} {mg:Str -> Option Value} {base:Heap}
structure CalsLR (P:Program) (w:World) (K:PySem.W.Frag) (mg:Str -> Option Value) (base:Heap):Prop where
 law_take:Cal P w K mg base 2 "_law_take" ["_law_state","_law_most"] (conSp K cTake)
 law_least:Cal P w K mg base 1 "_law_least" ["_law_row"] (conSp K cLst)
 holds_bests:Cal P w K mg base 6 "holds_bests" ["field","number","paper"] (conSp K cHB)
noncomputable def cLR:Con:=fun args Q=>∃ (ns:List Int) (k l:Int),args = [.io (penD ns k l)] /\ 0 <= k /\ 0 <= l /\ ∀ (k' l':Int) (o:Ev),0 <= k' -> 0 <= l' -> Q (.fz (.bool true)) (some (.io (penD ns k' l')) :: o)
theorem scLR:FnScope ["_law_state","_law_cells_here","_law_field","_law_bests","_law_at","_law_less"] ["_law_state"] (defScope (top 44)):=⟨rfl,rfl,rfl,by decide +kernel,rfl,by decide +kernel,by decide +kernel⟩
theorem ok_lr {f:Addr} {fd:FuncData} (F:Fun K "_law_long_right" "_law_long_right" (top 44) f fd) (T:Txt mg) (C:CalsLR P w K mg base):FnOk P w K mg base CX0 7 f fd ["_law_state"] (conSp K cLR):=by
 have S:=scLR
 refine wfn F S (fun cdv A outer s H E hr=>(s_cons (s_set (i:=1) S.nd rfl (Or.inl rfl) (w_callT ok_tuple (call_tupleK (K:=K) rfl) T.tuple_ boot_tuple (wa_cons (wx (w_comp rfl (own:=["_law_k"]) (fr:=[0]) (by kernel_rfl) (i_rng1 T.range_ (wa_cons (wx (w_bin ok_add op_addD (wx w_int) (wx (w_fnI C.law_take (hr.mono (by first | decide | omega)) (wa_cons (wn 0) (wa_cons (wx w_int) wa_nil)))))) wa_nil)) (fun _ _ _ _=>(g_name (i:=0) (by decide +kernel:List.Nodup (["_law_k","_law_state"]:List Str)) rfl (Or.inl rfl))) (fun _ _ _ _=>if0) (fun _ _ _ _=>(w_bin ok_sub op_sub (wx (w_fnI C.law_take (hr.mono (by first | decide | omega)) (wa_cons (wn 1) (wa_cons (wx w_int) wa_nil)))) (wx w_int))))) wa_nil)))
     (s_cons (s_set (i:=2) S.nd rfl (Or.inl rfl) (w_tup (wa_cons (wx (w_tup (wa_cons (wx (w_callB ok_len (call_lenK (K:=K) rfl) T.len_ PySem.boot_len (wa_cons (wn 1) wa_nil))) wa_nil))) (wa_cons (wx (wv 1)) wa_nil))))
     (s_cons (s_set (i:=3) S.nd rfl (Or.inl rfl) (w_fn C.law_least (hr.mono (by first | decide | omega)) (wa_cons (wn 1) wa_nil)))
     (s_cons (s_if (t_cmp ok_isnB op_isnotB (wx (w_fn C.holds_bests (hr.mono (by first | decide | omega)) (wa_cons (wn 2) (wa_cons (wx (w_callB ok_mxI (call_mxI (K:=K) rfl rfl) T.max_ boot_max (wa_cons (wn 3) wa_nil))) (wa_cons (wx (w_lst (wa_cons (wx (w_tup (wa_cons (wx (w_tup (wa_cons (wx (w_tup wa_nil)) (wa_cons (wx (w_tup wa_nil)) wa_nil)))) (wa_cons (wx (w_callT ok_tuple (call_tupleK (K:=K) rfl) T.tuple_ boot_tuple (wa_cons (wn 3) wa_nil))) wa_nil)))) wa_nil))) wa_nil))))) (wx w_bl)) (s_one (s_ret w_bl)) s_nil)
     (s_cons (s_for [4,5] PassesOwn.never rfl (i_seq rfl (w_lst (wa_cons (wx (w_bin ok_sub op_sub (wx (w_callB ok_len (call_lenK (K:=K) rfl) T.len_ PySem.boot_len (wa_cons (wn 1) wa_nil))) (wx w_int))) (wa_cons (wx w_int) (wa_cons (wx w_int) (wa_cons (wx (w_fnI C.law_take (hr.mono (by first | decide | omega)) (wa_cons (wn 0) (wa_cons (wx (w_callB ok_len (call_lenK (K:=K) rfl) T.len_ PySem.boot_len (wa_cons (wn 1) wa_nil))) wa_nil)))) (wa_cons (wx (w_bin ok_add op_addD (wx w_int) (wx (w_fnI C.law_take (hr.mono (by first | decide | omega)) (wa_cons (wn 0) (wa_cons (wx (w_bin ok_sub op_sub (wx (w_callB ok_len (call_lenK (K:=K) rfl) T.len_ PySem.boot_len (wa_cons (wn 1) wa_nil))) (wx w_int))) wa_nil)))))) wa_nil))))))) (g_name (i:=4) S.nd rfl (Or.inl rfl)) (s_cons (s_set (i:=5) S.nd rfl (Or.inl rfl) (w_bin ok_add op_addD (wx (w_bin ok_add op_addD (wx (w_slHiL rfl (wn 3) (wn 4))) (wx (w_lst (wa_cons (wx (w_bin ok_sub op_sub (wx (w_ix rfl (wn 3) (wn 4))) (wx w_int))) wa_nil))))) (wx (w_slLoL rfl (wn 3) (wx (w_bin ok_add op_addD (wn 4) (wx w_int)))))))
     (s_one (s_if (t_cmp ok_isnB op_isnotB (wx (w_fn C.holds_bests (hr.mono (by first | decide | omega)) (wa_cons (wn 2) (wa_cons (wx (w_callB ok_mxI (call_mxI (K:=K) rfl rfl) T.max_ boot_max (wa_cons (wn 3) wa_nil))) (wa_cons (wx (w_lst (wa_cons (wx (w_tup (wa_cons (wx (w_tup (wa_cons (wx (w_tup wa_nil)) (wa_cons (wx (w_tup wa_nil)) wa_nil)))) (wa_cons (wx (w_callT ok_tuple (call_tupleK (K:=K) rfl) T.tuple_ boot_tuple (wa_cons (wn 5) wa_nil))) wa_nil)))) wa_nil))) wa_nil))))) (wx w_bl)) (s_one (s_ret w_bl)) s_nil))))
     (s_one (s_ret w_bl)))))))) ?_ ?_
 ·rintro args Qd ⟨ns,k,l,rfl,_⟩; rfl
 ·rintro args Qd ⟨ns,k,l,rfl,hk,hl,q⟩
  refine ⟨noOw_of rfl,?_⟩
  with_reducible refine cutS (fun ρ=>∃ (cs:List Int) (k1 l1:Int),60 <= cs.length /\ cs.length <= 120 /\ 0 <= k1 /\ 0 <= l1 /\ ρ = [some (.io (penD ns k1 l1)),some (.fz (tupD cs)),none,none,none,none]) ?_ ?_
  ·intro N hN
   refine setJ (fun r ρ=>∃ (cs:List Int) (k1 l1:Int),60 <= cs.length /\ cs.length <= 120 /\ 0 <= k1 /\ 0 <= l1 /\ r = .fz (tupD cs) /\ ρ = [some (.io (penD ns k1 l1)),none,none,none,none,none]) (fun Q hQ=>?_) ?_
   ·refine ⟨ns,k,l,_,rfl,hk,hl,by decide,by decide,fun r k1 l1 _ r0 r1 hk1 hl1=>?_⟩
    refine ⟨by omega,by omega,by rw [rangeD,List.length_map,List.length_range]; exact le_size (by omega),compN (fun rest acc τ=>∃ (cs:List Int) (k4 l4:Int),τ = [none,some (.io (penD ns k4 l4))] /\ acc = cs.map PyData.int /\ (cs.length + rest.length:Int) = 60 + r /\ 0 <= k4 /\ 0 <= l4) ?_ ?_
      ⟨[],k1,l1,rfl,rfl,by simp [rangeD]; omega,hk1,hl1⟩⟩
    ·rintro d ds acc τ ⟨cs,k4,l4,rfl,rfl,hlen,hk4,hl4⟩ N' hN'
     refine ⟨ns,k4,l4,_,rfl,hk4,hl4,by decide,by decide,fun x k5 l5 _ x0 x1 hk5 hl5=>?_⟩
     exact hN' _ _ ⟨cs ++ [x - 3],k5,l5,rfl,by simp [Sl.d],by simp at hlen ⊢; omega,hk5,hl5⟩
    ·rintro acc τ ⟨cs,k4,l4,rfl,rfl,hlen,hk4,hl4⟩
     simp at hlen
     exact hQ _ _ ⟨cs,k4,l4,by omega,by omega,hk4,hl4,rfl,rfl⟩
   ·rintro r ρ' ⟨cs,k1,l1,f1,f2,hk1,hl1,rfl,rfl⟩
    exact hN _ ⟨cs,k1,l1,f1,f2,hk1,hl1,rfl⟩
  rintro _ ⟨cs,k1,l1,hc1,hc2,hk1,hl1,rfl⟩
  have hcm:(cs.map PyData.int).length = cs.length:=List.length_map _
  have hbl:=lst_len 0 cs
  have hbm:((lst 0 cs).map PyData.int).length = cs.length:=by rw [List.length_map,hbl]
  have hf:=fld_one (cs:=cs) (by omega) hc2
  with_reducible refine cutS (fun ρ=>ρ = [some (.io (penD ns k1 l1)),some (.fz (tupD cs)),some (.fz (.tuple [tupD ([] ++ [(cs.length:Int)]),tupD cs])),none,none,none]) ?_ ?_
  ·intro N hN
   refine hN _ ?_
   show _ = [_,_,some (Sl.fz (.tuple [.tuple [.int (cs.length:Int)],tupD cs])),_,_,_]
   rw [<- hcm]
   rfl
  rintro _ rfl
  with_reducible refine cutS (fun ρ=>ρ = [some (.io (penD ns k1 l1)),some (.fz (tupD cs)),some (.fz (.tuple [tupD ([] ++ [(cs.length:Int)]),tupD cs])),some (.ow (.list ((lst 0 cs).map PyData.int))),none,none]) ?_ ?_
  ·intro N hN
   exact ⟨cs,tupD cs,rfl,.inr rfl,by omega,fun o=>hN _ rfl⟩
  rintro _ rfl
  have hlen1:0 < (lst 0 cs).length:=by omega
  with_reducible refine cutS (fun ρ=>ρ = [some (.io (penD ns k1 l1)),some (.fz (tupD cs)),some (.fz (.tuple [tupD ([] ++ [(cs.length:Int)]),tupD cs])),some (.ow (.list ((lst 0 cs).map PyData.int))),none,none]) ?_ ?_
  ·intro N hN
   refine ⟨lst 0 cs,rfl,hlen1,fun M hM hMx=>?_⟩
   refine ⟨[],cs,cs.length,M,.list ((lps [] cs cs.length).map enD),by rw [lps_nil]; rfl,hf,.inl (okL (okEs _)),fun o=>?_⟩
   have e:isB (Rgt [] cs cs.length M (.list ((lps [] cs cs.length).map enD))) = true:=by
    rw [rgt_iff (lps_fst _ _ _) (lps_len hf)]
    refine lps_hold fun x hx v hv=>?_
    rw [lps_nil,List.mem_singleton] at hx
    subst hx
    exact hMx v hv
   rw [e]
   exact hN _ rfl
  rintro _ rfl
  with_reducible refine cutS (fun ρ=>∃ k1 l1:Int,0 <= k1 /\ 0 <= l1 /\ ρ = [some (.io (penD ns k1 l1)),some (.fz (tupD cs)),some (.fz (.tuple [tupD ([] ++ [(cs.length:Int)]),tupD cs])),some (.ow (.list ((lst 0 cs).map PyData.int))),none,none]) ?_ ?_
  ·intro N hN
   refine forJ (fun L ρ=>(∀ d ∈ L,∃ j:Nat,j < cs.length /\ d = .int j) /\ ∃ k1 l1:Int,0 <= k1 /\ 0 <= l1 /\ ρ = [some (.io (penD ns k1 l1)),some (.fz (tupD cs)),some (.fz (.tuple [tupD ([] ++ [(cs.length:Int)]),tupD cs])),some (.ow (.list ((lst 0 cs).map PyData.int))),none,none]) (fun Q hQ=>?_) ?_
   ·refine ⟨ns,k1,l1,_,rfl,hk1,hl1,by rw [hcm]; omega,by rw [hcm]; omega,fun r k2 l2 _ r0 r1 hk2 hl2=>?_⟩
    rw [hcm] at r1
    refine ⟨ns,k2,l2,_,rfl,hk2,hl2,by rw [hcm]; omega,by rw [hcm]; omega,fun u k3 l3 _ u0 u1 hk3 hl3=>?_⟩
    rw [hcm] at u1
    refine hQ _ _ ⟨fun d hd=>?_,k3,l3,hk3,hl3,rfl⟩
    simp only [List.mem_cons,List.not_mem_nil,or_false] at hd
    obtain ⟨r',rfl⟩:=Int.eq_ofNat_of_zero_le r0
    obtain ⟨u',rfl⟩:=Int.eq_ofNat_of_zero_le u0
    rcases hd with rfl | rfl | rfl | rfl | rfl
    ·refine ⟨cs.length - 1,by omega,?_⟩
     show PyData.int (((cs.map PyData.int).length:Int) - 1) = _
     rw [hcm,show ((cs.length:Int) - 1) = ((cs.length - 1:Nat):Int) by omega]
    ·exact ⟨0,by omega,rfl⟩
    ·exact ⟨59,by omega,rfl⟩
    ·exact ⟨r',by omega,rfl⟩
    ·exact ⟨40 + u',by omega,rfl⟩
   rintro L _ ⟨hL,k2,l2,hk2,hl2,rfl⟩
   refine loopC (fun rest ρ=>(∀ d ∈ rest,∃ j:Nat,j < cs.length /\ d = .int j) /\ ρ = [some (.io (penD ns k2 l2)),some (.fz (tupD cs)),some (.fz (.tuple [tupD ([] ++ [(cs.length:Int)]),tupD cs])),some (.ow (.list ((lst 0 cs).map PyData.int))),none,none]) ?_ ?_ ⟨hL,rfl⟩
   ·rintro d ds ρ ⟨h,rfl⟩ M hM
    obtain ⟨j,hj,rfl⟩:=h d List.mem_cons_self
    have hrest:∀ d ∈ ds,∃ j:Nat,j < cs.length /\ d = .int j:=fun d hd=>h d (List.mem_cons_of_mem _ hd)
    obtain ⟨v,hv⟩:∃ v,(lst 0 cs)[j]? = some v:=⟨_,List.getElem?_eq_getElem (by omega)⟩
    have hav:atI ((lst 0 cs).map PyData.int) (j:Int) = some (.int v):=atI_nat (by rw [List.getElem?_map,hv]; rfl)
    have e1:(if ((j:Nat):Int) < 0 then ((j:Int) + ((lst 0 cs).map PyData.int).length).toNat else (j:Int).toNat) = j:=by rw [if_neg (by omega)]; omega
    have e2:(if ((j:Nat):Int) + 1 < 0 then ((j:Int) + 1 + ((lst 0 cs).map PyData.int).length).toNat else ((j:Int) + 1).toNat) = j + 1:=by rw [if_neg (by omega)]; omega
    with_reducible refine gnC rfl ?_
    with_reducible refine cutS (fun ρ=>ρ = [some (.io (penD ns k2 l2)),some (.fz (tupD cs)),some (.fz (.tuple [tupD ([] ++ [(cs.length:Int)]),tupD cs])),some (.ow (.list ((lst 0 cs).map PyData.int))),some (.fz (.int (j:Nat))),some (.ow (.list (((lst 0 cs).take j ++ (v - 1) :: (lst 0 cs).drop (j + 1)).map PyData.int)))]) ?_ ?_
    ·intro M2 hM2
     have e:((lst 0 cs).map PyData.int).take (if ((j:Nat):Int) < 0 then ((j:Int) + ((lst 0 cs).map PyData.int).length).toNat else (j:Int).toNat) ++ [PyData.int (v - 1)] ++ ((lst 0 cs).map PyData.int).drop (if ((j:Nat):Int) + 1 < 0 then ((j:Int) + 1 + ((lst 0 cs).map PyData.int).length).toNat else ((j:Int) + 1).toNat) = ((lst 0 cs).take j ++ (v - 1) :: (lst 0 cs).drop (j + 1)).map PyData.int:=by
      rw [e1,e2,map_cut]
     rw [<- e] at hM2
     exact ⟨_,hav,le_size (by simp; omega),le_size (by simp; omega),hM2 _ rfl⟩
    rintro _ rfl
    refine ⟨lst 0 cs,rfl,hlen1,fun X hX hXx=>?_⟩
    have W:=(less_wrg (i:=0) (j:=j) (b:=([],[])) (v:=v) hf (by rw [bxs_nil]; rfl) (by rw [lbs_nil]; exact hv))
    rw [lps_nil,lbs_nil] at W
    have W:Wrg [] cs cs.length (.list [enD (([],[]),(lst 0 cs).take j ++ (v - 1) :: (lst 0 cs).drop (j + 1))]):=W
    refine ⟨[],cs,cs.length,X,.list [enD (([],[]),(lst 0 cs).take j ++ (v - 1) :: (lst 0 cs).drop (j + 1))],rfl,hf,W.1,fun o=>?_⟩
    rw [W.2 X]
    exact hM _ ⟨hrest,rfl⟩
   ·rintro ρ ⟨_,rfl⟩
    exact hN _ ⟨k2,l2,hk2,hl2,rfl⟩
  rintro _ ⟨k2,l2,hk2,hl2,rfl⟩
  exact q k2 l2 _ hk2 hl2
end
end R46
namespace R46
open PySem PySem.Spec L2 L3 PyProof.Rows
theorem bxs_pos {ss:List Int} (h:S0 ss):1 <= (bxs ss).length:=by
 have hp:=h.p
 have:(ss.map (fun _=>(0:Int)),ss.map (fun _=>(0:Int))) ∈ bxs ss:=by
  refine bx_bxs ?_
  clear h
  induction ss with
  | nil=>trivial
  | cons s ss ih =>
   have h1:=hp s List.mem_cons_self
   exact ⟨⟨Int.le_refl _,Int.le_refl _,by show (0:Int) < s; omega⟩,ih fun c hc=>hp c (List.mem_cons_of_mem _ hc)⟩
 exact List.length_pos_of_mem this
theorem nice_en (xs:List ((List Int × List Int) × List Int)):Nice 4 (.list (xs.map enD)):=.list fun d hd=>by
 obtain ⟨x,_,rfl⟩:=List.mem_map.mp hd
 refine .tuple fun d hd=>?_
 have hd:d = bxD x.1 \/ d = tupD x.2:=by simpa using hd
 rcases hd with rfl | rfl
 ·refine .tuple fun d hd=>?_
  have hd:d = tupD x.1.1 \/ d = tupD x.1.2:=by simpa using hd
  rcases hd with rfl | rfl
  ·exact Nice.tup _
  ·exact Nice.tup _
 ·exact (Nice.tup _).mono (by decide)
theorem gt2_ok {i j:Nat} {x y:PyData} {ρ:Ev} {Q:Ev -> Prop} (h1:noIo ρ i) (h2:noIo (ρ.set i (some (.fz x))) j) (q:Q ((ρ.set i (some (.fz x))).set j (some (.fz y)))):dGT [dGN i,dGN j] (.tuple [x,y]) ρ Q :=
 ⟨rfl,gn_ok h1 (gn_ok h2 q)⟩
noncomputable def fPa:PyData -> PyData
 | .tuple [.tuple [.tuple lo,.tuple hi],.list r]=>.tuple [.tuple [.tuple lo,.tuple hi],.tuple ((lst 0 (r.map unI)).map PyData.int)]
 | _=>.none
theorem fPa_ln (ss cl:List Int) (z:Int) (b:List Int × List Int):fPa (lnD ss cl z b) = enD (b,lbs ss cl z b):=by
 show PyData.tuple [bxD b,.tuple ((lst 0 (((rowB ss cl z b).map PyData.int).map unI)).map PyData.int)] = _
 rw [unI_int]
 rfl
theorem pa_lps (ss cl:List Int) (z:Int):((bxs ss).map (lnD ss cl z)).map fPa = (lps ss cl z).map enD:=by
 unfold lps
 rw [List.map_map,List.map_map]
 exact List.map_congr_left fun b _=>fPa_ln ss cl z b
theorem pax {ss cl:List Int} {z:Int} (hf:Fld ss cl z) (hB:∀ c ∈ cl,Big c):PaX z (lps ss cl z):=by
 have hz:=hsd_m hf
 have h1:=bxs_pos hf.s0
 have h2:=bxs_len hf.s0
 have hl:(lps ss cl z).length = (bxs ss).length:=by unfold lps; rw [List.length_map]
 refine ⟨by omega,by omega,by omega,by omega,by rw [lps_fst]; exact bxs_nodup hf.s0,fun x hx=>?_,lps_len hf,fun x hx v hv=>?_⟩
 ·have hm:x.1 ∈ bxs ss:=by rw [<- lps_fst ss cl z]; exact List.mem_map.mpr ⟨x,hx,rfl⟩
  have:=bx_len (bxs_bx hm)
  have:=hf.s0.l3
  omega
 ·obtain ⟨b,_,rfl⟩:=List.mem_map.mp hx
  refine lbs_abs hf (fun c hc=>?_) b v hv
  obtain ⟨b1,b2⟩:=hB c hc
  have:c.natAbs <= 10 ^ 30:=by omega
  exact Nat.le_trans this (by decide)
section
variable {P:Program} {w:World} {K:PySem.W.Frag} {mg:Str -> Option Value} {base:Heap}
structure CalsL (P:Program) (w:World) (K:PySem.W.Frag) (mg:Str -> Option Value) (base:Heap):Prop where
 law_begin:Cal P w K mg base 1 "_law_begin" ["_law_script"] (conSp K cBegin)
 law_sides:Cal P w K mg base 3 "_law_sides" ["_law_state","_law_most"] (conSp K cSides)
 law_places:Cal P w K mg base 1 "_law_places" ["_law_sides_here"] (conSp K cPlaces)
 law_cells:Cal P w K mg base 4 "_law_cells" ["_law_state","_law_many"] (conSp K cCells)
 law_lines:Cal P w K mg base 3 "_law_lines" ["_law_sides_here","_law_cells_here"] (conSp K cLN)
 law_least:Cal P w K mg base 1 "_law_least" ["_law_row"] (conSp K cLst)
 law_take:Cal P w K mg base 2 "_law_take" ["_law_state","_law_most"] (conSp K cTake)
 holds_bests:Cal P w K mg base 6 "holds_bests" ["field","number","paper"] (conSp K cHB)
 law_spoilt:Cal P w K mg base 4 "_law_spoilt" ["_law_state","_law_paper"] (conSp K cSpX)
 law_each_spoilt:Cal P w K mg base 1 "_law_each_spoilt" ["_law_paper"] (conSp K cES)
 law_long_right:Cal P w K mg base 7 "_law_long_right" ["_law_state"] (conSp K cLR)
noncomputable def cLaw:Con:=fun args Q=>∃ ns:List Int,args = [.fz (scrD ns)] /\ ns.length <= 63 /\ ∀ o,Q (.fz (.bool true)) o
theorem cLaw_sp {K:PySem.W.Frag} {H:Hp} {a:Addr} {ns:List Int} (hl:ns.length <= 63) (h:SqL K H a (ns.map V.int)):conSp K cLaw [.ref a] H (fun v _=>v = .bl true) fun _ _ _=>False:=by
 refine ⟨⟨H,H,fun _=>none⟩,H,[.fz (scrD ns)],fun r _=>r = .fz (.bool true),?_,⟨ns,rfl,hl,fun _=>rfl⟩,?_⟩
 ·refine ⟨rfl,Sub.refl _,Sub.refl _,fun a o h=>.inl h,fun a o h _=>h,?_,?_,?_,?_,?_,?_⟩
  ·intro i d e
   cases i with
   | zero=>cases e; exact ⟨_,rfl,.scr h⟩
   | succ i=>cases e
  ·intro i s e w
   cases i with
   | zero=>cases e; cases w
   | succ i=>cases e
  ·intro i d a e
   cases i with
   | zero=>cases e
   | succ i=>cases e
  ·intro i a e; cases e
  ·intro i d e
   cases i with
   | zero=>cases e
   | succ i=>cases e
  ·intro i j s t a e w
   cases i with
   | zero=>cases e; cases w
   | succ i=>cases e
 ·intro v H' F' r ρ' _ _ hr e
  subst e
  have hr:Da K F' v (.bool true):=hr
  cases hr
  rfl
theorem scLaw:FnScope ["_law_script","_law_state","_law_sides_here","_law_cells_here","_law_paper","_law_most","_law_field","_law_given","_law_k","_law_thing"] ["_law_script"] (defScope (top 45)):=⟨rfl,rfl,rfl,by decide +kernel,rfl,by decide +kernel,by decide +kernel⟩
theorem ok_law {f:Addr} {fd:FuncData} (F:Fun K "law" "law" (top 45) f fd) (T:Txt mg) (C:CalsL P w K mg base):FnOk P w K mg base CX0 8 f fd ["_law_script"] (conSp K cLaw):=by
 have S:=scLaw
 refine wfn F S (fun cdv A outer s H E hr=>(s_cons (s_set (i:=1) S.nd rfl (Or.inl rfl) (w_fn C.law_begin (hr.mono (by first | decide | omega)) (wa_cons (wn 0) wa_nil)))
     (s_cons (s_set (i:=2) S.nd rfl (Or.inl rfl) (w_fnI C.law_sides (hr.mono (by first | decide | omega)) (wa_cons (wn 1) (wa_cons (wx w_int) wa_nil))))
     (s_cons (s_set (i:=3) S.nd rfl (Or.inl rfl) (w_callT ok_tuple (call_tupleK (K:=K) rfl) T.tuple_ boot_tuple (wa_cons (wx (w_fnI C.law_cells (hr.mono (by first | decide | omega)) (wa_cons (wn 1) (wa_cons (wx (w_callB ok_len (call_lenK (K:=K) rfl) T.len_ PySem.boot_len (wa_cons (wx (w_fn C.law_places (hr.mono (by first | decide | omega)) (wa_cons (wn 2) wa_nil))) wa_nil))) wa_nil)))) wa_nil)))
     (s_cons (s_setC (i:=4) S.nd rfl rfl rfl (own:=["_law_box_here","_law_row"]) (fr:=[]) (by kernel_rfl) (i_seq rfl (w_fn C.law_lines (hr.mono (by first | decide | omega)) (wa_cons (wn 2) (wa_cons (wn 3) wa_nil)))) (fun _ _ _ _=>(g_tup rfl rfl (gs_cons (g_name (i:=0) (by decide +kernel:List.Nodup (["_law_box_here","_law_row"]:List Str)) rfl (Or.inl rfl)) (gs_cons (g_name (i:=1) (by decide +kernel:List.Nodup (["_law_box_here","_law_row"]:List Str)) rfl (Or.inl rfl)) gs_nil)))) (fun _ _ _ _=>if0) (fun _ _ _ _=>(w_tup (wa_cons (wx (wv 0)) (wa_cons (wx (w_callT ok_tuple (call_tupleK (K:=K) rfl) T.tuple_ boot_tuple (wa_cons (wx (w_fn C.law_least (hr.mono (by first | decide | omega)) (wa_cons (wn 1) wa_nil))) wa_nil))) wa_nil)))))
     (s_cons (s_set (i:=5) S.nd rfl (Or.inl rfl) (w_callB ok_mxI (call_mxI (K:=K) rfl rfl) T.max_ boot_max (wa_cons (wx (w_comp rfl (own:=["_law_box_here","_law_bests"]) (fr:=[]) (by kernel_rfl) (i_seq rfl (wv 4)) (fun _ _ _ _=>(g_tup rfl rfl (gs_cons (g_name (i:=0) (by decide +kernel:List.Nodup (["_law_box_here","_law_bests"]:List Str)) rfl (Or.inl rfl)) (gs_cons (g_name (i:=1) (by decide +kernel:List.Nodup (["_law_box_here","_law_bests"]:List Str)) rfl (Or.inl rfl)) gs_nil)))) (fun _ _ _ _=>if0) (fun _ _ _ _=>(w_callB ok_mxI (call_mxI (K:=K) rfl rfl) T.max_ boot_max (wa_cons (wn 1) wa_nil))))) wa_nil)))
     (s_cons (s_set (i:=6) S.nd rfl (Or.inl rfl) (w_tup (wa_cons (wx (wv 2)) (wa_cons (wx (wv 3)) wa_nil))))
     (s_cons (s_set (i:=7) S.nd rfl (Or.inl rfl) (w_callT ok_list (call_listK (K:=K) rfl) T.list_ boot_list (wa_cons (wn 4) wa_nil)))
     (s_cons (s_if (t_w (t_or (t_cmp ok_isnB op_isnotB (wx (w_fn C.holds_bests (hr.mono (by first | decide | omega)) (wa_cons (wn 6) (wa_cons (wn 5) (wa_cons (wn 7) wa_nil))))) (wx w_bl)) (t_or1 (t_cmp ok_isnB op_isnotB (wx (w_fn C.holds_bests (hr.mono (by first | decide | omega)) (wa_cons (wn 6) (wa_cons (wx (w_bin ok_sub op_sub (wn 5) (wx w_int))) (wa_cons (wn 7) wa_nil))))) (wx w_bl))))) (s_one (s_ret w_bl)) s_nil)
     (s_cons (s_for [8,9] PassesOwn.never rfl (i_enum rfl T.enumerate_ (wa_cons (wx (w_fnI C.law_spoilt (hr.mono (by first | decide | omega)) (wa_cons (wn 1) (wa_cons (wn 4) wa_nil)))) wa_nil)) (g_tup rfl rfl (gs_cons (g_name (i:=8) S.nd rfl (Or.inl rfl)) (gs_cons (g_name (i:=9) S.nd rfl (Or.inl rfl)) gs_nil))) (s_cons (s_if (t_w (t_or (t_cmp ok_isnB op_isnotB (wx (w_fn C.holds_bests (hr.mono (by first | decide | omega)) (wa_cons (wn 6) (wa_cons (wx (w_bin ok_add op_addD (wx (w_bin ok_sub op_sub (wx (w_bin ok_pow op_pow (wx w_int) (wx w_int))) (wx w_int))) (wx (w_bin ok_mul op_mulD (wx (w_bin ok_mul op_mulD (wx w_int) (wx (w_bin ok_pow op_pow (wx w_int) (wx w_int))))) (wx (w_callT ok_int call_int1 T.int_ boot_int (wa_cons (wx (w_cmp ok_eq (op_eqE (K:=K) rfl hr.units) (wx (w_bin ok_mod op_mod (wn 8) (wx w_int))) (wx w_int))) wa_nil))))))) (wa_cons (wn 9) wa_nil))))) (wx w_bl)) (t_or1 (t_cmp ok_ne (op_neE (K:=K) rfl hr.units) (wn 7) (wn 4))))) (s_one (s_ret w_bl)) s_nil)
     (s_one (s_if (t_w (t_and (t_cmp ok_eq (op_eqE (K:=K) rfl hr.units) (wn 8) (wx w_int)) (t_and1 (t_cmp ok_isnB op_isnotB (wx (w_fn C.holds_bests (hr.mono (by first | decide | omega)) (wa_cons (wn 6) (wa_cons (wn 5) (wa_cons (wn 7) wa_nil))))) (wx w_bl))))) (s_one (s_ret w_bl)) s_nil))))
     (s_cons (s_if (t_cmp ok_lt op_lt (wx (w_callB ok_sum (call_sumK (K:=K) rfl rfl) T.sum_ boot_sum (wa_cons (wx (w_comp rfl (own:=["_law_box_here","_law_bests"]) (fr:=[]) (by kernel_rfl) (i_seq rfl (wv 4)) (fun _ _ _ _=>(g_tup rfl rfl (gs_cons (g_name (i:=0) (by decide +kernel:List.Nodup (["_law_box_here","_law_bests"]:List Str)) rfl (Or.inl rfl)) (gs_cons (g_name (i:=1) (by decide +kernel:List.Nodup (["_law_box_here","_law_bests"]:List Str)) rfl (Or.inl rfl)) gs_nil)))) (fun _ _ _ _=>if0) (fun _ _ _ _=>(w_callB ok_len (call_lenK (K:=K) rfl) T.len_ PySem.boot_len (wa_cons (wn 1) wa_nil))))) wa_nil))) (wx w_int)) (s_one (s_for [9] PassesOwn.never rfl (i_seq rfl (w_fn C.law_each_spoilt (hr.mono (by first | decide | omega)) (wa_cons (wn 4) wa_nil))) (g_name (i:=9) S.nd rfl (Or.inl rfl)) (s_one (s_if (t_cmp ok_isnB op_isnotB (wx (w_fn C.holds_bests (hr.mono (by first | decide | omega)) (wa_cons (wn 6) (wa_cons (wx (w_bin ok_mul op_mulD (wx w_int) (wx (w_bin ok_pow op_pow (wx w_int) (wx w_int))))) (wa_cons (wn 9) wa_nil))))) (wx w_bl)) (s_one (s_ret w_bl)) s_nil)))) s_nil)
     (s_cons (s_if (t_w (t_and (t_cmp ok_eq (op_eqE (K:=K) rfl hr.units) (wx (w_fnI C.law_take (hr.mono (by first | decide | omega)) (wa_cons (wn 1) (wa_cons (wx w_int) wa_nil)))) (wx w_int)) (t_and1 (t_not (t_val (w_fnI C.law_long_right (hr.mono (by first | decide | omega)) (wa_cons (wn 1) wa_nil))))))) (s_one (s_ret w_bl)) s_nil)
     (s_one (s_ret (w_cmp ok_isB op_isB (wx (w_fn C.holds_bests (hr.mono (by first | decide | omega)) (wa_cons (wn 6) (wa_cons (wx (w_bin ok_add op_addD (wn 5) (wx (w_fnI C.law_take (hr.mono (by first | decide | omega)) (wa_cons (wn 1) (wa_cons (wx w_int) wa_nil)))))) (wa_cons (wn 7) wa_nil))))) (wx w_bl)))))))))))))))) ?_ ?_
 ·rintro args Qd ⟨ns,rfl,_⟩; rfl
 ·rintro args Qd ⟨ns,rfl,hn,q⟩
  refine ⟨noOw_of rfl,?_⟩
  with_reducible refine cutS (fun ρ=>ρ = [some (.fz (scrD ns)),some (.ow (penD ns 0 0)),none,none,none,none,none,none,none,none]) ?_ ?_
  ·intro N hN
   exact ⟨ns,rfl,fun o=>hN _ rfl⟩
  rintro _ rfl
  with_reducible refine cutS (fun ρ=>∃ (sd:List Int) (k1 l1:Int),Sd sd /\ 0 <= k1 /\ 0 <= l1 /\ ρ = [some (.fz (scrD ns)),some (.ow (penD ns k1 l1)),some (.fz (tupD sd)),none,none,none,none,none,none,none]) ?_ ?_
  ·intro N hN
   exact ⟨ns,0,0,30,rfl,by decide,by decide,by decide,by decide,fun sd k1 l1 _ hsd hpm hk1 hl1=>hN _ ⟨sd,k1,l1,hsd,hk1,hl1,rfl⟩⟩
  rintro _ ⟨sd,k1,l1,hsd,hk1,hl1,rfl⟩
  obtain ⟨ss,z,rfl⟩:∃ ss z,sd = ss ++ [z]:=by
   rcases List.eq_nil_or_concat sd with e | ⟨a,b,e⟩
   ·have:=hsd.l1; rw [e] at this; cases this
   ·exact ⟨a,b,by simpa using e⟩
  have h120:=hsd.m
  have h3:=hsd.l3
  have hpl:=plc_len hsd.p
  have hkm:((plc (ss ++ [z])).map tupD).length = (plc (ss ++ [z])).length:=List.length_map ..
  with_reducible refine cutS (fun ρ=>∃ (cs:List Int) (k1 l1:Int),cs.length = (plc (ss ++ [z])).length /\ (∀ c ∈ cs,Big c) /\ 0 <= k1 /\ 0 <= l1 /\ ρ = [some (.fz (scrD ns)),some (.ow (penD ns k1 l1)),some (.fz (tupD (ss ++ [z]))),some (.fz (tupD cs)),none,none,none,none,none,none]) ?_ ?_
  ·intro N hN
   exact ⟨ss ++ [z],.inl rfl,hsd.p,by omega,hsd.l3,fun o=>⟨ns,k1,l1,(plc (ss ++ [z])).length,by rw [hkm]; rfl,hk1,hl1,by omega,fun cs k2 l2 _ hcs hB hk2 hl2=>hN _ ⟨cs,k2,l2,hcs,hB,hk2,hl2,rfl⟩⟩⟩
  rintro _ ⟨cs,k2,l2,hcs,hB,hk2,hl2,rfl⟩
  have hs0:S0 ss:=by
   refine ⟨by rw [List.length_append] at h3; omega,fun c hc=>hsd.p c (by simp [hc]),?_⟩
   have h1:=prodI_append ss [z]
   have h2:prodI [z] = z * 1:=rfl
   have h4:=hsd.p z (by simp)
   have h5:=prodI_pos (l:=ss) fun c hc=>hsd.p c (by simp [hc])
   rw [h2,Int.mul_one] at h1
   have h6:=Int.mul_le_mul_of_nonneg_left h4 (show (0:Int) <= prodI ss by omega)
   omega
  have hf:Fld ss cs z:=⟨hsd,hs0,hcs⟩
  have hP:=pax hf hB
  have hzm:=hsd_m hf
  have hblen:=bxs_len hs0
  have hb1:=bxs_pos hs0
  have hpl2:(lps ss cs z).length = (bxs ss).length:=by unfold lps; rw [List.length_map]
  have hpm:((lps ss cs z).map enD).length = (bxs ss).length:=by rw [List.length_map,hpl2]
  with_reducible refine cutS (fun ρ=>ρ = [some (.fz (scrD ns)),some (.ow (penD ns k2 l2)),some (.fz (tupD (ss ++ [z]))),some (.fz (tupD cs)),some (.ow (.list ((lps ss cs z).map enD))),none,none,none,none,none]) ?_ ?_
  ·intro N hN
   refine setJ (fun r ρ=>r = .ow (.list ((lps ss cs z).map enD)) /\ ρ = [some (.fz (scrD ns)),some (.ow (penD ns k2 l2)),some (.fz (tupD (ss ++ [z]))),some (.fz (tupD cs)),none,none,none,none,none,none]) (fun Q hQ=>?_) ?_
   ·refine ⟨ss,cs,z,rfl,hf,fun o=>⟨big_size (by rw [List.length_map]; omega),mapC fPa ?_ ?_⟩⟩
    ·intro d hd N' hN'
     obtain ⟨b,_,rfl⟩:=List.mem_map.mp hd
     rw [fPa_ln] at hN'
     exact ⟨rfl,rowB ss cs z b,_,rfl,.inl rfl,by rw [rowBlen]; omega,fun o=>hN'⟩
    ·rw [pa_lps]
     exact hQ _ _ ⟨rfl,rfl⟩
   ·rintro r ρ' ⟨rfl,rfl⟩
    exact hN _ rfl
  rintro _ rfl
  with_reducible refine cutS (fun ρ=>∃ mo:Int,(∀ x ∈ lps ss cs z,∀ v ∈ x.2,v <= mo) /\ (∃ x ∈ lps ss cs z,mo ∈ x.2) /\ ρ = [some (.fz (scrD ns)),some (.ow (penD ns k2 l2)),some (.fz (tupD (ss ++ [z]))),some (.fz (tupD cs)),some (.fz (.list ((lps ss cs z).map enD))),some (.fz (.int mo)),none,none,none,none]) ?_ ?_
  ·intro N hN
   refine setJ (fun r ρ=>∃ mo:Int,(∀ x ∈ lps ss cs z,∀ v ∈ x.2,v <= mo) /\ (∃ x ∈ lps ss cs z,mo ∈ x.2) /\ r = .fz (.int mo) /\ ρ = [some (.fz (scrD ns)),some (.ow (penD ns k2 l2)),some (.fz (tupD (ss ++ [z]))),some (.fz (tupD cs)),some (.fz (.list ((lps ss cs z).map enD))),none,none,none,none,none]) (fun Q hQ=>?_) ?_
   ·refine ⟨big_size (by rw [hpm]; omega),compN (fun rest acc τ=>∃ (ms:List Int) (dn ys:List Ety),τ = [none,none] /\ acc = ms.map PyData.int /\ rest = ys.map enD /\ dn ++ ys = lps ss cs z /\ ms.length = dn.length /\ (∀ x ∈ dn,∃ m ∈ ms,∀ v ∈ x.2,v <= m) /\ ∀ m ∈ ms,∃ x ∈ dn,m ∈ x.2) ?_ ?_ ⟨[],[],lps ss cs z,rfl,rfl,rfl,rfl,rfl,fun x hx=>(by cases hx),fun x hx=>(by cases hx)⟩⟩
    ·rintro d ds acc τ ⟨ms,dn,ys,rfl,rfl,er,hdy,hml,hu,hi⟩ N' hN'
     cases ys with
     | nil=>cases er
     | cons y ys =>
      cases er
      have hyl:=hP.bl y (by rw [<- hdy]; simp)
      refine ⟨rfl,y.2,rfl,by omega,fun v hv hvx=>hN' _ _ ⟨ms ++ [v],dn ++ [y],ys,rfl,by rw [List.map_append]; rfl,rfl,by rw [<- hdy]; simp,by rw [List.length_append,List.length_append,hml]; rfl,fun x hx=>?_,fun m hm=>?_⟩⟩
      ·rcases List.mem_append.mp hx with hx | hx
       ·obtain ⟨m,hm,h⟩:=hu x hx
        exact ⟨m,List.mem_append_left _ hm,h⟩
       ·rw [List.mem_singleton.mp hx]
        exact ⟨v,by simp,hvx⟩
      ·rcases List.mem_append.mp hm with hm | hm
       ·obtain ⟨x,hx,h⟩:=hi m hm
        exact ⟨x,List.mem_append_left _ hx,h⟩
       ·rw [List.mem_singleton.mp hm]
        exact ⟨y,by simp,hv⟩
    ·rintro acc τ ⟨ms,dn,ys,rfl,rfl,er,hdy,hml,hu,hi⟩
     cases ys with
     | cons _ _=>cases er
     | nil =>
      rw [List.append_nil] at hdy
      subst hdy
      refine ⟨ms,rfl,by omega,fun v hv hvx=>hQ _ _ ⟨v,fun x hx u hu'=>?_,hi v hv,rfl,rfl⟩⟩
      obtain ⟨m,hm,h⟩:=hu x hx
      have:=h u hu'
      have:=hvx m hm
      omega
   ·rintro r ρ' ⟨mo,f1,f2,rfl,rfl⟩
    exact hN _ ⟨mo,f1,f2,rfl⟩
  rintro _ ⟨mo,hmo,⟨x0,hx0,hmx0⟩,rfl⟩
  with_reducible refine cutS (fun ρ=>ρ = [some (.fz (scrD ns)),some (.ow (penD ns k2 l2)),some (.fz (tupD (ss ++ [z]))),some (.fz (tupD cs)),some (.fz (.list ((lps ss cs z).map enD))),some (.fz (.int mo)),some (.fz (.tuple [tupD (ss ++ [z]),tupD cs])),none,none,none]) ?_ ?_
  ·intro N hN
   exact hN _ rfl
  rintro _ rfl
  with_reducible refine cutS (fun ρ=>ρ = [some (.fz (scrD ns)),some (.ow (penD ns k2 l2)),some (.fz (tupD (ss ++ [z]))),some (.fz (tupD cs)),some (.fz (.list ((lps ss cs z).map enD))),some (.fz (.int mo)),some (.fz (.tuple [tupD (ss ++ [z]),tupD cs])),some (.ow (.list ((lps ss cs z).map enD))),none,none]) ?_ ?_
  ·intro N hN
   exact hN _ rfl
  rintro _ rfl
  have hokg:okD (.list ((lps ss cs z).map enD)) = true:=okL (okEs _)
  have yes:∀ n:Int,mo <= n -> isB (Rgt ss cs z n (.list ((lps ss cs z).map enD))) = true:=fun n h=>by
   rw [rgt_iff (lps_fst _ _ _) (lps_len hf)]
   exact lps_hold fun x hx v hv=>by have:=hmo x hx v hv; omega
  have no:isB (Rgt ss cs z (mo - 1) (.list ((lps ss cs z).map enD))) = false:=by
   rw [rgt_iff (lps_fst _ _ _) (lps_len hf)]
   exact lps_over hx0 hmx0 (by omega)
  have ne:=nice_en (lps ss cs z)
  with_reducible refine cutS (fun ρ=>ρ = [some (.fz (scrD ns)),some (.ow (penD ns k2 l2)),some (.fz (tupD (ss ++ [z]))),some (.fz (tupD cs)),some (.fz (.list ((lps ss cs z).map enD))),some (.fz (.int mo)),some (.fz (.tuple [tupD (ss ++ [z]),tupD cs])),some (.ow (.list ((lps ss cs z).map enD))),none,none]) ?_ ?_
  ·intro N hN
   refine ⟨ss,cs,z,mo,.list ((lps ss cs z).map enD),rfl,hf,.inl hokg,fun o=>?_⟩
   rw [yes mo (Int.le_refl _)]
   refine ⟨rfl,ss,cs,z,mo - 1,.list ((lps ss cs z).map enD),rfl,hf,.inl hokg,fun o=>?_⟩
   rw [no]
   exact ⟨rfl,hN _ rfl⟩
  rintro _ rfl
  with_reducible refine cutS (fun ρ=>∃ k1 l1:Int,0 <= k1 /\ 0 <= l1 /\ ρ = [some (.fz (scrD ns)),some (.ow (penD ns k1 l1)),some (.fz (tupD (ss ++ [z]))),some (.fz (tupD cs)),some (.fz (.list ((lps ss cs z).map enD))),some (.fz (.int mo)),some (.fz (.tuple [tupD (ss ++ [z]),tupD cs])),some (.ow (.list ((lps ss cs z).map enD))),none,none]) ?_ ?_
  ·intro N hN
   refine ⟨ns,k2,l2,z,lps ss cs z,rfl,hk2,hl2,hP,fun rs k3 l3 o hrs hrl hk3 hl3=>?_⟩
   rw [lps_fst] at hrs
   refine (?_:dLoopC _ _ _ _ (enumD rs) [some (.fz (scrD ns)),some (.ow (penD ns k3 l3)),some (.fz (tupD (ss ++ [z]))),some (.fz (tupD cs)),some (.fz (.list ((lps ss cs z).map enD))),some (.fz (.int mo)),some (.fz (.tuple [tupD (ss ++ [z]),tupD cs])),some (.ow (.list ((lps ss cs z).map enD))),none,none])
   refine loopC (fun rest ρ=>∃ (us:List PyData) (j:Nat),rest = (us.zipIdx j).map (fun p=>PyData.tuple [.int (p.2:Nat),p.1]) /\ (∀ r ∈ us,NoP (bxs ss) z r) /\ ρ = [some (.fz (scrD ns)),some (.ow (penD ns k3 l3)),some (.fz (tupD (ss ++ [z]))),some (.fz (tupD cs)),some (.fz (.list ((lps ss cs z).map enD))),some (.fz (.int mo)),some (.fz (.tuple [tupD (ss ++ [z]),tupD cs])),some (.ow (.list ((lps ss cs z).map enD))),none,none]) ?_ ?_ ⟨rs,0,rfl,hrs,rfl⟩
   ·rintro d ds ρ ⟨us,j,er,hus,rfl⟩ M hM
    cases us with
    | nil=>cases er
    | cons u us =>
     rw [List.zipIdx_cons,List.map_cons] at er
     cases er
     have hu:=hus u List.mem_cons_self
     have hus':∀ r ∈ us,NoP (bxs ss) z r:=fun r hr=>hus r (List.mem_cons_of_mem _ hr)
     refine gt2_ok trivial trivial ?_
     with_reducible refine cutS (fun ρ=>ρ = [some (.fz (scrD ns)),some (.ow (penD ns k3 l3)),some (.fz (tupD (ss ++ [z]))),some (.fz (tupD cs)),some (.fz (.list ((lps ss cs z).map enD))),some (.fz (.int mo)),some (.fz (.tuple [tupD (ss ++ [z]),tupD cs])),some (.ow (.list ((lps ss cs z).map enD))),some (.fz (.int (j:Nat))),some (.fz u)]) ?_ ?_
     ·intro M2 hM2
      have cp:CPow 10 30:=⟨by decide,by decide,by decide⟩
      have cb:∀ b:Bool,CMul (36 * 10 ^ (30:Int).toNat) (if b then 1 else 0):=fun b=>.inr (by cases b <;> exact ⟨by decide,by decide⟩)
      refine ⟨cp,cp,.inl ⟨by decide,by decide⟩,?_⟩
      refine ⟨show (0:Int) < 2 by decide,cb _,ss,cs,z,_,u,rfl,hf,hu.1,fun o=>?_⟩
      rw [hu.rgt]
      refine ⟨ne.p,ne.p,ne.sh (by decide),ne.sh (by decide),noMix_self _ ne.p,ite2 (fun h=>?_) (fun h=>hM2 _ rfl)⟩
      have h:(!same (.list ((lps ss cs z).map enD)) (.list ((lps ss cs z).map enD))) = true:=h
      rw [same_self] at h
      cases h
     rintro _ rfl
     have fin:∃ (us':List PyData) (j':Nat),(us.zipIdx (j + 1)).map (fun p=>PyData.tuple [.int (p.2:Nat),p.1]) = (us'.zipIdx j').map (fun p=>PyData.tuple [.int (p.2:Nat),p.1]) /\ (∀ r ∈ us',NoP (bxs ss) z r):=⟨us,j + 1,rfl,hus'⟩
     refine ite2 (fun h=>?_) (fun h=>hM _ ⟨us,j + 1,rfl,hus',rfl⟩)
     refine ⟨ss,cs,z,mo,.list ((lps ss cs z).map enD),rfl,hf,.inl hokg,fun o=>?_⟩
     rw [yes mo (Int.le_refl _)]
     exact ⟨rfl,hM _ ⟨us,j + 1,rfl,hus',rfl⟩⟩
   ·rintro ρ ⟨us,j,_,_,rfl⟩
    exact hN _ ⟨k3,l3,hk3,hl3,rfl⟩
  rintro _ ⟨k4,l4,hk4,hl4,rfl⟩
  with_reducible refine cutS (fun ρ=>ρ = [some (.fz (scrD ns)),some (.ow (penD ns k4 l4)),some (.fz (tupD (ss ++ [z]))),some (.fz (tupD cs)),some (.fz (.list ((lps ss cs z).map enD))),some (.fz (.int mo)),some (.fz (.tuple [tupD (ss ++ [z]),tupD cs])),some (.ow (.list ((lps ss cs z).map enD))),none,none]) ?_ ?_
  ·intro N hN
   refine ⟨big_size (by rw [hpm]; omega),mapC (fun d=>.int z) ?_ ?_⟩
   ·intro d hd N' hN'
    obtain ⟨x,hx,rfl⟩:=List.mem_map.mp hd
    have:=lps_len hf x hx
    refine ⟨rfl,?_⟩
    have e:((x.2.map PyData.int).length:Int) = z:=by rw [List.length_map]; exact this
    rw [<- e] at hN'
    exact hN'
   have e1:((lps ss cs z).map enD).map (fun _=>PyData.int z) = ((lps ss cs z).map fun _=>z).map PyData.int:=by rw [List.map_map,List.map_map]; rfl
   refine ⟨_,e1,ite2 (fun h=>?_) (fun h=>hN _ rfl)⟩
   have h:((lps ss cs z).map fun _=>z).sum < 49:=of_decide_eq_true h
   have e2:((lps ss cs z).map fun _=>z).sum = (bxs ss).length * z:=by
    rw [<- hpl2]
    generalize lps ss cs z = l
    induction l with
    | nil=>simp
    | cons a l ih=>rw [List.map_cons,List.sum_cons,ih,List.length_cons,Int.natCast_succ,Int.add_mul,Int.one_mul]; omega
   rw [e2] at h
   have hcnt:(bxs ss).length * (z.toNat + 2) <= 500:=by
    obtain ⟨m,rfl⟩:=Int.eq_ofNat_of_zero_le (show 0 <= z by omega)
    have h':(bxs ss).length * m < 49:=by exact_mod_cast h
    have hm1:1 <= m:=by omega
    have h2:(bxs ss).length * 1 <= (bxs ss).length * m:=Nat.mul_le_mul_left _ hm1
    rw [show (m:Int).toNat = m by omega,Nat.mul_add]
    omega
   refine ⟨ss,cs,z,rfl,hf,hcnt,fun rs o hrs=>?_⟩
   refine loopC (fun rest ρ=>(∀ r ∈ rest,Wrg ss cs z r) /\ ρ = [some (.fz (scrD ns)),some (.ow (penD ns k4 l4)),some (.fz (tupD (ss ++ [z]))),some (.fz (tupD cs)),some (.fz (.list ((lps ss cs z).map enD))),some (.fz (.int mo)),some (.fz (.tuple [tupD (ss ++ [z]),tupD cs])),some (.ow (.list ((lps ss cs z).map enD))),none,none]) ?_ ?_ ⟨hrs,rfl⟩
   ·rintro d ds ρ ⟨h,rfl⟩ M hM
    have hd:=h d List.mem_cons_self
    refine ⟨⟨by decide,by decide,by decide⟩,.inl ⟨by decide,by decide⟩,ss,cs,z,_,d,rfl,hf,hd.1,fun o=>?_⟩
    rw [hd.2]
    exact hM _ ⟨fun r hr=>h r (List.mem_cons_of_mem _ hr),rfl⟩
   ·rintro ρ ⟨_,rfl⟩
    exact hN _ rfl
  rintro _ rfl
  with_reducible refine cutS (fun ρ=>∃ k1 l1:Int,0 <= k1 /\ 0 <= l1 /\ ρ = [some (.fz (scrD ns)),some (.ow (penD ns k1 l1)),some (.fz (tupD (ss ++ [z]))),some (.fz (tupD cs)),some (.fz (.list ((lps ss cs z).map enD))),some (.fz (.int mo)),some (.fz (.tuple [tupD (ss ++ [z]),tupD cs])),some (.ow (.list ((lps ss cs z).map enD))),none,none]) ?_ ?_
  ·intro N hN
   refine ⟨ns,k4,l4,8,rfl,hk4,hl4,by decide,by decide,fun r k5 l5 _ r0 r1 hk5 hl5=>?_⟩
   refine ite2 (fun h=>?_) (fun h=>hN _ ⟨k5,l5,hk5,hl5,rfl⟩)
   exact ⟨ns,k5,l5,rfl,hk5,hl5,fun k6 l6 o hk6 hl6=>hN _ ⟨k6,l6,hk6,hl6,rfl⟩⟩
  rintro _ ⟨k5,l5,hk5,hl5,rfl⟩
  refine ⟨ns,k5,l5,9,rfl,hk5,hl5,by decide,by decide,fun r k6 l6 _ r0 r1 hk6 hl6=>?_⟩
  refine ⟨ss,cs,z,mo + r,.list ((lps ss cs z).map enD),rfl,hf,.inl hokg,fun o=>?_⟩
  rw [yes (mo + r) (by omega)]
  exact ⟨rfl,q _⟩
end
end R46
namespace R46
open PySem L2 L3 PyProof.Rows
theorem len0 {p:List Value -> Prop} (h:p []):∀ us:List Value,us.length = 0 -> p us:=fun us e=>by
 cases us with
 | nil=>exact h
 | cons x us=>cases e
theorem len1 {p:List Value -> Prop} (h:∀ x0,p [x0]):∀ us:List Value,us.length = 1 -> p us:=fun us e=>by
 cases us with
 | nil=>cases e
 | cons x us=>exact len0 (p:=fun l=>p (x :: l)) (h x) us (Nat.succ.inj e)
theorem len2 {p:List Value -> Prop} (h:∀ x0 x1,p [x0,x1]):∀ us:List Value,us.length = 2 -> p us:=fun us e=>by
 cases us with
 | nil=>cases e
 | cons x us=>exact len1 (p:=fun l=>p (x :: l)) (fun x1=>h x x1) us (Nat.succ.inj e)
theorem len3 {p:List Value -> Prop} (h:∀ x0 x1 x2,p [x0,x1,x2]):∀ us:List Value,us.length = 3 -> p us:=fun us e=>by
 cases us with
 | nil=>cases e
 | cons x us=>exact len2 (p:=fun l=>p (x :: l)) (fun x1 x2=>h x x1 x2) us (Nat.succ.inj e)
structure Df (K:PySem.W.Frag) (mg:Str -> Option Value) (x:Str) (st:Stmt) (f:Addr) (d:FuncData):Prop where
 F:Fun K x x st f d
 m:mg x = some (.ref f)
 k:PySem.W.keepIn K (.ref f) = true
section
variable {K:PySem.W.Frag} {mg:Str -> Option Value}
theorem df_mk {h:Heap} (X:K.In h) (G:h.Ns mainGlobals mg) {x:Str} {st:Stmt} {f:Addr} {oc:Value} {od an:Option Addr} {osl:Array (Option Value)} {kV doc pm cdv ct:Value} (a:PySem.W.nsIn K mainGlobals x = some (some (.ref f))) (l:K.lookup f = some ⟨oc,od,.func (PySem.W.fnOf x x (defArgs st) (defBody st) (defScope st) .none kV doc pm an cdv ct),osl⟩) (c:PySem.W.codeIn K cdv x = true) (k:PySem.W.keepIn K (.ref f) = true):Df K mg x st f (PySem.W.fnOf x x (defArgs st) (defBody st) (defScope st) .none kV doc pm an cdv ct) :=
 ⟨fun_mk l c k,PySem.W.mg_of X G a,k⟩
theorem calD (P:Program) (w:World) (base:Heap) {k:Nat} {x:Str} {ps:List Str} {sp:Sp} {st:Stmt} {f:Addr} {d:FuncData} (D:Df K mg x st f d) (h:FnOk P w K mg base CX0 k f d ps sp) (b:∀ (kV doc pm:Value) (an:Option Addr) (cdv ct:Value) (us:List Value),us.length = ps.length -> bindArgs (PySem.W.fnOf x x (defArgs st) (defBody st) (defScope st) .none kV doc pm an cdv ct) ⟨us,[]⟩ = pure (ps.zip us)):Cal P w K mg base k x ps sp :=
 ⟨⟨f,d,h,D.m,D.k,D.F.binds b⟩⟩
end
theorem all_mk {l:PySem.W.OpenLaw} {w:World} {K:PySem.W.Frag} {h:Heap} {mg:Str -> Option Value} {fa f0 f1 f2 f3 f4 f5 f6 f7 f8 f9 f10 f11 f12 f13 f14 f15 f16 f17 f18 f19 f20 f21 f22 f23 f24 f25 f26 f27 f28 f29 f30 f31 f32 f33 f34 f35 f36:Addr} {d0 d1 d2 d3 d4 d5 d6 d7 d8 d9 d10 d11 d12 d13 d14 d15 d16 d17 d18 d19 d20 d21 d22 d23 d24 d25 d26 d27 d28 d29 d30 d31 d32 d33 d34 d35 d36:FuncData} (X:K.In h) (G:h.Ns mainGlobals mg) (hfa:mg "law" = some (.ref fa))
  (D0:Df K mg "_law_begin" (top 26) f0 d0) (D1:Df K mg "_law_mixed" (top 27) f1 d1) (D2:Df K mg "_law_take" (top 28) f2 d2) (D3:Df K mg "_law_sides" (top 29) f3 d3) (D4:Df K mg "_law_places" (top 32) f4 d4) (D5:Df K mg "_law_number" (top 30) f5 d5) (D6:Df K mg "_law_cells" (top 31) f6 d6) (D7:Df K mg "_law_boxes" (top 34) f7 d7) (D8:Df K mg "_law_lies" (top 36) f8 d8) (D9:Df K mg "_law_lines" (top 38) f9 d9) (D10:Df K mg "_law_least" (top 39) f10 d10) (D11:Df K mg "one_of_each" (top 3) f11 d11) (D12:Df K mg "places_between" (top 4) f12 d12) (D13:Df K mg "first_place" (top 9) f13 d13) (D14:Df K mg "last_place" (top 10) f14 d14) (D15:Df K mg "all_places" (top 11) f15 d15) (D16:Df K mg "all_boxes" (top 12) f16 d16) (D17:Df K mg "is_whole" (top 1) f17 d17) (D18:Df K mg "are_wholes" (top 2) f18 d18) (D19:Df K mg "is_place" (top 7) f19 d19) (D20:Df K mg "is_box" (top 8) f20 d20) (D21:Df K mg "is_entry" (top 23) f21 d21) (D22:Df K mg "add_along" (top 15) f22 d22) (D23:Df K mg "running_of" (top 14) f23 d23) (D24:Df K mg "index_of" (top 5) f24 d24) (D25:Df K mg "corner_numbers" (top 17) f25 d25) (D26:Df K mg "signed_place" (top 18) f26 d26) (D27:Df K mg "corners" (top 16) f27 d27) (D28:Df K mg "sum_by_running" (top 19) f28 d28) (D29:Df K mg "sums_along" (top 20) f29 d29) (D30:Df K mg "are_bests" (top 24) f30 d30) (D31:Df K mg "holds_bests" (top 22) f31 d31) (D32:Df K mg "_law_rows_spoilt" (top 41) f32 d32) (D33:Df K mg "_law_spoilt" (top 42) f33 d33) (D34:Df K mg "_law_each_spoilt" (top 43) f34 d34) (D35:Df K mg "_law_long_right" (top 44) f35 d35) (D36:Df K mg "law" (top 45) f36 d36)
  (z0:PySem.W.nsIn K mainGlobals "len" = some none) (z1:PySem.W.nsIn K mainGlobals "isinstance" = some none) (z2:PySem.W.nsIn K mainGlobals "int" = some none) (z3:PySem.W.nsIn K mainGlobals "bool" = some none) (z4:PySem.W.nsIn K mainGlobals "list" = some none) (z5:PySem.W.nsIn K mainGlobals "tuple" = some none) (z6:PySem.W.nsIn K mainGlobals "range" = some none) (z7:PySem.W.nsIn K mainGlobals "zip" = some none) (z8:PySem.W.nsIn K mainGlobals "all" = some none) (z9:PySem.W.nsIn K mainGlobals "sum" = some none) (z10:PySem.W.nsIn K mainGlobals "sorted" = some none) (z11:PySem.W.nsIn K mainGlobals "max" = some none) (z12:PySem.W.nsIn K mainGlobals "enumerate" = some none) (z13:PySem.W.nsIn K mainGlobals "reversed" = some none) (z14:PySem.W.nsIn K mainGlobals "min" = some none) (z15:PySem.W.nsIn K mainGlobals "abs" = some none) (z16:PySem.W.nsIn K mainGlobals "str" = some none) (z17:PySem.W.nsIn K mainGlobals "dict" = some none) :
  ∃ fd:FuncData,(∀ (s:Shared) (v:Value),BindsTo s fd ⟨[v],[]⟩ [("_law_script",v)]) /\ ∀ base:Heap,K.In base -> base.Ns mainGlobals mg -> FnOk l.prog w K mg base CX0 8 fa fd ["_law_script"] (conSp K cLaw):=by
 cases hfa.symm.trans D36.m
 have T:Txt mg:=⟨PySem.W.mg_none_of X G z0,PySem.W.mg_none_of X G z1,PySem.W.mg_none_of X G z2,PySem.W.mg_none_of X G z3,PySem.W.mg_none_of X G z4,PySem.W.mg_none_of X G z5,PySem.W.mg_none_of X G z6,PySem.W.mg_none_of X G z7,PySem.W.mg_none_of X G z8,PySem.W.mg_none_of X G z9,PySem.W.mg_none_of X G z10,PySem.W.mg_none_of X G z11,PySem.W.mg_none_of X G z12,PySem.W.mg_none_of X G z13,PySem.W.mg_none_of X G z14,PySem.W.mg_none_of X G z15,PySem.W.mg_none_of X G z16,PySem.W.mg_none_of X G z17⟩
 obtain ⟨oc,od,kV,doc,pm,an,cdv,ct,osl,e,lk,hcd⟩:=D36.F.ex
 refine ⟨d36,fun s v=>by subst e; exact .of_eq rfl,fun b _ _=>?_⟩
 have C0:=calD l.prog w b D0 (ok_begin D0.F) fun _ _ _ _ _ _=>len1 fun _=>rfl
 have C1:=calD l.prog w b D1 (ok_mixed D1.F) fun _ _ _ _ _ _=>len2 fun _ _=>rfl
 have C2:=calD l.prog w b D2 (ok_take D2.F T ⟨C1⟩) fun _ _ _ _ _ _=>len2 fun _ _=>rfl
 have C3:=calD l.prog w b D3 (ok_sides D3.F T ⟨C2⟩) fun _ _ _ _ _ _=>len2 fun _ _=>rfl
 have C4:=calD l.prog w b D4 (ok_places D4.F T) fun _ _ _ _ _ _=>len1 fun _=>rfl
 have C5:=calD l.prog w b D5 (ok_number D5.F ⟨C2⟩) fun _ _ _ _ _ _=>len1 fun _=>rfl
 have C6:=calD l.prog w b D6 (ok_cells D6.F T ⟨C2,C5⟩) fun _ _ _ _ _ _=>len2 fun _ _=>rfl
 have C7:=calD l.prog w b D7 (ok_boxes D7.F T ⟨C4⟩) fun _ _ _ _ _ _=>len1 fun _=>rfl
 have C8:=calD l.prog w b D8 (ok_lies D8.F T) fun _ _ _ _ _ _=>len2 fun _ _=>rfl
 have C9:=calD l.prog w b D9 (ok_ln D9.F T ⟨C4,C7,C8⟩) fun _ _ _ _ _ _=>len2 fun _ _=>rfl
 have C10:=calD l.prog w b D10 (ok_lst D10.F) fun _ _ _ _ _ _=>len1 fun _=>rfl
 have C11:=calD l.prog w b D11 (ok_each D11.F) fun _ _ _ _ _ _=>len1 fun _=>rfl
 have C12:=calD l.prog w b D12 (ok_btw D12.F T ⟨C11⟩) fun _ _ _ _ _ _=>len2 fun _ _=>rfl
 have C13:=calD l.prog w b D13 (ok_first D13.F T) fun _ _ _ _ _ _=>len1 fun _=>rfl
 have C14:=calD l.prog w b D14 (ok_last D14.F T) fun _ _ _ _ _ _=>len1 fun _=>rfl
 have C15:=calD l.prog w b D15 (ok_allPlaces D15.F ⟨C12,C13,C14⟩) fun _ _ _ _ _ _=>len1 fun _=>rfl
 have C16:=calD l.prog w b D16 (ok_allB D16.F ⟨C15,C12,C14⟩) fun _ _ _ _ _ _=>len1 fun _=>rfl
 have C17:=calD l.prog w b D17 (ok_wholeX D17.F T) fun _ _ _ _ _ _=>len1 fun _=>rfl
 have C18:=calD l.prog w b D18 (ok_areW D18.F T ⟨C17⟩) fun _ _ _ _ _ _=>len2 fun _ _=>rfl
 have C19:=calD l.prog w b D19 (ok_isPlace D19.F T ⟨C18⟩) fun _ _ _ _ _ _=>len2 fun _ _=>rfl
 have C20:=calD l.prog w b D20 (ok_isBox D20.F T ⟨C19⟩) fun _ _ _ _ _ _=>len2 fun _ _=>rfl
 have C21:=calD l.prog w b D21 (ok_ie D21.F T ⟨C20,C18⟩) fun _ _ _ _ _ _=>len3 fun _ _ _=>rfl
 have C22:=calD l.prog w b D22 (ok_addA D22.F T) fun _ _ _ _ _ _=>len3 fun _ _ _=>rfl
 have C23:=calD l.prog w b D23 (ok_runOf D23.F T ⟨C22⟩) fun _ _ _ _ _ _=>len1 fun _=>rfl
 have C24:=calD l.prog w b D24 (ok_index D24.F T) fun _ _ _ _ _ _=>len2 fun _ _=>rfl
 have C25:=calD l.prog w b D25 (ok_corner D25.F T) fun _ _ _ _ _ _=>len2 fun _ _=>rfl
 have C26:=calD l.prog w b D26 (ok_signed D26.F T) fun _ _ _ _ _ _=>len1 fun _=>rfl
 have C27:=calD l.prog w b D27 (ok_corners D27.F T ⟨C11,C25,C26⟩) fun _ _ _ _ _ _=>len2 fun _ _=>rfl
 have C28:=calD l.prog w b D28 (ok_sbr D28.F T ⟨C24,C27⟩) fun _ _ _ _ _ _=>len3 fun _ _ _=>rfl
 have C29:=calD l.prog w b D29 (ok_sa D29.F T ⟨C28⟩) fun _ _ _ _ _ _=>len3 fun _ _ _=>rfl
 have C30:=calD l.prog w b D30 (ok_ab D30.F T) fun _ _ _ _ _ _=>len3 fun _ _ _=>rfl
 have C31:=calD l.prog w b D31 (ok_hb D31.F T ⟨C16,C21,C23,C29,C30⟩) fun _ _ _ _ _ _=>len3 fun _ _ _=>rfl
 have C32:=calD l.prog w b D32 (ok_rs D32.F T ⟨C2⟩) fun _ _ _ _ _ _=>len2 fun _ _=>rfl
 have C33:=calD l.prog w b D33 (ok_spX D33.F T ⟨C2,C32⟩) fun _ _ _ _ _ _=>len2 fun _ _=>rfl
 have C34:=calD l.prog w b D34 (ok_es D34.F T) fun _ _ _ _ _ _=>len1 fun _=>rfl
 have C35:=calD l.prog w b D35 (ok_lr D35.F T ⟨C2,C10,C31⟩) fun _ _ _ _ _ _=>len1 fun _=>rfl
 exact ok_law D36.F T ⟨C0,C3,C4,C6,C9,C10,C2,C31,C33,C34,C35⟩
theorem walk {l:PySem.W.OpenLaw} {q:Program} {loose:List Str} {XP:(Str -> Option Value) -> Heap -> Prop} {YP:World -> Heap -> Prop} {d:DefRec} {K:Params -> PySem.W.Frag} (hn:l.most = some 63) (hdf:d.params.defaults = [])
  (hY:∀ (w:World) (h:Heap),YP w h -> (K w.params).In h)
  (F:∀ (w:World) (mg:Str -> Option Value) (fa:Addr) (h:Heap),(K w.params).In h -> h.Ns mainGlobals mg -> mg d.name = some (.ref fa) ->
    ∃ fd:FuncData,(∀ (s:Shared) (u:Value),BindsTo s fd ⟨[u],[]⟩ [("_law_script",u)]) /\ ∀ base:Heap,(K w.params).In base -> base.Ns mainGlobals mg -> FnOk l.prog w (K w.params) mg base CX0 8 fa fd ["_law_script"] (conSp (K w.params) cLaw)) :
  PySem.W.WalkO q loose XP YP l.row.toRowW d [] (fun f vs=>PySem.call f vs) :=
 L2.walk_of (n:=63) (k:=8) (x:="_law_script") (CX:=fun _=>CX0) (sp:=fun w=>conSp (K w.params) cLaw) hn (by decide) hdf ⟨rfl,by decide,by decide,rfl⟩ hY F (fun _ _ a ns hl _ hS=>cLaw_sp hl hS) fun _ _ _ _ _ z=>z
end R46
open PySem PySem.W PyProof.Rows
namespace PySem.W.Fast
def tw10985422508321150159:Unit:=()
def tw14216782022356103728:Unit:=()
def tw5213586480597596554:Unit:=()
def tw3417613793114225956:Unit:=()
def tw2249659238023288018:Unit:=()
def tw12636841358482815910:Unit:=()
def tw4435612537739497968:Unit:=()
def tw101901628819237760:Unit:=()
def tw8094554503667979614:Unit:=()
def tw16890948069063364015:Unit:=()
def tw11396161514169596046:Unit:=()
def tw5156731746077534240:Unit:=()
def tw358880021092810739:Unit:=()
def tw6280356325850400474:Unit:=()
def tw12423933049281744619:Unit:=()
def tw18412981938298467860:Unit:=()
def tw15015266954163707064:Unit:=()
def tw15772963668654531522:Unit:=()
def tw6476286184598773454:Unit:=()
def tw15036928759950981316:Unit:=()
def tw17105563377241196521:Unit:=()
def tw16700812688664831196:Unit:=()
def tw10460158177097830987:Unit:=()
def tw7269650665349947147:Unit:=()
def tw5616757568957516442:Unit:=()
def tw6224974728672771184:Unit:=()
def tw12993714998556232338:Unit:=()
def tw11517294989426907430:Unit:=()
def tw7517723285235203516:Unit:=()
def tw16962329383199009082:Unit:=()
def tw12732405337114624943:Unit:=()
def tw16712165242938888964:Unit:=()
def tw7833926501586843393:Unit:=()
def tw9184012212900674036:Unit:=()
def tw3610375524680875877:Unit:=()
def tw17245140802171199571:Unit:=()
def tw5867347393924814347:Unit:=()
def tw16158774040213358163:Unit:=()
def tw7950232665066848579:Unit:=()
def tw17267786587001495195:Unit:=()
def tw15965357605421981332:Unit:=()
def tw1177821189259565324:Unit:=()
def tw15326348180233822635:Unit:=()
def tw8196838849949897114:Unit:=()
def tw14453585266794103451:Unit:=()
def tw1888606072057693481:Unit:=()
def tw3823744906144592026:Unit:=()
def tw17390108677304341373:Unit:=()
def tw9539182459551497154:Unit:=()
def tw12158384054716368994:Unit:=()
def tw17252480609942989635:Unit:=()
def tw11086483126946208050:Unit:=()
def tw12276109673817797922:Unit:=()
def tw12122391143877647715:Unit:=()
def tw2710377422126291765:Unit:=()
def tw12934475634722660082:Unit:=()
def tw5527624834160138653:Unit:=()
def tw12729315069600799661:Unit:=()
def tw12472785157402060072:Unit:=()
def tw9040959439498433930:Unit:=()
def tw11233369818637837495:Unit:=()
def tw5103947882895303071:Unit:=()
def tw3414519628659663256:Unit:=()
def tw13485202823478750756:Unit:=()
def tw10036199714965065958:Unit:=()
def tw1884238768571848607:Unit:=()
def tw13228360565703520500:Unit:=()
def tw10665275730705663249:Unit:=()
def tw11463529483140405362:Unit:=()
def tw13760397007900325478:Unit:=()
def tw14155923599619304216:Unit:=()
def tw2191552882920295715:Unit:=()
def tw8687884655964453305:Unit:=()
def tw545198232295941243:Unit:=()
def tw9673332122879834371:Unit:=()
def tw17796517618890787851:Unit:=()
def tw11926601046604992569:Unit:=()
def tw14956651314324185254:Unit:=()
def tw15193927573749602490:Unit:=()
def tw15130793223843360791:Unit:=()
def tw16751834937045033282:Unit:=()
def tw2762387857425527428:Unit:=()
def tw10138025587365789140:Unit:=()
def tw7706495038015978693:Unit:=()
def tw13952115616406784063:Unit:=()
def tw11724396041810285921:Unit:=()
def tw3286087727182196662:Unit:=()
def tw2919658421602600658:Unit:=()
def tw3088416948234537306:Unit:=()
def tw10427944449485408672:Unit:=()
def tw4342225669957481742:Unit:=()
def tw15975582600492792799:Unit:=()
end PySem.W.Fast
set_option maxRecDepth 100000 in
set_option maxHeartbeats 0 in
theorem PySem.Challenge.cw_boxsums_k46_papers_of_bests_spoilt_holds : PySem.Challenge.rw_boxsums_k46_papers_of_bests_spoilt.Holds := by
 w_on; o_law; k_head; (case hw=>w_witness2)
 k_fill
 refine R46.walk (l:=PySem.Challenge.rw_boxsums_k46_papers_of_bests_spoilt) rfl rfl (fun w h Y=>PySem.W.kIn_of Y) ?F
 case F =>
  intro w mg fa h KX G hmg
  refine' R46.all_mk KX G hmg (R46.df_mk KX G ?a0 ?l0 ?c0 ?k0) (R46.df_mk KX G ?a1 ?l1 ?c1 ?k1) (R46.df_mk KX G ?a2 ?l2 ?c2 ?k2) (R46.df_mk KX G ?a3 ?l3 ?c3 ?k3) (R46.df_mk KX G ?a4 ?l4 ?c4 ?k4) (R46.df_mk KX G ?a5 ?l5 ?c5 ?k5) (R46.df_mk KX G ?a6 ?l6 ?c6 ?k6) (R46.df_mk KX G ?a7 ?l7 ?c7 ?k7) (R46.df_mk KX G ?a8 ?l8 ?c8 ?k8) (R46.df_mk KX G ?a9 ?l9 ?c9 ?k9) (R46.df_mk KX G ?a10 ?l10 ?c10 ?k10) (R46.df_mk KX G ?a11 ?l11 ?c11 ?k11) (R46.df_mk KX G ?a12 ?l12 ?c12 ?k12) (R46.df_mk KX G ?a13 ?l13 ?c13 ?k13) (R46.df_mk KX G ?a14 ?l14 ?c14 ?k14) (R46.df_mk KX G ?a15 ?l15 ?c15 ?k15) (R46.df_mk KX G ?a16 ?l16 ?c16 ?k16) (R46.df_mk KX G ?a17 ?l17 ?c17 ?k17) (R46.df_mk KX G ?a18 ?l18 ?c18 ?k18) (R46.df_mk KX G ?a19 ?l19 ?c19 ?k19) (R46.df_mk KX G ?a20 ?l20 ?c20 ?k20) (R46.df_mk KX G ?a21 ?l21 ?c21 ?k21) (R46.df_mk KX G ?a22 ?l22 ?c22 ?k22) (R46.df_mk KX G ?a23 ?l23 ?c23 ?k23) (R46.df_mk KX G ?a24 ?l24 ?c24 ?k24) (R46.df_mk KX G ?a25 ?l25 ?c25 ?k25) (R46.df_mk KX G ?a26 ?l26 ?c26 ?k26) (R46.df_mk KX G ?a27 ?l27 ?c27 ?k27) (R46.df_mk KX G ?a28 ?l28 ?c28 ?k28) (R46.df_mk KX G ?a29 ?l29 ?c29 ?k29) (R46.df_mk KX G ?a30 ?l30 ?c30 ?k30) (R46.df_mk KX G ?a31 ?l31 ?c31 ?k31) (R46.df_mk KX G ?a32 ?l32 ?c32 ?k32) (R46.df_mk KX G ?a33 ?l33 ?c33 ?k33) (R46.df_mk KX G ?a34 ?l34 ?c34 ?k34) (R46.df_mk KX G ?a35 ?l35 ?c35 ?k35) (R46.df_mk KX G ?a36 ?l36 ?c36 ?k36) ?z0 ?z1 ?z2 ?z3 ?z4 ?z5 ?z6 ?z7 ?z8 ?z9 ?z10 ?z11 ?z12 ?z13 ?z14 ?z15 ?z16 ?z17
  case a0 | l0 | c0 | k0 | a1 | l1 | c1 | k1 | a2 | l2 | c2 | k2 | a3 | l3 | c3 | k3 | a4 | l4 | c4 | k4 | a5 | l5 | c5 | k5 | a6 | l6 | c6 | k6 | a7 | l7 | c7 | k7 | a8 | l8 | c8 | k8 | a9 | l9 | c9 | k9 | a10 | l10 | c10 | k10 | a11 | l11 | c11 | k11 | a12 | l12 | c12 | k12 | a13 | l13 | c13 | k13 | a14 | l14 | c14 | k14 | a15 | l15 | c15 | k15 | a16 | l16 | c16 | k16 | a17 | l17 | c17 | k17 | a18 | l18 | c18 | k18 | a19 | l19 | c19 | k19 | a20 | l20 | c20 | k20 | a21 | l21 | c21 | k21 | a22 | l22 | c22 | k22 | a23 | l23 | c23 | k23 | a24 | l24 | c24 | k24 | a25 | l25 | c25 | k25 | a26 | l26 | c26 | k26 | a27 | l27 | c27 | k27 | a28 | l28 | c28 | k28 | a29 | l29 | c29 | k29 | a30 | l30 | c30 | k30 | a31 | l31 | c31 | k31 | a32 | l32 | c32 | k32 | a33 | l33 | c33 | k33 | a34 | l34 | c34 | k34 | a35 | l35 | c35 | k35 | a36 | l36 | c36 | k36 | z0 | z1 | z2 | z3 | z4 | z5 | z6 | z7 | z8 | z9 | z10 | z11 | z12 | z13 | z14 | z15 | z16 | z17=>k_is
