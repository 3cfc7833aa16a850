import PyProof.Rows.All
import Wide.All
import OpenK.AllK
import Wide.FinOn
import Lean
import PyProof.EqAt
import PyProof.EqKinds
import PyProof.TupleCall
import KE.KNest
import KE.KLam
import PyProof.Rows.SortRuns
import KE.KNestM
import PyProof.DictItems
import PyProof.DictIter
import PyProof.DictWalks
import PySem.Challenge.RW_boxsums_k55_stretched_and_cut
set_option Elab.async false
set_option linter.all false
set_option maxRecDepth 100000
set_option maxHeartbeats 4000000
namespace L2
open PySem PySem.Spec PyProof.Rows
noncomputable abbrev Key:=Sum Int Str
noncomputable def keyIs:Key->Value->Bool
 | .inl k,v=>Value.isInt k v
 | .inr x,v=>Value.isStrOf x v
noncomputable def keyH(w:World):Key->Int
 | .inl k=>hashInt k
 | .inr x=>hashStr w x
theorem keyIs_shape:∀{k:Key}{v:Value},keyIs k v=true->(∃i t,k=Sum.inl i/\v=Value.int i t)\/(∃x t,k=Sum.inr x/\v=Value.str x t)
 | .inl i,v,h=>by
  obtain⟨t,e⟩:=Value.isInt_shape (k:=i) (v:=v) h
  exact .inl ⟨i,t,rfl,e⟩
 | .inr x,v,h=>by
  obtain⟨t,e⟩:=Value.isStrOf_shape (x:=x) (v:=v) h
  exact .inr ⟨x,t,rfl,e⟩
theorem keyIs_int(i:Int)(t:Tok):keyIs (.inl i) (.int i t)=true:=by simp[keyIs,Value.isInt]
theorem keyIs_str(x:Str)(t:Tok):keyIs (.inr x) (.str x t)=true:=by simp[keyIs,Value.isStrOf]
theorem key_ll(a b:Int):decide ((Sum.inl a:Key)=Sum.inl b)=(a==b):=by
 by_cases e:a=b
 ·subst e;simp
 ·have h:¬(Sum.inl a:Key)=Sum.inl b:=fun q=>e (Sum.inl.inj q)
  rw[decide_eq_false h]
  exact (beq_eq_false_iff_ne.mpr e).symm
theorem key_rr(a b:Str):decide ((Sum.inr a:Key)=Sum.inr b)=decide (a=b):=by
 by_cases e:a=b
 ·subst e;simp
 ·have h:¬(Sum.inr a:Key)=Sum.inr b:=fun q=>e (Sum.inr.inj q)
  rw[decide_eq_false h,decide_eq_false e]
theorem key_lr(a:Int)(b:Str):decide ((Sum.inl a:Key)=Sum.inr b)=false:=decide_eq_false (fun q=>nomatch q)
theorem key_rl(a:Str)(b:Int):decide ((Sum.inr a:Key)=Sum.inl b)=false:=decide_eq_false (fun q=>nomatch q)
noncomputable def mixKind(prog:Program)(w:World):PySem.KeyKind prog w Key where
 is:=keyIs
 hash:=keyH w
 inj:=fun v a b ha hb=>by
  rcases keyIs_shape ha with⟨i,t,rfl,rfl⟩|⟨x,t,rfl,rfl⟩
  ·rcases keyIs_shape hb with⟨j,u,rfl,e⟩|⟨y,u,rfl,e⟩
   ·injection e with e1 _;rw[e1]
   ·exact nomatch e
  ·rcases keyIs_shape hb with⟨j,u,rfl,e⟩|⟨y,u,rfl,e⟩
   ·exact nomatch e
   ·injection e with e1 _;rw[e1]
 byValue:=fun k v h=>by
  rcases keyIs_shape h with⟨i,t,rfl,rfl⟩|⟨x,t,rfl,rfl⟩<;>rfl
 pyHash:=fun hv h=>by
  rcases keyIs_shape hv with⟨i,t,rfl,rfl⟩|⟨x,t,rfl,rfl⟩
  ·exact wpAny_pyHash_int h
  ·exact wpAny_pyHash_str h
 eqBool:=fun hu hv h=>by
  rcases keyIs_shape hu with⟨i,t,rfl,rfl⟩|⟨x,t,rfl,rfl⟩
  ·rcases keyIs_shape hv with⟨j,u,rfl,rfl⟩|⟨y,u,rfl,rfl⟩
   ·rw[key_ll]at h;exact wpAny_eqBool_int h
   ·rw[key_lr]at h;exact SeqAt.EqAt.int_str i t y u _ _ _ _ h
  ·rcases keyIs_shape hv with⟨j,u,rfl,rfl⟩|⟨y,u,rfl,rfl⟩
   ·rw[key_rl]at h;exact SeqAt.EqAt.str_int x t j u _ _ _ _ h
   ·rw[key_rr]at h;exact wpAny_eqBool_str h
 «strs»:=fun k x t v h=>by
  rcases keyIs_shape h with⟨i,u,rfl,e⟩|⟨y,u,rfl,e⟩
  ·exact nomatch e
  ·injection e with e1 _
   subst e1
   cases v<;>rfl
theorem mixKind_int(prog:Program)(w:World)(i:Int)(t:Tok):(mixKind prog w).is (.inl i) (.int i t)=true:=keyIs_int i t
theorem mixKind_str(prog:Program)(w:World)(x:Str)(t:Tok):(mixKind prog w).is (.inr x) (.str x t)=true:=keyIs_str x t
inductive V where
 | non|bl (b:Bool)|int (i:Int)|str (x:Str)|byt (b:Array UInt8)|flt (b:UInt64)|ref (a:Addr)|ty (n:String)
 deriving DecidableEq
noncomputable def RelV:V->Value->Prop
 | .non,u=>u=Value.none
 | .bl b,u=>u=Value.bool b
 | .int i,u=>∃t,u=Value.int i t
 | .str x,u=>∃t,u=Value.str x t
 | .byt b,u=>∃t,u=Value.bytes b t
 | .flt b,u=>∃t,u=Value.float b t
 | .ref a,u=>u=Value.ref a
 | .ty n,u=>u=Value.type n
noncomputable abbrev Vals:List V->List Value->Prop:=Paired RelV
theorem Vals.length{xs:List V}{us:List Value}(r:Vals xs us):xs.length=us.length:=Paired.length r
theorem Vals.get:∀{xs:List V}{us:List Value}{i:Nat}{x:V},Vals xs us->xs[i]?=some x->∃u,us[i]?=some u/\RelV x u
 | _,_,_,_,.nil,e=>by simp at e
 | _,_,0,_,.cons r _,e=>by simp at e;subst e;exact ⟨_,rfl,r⟩
 | _,_,i+1,x,.cons _ t,e=>by
  obtain⟨u,h1,h2⟩:=Vals.get (i:=i) (x:=x) t (by simpa using e)
  exact ⟨u,by simpa using h1,h2⟩
theorem Vals.append:∀{xs ys:List V}{us ws:List Value},Vals xs us->Vals ys ws->Vals (xs++ys) (us++ws)
 | _,_,_,_,.nil,s=>s
 | _,_,_,_,.cons r t,s=>.cons r (Vals.append t s)
theorem Vals.none_of:∀{xs:List V}{us:List Value}{i:Nat},Vals xs us->xs[i]?=none->us[i]?=none:=fun {xs us i} r e=>by
 have h1:=r.length
 have h2:xs.length<=i:=List.getElem?_eq_none_iff.mp e
 exact List.getElem?_eq_none_iff.mpr (by omega)
noncomputable def RelO:Option V->Option Value->Prop
 | some v,some u=>RelV v u
 | none,none=>True
 | _,_=>False
noncomputable def KV{κ:Type}:List (κ×V)->List (κ×Value)->Prop:=Paired fun (p:κ×V) (q:κ×Value)=>p.1=q.1/\RelV p.2 q.2
noncomputable def kV:Key->V
 | .inl i=>.int i
 | .inr x=>.str x
inductive HO where
 | lst (xs:List V)
 | tup (xs:List V)
 | dK (kvs:List (Key×V))|dT (kvs:List (List Key×V))
 | set (S:Int->Bool) (n:Nat)
 | ins (C dx:Addr) (fs:List (Str×V))
 | own (x:Addr)
 | xd (fs:List (Str×V))
 | met (f x:Addr)
 | rng (lo hi:Int)
 | frz (o:Obj) (u:HO)
 | tbl (ps:Array Value)
 | ext (φ:Heap->Prop)
noncomputable abbrev Hp:=Addr->Option HO
noncomputable def upd(H:Hp)(a:Addr)(o:HO):Hp:=fun b=>if b=a then some o else H b
theorem upd_same{H:Hp}{a:Addr}{o:HO}:upd H a o a=some o:=by unfold upd;rw[if_pos rfl]
theorem upd_ne{H:Hp}{a b:Addr}{o:HO}(h:b≠a):upd H a o b=H b:=by unfold upd;rw[if_neg h]
theorem upd_upd{H:Hp}{a:Addr}{o u:HO}:upd (upd H a o) a u=upd H a u:=by
 funext b;unfold upd;split<;>rfl
theorem ne_of{H:Hp}{a b:Addr}{o u:HO}(h:H a=some o)(h':H b=some u)(d:o≠u):a≠b:=by
 intro e;subst e;rw[h]at h';exact d (Option.some.inj h')
theorem ne_of_none{H:Hp}{a b:Addr}{o:HO}(h:H a=some o)(h':H b=none):a≠b:=by
 intro e;subst e;rw[h]at h';cases h'
noncomputable def IsTupD(h:Heap)(a:Addr)(items:Array Value):Prop:=∃o,h.get? a=some o/\o.cls=.type "tuple"/\∃n,o.data=.seq items n/\o.dict=none
theorem IsTupD.t{h:Heap}{a:Addr}{items:Array Value}:IsTupD h a items->IsTup h a items:=fun ⟨o,e,c,n,d,_⟩=>⟨o,e,c,n,d⟩
theorem IsTupD.new(h:Heap)(items:Array Value):IsTupD (h.push { cls:=.type "tuple",data:=.seq items }) h.objs.size items:=⟨_,Heap.get?_push_size _ rfl,rfl,_,rfl,rfl⟩
section
variable (P:Program)(w:World)
noncomputable def ObjOk(H:Hp)(h:Heap)(a:Addr):HO->Prop
 | .lst xs=>xs.length<=sizeLine/\∃(its:List Value) (n:Nat),Vals xs its/\h.get? a=some { cls:=.type "list",data:=.seq its.toArray n }
 | .tup xs=>xs.length<=sizeLine/\∃its:List Value,Vals xs its/\IsTupD h a its.toArray
 | .dK kvs=>kvs.length<=sizeLine/\(a==sysModules)=false/\∃vs,KV kvs vs/\h.DictOf (mixKind P w) a vs
 | .dT kvs=>kvs.length<=sizeLine/\(a==sysModules)=false/\∃xs:List (List Key×Addr×Value),
   Paired (fun (p:List Key×V) (q:List Key×Addr×Value)=>p.1=q.1/\H q.2.1=some (.tup (p.1.map kV))/\RelV p.2 q.2.2) kvs xs /\
   ∃o es ep,h.get? a=some o/\o.ExactDict/\o.data=.dict es ep/\es.toList=xs.map (entryOfKey (tupleKind (mixKind P w)))/\(xs.map (·.1)).Nodup
 | .set S n=>h.SetOf (intKind P w) a S n
 | .ins C dx fs=>H dx=some (.own a)/\fs.length<=1000/\dx≠a/\h.get? a=some (PySem.W.instObj C dx) /\
   ∃mA,h.Ns1 dx mA/\(∀f,RelO (fs.lookup f) (mA f))/\PySem.Within mA (fs.map (·.1))
 | .own _=>∃o,h.get? a=some o
 | .xd fs=>∃mA,h.Ns1 a mA/\∀f,RelO (fs.lookup f) (mA f)
 | .rng lo hi=>∃t u v,h.get? a=some { cls:=.type "range",data:=.fields #[.int lo t,.int hi u,.int 1 v] }
 | .frz o u=>h.get? a=some o/\ObjOk H h a u
 | .tbl ps=>h.get? a=some { cls:=.none,data:=.fields ps }
 | .met f x=>h.get? a=some (PySem.W.methodObj (.ref f) (.ref x))
 | .ext φ=>φ h/\(∃o,h.get? a=some o)/\∀h1 h2:Heap,φ h1->(∀o,h1.get? a=some o->h2.get? a=some o)->φ h2
noncomputable def HOk(H:Hp)(h:Heap):Prop:=∀a o,H a=some o->ObjOk P w H h a o
end
section
variable {P:Program}{w:World}{H H':Hp}{h h':Heap}{a:Addr}{o:HO}
theorem ObjOk.lt(x:ObjOk P w H h a o):a < h.objs.size:=by
 cases o with
 | lst xs=>obtain⟨_,_,_,_,e⟩:=x;exact Heap.lt_size e
 | tup xs=>obtain⟨_,_,_,p⟩:=x;exact p.t.lt
 | dK kvs=>obtain⟨_,_,_,_,o,_,_,e,_⟩:=x;exact Heap.lt_size e
 | dT kvs=>obtain⟨_,_,_,_,o,_,_,e,_⟩:=x;exact Heap.lt_size e
 | set S n=>obtain⟨o,_,_,_,e,_⟩:=x;exact Heap.lt_size e
 | ins C dx fs=>obtain⟨_,_,_,e,_⟩:=x;exact Heap.lt_size e
 | own y=>obtain⟨_,e⟩:=x;exact Heap.lt_size e
 | xd fs=>obtain⟨_,⟨_,_,_,e,_⟩,_⟩:=x;exact Heap.lt_size e
 | rng lo hi=>obtain⟨_,_,_,e⟩:=x;exact Heap.lt_size e
 | frz ob u=>obtain⟨e,_⟩:=x;exact Heap.lt_size e
 | tbl ps=>exact Heap.lt_size (show h.get? a=some _ from x)
 | met f y=>exact Heap.lt_size (show h.get? a=some _ from x)
 | ext φ=>obtain⟨_,⟨_,e⟩,_⟩:=x;exact Heap.lt_size e
theorem Paired.mapP{α β:Type}{F G:α->β->Prop}:∀{l₁:List α}{l₂:List β},Paired F l₁ l₂->(∀a b,F a b->G a b)->Paired G l₁ l₂
 | _,_,.nil,_=>.nil
 | _,_,.cons r t,f=>.cons (f _ _ r) (Paired.mapP t f)
theorem ObjOk.stay(x:ObjOk P w H h a o)(k:∀b u,(b=a\/H b=some (.own a))->h.get? b=some u->h'.get? b=some u)
  (ho:∀b,H b=some (.own a)->H' b=some (.own a)) (ht:∀b xs,H b=some (.tup xs)->H' b=some (.tup xs)):ObjOk P w H' h' a o:=by
 induction o with
 | lst xs=>obtain⟨z,its,n,r,e⟩:=x;exact ⟨z,its,n,r,k _ _ (.inl rfl) e⟩
 | tup xs=>obtain⟨z,its,r,ob,e,c⟩:=x;exact ⟨z,its,r,ob,k _ _ (.inl rfl) e,c⟩
 | dK kvs=>obtain⟨z,y,vs,r,ob,es,ep,e,c⟩:=x;exact ⟨z,y,vs,r,ob,es,ep,k _ _ (.inl rfl) e,c⟩
 | dT kvs =>
  obtain⟨z,y,xs,r,ob,es,ep,e,c⟩:=x
  exact ⟨z,y,xs,Paired.mapP r fun p q z=>⟨z.1,ht _ _ z.2.1,z.2.2⟩,ob,es,ep,k _ _ (.inl rfl) e,c⟩
 | set S n=>obtain⟨ob,es,ep,t,e,c⟩:=x;exact ⟨ob,es,ep,t,k _ _ (.inl rfl) e,c⟩
 | ins C dx fs =>
  obtain⟨d,z,ne,e,mA,⟨od,es,ep,e2,c⟩,r⟩:=x
  exact ⟨ho _ d,z,ne,k _ _ (.inl rfl) e,mA,⟨od,es,ep,k _ _ (.inr d) e2,c⟩,r⟩
 | own y=>obtain⟨ob,e⟩:=x;exact ⟨ob,k _ _ (.inl rfl) e⟩
 | xd fs=>obtain⟨mA,⟨od,es,ep,e,c⟩,r⟩:=x;exact ⟨mA,⟨od,es,ep,k _ _ (.inl rfl) e,c⟩,r⟩
 | rng lo hi=>obtain⟨t,u,v,e⟩:=x;exact ⟨t,u,v,k _ _ (.inl rfl) e⟩
 | frz ob u ih=>obtain⟨e,q⟩:=x;exact ⟨k _ _ (.inl rfl) e,ih q⟩
 | tbl ps =>
  have e:h.get? a=some { cls:=.none,data:=.fields ps }:=x
  show h'.get? a=some { cls:=.none,data:=.fields ps }
  exact k a _ (.inl rfl) e
 | met f y =>
  have e:h.get? a=some (PySem.W.methodObj (.ref f) (.ref y)):=x
  show h'.get? a=some (PySem.W.methodObj (.ref f) (.ref y))
  exact k a _ (.inl rfl) e
 | ext φ=>obtain⟨p,⟨o,e⟩,st⟩:=x;exact ⟨st _ _ p fun o q=>k _ _ (.inl rfl) q,⟨o,k _ _ (.inl rfl) e⟩,st⟩
theorem HOk.lt(x:HOk P w H h)(e:H a=some o):a < h.objs.size:=(x a o e).lt
theorem HOk.fresh(x:HOk P w H h)(e:h.objs.size<=a):H a=none:=by
 cases q:H a with
 | none=>rfl
 | some u=>exact absurd (Nat.lt_of_lt_of_le (x.lt q) e) (Nat.lt_irrefl _)
theorem HOk.kept(x:HOk P w H h)(k:∀b u,h.get? b=some u->h'.get? b=some u):HOk P w H h':=fun a o e =>
 (x a o e).stay (fun b u _ q=>k b u q) (fun _ q=>q) fun _ _ q=>q
theorem HOk.laid(x:HOk P w H h)(k:∀b u,h.get? b=some u->h'.get? b=some u)(hp:h.objs.size<=a)(new:ObjOk P w (upd H a o) h' a o):HOk P w (upd H a o) h':=fun b u e=>by
 have hn:=x.fresh hp
 by_cases hb:b=a
 ·subst hb;rw[upd_same]at e;cases e;exact new
 ·rw[upd_ne hb]at e
  exact (x b u e).stay (fun c v _ q=>k c v q) (fun c q=>by rw[upd_ne (ne_of_none q hn)];exact q) fun c xs q=>by rw[upd_ne (ne_of_none q hn)];exact q
end
noncomputable def Rd(H:Hp)(a:Addr)(u:HO):Prop:=H a=some u\/∃o,H a=some (.frz o u)
theorem Rd.ok{P:Program}{w:World}{H:Hp}{h:Heap}{a:Addr}{u:HO}(r:Rd H a u)(x:HOk P w H h):ObjOk P w H h a u:=by
 rcases r with r|⟨o,r⟩
 ·exact x a u r
 ·obtain⟨_,q⟩:=x a _ r
  exact q
noncomputable def Mut:Option HO->Prop
 | some (.lst _)=>True
 | some (.dK _)=>True
 | some (.dT _)=>True
 | some (.set _ _)=>True
 | some (.ins _ _ _)=>True
 | some (.ext _)=>True
 | _=>False
section
variable {P:Program}{w:World}{H:Hp}{h h':Heap}{x e:Addr}{o':HO}
theorem HOk.write(ok:HOk P w H h)(mu:Mut (H x))(he:e=x\/H e=some (.own x))(k:∀b u,b≠e->h.get? b=some u->h'.get? b=some u)(heo:∃u,h'.get? e=some u)
  (new:ObjOk P w (upd H x o') h' x o'):HOk P w (upd H x o') h':=fun b u q=>by
 have nown:∀c y,H c=some (.own y)->c≠x:=fun c y r z=>by subst z;rw[r]at mu;exact mu
 have ntup:∀c xs,H c=some (.tup xs)->c≠x:=fun c xs r z=>by subst z;rw[r]at mu;exact mu
 by_cases hb:b=x
 ·subst hb;rw[upd_same]at q;cases q;exact new
 ·rw[upd_ne hb]at q
  by_cases hbe:b=e
  ·have q':H b=some (.own x):=by
    rcases he with z|z
    ·exact absurd (hbe.trans z) hb
    ·rw[hbe];exact z
   rw[q]at q';cases q'
   obtain⟨v,hv⟩:=heo
   exact ⟨v,by rw[hbe];exact hv⟩
  ·refine (ok b u q).stay (fun c v hc r=>k c v ?_ r) (fun c r=>by rw[upd_ne (nown c b r)];exact r) fun c xs r=>by rw[upd_ne (ntup c xs r)];exact r
   rcases hc with rfl|hc
   ·exact hbe
   ·rintro rfl
    rcases he with z|z
    ·exact nown c b hc z
    ·rw[hc]at z;cases z;exact hb rfl
end
structure Un(fs ex:List Addr)(H H':Hp)(h h':Heap):Prop where
 keep:∀b o,h.get? b=some o->H b=none->b∉fs->b∉ex->h'.get? b=some o
 slot:∀b o,h.get? b=some o->H b=none->b∈fs->b∉ex->∃sl,h'.get? b=some { o with slots:=sl }
 free:∀b o,h.get? b=some o->H b=none->b∉ex->H' b=none
 there:∀b o,h.get? b=some o->b∉ex->∃o',h'.get? b=some o'
 tups:∀b xs,H b=some (.tup xs)->H' b=some (.tup xs)
 frzs:∀b o u,H b=some (.frz o u)->H' b=some (.frz o u)
 tbls:∀b ps,H b=some (.tbl ps)->∃more,H' b=some (.tbl (ps++more))
section
variable {fs fs' ex ex':List Addr}{H H1 H2:Hp}{h h1 h2 h':Heap}{a x e:Addr}{o:HO}
theorem Un.any(u:Un fs ex H H1 h h1){b:Addr}{ob:Obj}(q:h.get? b=some ob)(n:H b=none)(hx:b∉ex):∃sl,h1.get? b=some { ob with slots:=sl }:=by
 by_cases hb:b∈fs
 ·exact u.slot b ob q n hb hx
 ·exact ⟨ob.slots,u.keep b ob q n hb hx⟩
theorem Un.kept(k:∀b u,h.get? b=some u->h'.get? b=some u):Un fs ex H H h h' :=
 ⟨fun b ob q _ _ _=>k b ob q,fun b ob q _ _ _=>⟨ob.slots,k b ob q⟩,fun _ _ _ n _=>n,fun b ob q _=>⟨ob,k b ob q⟩,fun _ _ q=>q,fun _ _ _ q=>q,fun _ ps q=>⟨#[],by rw[q];simp⟩⟩
theorem Un.refl:Un fs ex H H h h:=Un.kept fun _ _ q=>q
theorem Un.laid(k:∀b u,h.get? b=some u->h'.get? b=some u)(hp:h.objs.size<=a)(hn:H a=none):Un fs ex H (upd H a o) h h' where
 keep:=fun b u q _ _ _=>k b u q
 slot:=fun b u q _ _ _=>⟨u.slots,k b u q⟩
 free:=fun b u q n _=>by rw[upd_ne (Nat.ne_of_lt (Nat.lt_of_lt_of_le (Heap.lt_size q) hp))];exact n
 there:=fun b u q _=>⟨u,k b u q⟩
 tups:=fun b xs q=>by rw[upd_ne (ne_of_none q hn)];exact q
 frzs:=fun b u xs q=>by rw[upd_ne (ne_of_none q hn)];exact q
 tbls:=fun b ps q=>⟨#[],by rw[upd_ne (ne_of_none q hn),q];simp⟩
theorem Un.write(mu:Mut (H x))(he:e=x\/H e=some (.own x))(k:∀b u,b≠e->h.get? b=some u->h'.get? b=some u)(heo:∃u,h'.get? e=some u):Un fs ex H (upd H x o) h h':=by
 have hx:∀b,H b=none->b≠x:=fun b n z=>by subst z;rw[n]at mu;exact mu
 have hb:∀b,H b=none->b≠e:=fun b n z=>by
  subst z
  rcases he with r|r
  ·exact hx b n r
  ·rw[n]at r;cases r
 have hm:∀b u,H b=some u->¬Mut (some u)->b≠x:=fun b u q nm z=>by subst z;rw[q]at mu;exact nm mu
 refine ⟨fun b u q n _ _=>k b u (hb b n) q,fun b u q n _ _=>⟨u.slots,k b u (hb b n) q⟩,fun b u q n _=>by rw[upd_ne (hx b n)];exact n,fun b u q _=>?_,
   fun b xs q=>by rw[upd_ne (hm b _ q fun z=>z)];exact q,fun b u xs q=>by rw[upd_ne (hm b _ q fun z=>z)];exact q,fun b ps q=>⟨#[],by rw[upd_ne (hm b _ q fun z=>z),q];simp⟩⟩
 by_cases hbe:b=e
 ·subst hbe;exact heo
 ·exact ⟨u,k b u hbe q⟩
end
noncomputable def trk(h:Heap)(H:Hp):List Addr:=(List.range h.objs.size).filter fun a=>(H a).isSome
noncomputable def hidT(h:Heap)(H:Hp):Heap:=PySem.W.hideAll h (trk h H)
theorem hidT_size(h:Heap)(H:Hp):(hidT h H).objs.size=h.objs.size:=PySem.W.hideAll_size _ _
theorem hidT_get{h:Heap}{H:Hp}{b:Addr}{o:Obj}(e:h.get? b=some o)(n:H b=none):(hidT h H).get? b=some o :=
 PySem.W.hideAll_get _ e fun hm=>by
  have q:(H b).isSome=true:=(List.mem_filter.mp hm).2
  rw[n]at q;simp at q
theorem of_hidT{h:Heap}{H:Hp}{b:Addr}{o:Obj}(e:(hidT h H).get? b=some o):h.get? b=some o/\H b=none:=by
 have e':h.get? b=some o:=PySem.W.of_hideAll (trk h H) e
 refine ⟨e',?_⟩
 cases q:H b with
 | none=>rfl
 | some x =>
  have hm:b∈trk h H:=List.mem_filter.mpr ⟨List.mem_range.mpr (Heap.lt_size e'),by simp[q]⟩
  have z:(hidT h H).get? b=none:=PySem.W.hideAll_none (trk h H) hm
  rw[z]at e;cases e
noncomputable def allNews(g h:Heap)(L:Addr):List (Addr×Obj):=(List.range h.objs.size).filterMap fun a=>if a=L\/(g.get? a).isSome=true then none else (h.get? a).map fun o=>(a,o)
noncomputable def rest(g h:Heap)(L d:Addr):List (Addr×Obj):=(allNews g h L).filter fun p=>decide (p.1≠d)
noncomputable def BmOk(mg:Str->Option Value)(h:Heap):Prop:=∃bm o,mg "__builtins__"=some (.ref bm)/\bm≠builtinsNs/\h.get? bm=some o/\o.cls=.type "module"/\o.dict=some builtinsNs/\o.data=.plain
structure Mod(K:PySem.W.Frag)(mg:Str->Option Value)(base:Heap):Prop where
 kin:K.In base
 glob:base.Ns mainGlobals mg
 blt:∃mb,base.Ns builtinsNs mb/\∀x:Str,x ≠ "__name__"->mb x=bootBuiltins x
 nolimit:base.NoLimit
 bm:BmOk mg base
structure Cx where
 prog:Program
 w:World
 K:PySem.W.Frag
 mg:Str->Option Value
 base:Heap
 A:Around
 N:List Str
 s₀:Shared
 H₀:Hp
 env:Env
 outer:List Env
 stack:List Env
 ex:List Addr
 fn:Str->Bool
 calm:Bool
 pn:List (Addr×Obj)
 xe:Value->Shared->Prop
noncomputable def frs(l:List Env):List Addr:=l.filterMap (·.frame)
noncomputable abbrev Cx.fs(X:Cx):List Addr:=frs X.outer
noncomputable def Vis(sc:Scope)(x:Str):Prop:=sc.names.lookup x=some .local\/sc.names.lookup x=some .cell\/sc.names.lookup x=some .free
noncomputable def Loc(sc:Scope)(x:Str):Prop:=sc.names.lookup x=some .local\/sc.names.lookup x=some .cell
noncomputable def Look(env:Env)(h:Heap)(m:Str->Option Value)(x:Str)(u:Value):Prop :=
 (env.kindOf x=some .local/\m x=some u)\/((env.kindOf x=some .cell\/env.kindOf x=some .free)/\∃c,env.cells.lookup x=some c/\h.IsCell c (some u))
structure Cx.Ok(X:Cx):Prop where
 mod:Mod X.K X.mg X.base
 kind:X.env.scope.kind=.function
 glob:X.env.globals=mainGlobals
 blt:X.env.builtins=builtinsNs
 above:X.s₀.heap.objs.size<=X.env.locals
 inj:∀x y c,X.env.cells.lookup x=some c->X.env.cells.lookup y=some c->x=y
 has:∀x,(X.env.kindOf x=some .cell\/X.env.kindOf x=some .free)->∃c,X.env.cells.lookup x=some c
 cab:∀x c,X.fn x=true->X.env.cells.lookup x=some c->X.s₀.heap.objs.size<=c
 hd:X.calm=true->X.A.handled=none
 frames:X.A.frames=some X.stack
 stk:X.stack=X.outer\/(X.stack=X.env :: X.outer/\X.env.frame=some X.env.locals)
 exf:∀b∈X.ex,b≠X.env.locals/\∀x c,X.env.cells.lookup x=some c->c≠b
 bs:∀b o,X.base.get? b=some o->X.s₀.heap.get? b=some o/\X.H₀ b=none
 bsz:X.base.objs.size<=X.s₀.heap.objs.size
 noex:∀b o,X.base.get? b=some o->b∉X.ex
 exfs:∀b∈X.ex,b∉X.fs
 funs:X.s₀.heap.FunFrames X.base X.outer
 frf:∀b∈X.fs,X.H₀ b=none
structure Inv(X:Cx)(pins:List (Addr×Obj))(σ:List (Option V))(H:Hp)(s:Shared):Prop where
 ok:X.Ok
 os:s.os=X.s₀.os
 bare:AllBare s.gens
 base:Un X.fs X.ex X.H₀ H X.s₀.heap s.heap
 loc:∃m,s.heap.Ns X.env.locals m/\∀(i:Nat) (x:Str) (v:V),X.N[i]?=some x->σ[i]?=some (some v)->Vis X.env.scope x->∃u,RelV v u/\Look X.env s.heap m x u
 cell:∀x c,X.env.cells.lookup x=some c->∃v,s.heap.IsCell c v
 free:H X.env.locals=none
 freeC:∀x c,X.env.cells.lookup x=some c->H c=none
 pin:∀p∈X.pn++pins,s.heap.get? p.1=some p.2/\H p.1=none/\p.1≠X.env.locals/\p.1∉X.fs/\∀v,p.2.data≠.cell v
 hok:HOk X.prog X.w H s.heap
 len:σ.length=X.N.length
section
variable {X:Cx}{pins:List (Addr×Obj)}{σ:List (Option V)}{H H':Hp}{s:Shared}{h':Heap}
theorem Cx.Ok.nofr(ok:X.Ok){b:Addr}{o:Obj}(e:X.base.get? b=some o):b∉X.fs:=fun hb=>by
 have:=(ok.funs.mem hb).1
 rw[e]at this;cases this
theorem Inv.bs(I:Inv X pins σ H s):∀b o,X.base.get? b=some o->s.heap.get? b=some o/\H b=none:=fun b o e =>
 ⟨I.base.keep b o (I.ok.bs b o e).1 (I.ok.bs b o e).2 (I.ok.nofr e) (I.ok.noex b o e),I.base.free b o (I.ok.bs b o e).1 (I.ok.bs b o e).2 (I.ok.noex b o e)⟩
theorem Inv.bk(I:Inv X pins σ H s):∀b o,X.base.get? b=some o->s.heap.get? b=some o:=fun b o e=>(I.bs b o e).1
theorem Inv.mod(I:Inv X pins σ H s):Mod X.K X.mg X.base:=I.ok.mod
theorem Inv.kIn(I:Inv X pins σ H s):X.K.In s.heap:=I.ok.mod.kin.keeps I.bk
theorem Inv.lt(I:Inv X pins σ H s):X.env.locals < s.heap.objs.size:=let ⟨_,hn,_⟩:=I.loc;hn.lt
theorem Inv.sz(I:Inv X pins σ H s):X.s₀.heap.objs.size<=s.heap.objs.size:=Nat.le_trans I.ok.above (Nat.le_of_lt I.lt)
theorem Inv.nofs(I:Inv X pins σ H s){a:Addr}(h:s.heap.objs.size<=a):a∉X.fs:=fun hb=>by
 obtain⟨_,o,ho,_⟩:=I.ok.funs.mem hb
 exact absurd (Nat.lt_of_lt_of_le (Heap.lt_size ho) (Nat.le_trans I.sz h)) (Nat.lt_irrefl _)
theorem Inv.cne(I:Inv X pins σ H s):∀x c,X.env.cells.lookup x=some c->c≠X.env.locals:=fun x c e z=>by
 obtain⟨v,o,ho,hd⟩:=I.cell x c e
 obtain⟨m,⟨o',es,ep,ho',hd',_⟩,_⟩:=I.loc
 rw[z,ho']at ho;cases ho;rw[hd']at hd;cases hd
theorem Inv.funs(I:Inv X pins σ H s):s.heap.FunFrames X.base X.outer:=by
 have all:∀(l:List Env),(∀b∈frs l,b∈X.fs)->X.s₀.heap.FunFrames X.base l->s.heap.FunFrames X.base l:=by
  intro l
  induction l with
  | nil=>intro _ _;trivial
  | cons env r ih =>
   intro hs hl
   obtain⟨hk,⟨L,o,hf,hn,ho,hd⟩,hr⟩:=hl
   have hL:L∈X.fs:=hs L (by unfold frs;rw[List.filterMap_cons,hf];exact List.mem_cons_self)
   obtain⟨sl,e⟩:=I.base.slot L o ho (I.ok.frf L hL) hL fun z=>I.ok.exfs L z hL
   exact ⟨hk,⟨L,_,hf,hn,e,hd⟩,ih (fun b hb=>hs b (by unfold frs;rw[List.filterMap_cons,hf];exact List.mem_cons_of_mem _ hb)) hr⟩
 exact all X.outer (fun _ hb=>hb) I.ok.funs
theorem Inv.stack(I:Inv X pins σ H s):s.heap.FunFrames X.base X.stack:=by
 rcases I.ok.stk with e|⟨e,hf⟩
 ·rw[e];exact I.funs
 ·rw[e]
  obtain⟨m,hn,_⟩:=I.loc
  refine .cons (by rw[I.ok.kind];decide) hf hn ?_ I.funs
  exact Heap.get?_none_of_le (Nat.le_trans I.ok.bsz I.ok.above)
theorem Inv.stkSub(I:Inv X pins σ H s):∀b∈frs X.stack,b∈X.env.locals :: X.fs:=fun b hb=>by
 rcases I.ok.stk with e|⟨e,hf⟩
 ·rw[e]at hb;exact List.mem_cons_of_mem _ hb
 ·rw[e]at hb
  unfold frs at hb
  rw[List.filterMap_cons,hf]at hb
  exact hb
theorem Inv.stkFree(I:Inv X pins σ H s):∀b∈frs X.stack,H b=none:=fun b hb=>by
 rcases List.mem_cons.mp (I.stkSub b hb) with e|hb
 ·rw[e];exact I.free
 ·obtain⟨_,o,ho,_⟩:=I.ok.funs.mem hb
  exact I.base.free b o ho (I.ok.frf b hb) fun z=>I.ok.exfs b z hb
theorem Inv.step{g':Array GenState}{t':Nat}{d':Drawn}{ch:List Addr}(I:Inv X pins σ H s)
  (hch:∀b∈ch,(b∈X.ex\/X.s₀.heap.objs.size<=b)/\b≠X.env.locals/\(∀x c,X.env.cells.lookup x=some c->c≠b)/\∀p∈X.pn++pins,p.1≠b)
  (keep:∀b o,b≠X.env.locals->b∉X.fs->b∉ch->s.heap.get? b=some o->H b=none->h'.get? b=some o)
  (slot:∀b o,b≠X.env.locals->b∈X.fs->b∉ch->s.heap.get? b=some o->H b=none->∃sl,h'.get? b=some { o with slots:=sl }) (free:∀b o,b∉ch->s.heap.get? b=some o->H b=none->H' b=none)
  (there:∀b o,b∉ch->s.heap.get? b=some o->∃o',h'.get? b=some o')
  (tups:∀b xs,H b=some (.tup xs)->H' b=some (.tup xs)) (frzs:∀b o u,H b=some (.frz o u)->H' b=some (.frz o u)) (tbls:∀b ps,H b=some (.tbl ps)->∃more,H' b=some (.tbl (ps++more)))
  (ns:∀m,s.heap.Ns X.env.locals m->h'.Ns X.env.locals m) (hok:HOk X.prog X.w H' h') (hg:AllBare g') :
  Inv X pins σ H' { s with heap:=h',gens:=g',drawn:=d',toks:=t' }:=by
 have neL:∀b o,X.s₀.heap.get? b=some o->b≠X.env.locals:=fun b o e=>Nat.ne_of_lt (Nat.lt_of_lt_of_le (Heap.lt_size e) I.ok.above)
 have neC:∀b o,X.s₀.heap.get? b=some o->b∉X.ex->b∉ch:=fun b o e hx hb=>by
  rcases (hch b hb).1 with z|z
  ·exact hx z
  ·exact absurd (Nat.lt_of_lt_of_le (Heap.lt_size e) z) (Nat.lt_irrefl _)
 have cellK:∀x c,X.env.cells.lookup x=some c->∀v,s.heap.IsCell c v->h'.IsCell c v:=fun x c e v ⟨o,ho,hd⟩=>by
  have nch:c∉ch:=fun z=>(hch c z).2.2.1 x c e rfl
  by_cases hc:c∈X.fs
  ·obtain⟨sl,q⟩:=slot c o (I.cne x c e) hc nch ho (I.freeC x c e)
   exact ⟨_,q,hd⟩
  ·exact ⟨o,keep c o (I.cne x c e) hc nch ho (I.freeC x c e),hd⟩
 refine ⟨I.ok,I.os,hg,⟨fun b o e n hb hx=>?_,fun b o e n hb hx=>?_,fun b o e n hx=>?_,fun b o e hx=>?_,fun b xs e=>tups b xs (I.base.tups b xs e),fun b o xs e=>frzs b o xs (I.base.frzs b o xs e),fun b ps e=>?_⟩,?_,fun x c e=>?_,?_,fun x c e=>?_,fun p hp=>?_,hok,I.len⟩
 ·exact keep b o (neL b o e) hb (neC b o e hx) (I.base.keep b o e n hb hx) (I.base.free b o e n hx)
 ·obtain⟨sl,e1⟩:=I.base.slot b o e n hb hx
  obtain⟨sl',e2⟩:=slot b _ (neL b o e) hb (neC b o e hx) e1 (I.base.free b o e n hx)
  exact ⟨sl',e2⟩
 ·obtain⟨o',e1⟩:=I.base.there b o e hx
  exact free b o' (neC b o e hx) e1 (I.base.free b o e n hx)
 ·obtain⟨o',e1⟩:=I.base.there b o e hx
  exact there b o' (neC b o e hx) e1
 ·obtain⟨m1,e1⟩:=I.base.tbls b ps e
  obtain⟨m2,e2⟩:=tbls b _ e1
  exact ⟨m1++m2,by rw[e2,Array.append_assoc]⟩
 ·obtain⟨m,hn,hl⟩:=I.loc
  refine ⟨m,ns m hn,fun i x v e1 e2 e3=>?_⟩
  obtain⟨u,r,l⟩:=hl i x v e1 e2 e3
  refine ⟨u,r,?_⟩
  rcases l with l|⟨k,c,e,z⟩
  ·exact .inl l
  ·exact .inr ⟨k,c,e,cellK x c e _ z⟩
 ·obtain⟨v,z⟩:=I.cell x c e
  exact ⟨v,cellK x c e v z⟩
 ·obtain⟨m,⟨o,_,_,ho,_⟩,_⟩:=I.loc
  exact free _ o (fun z=>(hch _ z).2.1 rfl) ho I.free
 ·obtain⟨v,o,ho,hd⟩:=I.cell x c e
  exact free c o (fun z=>(hch c z).2.2.1 x c e rfl) ho (I.freeC x c e)
 ·obtain⟨e,n,ne,nf,d⟩:=I.pin p hp
  have nch:p.1∉ch:=fun z=>(hch p.1 z).2.2.2 p hp rfl
  exact ⟨keep p.1 p.2 ne nf nch e n,free p.1 p.2 nch e n,ne,nf,d⟩
theorem Inv.un{t':Nat}(I:Inv X pins σ H s)(u:Un X.fs [] H H' s.heap h')(hok:HOk X.prog X.w H' h'):Inv X pins σ H' { s with heap:=h',toks:=t' }:=by
 obtain⟨m,⟨o,es,ep,ho,r⟩,_⟩:=id I.loc
 obtain⟨sl,hL⟩:=u.any ho I.free (by simp)
 exact I.step (g':=s.gens) (d':=s.drawn) (ch:=[]) (fun _ z=>nomatch z) (fun b o _ hb _ e n=>u.keep b o e n hb (by simp)) (fun b o _ hb _ e n=>u.slot b o e n hb (by simp)) (fun b o _ e n=>u.free b o e n (by simp)) (fun b o _ e=>u.there b o e (by simp)) u.tups u.frzs u.tbls (fun m' hm=>by
   obtain⟨o',es',ep',ho',r'⟩:=hm
   rw[ho]at ho';cases ho'
   exact ⟨_,es',ep',hL,r'⟩) hok I.bare
theorem Inv.call{g':Array GenState}{t':Nat}{d':Drawn}{ch:List Addr}(I:Inv X pins σ H s)(u:Un (frs X.stack) ch H H' s.heap h')(hok:HOk X.prog X.w H' h')(hg:AllBare g')
  (hch:∀b∈ch,(b∈X.ex\/X.s₀.heap.objs.size<=b)/\b≠X.env.locals/\(∀x c,X.env.cells.lookup x=some c->c≠b)/\∀p∈X.pn++pins,p.1≠b) :
  Inv X pins σ H' { s with heap:=h',gens:=g',drawn:=d',toks:=t' }:=by
 obtain⟨m,⟨o,es,ep,ho,r⟩,_⟩:=id I.loc
 obtain⟨sl,hL⟩:=u.any ho I.free fun z=>(hch _ z).2.1 rfl
 exact I.step (ch:=ch) hch (fun b o hL hb hc e n=>u.keep b o e n (fun z=>(List.mem_cons.mp (I.stkSub b z)).elim hL hb) hc) (fun b o _ _ hc e n=>u.any e n hc) (fun b o hc e n=>u.free b o e n hc) (fun b o hc e=>u.there b o e hc) u.tups u.frzs u.tbls (fun m' hm=>by
   obtain⟨o',es',ep',ho',r'⟩:=hm
   rw[ho]at ho';cases ho'
   exact ⟨_,es',ep',hL,r'⟩) hok hg
theorem Inv.turned{t':Nat}{it:Addr}(I:Inv X pins σ H s)(k:∀b o,b≠it->s.heap.get? b=some o->h'.get? b=some o)(hn:H it=none)(hL:it≠X.env.locals)
  (h1:it∈X.ex\/X.s₀.heap.objs.size<=it) (h2:∀x c,X.env.cells.lookup x=some c->c≠it) (h3:∀p∈X.pn++pins,p.1≠it):Inv X pins σ H { s with heap:=h',toks:=t' }:=by
 have nit:∀b u,H b=some u->b≠it:=fun b u e z=>by rw[z,hn]at e;cases e
 refine I.step (g':=s.gens) (d':=s.drawn) (ch:=[it]) (fun b hb=>?_) (fun b o _ _ hc e _=>k b o (fun z=>hc (by simp[z])) e) (fun b o _ _ hc e _=>⟨o.slots,k b o (fun z=>hc (by simp[z])) e⟩) (fun _ _ _ _ n=>n)
  (fun b o hc e=>⟨o,k b o (fun z=>hc (by simp[z])) e⟩) (fun _ _ e=>e) (fun _ _ _ e=>e) (fun b ps e=>⟨#[],by rw[e];simp⟩) (fun m hm=>?_) (fun b u e=>?_) I.bare
 ·have e:b=it:=by simpa using hb
  subst e
  exact ⟨h1,hL,h2,h3⟩
 ·obtain⟨o,es,ep,ho,r⟩:=hm
  exact ⟨o,es,ep,k _ o (Ne.symm hL) ho,r⟩
 ·refine (I.hok b u e).stay (fun c v hc q=>k c v ?_ q) (fun _ q=>q) fun _ _ q=>q
  rcases hc with z|z
  ·rw[z];exact nit b u e
  ·exact nit c _ z
theorem Inv.tok(I:Inv X pins σ H s)(t:Nat):Inv X pins σ H { s with toks:=t }:=I.un (h':=s.heap) (t':=t) Un.refl I.hok
theorem Inv.kept{t':Nat}(I:Inv X pins σ H s)(k:∀b u,s.heap.get? b=some u->h'.get? b=some u):Inv X pins σ H { s with heap:=h',toks:=t' }:=I.un (Un.kept k) (I.hok.kept k)
theorem Inv.laid{a:Addr}{o:HO}{t':Nat}(I:Inv X pins σ H s)(k:∀b u,s.heap.get? b=some u->h'.get? b=some u)(hp:s.heap.objs.size<=a)(new:ObjOk X.prog X.w (upd H a o) h' a o) :
  Inv X pins σ (upd H a o) { s with heap:=h',toks:=t' }:=I.un (Un.laid k hp (I.hok.fresh hp)) (I.hok.laid k hp new)
theorem Inv.write{x e:Addr}{o:HO}{t':Nat}(I:Inv X pins σ H s)(mu:Mut (H x))(he:e=x\/H e=some (.own x))(k:∀b u,b≠e->s.heap.get? b=some u->h'.get? b=some u)(heo:∃u,h'.get? e=some u)
  (new:ObjOk X.prog X.w (upd H x o) h' x o):Inv X pins σ (upd H x o) { s with heap:=h',toks:=t' }:=I.un (Un.write mu he k heo) (I.hok.write mu he k heo new)
theorem Inv.pins_of{pins':List (Addr×Obj)}(I:Inv X pins σ H s)(h:∀p∈pins',s.heap.get? p.1=some p.2/\H p.1=none/\p.1≠X.env.locals/\p.1∉X.fs/\∀v,p.2.data≠.cell v):Inv X pins' σ H s :=
 ⟨I.ok,I.os,I.bare,I.base,I.loc,I.cell,I.free,I.freeC,fun p hp=>(List.mem_append.mp hp).elim (fun z=>I.pin p (List.mem_append_left _ z)) (h p),I.hok,I.len⟩
theorem nodup_ix{N:List Str}(hN:N.Nodup){i j:Nat}{x:Str}(a:N[i]?=some x)(b:N[j]?=some x):i=j:=by
 obtain⟨h1,e1⟩:=List.getElem?_eq_some_iff.mp a
 obtain⟨h2,e2⟩:=List.getElem?_eq_some_iff.mp b
 exact (List.getElem_inj hN).mp (e1.trans e2.symm)
theorem store_ok2{M:Model}{A:Around}{E:Value->Shared->Prop}{i:Nat}{x:Str}{v:V}{u:Value}{Q:Unit->Shared->Prop}(I:Inv X pins σ H s)(hN:X.N.Nodup)(hi:X.N[i]?=some x)(hx:Loc X.env.scope x)(r:RelV v u)
  (h:∀s',Inv X pins (σ.set i (some v)) H s'->(∃a,Heap.SameBut a s.heap s'.heap/\(a=X.env.locals\/X.env.cells.lookup x=some a))->Q () s') (hf:X.fn x=true\/X.env.scope.names.lookup x=some .local:=by first|exact .inl rfl|exact .inr rfl|assumption):wpAny M A (storeName X.env x u) Q E s:=by
 obtain⟨m,hn,hl⟩:=id I.loc
 have hcls:(X.env.scope.kind==.class||(X.env.scope.kind==.module&&X.env.locals != X.env.globals))=false:=by rw[I.ok.kind];rfl
 have hiσ:i < σ.length:=by rw[I.len];exact (List.getElem?_eq_some_iff.mp hi).1
 have cne:=I.cne
 have tracked:∀{a:Addr}{h':Heap},(∃o,s.heap.get? a=some o/\H a=none)->Heap.SameBut a s.heap h'->HOk X.prog X.w H h':=fun {a h'} ha hs b ob e=>by
  obtain⟨_,_,hfree⟩:=ha
  refine (I.hok b ob e).stay (fun c w' hc q=>(hs.2 c ?_).trans q) (fun _ q=>q) fun _ _ q=>q
  rintro rfl
  rcases hc with rfl|hc
  ·rw[hfree]at e;cases e
  ·rw[hfree]at hc;cases hc
 rcases hx with hk|hk
 ·refine wpAny_storeName_local hk hn (fun h' hn' hs=>?_) hcls
  obtain⟨oL,_,_,hoL,_⟩:=id hn
  refine h _ ⟨I.ok,I.os,I.bare,⟨fun b o e n hb hx=>?_,fun b o e n hb hx=>?_,I.base.free,fun b o e hx=>?_,I.base.tups,I.base.frzs,I.base.tbls⟩,⟨_,hn',fun j y v' e1 e2 e3=>?_⟩,fun y c e=>?_,I.free,I.freeC,fun p hp=>?_,tracked ⟨oL,hoL,I.free⟩ hs,by simpa using I.len⟩ ⟨_,hs,.inl rfl⟩
  ·exact (hs.2 b (Nat.ne_of_lt (Nat.lt_of_lt_of_le (Heap.lt_size e) I.ok.above))).trans (I.base.keep b o e n hb hx)
  ·obtain⟨sl,e1⟩:=I.base.slot b o e n hb hx
   exact ⟨sl,(hs.2 b (Nat.ne_of_lt (Nat.lt_of_lt_of_le (Heap.lt_size e) I.ok.above))).trans e1⟩
  ·obtain⟨o',e1⟩:=I.base.there b o e hx
   exact ⟨o',(hs.2 b (Nat.ne_of_lt (Nat.lt_of_lt_of_le (Heap.lt_size e) I.ok.above))).trans e1⟩
  ·by_cases hj:j=i
   ·subst hj
    rw[hi]at e1;cases e1
    rw[List.getElem?_set_self hiσ]at e2
    cases e2
    exact ⟨u,r,.inl ⟨hk,by simp⟩⟩
   ·rw[List.getElem?_set_ne (Ne.symm hj)]at e2
    obtain⟨u',r',q⟩:=hl j y v' e1 e2 e3
    refine ⟨u',r',?_⟩
    rcases q with⟨k,e⟩|⟨k,c,e,z⟩
    ·refine .inl ⟨k,?_⟩
     have:y≠x:=fun e=>hj (nodup_ix hN e1 (e ▸ hi))
     simp[this,e]
    ·exact .inr ⟨k,c,e,z.sameBut hs (cne y c e)⟩
  ·obtain⟨w',z⟩:=I.cell y c e
   exact ⟨w',z.sameBut hs (cne y c e)⟩
  ·obtain⟨e,n,ne,nf,d⟩:=I.pin p hp
   exact ⟨(hs.2 p.1 ne).trans e,n,ne,nf,d⟩
 ·have hfn:X.fn x=true:=by
   rcases hf with z|z
   ·exact z
   ·rw[z]at hk;cases hk
  obtain⟨c,hc⟩:=I.ok.has x (.inl hk)
  obtain⟨w',z⟩:=I.cell x c hc
  refine wpAny_storeName_cell I.ok.kind hk hc z (fun h' hc' hs=>?_)
  obtain⟨oc,hoc,hocd⟩:=id z
  refine h { s with heap:=h' } ⟨I.ok,I.os,I.bare,⟨fun b o e n hb hx=>?_,fun b o e n hb hx=>?_,I.base.free,fun b o e hx=>?_,I.base.tups,I.base.frzs,I.base.tbls⟩,⟨m,hn.sameBut hs (Ne.symm (cne x c hc)),fun j y v' e1 e2 e3=>?_⟩,fun y c' e=>?_,I.free,I.freeC,fun p hp=>?_,tracked ⟨oc,hoc,I.freeC x c hc⟩ hs,by simpa using I.len⟩ ⟨c,hs,.inr hc⟩
  ·exact (hs.2 b (Nat.ne_of_lt (Nat.lt_of_lt_of_le (Heap.lt_size e) (I.ok.cab x c hfn hc)))).trans (I.base.keep b o e n hb hx)
  ·obtain⟨sl,e1⟩:=I.base.slot b o e n hb hx
   exact ⟨sl,(hs.2 b (Nat.ne_of_lt (Nat.lt_of_lt_of_le (Heap.lt_size e) (I.ok.cab x c hfn hc)))).trans e1⟩
  ·obtain⟨o',e1⟩:=I.base.there b o e hx
   exact ⟨o',(hs.2 b (Nat.ne_of_lt (Nat.lt_of_lt_of_le (Heap.lt_size e) (I.ok.cab x c hfn hc)))).trans e1⟩
  ·by_cases hj:j=i
   ·subst hj
    rw[hi]at e1;cases e1
    rw[List.getElem?_set_self hiσ]at e2
    cases e2
    exact ⟨u,r,.inr ⟨.inl hk,c,hc,hc'⟩⟩
   ·rw[List.getElem?_set_ne (Ne.symm hj)]at e2
    obtain⟨u',r',q⟩:=hl j y v' e1 e2 e3
    refine ⟨u',r',?_⟩
    rcases q with q|⟨k,c',e,z'⟩
    ·exact .inl q
    ·refine .inr ⟨k,c',e,z'.sameBut hs ?_⟩
     rintro rfl
     exact hj (nodup_ix hN e1 (I.ok.inj _ _ _ e hc ▸ hi))
  ·by_cases hcc:c'=c
   ·subst hcc;exact ⟨_,hc'⟩
   ·obtain⟨w2,z2⟩:=I.cell y c' e
    exact ⟨w2,z2.sameBut hs hcc⟩
  ·obtain⟨e,n,ne,nf,d⟩:=I.pin p hp
   refine ⟨(hs.2 p.1 ?_).trans e,n,ne,nf,d⟩
   intro q
   rw[q,hoc]at e
   have q':oc=p.2:=Option.some.inj e
   exact d w' (by rw[<- q'];exact hocd)
theorem store_ok{M:Model}{A:Around}{E:Value->Shared->Prop}{i:Nat}{x:Str}{v:V}{u:Value}{Q:Unit->Shared->Prop}(I:Inv X pins σ H s)(hN:X.N.Nodup)(hi:X.N[i]?=some x)(hx:Loc X.env.scope x)(r:RelV v u)
  (h:∀s',Inv X pins (σ.set i (some v)) H s'->Q () s') (hf:X.fn x=true\/X.env.scope.names.lookup x=some .local:=by first|exact .inl rfl|exact .inr rfl|assumption):wpAny M A (storeName X.env x u) Q E s :=
 store_ok2 I hN hi hx r (fun s' I' _=>h s' I') hf
theorem Inv.call'{s':Shared}{ch:List Addr}(I:Inv X pins σ H s)(ho:s'.os=s.os)(u:Un (frs X.stack) ch H H' s.heap s'.heap)(hok:HOk X.prog X.w H' s'.heap)(hg:AllBare s'.gens)
  (hch:∀b∈ch,(b∈X.ex\/X.s₀.heap.objs.size<=b)/\b≠X.env.locals/\(∀x c,X.env.cells.lookup x=some c->c≠b)/\∀p∈X.pn++pins,p.1≠b):Inv X pins σ H' s':=by
 obtain⟨h',g',d',t',o'⟩:=s'
 have e:o'=s.os:=ho
 subst e
 exact I.call (g':=g') (t':=t') (d':=d') u hok hg hch
end
noncomputable abbrev XK:=Value->Option Addr->Hp->Prop
noncomputable abbrev St:=List (Option V)
noncomputable abbrev VK:=V->Hp->Prop
noncomputable abbrev TE:=St->Hp->VK->Prop
noncomputable abbrev TT:=St->Hp->(Bool->Hp->Prop)->Prop
noncomputable abbrev TA:=St->Hp->(List V->Hp->Prop)->Prop
structure Ends where
 nx:St->Hp->Prop
 rt:VK
 bk:St->Hp->Prop:=fun _ _=>False
 ct:St->Hp->Prop:=fun _ _=>False
noncomputable abbrev TS:=Ends->St->Hp->Prop
noncomputable def EP(X:Cx)(pins:List (Addr×Obj))(σ:St)(Q:VK)(u:Value)(s':Shared):Prop:=∃v H',Inv X pins σ H' s'/\RelV v u/\Q v H'
noncomputable def TP(X:Cx)(pins:List (Addr×Obj))(σ:St)(Q:Bool->Hp->Prop)(b:Bool)(s':Shared):Prop:=∃H',Inv X pins σ H' s'/\Q b H'
noncomputable def AP(X:Cx)(pins:List (Addr×Obj))(σ:St)(Q:List V->Hp->Prop)(us:List Value)(s':Shared):Prop:=∃vs H',Inv X pins σ H' s'/\Vals vs us/\Q vs H'
noncomputable def SP(X:Cx)(pins:List (Addr×Obj))(D:Ends)(f:Flow)(s':Shared):Prop :=
 match f with
 | .next=>∃σ' H',Inv X pins σ' H' s'/\D.nx σ' H'
 | .brk=>∃σ' H',Inv X pins σ' H' s'/\D.bk σ' H'
 | .cont=>∃σ' H',Inv X pins σ' H' s'/\D.ct σ' H'
 | .ret u=>∃v σ' H',Inv X pins σ' H' s'/\RelV v u/\D.rt v H'
noncomputable def PE(X:Cx)(e:Expr)(t:TE):Prop :=
 ∀(pins:List (Addr×Obj)) (s:Shared) (σ:St) (H:Hp) (Q:VK),Inv X pins σ H s->t σ H Q->wpAny (model X.prog X.w) X.A (eval e X.env) (EP X pins σ Q) X.xe s
noncomputable def PT(X:Cx)(e:Expr)(t:TT):Prop :=
 ∀(pins:List (Addr×Obj)) (s:Shared) (σ:St) (H:Hp) (Q:Bool->Hp->Prop),Inv X pins σ H s->t σ H Q->wpAny (model X.prog X.w) X.A (isTrue e X.env (eval e X.env)) (TP X pins σ Q) X.xe s
noncomputable def PW(X:Cx)(e:Expr)(t:TT):Prop :=
 ∀(whole:Sem Value) (pins:List (Addr×Obj)) (s:Shared) (σ:St) (H:Hp) (Q:Bool->Hp->Prop),Inv X pins σ H s->t σ H Q->wpAny (model X.prog X.w) X.A (isTrue e X.env whole) (TP X pins σ Q) X.xe s
theorem PW.pt{X:Cx}{e:Expr}{t:TT}(h:PW X e t):PT X e t:=h _
noncomputable def PA(X:Cx)(es:List Expr)(t:TA):Prop :=
 ∀(pos:Pos) (pins:List (Addr×Obj)) (s:Shared) (σ:St) (H:Hp) (Q:List V->Hp->Prop),Inv X pins σ H s->t σ H Q->wpAny (model X.prog X.w) X.A (spliced (backTo pos (starEach es X.env))) (AP X pins σ Q) X.xe s
noncomputable def PS(X:Cx)(st:Stmt)(t:TS):Prop :=
 ∀(pins:List (Addr×Obj)) (s:Shared) (σ:St) (H:Hp) (D:Ends),Inv X pins σ H s->t D σ H->wpAny (model X.prog X.w) X.A (exec st X.env) (SP X pins D) X.xe s
noncomputable def PSs(X:Cx)(st:List Stmt)(t:TS):Prop :=
 ∀(pins:List (Addr×Obj)) (s:Shared) (σ:St) (H:Hp) (D:Ends),Inv X pins σ H s->t D σ H->wpAny (model X.prog X.w) X.A (execs st X.env) (SP X pins D) X.xe s
theorem thn{α:Type}{t:Sem α}{Q Q':α->Shared->Prop}{M:Model}{A:Around}{E:Value->Shared->Prop}{s:Shared}(h:wpAny M A t Q E s)(hQ:∀a s,Q a s->Q' a s):wpAny M A t Q' E s:=wpAny_mono h hQ fun _ _ x=>x
section
variable {X:Cx}
noncomputable def tVar(i:Nat):TE:=fun σ H Q=>∃v,σ[i]?=some (some v)/\Q v H
noncomputable def tC(v:V):TE:=fun _ H Q=>Q v H
theorem pe_var{i:Nat}{x:Str}{pos:Pos}(hN:X.N[i]?=some x)(hv:Vis X.env.scope x)(hd:(x==("__debug__":Str))=false:=by decide)(hcd:(x==("__classdict__":Str))=false:=by decide):PE X (.Name x pos) (tVar i):=by
 intro pins s σ H Q I h
 obtain⟨v,e,h⟩:=h
 obtain⟨m,hn,hl⟩:=I.loc
 obtain⟨u,r,l⟩:=hl i x v hN e hv
 have fin:EP X pins σ Q u s:=⟨v,H,I,r,h⟩
 rcases l with⟨hk,hm⟩|⟨hk,c,hc,hcell⟩
 ·exact wpAny_Name (wpAny_loadName_local I.ok.kind hk hn hm fin) hd
 ·rcases hk with hk|hk
  ·exact wpAny_Name (wpAny_loadName_cell I.ok.kind hk hc hcell fin) hd
  ·exact wpAny_Name (wpAny_loadName_free I.ok.kind hk hc hcell fin hcd) hd
theorem pe_int{i j pos}:PE X (.Constant (.int i) j pos) (tC (.int i)):=fun _ _ _ H _ I h=>wpAny_Constant_int ⟨.int i,H,I.tok _,⟨_,rfl⟩,h⟩
theorem pe_bl{b j pos}:PE X (.Constant (.bool b) j pos) (tC (.bl b)):=fun _ _ _ H _ I h=>Constant_bool ⟨.bl b,H,I,rfl,h⟩
theorem pe_str{x j pos}:PE X (.Constant (.str x) j pos) (tC (.str x)):=fun _ _ _ H _ I h=>Calls.Constant_str ⟨.str x,H,I.tok _,⟨_,rfl⟩,h⟩
noncomputable def Gl(X:Cx)(x:Str):Prop:=X.env.kindOf x=some .globalImplicit
theorem ld_glob{E:Value->Shared->Prop}{pins:List (Addr×Obj)}{s:Shared}{σ:St}{H:Hp}{x:Str}{u:Value}{pos:Pos}{Q:Value->Shared->Prop}(I:Inv X pins σ H s)(hg:Gl X x)(hm:X.mg x=some u)(h:Q u s)
  (hd:(x==("__debug__":Str))=false:=by decide):wpAny (model X.prog X.w) X.A (eval (.Name x pos) X.env) Q E s :=
 Calls.Name_function_global I.ok.kind hg (Calls.loadGlobal_global (by rw[I.ok.glob];exact I.mod.glob.keeps I.bk) hm h) hd
theorem ld_blt{E:Value->Shared->Prop}{pins:List (Addr×Obj)}{s:Shared}{σ:St}{H:Hp}{x:Str}{u:Value}{pos:Pos}{Q:Value->Shared->Prop}(I:Inv X pins σ H s)(hg:Gl X x)(hm:X.mg x=none)(hv:bootBuiltins x=some u)(h:Q u s)
  (hn:x ≠ "__name__":=by decide) (hd:(x==("__debug__":Str))=false:=by decide):wpAny (model X.prog X.w) X.A (eval (.Name x pos) X.env) Q E s:=by
 obtain⟨mb,h1,h2⟩:=I.mod.blt
 exact Calls.Name_function_global I.ok.kind hg (Calls.loadGlobal_builtin (by rw[I.ok.glob];exact I.mod.glob.keeps I.bk) hm (by rw[I.ok.blt];exact h1.keeps I.bk) ((h2 x hn).trans hv) h) hd
theorem pe_glob{x:Str}{v:V}{u:Value}{pos:Pos}(hg:Gl X x)(hm:X.mg x=some u)(r:RelV v u)(hd:(x==("__debug__":Str))=false:=by decide):PE X (.Name x pos) (tC v) :=
 fun _ _ _ H _ I h=>ld_glob I hg hm ⟨v,H,I,r,h⟩ hd
theorem pe_bltn{x:Str}{v:V}{u:Value}{pos:Pos}(hg:Gl X x)(hm:X.mg x=none)(hv:bootBuiltins x=some u)(r:RelV v u)(hn:x ≠ "__name__":=by decide)(hd:(x==("__debug__":Str))=false:=by decide):PE X (.Name x pos) (tC v) :=
 fun _ _ _ H _ I h=>ld_blt I hg hm hv ⟨v,H,I,r,h⟩ hn hd
variable {a b:Expr}{ta tb:TE}{pos:Pos}
noncomputable def tB(t:TE):TT:=fun σ H Q=>t σ H fun x H1=>∃c,x=.bl c/\Q c H1
theorem pt_val{e:Expr}{t:TE}(h:PE X e t)(he:∀whole,isTrue e X.env whole=(do let v<-whole;standAt e.pos;holding [v] (truthy v)):=by intro _;rfl):PT X e (tB t):=by
 intro pins s σ H Q I hw
 refine isTrue_plain (thn (h pins s σ H _ I hw) fun v s1 ⟨x,H1,I1,r1,q1⟩=>?_) (he _)
 obtain⟨d,rfl,q⟩:=q1
 cases r1
 exact wpAny_truthy_bool ⟨H1,I1,q⟩
variable {tA tB':TT}{rest:List Expr}
noncomputable def tAnd(t u:TT):TT:=fun σ H Q=>t σ H fun c H1=>if c=true then u σ H1 Q else Q false H1
noncomputable def tOr(t u:TT):TT:=fun σ H Q=>t σ H fun c H1=>if c=true then Q true H1 else u σ H1 Q
noncomputable def tNot(t:TT):TT:=fun σ H Q=>t σ H fun c H1=>Q (!c) H1
theorem pw_and1(ha:PT X a tA):PW X (.BoolOp .And [a] pos) tA:=by
 intro wh pins s σ H Q I h
 refine isTrue_and (thn (ha pins s σ H Q I h) fun c s1 e=>?_)
 cases c with
 | true=>exact isTrue_and_nil e
 | false=>exact e
theorem pw_or1(ha:PT X a tA):PW X (.BoolOp .Or [a] pos) tA:=by
 intro wh pins s σ H Q I h
 refine isTrue_or (thn (ha pins s σ H Q I h) fun c s1 e=>?_)
 cases c with
 | false=>exact isTrue_or_nil e
 | true=>exact e
theorem pw_and(ha:PT X a tA)(hb:PW X (.BoolOp .And (b :: rest) pos) tB'):PW X (.BoolOp .And (a :: b :: rest) pos) (tAnd tA tB'):=by
 intro wh pins s σ H Q I h
 refine isTrue_and (thn (ha pins s σ H _ I h) fun c s1 ⟨H1,I1,q1⟩=>?_)
 cases c with
 | true=>exact hb wh pins s1 σ H1 Q I1 q1
 | false=>exact ⟨H1,I1,q1⟩
theorem pw_or(ha:PT X a tA)(hb:PW X (.BoolOp .Or (b :: rest) pos) tB'):PW X (.BoolOp .Or (a :: b :: rest) pos) (tOr tA tB'):=by
 intro wh pins s σ H Q I h
 refine isTrue_or (thn (ha pins s σ H _ I h) fun c s1 ⟨H1,I1,q1⟩=>?_)
 cases c with
 | true=>exact ⟨H1,I1,q1⟩
 | false=>exact hb wh pins s1 σ H1 Q I1 q1
theorem pt_not(ha:PT X a tA):PT X (.UnaryOp .Not a pos) (tNot tA):=by
 intro pins s σ H Q I h
 exact isTrue_not (ha pins s σ H (fun c H1=>Q (!c) H1) I h)
noncomputable def tAndV(ta tb:TE):TE:=fun σ H Q=>ta σ H fun x H1=>∃c,x=.bl c/\if c=true then tb σ H1 Q else Q (.bl false) H1
noncomputable def tNotV(ta:TE):TE:=fun σ H Q=>ta σ H fun x H1=>∃c,x=.bl c/\Q (.bl (!c)) H1
theorem pe_one{op}{t:TE}(h:PE X a t):PE X (.BoolOp op [a] pos) t:=fun pins s σ H Q I hw=>BoolOp_one (h pins s σ H Q I hw)
theorem pe_and(ha:PE X a ta)(hb:PE X (.BoolOp .And (b :: rest) pos) tb):PE X (.BoolOp .And (a :: b :: rest) pos) (tAndV ta tb):=by
 intro pins s σ H Q I h
 refine BoolOp_and (thn (ha pins s σ H _ I h) fun v s1 ⟨x,H1,I1,r1,q1⟩=>?_)
 obtain⟨c,rfl,q1⟩:=q1
 cases r1
 refine wpAny_truthy_bool ?_
 cases c with
 | true=>exact hb pins s1 σ H1 Q I1 q1
 | false=>exact ⟨.bl false,H1,I1,rfl,q1⟩
theorem pe_not(ha:PE X a ta):PE X (.UnaryOp .Not a pos) (tNotV ta):=by
 intro pins s σ H Q I h
 refine UnaryOp_ (thn (ha pins s σ H _ I h) fun v s1 ⟨x,H1,I1,r1,q1⟩=>?_)
 obtain⟨c,rfl,q1⟩:=q1
 cases r1
 exact not_of (wpAny_truthy_bool ⟨.bl (!c),H1,I1,rfl,q1⟩)
end
noncomputable def SqL(K:PySem.W.Frag)(H:Hp)(a:Addr)(xs:List V):Prop :=
 Rd H a (.lst xs) \/
  ∃(o:Obj) (its:Array Value) (n:Nat),K.lookup a=some o/\o.cls=.type "list"/\o.dict=none/\o.data=.seq its n/\its.size<=sizeLine/\Vals xs its.toList
noncomputable def SqT(K:PySem.W.Frag)(H:Hp)(a:Addr)(xs:List V):Prop :=
 Rd H a (.tup xs) \/
  ∃(o:Obj) (its:Array Value) (n:Nat),K.lookup a=some o/\o.cls=.type "tuple"/\o.data=.seq its n/\its.size<=sizeLine/\Vals xs its.toList
noncomputable def absV:Value->Option V
 | .none=>some .non
 | .bool b=>some (.bl b)
 | .int i _=>some (.int i)
 | .str x _=>some (.str x)
 | .bytes b _=>some (.byt b)
 | .float b _=>some (.flt b)
 | .ref a=>some (.ref a)
 | .type n=>some (.ty n)
 | _=>none
theorem RelV.abs{x:V}{u:Value}(r:RelV x u):absV u=some x:=by
 cases x with
 | non=>cases r;rfl
 | bl _=>cases r;rfl
 | int _=>obtain⟨t,rfl⟩:=r;rfl
 | str _=>obtain⟨t,rfl⟩:=r;rfl
 | byt _=>obtain⟨t,rfl⟩:=r;rfl
 | flt _=>obtain⟨t,rfl⟩:=r;rfl
 | ref _=>cases r;rfl
 | ty _=>cases r;rfl
theorem RelV.inj{x y:V}{u:Value}(r:RelV x u)(q:RelV y u):x=y:=Option.some.inj (r.abs.symm.trans q.abs)
theorem Vals.inj:∀{xs ys:List V}{us:List Value},Vals xs us->Vals ys us->xs=ys
 | _,_,_,.nil,.nil=>rfl
 | _,_,_,.cons r t,.cons r' t'=>by rw[r.inj r',Vals.inj t t']
section
variable {X:Cx}{pins:List (Addr×Obj)}{σ:St}{H:Hp}{s:Shared}{a:Addr}{xs ys:List V}
theorem SqL.of{K:PySem.W.Frag}(h:H a=some (.lst xs)):SqL K H a xs:=.inl (.inl h)
theorem SqT.of{K:PySem.W.Frag}(h:H a=some (.tup xs)):SqT K H a xs:=.inl (.inl h)
theorem Inv.list(I:Inv X pins σ H s)(h:SqL X.K H a xs):∃its:List Value,Vals xs its/\PlainL s.heap a its.toArray/\xs.length<=sizeLine:=by
 rcases h with h|⟨o,its,n,hk,hc,hd,hs,hz,r⟩
 ·obtain⟨z,its,n,r,e⟩:=h.ok I.hok
  exact ⟨its,r,⟨_,n,e,rfl,rfl,rfl⟩,z⟩
 ·refine ⟨its.toList,r,⟨o,n,I.kIn a o hk,hc,hd,by simpa using hs⟩,?_⟩
  have e:=r.length
  simp only[Array.length_toList]at e
  omega
theorem Inv.tuple(I:Inv X pins σ H s)(h:SqT X.K H a xs):∃its:List Value,Vals xs its/\IsTup s.heap a its.toArray/\xs.length<=sizeLine:=by
 rcases h with h|⟨o,its,n,hk,hc,hs,hz,r⟩
 ·obtain⟨z,its,r,p⟩:=h.ok I.hok
  exact ⟨its,r,p.t,z⟩
 ·refine ⟨its.toList,r,⟨o,I.kIn a o hk,hc,n,by simpa using hs⟩,?_⟩
  have e:=r.length
  simp only[Array.length_toList]at e
  omega
theorem Inv.list_inj(I:Inv X pins σ H s)(h:SqL X.K H a xs)(h':SqL X.K H a ys):xs=ys:=by
 obtain⟨its,r,⟨o,n,e,_,_,d⟩,_⟩:=I.list h
 obtain⟨its',r',⟨o',n',e',_,_,d'⟩,_⟩:=I.list h'
 rw[e]at e';cases e'
 rw[d]at d'
 injection d' with d1 _
 have:its=its':=by simpa using congrArg Array.toList d1
 subst this
 exact r.inj r'
theorem Inv.tuple_inj(I:Inv X pins σ H s)(h:SqT X.K H a xs)(h':SqT X.K H a ys):xs=ys:=by
 obtain⟨its,r,⟨o,e,_,n,d⟩,_⟩:=I.tuple h
 obtain⟨its',r',⟨o',e',_,n',d'⟩,_⟩:=I.tuple h'
 rw[e]at e';cases e'
 rw[d]at d'
 injection d' with d1 _
 have:its=its':=by simpa using congrArg Array.toList d1
 subst this
 exact r.inj r'
end
noncomputable abbrev Cx.wish(X:Cx)(E:Value->Shared->Prop):Cx:={ X with xe:=E }
noncomputable abbrev Cx.nox(X:Cx):Cx:=X.wish fun _ _=>False
theorem Cx.Ok.wish{X:Cx}(ok:X.Ok)(E:Value->Shared->Prop):(X.wish E).Ok :=
 ⟨ok.mod,ok.kind,ok.glob,ok.blt,ok.above,ok.inj,ok.has,ok.cab,ok.hd,ok.frames,ok.stk,ok.exf,ok.bs,ok.bsz,ok.noex,ok.exfs,ok.funs,ok.frf⟩
theorem Cx.Ok.unwish{X:Cx}{E:Value->Shared->Prop}(ok:(X.wish E).Ok):X.Ok :=
 ⟨ok.mod,ok.kind,ok.glob,ok.blt,ok.above,ok.inj,ok.has,ok.cab,ok.hd,ok.frames,ok.stk,ok.exf,ok.bs,ok.bsz,ok.noex,ok.exfs,ok.funs,ok.frf⟩
section
variable {X:Cx}{pins:List (Addr×Obj)}{σ:St}{H:Hp}{s:Shared}{E:Value->Shared->Prop}
theorem Inv.wish(I:Inv X pins σ H s)(E:Value->Shared->Prop):Inv (X.wish E) pins σ H s:=⟨I.ok.wish E,I.os,I.bare,I.base,I.loc,I.cell,I.free,I.freeC,I.pin,I.hok,I.len⟩
theorem Inv.unwish(I:Inv (X.wish E) pins σ H s):Inv X pins σ H s:=⟨I.ok.unwish,I.os,I.bare,I.base,I.loc,I.cell,I.free,I.freeC,I.pin,I.hok,I.len⟩
theorem SP.unwish{D:Ends}{f:Flow}{s':Shared}(h:SP (X.wish E) pins D f s'):SP X pins D f s':=by
 cases f with
 | next=>obtain⟨σ',H',I,q⟩:=h;exact ⟨σ',H',I.unwish,q⟩
 | brk=>obtain⟨σ',H',I,q⟩:=h;exact ⟨σ',H',I.unwish,q⟩
 | cont=>obtain⟨σ',H',I,q⟩:=h;exact ⟨σ',H',I.unwish,q⟩
 | ret u=>obtain⟨v,σ',H',I,r,q⟩:=h;exact ⟨v,σ',H',I.unwish,r,q⟩
theorem PSs.nox{st:List Stmt}{t:TS}(h:PSs X.nox st t):PSs X st t:=fun pins s σ H D I hw =>
 wpAny_mono (h pins s σ H D (I.wish _) hw) (fun _ _ q=>q.unwish) fun _ _ z=>False.elim z
end
section
variable {X:Cx}{st:Stmt}{rest:List Stmt}{t u:TS}{e:Expr}{te:TE}{pos:Pos}
noncomputable def tNext:TS:=fun D σ H=>D.nx σ H
noncomputable def tSeq(t u:TS):TS:=fun D σ H=>t { D with nx:=u D } σ H
theorem pss_nil:PSs X [] tNext:=fun _ _ σ H _ I h=>wpAny_execs_nil ⟨σ,H,I,h⟩
theorem pss_cons(h1:PS X st t)(h2:PSs X rest u):PSs X (st :: rest) (tSeq t u):=by
 intro pins s σ H D I h
 refine wpAny_execs_cons (thn (h1 pins s σ H { D with nx:=u D } I h) fun f s1 q=>?_)
 cases f with
 | next =>
  obtain⟨σ',H',I',q⟩:=q
  exact h2 pins s1 σ' H' D I' q
 | ret v=>exact q
 | brk=>exact q
 | cont=>exact q
theorem pss_one(h1:PS X st t):PSs X [st] t:=by
 intro pins s σ H D I h
 refine wpAny_execs_cons (thn (h1 pins s σ H D I h) fun f s1 q=>?_)
 cases f with
 | next=>exact wpAny_execs_nil q
 | ret v=>exact q
 | brk=>exact q
 | cont=>exact q
theorem Inv.quiet{pins:List (Addr×Obj)}{σ:St}{H:Hp}{s:Shared}(I:Inv X pins σ H s):interactive X.env=false:=by simp[interactive,I.ok.kind]
noncomputable def tDrop(te:TE):TS:=fun D σ H=>te σ H fun _ H1=>D.nx σ H1
theorem ps_expr(he:PE X e te)(hs:swapsWith e none pos.line X.env=pure false:=by rfl):PS X (.Expr e pos) (tDrop te):=by
 intro pins s σ H D I h
 exact wpAny_Expr_any (thn (he pins s σ H _ I h) fun v s1 ⟨x,H1,I1,r1,q1⟩=>⟨σ,H1,I1,q1⟩) I.quiet hs
noncomputable def tRet(te:TE):TS:=fun D σ H=>te σ H D.rt
theorem ps_ret(he:PE X e te):PS X (.Return (some e) pos) (tRet te):=by
 intro pins s σ H D I h
 exact wpAny_Return_some (thn (he pins s σ H _ I h) fun v s1 ⟨x,H1,I1,r1,q1⟩=>⟨x,σ,H1,I1,r1,q1⟩)
noncomputable def tIfS(c:TT)(t u:TS):TS:=fun D σ H=>c σ H fun b H1=>if b=true then t D σ H1 else u D σ H1
theorem ps_if{c:Expr}{a b:List Stmt}{tc:TT}(hc:PT X c tc)(ha:PSs X a t)(hb:PSs X b u):PS X (.If c a b pos) (tIfS tc t u):=by
 intro pins s σ H D I h
 refine wpAny_If (thn (hc pins s σ H _ I h) fun d s1 ⟨H1,I1,q1⟩=>?_)
 cases d with
 | true=>exact ha pins s1 σ H1 D I1 q1
 | false=>exact hb pins s1 σ H1 D I1 q1
end
noncomputable abbrev TG:=V->St->Hp->(St->Hp->Prop)->Prop
noncomputable abbrev TGs:=List V->St->Hp->(St->Hp->Prop)->Prop
noncomputable def PG(X:Cx)(target:Expr)(t:TG):Prop :=
 ∀(pins:List (Addr×Obj)) (s:Shared) (σ:St) (H:Hp) (v:V) (u:Value) (Q:St->Hp->Prop),Inv X pins σ H s->RelV v u->t v σ H Q ->
  wpAny (model X.prog X.w) X.A (assign target X.env u) (fun _ s'=>∃σ' H',Inv X pins σ' H' s'/\Q σ' H') X.xe s
noncomputable def PGs(X:Cx)(ts:List Expr)(t:TGs):Prop :=
 ∀(pins:List (Addr×Obj)) (s:Shared) (σ:St) (H:Hp) (vs:List V) (us:List Value) (Q:St->Hp->Prop),Inv X pins σ H s->Vals vs us->t vs σ H Q ->
  wpAny (model X.prog X.w) X.A (assignInOrder ((assignEach ts X.env).map (·.2)) us) (fun _ s'=>∃σ' H',Inv X pins σ' H' s'/\Q σ' H') X.xe s
section
variable {X:Cx}{pos:Pos}
noncomputable def gName(i:Nat):TG:=fun v σ H Q=>Q (σ.set i (some v)) H
theorem pg_name{i:Nat}{x:Str}(hN:X.N.Nodup)(hi:X.N[i]?=some x)(hx:Loc X.env.scope x)(hf:X.fn x=true\/X.env.scope.names.lookup x=some .local:=by first|exact .inl rfl|exact .inr rfl|assumption):PG X (.Name x pos) (gName i):=by
 intro pins s σ H v u Q I r h
 exact wpAny_assign_Name (store_ok I hN hi hx r (fun s' I'=>⟨_,H,I',h⟩) hf)
noncomputable def gNil:TGs:=fun vs σ H Q=>vs=[]/\Q σ H
noncomputable def gCons(t:TG)(u:TGs):TGs:=fun vs σ H Q=>∃v r,vs=v :: r/\t v σ H fun σ' H'=>u r σ' H' Q
theorem pgs_nil:PGs X [] gNil:=by
 intro pins s σ H vs us Q I r h
 obtain⟨e,h⟩:=h
 subst e
 cases r
 exact assignInOrder_nil ⟨σ,H,I,h⟩
theorem pgs_cons{e:Expr}{es:List Expr}{t:TG}{u:TGs}(h1:PG X e t)(h2:PGs X es u)
  (hs:(assignEach (e :: es) X.env).map (·.2)=assign e X.env :: (assignEach es X.env).map (·.2):=by rfl):PGs X (e :: es) (gCons t u):=by
 intro pins s σ H vs us Q I r h
 obtain⟨v,vr,e1,h⟩:=h
 subst e1
 cases r with
 | cons r rr =>
  rw[hs]
  refine assignInOrder_cons (thn (h1 pins s σ H _ _ _ I r h) fun _ s1 ⟨σ1,H1,I1,q1⟩=>?_)
  exact h2 pins s1 σ1 H1 _ _ Q I1 rr q1
noncomputable def gTup(K:PySem.W.Frag)(n:Nat)(t:TGs):TG:=fun v σ H Q=>∃a xs,v=.ref a/\SqT K H a xs/\xs.length=n/\t xs σ H Q
theorem pg_tup{es:List Expr}{k:Nat}{t:TGs}{n:Nat}(hc:X.calm=true)(h:PGs X es t)
  (hn:(assignEach es X.env).length=n:=by rfl) (hst:(assignEach es X.env).findIdx? (·.1)=none:=by rfl):PG X (.Tuple es k pos) (gTup X.K n t):=by
 intro pins s σ H v u Q I r hw
 obtain⟨a,xs,e1,hq,hl,hw⟩:=hw
 subst e1
 cases r
 obtain⟨its,rv,ht,hz⟩:=I.tuple hq
 refine assign_Tuple_tuple (I.ok.hd hc) ht (by simp[hn,<- hl,rv.length]) hst fun h' hx=>?_
 have I1:Inv X pins σ H { s with heap:=h' }:=I.kept (t':=s.toks) fun b o e=>hx b o (Nat.ne_of_lt (Heap.lt_size e)) e
 exact h pins _ σ H xs _ Q I1 (by simpa using rv) hw
noncomputable def tAsg(te:TE)(g:TG):TS:=fun D σ H=>te σ H fun x H1=>g x σ H1 D.nx
theorem ps_asg{tg e:Expr}{te:TE}{g:TG}(he:PE X e te)(hg:PG X tg g)(hs:swapsWithSole [tg] e pos.line X.env=pure false:=by rfl)(hw:swappedStores [tg] e X.env=pure none:=by rfl)
  (h1:(assignEach [tg] X.env).map (·.2)=[assign tg X.env]:=by rfl):PS X (.Assign [tg] e pos) (tAsg te g):=by
 intro pins s σ H D I h
 refine wpAny_Assign_stores (thn (he pins s σ H _ I h) fun v s1 ⟨x,H1,I1,r1,q1⟩=>?_) hs hw
 rw[h1]
 exact thn (hg pins s1 σ H1 x v _ I1 r1 q1) fun _ s2 q=>q
theorem ps_set{i:Nat}{x:Str}{e:Expr}{te:TE}{pos':Pos}(hN:X.N.Nodup)(hi:X.N[i]?=some x)(hx:Loc X.env.scope x)(he:PE X e te)(hs:swapsWith e (some (.Name x pos')) pos.line X.env=pure false:=by rfl)(hf:X.fn x=true\/X.env.scope.names.lookup x=some .local:=by first|exact .inl rfl|exact .inr rfl|assumption) :
  PS X (.Assign [.Name x pos'] e pos) (tAsg te (gName i)):=by
 intro pins s σ H D I h
 refine wpAny_Assign_Name (thn (he pins s σ H _ I h) fun v s1 ⟨y,H1,I1,r1,q1⟩=>?_) hs
 exact store_ok I1 hN hi hx r1 (fun s2 I2=>⟨_,H1,I2,q1⟩) hf
noncomputable def tPar(i j:Nat)(ta:TA):TS:=fun D σ H=>ta σ H fun vs H1=>∃v w,vs=[v,w]/\D.nx ((σ.set i (some v)).set j (some w)) H1
theorem ps_par{i j:Nat}{x y:Str}{a b:Expr}{ta:TA}{px py pt:Pos}{kt k2 pt2}(hc:X.calm=true)(hN:X.N.Nodup)(hi:X.N[i]?=some x)(hj:X.N[j]?=some y)(hij:i≠j)
  (hx:X.env.scope.names.lookup x=some .local) (hy:X.env.scope.names.lookup y=some .local) (ha:PA X [a,b] ta)
  (hw:swappedStores [.Tuple [.Name x px,.Name y py] kt pt] (.Tuple [a,b] k2 pt2) X.env=pure (some [x,y]))
  (hs:swapsWithSole [.Tuple [.Name x px,.Name y py] kt pt] (.Tuple [a,b] k2 pt2) pos.line X.env=pure false:=by rfl) :
  PS X (.Assign [.Tuple [.Name x px,.Name y py] kt pt] (.Tuple [a,b] k2 pt2) pos) (tPar i j ta):=by
 intro pins s σ H D I h
 rw[exec_Assign_arm]
 refine wpAny_bind (wpAny_standAt ?_)
 rw[hs]
 refine wpAny_bind (wpAny_pure ?_)
 rw[if_neg (by decide)]
 refine wpAny_bind (Tuple_ (thn (ha _ pins s σ H _ I h) fun us s1 ⟨vs,H1,I1,r1,q1⟩=>?_))
 obtain⟨v,w,e1,q1⟩:=q1
 subst e1
 obtain⟨u1,u2,rfl,rv,rw'⟩:∃u1 u2,us=[u1,u2]/\RelV v u1/\RelV w u2:=by
  cases r1 with
  | cons p q =>
   cases q with
   | cons p' q' =>
    cases q'
    exact ⟨_,_,rfl,p,p'⟩
 refine wpAny_newObj_type ?_ (by show 2<=sizeLine;decide)
 have I2:Inv X pins σ H1 { s1 with heap:=s1.heap.push { cls:=.type "tuple",data:=.seq [u1,u2].toArray } }:=I1.kept (t':=s1.toks) fun b o e=>Heap.get?_push_of_some _ e
 rw[hw]
 refine wpAny_bind (wpAny_pure ?_)
 show wpAny (model X.prog X.w) X.A (do rule "assign.swapped-stores";let items<-unpackItems (.ref s1.heap.objs.size) 2 none;assignInOrder [fun v=>bindName X.env y v,fun v=>bindName X.env x v] items.reverse;pure Flow.next) _ _ _
 refine wpAny_bind (wpAny_rule (wpAny_bind (unpackItems_tuple (items:=#[u1,u2]) (I.ok.hd hc) (IsTup.new s1.heap _) fun h' hx'=>?_)))
 have I3:=I2.kept (h':=h') (t':=s1.toks) fun b o e=>hx' b o (Nat.ne_of_lt (Heap.lt_size e)) e
 show wpAny _ _ (assignInOrder [fun v=>bindName X.env y v,fun v=>bindName X.env x v] [u2,u1] >>= fun _=>pure Flow.next) _ _ _
 refine wpAny_bind (assignInOrder_cons (wpAny_bindName (store_ok I3 hN hj (.inl hy) rw' (fun s2 I4=>?_) (.inr hy))))
 refine assignInOrder_cons (wpAny_bindName (store_ok I4 hN hi (.inl hx) rv (fun s3 I5=>assignInOrder_nil (wpAny_pure ?_)) (.inr hx)))
 rw[List.set_comm _ _ (Ne.symm hij)]at I5
 exact ⟨_,H1,I5,q1⟩
end
section
variable {X:Cx}{pos:Pos}
end
structure It where
 go:Nat->Hp->Prop
 yld:Nat->Hp->V->Hp->Prop
 stop:Nat->Hp->Prop
noncomputable def FpOk(X:Cx)(pins:List (Addr×Obj))(H:Hp)(b:Addr):Prop :=
 H b=none/\b≠X.env.locals/\b∉X.fs/\(b∈X.ex\/X.s₀.heap.objs.size<=b)/\(∀x c,X.env.cells.lookup x=some c->c≠b)/\∀p∈X.pn++pins,p.1≠b
theorem Inv.fpOk{X:Cx}{pins:List (Addr×Obj)}{σ:St}{H H':Hp}{s:Shared}{b:Addr}(I:Inv X pins σ H s)(hb:s.heap.objs.size<=b)(hn:H' b=none):FpOk X pins H' b:=by
 refine ⟨hn,Nat.ne_of_gt (Nat.lt_of_lt_of_le I.lt hb),I.nofs hb,.inr (Nat.le_trans I.sz hb),fun x c e z=>?_,fun p hp z=>?_⟩
 ·obtain⟨v,q⟩:=I.cell x c e
  exact absurd (Nat.lt_of_lt_of_le q.lt (by rw[z];exact hb)) (Nat.lt_irrefl _)
 ·exact absurd (Nat.lt_of_lt_of_le (Heap.lt_size (I.pin p hp).1) (by rw[z];exact hb)) (Nat.lt_irrefl _)
structure Turn(P:Program)(w:World)(K:PySem.W.Frag)(tg:Expr)(J:It)(fp:List Addr)(it:Addr)(tn:Nat->Heap->Prop):Prop where
 mem:it∈fp
 obj:∀i h,tn i h->∀b∈fp,∃o,h.get? b=some o/\∀v,o.data≠.cell v
 keep:∀i h h',tn i h->(∀b∈fp,∀o,h.get? b=some o->h'.get? b=some o)->tn i h'
 item:∀(X:Cx),X.prog=P->X.w=w->X.K=K->X.calm=true->∀(i:Nat) (pins:List (Addr×Obj)) (s:Shared) (σ:St) (H:Hp) (E:Value->Shared->Prop),Inv X pins σ H s->(∀b∈fp,FpOk X pins H b)->tn i s.heap->J.go i H ->
  wpAny (model P w) X.A (pyNext (.ref it)) (fun r s1=>∃u,r=some u /\
    wpAny (model P w) X.A (letOwnedTupleGo tg (.ref it) u) (fun _ s2=>∃x H',Inv X pins σ H' s2/\RelV x u/\J.yld i H x H'/\tn (i+1) s2.heap/\∀b∈fp,H' b=none) E s1) E s
 done:∀(X:Cx),X.prog=P->X.w=w->X.K=K->X.calm=true->∀(i:Nat) (pins:List (Addr×Obj)) (s:Shared) (σ:St) (H:Hp) (E:Value->Shared->Prop),Inv X pins σ H s->(∀b∈fp,FpOk X pins H b)->tn i s.heap->J.stop i H ->
  wpAny (model P w) X.A (pyNext (.ref it)) (fun r s1=>r=none/\Inv X pins σ H s1) E s
 self:∀(A:Around) (i:Nat) (s:Shared) (Q:Value->Shared->Prop) (E:Value->Shared->Prop),tn i s.heap->Q (.ref it) s->wpAny (model P w) A (pyIter (.ref it)) Q E s
noncomputable abbrev TI:=St->Hp->(It->Hp->Prop)->Prop
noncomputable def PIE(X:Cx)(pins:List (Addr×Obj))(σ:St)(tg:Expr)(R:It->Hp->Prop)(itv:Value)(s2:Shared):Prop :=
 ∃(it:Addr) (fp:List Addr) (tn:Nat->Heap->Prop) (J:It) (H':Hp),itv=.ref it/\Inv X pins σ H' s2/\Turn X.prog X.w X.K tg J fp it tn/\tn 0 s2.heap/\(∀b∈fp,FpOk X pins H' b)/\R J H'
noncomputable def PI(X:Cx)(tg iter:Expr)(wi:TI):Prop :=
 ∀(pins:List (Addr×Obj)) (s:Shared) (σ:St) (H:Hp) (R:It->Hp->Prop),Inv X pins σ H s->wi σ H R ->
  wpAny (model X.prog X.w) X.A (eval iter X.env) (fun v s1=>wpAny (model X.prog X.w) X.A (pyIter v) (PIE X pins σ tg R) X.xe s1) X.xe s
theorem go_of{M:Model}{A:Around}{E:Value->Shared->Prop}{s:Shared}{tg:Expr}{it:Addr}{u:Value}{o:Obj}{n:String}{vs:Array Value}{Q:Unit->Shared->Prop}(ho:s.heap.get? it=some o)(hc:o.cls=.type n)(hd:o.data=.fields vs)
  (hn:["enumerate","zip","dict_itemiterator","dict_reverseitemiterator","odict_iterator","itertools.zip_longest","itertools.pairwise"].contains n=false) (hQ:Q () s):wpAny M A (letOwnedTupleGo tg (.ref it) u) Q E s:=by
 unfold letOwnedTupleGo
 cases tg<;>first
  | exact wpAny_pure hQ
  | (cases u<;>first
      | exact wpAny_pure hQ
      | (refine wpAny_bind (wpAny_load ho ?_)
         rw[hc,hd]
         show wpAny M A (if (["enumerate","zip","dict_itemiterator","dict_reverseitemiterator","odict_iterator","itertools.zip_longest","itertools.pairwise"].contains n&&vs[0]?==some (rawInt _))=true then _ else _) Q E s
         rw[if_neg (by intro h;rw[hn,Bool.false_and]at h;cases h)]
         exact wpAny_pure hQ))
noncomputable def Itl(K:PySem.W.Frag)(a:Addr):It :=
 ⟨fun i H=>∃xs x,SqL K H a xs/\xs[i]?=some x,fun i H x H'=>H'=H/\∀xs,SqL K H a xs->xs[i]?=some x,fun i H=>∃xs,SqL K H a xs/\xs.length<=i⟩
noncomputable def Itt(K:PySem.W.Frag)(a:Addr):It :=
 ⟨fun i H=>∃xs x,SqT K H a xs/\xs[i]?=some x,fun i H x H'=>H'=H/\∀xs,SqT K H a xs->xs[i]?=some x,fun i H=>∃xs,SqT K H a xs/\xs.length<=i⟩
noncomputable def Itr(lo:Int)(n:Nat):It:=⟨fun i _=>i < n,fun i H x H'=>H'=H/\x=.int (lo+i),fun i _=>n<=i⟩
theorem turn_list{P:Program}{w:World}{K:PySem.W.Frag}{tg:Expr}(a it:Addr):Turn P w K tg (Itl K a) [it] it (fun i h=>h.IsListIter it a i) where
 mem:=by simp
 obj:=fun i h st b hb=>by
  have e:b=it:=by simpa using hb
  subst e
  obtain⟨o,e,c,d⟩:=st
  exact ⟨o,e,fun v z=>by rw[d]at z;cases z⟩
 keep:=fun i h h' st k=>st.at fun o e=>k it (by simp) o e
 item:=by
  intro X hP hw hK hc i pins s σ H E I hf st hg
  subst hP hw hK
  obtain⟨xs,x,hq,hx⟩:=hg
  obtain⟨its,rv,p,hz⟩:=I.list hq
  obtain⟨u,hu,ru⟩:=rv.get hx
  obtain⟨f0,f1,f2,f3,f4,f5⟩:=hf it (by simp)
  refine wpAny_pyNext_list_item st p.isList (x:=u) (by simpa using hu) fun h' st' sb=>?_
  have I1:Inv X pins σ H { s with heap:=h' }:=I.turned (t':=s.toks) (fun b o hb e=>(sb.2 b hb).trans e) f0 f1 f3 f4 f5
  obtain⟨o,e,c,d⟩:=id st'
  exact ⟨u,rfl,go_of (s:={ s with heap:=h' }) e c d (by decide) ⟨x,H,I1,ru,⟨rfl,fun ys hy=>by rw[I.list_inj hy hq];exact hx⟩,st',fun b hb=>(hf b hb).1⟩⟩
 done:=by
  intro X hP hw hK hc i pins s σ H E I hf st hg
  subst hP hw hK
  obtain⟨xs,hq,hx⟩:=hg
  obtain⟨its,rv,p,hz⟩:=I.list hq
  obtain⟨f0,f1,f2,f3,f4,f5⟩:=hf it (by simp)
  have hl:=rv.length
  exact wpAny_pyNext_list_end (I.ok.hd hc) st p.isList (by simp;omega) fun h' eb=>⟨rfl,I.turned (t':=s.toks) (fun b o hb e=>eb b o hb e) f0 f1 f3 f4 f5⟩
 self:=fun _ _ _ _ _ st h=>wpAny_pyIter_listiter st h
theorem turn_tuple{P:Program}{w:World}{K:PySem.W.Frag}{tg:Expr}(a it:Addr):Turn P w K tg (Itt K a) [it] it (fun i h=>h.IsTupleIter it a i) where
 mem:=by simp
 obj:=fun i h st b hb=>by
  have e:b=it:=by simpa using hb
  subst e
  obtain⟨o,e,c,d⟩:=st
  exact ⟨o,e,fun v z=>by rw[d]at z;cases z⟩
 keep:=fun i h h' st k=>st.at fun o e=>k it (by simp) o e
 item:=by
  intro X hP hw hK hc i pins s σ H E I hf st hg
  subst hP hw hK
  obtain⟨xs,x,hq,hx⟩:=hg
  obtain⟨its,rv,p,hz⟩:=I.tuple hq
  obtain⟨u,hu,ru⟩:=rv.get hx
  obtain⟨f0,f1,f2,f3,f4,f5⟩:=hf it (by simp)
  refine wpAny_pyNext_tuple_item st (show s.heap.IsTuple a its.toArray from p) (x:=u) (by simpa using hu) fun h' st' sb=>?_
  have I1:Inv X pins σ H { s with heap:=h' }:=I.turned (t':=s.toks) (fun b o hb e=>(sb.2 b hb).trans e) f0 f1 f3 f4 f5
  obtain⟨o,e,c,d⟩:=id st'
  exact ⟨u,rfl,go_of (s:={ s with heap:=h' }) e c d (by decide) ⟨x,H,I1,ru,⟨rfl,fun ys hy=>by rw[I.tuple_inj hy hq];exact hx⟩,st',fun b hb=>(hf b hb).1⟩⟩
 done:=by
  intro X hP hw hK hc i pins s σ H E I hf st hg
  subst hP hw hK
  obtain⟨xs,hq,hx⟩:=hg
  obtain⟨its,rv,p,hz⟩:=I.tuple hq
  obtain⟨f0,f1,f2,f3,f4,f5⟩:=hf it (by simp)
  have hl:=rv.length
  exact wpAny_pyNext_tuple_end (I.ok.hd hc) st (show s.heap.IsTuple a its.toArray from p) (by simp;omega) fun h' eb=>⟨rfl,I.turned (t':=s.toks) (fun b o hb e=>eb b o hb e) f0 f1 f3 f4 f5⟩
 self:=fun _ _ _ _ _ st h=>wpAny_pyIter_tupleiter st h
theorem turn_range{P:Program}{w:World}{K:PySem.W.Frag}{tg:Expr}(it:Addr)(lo:Int)(n:Nat):Turn P w K tg (Itr lo n) [it] it (fun i h=>IsRangeIter h it (lo+(i:Nat) * 1) ((n:Int) - (i:Nat)) 1) where
 mem:=by simp
 obj:=fun i h st b hb=>by
  have e:b=it:=by simpa using hb
  subst e
  exact ⟨_,st,fun v z=>by
    have z':Data.fields _=Data.cell v:=z
    cases z'⟩
 keep:=fun i h h' st k=>k it (by simp) _ st
 item:=by
  intro X hP hw hK hc i pins s σ H E I hf st hg
  subst hP hw hK
  obtain⟨f0,f1,f2,f3,f4,f5⟩:=hf it (by simp)
  have W:=Walks.range (prog:=X.prog) (w:=X.w) (I.ok.hd hc) it lo 1 n
  refine W.item i s _ _ hg st fun v h' tk hv st' kk=>?_
  obtain⟨t,rfl⟩:=hv
  have I1:Inv X pins σ H { s with heap:=h',toks:=tk }:=I.turned (fun b o hb e=>kk b o (by simpa using hb) e) f0 f1 f3 f4 f5
  refine ⟨_,rfl,go_of (s:={ s with heap:=h',toks:=tk }) (n:="range_iterator") st' rfl rfl (by decide) ⟨.int (lo+i),H,I1,⟨t,?_⟩,⟨rfl,rfl⟩,st',fun b hb=>(hf b hb).1⟩⟩
  rw[Int.mul_one]
 done:=by
  intro X hP hw hK hc i pins s σ H E I hf st hg
  subst hP hw hK
  obtain⟨f0,f1,f2,f3,f4,f5⟩:=hf it (by simp)
  exact wpAny_pyNext_range_end (I.ok.hd hc) st (by have:n<=i:=hg;omega) fun h' eb=>⟨rfl,I.turned (t':=s.toks) (fun b o hb e=>eb b o hb e) f0 f1 f3 f4 f5⟩
 self:=fun _ _ _ _ _ st h=>wpAny_pyIter_rangeiter st h
section
variable {X:Cx}{tg:Expr}
theorem range_it{pins:List (Addr×Obj)}{σ:St}{H:Hp}{s:Shared}{R:It->Hp->Prop}{E:Value->Shared->Prop}{lo hi:Int}{t u v:Tok}{tk:Nat}(I:Inv X pins σ H s)(h1:-(2 ^ 62)<=lo)(h2:lo < 2 ^ 62)(h3:-(2 ^ 62)<=hi)(h4:hi < 2 ^ 62)
  (q:R (Itr lo (hi - lo).toNat) H):wpAny (model X.prog X.w) X.A (pyIter (.ref s.heap.objs.size)) (PIE X pins σ tg R) E { s with heap:=s.heap.push { cls:=.type "range",data:=.fields #[.int lo t,.int hi u,.int 1 v] },toks:=tk }:=by
 refine wpAny_pyIter_range (IsRange.new ..) (small_one h1 h2 h3 h4) ?_
 have I1:Inv X pins σ H { s with heap:=s.heap.push { cls:=.type "range",data:=.fields #[.int lo t,.int hi u,.int 1 v] },toks:=tk }:=I.kept fun b o e=>Heap.get?_push_of_some _ e
 refine ⟨(s.heap.push { cls:=.type "range",data:=.fields #[.int lo t,.int hi u,.int 1 v] }).objs.size,[(s.heap.push { cls:=.type "range",data:=.fields #[.int lo t,.int hi u,.int 1 v] }).objs.size],_,_,H,rfl,
   I1.kept (t':=tk) fun b o e=>Heap.get?_push_of_some _ e,turn_range _ lo (hi - lo).toNat,?_,fun b hb=>?_,q⟩
 ·have e1:lo+((0:Nat):Int) * 1=lo:=by simp
  have e2:(((hi - lo).toNat:Nat):Int) - ((0:Nat):Int)=Builtin.Range.rangeSize lo hi 1:=by rw[rangeSize_one];split<;>omega
  show IsRangeIter _ _ (lo+((0:Nat):Int) * 1) ((((hi - lo).toNat:Nat):Int) - ((0:Nat):Int)) 1
  rw[e1,e2]
  exact Heap.get?_push_size _ rfl
 ·have e:b=(s.heap.push { cls:=.type "range",data:=.fields #[.int lo t,.int hi u,.int 1 v] }).objs.size:=by simpa using hb
  subst e
  exact I1.fpOk (Nat.le_refl _) (I1.hok.fresh (Nat.le_refl _))
noncomputable def iRng1(ta:TA):TI:=fun σ H R=>ta σ H fun vs H1=>∃j:Int,vs=[.int j]/\-(2 ^ 62)<=j/\j < 2 ^ 62/\R (Itr 0 j.toNat) H1
noncomputable def iRng2(ta:TA):TI:=fun σ H R=>ta σ H fun vs H1=>∃i j:Int,vs=[.int i,.int j]/\(-(2 ^ 62)<=i/\i < 2 ^ 62/\-(2 ^ 62)<=j/\j < 2 ^ 62)/\R (Itr i (j - i).toNat) H1
theorem pi_range1{a:Expr}{ta:TA}{p pos:Pos}(hg:Gl X "range")(hm:X.mg "range"=none)(ha:PA X [a] ta)(hs:starEach [a] X.env=[(false,eval a X.env)]:=by rfl):PI X tg (.Call (.Name "range" p) [a] [] pos) (iRng1 ta):=by
 intro pins s σ H R I h
 refine Call_ (ld_blt I hg hm boot_range (PyProof.Rows.callWith_type1 (thn (ha pos pins s σ H _ I h) fun us s1 ⟨vs,H1,I1,r1,q1⟩=>?_) hs rfl))
 obtain⟨j,e,q1,q2,q⟩:=q1
 subst e
 cases r1 with
 | cons r rr =>
  cases rr
  obtain⟨t,rfl⟩:=r
  exact call_range_1 (range_it I1 (by omega) (by omega) q1 q2 (by simpa using q))
theorem pi_range2{a b:Expr}{ta:TA}{p pos:Pos}(hg:Gl X "range")(hm:X.mg "range"=none)(ha:PA X [a,b] ta)(hs:starEach [a,b] X.env=[(false,eval a X.env),(false,eval b X.env)]:=by rfl)(hs2:starEach [b] X.env=[(false,eval b X.env)]:=by rfl) :
  PI X tg (.Call (.Name "range" p) [a,b] [] pos) (iRng2 ta):=by
 intro pins s σ H R I h
 refine Call_ (ld_blt I hg hm boot_range (PyProof.Rows.callWith_type1 (thn (ha pos pins s σ H _ I h) fun us s1 ⟨vs,H1,I1,r1,q1⟩=>?_) (by rw[hs,hs2]) (by rw[hs2];rfl)))
 obtain⟨i,j,e,⟨q1,q2,q3,q4⟩,q⟩:=q1
 subst e
 cases r1 with
 | cons r rr =>
  cases rr with
  | cons r' rr =>
   cases rr
   obtain⟨t,rfl⟩:=r
   obtain⟨t',rfl⟩:=r'
   exact call_range_2 (range_it I1 q1 q2 q3 q4 q)
noncomputable def tFor(wi:TI)(g:TG)(tb:TS):TS:=fun D σ H=>wi σ H fun J H1=>∃W:Nat->Nat->St->Hp->Prop,(∃m,W 0 m σ H1)/\∀i m σ H,W i m σ H ->
 (J.stop i H/\D.nx σ H)\/(J.go i H/\∃N:St->Hp->Prop,(∀σ' H',N σ' H'->∃m',m' < m/\W (i+1) m' σ' H')/\∀x H',J.yld i H x H'->g x σ H' fun σ2 H2=>tb { D with nx:=N,ct:=N,bk:=D.nx } σ2 H2)
noncomputable def pinsAt(fp:List Addr)(h:Heap):List (Addr×Obj):=fp.filterMap fun b=>(h.get? b).map fun o=>(b,o)
theorem mem_pinsAt{fp:List Addr}{h:Heap}{b:Addr}{o:Obj}(hb:b∈fp)(e:h.get? b=some o):(b,o)∈pinsAt fp h:=List.mem_filterMap.mpr ⟨b,hb,by rw[e];rfl⟩
theorem of_pinsAt{fp:List Addr}{h:Heap}{p:Addr×Obj}(hp:p∈pinsAt fp h):p.1∈fp/\h.get? p.1=some p.2:=by
 obtain⟨b,hb,e⟩:=List.mem_filterMap.mp hp
 cases q:h.get? b with
 | none=>rw[q]at e;cases e
 | some o =>
  rw[q]at e
  have e':(b,o)=p:=Option.some.inj e
  subst e'
  exact ⟨hb,q⟩
theorem Inv.pinned{pins:List (Addr×Obj)}{σ:St}{H:Hp}{s:Shared}{fp:List Addr}(I:Inv X pins σ H s)(hf:∀b∈fp,FpOk X pins H b)(ho:∀b∈fp,∃o,s.heap.get? b=some o/\∀v,o.data≠.cell v):Inv X (pins++pinsAt fp s.heap) σ H s :=
 I.pins_of fun p hp=>(List.mem_append.mp hp).elim (fun z=>I.pin p (List.mem_append_right _ z)) fun z=>by
  obtain⟨hb,e⟩:=of_pinsAt z
  obtain⟨f0,f1,f2,_⟩:=hf p.1 hb
  obtain⟨o,e',d⟩:=ho p.1 hb
  rw[e]at e';cases e'
  exact ⟨e,f0,f1,f2,d⟩
theorem Inv.unpinned{pins pl:List (Addr×Obj)}{σ:St}{H:Hp}{s:Shared}(I:Inv X (pins++pl) σ H s):Inv X pins σ H s:=I.pins_of fun p hp=>I.pin p (List.mem_append_right _ (List.mem_append_left _ hp))
theorem ps_for{iter:Expr}{body:List Stmt}{wi:TI}{g:TG}{tb:TS}{pos:Pos}(hp:PassesOwn (model X.prog X.w) X.A X.env X.xe)(hc:X.calm=true)(hi:PI X tg iter wi)(hg:PG X tg g)(hb:PSs X body tb)
  (hs:∀x,foldedSetIterable iter X.env x=pure x:=by intro _;rfl):PS X (.For tg iter body [] pos) (tFor wi g tb):=by
 intro pins s σ H D I h
 refine wpAny_For (thn (hi pins s σ H _ I h) fun v s1 h1=>thn h1 fun itv s2 h2=>?_) hs
 obtain⟨it,fp,tn,J,H2,e,I2,T,st2,f2,W,⟨m0,w0⟩,turn⟩:=h2
 subst e
 have stat:∀{H':Hp},(∀b∈fp,H' b=none)->∀b∈fp,FpOk X pins H' b:=fun hn b hb=>⟨hn b hb,(f2 b hb).2⟩
 refine codeAny_forLoop_any (fun n s'=>∃i σ' H',Inv X pins σ' H' s'/\tn i s'.heap/\(∀b∈fp,H' b=none)/\W i n σ' H') ?_ m0 ⟨0,σ,H2,I2,st2,fun b hb=>(f2 b hb).1,w0⟩
 rintro n s3 ⟨i,σ3,H3,I3,st3,fr3,w3⟩
 rcases turn i n σ3 H3 w3 with⟨stop,qn⟩|⟨go,N,hN,step⟩
 ·refine wpAny_passesOwn hp (thn (T.done X rfl rfl rfl hc i pins s3 σ3 H3 X.xe I3 (stat fr3) st3 stop) fun r s4 ⟨hr,I4⟩=>?_)
  subst hr
  exact wpAny_execs_nil ⟨σ3,H3,I4,qn⟩
 ·refine wpAny_passesOwn hp (thn (T.item X rfl rfl rfl hc i pins s3 σ3 H3 X.xe I3 (stat fr3) st3 go) fun r s4 ⟨u,hr,h4⟩=>?_)
  subst hr
  refine wpAny_passesOwn hp (thn h4 fun _ s5 ⟨x,H5,I5,r5,y5,st5,fr5⟩=>?_)
  have I5':=I5.pinned (stat fr5) (T.obj _ _ st5)
  refine wpAny_passesOwn hp (thn (hg _ s5 σ3 H5 x u _ I5' r5 (step x H5 y5)) fun _ s6 ⟨σ6,H6,I6,q6⟩=>?_)
  refine wpAny_passesOwn hp (thn (hb _ s6 σ6 H6 _ I6 q6) fun f s7 q7=>?_)
  have again:∀{σ7:St}{H7:Hp},Inv X (pins++pinsAt fp s5.heap) σ7 H7 s7->N σ7 H7->∃m,m < n/\∃i σ' H',Inv X pins σ' H' s7/\tn i s7.heap/\(∀b∈fp,H' b=none)/\W i m σ' H':=fun {σ7 H7} I7 n7=>by
   obtain⟨m',hm,w7⟩:=hN σ7 H7 n7
   refine ⟨m',hm,i+1,σ7,H7,I7.unpinned,T.keep _ _ _ st5 fun b hb o e=>(I7.pin (b,o) (List.mem_append_right _ (List.mem_append_right _ (mem_pinsAt hb e)))).1,fun b hb=>?_,w7⟩
   obtain⟨o,e,d⟩:=T.obj _ _ st5 b hb
   exact (I7.pin (b,o) (List.mem_append_right _ (List.mem_append_right _ (mem_pinsAt hb e)))).2.1
  cases f with
  | next=>obtain⟨σ7,H7,I7,n7⟩:=q7;exact again I7 n7
  | cont=>obtain⟨σ7,H7,I7,n7⟩:=q7;exact again I7 n7
  | brk=>obtain⟨σ7,H7,I7,q7⟩:=q7;exact ⟨σ7,H7,I7.unpinned,q7⟩
  | ret v=>obtain⟨x7,σ7,H7,I7,r7,q7⟩:=q7;exact ⟨x7,σ7,H7,I7.unpinned,r7,q7⟩
end
noncomputable abbrev R2:=V->V->Hp->VK->Prop
noncomputable def OpR(X:Cx)(f:Value->Value->Sem Value)(r:R2):Prop :=
 ∀(pins:List (Addr×Obj)) (s:Shared) (σ:St) (H:Hp) (x y:V) (v u:Value) (Q:VK),Inv X pins σ H s->RelV x v->RelV y u->r x y H Q ->
  wpAny (model X.prog X.w) X.A (f v u) (EP X pins σ Q) X.xe s
noncomputable def UnR(X:Cx)(f:Value->Sem Value)(r:V->Hp->VK->Prop):Prop :=
 ∀(pins:List (Addr×Obj)) (s:Shared) (σ:St) (H:Hp) (x:V) (v:Value) (Q:VK),Inv X pins σ H s->RelV x v->r x H Q ->
  wpAny (model X.prog X.w) X.A (f v) (EP X pins σ Q) X.xe s
noncomputable def CallR(X:Cx)(f:Value)(r:List V->Hp->VK->Prop):Prop :=
 ∀(pins:List (Addr×Obj)) (s:Shared) (σ:St) (H:Hp) (xs:List V) (us:List Value) (Q:VK),Inv X pins σ H s->Vals xs us->r xs H Q ->
  wpAny (model X.prog X.w) X.A (call f us) (EP X pins σ Q) X.xe s
noncomputable def tOp(r:R2)(ta tb:TE):TE:=fun σ H Q=>ta σ H fun x H1=>tb σ H1 fun y H2=>r x y H2 Q
noncomputable def tUn(r:V->Hp->VK->Prop)(ta:TE):TE:=fun σ H Q=>ta σ H fun x H1=>r x H1 Q
noncomputable def rI(C:Int->Int->Prop)(g:Int->Int->V):R2:=fun x y H Q=>∃i j,x=.int i/\y=.int j/\C i j/\Q (g i j) H
noncomputable def rI0(g:Int->Int->V):R2:=fun x y H Q=>∃i j,x=.int i/\y=.int j/\Q (g i j) H
noncomputable def rU(g:Int->V):V->Hp->VK->Prop:=fun x H Q=>∃i,x=.int i/\Q (g i) H
section
variable {X:Cx}{a b c:Expr}{ta tb tc:TE}{pos:Pos}
theorem binT(ha:PE X a ta)(hb:PE X b tb){pins:List (Addr×Obj)}{s:Shared}{σ:St}{H:Hp}{R:V->V->Hp->Prop}(I:Inv X pins σ H s)
  (h:ta σ H fun x H1=>tb σ H1 fun y H2=>R x y H2) {Q:Value->Shared->Prop}{f:Value->Value->Sem Value}
  (hf:∀v u s2 x y H2,Inv X pins σ H2 s2->RelV x v->RelV y u->R x y H2->wpAny (model X.prog X.w) X.A (f v u) Q X.xe s2) :
  wpAny (model X.prog X.w) X.A (eval a X.env) (fun v s₁=>wpAny (model X.prog X.w) X.A (eval b X.env) (fun u s₂=>wpAny (model X.prog X.w) X.A (f v u) Q X.xe s₂) X.xe s₁) X.xe s:=by
 refine thn (ha pins s σ H _ I h) fun v s1 ⟨x,H1,I1,r1,q1⟩=>?_
 refine thn (hb pins s1 σ H1 _ I1 q1) fun u s2 ⟨y,H2,I2,r2,q2⟩=>?_
 exact hf v u s2 x y H2 I2 r1 r2 q2
theorem pe_op{op:Operator}{r:R2}(ho:OpR X (binaryOp op) r)(ha:PE X a ta)(hb:PE X b tb):PE X (.BinOp a op b pos) (tOp r ta tb):=by
 intro pins s σ H Q I h
 exact wpAny_BinOp (binT ha hb I h fun v u s2 x y H2 I2 rx ry q=>ho pins s2 σ H2 x y v u Q I2 rx ry q)
theorem pe_un{op:UnaryOp}{r:V->Hp->VK->Prop}(ho:UnR X (unaryOp op) r)(ha:PE X a ta):PE X (.UnaryOp op a pos) (tUn r ta):=by
 intro pins s σ H Q I h
 exact UnaryOp_ (thn (ha pins s σ H _ I h) fun v s1 ⟨x,H1,I1,r1,q1⟩=>ho pins s1 σ H1 x v Q I1 r1 q1)
theorem opI{f:Value->Value->Sem Value}{C:Int->Int->Prop}{g:Int->Int->Int}
  (rule:∀(i j:Int) (t u:Tok) (s:Shared) (Q:Value->Shared->Prop) (E:Value->Shared->Prop),C i j->Q (.int (g i j) s.toks) { s with toks:=s.toks+1 }->wpAny (model X.prog X.w) X.A (f (.int i t) (.int j u)) Q E s) :
  OpR X f (rI C fun i j=>.int (g i j)):=by
 intro pins s σ H x y v u Q I rx ry h
 obtain⟨i,j,rfl,rfl,hc,q⟩:=h
 obtain⟨t,rfl⟩:=rx
 obtain⟨t',rfl⟩:=ry
 exact rule i j t t' s _ _ hc ⟨.int (g i j),H,I.tok _,⟨_,rfl⟩,q⟩
theorem opI0{f:Value->Value->Sem Value}{g:Int->Int->Int}
  (rule:∀(i j:Int) (t u:Tok) (s:Shared) (Q:Value->Shared->Prop) (E:Value->Shared->Prop),Q (.int (g i j) s.toks) { s with toks:=s.toks+1 }->wpAny (model X.prog X.w) X.A (f (.int i t) (.int j u)) Q E s) :
  OpR X f (rI0 fun i j=>.int (g i j)):=by
 intro pins s σ H x y v u Q I rx ry h
 obtain⟨i,j,rfl,rfl,q⟩:=h
 obtain⟨t,rfl⟩:=rx
 obtain⟨t',rfl⟩:=ry
 exact rule i j t t' s _ _ ⟨.int (g i j),H,I.tok _,⟨_,rfl⟩,q⟩
theorem opB0{f:Value->Value->Sem Value}{g:Int->Int->Bool}
  (rule:∀(i j:Int) (t u:Tok) (s:Shared) (Q:Value->Shared->Prop) (E:Value->Shared->Prop),Q (.bool (g i j)) s->wpAny (model X.prog X.w) X.A (f (.int i t) (.int j u)) Q E s) :
  OpR X f (rI0 fun i j=>.bl (g i j)):=by
 intro pins s σ H x y v u Q I rx ry h
 obtain⟨i,j,rfl,rfl,q⟩:=h
 obtain⟨t,rfl⟩:=rx
 obtain⟨t',rfl⟩:=ry
 exact rule i j t t' s _ _ ⟨.bl (g i j),H,I,rfl,q⟩
noncomputable def CDiv(i j:Int):Prop:=0 < j/\j < 1073741824
noncomputable def CPow(i j:Int):Prop:=0<=j/\j<=1000000/\i.natAbs < 2 ^ 64
noncomputable def CMul(i j:Int):Prop:=(-(2 ^ 64) < i/\i < 2 ^ 64)\/(-(2 ^ 64) < j/\j < 2 ^ 64)
theorem CMul.ok{i j:Int}(h:CMul i j):IntMulOk i j:=by
 rcases h with⟨h1,h2⟩|⟨h1,h2⟩
 ·exact .of_left (intBits_le_64 h1 h2)
 ·exact .of_right (intBits_le_64 h1 h2)
theorem op_add:OpR X (binaryOp .Add) (rI0 fun i j=>.int (i+j)):=opI0 fun _ _ _ _ _ _ _ q=>add_int q
theorem op_sub:OpR X (binaryOp .Sub) (rI0 fun i j=>.int (i - j)):=opI0 fun _ _ _ _ _ _ _ q=>sub_int q
theorem op_mul:OpR X (binaryOp .Mult) (rI CMul fun i j=>.int (i * j)):=opI fun _ _ _ _ _ _ _ hc q=>mul_int q hc.ok
theorem op_fdiv:OpR X (binaryOp .FloorDiv) (rI CDiv fun i j=>.int (i / j)):=opI fun i j _ _ _ _ _ hc q=>by
 have h1:(0:Int) < j:=hc.1
 have h2:j < 1073741824:=hc.2
 exact floordiv_int (by omega) (by rw[Int.fdiv_eq_ediv_of_nonneg i (by omega)];exact q) (.inl (PyProof.noPylong_small (by omega)))
theorem op_mod:OpR X (binaryOp .Mod) (rI (fun _ j=>0 < j) fun i j=>.int (i % j)):=opI fun i j _ _ _ _ _ hc q=>by
 have h1:(0:Int) < j:=hc
 exact mod_int' (by omega) (by rw[Int.fmod_eq_emod_of_nonneg i (by omega)];exact q)
theorem op_pow:OpR X (binaryOp .Pow) (rI CPow fun i j=>.int (i ^ j.toNat)):=opI fun _ _ _ _ _ _ _ hc q=>pow_int_small hc.1 hc.2.1 hc.2.2 q
theorem unI{f:Value->Sem Value}{g:Int->Int}
  (rule:∀(i:Int) (t:Tok) (s:Shared) (Q:Value->Shared->Prop) (E:Value->Shared->Prop),Q (.int (g i) s.toks) { s with toks:=s.toks+1 }->wpAny (model X.prog X.w) X.A (f (.int i t)) Q E s) :
  UnR X f (rU fun i=>.int (g i)):=by
 intro pins s σ H x v Q I rx h
 obtain⟨i,rfl,q⟩:=h
 obtain⟨t,rfl⟩:=rx
 exact rule i t s _ _ ⟨.int (g i),H,I.tok _,⟨_,rfl⟩,q⟩
theorem un_neg:UnR X (unaryOp .USub) (rU fun i=>.int (-i)):=unI fun _ _ _ _ _ q=>neg_int q
end
noncomputable def scal:V->V->Bool
 | .non,.non=>true | .non,.int _=>true | .int _,.non=>true | .non,.bl _=>true | .bl _,.non=>true | .non,.str _=>true | .str _,.non=>true
 | .int _,.int _=>true | .bl _,.bl _=>true | .str _,.str _=>true | .byt _,.byt _=>true
 | .int _,.str _=>true | .str _,.int _=>true | .bl _,.str _=>true | .str _,.bl _=>true
 | _,_=>false
noncomputable def rEq:R2:=fun x y H Q=>scal x y=true/\Q (.bl (decide (x=y))) H
noncomputable def rNe:R2:=fun x y H Q=>scal x y=true/\Q (.bl (!decide (x=y))) H
theorem dec_int{i j:Int}:decide (V.int i=V.int j)=(i==j):=by
 rw[Bool.eq_iff_iff]
 simp
theorem dec_bl{i j:Bool}:decide (V.bl i=V.bl j)=(i==j):=by
 rw[Bool.eq_iff_iff]
 simp
theorem dec_str{i j:Str}:decide (V.str i=V.str j)=(i==j):=by
 rw[Bool.eq_iff_iff]
 simp
theorem dec_byt{i j:Array UInt8}:decide (V.byt i=V.byt j)=(i.toList==j.toList):=by
 rw[Bool.eq_iff_iff]
 cases i
 cases j
 simp
section
variable {X:Cx}{a b c:Expr}{ta tb tc:TE}{pos:Pos}
theorem fin_bl{pins:List (Addr×Obj)}{σ:St}{H:Hp}{s:Shared}{Q:VK}{k k':Bool}(I:Inv X pins σ H s)(q:Q (.bl k) H)(e:k=k'):EP X pins σ Q (.bool k') s:=by
 subst e
 exact ⟨.bl k,H,I,rfl,q⟩
theorem op_eq:OpR X (compareOp .Eq) rEq:=by
 intro pins s σ H x y v u Q I rx ry h
 obtain⟨hs,q⟩:=h
 cases x with
 | non =>
  cases rx
  cases y with
  | non=>cases ry;exact PySem.EqNone.eq_none_none (fin_bl I q (by simp))
  | bl j=>cases ry;exact PySem.EqNone.eq_none_bool (fin_bl I q (by simp))
  | int j=>obtain⟨t',rfl⟩:=ry;exact PySem.EqNone.eq_none_int (fin_bl I q (by simp))
  | str j=>obtain⟨t',rfl⟩:=ry;exact PySem.EqNone.eq_none_str (fin_bl I q (by simp))
  | _=>exact absurd (show false=true from hs) Bool.false_ne_true
 | bl i =>
  cases rx
  cases y with
  | non=>cases ry;exact PySem.EqNone.eq_bool_none (fin_bl I q (by simp))
  | bl j=>cases ry;exact eq_bool (fin_bl I q dec_bl)
  | str j=>obtain⟨t',rfl⟩:=ry;exact PySem.EqMixed.eq_bool_str (fin_bl I q (by simp))
  | _=>exact absurd (show false=true from hs) Bool.false_ne_true
 | int i =>
  obtain⟨t,rfl⟩:=rx
  cases y with
  | non=>cases ry;exact PySem.EqNone.eq_int_none (fin_bl I q (by simp))
  | int j=>obtain⟨t',rfl⟩:=ry;exact eq_int (fin_bl I q dec_int)
  | str j=>obtain⟨t',rfl⟩:=ry;exact PySem.EqMixed.eq_int_str (fin_bl I q (by simp))
  | _=>exact absurd (show false=true from hs) Bool.false_ne_true
 | str i =>
  obtain⟨t,rfl⟩:=rx
  cases y with
  | non=>cases ry;exact PySem.EqNone.eq_str_none (fin_bl I q (by simp))
  | bl j=>cases ry;exact PySem.EqMixed.eq_str_bool (fin_bl I q (by simp))
  | int j=>obtain⟨t',rfl⟩:=ry;exact PySem.EqMixed.eq_str_int (fin_bl I q (by simp))
  | str j=>obtain⟨t',rfl⟩:=ry;exact eq_str (fin_bl I q dec_str)
  | _=>exact absurd (show false=true from hs) Bool.false_ne_true
 | byt i =>
  obtain⟨t,rfl⟩:=rx
  cases y with
  | byt j=>obtain⟨t',rfl⟩:=ry;exact PySem.W.eq_bytes (fin_bl I q dec_byt)
  | _=>exact absurd (show false=true from hs) Bool.false_ne_true
 | _=>cases y<;>exact absurd (show false=true from hs) Bool.false_ne_true
theorem op_ne:OpR X (compareOp .NotEq) rNe:=by
 intro pins s σ H x y v u Q I rx ry h
 obtain⟨hs,q⟩:=h
 cases x with
 | non =>
  cases rx
  cases y with
  | non=>cases ry;exact PySem.EqNone.ne_none_none (fin_bl I q (by simp))
  | bl j=>cases ry;exact PySem.EqNone.ne_none_bool (fin_bl I q (by simp))
  | int j=>obtain⟨t',rfl⟩:=ry;exact PySem.EqNone.ne_none_int (fin_bl I q (by simp))
  | str j=>obtain⟨t',rfl⟩:=ry;exact PySem.EqNone.ne_none_str (fin_bl I q (by simp))
  | _=>exact absurd (show false=true from hs) Bool.false_ne_true
 | bl i =>
  cases rx
  cases y with
  | non=>cases ry;exact PySem.EqNone.ne_bool_none (fin_bl I q (by simp))
  | bl j=>cases ry;exact ne_bool (fin_bl I q (congrArg not dec_bl))
  | str j=>obtain⟨t',rfl⟩:=ry;exact PySem.EqMixed.ne_bool_str (fin_bl I q (by simp))
  | _=>exact absurd (show false=true from hs) Bool.false_ne_true
 | int i =>
  obtain⟨t,rfl⟩:=rx
  cases y with
  | non=>cases ry;exact PySem.EqNone.ne_int_none (fin_bl I q (by simp))
  | int j=>obtain⟨t',rfl⟩:=ry;exact ne_int (fin_bl I q (congrArg not dec_int))
  | str j=>obtain⟨t',rfl⟩:=ry;exact PySem.EqMixed.ne_int_str (fin_bl I q (by simp))
  | _=>exact absurd (show false=true from hs) Bool.false_ne_true
 | str i =>
  obtain⟨t,rfl⟩:=rx
  cases y with
  | non=>cases ry;exact PySem.EqNone.ne_str_none (fin_bl I q (by simp))
  | bl j=>cases ry;exact PySem.EqMixed.ne_str_bool (fin_bl I q (by simp))
  | int j=>obtain⟨t',rfl⟩:=ry;exact PySem.EqMixed.ne_str_int (fin_bl I q (by simp))
  | str j=>obtain⟨t',rfl⟩:=ry;exact ne_str (fin_bl I q (congrArg not dec_str))
  | _=>exact absurd (show false=true from hs) Bool.false_ne_true
 | byt i =>
  obtain⟨t,rfl⟩:=rx
  cases y with
  | byt j=>obtain⟨t',rfl⟩:=ry;exact PySem.W.ne_bytes (fin_bl I q (congrArg not dec_byt))
  | _=>exact absurd (show false=true from hs) Bool.false_ne_true
 | _=>cases y<;>exact absurd (show false=true from hs) Bool.false_ne_true
theorem op_lt:OpR X (compareOp .Lt) (rI0 fun i j=>.bl (decide (i < j))):=opB0 fun _ _ _ _ _ _ _ q=>lt_int q
theorem op_le:OpR X (compareOp .LtE) (rI0 fun i j=>.bl (decide (i<=j))):=opB0 fun _ _ _ _ _ _ _ q=>le_int q
theorem op_gt:OpR X (compareOp .Gt) (rI0 fun i j=>.bl (decide (j < i))):=opB0 fun _ _ _ _ _ _ _ q=>gt_int q
theorem op_ge:OpR X (compareOp .GtE) (rI0 fun i j=>.bl (decide (j<=i))):=opB0 fun _ _ _ _ _ _ _ q=>ge_int q
theorem OpR.or{f:Value->Value->Sem Value}{r r':R2}(h:OpR X f r)(h':OpR X f r'):OpR X f (fun x y H Q=>r x y H Q\/r' x y H Q):=by
 intro pins s σ H x y v u Q I rx ry q
 rcases q with q|q
 ·exact h pins s σ H x y v u Q I rx ry q
 ·exact h' pins s σ H x y v u Q I rx ry q
theorem nomark(b:Expr){op:CmpOp}(h:op≠.In:=by decide)(h2:op≠.NotIn:=by decide):behindInMarks op b=false:=by
 have e1:(op==CmpOp.In)=false:=by cases op<;>first|rfl|exact absurd rfl h
 have e2:(op==CmpOp.NotIn)=false:=by cases op<;>first|rfl|exact absurd rfl h2
 cases b<;>simp[behindInMarks,e1,e2]
theorem pe_cmpR{op:CmpOp}{r:R2}(ho:OpR X (compareOp op) r)(ha:PE X a ta)(hb:PE X b tb)(hm:behindInMarks op b=false):PE X (.Compare a [op] [b] pos) (tOp r ta tb):=by
 intro pins s σ H Q I h
 exact wpAny_Compare1 (binT ha hb I h fun v u s2 x y H2 I2 rx ry q=>ho pins s2 σ H2 x y v u Q I2 rx ry q) hm
noncomputable def tTest(t:TE):TT:=fun σ H Q=>t σ H fun x H'=>∃k,x=.bl k/\Q k H'
theorem pt_cmpR{op:CmpOp}{r:R2}(ho:OpR X (compareOp op) r)(ha:PE X a ta)(hb:PE X b tb)(hm:behindInMarks op b=false):PT X (.Compare a [op] [b] pos) (tTest (tOp r ta tb)):=by
 intro pins s σ H Q I h
 refine wpAny_isTrue_Compare1 (thn (ha pins s σ H _ I h) fun v s1 ⟨x,H1,I1,r1,q1⟩=>thn (hb pins s1 σ H1 _ I1 q1) fun u s2 ⟨y,H2,I2,r2,q2⟩ =>
   thn (ho pins s2 σ H2 x y v u _ I2 r1 r2 q2) fun c s3 ⟨z,H3,I3,r3,k,e,q3⟩=>?_) hm
 subst e
 cases r3
 exact wpAny_truthy_bool ⟨H3,I3,q3⟩
noncomputable def tChain(r r':R2)(ta tb tc:TE):TE:=fun σ H Q=>ta σ H fun x H1=>tb σ H1 fun y H2=>r x y H2 fun z H3=>∃k,z=.bl k /\
 (if k=true then tc σ H3 fun w' H4=>r' y w' H4 Q else Q (.bl false) H3)
theorem pe_chain{op op':CmpOp}{r r':R2}(ho:OpR X (compareOp op) r)(ho':OpR X (compareOp op') r')(ha:PE X a ta)(hb:PE X b tb)(hc:PE X c tc)
  (hm:lastMarks [op,op'] [b,c]=false:=by with_unfolding_all rfl):PE X (.Compare a [op,op'] [b,c] pos) (tChain r r' ta tb tc):=by
 intro pins s σ H Q I h
 refine Compare_chain (thn (ha pins s σ H _ I h) fun v s1 ⟨x,H1,I1,r1,q1⟩=>chain_link (thn (hb pins s1 σ H1 _ I1 q1) fun u s2 ⟨y,H2,I2,r2,q2⟩ =>
   thn (ho pins s2 σ H2 x y v u _ I2 r1 r2 q2) fun d s3 ⟨z,H3,I3,r3,k,e,q3⟩=>?_)) hm
 subst e
 cases r3
 refine wpAny_truthy_bool ?_
 cases k with
 | false=>exact ite_ff ⟨.bl false,H3,I3,rfl,q3⟩
 | true=>exact ite_tt (chain_last (thn (hc pins s3 σ H3 _ I3 q3) fun w' s4 ⟨z',H4,I4,r4,q4⟩=>ho' pins s4 σ H4 y z' u w' Q I4 r2 r4 q4))
theorem line63:(sizeLine:Nat) < 2 ^ 63:=by rw[sizeLine_eq];decide
theorem vals1{x:V}{us:List Value}(r:Vals [x] us):∃u,us=[u]/\RelV x u:=by
 cases r with
 | cons r1 r2=>cases r2;exact ⟨_,rfl,r1⟩
theorem vals2{x y:V}{us:List Value}(r:Vals [x,y] us):∃u w',us=[u,w']/\RelV x u/\RelV y w':=by
 cases r with
 | cons r1 r2 =>
  cases r2 with
  | cons r3 r4=>cases r4;exact ⟨_,_,rfl,r1,r3⟩
theorem call_abs:CallR X (.builtin "abs") (fun xs H Q=>∃i,xs=[.int i]/\Q (.int (if i < 0 then -i else i)) H):=by
 intro pins s σ H xs us Q I r h
 obtain⟨i,rfl,q⟩:=h
 obtain⟨u,rfl,t,rfl⟩:=vals1 r
 exact call_abs_int fun u tk=>⟨.int (if i < 0 then -i else i),H,I.tok _,⟨_,rfl⟩,q⟩
theorem call_max2(hc:X.calm=true):CallR X (.builtin "max") (fun xs H Q=>∃i j,xs=[.int i,.int j]/\Q (.int (if j > i then j else i)) H):=by
 intro pins s σ H xs us Q I r h
 obtain⟨i,j,rfl,q⟩:=h
 obtain⟨u,w',rfl,⟨t,rfl⟩,⟨t',rfl⟩⟩:=vals2 r
 refine max_two_ints (I.ok.hd hc) fun h' tk k=>⟨_,H,I.kept k,?_,q⟩
 by_cases hj:j > i
 ·rw[if_pos hj,if_pos hj];exact ⟨_,rfl⟩
 ·rw[if_neg hj,if_neg hj];exact ⟨_,rfl⟩
theorem call_min2(hc:X.calm=true):CallR X (.builtin "min") (fun xs H Q=>∃i j,xs=[.int i,.int j]/\Q (.int (if j < i then j else i)) H):=by
 intro pins s σ H xs us Q I r h
 obtain⟨i,j,rfl,q⟩:=h
 obtain⟨u,w',rfl,⟨t,rfl⟩,⟨t',rfl⟩⟩:=vals2 r
 refine min_two_ints (I.ok.hd hc) fun h' tk k=>⟨_,H,I.kept k,?_,q⟩
 by_cases hj:j < i
 ·rw[if_pos hj,if_pos hj];exact ⟨_,rfl⟩
 ·rw[if_neg hj,if_neg hj];exact ⟨_,rfl⟩
theorem call_int1:CallR X (.type "int") (fun xs H Q=>(∃i,xs=[.int i]/\Q (.int i) H)\/∃k,xs=[.bl k]/\Q (.int (if k then 1 else 0)) H):=by
 intro pins s σ H xs us Q I r h
 rcases h with⟨i,rfl,q⟩|⟨k,rfl,q⟩
 ·obtain⟨u,rfl,t,rfl⟩:=vals1 r
  exact call_int_int ⟨.int i,H,I,⟨_,rfl⟩,q⟩
 ·obtain⟨u,rfl,r1⟩:=vals1 r
  cases r1
  exact call_int_bool ⟨.int (if k then 1 else 0),H,I.tok _,⟨_,rfl⟩,q⟩
end
structure ObjM(h:Heap)(x dx C:Addr)(mA:Str->Option Value):Prop where
 obj:h.get? x=some (PySem.W.instObj C dx)
 ns:h.Ns1 dx mA
 ne:dx≠x
section
variable {prog:Program}{w:World}{A:Around}{E:Value->Shared->Prop}{s:Shared}{K:PySem.W.Frag}{x dx C f:Addr}{mA:Str->Option Value}{name:Str}{v:Value}
end
theorem RelO.some_of{v:V}{o:Option Value}(r:RelO (some v) o):∃u,o=some u/\RelV v u:=by
 cases o with
 | none=>exact (show False from r).elim
 | some u=>exact ⟨u,rfl,r⟩
section
variable {P:Program}{w:World}{H H':Hp}{h h':Heap}{a C dx:Addr}{fs fs':List (Str×V)}
end
structure Cls(K:PySem.W.Frag)(C:Addr):Prop where
 pg:PySem.W.plainGet K C Str.empty=true
 hd:PySem.W.hasDictIn K C=true
 po:PySem.W.plainOver K C=true
 sa:PySem.W.findIn K (.ref C) "__setattr__"=some (some (.builtin "object.__setattr__"))
structure Con(K:PySem.W.Frag)(C:Addr)(f:Str)(v:V)(u:Value):Prop where
 at_:PySem.W.findIn K (.ref C) f=some (some u)
 rel:RelV v u
 get:PySem.W.specialIn K u "__get__"=some none
 cp:PySem.W.copiedNames.contains f=false
structure Meth(K:PySem.W.Frag)(C:Addr)(m:Str)(f:Addr):Prop where
 at_:PySem.W.findIn K (.ref C) m=some (some (.ref f))
 fn:PySem.W.isFn K (.ref f)=true
 kp:PySem.W.keepIn K (.ref f)=true
section
variable {X:Cx}{pins:List (Addr×Obj)}{σ:St}{H:Hp}{s:Shared}{a C dx:Addr}{fs:List (Str×V)}{f:Str}{v:V}{A:Around}{E:Value->Shared->Prop}
end
section
variable {X:Cx}{o e value:Expr}{f:Str}{pos pos' tpos:Pos}{ta tv:TE}
end
section
variable {X:Cx}{pins:List (Addr×Obj)}{σ:St}{H:Hp}{s:Shared}{A:Around}{E:Value->Shared->Prop}{Q:Value->Shared->Prop}{c:Value}{b:Bool}
inductive TyOf (K:PySem.W.Frag) (H:Hp):V->Value->Prop where
 | non:TyOf K H .non (.type "NoneType")
 | bl (x:Bool):TyOf K H (.bl x) (.type "bool")
 | int (i:Int):TyOf K H (.int i) (.type "int")
 | str (x:Str):TyOf K H (.str x) (.type "str")
 | flt (x:UInt64):TyOf K H (.flt x) (.type "float")
 | lst {a:Addr}{xs:List V} (e:H a=some (.lst xs)):TyOf K H (.ref a) (.type "list")
 | frz {a:Addr}{o:Obj}{xs:List V} (e:H a=some (.frz o (.lst xs))):TyOf K H (.ref a) (.type "list")
 | tup {a:Addr}{xs:List V} (e:H a=some (.tup xs)):TyOf K H (.ref a) (.type "tuple")
 | dK {a:Addr}{kvs:List (Key×V)} (e:H a=some (.dK kvs)):TyOf K H (.ref a) (.type "dict")
 | dT {a:Addr}{kvs:List (List Key×V)} (e:H a=some (.dT kvs)):TyOf K H (.ref a) (.type "dict")
 | ins {a C dx:Addr}{fs:List (Str×V)} (e:H a=some (.ins C dx fs)) (cl:Cls K C) (ha:PySem.W.findIn K (.ref C) "__class__"=some (some (.builtin "object.__class__")))
   (hn:PySem.W.specialIn K (.builtin "object.__class__") "__get__"=some (some (.builtin "getset_descriptor.__get__"))) (htk:PySem.W.takesIn K (.builtin "object.__class__")=some true)
   (hm:PySem.W.mroIn K C (.type "object")=some true):TyOf K H (.ref a) (.ref C)
end
structure Room(k:Nat)(A:Around):Prop where
 hd:A.handled=none
 dp:A.depth+3 * k+5 < recursionLimit
 un:A.units+16 * k+200 < cLine
 gd:A.guards=some []
theorem Room.mono{j k:Nat}{A:Around}(r:Room k A)(h:j<=k):Room j A:=⟨r.hd,by have:=r.dp;omega,by have:=r.un;omega,r.gd⟩
theorem Room.deeper{k:Nat}{A:Around}(r:Room (k+1) A)(env:Env):Room k (A.deeper env) :=
 ⟨r.hd,by have:=r.dp;show A.depth+1+3 * k+5 < _;omega,by have:=r.un;show A.units+3+16 * k+200 < _;omega,r.gd⟩
theorem Room.depth{k:Nat}{A:Around}(r:Room k A):A.depth < recursionLimit:=by have:=r.dp;omega
theorem Room.units{k:Nat}{A:Around}(r:Room k A):A.units+64 < cLine:=by have:=r.un;omega
noncomputable def tNil:TA:=fun _ H Q=>Q [] H
noncomputable def tCons(ta:TE)(tr:TA):TA:=fun σ H Q=>ta σ H fun x H1=>tr σ H1 fun xs H2=>Q (x :: xs) H2
section
variable {X:Cx}{e:Expr}{es:List Expr}{te:TE}{t:TA}{pos:Pos}
theorem pa_nil:PA X [] tNil:=fun _ _ _ _ H Q I h=>Calls.spliced_nil ⟨[],H,I,.nil,h⟩
theorem pa_cons(ha:PE X e te)(hr:PA X es t)(hs:starEach (e :: es) X.env=(false,eval e X.env) :: starEach es X.env:=by rfl):PA X (e :: es) (tCons te t):=by
 intro pos pins s σ H Q I h
 rw[hs]
 show wpAny _ _ (spliced ((false,eval e X.env) :: backTo pos (starEach es X.env))) _ _ s
 refine Calls.spliced_cons (thn (ha pins s σ H _ I h) fun u s1 ⟨x,H1,I1,r1,q1⟩=>?_)
 exact thn (hr pos pins s1 σ H1 _ I1 q1) fun us s2 ⟨xs,H2,I2,r2,q2⟩=>⟨x :: xs,H2,I2,.cons r1 r2,q2⟩
noncomputable def tTup(t:TA):TE:=fun σ H Q=>t σ H fun xs H1=>xs.length<=sizeLine/\∀p,H1 p=none->Q (.ref p) (upd H1 p (.tup xs))
noncomputable def tLst(t:TA):TE:=fun σ H Q=>t σ H fun xs H1=>xs.length<=sizeLine/\∀p,H1 p=none->Q (.ref p) (upd H1 p (.lst xs))
theorem pe_tup{x1}(h:PA X es t):PE X (.Tuple es x1 pos) (tTup t):=by
 intro pins s σ H Q I hq
 refine wpAny_Tuple_spliced (thn (h pos pins s σ H _ I hq) fun us s1 ⟨xs,H1,I1,r,z,q⟩=>⟨by rw[<- r.length];exact z,?_⟩)
 have hf:H1 s1.heap.objs.size=none:=I1.hok.fresh (Nat.le_refl _)
 refine ⟨.ref s1.heap.objs.size,upd H1 s1.heap.objs.size (.tup xs),I1.laid (t':=s1.toks) (fun b u e=>Heap.get?_push_of_some _ e) (Nat.le_refl _) ?_,rfl,q _ hf⟩
 exact ⟨z,us,r,⟨_,Heap.get?_push_size _ rfl,rfl,_,rfl,rfl⟩⟩
theorem pe_lst(h:PA X es t):PE X (.List es pos) (tLst t):=by
 intro pins s σ H Q I hq
 refine wpAny_List_spliced (thn (h pos pins s σ H _ I hq) fun us s1 ⟨xs,H1,I1,r,z,q⟩=>⟨by rw[<- r.length];exact z,?_⟩)
 have hf:H1 s1.heap.objs.size=none:=I1.hok.fresh (Nat.le_refl _)
 refine ⟨.ref s1.heap.objs.size,upd H1 s1.heap.objs.size (.lst xs),I1.laid (t':=s1.toks) (fun b u e=>Heap.get?_push_of_some _ e) (Nat.le_refl _) ?_,rfl,q _ hf⟩
 exact ⟨z,us,0,r,Heap.get?_push_size _ rfl⟩
end
noncomputable abbrev Sp:=List V->Hp->VK->XK->Prop
noncomputable abbrev CXT:=List Env->Hp->Shared->XK->Value->Shared->Prop
structure Env0(P:Program)(w:World)(K:PySem.W.Frag)(mg:Str->Option Value)(base:Heap)(A:Around)(outer:List Env)(s:Shared)(H:Hp):Prop where
 frames:A.frames=some outer
 mod:Mod K mg base
 bs:∀b o,base.get? b=some o->s.heap.get? b=some o/\H b=none
 bsz:base.objs.size<=s.heap.objs.size
 funs:s.heap.FunFrames base outer
 frf:∀b∈frs outer,H b=none
 hok:HOk P w H s.heap
 bare:AllBare s.gens
noncomputable def CE(outer:List Env)(P:Program)(w:World)(H:Hp)(s:Shared)(Q:VK)(u:Value)(s':Shared):Prop :=
 ∃v H',s'.os=s.os/\AllBare s'.gens/\Un (frs outer) [] H H' s.heap s'.heap/\HOk P w H' s'.heap/\RelV v u/\Q v H'
noncomputable def CR(CX:CXT)(outer:List Env)(P:Program)(w:World)(H:Hp)(s:Shared)(Q:VK)(E:XK)(r:Result)(s':Shared):Prop :=
 match r with
 | .ok (.ret u)=>CE outer P w H s Q u s'
 | .ok _=>False
 | .error e=>CX outer H s E e s'
structure FnOk(P:Program)(w:World)(K:PySem.W.Frag)(mg:Str->Option Value)(base:Heap)(CX:CXT)(k:Nat)(f:Addr)(fd:FuncData)(ps:List Str)(sp:Sp):Prop where
 len:∀vs H Q E,sp vs H Q E->vs.length=ps.length
 run:∀(A:Around) (outer:List Env) (s:Shared) (H:Hp) (args:Args) (us:List Value) (vs:List V) (Q:VK) (E:XK),Room k A->Env0 P w K mg base A outer s H->BindsTo s fd args (ps.zip us)->Vals vs us->sp vs H Q E ->
  codeAny (model P w) A (.call (.ref f) args) (CR CX outer P w H s Q E) s
section
variable {X:Cx}{pins:List (Addr×Obj)}{σ:St}{H:Hp}{s s':Shared}
theorem Inv.env0(I:Inv X pins σ H s):Env0 X.prog X.w X.K X.mg X.base X.A X.stack s H :=
 ⟨I.ok.frames,I.ok.mod,I.bs,Nat.le_trans I.ok.bsz I.sz,I.stack,I.stkFree,I.hok,I.bare⟩
theorem Inv.after{Q:VK}{u:Value}(I:Inv X pins σ H s)(h:CE X.stack X.prog X.w H s Q u s'):EP X pins σ Q u s':=by
 obtain⟨v,H',os,bare,un,hok,r,q⟩:=h
 obtain⟨hh,g,d,t,os'⟩:=s'
 obtain rfl:os'=s.os:=os
 exact ⟨v,H',I.call (h':=hh) (g':=g) (d':=d) (t':=t) (ch:=[]) un hok bare (fun b z=>absurd z (by simp)),r,q⟩
end
noncomputable def tCall(sp:Sp)(dvs:List V)(E:XK)(t:TA):TE:=fun σ H Q=>t σ H fun vs H1=>sp (vs++dvs) H1 Q E
noncomputable def Binds(K:PySem.W.Frag)(fd:FuncData)(ps:List Str)(ds:List Value):Prop :=
 ∀(s:Shared) (us:List Value),K.In s.heap->(us++ds).length=ps.length->BindsTo s fd ⟨us,[]⟩ (ps.zip (us++ds))
theorem Binds.all{K:PySem.W.Frag}{fd:FuncData}{ps:List Str}(h:∀us:List Value,us.length=ps.length->bindArgs fd ⟨us,[]⟩=pure (ps.zip us)):Binds K fd ps []:=fun s us _ hl=>by
 rw[List.append_nil]at hl ⊢
 exact .of_eq (h us hl)
noncomputable def Passes(CX:CXT)(X:Cx)(E:XK):Prop:=∀(pins:List (Addr×Obj)) (σ:St) (H:Hp) (s:Shared) (e:Value) (s':Shared),Inv X pins σ H s->CX X.stack H s E e s'->X.xe e s'
section
variable {X:Cx}{CX:CXT}{k:Nat}{f C:Addr}{fd:FuncData}{ps:List Str}{sp:Sp}{dvs:List V}{ds:List Value}{E:XK}{x m:Str}{p pos apos:Pos}{e o:Expr}{es:List Expr}{ta:TE}{t:TA}
theorem run_fn{pins:List (Addr×Obj)}{σ:St}{H:Hp}{s:Shared}{Q:VK}{us:List Value}{vs:List V}(F:FnOk X.prog X.w X.K X.mg X.base CX k f fd ps sp)(hr:Room k X.A)(hb:Binds X.K fd ps ds)(hd:Vals dvs ds)(hx:Passes CX X E)
  (I:Inv X pins σ H s) (r:Vals vs us) (h:sp (vs++dvs) H Q E):wpAny (model X.prog X.w) X.A (call (.ref f) us) (EP X pins σ Q) X.xe s:=by
 have r2:Vals (vs++dvs) (us++ds):=r.append hd
 have hl:(us++ds).length=ps.length:=by rw[<- r2.length];exact F.len _ _ _ _ h
 refine wpAny_call (codeAny_mono (F.run X.A X.stack s H ⟨us,[]⟩ (us++ds) (vs++dvs) Q E hr I.env0 (hb s us I.kIn hl) r2 h) fun r s' hq=>?_)
 cases r with
 | error e=>exact hx pins σ H s e s' I hq
 | ok fl =>
  cases fl with
  | ret u=>exact I.after hq
  | next=>exact False.elim hq
  | brk=>exact False.elim hq
  | cont=>exact False.elim hq
theorem pe_call(F:FnOk X.prog X.w X.K X.mg X.base CX k f fd ps sp)(hr:Room k X.A)(hg:Gl X x)(hm:X.mg x=some (.ref f))(hk:PySem.W.keepIn X.K (.ref f)=true)(hb:Binds X.K fd ps ds)(hd:Vals dvs ds)(hx:Passes CX X E)
  (ha:PA X (e :: es) t) (hdb:(x==("__debug__":Str))=false:=by decide) (he:starEach (e :: es) X.env=(false,eval e X.env) :: starEach es X.env:=by rfl) (hpl:(backTo pos (starEach es X.env)).any (·.1)=false:=by rfl) :
  PE X (.Call (.Name x p) (e :: es) [] pos) (tCall sp dvs E t):=by
 intro pins s σ H Q I h
 refine wpAny_Call_Name_kw (ld_glob I hg hm ?_ hdb)
 refine PySem.W.callWith_K (h₀:=X.base) I.ok.mod.kin hk (thn (ha pos pins s σ H _ I h) fun us s1 ⟨vs,H1,I1,r,q⟩=>⟨I1.kIn,?_⟩) he hpl
 exact run_fn F hr hb hd hx I1 r q
structure Mk(K:PySem.W.Frag)(C f:Addr):Prop where
 makes:PySem.W.makesIn K C=true
 init:PySem.W.findIn K (.ref C) "__init__"=some (some (.ref f))
 fn:PySem.W.isFn K (.ref f)=true
 kp:PySem.W.keepIn K (.ref C)=true
end
section
variable {X:Cx}{CX:CXT}{k:Nat}{f C:Addr}{fd:FuncData}{ps ks:List Str}{sp:Sp}{E:XK}{x m:Str}{p pos apos kpos:Pos}{e o:Expr}{es:List Expr}{kws:List Keyword}{te ta:TE}{t tk:TA}{nm:Option Str}
structure KBinds(K:PySem.W.Frag)(fd:FuncData)(ps ks:List Str)(g:List Value->List Value->List Value)(gV:List V->List V->List V):Prop where
 to:∀(s:Shared) (us ws:List Value),K.In s.heap->(g us ws).length=ps.length->BindsTo s fd ⟨us,ks.zip ws⟩ (ps.zip (g us ws))
 rel:∀{vs:List V}{us:List Value}{zs:List V}{ws:List Value},Vals vs us->Vals zs ws->Vals (gV vs zs) (g us ws)
variable {g:List Value->List Value->List Value}{gV:List V->List V->List V}
end
structure FnScope(N P:List Str)(sc:Scope):Prop where
 kind:sc.kind=.function
 co:sc.isCoroutine=false
 gen:sc.isGenerator=false
 nd:N.Nodup
 pre:N.take P.length=P
 par:∀x∈P,sc.names.lookup x=some .local\/sc.names.lookup x=some .cell
 nofree:∀y∈sc.names,y.2≠.free
theorem bindL_out{kindOf:Str->Option NameKind}{x:Str}:∀{binds:List (Str×Value)}{m:Str->Option Value},(∀v,(x,v)∉binds)->bindL kindOf binds m x=m x
 | [],_,_=>rfl
 | (n,v) :: r,m,h=>by
  unfold bindL
  rw[bindL_out fun w hw=>h w (List.mem_cons_of_mem _ hw)]
  split
  ·have:x≠n:=by rintro rfl;exact h v List.mem_cons_self
   simp[this]
  ·rfl
theorem bindC_out{kindOf:Str->Option NameKind}{x:Str}:∀{binds:List (Str×Value)}{m:Str->Option Value},(∀v,(x,v)∉binds)->bindC kindOf binds m x=m x
 | [],_,_=>rfl
 | (n,v) :: r,m,h=>by
  unfold bindC
  rw[bindC_out fun w hw=>h w (List.mem_cons_of_mem _ hw)]
  split
  ·rfl
  ·have:x≠n:=by rintro rfl;exact h v List.mem_cons_self
   simp[this]
theorem bindL_get{kindOf:Str->Option NameKind}{x:Str}{v:Value}:∀{P:List Str}{vs:List Value}{i:Nat}{m:Str->Option Value},P.Nodup->P[i]?=some x->vs[i]?=some v->kindOf x=some .local ->
  bindL kindOf (P.zip vs) m x=some v
 | [],_,_,_,_,h,_,_=>by simp at h
 | _ :: _,[],_,_,_,_,h,_=>by simp at h
 | p :: P,w :: vs,0,m,nd,h1,h2,hk=>by
  simp at h1 h2;subst h1;subst h2
  show bindL kindOf ((p,w) :: P.zip vs) m p=_
  unfold bindL
  rw[bindL_out fun v hv=>(List.nodup_cons.mp nd).1 (List.of_mem_zip hv).1,if_pos hk]
  simp
 | p :: P,w :: vs,i+1,m,nd,h1,h2,hk=>by
  show bindL kindOf ((p,w) :: P.zip vs) m x=_
  unfold bindL
  exact bindL_get (i:=i) (List.nodup_cons.mp nd).2 (by simpa using h1) (by simpa using h2) hk
theorem bindC_get{kindOf:Str->Option NameKind}{x:Str}{v:Value}:∀{P:List Str}{vs:List Value}{i:Nat}{m:Str->Option Value},P.Nodup->P[i]?=some x->vs[i]?=some v->kindOf x≠some .local ->
  bindC kindOf (P.zip vs) m x=some v
 | [],_,_,_,_,h,_,_=>by simp at h
 | _ :: _,[],_,_,_,_,h,_=>by simp at h
 | p :: P,w :: vs,0,m,nd,h1,h2,hk=>by
  simp at h1 h2;subst h1;subst h2
  show bindC kindOf ((p,w) :: P.zip vs) m p=_
  unfold bindC
  rw[bindC_out fun v hv=>(List.nodup_cons.mp nd).1 (List.of_mem_zip hv).1,if_neg hk]
  simp
 | p :: P,w :: vs,i+1,m,nd,h1,h2,hk=>by
  show bindC kindOf ((p,w) :: P.zip vs) m x=_
  unfold bindC
  exact bindC_get (i:=i) (List.nodup_cons.mp nd).2 (by simpa using h1) (by simpa using h2) hk
noncomputable def start(N:List Str)(vs:List V):St:=vs.map some++List.replicate (N.length - vs.length) none
noncomputable def cxOf(CX:CXT)(P:Program)(w:World)(K:PySem.W.Frag)(mg:Str->Option Value)(base:Heap)(N:List Str)(qual:Str)(scope:Scope)(f:Addr)(cd:Value)(A:Around)(outer:List Env)(s:Shared)(H:Hp)(E:XK):Cx where
 prog:=P
 w:=w
 K:=K
 mg:=mg
 base:=base
 A:=A.deeper (envOfC qual scope s.heap.objs.size f cd)
 N:=N
 s₀:=s
 H₀:=H
 env:=envOfC qual scope s.heap.objs.size f cd
 outer:=outer
 stack:=envOfC qual scope s.heap.objs.size f cd :: outer
 ex:=[]
 calm:=true
 fn:=fun _=>true
 pn:=[]
 xe:=fun e s'=>wpAny (model P w) (A.deeper (envOfC qual scope s.heap.objs.size f cd)) (leaving (envOfC qual scope s.heap.objs.size f cd) e) (fun _ s''=>CX outer H s E e s'') (fun e' s''=>CX outer H s E e' s'') s'
theorem cell_has{sc:Scope}{n:Nat}{x:Str}(h:sc.names.lookup x=some .cell):∃c,(cellsFrom n sc.names []).lookup x=some c:=by
 have q:=PySem.W.cellsFrom_some sc.names n [] (.inl h)
 exact Option.isSome_iff_exists.mp q
theorem inv_start{CX:CXT}{P:Program}{w:World}{K:PySem.W.Frag}{mg:Str->Option Value}{base:Heap}{N ps:List Str}{qual:Str}{scope:Scope}{f:Addr}{cd:Value}{A:Around}{outer:List Env}{s s1:Shared}{H:Hp}{E:XK}{us:List Value}{vs:List V}
  (S:FnScope N ps scope) (hd:A.handled=none) (e0:Env0 P w K mg base A outer s H) (hl:vs.length=ps.length) (r:Vals vs us)
  (x:InCallC s s.heap.objs.size (bindL (envOfC qual scope s.heap.objs.size f cd).kindOf (ps.zip us) fun _=>none) (cellsFrom (s.heap.objs.size+1) scope.names []) (bindC (envOfC qual scope s.heap.objs.size f cd).kindOf (ps.zip us) fun _=>none) s1) :
  Inv (cxOf CX P w K mg base N qual scope f cd A outer s H E) [] (start N vs) H s1:=by
 have hpl:ps.length<=N.length:=by have:=congrArg List.length S.pre;rw[List.length_take]at this;omega
 obtain⟨h1,tk,rfl,hk⟩:=x.done
 have noA:∀b:Addr,b∉(cxOf CX P w K mg base N qual scope f cd A outer s H E).ex:=fun b z=>absurd (show b∈([]:List Addr) from z) (by simp)
 refine ⟨⟨e0.mod,S.kind,rfl,rfl,Nat.le_refl _,fun y z c h1 h2=>?_,fun y hy=>?_,fun y c _ h=>?_,fun _=>hd,Around.frames_deeper e0.frames,.inr ⟨rfl,rfl⟩,fun b z=>absurd z (noA b),e0.bs,e0.bsz,fun b _ _=>noA b,fun b z=>absurd z (noA b),e0.funs,e0.frf⟩,
   rfl,e0.bare,Un.kept hk,⟨_,x.toInCall.ns,fun i y v h1 h2 h3=>?_⟩,fun y c h=>⟨_,x.cell y c h⟩,e0.hok.fresh (Nat.le_refl _),fun y c h=>?_,fun p hp=>absurd (show p∈([]:List (Addr×Obj)) from hp) (by simp),e0.hok.kept hk,?_⟩
 ·exact name_of_addr x.apart (PySem.mem_of_lookup h1) (PySem.mem_of_lookup h2)
 ·have hy:scope.names.lookup y=some .cell\/scope.names.lookup y=some .free:=hy
  rcases hy with hy|hy
  ·exact cell_has hy
  ·exact absurd rfl (S.nofree _ (PySem.mem_of_lookup hy))
 ·exact Nat.le_of_lt (x.above y c (PySem.mem_of_lookup h))
 ·have hi:i < vs.length:=by
   unfold start at h2
   by_cases hi:i < vs.length
   ·exact hi
   ·rw[List.getElem?_append_right (by simpa using hi)]at h2
    rw[List.getElem?_replicate]at h2
    split at h2<;>cases h2
  have ha:vs[i]?=some v:=by
   unfold start at h2
   rw[List.getElem?_append_left (by simpa using hi),List.getElem?_map]at h2
   cases e:vs[i]? with
   | none=>rw[e]at h2;cases h2
   | some a=>rw[e]at h2;cases h2;rfl
  obtain⟨u,hu,rv⟩:=r.get ha
  have hp:ps[i]?=some y:=by
   rw[<- S.pre,List.getElem?_take_of_lt (by omega)];exact h1
  have ndP:ps.Nodup:=by rw[<- S.pre];exact S.nd.sublist (List.take_sublist _ _)
  refine ⟨u,rv,?_⟩
  rcases S.par y (List.mem_of_getElem? hp) with k|k
  ·exact .inl ⟨k,bindL_get ndP hp hu k⟩
  ·obtain⟨c,e⟩:=cell_has (n:=s.heap.objs.size+1) k
   refine .inr ⟨.inl k,c,e,?_⟩
   have q:=x.cell y c e
   rw[bindC_get ndP hp hu (by show scope.names.lookup y≠_;rw[k];decide)]at q
   exact q
 ·exact e0.hok.fresh (Nat.le_of_lt (x.above y c (PySem.mem_of_lookup h)))
 ·unfold start
  show _=N.length
  rw[List.length_append,List.length_map,List.length_replicate]
  omega
theorem fn_of{CX:CXT}{P:Program}{w:World}{K:PySem.W.Frag}{mg:Str->Option Value}{base:Heap}{k:Nat}{f:Addr}{name qual:Str}{params:Arguments}{body:List Stmt}{scope:Scope}{dV kV doc pm cdv ct oc:Value}{an od:Option Addr}
  {osl:Array (Option Value)}{N ps:List Str}{sp:Sp} (lk:K.lookup f=some ⟨oc,od,.func (PySem.W.fnOf name qual params body scope dV kV doc pm an cdv ct),osl⟩) (hcd:PySem.W.codeIn K cdv qual=true) (S:FnScope N ps scope)
  (len:∀vs H Q E,sp vs H Q E->vs.length=ps.length)
  (hbody:∀(A:Around) (outer:List Env) (s:Shared) (H:Hp) (vs:List V) (Q:VK) (E:XK),Room k (A.deeper (envOfC qual scope s.heap.objs.size f cdv))->sp vs H Q E ->
    ∃t,PSs (cxOf CX P w K mg base N qual scope f cdv A outer s H E) body t/\t { nx:=fun _ H'=>Q .non H',rt:=Q } (start N vs) H) :
  FnOk P w K mg base CX (k+1) f (PySem.W.fnOf name qual params body scope dV kV doc pm an cdv ct) ps sp:=by
 refine ⟨len,fun A outer s H args us vs Q E hr e0 hb r hsp=>?_⟩
 have hl:=len _ _ _ _ hsp
 have KX:K.In s.heap:=e0.mod.kin.keeps fun b o e=>(e0.bs b o e).1
 have lim:s.heap.NoLimit:=e0.mod.nolimit.keeps fun b o e=>(e0.bs b o e).1
 have hkind:∀y∈ps.zip us,scope.names.lookup y.1=some .local\/(scope.names.lookup y.1=some .cell/\((cellsFrom (s.heap.objs.size+1) scope.names []).lookup y.1).isSome=true):=fun ⟨n,v⟩ hy=>by
  rcases S.par n (List.of_mem_zip hy).1 with q|q
  ·exact .inl q
  ·exact .inr ⟨q,PySem.W.cellsFrom_some _ _ _ (.inl q)⟩
 refine codeAny_call_function hr.depth (KX _ _ lk) rfl S.co S.gen rfl (PySem.W.codeRec_of KX hcd) (hb _ _ _ _ ?_)
 refine wpAny_newFunctionEnv_cells S.kind hkind fun env he s1 x=>?_
 subst he
 refine ⟨lim.keeps x.toInCall.keep,codeAny_func ?_⟩
 obtain⟨t,ht,hq⟩:=hbody A outer s H vs Q E (hr.deeper _) hsp
 have I:Inv (cxOf CX P w K mg base N qual scope f cdv A outer s H E) [] (start N vs) H s1:=inv_start S hr.hd e0 hl r x
 refine wpAny_mono (ht [] s1 (start N vs) H _ I hq) (fun fl s' hs=>?_) fun e s' hs=>hs
 have fin:∀{σ':St}{H':Hp}{v:V}{u:Value},Inv (cxOf CX P w K mg base N qual scope f cdv A outer s H E) [] σ' H' s'->RelV v u->Q v H'->CE outer P w H s Q u s' :=
  fun {σ' H' v u} J rv q=>⟨v,H',J.os,J.bare,J.base,J.hok,rv,q⟩
 cases fl with
 | ret u =>
  obtain⟨v,σ',H',J,rv,q⟩:=hs
  exact fin J rv q
 | next =>
  obtain⟨σ',H',J,q⟩:=hs
  exact fin (v:=V.non) (u:=Value.none) J rfl q
 | brk =>
  obtain⟨_,_,_,q⟩:=hs
  exact False.elim q
 | cont =>
  obtain⟨_,_,_,q⟩:=hs
  exact False.elim q
section
variable {X:Cx}{x:Str}{p pos:Pos}{e:Expr}{es:List Expr}{t:TA}{id T:String}{r:List V->Hp->VK->Prop}
noncomputable def tCB(r:List V->Hp->VK->Prop)(t:TA):TE:=fun σ H Q=>t σ H fun vs H1=>r vs H1 Q
theorem pe_callB(hc:CallR X (.builtin id) r)(hg:Gl X x)(hm:X.mg x=none)(hv:bootBuiltins x=some (.builtin id))(ha:PA X (e :: es) t)(hn:x ≠ "__name__":=by decide)(hdb:(x==("__debug__":Str))=false:=by decide)
  (he:starEach (e :: es) X.env=(false,eval e X.env) :: starEach es X.env:=by rfl) (hpl:(backTo pos (starEach es X.env)).any (·.1)=false:=by rfl):PE X (.Call (.Name x p) (e :: es) [] pos) (tCB r t):=by
 intro pins s σ H Q I h
 refine wpAny_Call_Name_kw (ld_blt I hg hm hv ?_ hn hdb)
 exact PyProof.Rows.callWith_builtin1 (thn (ha pos pins s σ H _ I h) fun us s1 ⟨vs,H1,I1,r1,q1⟩=>hc pins s1 σ H1 vs us Q I1 r1 q1) he hpl
theorem pe_callTy(hc:CallR X (.type T) r)(hg:Gl X x)(hm:X.mg x=none)(hv:bootBuiltins x=some (.type T))(ha:PA X (e :: es) t)(hn:x ≠ "__name__":=by decide)(hdb:(x==("__debug__":Str))=false:=by decide)
  (he:starEach (e :: es) X.env=(false,eval e X.env) :: starEach es X.env:=by rfl) (hpl:(backTo pos (starEach es X.env)).any (·.1)=false:=by rfl):PE X (.Call (.Name x p) (e :: es) [] pos) (tCB r t):=by
 intro pins s σ H Q I h
 refine wpAny_Call_Name_kw (ld_blt I hg hm hv ?_ hn hdb)
 exact PyProof.Rows.callWith_type1 (thn (ha pos pins s σ H _ I h) fun us s1 ⟨vs,H1,I1,r1,q1⟩=>hc pins s1 σ H1 vs us Q I1 r1 q1) he hpl
end
end L2
namespace HT
open PySem PyProof.Rows
noncomputable def lexLt:List Int->List Int->Bool
 | [],[]=>false
 | [],_ :: _=>true
 | _ :: _,[]=>false
 | x :: xs,y :: ys=>if x=y then lexLt xs ys else decide (x < y)
theorem lexLt_cons(x y:Int)(xs ys:List Int):lexLt (x :: xs) (y :: ys)=if x=y then lexLt xs ys else decide (x < y):=rfl
section
open PySem.SeqAt
open PySem.AutoSeq1 (wpAny_loadPart')
open PySem.MeetsSeq PySem.MeetsSeq2 PySem.MeetsSeq3
end
section
variable {prog:Program}{w:World}{A:Around}{E:Value->Shared->Prop}{s:Shared}
theorem cat_tup{t b:Addr}{vs ws:List Value}{Q:Value->Shared->Prop}(ht:IsTup s.heap t vs.toArray)(hb:IsTup s.heap b ws.toArray)(hv:vs≠[])
  (h1:ws=[]->Q (.ref t) s) (h2:ws≠[]->Q (.ref s.heap.objs.size) { s with heap:=s.heap.push { cls:=.type "tuple",data:=.seq (vs++ws).toArray } })
  (hsz:vs.length+ws.length<=sizeLine):wpAny (model prog w) A (binaryOp .Add (.ref t) (.ref b)) Q E s:=by
 obtain⟨⟨cls,dd,data,sl⟩,ho,hc,n,hd⟩:=id ht
 obtain⟨⟨cls2,dd2,data2,sl2⟩,ho2,hc2,n2,hd2⟩:=id hb
 simp only at hc hd hc2 hd2
 subst hc hd hc2 hd2
 have e:vs.toArray++ws.toArray=(vs++ws).toArray:=by simp
 by_cases hw:ws=[]
 ·exact concat_meets ⟨_,ho,rfl⟩ ⟨_,ho2,rfl⟩ noFill_tuple_add seq_tuple_add PySem.F.slot_tuple_add PySem.F.entry_tuple_add (PySem.F.args_tuple_add_2 _ _)
   (tuple_addW1 t b vs.toArray ws.toArray n n2 dd dd2 sl sl2 (by simpa using hv) (by simp[hw])) ⟨ho,ho2,h1 hw⟩
 ·refine concat_meets ⟨_,ho,rfl⟩ ⟨_,ho2,rfl⟩ noFill_tuple_add seq_tuple_add PySem.F.slot_tuple_add PySem.F.entry_tuple_add (PySem.F.args_tuple_add_2 _ _)
   (tuple_addW2 t b vs.toArray ws.toArray n n2 dd dd2 sl sl2 (by simpa using hv) (by simpa using hw) (by rw[List.size_toArray,List.size_toArray];exact hsz)) ⟨ho,ho2,?_⟩
  rw[e]
  exact h2 hw
end
end HT
namespace L2
open PySem PySem.Spec PyProof.Rows
noncomputable abbrev TO:=St->Hp->(Option Int->Hp->Prop)->Prop
theorem intsAre_of{ns:List Int}:∀{us:List Value},Vals (ns.map V.int) us->IntsAre us ns:=by
 induction ns with
 | nil=>intro us r;rw[List.map_nil]at r;cases r;exact .nil
 | cons n ns ih =>
  intro us r
  rw[List.map_cons]at r
  cases r with
  | cons r1 r2 =>
   obtain⟨t,e⟩:=r1
   subst e
   exact .cons n t (ih r2)
section
variable {X:Cx}{e:Expr}{te:TE}{lo hi:Option Expr}{tl th:TO}{pos p2:Pos}
noncomputable def rCatT(K:PySem.W.Frag):R2:=fun x y H Q=>∃a b xs ys,x=.ref a/\y=.ref b/\SqT K H a xs/\SqT K H b ys/\xs≠[]/\xs.length+ys.length<=sizeLine /\
 (ys=[]->Q (.ref a) H)/\(ys≠[]->∀p,H p=none->Q (.ref p) (upd H p (.tup (xs++ys))))
theorem Vals.nil_iff{xs:List V}{us:List Value}(r:Vals xs us):us=[] ↔ xs=[]:=by
 cases r with
 | nil=>simp
 | cons _ _=>simp
theorem op_catT:OpR X (binaryOp .Add) (rCatT X.K):=by
 intro pins s σ H x y v u Q I rx ry h
 obtain⟨a,b,xs,ys,rfl,rfl,ha,hb,hx,hz,q1,q2⟩:=h
 cases rx
 cases ry
 obtain⟨its,r1,p1,_⟩:=I.tuple ha
 obtain⟨its2,r2,p2,_⟩:=I.tuple hb
 refine HT.cat_tup p1 p2 (fun z=>hx (r1.nil_iff.mp z)) (fun z=>⟨.ref a,H,I,rfl,q1 (r2.nil_iff.mp z)⟩) (fun z=>?_) (by rw[<- r1.length,<- r2.length];exact hz)
 refine ⟨.ref s.heap.objs.size,_,I.laid (t':=s.toks) (o:=.tup (xs++ys)) (fun b ob q=>Heap.get?_push_of_some _ q) (Nat.le_refl _) ?_,rfl,q2 (fun w=>z (r2.nil_iff.mpr w)) _ (I.hok.fresh (Nat.le_refl _))⟩
 exact ⟨by rw[List.length_append];exact hz,_,r1.append r2,IsTupD.new _ _⟩
end
noncomputable def ixN(n:Nat)(i:Int):Option Nat:=if 0<=i then (if i < n then some i.toNat else none) else if -(n:Int)<=i then some (i+n).toNat else none
noncomputable def atI{α:Type}(xs:List α)(i:Int):Option α:=(ixN xs.length i).bind fun j=>xs[j]?
theorem ixN_seq{n:Nat}{i:Int}{j:Nat}(h:ixN n i=some j):seqIndex? i n=some j/\j < n/\-(n:Int)<=i/\i < n:=by
 unfold ixN at h
 by_cases h0:0<=i
 ·rw[if_pos h0]at h
  by_cases h1:i < n
  ·rw[if_pos h1]at h
   have e:i.toNat=j:=Option.some.inj h
   exact ⟨by rw[seqIndex_of h0 h1,e],by omega,by omega,h1⟩
  ·rw[if_neg h1]at h;cases h
 ·rw[if_neg h0]at h
  by_cases h1:-(n:Int)<=i
  ·rw[if_pos h1]at h
   have e:(i+n).toNat=j:=Option.some.inj h
   exact ⟨by rw[seqIndex_neg (by omega) h1,e],by omega,h1,by omega⟩
  ·rw[if_neg h1]at h;cases h
theorem atI_get{α:Type}{xs:List α}{i:Int}{v:α}(h:atI xs i=some v):∃j,seqIndex? i xs.length=some j/\xs[j]?=some v/\j < xs.length/\-(xs.length:Int)<=i/\i < xs.length:=by
 unfold atI at h
 cases e:ixN xs.length i with
 | none=>rw[e]at h;cases h
 | some j =>
  rw[e]at h
  obtain⟨h1,h2,h3,h4⟩:=ixN_seq e
  exact ⟨j,h1,h,h2,h3,h4⟩
theorem atI_nat{α:Type}{xs:List α}{j:Nat}{v:α}(h:xs[j]?=some v):atI xs (j:Int)=some v:=by
 have hj:j < xs.length:=(List.getElem?_eq_some_iff.mp h).1
 have e:ixN xs.length (j:Int)=some j:=by
  unfold ixN
  rw[if_pos (by omega),if_pos (by omega)];simp
 unfold atI;rw[e];exact h
noncomputable def PlainIx(b:Expr):Prop:=∀o i,subscripted b false o i=operate [o,i] (getItem o i)
noncomputable def IxR(X:Cx)(r:R2):Prop :=
 ∀(value slice:Expr) (pins:List (Addr×Obj)) (s:Shared) (σ:St) (H:Hp) (x y:V) (v u:Value) (Q:VK),Inv X pins σ H s->RelV x v->RelV y u->r x y H Q ->
  subscripted slice false v u=operate [v,u] (getItem v u)->wpAny (model X.prog X.w) X.A (subscriptTail value slice v u) (EP X pins σ Q) X.xe s
noncomputable def MtR(X:Cx)(id:String)(r:V->List V->Hp->VK->Prop):Prop :=
 ∀(pins:List (Addr×Obj)) (s:Shared) (σ:St) (H:Hp) (x:V) (xs:List V) (v:Value) (us:List Value) (Q:VK),Inv X pins σ H s->RelV x v->Vals xs us->r x xs H Q ->
  wpAny (model X.prog X.w) X.A (call (.builtin id) (v :: us)) (EP X pins σ Q) X.xe s
section
variable {X:Cx}{a b:Expr}{ta tb:TE}{pos:Pos}
theorem IxR.or{r r':R2}(h:IxR X r)(h':IxR X r'):IxR X (fun x y H Q=>r x y H Q\/r' x y H Q):=by
 intro value slice pins s σ H x y v u Q I rx ry q hs
 rcases q with q|q
 ·exact h value slice pins s σ H x y v u Q I rx ry q hs
 ·exact h' value slice pins s σ H x y v u Q I rx ry q hs
theorem pe_ix{r:R2}(hr:IxR X r)(ha:PE X a ta)(hb:PE X b tb)(hs:PlainIx b):PE X (.Subscript a b pos) (tOp r ta tb):=by
 intro pins s σ H Q I h
 exact Subscript_ (binT ha hb I h fun v u s2 x y H2 I2 rx ry q=>hr a b pins s2 σ H2 x y v u Q I2 rx ry q (hs _ _))
noncomputable def rIxL(K:PySem.W.Frag):R2:=fun x y H Q=>∃p xs i v,x=.ref p/\y=.int i/\SqL K H p xs/\atI xs i=some v/\Q v H
noncomputable def rIxT(K:PySem.W.Frag):R2:=fun x y H Q=>∃p xs i v,x=.ref p/\y=.int i/\SqT K H p xs/\atI xs i=some v/\Q v H
theorem ix_list:IxR X (rIxL X.K):=by
 intro value slice pins s σ H x y v u Q I rx ry h hs
 obtain⟨p,xs,i,z,rfl,rfl,hq,he,q⟩:=h
 cases rx
 obtain⟨t,rfl⟩:=ry
 obtain⟨its,r,pl,hz⟩:=I.list hq
 obtain⟨j,h1,h2,h3,h4,h5⟩:=atI_get he
 obtain⟨w,ew,rw'⟩:=r.get h2
 have hl:=r.length
 have hn:=line63
 have fin:EP X pins σ Q w s:=⟨z,H,I,rw',q⟩
 by_cases h0:0<=i
 ·have hj:i.toNat=j:=by
   rw[seqIndex_of h0 h5]at h1
   exact Option.some.inj h1
  exact item_listR pl.isList h0 (by omega) (by rw[hj];simpa using ew) fin hs
 ·have hj:(i+(its.toArray.size:Int)).toNat=j:=by
   rw[seqIndex_neg (by omega) h4]at h1
   rw[List.size_toArray,<- hl]
   exact Option.some.inj h1
  exact subscriptTail_builtinR (x:=w) pl.isList.typeIs slot_list_getitem.lookup
   (wpAny_getItem_list_neg (Q:=fun r s'=>r=w/\EP X pins σ Q r s') pl.isList (by omega) (by rw[List.size_toArray]<;>omega) (by omega) (by rw[hj];simpa using ew) ⟨rfl,fin⟩) hs
theorem ix_tup:IxR X (rIxT X.K):=by
 intro value slice pins s σ H x y v u Q I rx ry h hs
 obtain⟨p,xs,i,z,rfl,rfl,hq,he,q⟩:=h
 cases rx
 obtain⟨t,rfl⟩:=ry
 obtain⟨its,r,pl,hz⟩:=I.tuple hq
 obtain⟨j,h1,h2,h3,h4,h5⟩:=atI_get he
 obtain⟨w,ew,rw'⟩:=r.get h2
 have hl:=r.length
 have hn:=line63
 have fin:EP X pins σ Q w s:=⟨z,H,I,rw',q⟩
 exact subscriptTail_builtinR (x:=w) pl.typeIs slot_tuple_getitem.lookup
  (getItem_tuple (j:=j) (Q:=fun r s'=>r=w/\EP X pins σ Q r s') pl (by omega) (by omega) (by rw[List.size_toArray,<- hl];exact h1) (by simpa using ew) ⟨rfl,fin⟩) hs
theorem call_len_seq:CallR X (.builtin "len") (fun xs H Q=>∃p ys,xs=[.ref p]/\(SqL X.K H p ys\/SqT X.K H p ys)/\Q (.int ys.length) H):=by
 intro pins s σ H xs us Q I r h
 obtain⟨p,ys,rfl,hq,q⟩:=h
 obtain⟨u,rfl,rx⟩:=vals1 r
 cases rx
 have hn:=line63
 rcases hq with hq|hq
 ·obtain⟨its,r',pl,hz⟩:=I.list hq
  have hlen:=r'.length
  exact Calls.call_len_list pl.isList (by simp only[List.size_toArray]<;>omega) ⟨.int ys.length,H,I.tok _,⟨s.toks+1,by rw[List.size_toArray,hlen]⟩,q⟩
 ·obtain⟨its,r',pl,hz⟩:=I.tuple hq
  have hlen:=r'.length
  exact len_tuple pl (by simp only[List.size_toArray]<;>omega) ⟨.int ys.length,H,I.tok _,⟨s.toks+1,by rw[List.size_toArray,hlen]⟩,q⟩
theorem call_tuple_of:CallR X (.type "tuple") (fun xs H Q=>∃p ys,xs=[.ref p]/\((SqL X.K H p ys/\∀l,H l=none->Q (.ref l) (upd H l (.tup ys)))\/(SqT X.K H p ys/\Q (.ref p) H))):=by
 intro pins s σ H xs us Q I r h
 obtain⟨p,ys,rfl,h⟩:=h
 obtain⟨u,rfl,rx⟩:=vals1 r
 cases rx
 rcases h with⟨hq,q⟩|⟨hq,q⟩
 ·obtain⟨its,r',pl,hz⟩:=I.list hq
  have hlen:=r'.length
  refine call_tuple_list pl.isList (fun h' kp=>?_) (by simp only[List.size_toArray]<;>omega)
  have I1:Inv X pins σ H { s with heap:=h' }:=I.kept (t':=s.toks) kp
  have I2:Inv X pins σ (upd H h'.objs.size (.tup ys)) { s with heap:=h'.push { cls:=.type "tuple",data:=.seq its.toArray } } :=
   I1.laid (t':=s.toks) (fun b o e=>Heap.get?_push_of_some _ e) (Nat.le_refl _) (show ObjOk X.prog X.w _ _ _ (.tup ys) from ⟨hz,its,r',IsTupD.new _ _⟩)
  exact ⟨.ref h'.objs.size,_,I2,rfl,q _ (I1.hok.fresh (Nat.le_refl _))⟩
 ·obtain⟨its,r',pl,hz⟩:=I.tuple hq
  exact call_tuple_same pl ⟨.ref p,H,I,rfl,q⟩
noncomputable def tyV(K:PySem.W.Frag)(T:String)(x:V)(H:Hp):Prop:=match x with
 | .str _=>T = "str"
 | .int _=>T = "int"
 | .ref p=>(T = "list"/\∃xs,SqL K H p xs)\/(T = "tuple"/\∃o,K.lookup p=some o/\o.cls=.type "tuple"/\o.dict=none) \/
   (T = "dict"/\((∃kvs,H p=some (.dK kvs))\/∃kvs,H p=some (.dT kvs)))\/(T = "set"/\∃S n,H p=some (.set S n))
 | _=>False
theorem tyV_is{pins:List (Addr×Obj)}{σ:St}{H:Hp}{s:Shared}{T:String}{x:V}{v:Value}(I:Inv X pins σ H s)(r:RelV x v)(ty:tyV X.K T x H) :
  s.TypeIs v T/\∀a,v=.ref a->∃ob,s.heap.get? a=some ob/\ob.dict=none:=by
 cases x with
 | str z =>
  obtain⟨t,rfl⟩:=r
  cases (show T = "str" from ty)
  exact ⟨typeIs_str s z t,fun _ e=>nomatch e⟩
 | int i =>
  obtain⟨t,rfl⟩:=r
  cases (show T = "int" from ty)
  exact ⟨typeIs_int s i t,fun _ e=>nomatch e⟩
 | ref p =>
  cases r
  rcases ty with⟨rfl,xs,hq⟩|⟨rfl,o,hk,hc,hd⟩|⟨rfl,hk⟩|⟨rfl,S,n,hk⟩
  ·obtain⟨its,_,pl,_⟩:=I.list hq
   refine ⟨pl.isList.typeIs,fun a e=>?_⟩
   cases e
   obtain⟨o,n,e,c,hd,_⟩:=pl
   exact ⟨o,e,hd⟩
  ·refine ⟨⟨o,I.kIn p o hk,hc⟩,fun a e=>?_⟩
   cases e
   exact ⟨o,I.kIn _ o hk,hd⟩
  ·have z:∃o,s.heap.get? p=some o/\o.ExactDict:=by
    rcases hk with⟨kvs,hk⟩|⟨kvs,hk⟩
    ·obtain⟨_,_,_,_,o,_,_,e,ex,_⟩:=I.hok p _ hk
     exact ⟨o,e,ex⟩
    ·obtain⟨_,_,_,_,o,_,_,e,ex,_⟩:=I.hok p _ hk
     exact ⟨o,e,ex⟩
   obtain⟨o,e,ex⟩:=z
   refine ⟨⟨o,e,ex.1⟩,fun a e2=>?_⟩
   cases e2
   exact ⟨o,e,ex.2.1⟩
  ·obtain⟨o,_,_,_,e,ex,_⟩:=I.hok p _ hk
   refine ⟨⟨o,e,ex.1⟩,fun a e2=>?_⟩
   cases e2
   exact ⟨o,e,ex.2.1⟩
 | _=>exact False.elim ty
noncomputable def tBM0(K:PySem.W.Frag)(T:String)(r:V->List V->Hp->VK->Prop)(to:TE):TE:=fun σ H Q=>to σ H fun x H1=>tyV K T x H1/\r x [] H1 Q
noncomputable def tBM(K:PySem.W.Frag)(T:String)(r:V->List V->Hp->VK->Prop)(to:TE)(t:TA):TE:=fun σ H Q=>to σ H fun x H1=>tyV K T x H1/\t σ H1 fun xs H2=>r x xs H2 Q
variable {o e:Expr}{es:List Expr}{to:TE}{t:TA}{name:Str}{apos cpos:Pos}{T id:String}{r:V->List V->Hp->VK->Prop}
theorem pe_bm0(pa:PlainAttrs T)(slot:Slot T name id)(hty:typeOf (.builtin id)=pure (.type "method_descriptor"))(hm:MtR X id r)(ho:PE X o to)
  (hbase:attributeBase o name X.env (eval o X.env)=eval o X.env:=by rfl) (hline:(apos.endLine==cpos.line)=true:=by rfl):PE X (.Call (.Attribute o name apos) [] [] cpos) (tBM0 X.K T r to):=by
 intro pins s σ H Q I h
 refine wpAny_Call_method0_late hbase hline (thn (ho pins s σ H _ I h) fun v s1 ⟨x,H1,I1,r1,ty,q1⟩=>?_)
 obtain⟨h1,h2⟩:=tyV_is I1 r1 ty
 exact ⟨T,id,pa,slot,hty,h1,h2,Calls.callWith_builtin rfl (PySem.evalArgs_none (hm pins s1 σ H1 x [] v [] Q I1 r1 .nil q1))⟩
theorem pe_bm(pa:PlainAttrs T)(slot:Slot T name id)(hty:typeOf (.builtin id)=pure (.type "method_descriptor"))(hm:MtR X id r)(ho:PE X o to)(ha:PA X (e :: es) t)
  (hbase:attributeBase o name X.env (eval o X.env)=eval o X.env:=by rfl)
  (hfew:((backTo cpos (starEach (e :: es) X.env)).all (fun x=>!x.1)&&(backToKw cpos (keywordEach [] X.env)).all (fun x=>x.1.isSome)
    && decide ((e :: es).length+([]:List Keyword).length+(if ([]:List Keyword).isEmpty then 0 else 1) < 30))=true:=by rfl)
  (hline:(apos.endLine==cpos.line)=true:=by rfl) (hs:starEach (e :: es) X.env=(false,eval e X.env) :: starEach es X.env:=by rfl) (hplain:(backTo cpos (starEach es X.env)).any (·.1)=false:=by rfl) :
  PE X (.Call (.Attribute o name apos) (e :: es) [] cpos) (tBM X.K T r to t):=by
 intro pins s σ H Q I h
 refine wpAny_Call_method_late hbase hfew hline rfl (thn (ho pins s σ H _ I h) fun v s1 ⟨x,H1,I1,r1,ty,q1⟩=>?_)
 obtain⟨h1,h2⟩:=tyV_is I1 r1 ty
 refine ⟨T,id,pa,slot,hty,h1,h2,?_⟩
 have hA:=ha cpos pins s1 σ H1 _ I1 q1
 rw[hs]at hA ⊢
 refine Calls.callWith_builtin (by show (false||(backTo cpos (starEach es X.env)).any (·.1))=false;rw[hplain]<;>rfl) (Calls.evalArgs_plain ?_)
 exact thn hA fun us s2 ⟨vs,H2,I2,r2,q2⟩=>hm pins s2 σ H2 x vs v us Q I2 r1 r2 q2
end
noncomputable def MtM(X:Cx)(id:String)(r:V->List V->Hp->VK->Prop):Prop :=
 ∀(pins:List (Addr×Obj)) (s:Shared) (σ:St) (H:Hp) (x:V) (xs:List V) (v:Value) (us:List Value) (Q:VK),Inv X pins σ H s->RelV x v->Vals xs us->r x xs H Q ->
  wpAny (model X.prog X.w) X.A (call (.builtin id) (v :: us)) (EP X pins σ Q) X.xe s
theorem Vals.one:∀{x:V}{us:List Value},Vals [x] us->∃u,us=[u]/\RelV x u
 | _,_,.cons r .nil=>⟨_,rfl,r⟩
theorem Vals.zero:∀{us:List Value},Vals [] us->us=[]
 | _,.nil=>rfl
theorem Vals.reverse{xs:List V}{us:List Value}(h:Vals xs us):Vals xs.reverse us.reverse:=by
 induction h with
 | nil=>exact .nil
 | cons r t ih=>rw[List.reverse_cons,List.reverse_cons];exact Vals.append ih (.cons r .nil)
theorem Vals.rep{xs:List V}{us:List Value}(h:Vals xs us):∀k:Nat,Vals (List.replicate k xs).flatten (List.replicate k us).flatten
 | 0=>.nil
 | k+1=>by
  rw[List.replicate_succ,List.replicate_succ,List.flatten_cons,List.flatten_cons]
  exact Vals.append h (Vals.rep h k)
theorem foldl_rep(its:List Value):∀(k:Nat) (acc:List Value),
  List.foldl (fun x1 x2=>x1++x2) acc.toArray (List.replicate k its.toArray)=(acc++(List.replicate k its).flatten).toArray
 | 0,acc=>by simp
 | k+1,acc=>by
  have e:acc.toArray++its.toArray=(acc++its).toArray:=by simp
  have e2:(acc++its)++(List.replicate k its).flatten=acc++(List.replicate (k+1) its).flatten:=by
   rw[List.replicate_succ,List.flatten_cons,List.append_assoc]
  rw[<- e2,<- foldl_rep its k (acc++its),<- e,List.replicate_succ,List.foldl_cons]
section
variable {X:Cx}{pins:List (Addr×Obj)}{σ:St}{H:Hp}{s:Shared}{l b:Addr}{xs ys zs:List V}
theorem Inv.lset{its its':List Value}{n:Nat}{f:Array Value->Array Value}{t':Nat}(I:Inv X pins σ H s)(hH:H l=some (.lst xs))
  (e:s.heap.get? l=some { cls:=.type "list",data:=.seq its.toArray n }) (hf:f its.toArray=its'.toArray) (hv:Vals ys its') (hz:ys.length<=sizeLine) :
  Inv X pins σ (upd H l (.lst ys)) { s with heap:=s.heap.update l (Obj.mapSeq f),toks:=t' }:=by
 have q:=PySem.IsL.update e f
 rw[hf]at q
 refine I.write (x:=l) (e:=l) (by rw[hH];exact trivial) (.inl rfl) (fun b' u hb hu=>(Heap.get?_update_other s.heap (Obj.mapSeq f) (Ne.symm hb)).trans hu) ⟨_,q⟩ ?_
 exact ⟨hz,its',_,hv,q⟩
theorem Inv.lnew{its:List Value}{t':Nat}(I:Inv X pins σ H s)(hv:Vals ys its)(hz:ys.length<=sizeLine) :
  Inv X pins σ (upd H s.heap.objs.size (.lst ys)) { s with heap:=s.heap.push { cls:=.type "list",data:=.seq its.toArray },toks:=t' } :=
 I.laid (fun _ _ q=>Heap.get?_push_of_some _ q) (Nat.le_refl _) ⟨hz,its,0,hv,Heap.get?_push_size _ rfl⟩
theorem Inv.fresh(I:Inv X pins σ H s):H s.heap.objs.size=none:=I.hok.fresh (Nat.le_refl _)
theorem Inv.lstM(I:Inv X pins σ H s)(hH:H l=some (.lst xs)):xs.length<=sizeLine/\∃(its:List Value) (n:Nat),Vals xs its/\xs.length=its.length/\s.heap.get? l=some { cls:=.type "list",data:=.seq its.toArray n }:=by
 obtain⟨z,its,n,r,e⟩:=I.hok l _ hH
 exact ⟨z,its,n,r,r.length,e⟩
theorem notLongL{n:Nat}(h:n<=sizeLine):Builtin.List.listTooLong n=false:=by
 unfold Builtin.List.listTooLong
 exact decide_eq_false (by omega)
end
section
variable {X:Cx}
noncomputable def rAppend:V->List V->Hp->VK->Prop:=fun x vs H Q=>∃l xs y,x=.ref l/\vs=[y]/\H l=some (.lst xs)/\xs.length < sizeLine/\Q .non (upd H l (.lst (xs++[y])))
theorem mt_append:MtM X "list.append" rAppend:=by
 intro pins s σ H x vs v us Q I rx rv h
 obtain⟨l,xs,y,rfl,rfl,hH,hz,q⟩:=h
 cases rx
 obtain⟨u,rfl,ru⟩:=rv.one
 obtain⟨z,its,n,r,hl,e⟩:=I.lstM hH
 refine call_meets F.slot_list_append ⟨_,e,rfl⟩ F.entry_list_append (F.args_list_append_2 _ _) (PySem.list_append l its.toArray n u (by rw[List.size_toArray];omega)) ⟨e,?_⟩
 refine ⟨.non,_,I.lset (its':=its++[u]) hH e (by simp) (r.append (.cons ru .nil)) ?_,rfl,q⟩
 rw[List.length_append,List.length_singleton]
 omega
noncomputable def rExtend:V->List V->Hp->VK->Prop:=fun x vs H Q=>∃l b xs zs,x=.ref l/\vs=[.ref b]/\H l=some (.lst xs)/\H b=some (.lst zs)/\xs.length+zs.length<=sizeLine/\Q .non (upd H l (.lst (xs++zs)))
theorem mt_extend:MtM X "list.extend" rExtend:=by
 intro pins s σ H x vs v us Q I rx rv h
 obtain⟨l,b,xs,zs,rfl,rfl,hH,hB,hz,q⟩:=h
 cases rx
 obtain⟨u,rfl,ru⟩:=rv.one
 cases ru
 obtain⟨z,its,n,r,hl,e⟩:=I.lstM hH
 obtain⟨z2,its2,n2,r2,hl2,e2⟩:=I.lstM hB
 have hsz:its.toArray.size+its2.toArray.size<=sizeLine:=by rw[List.size_toArray,List.size_toArray];omega
 have hlong:¬(!its.toArray.isEmpty&&Builtin.List.listTooLong (its.toArray.size+its2.toArray.size))=true:=by
  rw[notLongL hsz,Bool.and_false]
  exact Bool.false_ne_true
 refine call_meets F.slot_list_extend ⟨_,e,rfl⟩ F.entry_list_extend (F.args_list_extend_2 _ _)
  (AutoSeq1.list_extend_list_list_0 l its.toArray n b its2.toArray n2 hlong (by rw[List.size_toArray];omega) (by omega)) ⟨e,e2,?_⟩
 refine ⟨.non,_,I.lset (its':=its++its2) hH e (by simp) (r.append r2) ?_,rfl,q⟩
 rw[List.length_append]
 omega
noncomputable def rReverse:V->List V->Hp->VK->Prop:=fun x vs H Q=>∃l xs,x=.ref l/\vs=[]/\H l=some (.lst xs)/\Q .non (upd H l (.lst xs.reverse))
theorem mt_reverse:MtM X "list.reverse" rReverse:=by
 intro pins s σ H x vs v us Q I rx rv h
 obtain⟨l,xs,rfl,rfl,hH,q⟩:=h
 cases rx
 have hus:=rv.zero
 subst hus
 obtain⟨z,its,n,r,hl,e⟩:=I.lstM hH
 refine call_meets F.slot_list_reverse ⟨_,e,rfl⟩ F.entry_list_reverse (F.args_list_reverse_1 _) (AutoSeq1.list_reverse_list_0 l its.toArray n (by rw[List.size_toArray];omega)) ⟨e,?_⟩
 refine ⟨.non,_,I.lset (its':=its.reverse) hH e (by simp) r.reverse ?_,rfl,q⟩
 rw[List.length_reverse]
 omega
noncomputable def rCat:R2:=fun x y H Q=>∃l b xs zs,x=.ref l/\y=.ref b/\H l=some (.lst xs)/\H b=some (.lst zs)/\xs.length+zs.length<=sizeLine/\∀p,H p=none->Q (.ref p) (upd H p (.lst (xs++zs)))
theorem op_cat:OpR X (binaryOp .Add) rCat:=by
 intro pins s σ H x y v u Q I rx ry h
 obtain⟨l,b,xs,zs,rfl,rfl,hH,hB,hz,q⟩:=h
 cases rx
 cases ry
 obtain⟨z,its,n,r,hl,e⟩:=I.lstM hH
 obtain⟨z2,its2,n2,r2,hl2,e2⟩:=I.lstM hB
 refine PySem.P.add_list e e2 ?_ (by rw[List.size_toArray,List.size_toArray];omega)
 have ea:its.toArray++its2.toArray=(its++its2).toArray:=by simp
 rw[ea]
 exact ⟨.ref _,_,I.lnew (t':=s.toks) (r.append r2) (by rw[List.length_append];omega),rfl,q _ I.fresh⟩
noncomputable def rRep:R2:=fun x y H Q=>∃l k xs,x=.ref l/\y=.int k/\H l=some (.lst xs)/\-(2 ^ 63)<=k/\k < 2 ^ 63/\xs.length * k.toNat<=sizeLine /\
 ∀p,H p=none->Q (.ref p) (upd H p (.lst (List.replicate k.toNat xs).flatten))
theorem len_rep{α:Type}(xs:List α)(k:Nat):(List.replicate k xs).flatten.length=k * xs.length:=by
 induction k with
 | zero=>simp
 | succ k ih=>rw[List.replicate_succ,List.flatten_cons,List.length_append,ih,Nat.succ_mul,Nat.add_comm]
theorem op_rep:OpR X (binaryOp .Mult) rRep:=by
 intro pins s σ H x y v u Q I rx ry h
 obtain⟨l,k,xs,rfl,rfl,hH,h1,h2,hz,q⟩:=h
 cases rx
 obtain⟨t,rfl⟩:=ry
 obtain⟨z,its,n,r,hl,e⟩:=I.lstM hH
 have hlen:its.toArray.size * k.toNat<=sizeLine:=by rw[List.size_toArray,<- hl];exact hz
 have hcap:¬its.toArray.size * k.toNat > (2 ^ 63 - 1) / 8:=by
  have:(sizeLine:Nat)<=(2 ^ 63 - 1) / 8:=by decide
  omega
 have hfit:¬(!Builtin.List.listFitsIndex k)=true:=by
  rw[fitsIndex_both h1 h2]
  exact Bool.false_ne_true
 have hlong:¬Builtin.List.listTooLong (its.toArray.size * k.toNat)=true:=by
  rw[notLongL hlen]
  exact Bool.false_ne_true
 have hnew:List.foldl (fun x1 x2=>x1++x2) #[] (List.replicate (if its.toArray.isEmpty=true then 0 else k.toNat) its.toArray)=(List.replicate k.toNat its).flatten.toArray:=by
  have f0:∀m:Nat,List.foldl (fun x1 x2=>x1++x2) #[] (List.replicate m its.toArray)=(List.replicate m its).flatten.toArray:=fun m=>by
   have:=foldl_rep its m []
   rw[List.nil_append]at this
   exact this
  rw[f0]
  cases its with
  | nil=>simp
  | cons a r'=>rw[if_neg (by simp)]
 refine wpAny_binaryOp_repeat_ref (T:="list") (U:="int") (by decide) ⟨_,e,rfl⟩ (fun s'=>typeIs_int s' k t) noFill_list_mul F.fills_int_mul F.slot_int_rmul repeat_list F.slot_int_index.lookup
  (call_meets F.slot_int_rmul (typeIs_int s k t) F.entry_int_rmul (F.args_int_rmul_2 _ _) (int___rmul___int_list k t l its.toArray n)
    ⟨e,rfl,⟨_,e,rfl⟩,call_meets F.slot_list_mul ⟨_,e,rfl⟩ F.entry_list_mul (F.args_list_mul_2 _ _) (AutoListH.list___mul___list_int_3 l its.toArray n k t hfit hcap hlong) ⟨e,?_⟩⟩)
 rw[hnew]
 exact ⟨.ref _,_,I.lnew (t':=s.toks) (r.rep k.toNat) (by rw[len_rep,Nat.mul_comm];exact hz),rfl,q _ I.fresh⟩
end
section
variable {prog:Program}{w:World}{A:Around}{E:Value->Shared->Prop}{s:Shared}
set_option maxRecDepth 100000 in
end
section
variable {X:Cx}
end
section
variable {κ:Type}[DecidableEq κ]
noncomputable def valV(kvs:List (κ×V))(k:κ):Option V:=(kvs.find? fun kv=>decide (kv.1=k)).map (·.2)
noncomputable def putK(kvs:List (κ×V))(k:κ)(v:V):List (κ×V) :=
 if (kvs.any fun kv=>decide (kv.1=k))=true then kvs.map (fun kv=>if kv.1=k then (kv.1,v) else kv) else kvs++[(k,v)]
theorem valV_pos{p:κ×V}{r:List (κ×V)}{k:κ}(e:p.1=k):valV (p :: r) k=some p.2:=by simp[valV,List.find?_cons,e]
theorem valV_neg{p:κ×V}{r:List (κ×V)}{k:κ}(e:¬p.1=k):valV (p :: r) k=valV r k:=by simp[valV,List.find?_cons,e]
theorem valV_any(k:κ):∀kvs:List (κ×V),(kvs.any fun kv=>decide (kv.1=k))=(valV kvs k).isSome
 | []=>rfl
 | p :: r=>by
  rw[List.any_cons]
  by_cases e:p.1=k
  ·simp only[valV_pos e,decide_eq_true e,Bool.true_or,Option.isSome_some]
  ·rw[valV_neg e,decide_eq_false e,Bool.false_or];exact valV_any k r
theorem length_putK(kvs:List (κ×V))(k:κ)(v:V):(putK kvs k v).length<=kvs.length+1:=by
 unfold putK
 split
 ·rw[List.length_map];omega
 ·rw[List.length_append,List.length_cons,List.length_nil];omega
theorem putK_new{kvs:List (κ×V)}{k:κ}(v:V)(h:valV kvs k=none):putK kvs k v=kvs++[(k,v)]:=by
 unfold putK
 rw[valV_any,h]
 exact if_neg (by decide)
theorem RelO.isSome_eq{o:Option V}{u:Option Value}(r:RelO o u):o.isSome=u.isSome:=by
 cases o with
 | none=>cases u with
  | none=>rfl
  | some _=>exact (show False from r).elim
 | some _=>cases u with
  | none=>exact (show False from r).elim
  | some _=>rfl
theorem KV.val{kvs:List (κ×V)}{vs:List (κ×Value)}(r:KV kvs vs)(k:κ):RelO (valV kvs k) (valueAt vs k):=by
 unfold KV at r
 induction r with
 | nil=>exact True.intro
 | @cons p q ps qs h t ih =>
  obtain⟨h1,h2⟩:=h
  by_cases e:p.1=k
  ·have e':q.1=k:=h1.symm.trans e
   have b:valueAt (q :: qs) k=some q.2:=by simp[valueAt,List.find?_cons,e']
   rw[valV_pos e,b];exact h2
  ·have e':¬q.1=k:=fun z=>e (h1.trans z)
   have b:valueAt (q :: qs) k=valueAt qs k:=by simp[valueAt,List.find?_cons,e']
   rw[valV_neg e,b];exact ih
theorem KV.any{kvs:List (κ×V)}{vs:List (κ×Value)}(r:KV kvs vs)(k:κ):(kvs.any fun kv=>decide (kv.1=k))=vs.any fun kv=>decide (kv.1=k):=by
 unfold KV at r
 induction r with
 | nil=>rfl
 | cons h t ih=>rw[List.any_cons,List.any_cons,ih,h.1]
theorem KV.repl{kvs:List (κ×V)}{vs:List (κ×Value)}(r:KV kvs vs)(k:κ){y:V}{u:Value}(ry:RelV y u) :
  KV (kvs.map fun kv=>if kv.1=k then (kv.1,y) else kv) (vs.map fun kv=>if kv.1=k then (kv.1,u) else kv):=by
 unfold KV at r ⊢
 induction r with
 | nil=>exact .nil
 | @cons p q ps qs h t ih =>
  rw[List.map_cons,List.map_cons]
  refine .cons ?_ ih
  obtain⟨h1,h2⟩:=h
  by_cases e:p.1=k
  ·rw[if_pos e,if_pos (h1.symm.trans e)];exact ⟨h1,ry⟩
  ·rw[if_neg e,if_neg (fun z=>e (h1.trans z))];exact ⟨h1,h2⟩
theorem KV.put{kvs:List (κ×V)}{vs:List (κ×Value)}(r:KV kvs vs)(k:κ){y:V}{u:Value}(ry:RelV y u):KV (putK kvs k y) (stored vs k u):=by
 unfold putK stored
 rw[r.any k]
 by_cases e:(vs.any fun kv=>decide (kv.1=k))=true
 ·rw[if_pos e,if_pos e];exact r.repl k ry
 ·rw[if_neg e,if_neg e];exact Paired.snoc r ⟨rfl,ry⟩
theorem KV.length{kvs:List (κ×V)}{vs:List (κ×Value)}(r:KV kvs vs):kvs.length=vs.length:=Paired.length r
end
theorem kV_is{P:Program}{w:World}{k:Key}{u:Value}(r:RelV (kV k) u):(mixKind P w).is k u=true:=by
 cases k with
 | inl i=>obtain⟨t,e⟩:=(show ∃t,u=Value.int i t from r);subst e;exact mixKind_int P w i t
 | inr x=>obtain⟨t,e⟩:=(show ∃t,u=Value.str x t from r);subst e;exact mixKind_str P w x t
theorem items_are{P:Program}{w:World}:∀{ks:List Key}{us:List Value},Vals (ks.map kV) us->ItemsAre (mixKind P w) ks us
 | [],_,r=>by rw[List.map_nil]at r;cases r;exact .nil
 | k :: ks,_,r=>by
  rw[List.map_cons]at r
  cases r with
  | cons h t=>exact .cons (kV_is h) (items_are t)
noncomputable abbrev KT(H:Hp):List (List Key×V)->List (List Key×Addr×Value)->Prop:=Paired fun p q=>p.1=q.1/\H q.2.1=some (.tup (p.1.map kV))/\RelV p.2 q.2.2
theorem KT.val{H:Hp}{kvs:List (List Key×V)}{xs:List (List Key×Addr×Value)}(r:KT H kvs xs)(k:List Key):RelO (valV kvs k) ((atKey xs k).map (·.2)):=by
 induction r with
 | nil=>exact True.intro
 | @cons p q ps qs h t ih =>
  obtain⟨h1,_,h2⟩:=h
  by_cases e:p.1=k
  ·have e':q.1=k:=h1.symm.trans e
   have b:atKey (q :: qs) k=some q.2:=by simp[atKey,List.find?_cons,e']
   rw[valV_pos e,b];exact h2
  ·have e':¬q.1=k:=fun z=>e (h1.trans z)
   have b:atKey (q :: qs) k=atKey qs k:=by simp[atKey,List.find?_cons,e']
   rw[valV_neg e,b];exact ih
theorem KT.repl{H:Hp}{kvs:List (List Key×V)}{xs:List (List Key×Addr×Value)}(r:KT H kvs xs)(k:List Key){y:V}{u:Value}(ry:RelV y u) :
  KT H (kvs.map fun kv=>if kv.1=k then (kv.1,y) else kv) (xs.map (putAt k u)):=by
 induction r with
 | nil=>exact .nil
 | @cons p q ps qs h t ih =>
  rw[List.map_cons,List.map_cons]
  refine .cons ?_ ih
  obtain⟨h1,h2,h3⟩:=h
  unfold putAt
  by_cases e:p.1=k
  ·rw[if_pos e,if_pos (h1.symm.trans e)];exact ⟨h1,h2,ry⟩
  ·rw[if_neg e,if_neg (fun z=>e (h1.trans z))];exact ⟨h1,h2,h3⟩
theorem KT.put{H:Hp}{kvs:List (List Key×V)}{xs:List (List Key×Addr×Value)}(r:KT H kvs xs)(k:List Key){b:Addr}{y:V}{u:Value}(hb:H b=some (.tup (k.map kV)))(ry:RelV y u) :
  KT H (putK kvs k y) (storedH xs k b u):=by
 have e:(kvs.any fun kv=>decide (kv.1=k))=(atKey xs k).isSome:=by
  rw[valV_any,(r.val k).isSome_eq,Option.isSome_map]
 unfold putK storedH
 rw[e]
 by_cases q:(atKey xs k).isSome=true
 ·rw[if_pos q,if_pos q];exact r.repl k ry
 ·rw[if_neg q,if_neg q];exact Paired.snoc r ⟨rfl,hb,ry⟩
theorem KT.keeps{H H':Hp}{kvs:List (List Key×V)}{xs:List (List Key×Addr×Value)}(r:KT H kvs xs)(ht:∀b ys,H b=some (.tup ys)->H' b=some (.tup ys)):KT H' kvs xs :=
 Paired.mapP r fun _ _ z=>⟨z.1,ht _ _ z.2.1,z.2.2⟩
section
variable {P:Program}{w:World}{H:Hp}{h:Heap}{a:Addr}
theorem rd_of{u:HO}(ok:HOk P w H h)(e:Rd H a u):ObjOk P w H h a u:=e.ok ok
theorem dk_rd{kvs:List (Key×V)}(ok:HOk P w H h)(e:Rd H a (.dK kvs)):kvs.length<=sizeLine/\(a==sysModules)=false/\∃vs,KV kvs vs/\h.DictOf (mixKind P w) a vs :=
 show ObjOk P w H h a (.dK kvs) from rd_of ok e
theorem dk_of{kvs:List (Key×V)}(ok:HOk P w H h)(e:H a=some (.dK kvs)):kvs.length<=sizeLine/\(a==sysModules)=false/\∃vs,KV kvs vs/\h.DictOf (mixKind P w) a vs:=dk_rd ok (.inl e)
theorem key_of{ks:List Key}(ok:HOk P w H h)(e:H a=some (.tup (ks.map kV))):(tupleKind (mixKind P w)).is h ks a:=by
 obtain⟨_,its,r,o,h1,h2,n,h3,_⟩:=(show ObjOk P w H h a (.tup (ks.map kV)) from ok a _ e)
 exact ⟨o,its.toArray,n,h1,h2,h3,by simpa using items_are r⟩
theorem dt_rd{kvs:List (List Key×V)}(ok:HOk P w H h)(e:Rd H a (.dT kvs)):kvs.length<=sizeLine/\(a==sysModules)=false /\
  ∃xs,KT H kvs xs/\h.DictOfH (tupleKind (mixKind P w)) a xs:=by
 obtain⟨z,y,xs,r,o,es,ep,h1,h2,h3,h4,h5⟩:=(show ObjOk P w H h a (.dT kvs) from rd_of ok e)
 refine ⟨z,y,xs,r,o,es,ep,h1,h2,h3,h4,fun x hx=>?_,h5⟩
 have all:∀{l:List (List Key×V)}{m:List (List Key×Addr×Value)},KT H l m->∀x∈m,(tupleKind (mixKind P w)).is h x.1 x.2.1:=by
  intro l m q
  induction q with
  | nil=>intro x hx;exact nomatch hx
  | @cons p q ps qs hq t ih =>
   intro x hx
   rcases List.mem_cons.mp hx with e|hx
   ·subst e
    exact key_of ok (by rw[<- hq.1];exact hq.2.1)
   ·exact ih x hx
 exact all r x hx
theorem dt_of{kvs:List (List Key×V)}(ok:HOk P w H h)(e:H a=some (.dT kvs)):kvs.length<=sizeLine/\(a==sysModules)=false /\
  ∃xs,KT H kvs xs/\h.DictOfH (tupleKind (mixKind P w)) a xs:=dt_rd ok (.inl e)
end
noncomputable def DGet(H:Hp)(a:Addr)(y:V)(r:Option V):Prop :=
 (∃kvs k,Rd H a (.dK kvs)/\y=kV k/\r=valV kvs k)\/∃kvs k b,Rd H a (.dT kvs)/\y=.ref b/\H b=some (.tup (k.map kV))/\r=valV kvs k
noncomputable def DPut(H:Hp)(a:Addr)(y v:V)(H':Hp):Prop :=
 (∃kvs k,H a=some (.dK kvs)/\y=kV k/\kvs.length < sizeLine/\H'=upd H a (.dK (putK kvs k v))) \/
 ∃kvs k b,H a=some (.dT kvs)/\y=.ref b/\H b=some (.tup (k.map kV))/\kvs.length < sizeLine/\H'=upd H a (.dT (putK kvs k v))
section
variable {X:Cx}{pins:List (Addr×Obj)}{σ:St}{H:Hp}{s:Shared}{a:Addr}{y v:V}{u r:Value}{o:Option V}{A:Around}{E:Value->Shared->Prop}
theorem Inv.big(I:Inv X pins σ H s):sysModules < s.heap.objs.size:=by
 have h:mainGlobals < s.heap.objs.size:=(I.mod.glob.keeps I.bk).lt
 exact Nat.lt_trans (by decide) h
theorem d_getItem{Q:Value->Shared->Prop}(hu:A.units+1 < cLine)(I:Inv X pins σ H s)(g:DGet H a y (some v))(ry:RelV y u)(h:∀w' s',Inv X pins σ H s'->RelV v w'->Q w' s') :
  wpAny (model X.prog X.w) A (getItem (.ref a) u) Q E s:=by
 rcases g with⟨kvs,k,e,ey,l⟩|⟨kvs,k,b,e,ey,eb,l⟩
 ·subst ey
  obtain⟨z,hd,vs,rel,dd⟩:=dk_rd I.hok e
  obtain⟨w',hw,rw'⟩:=RelO.some_of (v:=v) (o:=valueAt vs k) (by rw[l];exact rel.val k)
  exact wpAny_getItem_of (kV_is ry) dd.mapOf hw (h w' _ (I.tok _) rw')
 ·subst ey
  cases (show u=Value.ref b from ry)
  obtain⟨z,hd,xs,rel,dd⟩:=dt_rd I.hok e
  obtain⟨w',hw,rw'⟩:=RelO.some_of (v:=v) (o:=(atKey xs k).map (·.2)) (by rw[l];exact rel.val k)
  obtain⟨p,hp,hp2⟩:=Option.map_eq_some_iff.mp hw
  refine wpAny_getItem_heap (tupleKind_room_in1 hu) (key_of I.hok eb) dd hp ?_
  rw[hp2]
  exact h w' _ (I.tok _) rw'
theorem d_write{h':Heap}{t':Nat}{ob:HO}(I:Inv X pins σ H s)(mu:Mut (H a))(hs:Heap.SameBut a s.heap h')(he:∃q,h'.get? a=some q)(new:ObjOk X.prog X.w (upd H a ob) h' a ob) :
  Inv X pins σ (upd H a ob) { s with heap:=h',toks:=t' } :=
 I.write (x:=a) (e:=a) mu (.inl rfl) (fun b q hb z=>(hs.2 b hb).trans z) he new
theorem dk_new{P:Program}{w:World}{H':Hp}{h':Heap}{kvs:List (Key×V)}{vs:List (Key×Value)}(z:kvs.length<=sizeLine)(hd:(a==sysModules)=false)(rel:KV kvs vs)(dd:h'.DictOf (mixKind P w) a vs) :
  ObjOk P w H' h' a (.dK kvs):=⟨z,hd,vs,rel,dd⟩
theorem d_setItem{H':Hp}{Q:Unit->Shared->Prop}(hu:A.units+1 < cLine)(I:Inv X pins σ H s)(g:DPut H a y v H')(ry:RelV y u)(rv:RelV v r)(h:∀s',Inv X pins σ H' s'->Q () s') :
  wpAny (model X.prog X.w) A (setItem (.ref a) u r) Q E s:=by
 rcases g with⟨kvs,k,e,ey,l,eH⟩|⟨kvs,k,b,e,ey,eb,l,eH⟩
 ·subst ey eH
  obtain⟨z,hd,vs,rel,dd⟩:=dk_of I.hok e
  have hz:vs.length<=sizeLine:=by rw[<- rel.length];exact z
  have hl:(putK kvs k v).length<=sizeLine:=by have:=length_putK kvs k v;omega
  refine wpAny_setItem_pairs (hsz:=hz) (kV_is ry) dd fun h' dd' hs=>h _ ?_
  have he:∃q,h'.get? a=some q:=let ⟨q,_,_,hq,_⟩:=dd';⟨q,hq⟩
  exact d_write I (by rw[e];exact True.intro) hs he (dk_new hl hd (rel.put k rv) dd')
 ·subst ey eH
  cases (show u=Value.ref b from ry)
  obtain⟨z,hd,xs,rel,dd⟩:=dt_of I.hok e
  have hz:xs.length<=sizeLine:=by rw[<- Paired.length rel];exact z
  have hl:(putK kvs k v).length<=sizeLine:=by have:=length_putK kvs k v;omega
  refine wpAny_setItem_heap (hsz:=hz) (tupleKind_room_in1 hu) (key_of I.hok eb) dd fun h' dd' hs=>h _ ?_
  obtain⟨q,es,ep,hq,h2,h3,h4,_,h5⟩:=dd'
  refine d_write I (by rw[e];exact True.intro) hs ⟨q,hq⟩ ⟨hl,hd,_,(rel.put k eb rv).keeps fun c ys ec=>?_,q,es,ep,hq,h2,h3,h4,h5⟩
  rw[upd_ne (ne_of ec e (fun z=>nomatch z))]
  exact ec
end
section
variable {X:Cx}{pins:List (Addr×Obj)}{σ:St}{H:Hp}{s:Shared}{a:Addr}{kvs:List (Key×V)}{k:Key}{u:Value}{A:Around}{E:Value->Shared->Prop}
end
noncomputable def NoSl(i:Expr):Prop:=∀ov iv,subscripted i false ov iv=operate [ov,iv] (getItem ov iv)
theorem subD_of{prog:Program}{w:World}{A:Around}{E:Value->Shared->Prop}{s:Shared}{env:Env}{value slice:Expr}{pos:Pos}{T id:String}{Q:Value->Shared->Prop}
  (hl:typeLookup (.type T) "__getitem__"=pure (some (.builtin id))) (hs:NoSl slice)
  (h:wpAny (model prog w) A (eval value env) (fun o s₁=>wpAny (model prog w) A (eval slice env) (fun i s₂=>s₂.TypeIs o T/\wpAny (model prog w) A (getItem o i) Q E s₂) E s₁) E s) :
  wpAny (model prog w) A (eval (.Subscript value slice pos) env) Q E s:=by
 refine Subscript_ (wpAny_mono h (fun o s₁ h₁=>wpAny_mono h₁ (fun i s₂ h₂=>?_) fun _ _ x=>x) fun _ _ x=>x)
 obtain⟨hT,h₂⟩:=h₂
 unfold subscriptTail
 refine wpAny_bind ?_
 rw[getitemInPython_of_ne hT.not_modules]
 refine wpAny_bind (wpAny_specialOf hT hl ?_)
 have fin:wpAny (model prog w) A (subscripted slice false o i) (fun r s₃=>wpAny (model prog w) A (letTemporaryGo value o r >>= fun _=>pure r) Q E s₃) E s₂:=by
  rw[hs o i]
  exact wpAny_operating (wpAny_mono h₂ (fun r s₃ h₃=>wpAny_bind (wpAny_letTemporaryGo (wpAny_pure h₃))) fun _ _ x=>x)
 first
  | exact wpAny_pure (wpAny_bind fin)
  | exact wpAny_bind (wpAny_pure (wpAny_bind fin))
  | exact wpAny_bind fin
theorem dict_typeIs{X:Cx}{pins:List (Addr×Obj)}{σ:St}{H:Hp}{s:Shared}{a:Addr}{y:V}{o:Option V}(I:Inv X pins σ H s)(g:DGet H a y o):s.TypeIs (.ref a) "dict":=by
 rcases g with⟨kvs,k,e,_,_⟩|⟨kvs,k,b,e,_,_,_⟩
 ·obtain⟨_,_,vs,_,dd⟩:=dk_rd I.hok e
  exact dd.typeIs
 ·obtain⟨_,_,xs,_,dd⟩:=dt_rd I.hok e
  exact dd.typeIs
noncomputable def tDGet(td ty:TE):TE:=fun σ H Q=>td σ H fun x H1=>ty σ H1 fun y H2=>∃a v,x=.ref a/\DGet H2 a y (some v)/\Q v H2
noncomputable def sDPut(td ty tv:TE):TS:=fun D σ H=>tv σ H fun v H1=>td σ H1 fun x H2=>ty σ H2 fun y H3=>∃a H4,x=.ref a/\DPut H3 a y v H4/\D.nx σ H4
section
variable {X:Cx}{o i e value:Expr}{pos pos' tpos:Pos}{td ty tv:TE}
theorem pe_dget(hu:X.A.units+1 < cLine)(ho:PE X o td)(hi:PE X i ty)(hs:NoSl i):PE X (.Subscript o i pos) (tDGet td ty):=by
 intro pins s σ H Q I h
 refine subD_of PySem.F.slot_dict_getitem.lookup hs (thn (ho pins s σ H _ I h) fun u s1 ⟨x,H1,I1,rx,q1⟩=>thn (hi pins s1 σ H1 _ I1 q1) fun iv s2 ⟨y,H2,I2,ry,a,v,ex,g,q2⟩=>?_)
 subst ex
 obtain rfl:u=Value.ref a:=rx
 exact ⟨dict_typeIs I2 g,d_getItem hu I2 g ry fun w' s3 I3 rw'=>⟨v,H2,I3,rw',q2⟩⟩
theorem ps_dput(hu:X.A.units+1 < cLine)(ho:PE X o td)(hi:PE X i ty)(hv:PE X value tv)(hs:swapsWith value (some (.Subscript o i pos')) pos.line X.env=pure false) :
  PS X (.Assign [.Subscript o i pos'] value pos) (sDPut td ty tv):=by
 intro pins s σ H D I h
 refine wpAny_Assign_Subscript (thn (hv pins s σ H _ I h) fun r s1 ⟨v,H1,I1,rv,q1⟩=>thn (ho pins s1 σ H1 _ I1 q1) fun u s2 ⟨x,H2,I2,rx,q2⟩=>thn (hi pins s2 σ H2 _ I2 q2) fun iv s3 ⟨y,H3,I3,ry,a,H4,ex,g,q3⟩=>?_) hs
 subst ex
 obtain rfl:u=Value.ref a:=rx
 exact d_setItem hu I3 g ry rv fun s4 I4=>⟨σ,H4,I4,q3⟩
end
theorem dk_empty{P:Program}{w:World}{H:Hp}(h:Heap)(hb:sysModules < h.objs.size):ObjOk P w H (h.push { cls:=.type "dict",data:=.dict #[] }) h.objs.size (.dK []) :=
 ⟨Nat.zero_le _,beq_eq_false_iff_ne.mpr (Ne.symm (Nat.ne_of_lt hb)),[],.nil,Heap.DictOf.new h⟩
section
variable {X:Cx}{pos:Pos}
end
noncomputable def tPairs:List (TE×TE)->St->Hp->(List (V×V)->Hp->Prop)->Prop
 | [],_,H,Q=>Q [] H
 | (tk,tv) :: r,σ,H,Q=>tk σ H fun x H1=>tv σ H1 fun y H2=>tPairs r σ H2 fun ps H3=>Q ((x,y) :: ps) H3
noncomputable abbrev VV:List (V×V)->List (Value×Value)->Prop:=Paired fun p q=>RelV p.1 q.1/\RelV p.2 q.2
noncomputable def PPs(X:Cx)(pos:Pos)(keys:List (Option Expr))(values:List Expr)(trs:List (TE×TE)):Prop :=
 ∀(pins:List (Addr×Obj)) (s:Shared) (σ:St) (H:Hp) (Q:List (V×V)->Hp->Prop),Inv X pins σ H s->tPairs trs σ H Q ->
  wpAny (model X.prog X.w) X.A (evalPairs (pairTrees keys values X.env pos)) (fun vs s'=>∃ps H',Inv X pins σ H' s'/\VV ps vs/\Q ps H') X.xe s
theorem pps_nil{X:Cx}{pos:Pos}:PPs X pos [] [] []:=fun pins s σ H Q I h=>pairTrees_nil_walk ⟨[],H,I,.nil,h⟩
theorem pps_cons{X:Cx}{pos:Pos}{k v:Expr}{ks:List (Option Expr)}{vs:List Expr}{tk tv:TE}{trs:List (TE×TE)}(hk:PE X k tk)(hv:PE X v tv)(hr:PPs X pos ks vs trs) :
  PPs X pos (some k :: ks) (v :: vs) ((tk,tv) :: trs):=fun pins s σ H Q I h =>
 pairTrees_cons_walk (thn (hk pins s σ H _ I h) fun u s1 ⟨x,H1,I1,rx,q1⟩=>thn (hv pins s1 σ H1 _ I1 q1) fun w2 s2 ⟨y,H2,I2,ry,q2⟩ =>
   thn (hr pins s2 σ H2 _ I2 q2) fun ws s3 ⟨ps,H3,I3,rel,q3⟩=>⟨(x,y) :: ps,H3,I3,.cons ⟨rx,ry⟩ rel,q3⟩)
noncomputable def mergeK(kvs more:List (Key×V)):List (Key×V):=more.foldl (fun acc kv=>putK acc kv.1 kv.2) kvs
theorem KV.merge:∀{more:List (Key×V)}{rs:List (Key×Value)}{kvs:List (Key×V)}{vs:List (Key×Value)},KV more rs->KV kvs vs->KV (mergeK kvs more) (merged vs rs):=by
 intro more rs kvs vs r
 unfold KV at r
 induction r generalizing kvs vs with
 | nil=>intro q;exact q
 | @cons p q ps qs h t ih =>
  intro r0
  have e:KV (putK kvs p.1 p.2) (stored vs q.1 q.2):=by
   have:=r0.put p.1 h.2
   rw[<- h.1];exact this
  exact ih e
theorem length_mergeK:∀(more kvs:List (Key×V)),(mergeK kvs more).length<=kvs.length+more.length
 | [],kvs=>by show kvs.length<=kvs.length+0;omega
 | p :: r,kvs=>by
  have h1:=length_mergeK r (putK kvs p.1 p.2)
  have h2:=length_putK kvs p.1 p.2
  show (mergeK (putK kvs p.1 p.2) r).length<=_
  rw[List.length_cons];omega
theorem carries_of{P:Program}{w:World}:∀{kvs:List (Key×V)}{ws:List (Value×Value)},VV (kvs.map fun kv=>(kV kv.1,kv.2)) ws->∃rs,Carries (mixKind P w) ws rs/\KV kvs rs
 | [],_,r=>by rw[List.map_nil]at r;cases r;exact ⟨[],True.intro,.nil⟩
 | p :: kvs,_,r=>by
  rw[List.map_cons]at r
  cases r with
  | @cons a b as bs h t =>
   obtain⟨rs,c,q⟩:=carries_of (P:=P) (w:=w) t
   obtain⟨b1,b2⟩:=b
   exact ⟨(p.1,b2) :: rs,⟨kV_is h.1,rfl,c⟩,.cons ⟨rfl,h.2⟩ q⟩
noncomputable def tDisp(trs:List (TE×TE)):TE:=fun σ H Q=>∀p,H p=none->tPairs trs σ (upd H p (.dK [])) fun ps H2=>H2 p=some (.dK [])/\∃kvs:List (Key×V),ps=kvs.map (fun kv=>(kV kv.1,kv.2))/\kvs.length<=15/\Q (.ref p) (upd H2 p (.dK (mergeK [] kvs)))
theorem pe_disp{X:Cx}{pos:Pos}{keys:List (Option Expr)}{values:List Expr}{trs:List (TE×TE)}(h:PPs X pos keys values trs)(hall:keys.all (·.isSome)=true)(hl:keys.length=values.length)(h0:keys≠[])
  (h15:keys.length<=15):PE X (.Dict keys values pos) (tDisp trs):=by
 intro pins s σ H Q I q
 have hn:=I.hok.fresh (Nat.le_refl s.heap.objs.size)
 have I1:=I.laid (a:=s.heap.objs.size) (o:=.dK []) (h':=s.heap.push { cls:=.type "dict",data:=.dict #[] }) (t':=s.toks) (fun _ _ q=>Heap.get?_push_of_some _ q) (Nat.le_refl _) (dk_empty s.heap I.big)
 refine wpAny_Dict_walk (knd:=mixKind X.prog X.w) hall hl h0 h15 (thn (h pins _ σ _ _ I1 (q _ hn)) fun ws s2 ⟨ps,H2,I2,rel,e,kvs,ep,lk,q2⟩=>?_)
 subst ep
 obtain⟨rs,c,rk⟩:=carries_of (P:=X.prog) (w:=X.w) rel
 obtain⟨z,hd,vs0,r0,dd⟩:=dk_of I2.hok e
 cases r0
 refine ⟨rs,c,dd,fun h' dd' hs=>⟨.ref s.heap.objs.size,_,?_,rfl,q2⟩⟩
 have hz:(mergeK [] kvs).length<=sizeLine:=by
  have h1:=length_mergeK kvs []
  rw[List.length_nil]at h1
  rw[sizeLine_eq];omega
 have he:∃q,h'.get? s.heap.objs.size=some q:=let ⟨q,_,_,hq,_⟩:=dd';⟨q,hq⟩
 exact d_write I2 (by rw[e];exact True.intro) hs he (dk_new hz hd (rk.merge .nil) dd')
structure M1(X:Cx)(o:Expr)(m:Str)(apos:Pos)(e:Expr)(cpos:Pos):Prop where
 base:attributeBase o m X.env (eval o X.env)=eval o X.env
 few:((backTo cpos (starEach [e] X.env)).all (fun x=>!x.1)&&(backToKw cpos (keywordEach [] X.env)).all (fun x=>x.1.isSome)
   && decide (([e]:List Expr).length+([]:List Keyword).length+(if ([]:List Keyword).isEmpty then 0 else 1) < 30))=true
 line:(apos.endLine==cpos.line)=true
 trees:backTo cpos (starEach [e] X.env)=[(false,eval e X.env)]
structure M2(X:Cx)(o:Expr)(m:Str)(apos:Pos)(e f:Expr)(cpos:Pos):Prop where
 base:attributeBase o m X.env (eval o X.env)=eval o X.env
 few:((backTo cpos (starEach [e,f] X.env)).all (fun x=>!x.1)&&(backToKw cpos (keywordEach [] X.env)).all (fun x=>x.1.isSome)
   && decide (([e,f]:List Expr).length+([]:List Keyword).length+(if ([]:List Keyword).isEmpty then 0 else 1) < 30))=true
 line:(apos.endLine==cpos.line)=true
 trees:backTo cpos (starEach [e,f] X.env)=[(false,eval e X.env),(false,eval f X.env)]
noncomputable def IsD(H:Hp)(a:Addr):Prop:=(∃kvs,Rd H a (.dK kvs))\/∃kvs,Rd H a (.dT kvs)
theorem isD_at{X:Cx}{pins:List (Addr×Obj)}{σ:St}{H:Hp}{s:Shared}{a:Addr}(I:Inv X pins σ H s)(d:IsD H a) :
  s.TypeIs (.ref a) "dict"/\(∀b,Value.ref a=.ref b->∃ob,s.heap.get? b=some ob/\ob.dict=none)/\(a==sysModules)=false:=by
 rcases d with⟨kvs,e⟩|⟨kvs,e⟩
 ·obtain⟨_,hd,vs,_,dd⟩:=dk_rd I.hok e
  refine ⟨dd.typeIs,fun b q=>?_,hd⟩
  cases q
  obtain⟨ob,_,_,h1,h2,_⟩:=dd
  exact ⟨ob,h1,h2.2.1⟩
 ·obtain⟨_,hd,xs,_,dd⟩:=dt_rd I.hok e
  refine ⟨dd.typeIs,fun b q=>?_,hd⟩
  cases q
  obtain⟨ob,_,_,h1,h2,_⟩:=dd
  exact ⟨ob,h1,h2.2.1⟩
section
variable {X:Cx}{pins:List (Addr×Obj)}{σ:St}{H:Hp}{s:Shared}{a:Addr}{y d:V}{u r:Value}{o:Option V}{A:Around}{E:Value->Shared->Prop}
end
section
variable {X:Cx}{o e f:Expr}{apos cpos:Pos}{td ty tx:TE}
end
section
variable {X:Cx}{pins:List (Addr×Obj)}{σ:St}{H:Hp}{s:Shared}{a:Addr}{kvs:List (Key×V)}{A:Around}{E:Value->Shared->Prop}
end
section
variable {X:Cx}{pins:List (Addr×Obj)}{σ:St}{H:Hp}{s:Shared}{a:Addr}{y:V}{u:Value}{A:Around}{E:Value->Shared->Prop}
end
end L2
namespace Att
open PySem PySem.W PySem.Calls PyProof.Rows
theorem ints_of_wellAll{P:Params}{h:Heap}:∀(ns:List Int) (vs:List Value),WellAll P h vs (ns.map WData.int)->IntsAre vs ns:=by
 intro ns
 induction ns with
 | nil =>
  intro vs w
  rw[List.map_nil]at w
  cases w
  exact .nil
 | cons n ns ih =>
  intro vs w
  rw[List.map_cons]at w
  cases w with
  | cons a b =>
   cases a
   exact .cons _ _ (ih _ b)
theorem script_of{l:OpenLaw}{n:Nat}(hn:l.most=some n){P:Params}{h:Heap}{args:List WData}{vals:List Value}
  (hpre:l.row.toRowW.claim.pre args=true) (hwl:WellAll P h vals args) :
  ∃a vs ns,vals=[Value.ref a]/\args=[WData.list (ns.map WData.int)]/\h.get? a=some { cls:=.type "list",data:=.seq vs.toArray }/\IntsAre vs ns/\ns.length<=n:=by
 have hsh:WShape.hasAll [] args [.list .int]=true:=(pre_splitW hpre).1
 have hc:l.pre.holds [] { args:=args }=true:=(pre_splitW hpre).2
 obtain⟨d,r,rfl,h1,h2⟩:=hasAllW_cons hsh
 obtain rfl:=hasAllW_nil h2
 obtain⟨xs,rfl,h3⟩:=hasW_list h1
 obtain⟨ns,rfl⟩:=items_int h3
 have hlen:ns.length<=n:=by
  unfold OpenLaw.pre at hc
  have h4:(WTm.not (.lt (.lit (.int (n:Int))) (.len (.arg 0)))).holds [] { args:=[.list (ns.map .int)] }=true:=by
   have h4:=(holds_andW hc).1
   rw[hn]at h4
   exact h4
  have h5:=condW_of h4 (w_not (w_lt w_lit (w_len_list (w_arg rfl))))
  rw[List.length_map]at h5
  refine Nat.le_of_not_lt fun q=>?_
  have q':(n:Int) < ((ns.length:Nat):Int):=by omega
  first
   | (rw[decide_eq_true q']at h5;exact absurd h5 (by decide))
   | (simp at h5;omega)
 cases hwl with
 | cons w1 w2 =>
  cases w2
  cases w1 with
  | list ho hall=>exact ⟨_,_,ns,rfl,rfl,ho,ints_of_wellAll ns _ hall,hlen⟩
theorem post_true(l:OpenLaw)(args:List WData):l.row.toRowW.claim.post args (.bool true) args=true :=
 postW_of (r:=l.row.toRowW) (X:=(true==true))
  (show WShape.has [] (.bool true) .bool=true by first|rfl|decide|simp[WShape.has,WShape.arms,WShape.armsAll])
  (show (WTm.eq .res (.lit (.bool true))).value [] { args:=args,res:=some (.bool true),after:=args }=some (.bool (true==true)) from w_eq_bool (w_res rfl) w_lit) rfl
theorem attach_call{l:OpenLaw}{n:Nat}{q:Program}{loose:List Str}{XP:(Str->Option Value)->Heap->Prop}{YP:World->Heap->Prop}{d:DefRec}
  (hn:l.most=some n) (hdf:d.params.defaults=[])
  (call:∀(w:World) (s₀ s₁:Shared) (mg mb:Str->Option Value) (fa:Addr) (o:Obj) (pm cd doc:Value) (a:Addr) (vs:List Value) (ns:List Int),
    Ground q loose [] XP w s₀ mg mb s₁.heap->YP w s₁.heap ->
    s₁.heap.get? fa=some o->o.data=.func (docDef d.name d.params d.body d.scope pm cd doc)->s₁.heap.CodeRec cd d.name->mg d.name=some (.ref fa) ->
    s₁.heap.get? a=some { cls:=.type "list",data:=.seq vs.toArray }->IntsAre vs ns->ns.length<=n->s₁.gens=#[] ->
    codeAny (model l.prog w) callerA (.call (.ref fa) ⟨[.ref a],[]⟩) (fun r s'=>r=.ok (.ret (.bool true))/\OldK s₁.heap s'.heap/\s'.os=s₁.os/\AllBare s'.gens) s₁) :
  WalkO q loose XP YP l.row.toRowW d [] (fun f vs=>PySem.call f vs):=by
 intro w s₀ s₁ mg mb G Y fa o pm cd doc dV kV ho hd hcd hD hmg hg args vals as hpre hlay hrd hwl hlo
 obtain rfl:dV=.none:=Dflts.none hD hdf
 obtain rfl:kV=.none:=Dflts.noKw hD
 obtain⟨a,vs,ns,rfl,rfl,hobj,hints,hlen⟩:=script_of hn hpre hwl
 refine enter_call (codeAny_mono (call w s₀ s₁ mg mb fa o pm cd doc a vs ns G Y ho (fd_plain hd) hcd hmg hobj hints hlen hg) fun r s' hq=>?_)
 obtain⟨rfl,h2,h3,h4⟩:=hq
 exact ⟨.inl ⟨.bool true,.bool true,[],rfl,fun _=>rfl,.bool true,post_true l _,fun _=>⟨List.Pairwise.nil,fun _ hm=>(nomatch hm)⟩⟩,h2,h3,h4⟩
section
variable {prog:Program}{w:World}{A:Around}{E:Value->Shared->Prop}{s:Shared}{K:Frag}
end
end Att
namespace L2
open PySem PySem.Spec PyProof.Rows
theorem vals_ints:∀{vs:List Value}{ns:List Int},IntsAre vs ns->Vals (ns.map V.int) vs
 | _,_,.nil=>.nil
 | _,_,.cons n t h=>.cons ⟨t,rfl⟩ (vals_ints h)
noncomputable def defArgs(s:Stmt):Arguments:=match s with
 | .FunctionDef _ a _ _ _ _ _ _ _ _=>a
 | _=>{ posonlyargs:=[],args:=[],vararg:=none,kwonlyargs:=[],kw_defaults:=[],kwarg:=none,defaults:=[] }
noncomputable def defBody(s:Stmt):List Stmt:=match s with
 | .FunctionDef _ _ b _ _ _ _ _ _ _=>b
 | _=>[]
noncomputable def defScope(s:Stmt):Scope:=match s with
 | .FunctionDef _ _ _ _ _ _ sc _ _ _=>sc
 | _=>{ kind:=.function,names:=[],isGenerator:=false,isCoroutine:=false }
noncomputable abbrev CX0:CXT:=fun _ _ _ _ _ _=>False
noncomputable abbrev E0:XK:=fun _ _ _=>False
theorem pass0{X:Cx}:Passes CX0 X E0:=fun _ _ _ _ _ _ _ h=>h.elim
structure Fun(K:PySem.W.Frag)(x qual:Str)(st:Stmt)(f:Addr)(fd:FuncData):Prop where
 ex:∃(oc:Value) (od:Option Addr) (kV doc pm:Value) (an:Option Addr) (cdv ct:Value) (osl:Array (Option Value)),
  fd=PySem.W.fnOf x qual (defArgs st) (defBody st) (defScope st) .none kV doc pm an cdv ct/\K.lookup f=some ⟨oc,od,.func fd,osl⟩/\PySem.W.codeIn K cdv qual=true
 kp:PySem.W.keepIn K (.ref f)=true
section
variable {P:Program}{w:World}{K:PySem.W.Frag}{mg:Str->Option Value}{base:Heap}
theorem Fun.ok{x qual:Str}{st:Stmt}{f:Addr}{fd:FuncData}{N ps:List Str}{k:Nat}{sp:Sp}(F:Fun K x qual st f fd)(S:FnScope N ps (defScope st))(len:∀vs H Q E,sp vs H Q E->vs.length=ps.length)
  (hbody:∀(cdv:Value) (A:Around) (outer:List Env) (s:Shared) (H:Hp) (vs:List V) (Q:VK) (E:XK),Room k (A.deeper (envOfC qual (defScope st) s.heap.objs.size f cdv))->sp vs H Q E ->
    ∃t,PSs (cxOf CX0 P w K mg base N qual (defScope st) f cdv A outer s H E).nox (defBody st) t/\t { nx:=fun _ H'=>Q .non H',rt:=Q } (start N vs) H):FnOk P w K mg base CX0 (k+1) f fd ps sp:=by
 obtain⟨oc,od,kV,doc,pm,an,cdv,ct,osl,rfl,lk,hcd⟩:=F.ex
 refine fn_of lk hcd S len fun A outer s H vs Q E hr hsp=>?_
 obtain⟨t,h,q⟩:=hbody cdv A outer s H vs Q E hr hsp
 exact ⟨t,h.nox,q⟩
theorem Fun.binds{x qual:Str}{st:Stmt}{f:Addr}{fd:FuncData}{ps:List Str}(F:Fun K x qual st f fd)
  (h:∀(kV doc pm:Value) (an:Option Addr) (cdv ct:Value) (us:List Value),us.length=ps.length->bindArgs (PySem.W.fnOf x qual (defArgs st) (defBody st) (defScope st) .none kV doc pm an cdv ct) ⟨us,[]⟩=pure (ps.zip us)):Binds K fd ps []:=by
 obtain⟨oc,od,kV,doc,pm,an,cdv,ct,osl,rfl,lk,hcd⟩:=F.ex
 exact .all (h kV doc pm an cdv ct)
theorem fun_mk{x qual:Str}{st:Stmt}{f:Addr}{oc:Value}{od an:Option Addr}{osl:Array (Option Value)}{kV doc pm cdv ct:Value}(l:K.lookup f=some ⟨oc,od,.func (PySem.W.fnOf x qual (defArgs st) (defBody st) (defScope st) .none kV doc pm an cdv ct),osl⟩)
  (c:PySem.W.codeIn K cdv qual=true) (k:PySem.W.keepIn K (.ref f)=true):Fun K x qual st f (PySem.W.fnOf x qual (defArgs st) (defBody st) (defScope st) .none kV doc pm an cdv ct):=⟨⟨oc,od,kV,doc,pm,an,cdv,ct,osl,rfl,l,c⟩,k⟩
end
theorem hu_of{A:Around}{k:Nat}(hr:Room k A):A.units+1 < cLine:=Nat.lt_of_le_of_lt (Nat.add_le_add_left (by decide:1<=64) _) hr.units
section
variable {X:Cx}
theorem pv(i:Nat){x:Str}{pos:Pos}(hN:X.N[i]?=some x:=by rfl)(hv:Vis X.env.scope x:=by first|exact Or.inl rfl|exact Or.inr (Or.inl rfl)|exact Or.inr (Or.inr rfl))(hd:(x==("__debug__":Str))=false:=by decide)
  (hcd:(x==("__classdict__":Str))=false:=by decide):PE X (.Name x pos) (tVar i):=pe_var hN hv hd hcd
end
theorem ite2{c A B:Prop}[Decidable c](h1:c->A)(h2:¬c->B):if c then A else B:=by
 by_cases h:c
 ·rw[if_pos h]
  exact h1 h
 ·rw[if_neg h]
  exact h2 h
section
variable {κ:Type}[DecidableEq κ]
end
noncomputable def clOf(cells:List (Str×Addr)):List (Str×NameKind)->List (Str×Addr)->List (Str×Addr)
 | [],acc=>acc
 | (n,k) :: r,acc=>clOf cells r (if k==.free then (n,(cells.lookup n).getD 0) :: acc else acc)
theorem closure_of{env:Env}{sc:Scope}(h:∀y∈sc.names,y.2=.free->∃c,env.cells.lookup y.1=some c):closureFor sc env=pure (clOf env.cells sc.names []):=by
 have go:∀(l:List (Str×NameKind)) (acc:List (Str×Addr)),(∀y∈l,y.2=.free->∃c,env.cells.lookup y.1=some c) ->
   (forIn l acc fun (x:Str×NameKind) r=>(if (x.2==NameKind.free)=true then (do let a<-cellOf env x.1;pure (ForInStep.yield ((x.1,a) :: r))) else pure (ForInStep.yield r):Sem (ForInStep (List (Str×Addr)))))=pure (clOf env.cells l acc):=by
  intro l
  induction l with
  | nil=>intro acc _;rfl
  | cons y r ih =>
   intro acc hl
   obtain⟨n,k⟩:=y
   rw[List.forIn_cons]
   by_cases hk:(k==NameKind.free)=true
   ·obtain⟨c,hc⟩:=hl (n,k) List.mem_cons_self (by simpa using hk)
    have hc:env.cells.lookup n=some c:=hc
    simp only[hk,if_true,cellOf,hc,pure_bind,clOf,Option.getD_some]
    exact ih _ fun y hy=>hl y (List.mem_cons_of_mem _ hy)
   ·simp only[hk,if_false,pure_bind,clOf]
    exact ih _ fun y hy=>hl y (List.mem_cons_of_mem _ hy)
 have e:=go sc.names [] h
 unfold closureFor
 show (forIn sc.names [] _ >>= fun cs=>pure cs)=_
 rw[show (forIn sc.names ([]:List (Str×Addr)) fun (x:Str×NameKind) r=>(match x with|(name,kind)=>if (kind==NameKind.free)=true then (do let a<-cellOf env name;pure (ForInStep.yield ((name,a) :: r))) else pure (ForInStep.yield r):Sem (ForInStep (List (Str×Addr)))))=pure (clOf env.cells sc.names []) from e]
 rfl
theorem clOf_lookup{cells:List (Str×Addr)}{x:Str}{c:Addr}:∀{l:List (Str×NameKind)}{acc:List (Str×Addr)},(∀y∈l,y.2=.free->∃c,cells.lookup y.1=some c)->(clOf cells l acc).lookup x=some c ->
  acc.lookup x=some c\/cells.lookup x=some c
 | [],acc,_,h=>.inl h
 | (n,k) :: r,acc,hl,h=>by
  have ih:=clOf_lookup (l:=r) (fun y hy=>hl y (List.mem_cons_of_mem _ hy)) h
  rcases ih with ih|ih
  ·by_cases hk:(k==NameKind.free)=true
   ·rw[if_pos hk,List.lookup_cons]at ih
    obtain⟨c',hc⟩:=hl (n,k) List.mem_cons_self (by simpa using hk)
    have hc:cells.lookup n=some c':=hc
    cases e:x==n with
    | true =>
     rw[e]at ih
     have:x=n:=by simpa using e
     subst this
     simp only[hc,Option.getD_some,Option.some.injEq]at ih
     subst ih
     exact .inr hc
    | false=>rw[e]at ih;exact .inl ih
   ·rw[if_neg hk]at ih;exact .inl ih
  ·exact .inr ih
theorem clOf_has{cells:List (Str×Addr)}{x:Str}:∀{l:List (Str×NameKind)}{acc:List (Str×Addr)},((∃c,acc.lookup x=some c)\/l.lookup x=some .free)->∃c,(clOf cells l acc).lookup x=some c
 | [],acc,h=>by
  rcases h with h|h
  ·exact h
  ·simp at h
 | (n,k) :: r,acc,h=>by
  refine clOf_has (l:=r) ?_
  rcases h with⟨c,h⟩|h
  ·left
   by_cases hk:(k==NameKind.free)=true
   ·rw[if_pos hk,List.lookup_cons]
    cases x==n with
    | true=>exact ⟨_,rfl⟩
    | false=>exact ⟨c,h⟩
   ·rw[if_neg hk];exact ⟨c,h⟩
  ·rw[List.lookup_cons]at h
   cases e:x==n with
   | true =>
    rw[e]at h
    have hk:k=.free:=Option.some.inj h
    left
    subst hk
    rw[if_pos (by decide),List.lookup_cons,e]
    exact ⟨_,rfl⟩
   | false=>rw[e]at h;exact .inr h
theorem lookup_relabel{env:Env}{x:Str}:∀{names:List (Str×NameKind)},
  (names.map fun (n,k)=>if (k==NameKind.free&&env.scope.kind==.function&&env.kindOf n==some .cell) then (n,NameKind.cell) else (n,k)).lookup x =
   (names.lookup x).map fun k=>if (k==NameKind.free&&env.scope.kind==.function&&env.kindOf x==some .cell) then .cell else k
 | []=>rfl
 | (n,k) :: r=>by
  have ih:=@lookup_relabel env x r
  rw[List.map_cons]
  show List.lookup x ((if (k==NameKind.free&&env.scope.kind==.function&&env.kindOf n==some .cell)=true then (n,NameKind.cell) else (n,k)) :: _)=_
  cases hx:x==n with
  | true =>
   have e:x=n:=by simpa using hx
   subst e
   by_cases hc:(k==NameKind.free&&env.scope.kind==.function&&env.kindOf x==some .cell)=true
   ·rw[if_pos hc];simp only[List.lookup_cons,hx,Option.map_some];rw[if_pos hc]
   ·rw[if_neg hc];simp only[List.lookup_cons,hx,Option.map_some];rw[if_neg hc]
  | false =>
   by_cases hc:(k==NameKind.free&&env.scope.kind==.function&&env.kindOf n==some .cell)=true
   ·rw[if_pos hc];simp only[List.lookup_cons,hx];exact ih
   ·rw[if_neg hc];simp only[List.lookup_cons,hx];exact ih
theorem relabel_lookup(sc:Scope)(env:Env)(x:Str):(relabel sc env).names.lookup x=(sc.names.lookup x).map fun k=>if (k==NameKind.free&&env.scope.kind==.function&&env.kindOf x==some .cell) then .cell else k:=lookup_relabel
theorem cf_app:∀(names:List (Str×NameKind)) (n:Nat) (acc:List (Str×Addr)),cellsFrom n names acc=cellsFrom n names []++acc
 | [],_,_=>rfl
 | (x,k) :: r,n,acc=>by
  unfold cellsFrom
  split
  ·rw[cf_app r (n+1) ((x,n) :: acc),cf_app r (n+1) [(x,n)],List.append_assoc];rfl
  ·exact cf_app r n acc
theorem cf_mem{x:Str}{c:Addr}:∀(names:List (Str×NameKind)) (n:Nat),(x,c)∈cellsFrom n names []->(x,NameKind.cell)∈names/\n<=c
 | [],_,h=>by cases h
 | (y,k) :: r,n,h=>by
  unfold cellsFrom at h
  split at h
  ·rename_i hk
   have hk:k=.cell:=by simpa using hk
   rw[cf_app,List.mem_append]at h
   rcases h with h|h
   ·have:=cf_mem r (n+1) h
    exact ⟨List.mem_cons_of_mem _ this.1,by omega⟩
   ·have h:(x,c)=(y,n):=by simpa using h
    cases h
    subst hk
    exact ⟨List.mem_cons_self,Nat.le_refl _⟩
  ·have:=cf_mem r n h
   exact ⟨List.mem_cons_of_mem _ this.1,this.2⟩
theorem lookup_app{α:Type}{x:Str}:∀{l m:List (Str×α)},(l++m).lookup x=(l.lookup x).or (m.lookup x)
 | [],_=>rfl
 | (y,v) :: l,m=>by
  rw[List.cons_append,List.lookup_cons,List.lookup_cons]
  cases x==y with
  | true=>rfl
  | false=>exact lookup_app
theorem wpAny_newEnvComp{M:Model}{A:Around}{E:Value->Shared->Prop}{s:Shared}{scope:Scope}{globals:Addr}{closure:List (Str×Addr)}{qual:Str}{env:Env}{Q:Env->Shared->Prop}
  (hQ:Q (newEnv scope s.heap.objs.size globals (cellsFrom (s.heap.objs.size+1) scope.names closure) qual none .none (some env) builtinsNs) { s with heap:=pushCells (s.heap.push { cls:=.type "dict",data:=.dict #[] }) scope.names }) :
  wpAny M A (newFunctionEnv scope globals closure [] qual none .none (some env)) Q E s:=by
 simp only[newFunctionEnv,Option.isSome_some,if_true]
 refine wpAny_bind (wpAny_alloc ?_)
 refine wpAny_bind (wpAny_layCells _ (fun name kind cells=>by cases hkc:kind==NameKind.cell<;>simp[hkc]) _ _ _ _ ?_)
 rw[show ({ s with heap:=s.heap.push { cls:=.type "dict",data:=.dict #[] } }:Shared).heap.objs.size=s.heap.objs.size+1 from Heap.size_push ..]
 refine wpAny_bind ?_
 rw[List.forIn_nil]
 exact wpAny_pure (wpAny_pure hQ)
noncomputable def frN(N:List Str)(fr:List Nat):List Str:=fr.map fun i=>N.getD i Str.empty
noncomputable def frS(σ:St)(fr:List Nat):St:=fr.map fun i=>(σ[i]?).getD none
noncomputable def cxComp(X:Cx)(own:List Str)(fr:List Nat)(sc:Scope)(C:Addr)(s:Shared)(H:Hp)(ex:List Addr):Cx where
 prog:=X.prog
 w:=X.w
 K:=X.K
 mg:=X.mg
 base:=X.base
 A:=X.A
 N:=own++frN X.N fr
 s₀:=s
 H₀:=H
 env:=compEnvC sc (cellsFrom (C+1) sc.names (clOf X.env.cells sc.names [])) C X.env
 outer:=X.stack
 stack:=X.stack
 ex:=ex
 fn:=fun x=>sc.names.lookup x==some .cell
 calm:=X.calm
 pn:=[]
 xe:=fun _ _=>False
noncomputable def st0(own:List Str)(σ:St)(fr:List Nat):St:=own.map (fun _=>none)++frS σ fr
structure CompSc(X:Cx)(own:List Str)(fr:List Nat)(sc:Scope):Prop where
 kind:sc.kind=.function
 cells:∀y∈sc.names,y.2=.cell->sc.names.lookup y.1=some .cell
 loc:∀y∈sc.names,y.2=.local->sc.names.lookup y.1=some .local
 free:∀y∈sc.names,y.2=.free->X.env.kindOf y.1=some .cell\/X.env.kindOf y.1=some .free
 fr:∀i∈fr,∃x,X.N[i]?=some x/\sc.names.lookup x=some .free
theorem comp_start{X:Cx}{own:List Str}{fr:List Nat}{sc:Scope}{pins:List (Addr×Obj)}{σ:St}{H:Hp}{s:Shared}{fp:List Addr}{C D:Addr}{h1:Heap}{tk:Nat}{oD:Obj}
  (S:CompSc X own fr sc) (I:Inv X pins σ H s) (hf:∀b∈fp,FpOk X pins H b) (hfo:∀b∈fp,∃o,s.heap.get? b=some o) (hC:s.heap.objs.size<=C) (hD:s.heap.objs.size<=D) (hDC:D≠C) (hn:h1.Ns C fun x=>([]:List (Str×Value)).reverse.lookup x)
  (hk:∀b o,s.heap.get? b=some o->h1.get? b=some o) (hcl:∀x c,(x,c)∈cellsFrom (C+1) sc.names []->h1.IsCell c none) (hap:(cellsFrom (C+1) sc.names []).Pairwise fun x y=>x.2≠y.2) (hoD:h1.get? D=some oD) (hdD:∀v,oD.data≠.cell v) :
  Inv (cxComp X own fr sc C s H fp) [(D,oD)] (st0 own σ fr) H { s with heap:=h1,toks:=tk }:=by
 have hfree:∀y∈sc.names,y.2=.free->∃c,X.env.cells.lookup y.1=some c:=fun y hy e=>I.ok.has y.1 (S.free y hy e)
 have cl1:∀x c,(clOf X.env.cells sc.names []).lookup x=some c->X.env.cells.lookup x=some c:=fun x c e=>by
  rcases clOf_lookup hfree e with z|z
  ·simp at z
  ·exact z
 have cl2:∀x c,(cellsFrom (C+1) sc.names (clOf X.env.cells sc.names [])).lookup x=some c->(x,c)∈cellsFrom (C+1) sc.names []\/X.env.cells.lookup x=some c:=fun x c e=>by
  rw[cf_app,lookup_app]at e
  cases q:(cellsFrom (C+1) sc.names []).lookup x with
  | none=>rw[q]at e;exact .inr (cl1 x c e)
  | some c'=>rw[q]at e;cases e;exact .inl (PySem.mem_of_lookup q)
 have new:∀x c,(x,c)∈cellsFrom (C+1) sc.names []->C+1<=c:=fun x c h=>(cf_mem _ _ h).2
 have oldc:∀x c,X.env.cells.lookup x=some c->c < s.heap.objs.size:=fun x c e=>by
  obtain⟨v,q⟩:=I.cell x c e
  exact q.lt
 have kin:∀x k,(relabel sc X.env).names.lookup x=some k->k=.cell\/k=.free->sc.names.lookup x=some .free\/sc.names.lookup x=some .cell:=fun x k e hk=>by
  rw[relabel_lookup]at e
  cases q:sc.names.lookup x with
  | none=>rw[q]at e;cases e
  | some j =>
   rw[q,Option.map_some,Option.some.injEq]at e
   by_cases hj:j=.free
   ·rw[hj];exact .inl rfl
   ·have hne:(j==NameKind.free)=false:=by simpa using hj
    rw[hne,Bool.false_and,Bool.false_and,if_neg (by simp)]at e
    subst e
    rcases hk with z|z
    ·rw[z];exact .inr rfl
    ·exact absurd z hj
 have kout:∀x,sc.names.lookup x=some .free->((relabel sc X.env).names.lookup x=some .cell\/(relabel sc X.env).names.lookup x=some .free):=fun x e=>by
  rw[relabel_lookup,e,Option.map_some]
  by_cases h:(NameKind.free==NameKind.free&&X.env.scope.kind==.function&&X.env.kindOf x==some .cell)=true
  ·rw[if_pos h];exact .inl rfl
  ·rw[if_neg h];exact .inr rfl
 have okc:∀b∈fp,b < s.heap.objs.size:=fun b hb=>by obtain⟨o,e⟩:=hfo b hb;exact Heap.lt_size e
 have fresh:∀{a:Addr},s.heap.objs.size<=a->H a=none:=fun h=>I.hok.fresh h
 have ok:(cxComp X own fr sc C s H fp).Ok:={
   mod:=I.ok.mod
   kind:=S.kind
   glob:=I.ok.glob
   blt:=I.ok.blt
   above:=hC
   inj:=fun x y c h1 h2=>by
     have hC:s.heap.objs.size<=C:=hC
     rcases cl2 x c h1 with a|a<;>rcases cl2 y c h2 with b|b
     · exact name_of_addr hap a b
     · have:=new x c a;have:=oldc y c b;exact absurd (Nat.lt_of_lt_of_le (oldc y c b) (Nat.le_trans hC (Nat.le_of_succ_le (new x c a)))) (Nat.lt_irrefl _)
     · exact absurd (Nat.lt_of_lt_of_le (oldc x c a) (Nat.le_trans hC (Nat.le_of_succ_le (new y c b)))) (Nat.lt_irrefl _)
     · exact I.ok.inj x y c a b
   has:=fun x hx=>by
     have hx:sc.names.lookup x=some .free\/sc.names.lookup x=some .cell:=by
       rcases hx with hx|hx
       · exact kin x _ hx (.inl rfl)
       · exact kin x _ hx (.inr rfl)
     show ∃c,(cellsFrom (C+1) sc.names (clOf X.env.cells sc.names [])).lookup x=some c
     rw[cf_app,lookup_app]
     rcases hx with hx|hx
     · obtain⟨c,e⟩:=clOf_has (cells:=X.env.cells) (x:=x) (l:=sc.names) (acc:=[]) (.inr hx)
       rw[e]
       cases (cellsFrom (C+1) sc.names []).lookup x with
       | none=>exact ⟨c,rfl⟩
       | some c'=>exact ⟨c',rfl⟩
     · obtain⟨c,e⟩:=cell_has (n:=C+1) hx
       rw[e]
       exact ⟨c,rfl⟩
   cab:=fun x c h e=>by
     have h:sc.names.lookup x=some .cell:=by simpa [cxComp]using h
     have e:(cellsFrom (C+1) sc.names (clOf X.env.cells sc.names [])).lookup x=some c:=e
     obtain⟨c',q⟩:=cell_has (n:=C+1) h
     rw[cf_app,lookup_app,q]at e
     cases e
     exact Nat.le_trans hC (Nat.le_of_succ_le (new x _ (PySem.mem_of_lookup q)))
   hd:=I.ok.hd
   frames:=I.ok.frames
   stk:=.inl rfl
   exf:=fun b hb=>⟨Nat.ne_of_lt (Nat.lt_of_lt_of_le (okc b hb) hC),fun x c e=>by
     rcases cl2 x c e with z|z
     · exact Nat.ne_of_gt (Nat.lt_of_lt_of_le (okc b hb) (Nat.le_trans hC (Nat.le_of_succ_le (new x c z))))
     · exact (hf b hb).2.2.2.2.1 x c z⟩
   bs:=I.bs
   bsz:=Nat.le_trans I.ok.bsz I.sz
   noex:=fun b o e hb=>by
     rcases (hf b hb).2.2.2.1 with z|z
     · exact I.ok.noex b o e z
     · exact absurd (Nat.lt_of_lt_of_le (Heap.lt_size e) (Nat.le_trans I.ok.bsz z)) (Nat.lt_irrefl _)
   exfs:=fun b hb hm=>by
     rcases List.mem_cons.mp (I.stkSub b hm) with z|z
     · exact (hf b hb).2.1 z
     · exact (hf b hb).2.2.1 z
   funs:=I.stack
   frf:=I.stkFree }
 refine ⟨ok,rfl,I.bare,Un.kept hk,⟨_,hn,fun i x v e1 e2 e3=>?_⟩,fun x c e=>?_,fresh hC,fun x c e=>?_,fun p hp=>?_,I.hok.kept hk,?_⟩
 ·have e1:(own++frN X.N fr)[i]?=some x:=e1
  have e2:(own.map (fun _=>(none:Option V))++frS σ fr)[i]?=some (some v):=e2
  by_cases hi:i < own.length
  ·rw[List.getElem?_append_left (by simpa using hi),List.getElem?_map]at e2
   cases q:own[i]? with
   | none=>rw[q]at e2;cases e2
   | some z=>rw[q]at e2;cases e2
  ·rw[List.getElem?_append_right (by omega)]at e1
   rw[List.getElem?_append_right (by simpa using hi),List.length_map]at e2
   unfold frN at e1
   unfold frS at e2
   rw[List.getElem?_map]at e1 e2
   cases q:fr[i - own.length]? with
   | none=>rw[q]at e1;cases e1
   | some j =>
    rw[q,Option.map_some,Option.some.injEq]at e1 e2
    obtain⟨y,hy,hyf⟩:=S.fr j (List.mem_of_getElem? q)
    rw[List.getD_eq_getElem?_getD,hy,Option.getD_some]at e1
    subst e1
    have e2':σ[j]?=some (some v):=by
     cases r:σ[j]? with
     | none=>rw[r]at e2;cases e2
     | some z=>rw[r,Option.getD_some]at e2;rw[e2]
    have hkf:X.env.kindOf y=some .cell\/X.env.kindOf y=some .free:=S.free (y,.free) (PySem.mem_of_lookup hyf) rfl
    obtain⟨m,hm,hl⟩:=I.loc
    have vis:Vis X.env.scope y:=by
     rcases hkf with z|z
     ·exact .inr (.inl z)
     ·exact .inr (.inr z)
    obtain⟨u,r,l⟩:=hl j y v hy e2' vis
    refine ⟨u,r,?_⟩
    rcases l with⟨k,_⟩|⟨k,c,hc,z⟩
    ·rcases hkf with k'|k'<;>rw[k]at k'<;>cases k'
    ·refine .inr ⟨kout y hyf,?_⟩
     obtain⟨c',hc'⟩:∃c',(clOf X.env.cells sc.names []).lookup y=some c':=clOf_has (.inr hyf)
     have:c'=c:=Option.some.inj ((cl1 y c' hc').symm.trans hc)
     subst this
     obtain⟨o,ho,hd⟩:=z
     refine ⟨c',?_,o,hk _ _ ho,hd⟩
     show (cellsFrom (C+1) sc.names (clOf X.env.cells sc.names [])).lookup y=some c'
     rw[cf_app,lookup_app,hc']
     cases q:(cellsFrom (C+1) sc.names []).lookup y with
     | none=>rfl
     | some c2 =>
      have:=S.cells _ (cf_mem _ _ (PySem.mem_of_lookup q)).1 rfl
      rw[hyf]at this
      cases this
 ·rcases cl2 x c e with z|z
  ·exact ⟨_,hcl x c z⟩
  ·obtain⟨v,o,ho,hd⟩:=I.cell x c z
   exact ⟨v,o,hk _ _ ho,hd⟩
 ·rcases cl2 x c e with z|z
  ·exact fresh (Nat.le_trans hC (Nat.le_of_succ_le (new x c z)))
  ·exact I.freeC x c z
 ·have e:p=(D,oD):=by
   have:p∈([]:List (Addr×Obj))++[(D,oD)]:=hp
   simpa using this
  subst e
  refine ⟨hoD,fresh hD,hDC,fun hm=>?_,hdD⟩
  have hm:D∈frs X.stack:=hm
  obtain⟨_,o,ho,_⟩:=I.stack.mem hm
  exact absurd (Nat.lt_of_lt_of_le (Heap.lt_size ho) hD) (Nat.lt_irrefl _)
 ·show (own.map (fun _=>(none:Option V))++frS σ fr).length=(own++frN X.N fr).length
  simp[frS,frN]
theorem comp_end{X:Cx}{own:List Str}{fr:List Nat}{sc:Scope}{pins:List (Addr×Obj)}{σ σ':St}{H H':Hp}{s s':Shared}{fp:List Addr}{C D:Addr}{oD:Obj}{ys:List V}{us:List Value}{n:Nat}
  (I:Inv X pins σ H s) (hf:∀b∈fp,FpOk X pins H b) (hC:s.heap.objs.size<=C) (hD:s.heap.objs.size<=D) (hDC:D≠C)
  (J:Inv (cxComp X own fr sc C s H fp) [(D,oD)] σ' H' s') (ho:oD={ cls:=.type "list",data:=.seq us.toArray n }) (r:Vals ys us) (hz:ys.length<=sizeLine) :
  Inv X pins σ (upd H' D (.lst ys)) s'/\(∃m,s'.heap.Ns C m)/\FpOk X pins (upd H' D (.lst ys)) C:=by
 have pD:=J.pin (D,oD) (by simp[cxComp])
 have hHD:H' D=none:=pD.2.1
 have u:Un (frs X.stack) fp H H' s.heap s'.heap:=J.base
 have lt:∀b o,s.heap.get? b=some o->b≠D:=fun b o e=>Nat.ne_of_lt (Nat.lt_of_lt_of_le (Heap.lt_size e) hD)
 have u2:Un (frs X.stack) fp H (upd H' D (.lst ys)) s.heap s'.heap :=
  ⟨u.keep,u.slot,fun b o e n hx=>by rw[upd_ne (lt b o e)];exact u.free b o e n hx,u.there,fun b xs e=>by rw[upd_ne (ne_of_none (u.tups b xs e) hHD)];exact u.tups b xs e,
    fun b o x e=>by rw[upd_ne (ne_of_none (u.frzs b o x e) hHD)];exact u.frzs b o x e,fun b ps e=>by
      obtain⟨more,q⟩:=u.tbls b ps e
      exact ⟨more,by rw[upd_ne (ne_of_none q hHD)];exact q⟩⟩
 have hok:HOk X.prog X.w (upd H' D (.lst ys)) s'.heap:=fun b o e=>by
  by_cases hb:b=D
  ·subst hb
   rw[upd_same]at e
   cases e
   exact ⟨hz,us,n,r,by rw[<- ho];exact pD.1⟩
  ·rw[upd_ne hb]at e
   exact (J.hok b o e).stay (fun _ _ _ q=>q) (fun c q=>by rw[upd_ne (ne_of_none q hHD)];exact q) fun c xs q=>by rw[upd_ne (ne_of_none q hHD)];exact q
 refine ⟨I.call' (ch:=fp) J.os u2 hok J.bare fun b hb=>?_,?_,?_⟩
 ·obtain⟨f0,f1,f2,f3,f4,f5⟩:=hf b hb
  exact ⟨f3,f1,f4,f5⟩
 ·obtain⟨m,hm,_⟩:=J.loc
  exact ⟨m,hm⟩
 ·have hfree:H' C=none:=J.free
  refine ⟨by rw[upd_ne (Ne.symm hDC)];exact hfree,?_⟩
  exact (I.fpOk hC (I.hok.fresh hC)).2
theorem codeAny_compLoop_any{prog:Program}{w:World}{A:Around}{R:Result->Shared->Prop}{s:Shared}{elt target iter:Expr}{ifs:List Expr}{scope:Scope}{pos:Pos}{it acc:Value}{env:Env}(I:Nat->Shared->Prop)
  (turn:∀n s,I n s->wpAny (model prog w) A (pyNext it) (fun r s₁=>match r with
    | none=>R (.ok .next) s₁
    | some v=>wpAny (model prog w) A (letOwnedTupleGo target it v) (fun _ s₁'=>wpAny (model prog w) A (assign target env v) (fun _ s₂ =>
        wpAny (model prog w) A (forIn ifs true fun c r=>if r=true then do let ok<-isTrue c env (eval c env);pure (ForInStep.yield ok) else pure (ForInStep.yield r)) (fun ok s₃ =>
          if ok=true then wpAny (model prog w) A (eval elt env) (fun x s₄ =>
            wpAny (model prog w) A (call (.builtin "list.append") [acc,x]) (fun _ s₅=>∃m,m < n/\I m s₅) (fun _ _=>False) s₄) (fun _ _=>False) s₃
          else ∃m,m < n/\I m s₃) (fun _ _=>False) s₂) (fun _ _=>False) s₁') (fun _ _=>False) s₁) (fun _ _=>False) s)
  (n:Nat) (h:I n s) :
  codeAny (model prog w) A (.compLoop (.ListComp elt [⟨target,iter,ifs,0⟩] scope pos) 0 it acc env) R s:=by
 refine codeAny_loop rfl I (fun n s hI=>?_) n h
 show wpAny _ A ((compTurn (.ListComp elt [⟨target,iter,ifs,0⟩] scope pos) 0 it acc env).onRaise (fun x=>do noteFrame x env;theTreesLotGoes x)) _ _ s
 refine wpAny_noted ?_
 rw[compTurn_list]
 refine wpAny_bind (wpAny_standAt (wpAny_bind (wpAny_mono (turn n s hI) (fun r s₁ h₁=>?_) fun _ _ h'=>h'.elim)))
 cases r with
 | none=>exact wpAny_pure h₁
 | some v =>
  refine wpAny_bind (wpAny_mono h₁ (fun _ s₁' h₁'=>?_) fun _ _ h'=>h'.elim)
  refine wpAny_bind (wpAny_mono h₁' (fun _ s₂ h₂=>wpAny_bind (wpAny_mono h₂ (fun ok s₃ h₃=>?_) fun _ _ h'=>h'.elim)) fun _ _ h'=>h'.elim)
  cases ok with
  | false=>exact wpAny_pure ⟨rfl,h₃⟩
  | true =>
   exact wpAny_bind (wpAny_bind (wpAny_mono h₃ (fun x s₄ h₄=>wpAny_bind (wpAny_mono h₄ (fun _ s₅ h₅=>wpAny_pure (wpAny_pure ⟨rfl,h₅⟩)) fun _ _ h'=>h'.elim)) fun _ _ h'=>h'.elim))
noncomputable def PIf(X:Cx)(ifs:List Expr)(t:TT):Prop :=
 ∀(pins:List (Addr×Obj)) (s:Shared) (σ:St) (H:Hp) (Q:Bool->Hp->Prop),Inv X pins σ H s->t σ H Q ->
  wpAny (model X.prog X.w) X.A (forIn ifs true fun c r=>if r=true then do let ok<-isTrue c X.env (eval c X.env);pure (ForInStep.yield ok) else pure (ForInStep.yield r)) (TP X pins σ Q) X.xe s
noncomputable def tYes:TT:=fun _ H Q=>Q true H
theorem if_nil{X:Cx}:PIf X [] tYes:=fun _ _ _ H _ I h=>wpAny_tests_nil ⟨H,I,h⟩
noncomputable def tComp(wi:TI)(own:List Str)(fr:List Nat)(g:TG)(tc:TT)(te:TE):TE:=fun σ H Q=>wi σ H fun J H1=>∃W:Nat->Nat->List V->St->Hp->Prop,(∃m,W 0 m [] (st0 own σ fr) H1)/\∀i m ys τ H,W i m ys τ H ->
 (J.stop i H/\∀D,H D=none->Q (.ref D) (upd H D (.lst ys))) \/
 (J.go i H/\ys.length < sizeLine/\∃N:List V->St->Hp->Prop,(∀ys' τ' H',N ys' τ' H'->∃m',m' < m/\W (i+1) m' ys' τ' H')/\∀x H',J.yld i H x H'->g x τ H' fun τ2 H2 =>
   tc τ2 H2 fun b H3=>if b=true then te τ2 H3 fun y H4=>N (ys++[y]) τ2 H4 else N ys τ2 H3)
theorem comp_grow{X:Cx}{D:Addr}{us:List Value}{k:Nat}{pl:List (Addr×Obj)}{σ:St}{H:Hp}{s:Shared}{u:Value}{Q:Value->Shared->Prop}{E:Value->Shared->Prop}
  (I:Inv X ([(D,{ cls:=.type "list",data:=.seq us.toArray k })]++pl) σ H s) (h1:X.s₀.heap.objs.size<=D) (h2:∀x c,X.env.cells.lookup x=some c->c≠D) (h3:∀p∈X.pn++pl,p.1≠D) (hz:us.length < sizeLine)
  (h:∀k' s',Inv X ([(D,{ cls:=.type "list",data:=.seq (us++[u]).toArray k' })]++pl) σ H s'->Q .none s'):wpAny (model X.prog X.w) X.A (call (.builtin "list.append") [.ref D,u]) Q E s:=by
 obtain⟨e,hn,hL,hF,_⟩:=I.pin (D,{ cls:=.type "list",data:=.seq us.toArray k }) (List.mem_append_right _ (List.mem_append_left _ (List.mem_singleton.mpr rfl)))
 dsimp only at e hn hL hF
 have I0:Inv X pl σ H s:=I.pins_of fun p hp=>I.pin p (List.mem_append_right _ (List.mem_append_right _ hp))
 refine call_meets F.slot_list_append ⟨_,e,rfl⟩ F.entry_list_append (F.args_list_append_2 _ _) (PySem.list_append D us.toArray k u (by rw[List.size_toArray];omega)) ⟨e,?_⟩
 have q:=PySem.IsL.update e fun xs=>xs.push u
 rw[show us.toArray.push u=(us++[u]).toArray by simp]at q
 have I1:Inv X pl σ H { s with heap:=s.heap.update D (Obj.mapSeq fun xs=>xs.push u),toks:=s.toks } :=
  I0.turned (it:=D) (fun b o hb ho=>(Heap.get?_update_other s.heap (Obj.mapSeq fun xs=>xs.push u) (Ne.symm hb)).trans ho) hn hL (.inr h1) h2 h3
 obtain⟨k',q⟩:∃k',(s.heap.update D (Obj.mapSeq fun xs=>xs.push u)).get? D=some { cls:=.type "list",data:=.seq (us++[u]).toArray k' }:=⟨_,q⟩
 refine h k' _ (I1.pins_of (pins':=[(D,{ cls:=.type "list",data:=.seq (us++[u]).toArray k' })]++pl) fun p hp=>?_)
 rcases List.mem_append.mp hp with z|z
 ·have z:p=_:=List.mem_singleton.mp z
  subst z
  exact ⟨q,hn,hL,hF,fun v z=>by cases z⟩
 ·exact I1.pin p (List.mem_append_right _ z)
theorem comp_block{X:Cx}{tg iter elt:Expr}{ifs:List Expr}{sc:Scope}{pos:Pos}{own:List Str}{fr:List Nat}{g:TG}{tc:TT}{te:TE}{pins:List (Addr×Obj)}{σ:St}{H2:Hp}{s2:Shared}{it:Addr}{fp:List Addr}{tn:Nat->Heap->Prop}{J:It}{Q:VK}{E:Value->Shared->Prop}
  {RR:Value->Addr->Result->Shared->Prop}
  (hc:X.calm=true) (S:CompSc X own fr sc) (I2:Inv X pins σ H2 s2) (T:Turn X.prog X.w X.K tg J fp it tn) (st2:tn 0 s2.heap) (f2:∀b∈fp,FpOk X pins H2 b)
  (hg:∀C ex,PG (cxComp X own fr sc C s2 H2 ex) tg g) (hif:∀C ex,PIf (cxComp X own fr sc C s2 H2 ex) ifs tc) (he:∀C ex,PE (cxComp X own fr sc C s2 H2 ex) elt te)
  (W:Nat->Nat->List V->St->Hp->Prop) (m0:Nat) (w0:W 0 m0 [] (st0 own σ fr) H2)
  (turn:∀i m ys τ H,W i m ys τ H->(J.stop i H/\∀D,H D=none->Q (.ref D) (upd H D (.lst ys))) \/
    (J.go i H/\ys.length < sizeLine/\∃N:List V->St->Hp->Prop,(∀ys' τ' H',N ys' τ' H'->∃m',m' < m/\W (i+1) m' ys' τ' H')/\∀x H',J.yld i H x H'->g x τ H' fun τ2 H2 =>
      tc τ2 H2 fun b H3=>if b=true then te τ2 H3 fun y H4=>N (ys++[y]) τ2 H4 else N ys τ2 H3))
  (hRR:∀D C H s',Inv X pins σ H s'->Q (.ref D) H->(∃m,s'.heap.Ns C m)->FpOk X pins H C->RR (.ref D) C (.ok .next) s') :
  wpAny (model X.prog X.w) X.A (newList []) (fun acc s₃=>wpAny (model X.prog X.w) X.A (newFunctionEnv sc X.env.globals (clOf X.env.cells sc.names []) [] X.env.qual none .none (some X.env)) (fun cenv s₄ =>
    codeAny (model X.prog X.w) X.A (.compStart (.ListComp elt [⟨tg,iter,ifs,0⟩] sc pos) 0 (.ref it) acc { cenv with scope:=relabel sc X.env }) (RR acc cenv.locals) s₄) E s₃) E s2:=by
 refine wpAny_newObj_type (wpAny_newEnvComp ?_)
 dsimp only
 generalize hH2:s2.heap.push { cls:=.type "list",dict:=none,data:=.seq ([]:List Value).toArray }=G
 generalize hh1:pushCells (G.push { cls:=.type "dict",data:=.dict #[] }) sc.names=h₁
 have kp:∀b o,(G.push { cls:=.type "dict",data:=.dict #[] }).get? b=some o->h₁.get? b=some o:=fun b o e=>hh1 ▸ pushCells_keeps _ _ b o e
 have hns₁:h₁.Ns G.objs.size fun x=>([]:List (Str×Value)).reverse.lookup x:=(Heap.Ns.new G (.type "dict")).keeps kp
 have cok:CellsOk h₁ (G.objs.size+1) (cellsFrom (G.objs.size+1) sc.names []):=by
  have:=cellsFrom_ok sc.names (G.push { cls:=.type "dict",data:=.dict #[] }) (G.objs.size+1) [] ⟨fun _ _ hm=>(nomatch hm),List.Pairwise.nil⟩ (by rw[Heap.size_push];exact Nat.le_refl _)
  rw[Heap.size_push,hh1]at this
  exact this
 have hC:G.objs.size=s2.heap.objs.size+1:=by rw[<- hH2,Heap.size_push]
 have hCle:s2.heap.objs.size<=G.objs.size:=by rw[hC];exact Nat.le_succ _
 have hDC:s2.heap.objs.size≠G.objs.size:=by rw[hC];exact Nat.ne_of_lt (Nat.lt_succ_self _)
 have old:∀b o,s2.heap.get? b=some o->h₁.get? b=some o:=fun b o e=>kp b o (Heap.get?_push_of_some _ (hH2 ▸ Heap.get?_push_of_some _ e))
 have hacc:h₁.get? s2.heap.objs.size=some { cls:=.type "list",data:=.seq ([]:List Value).toArray }:=kp _ _ (Heap.get?_push_of_some _ (hH2 ▸ Heap.get?_push_size _ rfl))
 have st0':tn 0 h₁:=T.keep _ _ _ st2 fun b hb o e=>old b o e
 have fo:∀b∈fp,∃o,s2.heap.get? b=some o:=fun b hb=>let ⟨o,e,_⟩:=T.obj _ _ st2 b hb;⟨o,e⟩
 have flt:∀b∈fp,b < s2.heap.objs.size:=fun b hb=>by obtain⟨o,e⟩:=fo b hb;exact Heap.lt_size e
 have clb:∀x c,(clOf X.env.cells sc.names []).lookup x=some c->X.env.cells.lookup x=some c:=fun x c e=>by
  rcases clOf_lookup (fun y hy e=>I2.ok.has y.1 (S.free y hy e)) e with z|z
  ·simp at z
  ·exact z
 have clb2:∀(C':Addr) x c,(cellsFrom (C'+1) sc.names (clOf X.env.cells sc.names [])).lookup x=some c->C'+1<=c\/X.env.cells.lookup x=some c:=fun C' x c e=>by
  rw[cf_app,lookup_app]at e
  cases q:(cellsFrom (C'+1) sc.names []).lookup x with
  | none=>rw[q]at e;exact .inr (clb x c e)
  | some c'=>rw[q]at e;cases e;exact .inl (cf_mem _ _ (PySem.mem_of_lookup q)).2
 have stt:∀C':Addr,s2.heap.objs.size<=C'->∀{H':Hp}{pl:List (Addr×Obj)},(∀b∈fp,H' b=none)->(∀p∈pl,s2.heap.objs.size<=p.1)->∀b∈fp,FpOk (cxComp X own fr sc C' s2 H2 fp) pl H' b:=fun C' hC' H' pl hn hp b hb=>by
  have I0:=f2 b hb
  refine ⟨hn b hb,Nat.ne_of_lt (Nat.lt_of_lt_of_le (flt b hb) hC'),fun hm=>?_,.inl hb,fun x c e=>by
      rcases clb2 C' x c e with z|z
      · exact Nat.ne_of_gt (Nat.lt_of_lt_of_le (flt b hb) (Nat.le_trans hC' (Nat.le_of_succ_le z)))
      · exact I0.2.2.2.2.1 x c z,fun p hp'=>?_⟩
  ·rcases List.mem_cons.mp (I2.stkSub b hm) with z|z
   ·exact I0.2.1 z
   ·exact I0.2.2.1 z
  ·have hp':p∈pl:=by
    have:p∈([]:List (Addr×Obj))++pl:=hp'
    simpa using this
   exact Nat.ne_of_gt (Nat.lt_of_lt_of_le (flt b hb) (hp p hp'))
 have loop:∀s₃:Shared,s₃={ s2 with heap:=h₁,toks:=s2.toks } ->
   codeAny (model X.prog X.w) X.A (.compLoop (.ListComp elt [⟨tg,iter,ifs,0⟩] sc pos) 0 (.ref it) (.ref s2.heap.objs.size) (compEnvC sc (cellsFrom (G.objs.size+1) sc.names (clOf X.env.cells sc.names [])) G.objs.size X.env))
    (RR (.ref s2.heap.objs.size) G.objs.size) s₃:=by
  rintro s₃ rfl
  have I3:=comp_start (own:=own) (fr:=fr) (tk:=s2.toks) S I2 f2 fo hCle (Nat.le_refl _) hDC hns₁ old (fun x c h=>(cok.empty x c h).1) cok.apart hacc (fun v z=>by cases z)
  refine codeAny_compLoop_any (fun n s'=>∃i H' ys us k τ,Inv (cxComp X own fr sc G.objs.size s2 H2 fp) [(s2.heap.objs.size,{ cls:=.type "list",data:=.seq us.toArray k })] τ H' s'/\tn i s'.heap/\(∀b∈fp,H' b=none)/\Vals ys us/\ys.length<=sizeLine/\W i n ys τ H') ?_ m0
   ⟨0,H2,[],[],0,_,I3,st0',fun b hb=>(f2 b hb).1,.nil,Nat.zero_le _,w0⟩
  rintro n s4 ⟨i,H4,ys,us,k,τ,I4,st4,fr4,rv4,hz4,w4⟩
  have hp4:∀p∈[(s2.heap.objs.size,({ cls:=.type "list",data:=.seq us.toArray k }:Obj))],s2.heap.objs.size<=p.1:=fun p hp=>by
   rw[List.mem_singleton.mp hp]
   exact Nat.le_refl _
  rcases turn i n ys τ H4 w4 with⟨stop,qn⟩|⟨go,hlt,N,hN,step⟩
  ·refine thn (T.done (cxComp X own fr sc G.objs.size s2 H2 fp) rfl rfl rfl hc i _ s4 _ H4 (fun _ _=>False) I4 (stt _ hCle fr4 hp4) st4 stop) fun r s5 ⟨hr,I5⟩=>?_
   subst hr
   obtain⟨a1,a2,a3⟩:=comp_end I2 f2 hCle (Nat.le_refl _) hDC I5 rfl rv4 hz4
   exact hRR _ _ _ s5 a1 (qn _ (I5.pin _ (List.mem_append_right _ (List.mem_singleton.mpr rfl))).2.1) a2 a3
  ·refine thn (T.item (cxComp X own fr sc G.objs.size s2 H2 fp) rfl rfl rfl hc i _ s4 _ H4 (fun _ _=>False) I4 (stt _ hCle fr4 hp4) st4 go) fun r s5 ⟨u,hr,h5⟩=>?_
   subst hr
   refine thn h5 fun _ s6 ⟨x,H6,I6,r6,y6,st6,fr6⟩=>?_
   have I6':=I6.pinned (stt _ hCle fr6 hp4) (T.obj _ _ st6)
   refine thn (hg G.objs.size fp _ s6 _ H6 x u _ I6' r6 (step x H6 y6)) fun _ s7 ⟨σ7,H7,I7,q7⟩=>?_
   refine thn (hif G.objs.size fp _ s7 σ7 H7 _ I7 q7) fun b s8 ⟨H8,I8,q8⟩=>?_
   have again:∀{s9:Shared}{H9:Hp}{ys':List V}{us':List Value}{k':Nat},Inv (cxComp X own fr sc G.objs.size s2 H2 fp) ([(s2.heap.objs.size,{ cls:=.type "list",data:=.seq us'.toArray k' })]++pinsAt fp s6.heap) σ7 H9 s9->Vals ys' us'->ys'.length<=sizeLine->N ys' σ7 H9 ->
     ∃m,m < n/\∃i H' ys us k τ,Inv (cxComp X own fr sc G.objs.size s2 H2 fp) [(s2.heap.objs.size,{ cls:=.type "list",data:=.seq us.toArray k })] τ H' s9/\tn i s9.heap/\(∀b∈fp,H' b=none)/\Vals ys us/\ys.length<=sizeLine/\W i m ys τ H':=fun {s9 H9 ys' us' k'} I9 rv9 hz9 n9=>by
    obtain⟨m',hm,w9⟩:=hN ys' σ7 H9 n9
    refine ⟨m',hm,i+1,H9,ys',us',k',σ7,I9.unpinned,T.keep _ _ _ st6 fun b hb o e=>(I9.pin (b,o) (List.mem_append_right _ (List.mem_append_right _ (mem_pinsAt hb e)))).1,fun b hb=>?_,rv9,hz9,w9⟩
    obtain⟨o,e,d⟩:=T.obj _ _ st6 b hb
    exact (I9.pin (b,o) (List.mem_append_right _ (List.mem_append_right _ (mem_pinsAt hb e)))).2.1
   cases b with
   | false =>
    rw[if_neg Bool.false_ne_true]at q8 ⊢
    exact again I8 rv4 hz4 q8
   | true =>
    rw[if_pos rfl]at q8 ⊢
    refine thn (he G.objs.size fp _ s8 σ7 H8 _ I8 q8) fun y s9 ⟨yv,H9,I9,r9,n9⟩=>?_
    refine comp_grow (X:=cxComp X own fr sc G.objs.size s2 H2 fp) I9 (Nat.le_refl _) (fun x c e z=>?_) (fun p hp z=>?_) (by rw[<- rv4.length];exact hlt) fun k' s10 I10=>?_
    ·rcases clb2 _ x c e with y|y
     ·rw[z]at y
      exact absurd (Nat.lt_of_lt_of_le (Nat.lt_succ_of_le hCle) y) (Nat.lt_irrefl _)
     ·obtain⟨v,q⟩:=I2.cell x c y
      exact absurd (Nat.lt_of_lt_of_le q.lt (by rw[z];exact Nat.le_refl _)) (Nat.lt_irrefl _)
    ·have hp:p∈([]:List (Addr×Obj))++pinsAt fp s6.heap:=hp
     rw[List.nil_append]at hp
     have:=flt _ (of_pinsAt hp).1
     rw[z]at this
     exact absurd this (Nat.lt_irrefl _)
    ·exact again I10 (rv4.append (.cons r9 .nil)) (by rw[List.length_append,List.length_singleton];omega) n9
 exact codeAny_compStart_list (loop _ rfl) (T.self _ 0 _ _ _ st0' (loop _ rfl))
theorem pe_comp{X:Cx}{tg iter elt:Expr}{ifs:List Expr}{sc:Scope}{pos:Pos}{own:List Str}{fr:List Nat}{wi:TI}{g:TG}{tc:TT}{te:TE}(hc:X.calm=true)(S:CompSc X own fr sc)(hi:PI X tg iter wi)
  (hg:∀C s H ex,PG (cxComp X own fr sc C s H ex) tg g) (hif:∀C s H ex,PIf (cxComp X own fr sc C s H ex) ifs tc) (he:∀C s H ex,PE (cxComp X own fr sc C s H ex) elt te)
  (hs:∀x,foldedSetIterable iter X.env x=pure x:=by intro _;rfl):PE X (.ListComp elt [⟨tg,iter,ifs,0⟩] sc pos) (tComp wi own fr g tc te):=by
 intro pins s σ H Q I h
 rw[eval_ListComp]
 refine wpAny_comprehension_free (use:=none) rfl hs (closure_of fun y hy e=>I.ok.has y.1 (S.free y hy e)) S.kind S.loc (thn (hi pins s σ H _ I h) fun v s1 h1=>thn h1 fun itv s2 h2=>?_)
 obtain⟨it,fp,tn,J,H2,e,I2,T,st2,f2,W,⟨m0,w0⟩,turn⟩:=h2
 subst e
 refine comp_block (Q:=Q) (RR:=fun acc C=>compPost (model X.prog X.w) X.A X.xe none (EP X pins σ Q) acc C) hc S I2 T st2 f2 (fun C ex=>hg C s2 H2 ex) (fun C ex=>hif C s2 H2 ex) (fun C ex=>he C s2 H2 ex) W m0 w0 turn ?_
 intro D C H' s' I' q ⟨m,hm⟩ fC
 refine ⟨m,hm,fun h' sb=>⟨.ref D,H',?_,rfl,q⟩⟩
 obtain⟨f0,f1,f2,f3,f4,f5⟩:=fC
 exact I'.turned (t':=s'.toks) (fun b o hb e=>(sb.2 b hb).trans e) f0 f1 f3 f4 f5
theorem ps_setComp{X:Cx}{tg iter elt:Expr}{ifs:List Expr}{sc:Scope}{pos spos py:Pos}{i:Nat}{y:Str}{own:List Str}{fr:List Nat}{wi:TI}{g:TG}{tc:TT}{te:TE}(hN:X.N.Nodup)(hy:X.N[i]?=some y)(hl:X.env.scope.names.lookup y=some .local)(hc:X.calm=true)(S:CompSc X own fr sc)(hi:PI X tg iter wi)
  (hg:∀C s H ex,PG (cxComp X own fr sc C s H ex) tg g) (hif:∀C s H ex,PIf (cxComp X own fr sc C s H ex) ifs tc) (he:∀C s H ex,PE (cxComp X own fr sc C s H ex) elt te)
  (hsw:swapsWith (.ListComp elt [⟨tg,iter,ifs,0⟩] sc pos) (some (.Name y py)) spos.line X.env=pure true:=by rfl)
  (hs:∀x,foldedSetIterable iter X.env x=pure x:=by intro _;rfl):PS X (.Assign [.Name y py] (.ListComp elt [⟨tg,iter,ifs,0⟩] sc pos) spos) (tAsg (tComp wi own fr g tc te) (gName i)):=by
 intro pins s σ H D I h
 rw[exec_Assign_Name_used _ _ _ _ hsw]
 refine wpAny_bind (wpAny_standAt ?_)
 show wpAny _ _ (evalThenUse (.ListComp elt [⟨tg,iter,ifs,0⟩] sc pos) X.env _ >>= _) _ _ s
 refine wpAny_bind ?_
 unfold evalThenUse
 refine wpAny_bind ?_
 refine wpAny_comprehension_free rfl hs (closure_of fun y hy e=>I.ok.has y.1 (S.free y hy e)) S.kind S.loc (thn (hi pins s σ H _ I h) fun v s1 h1=>thn h1 fun itv s2 h2=>?_)
 obtain⟨it,fp,tn,J,H2,e,I2,T,st2,f2,W,⟨m0,w0⟩,turn⟩:=h2
 subst e
 refine comp_block (Q:=fun v H1=>D.nx (σ.set i (some v)) H1) hc S I2 T st2 f2 (fun C ex=>hg C s2 H2 ex) (fun C ex=>hif C s2 H2 ex) (fun C ex=>he C s2 H2 ex) W m0 w0 turn ?_
 intro D' C H' s' I' q ⟨m,hm⟩ fC
 obtain⟨f0,f1,f2,f3,f4,f5⟩:=fC
 show wpAny (model X.prog X.w) X.A (assign (.Name y py) X.env (.ref D')) (fun _ s''=>∃m,s''.heap.Ns C m/\∀h',Heap.SameBut C s''.heap h'->_) X.xe s'
 refine wpAny_assign_Name (store_ok2 I' hN hy (.inl hl) (v:=.ref D') rfl (fun s'' I'' hsb=>?_) (.inr hl))
 obtain⟨a,hsb,ha⟩:=hsb
 have hCa:C≠a:=by
  rcases ha with z|z
  ·rw[z];exact f1
  ·exact fun e=>f4 y a z e.symm
 obtain⟨m',hm'⟩:∃m',s''.heap.Ns C m':=⟨m,hm.sameBut hsb hCa⟩
 refine ⟨m',hm',fun h' sb=>wpAny_pure (wpAny_pure ⟨_,H',?_,q⟩)⟩
 exact I''.turned (t':=s''.toks) (fun b o hb e=>(sb.2 b hb).trans e) f0 f1 f3 f4 f5
inductive Kd where|l|t
noncomputable def ItAt(k:Kd)(h:Heap)(it a:Addr)(i:Nat):Prop:=match k with | .l=>h.IsListIter it a i | .t=>h.IsTupleIter it a i
noncomputable def SqAt(k:Kd)(h:Heap)(a:Addr)(xs:Array Value):Prop:=match k with | .l=>h.IsList a xs | .t=>h.IsTuple a xs
noncomputable def itObj(k:Kd)(a:Addr):Obj:=match k with | .l=>{ cls:=.type "list_iterator",data:=.fields #[.ref a,.int 0 0] } | .t=>{ cls:=.type "tuple_iterator",data:=.fields #[.ref a,.int 0 0] }
theorem ItAt.at{k:Kd}{h h':Heap}{it a:Addr}{i:Nat}(x:ItAt k h it a i)(f:∀o,h.get? it=some o->h'.get? it=some o):ItAt k h' it a i:=by
 cases k with
 | l=>exact Heap.IsListIter.at x f
 | t=>exact Heap.IsTupleIter.at x f
theorem SqAt.at{k:Kd}{h h':Heap}{a:Addr}{xs:Array Value}(x:SqAt k h a xs)(f:∀o,h.get? a=some o->h'.get? a=some o):SqAt k h' a xs:=by
 cases k with
 | l=>exact Heap.IsList.at x f
 | t=>obtain⟨o,e,r⟩:=x;exact ⟨o,f o e,r⟩
theorem ItAt.obj{k:Kd}{h:Heap}{it a:Addr}{i:Nat}(x:ItAt k h it a i):∃o,h.get? it=some o/\∀v,o.data≠.cell v:=by
 cases k with
 | l=>obtain⟨o,e,c,d⟩:=x;exact ⟨o,e,fun v z=>by rw[d]at z;cases z⟩
 | t=>obtain⟨o,e,c,d⟩:=x;exact ⟨o,e,fun v z=>by rw[d]at z;cases z⟩
theorem ItAt.new(k:Kd){h:Heap}{it a:Addr}(e:h.get? it=some (itObj k a)):ItAt k h it a 0:=by
 cases k with
 | l=>exact ⟨_,e,rfl,rfl⟩
 | t=>exact ⟨_,e,rfl,rfl⟩
section
variable {prog:Program}{w:World}{A:Around}{E:Value->Shared->Prop}{s:Shared}
theorem iter_at{k:Kd}{a:Addr}{xs:Array Value}{Q:Value->Shared->Prop}(hl:SqAt k s.heap a xs)(h:Q (.ref s.heap.objs.size) { s with heap:=s.heap.push (itObj k a) }):wpAny (model prog w) A (pyIter (.ref a)) Q E s:=by
 cases k with
 | l=>exact wpAny_pyIter_list hl h
 | t=>exact wpAny_pyIter_tuple hl h
theorem nextOf_tuple_item{it t:Addr}{i:Nat}{items}{x:Value}{Q:Value->Shared->Prop}(hit:s.heap.IsTupleIter it t i)(ht:s.heap.IsTuple t items)(hx:items[i]?=some x)
  (hQ:∀h',h'.IsTupleIter it t (i+1)->Heap.SameBut it s.heap h'->Q x { s with heap:=h' }):wpAny (model prog w) A (Builtin.SmallTypes.nextOf (.ref it)) Q E s:=by
 obtain⟨o,ho,hc,hd⟩:=id hit
 obtain⟨ol,hol,_,nl,hdl⟩:=ht
 unfold Builtin.SmallTypes.nextOf
 refine wpAny_bind (wpAny_callSpecial?_slot (name:=Str.ofString "__next__") hit.typeIs F.slot_tuple_iterator_next
   (wpAny_call_entry F.slot_tuple_iterator_next hit.typeIs F.entry_tuple_iterator_next ?_ (F.args_tuple_iterator_next_1 _)))
 show wpAny _ _ (field (.ref it) 0 >>= _) _ _ s
 refine wpAny_bind (wpAny_field ho hd (x:=.ref t) rfl ?_)
 show wpAny _ _ (if (Value.ref t==Value.none)=true then _ else _) _ _ s
 rw[if_neg (show ¬((Value.ref t==Value.none)=true) from Bool.false_ne_true)]
 show wpAny _ _ (field (.ref it) 1 >>= _) _ _ s
 refine wpAny_bind (wpAny_field ho hd (x:=.int i 0) rfl ?_)
 show wpAny _ _ (seqItems? (.ref t) >>= _) _ _ s
 refine wpAny_bind (wpAny_seqItems hol hdl ?_)
 simp only[Int.toNat_natCast,hx]
 refine wpAny_bind (wpAny_setField ho hd (by simp) (wpAny_pure ⟨x,rfl,wpAny_pure (hQ _ ?_ (Heap.SameBut.update ..))⟩))
 exact ⟨_,Heap.get?_update_self _ ho (Obj.isFreed_of_fields (Obj.data_mapFields hd _)),(Obj.cls_mapFields ..).trans hc,by
   rw[Obj.data_mapFields hd];simp[rawInt]⟩
theorem nextOf_tuple_end{it l:Addr}{i:Nat}{items}{Q:Value->Shared->Prop}(hh:A.handled=none)
  (hit:s.heap.IsTupleIter it l i) (hl:s.heap.IsTuple l items) (hx:items[i]?=none)
  (hE:∀h' e,Heap.ExtBut it s.heap h'->(∃o,h'.get? e=some o/\o.cls=.type "StopIteration")->E (.ref e) { s with heap:=h' }) :
  wpAny (model prog w) A (Builtin.SmallTypes.nextOf (.ref it)) Q E s:=by
 obtain⟨o,ho,hc,hd⟩:=id hit
 obtain⟨ol,hol,_,nl,hdl⟩:=hl
 unfold Builtin.SmallTypes.nextOf
 refine wpAny_bind (wpAny_callSpecial?_slot (name:=Str.ofString "__next__") hit.typeIs F.slot_tuple_iterator_next
   (wpAny_call_entry F.slot_tuple_iterator_next hit.typeIs F.entry_tuple_iterator_next ?_ (F.args_tuple_iterator_next_1 _)))
 show wpAny _ _ (field (.ref it) 0 >>= _) _ _ s
 refine wpAny_bind (wpAny_field ho hd (x:=.ref l) rfl ?_)
 show wpAny _ _ (if (Value.ref l==Value.none)=true then _ else _) _ _ s
 rw[if_neg (show ¬((Value.ref l==Value.none)=true) from Bool.false_ne_true)]
 show wpAny _ _ (field (.ref it) 1 >>= _) _ _ s
 refine wpAny_bind (wpAny_field ho hd (x:=.int i 0) rfl ?_)
 show wpAny _ _ (seqItems? (.ref l) >>= _) _ _ s
 refine wpAny_bind (wpAny_seqItems hol hdl ?_)
 simp only[Int.toNat_natCast,hx]
 refine wpAny_bind (wpAny_rule (wpAny_bind (wpAny_setField ho hd (by simp) ?_)))
 show wpAny _ _ (newExc (.type "StopIteration") [] >>= _) _ _ _
 refine wpAny_bind ?_
 simp only[newExc,newTuple]
 refine wpAny_bind (wpAny_newObj_type ?_ (by size_fits))
 refine wpAny_bind (m:=firstArgMember _ _) (wpAny_of_eq (a:=Value.none) (by first|rfl|(simp only[firstArgMember];rfl)) ?_)
 refine wpAny_newObj_type ?_ (by size_fits)
 simp only[raiseNew]
 refine wpAny_bind (wpAny_handled ?_)
 first|rw[show A.in1.handled=none from hh]|rw[hh]
 refine wpAny_bind (wpAny_pure (wpAny_throw ?_))
 exact hE _ _ (((Heap.SameBut.update ..).extBut.push _).push _) ⟨_,Heap.get?_push_size _ rfl,rfl⟩
theorem nextOf_item{k:Kd}{it a:Addr}{i:Nat}{xs:Array Value}{x:Value}{Q:Value->Shared->Prop}(hit:ItAt k s.heap it a i)(hl:SqAt k s.heap a xs)(hx:xs[i]?=some x)
  (hQ:∀h',ItAt k h' it a (i+1)->Heap.SameBut it s.heap h'->Q x { s with heap:=h' }):wpAny (model prog w) A (Builtin.SmallTypes.nextOf (.ref it)) Q E s:=by
 cases k with
 | l=>exact wpAny_nextOf_list_item hit hl hx hQ
 | t=>exact nextOf_tuple_item hit hl hx hQ
theorem nextOf_end{k:Kd}{it a:Addr}{i:Nat}{xs:Array Value}{Q:Value->Shared->Prop}(hh:A.handled=none)(hit:ItAt k s.heap it a i)(hl:SqAt k s.heap a xs)(hx:xs[i]?=none)
  (hE:∀h' e,Heap.ExtBut it s.heap h'->(∃o,h'.get? e=some o/\o.cls=.type "StopIteration")->E (.ref e) { s with heap:=h' }):wpAny (model prog w) A (Builtin.SmallTypes.nextOf (.ref it)) Q E s:=by
 cases k with
 | l=>exact wpAny_nextOf_list_end hh hit hl hx hE
 | t=>exact nextOf_tuple_end hh hit hl hx hE
end
noncomputable abbrev IsTup2(h:Heap)(T:Addr)(a1 a2:Value):Prop:=h.get? T=some { cls:=.type "tuple",data:=.seq #[a1,a2] }
structure ZAp2(z TI TO i1 i2 l1 l2:Addr):Prop where
 TIz:TI≠z
 TOz:TO≠z
 i1z:i1≠z
 i2z:i2≠z
 TOTI:TO≠TI
 i1TI:i1≠TI
 i2TI:i2≠TI
 i1TO:i1≠TO
 i2TO:i2≠TO
 i2i1:i2≠i1
 l1z:l1≠z
 l1TO:l1≠TO
 l1i1:l1≠i1
 l1i2:l1≠i2
 l2z:l2≠z
 l2TO:l2≠TO
 l2i1:l2≠i1
 l2i2:l2≠i2
theorem zap2(n l1 l2:Nat)(h1:l1 < n)(h2:l2 < n):ZAp2 (n+4) (n+2) (n+3) n (n+1) l1 l2:=by constructor<;>(show ¬(@Eq Nat _ _))<;>omega
section
variable {prog:Program}{w:World}{A:Around}{E:Value->Shared->Prop}{s:Shared}
theorem upSeq2{T:Addr}{a1 a2 x:Value}{k:Nat}{Q:Unit->Shared->Prop}(hT:IsTup2 s.heap T a1 a2)
  (h:∀h',h'.get? T=some { cls:=.type "tuple",data:=.seq ((#[a1,a2]:Array Value).setIfInBounds k x) }->Heap.SameBut T s.heap h'->Q () { s with heap:=h' }) :
  wpAny (model prog w) A (updateSeq T (·.setIfInBounds k x)) Q E s:=by
 refine wpAny_updateSeq hT rfl (h _ ?_ (Heap.SameBut.update ..))
 rw[Heap.get?_update_self _ hT rfl]
 simp[Obj.mapSeq]
theorem zipn_item2{z TI TO i1 i2 l1 l2:Addr}{k:Nat}{k1:Kd}{k2:Kd}{xs1 xs2:Array Value}{a1 a2:Value}{x1 x2:Value}{Q:Value->Shared->Prop}(D:ZAp2 z TI TO i1 i2 l1 l2)
  (hz:IsZip s.heap z TI TO .none) (hTI:IsTup2 s.heap TI (.ref i1) (.ref i2)) (hTO:IsTup2 s.heap TO a1 a2)
  (h1:ItAt k1 s.heap i1 l1 k) (h2:ItAt k2 s.heap i2 l2 k) (hl1:SqAt k1 s.heap l1 xs1) (hl2:SqAt k2 s.heap l2 xs2) (hx1:xs1[k]?=some x1) (hx2:xs2[k]?=some x2)
  (hQ:∀h',IsZip h' z TI TO (rawInt s.heap.objs.size)->IsTup2 h' TO x1 x2->ItAt k1 h' i1 l1 (k+1)->ItAt k2 h' i2 l2 (k+1)->IsTup2 h' s.heap.objs.size x1 x2->h'.objs.size=s.heap.objs.size+1 ->
    (∀c o,c≠z->c≠TO->c≠i1->c≠i2->s.heap.get? c=some o->h'.get? c=some o)->Q (.ref s.heap.objs.size) { s with heap:=h' }) :
  wpAny (model prog w) A (Builtin.«zip.__next__» ⟨[.ref z],[]⟩) (fun fin s'=>∃v,fin=.done (.ret v)/\Q v s') E s:=by
 show wpAny _ _ (field (.ref z) 2 >>= _) _ _ _
 refine wpAny_bind (wpAny_field hz rfl (x:=.bool false) rfl ?_)
 show wpAny _ _ (field (.ref z) 3 >>= _) _ _ _
 refine wpAny_bind (wpAny_field hz rfl (x:=.ref TI) rfl ?_)
 refine wpAny_bind (wpAny_seqItems hTI rfl ?_)
 show wpAny _ _ (Builtin.SmallTypes.ownedTupleIsFree (.ref z) >>= _) _ _ _
 refine wpAny_bind ?_
 unfold Builtin.SmallTypes.ownedTupleIsFree
 refine wpAny_bind (wpAny_field hz rfl (x:=.none) rfl (wpAny_pure ?_))
 simp only[if_true]
 refine wpAny_bind (wpAny_rule ?_)
 refine wpAny_bind (wpAny_field hz rfl (x:=.ref TO) rfl ?_)
 refine wpAny_bind (wpAny_setField_rec hz (by simp) fun h₁ hz₁ hs₁=>?_)
 replace hz₁:IsZip h₁ z TI TO .ellipsis:=hz₁
 refine wpAny_bind ?_
 simp only[List.zipIdx_cons,List.zipIdx_nil,List.forIn_cons,List.forIn_nil]
 have up₁:∀c o,c≠z->s.heap.get? c=some o->h₁.get? c=some o:=fun c o c1 e=>hs₁.extBut _ _ c1 e
 refine wpAny_bind (wpAny_bind (wpAny_onRaise ?_))
 show wpAny _ _ (Builtin.SmallTypes.nextOf (.ref i1) >>= _) _ _ _
 refine wpAny_bind (nextOf_item (h1.at fun o e=>hs₁.extBut _ o D.i1z e) (hl1.at fun o e=>hs₁.extBut _ o D.l1z e) hx1 fun ha1 hi1 hsa1=>wpAny_pure ?_)
 have hTOa1:IsTup2 ha1 TO a1 a2:=hsa1.extBut _ _ D.i1TO.symm (hs₁.extBut _ _ D.TOz hTO)
 refine wpAny_bind (wpAny_seqItems hTOa1 rfl ?_)
 refine wpAny_bind (upSeq2 hTOa1 fun hb1 hTOb1 hsb1=>?_)
 replace hTOb1:IsTup2 hb1 TO x1 a2:=hTOb1
 refine wpAny_bind (wpAny_letGo (wpAny_pure ?_))
 refine wpAny_bind (wpAny_bind (wpAny_onRaise ?_))
 show wpAny _ _ (Builtin.SmallTypes.nextOf (.ref i2) >>= _) _ _ _
 refine wpAny_bind (nextOf_item (((h2.at fun o e=>hs₁.extBut _ o D.i2z e).at fun o e=>hsa1.extBut _ o D.i2i1 e).at fun o e=>hsb1.extBut _ o D.i2TO e) (((hl2.at fun o e=>hs₁.extBut _ o D.l2z e).at fun o e=>hsa1.extBut _ o D.l2i1 e).at fun o e=>hsb1.extBut _ o D.l2TO e) hx2 fun ha2 hi2 hsa2=>wpAny_pure ?_)
 have hTOa2:IsTup2 ha2 TO x1 a2:=hsa2.extBut _ _ D.i2TO.symm hTOb1
 refine wpAny_bind (wpAny_seqItems hTOa2 rfl ?_)
 refine wpAny_bind (upSeq2 hTOa2 fun hb2 hTOb2 hsb2=>?_)
 replace hTOb2:IsTup2 hb2 TO x1 x2:=hTOb2
 refine wpAny_bind (wpAny_letGo (wpAny_pure (wpAny_pure ?_)))
 refine wpAny_bind (wpAny_seqItems hTOb2 rfl ?_)
 refine wpAny_bind (wpAny_newTuple ?_)
 have hsz:hb2.objs.size=s.heap.objs.size:=by rw[hsb2.1,hsa2.1,hsb1.1,hsa1.1,hs₁.1]
 have hzG:IsZip hb2 z TI TO .ellipsis:=(hsb2.extBut _ _ D.TOz.symm (hsa2.extBut _ _ D.i2z.symm (hsb1.extBut _ _ D.TOz.symm (hsa1.extBut _ _ D.i1z.symm hz₁))))
 have hkG:∀c o,c≠z->c≠TO->c≠i1->c≠i2->s.heap.get? c=some o->hb2.get? c=some o:=fun c o c1 c2 d1 d2 e=>(hsb2.extBut _ _ c2 (hsa2.extBut _ _ d2 (hsb1.extBut _ _ c2 (hsa1.extBut _ _ d1 (hs₁.extBut _ _ c1 e)))))
 have hiG1:ItAt k1 hb2 i1 l1 (k+1):=(((hi1.at fun o e=>hsb1.extBut _ o D.i1TO e).at fun o e=>hsa2.extBut _ o D.i2i1.symm e).at fun o e=>hsb2.extBut _ o D.i1TO e)
 have hiG2:ItAt k2 hb2 i2 l2 (k+1):=(hi2.at fun o e=>hsb2.extBut _ o D.i2TO e)
 have hzlt:z < hb2.objs.size:=Heap.lt_size hzG
 show wpAny _ _ (Builtin.SmallTypes.ownedTupleHandOut (.ref z) (.ref hb2.objs.size) >>= _) _ _ _
 refine wpAny_bind ?_
 unfold Builtin.SmallTypes.ownedTupleHandOut
 have hz₆:IsZip (hb2.push { cls:=.type "tuple",data:=.seq #[x1,x2] }) z TI TO .ellipsis:=Heap.get?_push_of_some _ hzG
 refine wpAny_bind (wpAny_setField_rec hz₆ (by simp) fun h₇ hz₇ hs₇=>?_)
 replace hz₇:IsZip h₇ z TI TO (rawInt hb2.objs.size):=hz₇
 refine wpAny_setField_rec hz₇ (by simp) fun h₈ hz₈ hs₈=>?_
 replace hz₈:IsZip h₈ z TI TO (rawInt hb2.objs.size):=hz₈
 have up:∀c o,c≠z->hb2.get? c=some o->h₈.get? c=some o:=fun c o c1 e=>hs₈.extBut _ _ c1 (hs₇.extBut _ _ c1 (Heap.get?_push_of_some _ e))
 have hT₈:IsTup2 h₈ hb2.objs.size x1 x2:=hs₈.extBut _ _ (Nat.ne_of_gt hzlt) (hs₇.extBut _ _ (Nat.ne_of_gt hzlt) (Heap.get?_push_size _ rfl))
 have hz8:h₈.objs.size=hb2.objs.size+1:=by rw[hs₈.1,hs₇.1,Heap.size_push]
 rw[hsz]at hz₈ hT₈ hz8
 refine wpAny_pure ⟨_,rfl,?_⟩
 show Q (.ref hb2.objs.size) _
 rw[hsz]
 exact hQ h₈ hz₈ (up _ _ D.TOz hTOb2) (hiG1.at fun o e=>up _ o D.i1z e) (hiG2.at fun o e=>up _ o D.i2z e) hT₈ hz8 fun c o c1 c2 d1 d2 e=>up c o c1 (hkG c o c1 c2 d1 d2 e)
theorem zipn_end2{z TI TO i1 i2 l1 l2:Addr}{k:Nat}{k1:Kd}{k2:Kd}{xs1 xs2:Array Value}{a1 a2:Value}{Q:Fin->Shared->Prop}(hh:A.handled=none)(D:ZAp2 z TI TO i1 i2 l1 l2)
  (hz:IsZip s.heap z TI TO .none) (hTI:IsTup2 s.heap TI (.ref i1) (.ref i2)) (hTO:IsTup2 s.heap TO a1 a2)
  (h1:ItAt k1 s.heap i1 l1 k) (h2:ItAt k2 s.heap i2 l2 k) (hl1:SqAt k1 s.heap l1 xs1) (hl2:SqAt k2 s.heap l2 xs2) (hend:xs1[k]?=none\/xs2[k]?=none)
  (hE:∀h' e,(∀c o,c≠z->c≠TO->c≠i1->c≠i2->s.heap.get? c=some o->h'.get? c=some o)->(∃o,h'.get? e=some o/\o.cls=.type "StopIteration")->E (.ref e) { s with heap:=h' }) :
  wpAny (model prog w) A (Builtin.«zip.__next__» ⟨[.ref z],[]⟩) Q E s:=by
 show wpAny _ _ (field (.ref z) 2 >>= _) _ _ _
 refine wpAny_bind (wpAny_field hz rfl (x:=.bool false) rfl ?_)
 show wpAny _ _ (field (.ref z) 3 >>= _) _ _ _
 refine wpAny_bind (wpAny_field hz rfl (x:=.ref TI) rfl ?_)
 refine wpAny_bind (wpAny_seqItems hTI rfl ?_)
 show wpAny _ _ (Builtin.SmallTypes.ownedTupleIsFree (.ref z) >>= _) _ _ _
 refine wpAny_bind ?_
 unfold Builtin.SmallTypes.ownedTupleIsFree
 refine wpAny_bind (wpAny_field hz rfl (x:=.none) rfl (wpAny_pure ?_))
 simp only[if_true]
 refine wpAny_bind (wpAny_rule ?_)
 refine wpAny_bind (wpAny_field hz rfl (x:=.ref TO) rfl ?_)
 refine wpAny_bind (wpAny_setField_rec hz (by simp) fun h₁ hz₁ hs₁=>?_)
 replace hz₁:IsZip h₁ z TI TO .ellipsis:=hz₁
 refine wpAny_bind ?_
 simp only[List.zipIdx_cons,List.zipIdx_nil,List.forIn_cons,List.forIn_nil]
 refine wpAny_bind (wpAny_bind (wpAny_onRaise ?_))
 show wpAny _ _ (Builtin.SmallTypes.nextOf (.ref i1) >>= _) _ _ _
 cases hx1:xs1[k]? with
 | none =>
  refine wpAny_bind (nextOf_end hh (h1.at fun o e=>hs₁.extBut _ o D.i1z e) (hl1.at fun o e=>hs₁.extBut _ o D.l1z e) hx1 fun hq e hsq he=>?_)
  obtain⟨oe,hoe,hce⟩:=he
  have hzq:IsZip hq z TI TO .ellipsis:=hsq _ _ D.i1z.symm hz₁
  have hez:e≠z:=fun x=>by subst x;rw[hzq]at hoe;cases hoe;simp at hce
  refine wpAny_setField_rec hzq (by simp) fun h₉ _ hs₉=>hE h₉ e (fun c o c1 c2 d1 d2 x=>hs₉.extBut _ _ c1 (hsq _ _ d1 (hs₁.extBut _ _ c1 x))) ⟨oe,hs₉.extBut _ _ hez hoe,hce⟩
 | some x1 =>
  refine wpAny_bind (nextOf_item (h1.at fun o e=>hs₁.extBut _ o D.i1z e) (hl1.at fun o e=>hs₁.extBut _ o D.l1z e) hx1 fun ha1 hi1 hsa1=>wpAny_pure ?_)
  have hTOa1:IsTup2 ha1 TO a1 a2:=hsa1.extBut _ _ D.i1TO.symm (hs₁.extBut _ _ D.TOz hTO)
  refine wpAny_bind (wpAny_seqItems hTOa1 rfl ?_)
  refine wpAny_bind (upSeq2 hTOa1 fun hb1 hTOb1 hsb1=>?_)
  replace hTOb1:IsTup2 hb1 TO x1 a2:=hTOb1
  refine wpAny_bind (wpAny_letGo (wpAny_pure ?_))
  refine wpAny_bind (wpAny_bind (wpAny_onRaise ?_))
  show wpAny _ _ (Builtin.SmallTypes.nextOf (.ref i2) >>= _) _ _ _
  have hx2:xs2[k]?=none:=by
   rcases hend with h|h
   ·rw[hx1]at h;cases h
   ·exact h
  refine wpAny_bind (nextOf_end hh (((h2.at fun o e=>hs₁.extBut _ o D.i2z e).at fun o e=>hsa1.extBut _ o D.i2i1 e).at fun o e=>hsb1.extBut _ o D.i2TO e) (((hl2.at fun o e=>hs₁.extBut _ o D.l2z e).at fun o e=>hsa1.extBut _ o D.l2i1 e).at fun o e=>hsb1.extBut _ o D.l2TO e) hx2 fun hq e hsq he=>?_)
  obtain⟨oe,hoe,hce⟩:=he
  have hzq:IsZip hq z TI TO .ellipsis:=hsq _ _ D.i2z.symm (hsb1.extBut _ _ D.TOz.symm (hsa1.extBut _ _ D.i1z.symm hz₁))
  have hez:e≠z:=fun x=>by subst x;rw[hzq]at hoe;cases hoe;simp at hce
  refine wpAny_setField_rec hzq (by simp) fun h₉ _ hs₉=>hE h₉ e (fun c o c1 c2 d1 d2 x=>hs₉.extBut _ _ c1 (hsq _ _ d2 (hsb1.extBut _ _ c2 (hsa1.extBut _ _ d1 (hs₁.extBut _ _ c1 x))))) ⟨oe,hs₉.extBut _ _ hez hoe,hce⟩
theorem next_zip_item2{z TI TO i1 i2 l1 l2:Addr}{k:Nat}{k1:Kd}{k2:Kd}{xs1 xs2:Array Value}{a1 a2:Value}{x1 x2:Value}{Q:Option Value->Shared->Prop}(D:ZAp2 z TI TO i1 i2 l1 l2)
  (hz:IsZip s.heap z TI TO .none) (hTI:IsTup2 s.heap TI (.ref i1) (.ref i2)) (hTO:IsTup2 s.heap TO a1 a2)
  (h1:ItAt k1 s.heap i1 l1 k) (h2:ItAt k2 s.heap i2 l2 k) (hl1:SqAt k1 s.heap l1 xs1) (hl2:SqAt k2 s.heap l2 xs2) (hx1:xs1[k]?=some x1) (hx2:xs2[k]?=some x2)
  (hQ:∀h',IsZip h' z TI TO (rawInt s.heap.objs.size)->IsTup2 h' TO x1 x2->ItAt k1 h' i1 l1 (k+1)->ItAt k2 h' i2 l2 (k+1)->IsTup2 h' s.heap.objs.size x1 x2->h'.objs.size=s.heap.objs.size+1 ->
    (∀c o,c≠z->c≠TO->c≠i1->c≠i2->s.heap.get? c=some o->h'.get? c=some o)->Q (some (.ref s.heap.objs.size)) { s with heap:=h' }) :
  wpAny (model prog w) A (pyNext (.ref z)) Q E s:=by
 have hT:s.TypeIs (.ref z) "zip":=⟨_,hz,rfl⟩
 unfold pyNext
 exact wpAny_bind (wpAny_attempt (wpAny_callSpecial?_slot (name:=Str.ofString "__next__") hT F.slot_zip_next
   (wpAny_call_entry F.slot_zip_next hT F.entry_zip_next
     (zipn_item2 D hz hTI hTO h1 h2 hl1 hl2 hx1 hx2 fun h' a1 a2 b1 b2 a5 a6 a7=>wpAny_pure (hQ h' a1 a2 b1 b2 a5 a6 a7)) (F.args_zip_next_1 _))))
theorem next_zip_end2{z TI TO i1 i2 l1 l2:Addr}{k:Nat}{k1:Kd}{k2:Kd}{xs1 xs2:Array Value}{a1 a2:Value}{Q:Option Value->Shared->Prop}(hh:A.handled=none)(D:ZAp2 z TI TO i1 i2 l1 l2)
  (hz:IsZip s.heap z TI TO .none) (hTI:IsTup2 s.heap TI (.ref i1) (.ref i2)) (hTO:IsTup2 s.heap TO a1 a2)
  (h1:ItAt k1 s.heap i1 l1 k) (h2:ItAt k2 s.heap i2 l2 k) (hl1:SqAt k1 s.heap l1 xs1) (hl2:SqAt k2 s.heap l2 xs2) (hend:xs1[k]?=none\/xs2[k]?=none)
  (hQ:∀h',(∀c o,c≠z->c≠TO->c≠i1->c≠i2->s.heap.get? c=some o->h'.get? c=some o)->Q none { s with heap:=h' }):wpAny (model prog w) A (pyNext (.ref z)) Q E s:=by
 have hT:s.TypeIs (.ref z) "zip":=⟨_,hz,rfl⟩
 unfold pyNext
 refine wpAny_bind (wpAny_attempt (wpAny_callSpecial?_slot (name:=Str.ofString "__next__") hT F.slot_zip_next
   (wpAny_call_entry F.slot_zip_next hT F.entry_zip_next (zipn_end2 hh D hz hTI hTO h1 h2 hl1 hl2 hend fun h' e hk he=>?_) (F.args_zip_next_1 _))))
 obtain⟨o,ho,hc⟩:=he
 refine wpAny_bind (wpAny_isInstance (T:="StopIteration") (b:=true) ⟨o,ho,hc⟩ isSubtype_stop ?_)
 exact wpAny_pure (hQ _ hk)
end
noncomputable abbrev zh2I(h:Heap)(k1:Kd)(k2:Kd)(l1 l2:Addr):Heap:=((h.push (itObj k1 l1)).push (itObj k2 l2))
noncomputable abbrev zh2T(h:Heap)(k1:Kd)(k2:Kd)(l1 l2:Addr):Heap:=(zh2I h k1 k2 l1 l2).push { cls:=.type "tuple",data:=.seq #[.ref h.objs.size,.ref (h.push (itObj k1 l1)).objs.size] }
noncomputable abbrev zh2O(h:Heap)(k1:Kd)(k2:Kd)(l1 l2:Addr):Heap:=(zh2T h k1 k2 l1 l2).push { cls:=.type "tuple",data:=.seq #[.none,.none] }
noncomputable abbrev zh2Z(h:Heap)(k1:Kd)(k2:Kd)(l1 l2:Addr):Heap:=(zh2O h k1 k2 l1 l2).push { cls:=.type "zip",data:=.fields #[.none,.bool false,.bool false,.ref (zh2I h k1 k2 l1 l2).objs.size,.ref (zh2T h k1 k2 l1 l2).objs.size] }
theorem zip_new2(k1:Kd)(k2:Kd)(l1 l2:Addr)(xs1 xs2:Array Value) :
  Meets (Builtin.«zip.__new__» ⟨[.type "zip",.ref l1,.ref l2],[]⟩) (fun _ R s=>SqAt k1 s.heap l1 xs1/\SqAt k2 s.heap l2 xs2 /\
    R (.ok (.ret (.ref (zh2O s.heap k1 k2 l1 l2).objs.size))) { s with heap:=zh2Z s.heap k1 k2 l1 l2 }) :=
 .of_wp fun prog w A R s h=>by
  obtain⟨hp,g,d,tk,os⟩:=s;obtain⟨hl1,hl2,h⟩:=h
  have hsub:=sub_zip
  have hL1:SqAt k1 (Shared.heap ⟨hp,g,d,tk,os⟩) l1 xs1:=hl1
  have hL2:SqAt k2 (Shared.heap ⟨(hp.push (itObj k1 l1)),g,d,tk,os⟩) l2 xs2:=(SqAt.at hl2 fun o e=>Heap.get?_push_of_some _ e)
  wp_walk using iter_at hL1,iter_at hL2
  exact ⟨_,rfl,h⟩
structure ZAp3(z TI TO i1 i2 i3 l1 l2 l3:Addr):Prop where
 TIz:TI≠z
 TOz:TO≠z
 i1z:i1≠z
 i2z:i2≠z
 i3z:i3≠z
 TOTI:TO≠TI
 i1TI:i1≠TI
 i2TI:i2≠TI
 i3TI:i3≠TI
 i1TO:i1≠TO
 i2TO:i2≠TO
 i3TO:i3≠TO
 i2i1:i2≠i1
 i3i1:i3≠i1
 i3i2:i3≠i2
 l1z:l1≠z
 l1TO:l1≠TO
 l1i1:l1≠i1
 l1i2:l1≠i2
 l1i3:l1≠i3
 l2z:l2≠z
 l2TO:l2≠TO
 l2i1:l2≠i1
 l2i2:l2≠i2
 l2i3:l2≠i3
 l3z:l3≠z
 l3TO:l3≠TO
 l3i1:l3≠i1
 l3i2:l3≠i2
 l3i3:l3≠i3
section
variable {prog:Program}{w:World}{A:Around}{E:Value->Shared->Prop}{s:Shared}
end
inductive Ki where|non|bl|int|str|lst|tup|dct
 deriving DecidableEq
noncomputable def Ki.nm:Ki->String
 | .non=>"NoneType" | .bl=>"bool" | .int=>"int" | .str=>"str" | .lst=>"list" | .tup=>"tuple" | .dct=>"dict"
noncomputable def KiOf(K:PySem.W.Frag)(H:Hp):V->Ki->Prop
 | .non,k=>k=.non
 | .bl _,k=>k=.bl
 | .int _,k=>k=.int
 | .str _,k=>k=.str
 | .ref a,k=>(k=.lst/\∃xs,SqL K H a xs)\/(k=.tup/\∃xs,SqT K H a xs)\/(k=.dct/\((∃kvs,H a=some (.dK kvs))\/∃kvs,H a=some (.dT kvs)))
 | _,_=>False
noncomputable def Ki.sub:Ki->Ki->Bool
 | .bl,.int=>true
 | a,b=>decide (a=b)
theorem KiOf.typeIs{X:Cx}{pins:List (Addr×Obj)}{σ:St}{H:Hp}{s:Shared}{x:V}{u:Value}{k:Ki}(I:Inv X pins σ H s)(h:KiOf X.K H x k)(r:RelV x u):s.TypeIs u k.nm:=by
 cases x with
 | non=>cases h;cases r;rfl
 | bl b=>cases h;cases r;rfl
 | int i=>cases h;obtain⟨t,rfl⟩:=r;rfl
 | str i=>cases h;obtain⟨t,rfl⟩:=r;rfl
 | ref a =>
  cases r
  rcases h with⟨rfl,xs,hq⟩|⟨rfl,xs,hq⟩|⟨rfl,⟨kvs,hq⟩|⟨kvs,hq⟩⟩
  ·obtain⟨its,_,⟨o,n,e,c,_⟩,_⟩:=I.list hq
   exact ⟨o,e,c⟩
  ·obtain⟨its,_,⟨o,e,c,_⟩,_⟩:=I.tuple hq
   exact ⟨o,e,c⟩
  ·obtain⟨_,_,_,_,o,es,ep,e,c,_⟩:=I.hok a _ hq
   exact ⟨o,e,c.1⟩
  ·obtain⟨_,_,_,_,o,es,ep,e,c,_⟩:=I.hok a _ hq
   exact ⟨o,e,c.1⟩
 | byt _=>cases h
 | flt _=>cases h
 | ty _=>cases h
theorem ki_meta(T:Ki):typeOf (.type T.nm)=pure (.type "type"):=by
 cases T
 ·exact F.isi_meta_NoneType
 ·exact F.isi_meta_bool
 ·exact F.isi_meta_int
 ·exact F.isi_meta_str
 ·exact F.isi_meta_list
 ·exact F.isi_meta_tuple
 ·exact F.isi_meta_dict
theorem ki_sub(k T:Ki):isSubtype (.type k.nm) (.type T.nm)=pure (k.sub T):=by
 cases k<;>cases T<;>(show isSubtype (.type _) (.type _)=pure _;rw[isSubtype_type];kernel_rfl)
theorem ki_ne(k T:Ki)(h:k.sub T=false):(Value.type k.nm==Value.type T.nm)=false:=by
 cases k<;>cases T<;>first|(exfalso;revert h;decide)|decide +kernel
noncomputable def rIsi(K:PySem.W.Frag):List V->Hp->VK->Prop:=fun xs H Q=>∃(x:V) (k:Ki) (T:Ki),xs=[x,.ty T.nm]/\KiOf K H x k/\Q (.bl (k.sub T)) H
theorem call_isi{X:Cx}:CallR X (.builtin "isinstance") (rIsi X.K):=by
 intro pins s σ H xs us Q I r h
 obtain⟨x,k,T,rfl,hk,q⟩:=h
 obtain⟨u,w',rfl,ru,rw'⟩:=vals2 r
 obtain rfl:w'=.type T.nm:=rw'
 have ht:=hk.typeIs I ru
 cases hs:k.sub T with
 | true =>
  rw[hs]at q
  exact call_isinstance (isinstance_true (Tx:=k.nm) (ki_meta T) (by rw[ki_sub,hs])) ⟨ht,.bl true,H,I,rfl,q⟩
 | false =>
  rw[hs]at q
  have hsub:isSubtype (.type k.nm) (.type T.nm)=pure false:=by rw[ki_sub,hs]
  have hne:=ki_ne k T hs
  have fin:EP X pins σ Q (.bool false) { s with toks:=s.toks+1 }:=⟨.bl false,H,I.tok _,rfl,q⟩
  cases x with
  | non=>cases hk;cases ru;exact call_isinstance (isinstance_false_none hne (ki_meta T) hsub) fin
  | bl b=>cases hk;cases ru;exact call_isinstance (isinstance_false_bool hne (ki_meta T) hsub) fin
  | int i=>cases hk;obtain⟨t,rfl⟩:=ru;exact call_isinstance (isinstance_false_int hne (ki_meta T) hsub) fin
  | str i=>cases hk;obtain⟨t,rfl⟩:=ru;exact call_isinstance (isinstance_false_str hne (ki_meta T) hsub) fin
  | ref a =>
   cases ru
   rcases hk with⟨rfl,_⟩|⟨rfl,_⟩|⟨rfl,_⟩
   ·exact call_isinstance (isinstance_false_list hne (ki_meta T) hsub) ⟨ht,fin⟩
   ·exact call_isinstance (isinstance_false_tuple hne (ki_meta T) hsub) ⟨ht,fin⟩
   ·exact call_isinstance (isinstance_false_dict hne (ki_meta T) hsub) ⟨ht,fin⟩
  | byt _=>cases hk
  | flt _=>cases hk
  | ty _=>cases hk
noncomputable def rAll(K:PySem.W.Frag):List V->Hp->VK->Prop:=fun xs H Q=>∃(a:Addr) (bs:List Bool),xs=[.ref a]/\SqL K H a (bs.map V.bl)/\Q (.bl (bs.all id)) H
theorem vals_boolAt{bs:List Bool}{us:List Value}(r:Vals (bs.map V.bl) us)(i:Nat)(v:Value)(h:us[i]?=some v):∃b,bs[i]?=some b/\v=.bool b:=by
 cases e:bs[i]? with
 | none =>
  have h1:(bs.map V.bl)[i]?=none:=by rw[List.getElem?_map,e];rfl
  rw[r.none_of h1]at h
  cases h
 | some b =>
  obtain⟨u,hu,ru⟩:=r.get (i:=i) (x:=.bl b) (by rw[List.getElem?_map,e];rfl)
  rw[hu]at h
  cases h
  exact ⟨b,rfl,ru⟩
theorem all_range_bs(bs:List Bool):((List.range bs.length).all fun i=>(bs[i]?).getD true)=bs.all id:=by
 rw[Bool.eq_iff_iff,List.all_eq_true,List.all_eq_true]
 constructor
 ·intro h b hb
  obtain⟨i,hi,e⟩:=List.mem_iff_getElem.mp hb
  have:=h i (List.mem_range.mpr hi)
  rw[List.getElem?_eq_getElem hi,Option.getD_some,e]at this
  exact this
 ·intro h i hi
  have hi:=List.mem_range.mp hi
  rw[List.getElem?_eq_getElem hi,Option.getD_some]
  exact h _ (List.getElem_mem hi)
theorem call_all{X:Cx}(hc:X.calm=true):CallR X (.builtin "all") (rAll X.K):=by
 intro pins s σ H xs us Q I r h
 obtain⟨a,bs,rfl,hq,q⟩:=h
 obtain⟨u,rfl,ru⟩:=vals1 r
 cases ru
 obtain⟨its,rv,p,hz⟩:=I.list hq
 have hl:=p.isList
 have hlt:a < s.heap.objs.size:=by obtain⟨_,e,_⟩:=hl;exact Heap.lt_size e
 refine call_all_walk (wpAny_pyIter_list hl ?_)
 refine ⟨s.heap.objs.size,[s.heap.objs.size,a],[s.heap.objs.size],its.toArray.size,_,_,fun i=>(bs[i]?).getD true,rfl,Walks.list (A:=X.A.in1) (I.ok.hd hc) _ a (Nat.ne_of_lt hlt) its.toArray,
   ⟨⟨_,Heap.get?_push_size _ rfl,rfl,rfl⟩,hl.push _⟩,fun i v s' Q' E' hP hQ=>?_,fun h' tk hk=>?_⟩
 ·obtain⟨b,e,rfl⟩:=vals_boolAt rv i v (by simpa using hP)
  simp only[e,Option.getD_some]at hQ
  exact wpAny_truthy_bool hQ
 ·have e:((List.range its.toArray.size).all fun i=>(bs[i]?).getD true)=bs.all id:=by
   have hl2:=rv.length
   rw[List.length_map]at hl2
   rw[List.size_toArray,<- hl2];exact all_range_bs bs
  rw[e]
  refine ⟨.bl (bs.all id),H,I.kept (h':=h') (t':=tk) fun b o eo=>hk b o (fun hm=>?_) (Heap.get?_push_of_some _ eo),rfl,q⟩
  rw[List.mem_singleton.mp hm]at eo
  exact Nat.lt_irrefl _ (Heap.lt_size eo)
noncomputable def Sq(k:Kd)(K:PySem.W.Frag)(H:Hp)(a:Addr)(xs:List V):Prop:=match k with | .l=>SqL K H a xs | .t=>SqT K H a xs
theorem Inv.sq{X:Cx}{pins:List (Addr×Obj)}{σ:St}{H:Hp}{s:Shared}{k:Kd}{a:Addr}{xs:List V}(I:Inv X pins σ H s)(h:Sq k X.K H a xs):∃its:List Value,Vals xs its/\SqAt k s.heap a its.toArray/\xs.length<=sizeLine:=by
 cases k with
 | l=>obtain⟨its,r,p,z⟩:=I.list h;exact ⟨its,r,p.isList,z⟩
 | t=>obtain⟨its,r,p,z⟩:=I.tuple h;exact ⟨its,r,p,z⟩
theorem Inv.sq_inj{X:Cx}{pins:List (Addr×Obj)}{σ:St}{H:Hp}{s:Shared}{k:Kd}{a:Addr}{xs ys:List V}(I:Inv X pins σ H s)(h:Sq k X.K H a xs)(h':Sq k X.K H a ys):xs=ys:=by
 cases k with
 | l=>exact I.list_inj h h'
 | t=>exact I.tuple_inj h h'
noncomputable def Itz2(K:PySem.W.Frag)(k1:Kd)(k2:Kd)(l1 l2:Addr):It :=
 ⟨fun i H=>∃ys1 x1 ys2 x2,Sq k1 K H l1 ys1/\Sq k2 K H l2 ys2/\ys1[i]?=some x1/\ys2[i]?=some x2,
  fun i H x H'=>∃T x1 x2,H T=none/\x=.ref T/\H'=upd H T (.tup [x1,x2])/\(∀ys,Sq k1 K H l1 ys->ys[i]?=some x1)/\(∀ys,Sq k2 K H l2 ys->ys[i]?=some x2),
  fun i H=>∃ys1 ys2,Sq k1 K H l1 ys1/\Sq k2 K H l2 ys2/\(ys1.length<=i\/ys2.length<=i)⟩
theorem turn_zip2{P:Program}{w:World}{K:PySem.W.Frag}{es:List Expr}{kk:Nat}{pos:Pos}(k1:Kd)(k2:Kd)(z TI TO i1 i2 l1 l2:Addr)(D:ZAp2 z TI TO i1 i2 l1 l2):Turn P w K (.Tuple es kk pos) (Itz2 K k1 k2 l1 l2) [z,TI,TO,i1,i2] z
  (fun i h=>IsZip h z TI TO .none/\IsTup2 h TI (.ref i1) (.ref i2)/\(∃a1 a2,IsTup2 h TO a1 a2)/\ItAt k1 h i1 l1 i/\ItAt k2 h i2 l2 i) where
 mem:=by simp
 obj:=fun i h st b hb=>by
  obtain⟨hz,hTI,⟨a1,a2,hTO⟩,t1,t2⟩:=st
  have hb:b=z\/b=TI\/b=TO\/b=i1\/b=i2:=by simpa using hb
  rcases hb with rfl|rfl|rfl|rfl|rfl
  ·exact ⟨_,hz,fun v e=>by cases e⟩
  ·exact ⟨_,hTI,fun v e=>by cases e⟩
  ·exact ⟨_,hTO,fun v e=>by cases e⟩
  ·exact t1.obj
  ·exact t2.obj
 keep:=fun i h h' st k=>by
  obtain⟨hz,hTI,⟨a1,a2,hTO⟩,t1,t2⟩:=st
  exact ⟨k _ (by simp) _ hz,k _ (by simp) _ hTI,⟨a1,a2,k _ (by simp) _ hTO⟩,t1.at fun o e=>k _ (by simp) _ e,t2.at fun o e=>k _ (by simp) _ e⟩
 item:=by
  intro X hP hw hK hc i pins s σ H E I hf st hg
  subst hP hw hK
  obtain⟨hz,hTI,⟨a1,a2,hTO⟩,t1,t2⟩:=st
  obtain⟨ys1,x1,ys2,x2,q1,q2,e1,e2⟩:=hg
  obtain⟨its1,rv1,p1,z1⟩:=I.sq q1
  obtain⟨u1,hu1,ru1⟩:=rv1.get e1
  obtain⟨its2,rv2,p2,z2⟩:=I.sq q2
  obtain⟨u2,hu2,ru2⟩:=rv2.get e2
  refine next_zip_item2 D hz hTI hTO t1 t2 p1 p2 (show its1.toArray[i]?=some u1 by simpa using hu1) (show its2.toArray[i]?=some u2 by simpa using hu2) fun h' b1 b2 c1 c2 b5 b6 b7=>?_
  have hTn:s.heap.objs.size≠z:=Nat.ne_of_gt (Heap.lt_size hz)
  refine ⟨_,rfl,wpAny_letOwnedTupleGo_zip (s:={ s with heap:=h' }) b1 fun h2 hz2 hs2=>?_⟩
  have kp:∀b o,b∉[z,TI,TO,i1,i2]->s.heap.get? b=some o->h2.get? b=some o:=fun b o hb e=>by
   have hb:b≠z/\b≠TI/\b≠TO/\b≠i1/\b≠i2:=by simpa using hb
   obtain⟨g1,g2,g3,f1,f2⟩:=hb
   exact hs2.extBut _ _ g1 (b7 b o g1 g3 f1 f2 e)
  have hTI2:IsTup2 h2 TI (.ref i1) (.ref i2):=hs2.extBut _ _ D.TIz (b7 TI _ D.TIz (Ne.symm D.TOTI) (Ne.symm D.i1TI) (Ne.symm D.i2TI) hTI)
  have hT2:IsTup2 h2 s.heap.objs.size u1 u2:=hs2.extBut _ _ hTn b5
  have hfr:H s.heap.objs.size=none:=I.hok.fresh (Nat.le_refl _)
  have I2:Inv X pins σ (upd H s.heap.objs.size (.tup [x1,x2])) { s with heap:=h2 }:=by
   have nfp:∀b u,H b=some u->b∉[z,TI,TO,i1,i2]:=fun b u e hb=>by have:=(hf b hb).1;rw[e]at this;cases this
   refine I.step (g':=s.gens) (d':=s.drawn) (ch:=[z,TI,TO,i1,i2]) (fun b hb=>?_) (fun b o _ _ hc' e _=>kp b o hc' e) (fun b o _ _ hc' e _=>⟨o.slots,kp b o hc' e⟩) (fun b o _ e n=>?_)
    (fun b o hc' e=>⟨o,kp b o hc' e⟩) (fun b xs e=>?_) (fun b o xs e=>?_) (fun b ps e=>⟨#[],?_⟩) (fun m hm=>?_) (fun b o e=>?_) I.bare
   ·obtain⟨f0,f1,f2,f3,f4,f5⟩:=hf b hb
    exact ⟨f3,f1,f4,f5⟩
   ·rw[upd_ne (Nat.ne_of_lt (Heap.lt_size e))];exact n
   ·rw[upd_ne (ne_of_none e hfr)];exact e
   ·rw[upd_ne (ne_of_none e hfr)];exact e
   ·rw[upd_ne (ne_of_none e hfr),e];simp
   ·obtain⟨o,es',ep,ho,r⟩:=hm
    exact ⟨o,es',ep,kp _ o (fun hb=>(hf _ hb).2.1 rfl) ho,r⟩
   ·by_cases hb:b=s.heap.objs.size
    ·subst hb
     rw[upd_same]at e
     cases e
     exact ⟨by show 2<=sizeLine;decide,[u1,u2],.cons ru1 (.cons ru2 .nil),_,hT2,rfl,_,rfl,rfl⟩
    ·rw[upd_ne hb]at e
     refine (I.hok b o e).stay (fun c v hc' q=>kp c v ?_ q) (fun c q=>by rw[upd_ne (ne_of_none q hfr)];exact q) fun c xs q=>by rw[upd_ne (ne_of_none q hfr)];exact q
     rcases hc' with rfl|hc'
     ·exact nfp _ _ e
     ·exact nfp _ _ hc'
  refine ⟨.ref s.heap.objs.size,_,I2,rfl,⟨_,x1,x2,hfr,rfl,rfl,(fun ys hy=>by rw[I.sq_inj hy q1];exact e1),(fun ys hy=>by rw[I.sq_inj hy q2];exact e2)⟩,⟨hz2,hTI2,⟨u1,u2,hs2.extBut _ _ D.TOz b2⟩,c1.at fun o e=>hs2.extBut _ _ D.i1z e,c2.at fun o e=>hs2.extBut _ _ D.i2z e⟩,fun b hb=>?_⟩
  rw[upd_ne ?_]
  ·exact (hf b hb).1
  ·intro e
   subst e
   have hb:s.heap.objs.size=z\/s.heap.objs.size=TI\/s.heap.objs.size=TO\/s.heap.objs.size=i1\/s.heap.objs.size=i2:=by simpa using hb
   rcases hb with e|e|e|e|e
   ·exact hTn e
   ·exact Nat.ne_of_gt (Heap.lt_size hTI) e
   ·exact Nat.ne_of_gt (Heap.lt_size hTO) e
   ·obtain⟨o,eo,_⟩:=t1.obj
    exact Nat.ne_of_gt (Heap.lt_size eo) e
   ·obtain⟨o,eo,_⟩:=t2.obj
    exact Nat.ne_of_gt (Heap.lt_size eo) e
 done:=by
  intro X hP hw hK hc i pins s σ H E I hf st hg
  subst hP hw hK
  obtain⟨hz,hTI,⟨a1,a2,hTO⟩,t1,t2⟩:=st
  obtain⟨ys1,ys2,q1,q2,hend⟩:=hg
  obtain⟨its1,rv1,p1,z1⟩:=I.sq q1
  have len1:=rv1.length
  obtain⟨its2,rv2,p2,z2⟩:=I.sq q2
  have len2:=rv2.length
  refine next_zip_end2 (I.ok.hd hc) D hz hTI hTO t1 t2 p1 p2 ?_ fun h' kp=>⟨rfl,?_⟩
  ·rcases hend with h|h
   ·exact .inl (by simp;omega)
   ·exact .inr (by simp;omega)
  ·have nfp:∀b u,H b=some u->b∉[z,TI,TO,i1,i2]:=fun b u e hb=>by have:=(hf b hb).1;rw[e]at this;cases this
   have kp':∀b o,b∉[z,TI,TO,i1,i2]->s.heap.get? b=some o->h'.get? b=some o:=fun b o hb e=>by
    have hb:b≠z/\b≠TI/\b≠TO/\b≠i1/\b≠i2:=by simpa using hb
    obtain⟨g1,g2,g3,f1,f2⟩:=hb
    exact kp b o g1 g3 f1 f2 e
   refine I.step (g':=s.gens) (d':=s.drawn) (ch:=[z,TI,TO,i1,i2]) (fun b hb=>?_) (fun b o _ _ hc' e _=>kp' b o hc' e) (fun b o _ _ hc' e _=>⟨o.slots,kp' b o hc' e⟩) (fun b o _ e n=>n)
    (fun b o hc' e=>⟨o,kp' b o hc' e⟩) (fun b xs e=>e) (fun b o xs e=>e) (fun b ps e=>⟨#[],by rw[e];simp⟩) (fun m hm=>?_) (fun b o e=>?_) I.bare
   ·obtain⟨f0,f1,f2,f3,f4,f5⟩:=hf b hb
    exact ⟨f3,f1,f4,f5⟩
   ·obtain⟨o,es',ep,ho,r⟩:=hm
    exact ⟨o,es',ep,kp' _ o (fun hb=>(hf _ hb).2.1 rfl) ho,r⟩
   ·refine (I.hok b o e).stay (fun c v hc' q=>kp' c v ?_ q) (fun _ q=>q) fun _ _ q=>q
    rcases hc' with rfl|hc'
    ·exact nfp _ _ e
    ·exact nfp _ _ hc'
 self:=fun _ _ _ _ _ st h=>wpAny_pyIter_zip st.1 h
noncomputable def iZip2(K:PySem.W.Frag)(ta:TA):TI:=fun σ H R=>ta σ H fun vs H1=>∃(k1:Kd) (l1:Addr) (ys1:List V) (k2:Kd) (l2:Addr) (ys2:List V),vs=[.ref l1,.ref l2]/\Sq k1 K H1 l1 ys1/\Sq k2 K H1 l2 ys2/\R (Itz2 K k1 k2 l1 l2) H1
theorem pi_zip2{X:Cx}{es:List Expr}{kk:Nat}{tpos:Pos}{a b:Expr}{ta:TA}{p pos:Pos}(hg:Gl X "zip")(hm:X.mg "zip"=none)(ha:PA X [a,b] ta)(hs:starEach [a,b] X.env=(false,eval a X.env) :: starEach [b] X.env:=by rfl)(hpl:(backTo pos (starEach [b] X.env)).any (·.1)=false:=by rfl) :
  PI X (.Tuple es kk tpos) (.Call (.Name "zip" p) [a,b] [] pos) (iZip2 X.K ta):=by
 intro pins s σ H R I h
 refine Call_ (ld_blt I hg hm boot_zip (PyProof.Rows.callWith_type1 (thn (ha pos pins s σ H _ I h) fun us s1 ⟨vs,H1,I1,r1,q1⟩=>?_) hs hpl))
 obtain⟨k1,l1,ys1,k2,l2,ys2,e,q1,q2,q⟩:=q1
 subst e
 obtain rfl:us=[.ref l1,.ref l2]:=by
  cases r1 with|cons r rr=>cases r;cases rr with|cons r rr=>cases r;cases rr;rfl
 obtain⟨its1,rv1,p1,z1⟩:=I1.sq q1
 obtain⟨its2,rv2,p2,z2⟩:=I1.sq q2
 have lt:∀{k:Kd}{l:Addr}{xs:Array Value},SqAt k s1.heap l xs->l < s1.heap.objs.size:=fun {k l xs} p=>by
  cases k with
  | l=>obtain⟨o,e,_⟩:=p;exact Heap.lt_size e
  | t=>obtain⟨o,e,_⟩:=p;exact Heap.lt_size e
 refine callType_new F.called_zip (by decide) (F.typeCall_zip_2 _ _) (F.newCall_zip_2 _ _) (fun obj=>F.args_object_init_3 obj _ _) F.entry_zip_new (zip_new2 k1 k2 l1 l2 its1.toArray its2.toArray) ⟨p1,p2,?_⟩
 have zI:(zh2I s1.heap k1 k2 l1 l2).objs.size=s1.heap.objs.size+2:=by simp[Heap.size_push]
 have zT:(zh2T s1.heap k1 k2 l1 l2).objs.size=s1.heap.objs.size+3:=by simp[Heap.size_push]
 have zO:(zh2O s1.heap k1 k2 l1 l2).objs.size=s1.heap.objs.size+4:=by simp[Heap.size_push]
 have gZ:(zh2Z s1.heap k1 k2 l1 l2).get? (zh2O s1.heap k1 k2 l1 l2).objs.size=some _:=Heap.get?_push_size _ rfl
 have gO:(zh2Z s1.heap k1 k2 l1 l2).get? (zh2T s1.heap k1 k2 l1 l2).objs.size=some _:=Heap.get?_push_of_some _ (Heap.get?_push_size _ rfl)
 have gT:(zh2Z s1.heap k1 k2 l1 l2).get? (zh2I s1.heap k1 k2 l1 l2).objs.size=some _:=Heap.get?_push_of_some _ (Heap.get?_push_of_some _ (Heap.get?_push_size _ rfl))
 have g1:(zh2Z s1.heap k1 k2 l1 l2).get? s1.heap.objs.size=some (itObj k1 l1):=Heap.get?_push_of_some _ (Heap.get?_push_of_some _ (Heap.get?_push_of_some _ (Heap.get?_push_of_some _ (Heap.get?_push_size _ (by cases k1<;>rfl)))))
 have g2:(zh2Z s1.heap k1 k2 l1 l2).get? (s1.heap.push (itObj k1 l1)).objs.size=some (itObj k2 l2):=Heap.get?_push_of_some _ (Heap.get?_push_of_some _ (Heap.get?_push_of_some _ (Heap.get?_push_size _ (by cases k2<;>rfl))))
 have zz2:(s1.heap.push (itObj k1 l1)).objs.size=s1.heap.objs.size+1:=by simp[Heap.size_push]
 rw[zO,zT,zI]at gZ
 rw[zI,zz2]at gT
 rw[zT]at gO
 rw[zz2]at g2
 show _/\_
 rw[zO]
 have kp:∀b o,s1.heap.get? b=some o->(zh2Z s1.heap k1 k2 l1 l2).get? b=some o:=fun b o e=>Heap.get?_push_of_some _ (Heap.get?_push_of_some _ (Heap.get?_push_of_some _ (Heap.get?_push_of_some _ (Heap.get?_push_of_some _ (e)))))
 refine ⟨⟨_,gZ,rfl⟩,wpAny_pyIter_zip (s:={ s1 with heap:=zh2Z s1.heap k1 k2 l1 l2 }) gZ ?_⟩
 refine ⟨_,[s1.heap.objs.size+4,s1.heap.objs.size+2,s1.heap.objs.size+3,s1.heap.objs.size,s1.heap.objs.size+1],_,_,H1,rfl,I1.kept (t':=s1.toks) kp,turn_zip2 k1 k2 _ _ _ _ _ l1 l2 (zap2 _ l1 l2 (lt p1) (lt p2)),⟨gZ,gT,⟨_,_,gO⟩,ItAt.new k1 g1,ItAt.new k2 g2⟩,fun b hb=>?_,q⟩
 have hb:s1.heap.objs.size<=b:=by
  have hb:b=s1.heap.objs.size+4\/b=s1.heap.objs.size+2\/b=s1.heap.objs.size+3\/b=s1.heap.objs.size\/b=s1.heap.objs.size+1:=by simpa using hb
  rcases hb with rfl|rfl|rfl|rfl|rfl
  all_goals first|exact Nat.le_add_right _ _|exact Nat.le_refl _
 exact I1.fpOk hb (I1.hok.fresh hb)
mutual
inductive Is (K:PySem.W.Frag) (H:Hp):V->PyData->Prop
 | non:Is K H .non .none
 | bl (b):Is K H (.bl b) (.bool b)
 | int (i):Is K H (.int i) (.int i)
 | str (x):Is K H (.str x) (.str x)
 | lst {a xs ds}:SqL K H a xs->IsAll K H xs ds->Is K H (.ref a) (.list ds)
 | tup {a xs ds}:SqT K H a xs->IsAll K H xs ds->Is K H (.ref a) (.tuple ds)
inductive IsAll (K:PySem.W.Frag) (H:Hp):List V->List PyData->Prop
 | nil:IsAll K H [] []
 | cons {x xs d ds}:Is K H x d->IsAll K H xs ds->IsAll K H (x :: xs) (d :: ds)
end
section
variable {X:Cx}{pins:List (Addr×Obj)}{σ:St}{H:Hp}{s:Shared}
mutual
theorem Is.reads(I:Inv X pins σ H s):∀{x:V}{d:PyData}{u:Value},Is X.K H x d->RelV x u->∃as,Reads s.heap u d as
 | _,_,_,.non,r=>by cases r;exact ⟨_,.none⟩
 | _,_,_,.bl b,r=>by cases r;exact ⟨_,.bool b⟩
 | _,_,_,.int i,r=>by obtain⟨t,rfl⟩:=r;exact ⟨_,.int i t⟩
 | _,_,_,.str x,r=>by obtain⟨t,rfl⟩:=r;exact ⟨_,.str x t⟩
 | _,_,_,.lst hq ha,r=>by
  cases r
  obtain⟨its,rv,⟨o,n,e,c,d,q⟩,z⟩:=I.list hq
  obtain⟨as,hr⟩:=IsAll.reads I ha rv
  exact ⟨_,.list e c q (by simpa using hr)⟩
 | _,_,_,.tup hq ha,r=>by
  cases r
  obtain⟨its,rv,⟨o,e,c,n,q⟩,z⟩:=I.tuple hq
  obtain⟨as,hr⟩:=IsAll.reads I ha rv
  exact ⟨_,.tuple e c q (by simpa using hr)⟩
theorem IsAll.reads(I:Inv X pins σ H s):∀{xs:List V}{ds:List PyData}{us:List Value},IsAll X.K H xs ds->Vals xs us->∃as,ReadsAll s.heap us ds as
 | _,_,_,.nil,.nil=>⟨_,.nil⟩
 | _,_,_,.cons h t,.cons r rr=>by
  obtain⟨as,a⟩:=Is.reads I h r
  obtain⟨bs,b⟩:=IsAll.reads I t rr
  exact ⟨_,.cons a b⟩
end
end
open PySem.SeqAt in
noncomputable def rEqD(K:PySem.W.Frag)(neg:Bool):R2:=fun x y H Q=>∃d e:PyData,Is K H x d/\Is K H y e/\shaped d=true/\shaped e=true/\noMix d e=true/\Q (.bl (if neg then !same d e else same d e)) H
theorem op_eqD{X:Cx}(hu:X.A.units+64 < cLine):OpR X (compareOp .Eq) (rEqD X.K false):=by
 intro pins s σ H x y v u Q I r1 r2 h
 obtain⟨d,e,i1,i2,s1,s2,nm,q⟩:=h
 obtain⟨as,a⟩:=i1.reads I r1
 obtain⟨bs,b⟩:=i2.reads I r2
 exact eq_dataH_same a b s1 s2 hu nm ⟨.bl _,H,I,rfl,q⟩
theorem op_neD{X:Cx}(hu:X.A.units+64 < cLine):OpR X (compareOp .NotEq) (rEqD X.K true):=by
 intro pins s σ H x y v u Q I r1 r2 h
 obtain⟨d,e,i1,i2,s1,s2,nm,q⟩:=h
 obtain⟨as,a⟩:=i1.reads I r1
 obtain⟨bs,b⟩:=i2.reads I r2
 exact ne_dataH_same a b s1 s2 hu nm ⟨.bl _,H,I,rfl,q⟩
structure Cal(P:Program)(w:World)(K:PySem.W.Frag)(mg:Str->Option Value)(base:Heap)(k:Nat)(x:Str)(ps:List Str)(sp:Sp):Prop where
 ex:∃(f:Addr) (fd:FuncData),FnOk P w K mg base CX0 k f fd ps sp/\mg x=some (.ref f)/\PySem.W.keepIn K (.ref f)=true/\Binds K fd ps []
theorem pe_fn{X:Cx}{k:Nat}{x:Str}{ps:List Str}{sp:Sp}{p pos:Pos}{e:Expr}{es:List Expr}{t:TA}(C:Cal X.prog X.w X.K X.mg X.base k x ps sp)(hr:Room k X.A)(ha:PA X (e :: es) t)(hg:Gl X x:=by rfl)
  (hdb:(x==("__debug__":Str))=false:=by decide) (he:starEach (e :: es) X.env=(false,eval e X.env) :: starEach es X.env:=by rfl) (hpl:(backTo pos (starEach es X.env)).any (·.1)=false:=by rfl) :
  PE X (.Call (.Name x p) (e :: es) [] pos) (tCall sp [] E0 t):=by
 obtain⟨f,fd,F,hm,hk,hb⟩:=C.ex
 exact pe_call F hr hg hm hk hb .nil pass0 ha hdb he hpl
noncomputable def compOk(ds:Scope)(N:List Str)(fr:List Nat)(sc:Scope):Bool :=
 decide (sc.kind=.function)&&(sc.names.all fun y=>!decide (y.2=.cell)||decide (sc.names.lookup y.1=some .cell))&&(sc.names.all fun y=>!decide (y.2=.local)||decide (sc.names.lookup y.1=some .local)) &&
 (sc.names.all fun y=>!decide (y.2=.free)||(decide (ds.names.lookup y.1=some .cell)||decide (ds.names.lookup y.1=some .free))) &&
 (fr.all fun i=>match N[i]? with|some x=>decide (sc.names.lookup x=some .free)|none=>false)
theorem compSc_of{X:Cx}{own:List Str}{fr:List Nat}{sc:Scope}(h:compOk X.env.scope X.N fr sc=true):CompSc X own fr sc:=by
 unfold compOk at h
 simp only[Bool.and_eq_true,decide_eq_true_eq,List.all_eq_true,Bool.or_eq_true,Bool.not_eq_true',decide_eq_false_iff_not]at h
 obtain⟨⟨⟨⟨h1,h2⟩,h3⟩,h4⟩,h5⟩:=h
 refine ⟨h1,fun y hy e=>?_,fun y hy e=>?_,fun y hy e=>?_,fun i hi=>?_⟩
 ·rcases h2 y hy with z|z
  ·exact absurd e z
  ·exact z
 ·rcases h3 y hy with z|z
  ·exact absurd e z
  ·exact z
 ·rcases h4 y hy with z|z
  ·exact absurd e z
  ·exact z
 ·have:=h5 i hi
  cases q:X.N[i]? with
  | none=>rw[q]at this;cases this
  | some x=>rw[q]at this;exact ⟨x,rfl,of_decide_eq_true this⟩
noncomputable def CompW(J:It)(own:List Str)(fr:List Nat)(g:TG)(tc:TT)(te:TE)(σ:St)(H:Hp)(Q:VK):Prop :=
 ∃W:Nat->Nat->List V->St->Hp->Prop,(∃m,W 0 m [] (st0 own σ fr) H)/\∀i m ys τ H,W i m ys τ H ->
   (J.stop i H/\∀D,H D=none->Q (.ref D) (upd H D (.lst ys))) \/
   (J.go i H/\ys.length < sizeLine/\∃N:List V->St->Hp->Prop,(∀ys' τ' H',N ys' τ' H'->∃m',m' < m/\W (i+1) m' ys' τ' H')/\∀x H',J.yld i H x H'->g x τ H' fun τ2 H2 =>
     tc τ2 H2 fun b H3=>if b=true then te τ2 H3 fun y H4=>N (ys++[y]) τ2 H4 else N ys τ2 H3)
noncomputable def tCompW(wi:TI)(own:List Str)(fr:List Nat)(g:TG)(tc:TT)(te:TE):TE:=fun σ H Q=>wi σ H fun J H1=>CompW J own fr g tc te σ H1 Q
theorem pe_compW{X:Cx}{tg iter elt:Expr}{ifs:List Expr}{sc:Scope}{pos:Pos}{own:List Str}{fr:List Nat}{wi:TI}{g:TG}{tc:TT}{te:TE}(hc:X.calm=true)(S:CompSc X own fr sc)(hi:PI X tg iter wi)
  (hg:∀C s H ex,PG (cxComp X own fr sc C s H ex) tg g) (hif:∀C s H ex,PIf (cxComp X own fr sc C s H ex) ifs tc) (he:∀C s H ex,PE (cxComp X own fr sc C s H ex) elt te)
  (hs:∀x,foldedSetIterable iter X.env x=pure x:=by intro _;rfl):PE X (.ListComp elt [⟨tg,iter,ifs,0⟩] sc pos) (tCompW wi own fr g tc te):=pe_comp hc S hi hg hif he hs
theorem ps_setCompW{X:Cx}{tg iter elt:Expr}{ifs:List Expr}{sc:Scope}{pos spos py:Pos}{i:Nat}{y:Str}{own:List Str}{fr:List Nat}{wi:TI}{g:TG}{tc:TT}{te:TE}(hN:X.N.Nodup)(hy:X.N[i]?=some y)(hl:X.env.scope.names.lookup y=some .local)(hc:X.calm=true)(S:CompSc X own fr sc)(hi:PI X tg iter wi)
  (hg:∀C s H ex,PG (cxComp X own fr sc C s H ex) tg g) (hif:∀C s H ex,PIf (cxComp X own fr sc C s H ex) ifs tc) (he:∀C s H ex,PE (cxComp X own fr sc C s H ex) elt te)
  (hsw:swapsWith (.ListComp elt [⟨tg,iter,ifs,0⟩] sc pos) (some (.Name y py)) spos.line X.env=pure true:=by rfl)
  (hs:∀x,foldedSetIterable iter X.env x=pure x:=by intro _;rfl):PS X (.Assign [.Name y py] (.ListComp elt [⟨tg,iter,ifs,0⟩] sc pos) spos) (tAsg (tCompW wi own fr g tc te) (gName i)):=ps_setComp hN hy hl hc S hi hg hif he hsw hs
section
variable {X:Cx}{K:PySem.W.Frag}
theorem ix_listK(h:X.K=K):IxR X (rIxL K):=by subst h;exact ix_list
theorem ix_tupK(h:X.K=K):IxR X (rIxT K):=by subst h;exact ix_tup
noncomputable def rLen(K:PySem.W.Frag):List V->Hp->VK->Prop:=fun xs H Q=>∃(p:Addr) (ys:List V),xs=[.ref p]/\(SqL K H p ys\/SqT K H p ys)/\Q (.int ys.length) H
theorem call_lenK(h:X.K=K):CallR X (.builtin "len") (rLen K):=by subst h;exact call_len_seq
noncomputable def rTupleOf(K:PySem.W.Frag):List V->Hp->VK->Prop:=fun xs H Q=>∃(p:Addr) (ys:List V),xs=[.ref p]/\((SqL K H p ys/\∀l,H l=none->Q (.ref l) (upd H l (.tup ys)))\/(SqT K H p ys/\Q (.ref p) H))
theorem call_tupleK(h:X.K=K):CallR X (.type "tuple") (rTupleOf K):=by subst h;exact call_tuple_of
theorem call_isiK(h:X.K=K):CallR X (.builtin "isinstance") (rIsi K):=by subst h;exact call_isi
theorem call_allK(h:X.K=K)(hc:X.calm=true):CallR X (.builtin "all") (rAll K):=by subst h;exact call_all hc
theorem op_eqDK(h:X.K=K)(hu:X.A.units+64 < cLine):OpR X (compareOp .Eq) (rEqD K false):=by subst h;exact op_eqD hu
theorem op_neDK(h:X.K=K)(hu:X.A.units+64 < cLine):OpR X (compareOp .NotEq) (rEqD K true):=by subst h;exact op_neD hu
theorem pi_zip2K{es:List Expr}{kk:Nat}{tpos:Pos}{a b:Expr}{ta:TA}{p pos:Pos}(h:X.K=K)(hg:Gl X "zip")(hm:X.mg "zip"=none)(ha:PA X [a,b] ta)(hs:starEach [a,b] X.env=(false,eval a X.env) :: starEach [b] X.env:=by rfl)(hpl:(backTo pos (starEach [b] X.env)).any (·.1)=false:=by rfl) :
  PI X (.Tuple es kk tpos) (.Call (.Name "zip" p) [a,b] [] pos) (iZip2 K ta):=by subst h;exact pi_zip2 hg hm ha hs hpl
theorem pg_tupK{es:List Expr}{k:Nat}{t:TGs}{n:Nat}{pos:Pos}(h:X.K=K)(hc:X.calm=true)(hh:PGs X es t)(hn:(assignEach es X.env).length=n:=by rfl)(hst:(assignEach es X.env).findIdx? (·.1)=none:=by rfl):PG X (.Tuple es k pos) (gTup K n t):=by subst h;exact pg_tup hc hh hn hst
end
theorem cat_tup0{prog:Program}{w:World}{A:Around}{E:Value->Shared->Prop}{s:Shared}{t b:Addr}{ws:List Value}{Q:Value->Shared->Prop}(ht:IsTup s.heap t ([]:List Value).toArray)(hb:IsTup s.heap b ws.toArray)(h:Q (.ref b) s):wpAny (model prog w) A (binaryOp .Add (.ref t) (.ref b)) Q E s:=by
 obtain⟨⟨cls,dd,data,sl⟩,ho,hc,n,hd⟩:=id ht
 obtain⟨⟨cls2,dd2,data2,sl2⟩,ho2,hc2,n2,hd2⟩:=id hb
 simp only at hc hd hc2 hd2
 subst hc hd hc2 hd2
 exact concat_meets ⟨_,ho,rfl⟩ ⟨_,ho2,rfl⟩ noFill_tuple_add seq_tuple_add PySem.F.slot_tuple_add PySem.F.entry_tuple_add (PySem.F.args_tuple_add_2 _ _) (tuple_addW0 t b _ ws.toArray n n2 dd dd2 sl sl2 rfl) ⟨ho,ho2,h⟩
open PySem PySem.Spec
noncomputable abbrev opqO(a:Addr):HO:=.ext fun h=>∃o es ep,h.get? a=some o/\o.ExactDict/\o.data=.dict es ep
noncomputable def hL(k:List Int):Int:=reduceHash (Builtin.Tuple.tupleHashOf (k.map hashInt))
noncomputable def hB(k:List Int×List Int):Int:=reduceHash (Builtin.Tuple.tupleHashOf [hL k.1,hL k.2])
noncomputable abbrev extD{κ:Type}(hs:κ->Int)(a:Addr)(ep:Nat)(xs:List (κ×Addr×V)):HO:=.ext fun h=>(∃vs:List (κ×Addr×Value),Paired (fun x v=>x.1=v.1/\x.2.1=v.2.1/\RelV x.2.2 v.2.2) xs vs /\
  ∃o es,h.get? a=some o/\o.ExactDict/\o.data=.dict es ep/\es.toList=vs.map fun x=>⟨hs x.1,.ref x.2.1,x.2.2⟩)/\(xs.map (·.1)).Nodup/\xs.length<=sizeLine/\(a==sysModules)=false
noncomputable abbrev excO(a C:Addr):HO:=.ext fun h=>∃o vs,h.get? a=some o/\o.cls=.ref C/\o.data=.fields vs
noncomputable abbrev lamC(f c:Addr)(qual:Str)(ar:Arguments)(body:Expr)(sc:Scope)(cl:List (Str×Addr)):HO:=.ext fun h=>∃pm ctv,h.get? f=some (PySem.W.kla_obj "<lambda>" qual ar body sc cl pm c ctv)
noncomputable abbrev codO(c:Addr)(o:Obj):HO:=.frz o (.ext fun h=>∃o,h.get? c=some o)
noncomputable def CodQ(x:Str)(o:Obj):Prop:=∃vs t,o.data=.fields vs/\vs[1]?=some (.str (x ++ ".<locals>.<lambda>") t)
end L2
namespace L3
open PySem PySem.Spec L2
noncomputable abbrev D:=PyData
noncomputable abbrev Fg:=PySem.W.Frag
noncomputable def Sub(F H:Hp):Prop:=∀a o,F a=some o->H a=some o
theorem Sub.refl(H:Hp):Sub H H:=fun _ _ h=>h
theorem Sub.trans{A B C:Hp}(h:Sub A B)(k:Sub B C):Sub A C:=fun a o e=>k a o (h a o e)
theorem Sub.new{F:Hp}{a:Addr}{o:HO}(h:F a=none):Sub F (upd F a o):=fun b u e=>by rw[upd_ne (ne_of_none e h)];exact e
theorem Sub.rd{F H:Hp}{a:Addr}{u:HO}(s:Sub F H):Rd F a u->Rd H a u
 | .inl h=>.inl (s _ _ h)
 | .inr ⟨o,h⟩=>.inr ⟨o,s _ _ h⟩
theorem Sub.sql{K:Fg}{F H:Hp}{a:Addr}{xs:List V}(s:Sub F H):SqL K F a xs->SqL K H a xs
 | .inl h=>.inl (s.rd h)
 | .inr h=>.inr h
noncomputable def keyD:Key->D
 | .inl i=>.int i
 | .inr x=>.str x
noncomputable abbrev scrD(ns:List Int):D:=.dict [(.none,.list (ns.map PyData.int))]
noncomputable abbrev excD(C:Addr):D:=.dict [(.bool true,.int (C:Nat))]
noncomputable abbrev opqD:D:=.dict [(.bool false,.none)]
noncomputable abbrev pdD(ps:List (List Int×D)):D:=.dict [(.bool false,.list (ps.map fun p=>.tuple [.tuple (p.1.map PyData.int),p.2]))]
noncomputable abbrev bdD(ps:List ((List Int×List Int)×D)):D:=.dict [(.bool false,.tuple (ps.map fun p=>.tuple [.tuple [.tuple (p.1.1.map PyData.int),.tuple (p.1.2.map PyData.int)],p.2]))]
noncomputable def lamS:List Stmt->Option (Arguments×Expr×Scope)
 | []=>none
 | [.Return (some (.Call _ es _ _)) _]=>match es.getLast? with
  | some (.Lambda ar b sc _)=>some (ar,b,sc)
  | _=>none
 | _ :: r=>lamS r
noncomputable def lamOf(K:Fg)(x:Str):Option (Arguments×Expr×Scope):=match PySem.W.nsIn K mainGlobals x with
 | some (some (.ref f))=>(match K.lookup f with
   | some ⟨_,_,.func fd,_⟩=>(match fd.body with
     | .stmts b=>lamS b
     | _=>none)
   | _=>none)
 | _=>none
noncomputable abbrev lamD(x:Str)(ds:List D):D:=.dict [(.bool true,.list (.str x :: ds))]
noncomputable def frOf(sc:Scope):List Str:=((sc.names.filter fun y=>y.2==.free).map (·.1)).reverse
noncomputable def CelAt(F:Hp)(p:Str×Addr)(v:V):Prop:=∃o u,F p.2=some (codO p.2 o)/\o.data=.cell (some u)/\RelV v u
noncomputable def LamAt(K:Fg)(F:Hp)(f:Addr)(x:Str)(vs:List V):Prop:=∃(c:Addr) (o:Obj) (ar:Arguments) (body:Expr) (sc:Scope) (cl:List (Str×Addr)),lamOf K x=some (ar,body,sc) /\
 F f=some (lamC f c (x ++ ".<locals>.<lambda>") ar body sc cl)/\F c=some (codO c o)/\CodQ x o/\cl.map (·.1)=frOf sc/\(cl.map (·.2)).Nodup/\Paired (CelAt F) cl vs
theorem CelAt.mono{F F':Hp}(s:Sub F F'){p:Str×Addr}{v:V}:CelAt F p v->CelAt F' p v:=fun ⟨o,u,e,h⟩=>⟨o,u,s _ _ e,h⟩
theorem LamAt.mono{K:Fg}{F F':Hp}(s:Sub F F'){f:Addr}{x:Str}{vs:List V}:LamAt K F f x vs->LamAt K F' f x vs:=fun ⟨c,o,ar,body,sc,cl,h1,h2,h3,h4,h0,h5,h6⟩ =>
 ⟨c,o,ar,body,sc,cl,h1,s _ _ h2,s _ _ h3,h4,h0,h5,Paired.mapP h6 fun _ _ h=>h.mono s⟩
mutual
inductive Da (K:Fg) (F:Hp):V->D->Prop
 | non:Da K F .non .none
 | bl (b):Da K F (.bl b) (.bool b)
 | int (i):Da K F (.int i) (.int i)
 | str (x):Da K F (.str x) (.str x)
 | lst {a xs ds}:F a=some (.lst xs)->DaAll K F xs ds->Da K F (.ref a) (.list ds)
 | tup {a xs ds}:F a=some (.tup xs)->DaAll K F xs ds->Da K F (.ref a) (.tuple ds)
 | dk {a kvs es}:Rd F a (.dK kvs)->DaKV K F kvs es->Da K F (.ref a) (.dict es)
 | dt {a kvs es}:Rd F a (.dT kvs)->DaKT K F kvs es->Da K F (.ref a) (.dict es)
 | scr {a ns}:SqL K F a (ns.map V.int)->Da K F (.ref a) (scrD ns)
 | exc {a C}:F a=some (excO a C)->Da K F (.ref a) (excD C)
 | opq {a}:F a=some (opqO a)->Da K F (.ref a) opqD
 | pd {a a' ep xs ps}:F a=some (extD hL a' ep xs)->DaPd K F xs ps->Da K F (.ref a) (pdD ps)
 | bd {a a' ep xs ps}:F a=some (extD hB a' ep xs)->DaBd K F xs ps->Da K F (.ref a) (bdD ps)
 | lam {f x vs ds}:LamAt K F f x vs->DaAll K F vs ds->Da K F (.ref f) (lamD x ds)
inductive DaAll (K:Fg) (F:Hp):List V->List D->Prop
 | nil:DaAll K F [] []
 | cons {x xs d ds}:Da K F x d->DaAll K F xs ds->DaAll K F (x :: xs) (d :: ds)
inductive DaKV (K:Fg) (F:Hp):List (Key×V)->List (D×D)->Prop
 | nil:DaKV K F [] []
 | cons {k v d kvs es}:Da K F v d->DaKV K F kvs es->DaKV K F ((k,v) :: kvs) ((keyD k,d) :: es)
inductive DaKT (K:Fg) (F:Hp):List (List Key×V)->List (D×D)->Prop
 | nil:DaKT K F [] []
 | cons {ks v d kvs es}:Da K F v d->DaKT K F kvs es->DaKT K F ((ks,v) :: kvs) ((.tuple (ks.map keyD),d) :: es)
inductive DaPd (K:Fg) (F:Hp):List (List Int×Addr×V)->List (List Int×D)->Prop
 | nil:DaPd K F [] []
 | cons {k b v d xs ps}:F b=some (.tup (k.map V.int))->Da K F v d->DaPd K F xs ps->DaPd K F ((k,b,v) :: xs) ((k,d) :: ps)
inductive DaBd (K:Fg) (F:Hp):List ((List Int×List Int)×Addr×V)->List ((List Int×List Int)×D)->Prop
 | nil:DaBd K F [] []
 | cons {k b c e v d xs ps}:F b=some (.tup [.ref c,.ref e])->F c=some (.tup (k.1.map V.int))->F e=some (.tup (k.2.map V.int))->Da K F v d->DaBd K F xs ps->DaBd K F ((k,b,v) :: xs) ((k,d) :: ps)
end
section
variable {K:Fg}{F F':Hp}
mutual
theorem Da.mono(s:Sub F F'):∀{v:V}{d:D},Da K F v d->Da K F' v d
 | _,_,.non=>.non
 | _,_,.bl b=>.bl b
 | _,_,.int i=>.int i
 | _,_,.str x=>.str x
 | _,_,.lst h t=>.lst (s _ _ h) (DaAll.mono s t)
 | _,_,.tup h t=>.tup (s _ _ h) (DaAll.mono s t)
 | _,_,.dk h t=>.dk (s.rd h) (DaKV.mono s t)
 | _,_,.dt h t=>.dt (s.rd h) (DaKT.mono s t)
 | _,_,.scr h=>.scr (s.sql h)
 | _,_,.exc h=>.exc (s _ _ h)
 | _,_,.opq h=>.opq (s _ _ h)
 | _,_,.pd h t=>.pd (s _ _ h) (DaPd.mono s t)
 | _,_,.bd h t=>.bd (s _ _ h) (DaBd.mono s t)
 | _,_,.lam h t=>.lam (h.mono s) (DaAll.mono s t)
theorem DaAll.mono(s:Sub F F'):∀{xs:List V}{ds:List D},DaAll K F xs ds->DaAll K F' xs ds
 | _,_,.nil=>.nil
 | _,_,.cons h t=>.cons (Da.mono s h) (DaAll.mono s t)
theorem DaKV.mono(s:Sub F F'):∀{xs:List (Key×V)}{ds:List (D×D)},DaKV K F xs ds->DaKV K F' xs ds
 | _,_,.nil=>.nil
 | _,_,.cons h t=>.cons (Da.mono s h) (DaKV.mono s t)
theorem DaKT.mono(s:Sub F F'):∀{xs:List (List Key×V)}{ds:List (D×D)},DaKT K F xs ds->DaKT K F' xs ds
 | _,_,.nil=>.nil
 | _,_,.cons h t=>.cons (Da.mono s h) (DaKT.mono s t)
theorem DaPd.mono(s:Sub F F'):∀{xs:List (List Int×Addr×V)}{ps:List (List Int×D)},DaPd K F xs ps->DaPd K F' xs ps
 | _,_,.nil=>.nil
 | _,_,.cons h v t=>.cons (s _ _ h) (Da.mono s v) (DaPd.mono s t)
theorem DaBd.mono(s:Sub F F'):∀{xs:List ((List Int×List Int)×Addr×V)}{ps:List ((List Int×List Int)×D)},DaBd K F xs ps->DaBd K F' xs ps
 | _,_,.nil=>.nil
 | _,_,.cons h h1 h2 v t=>.cons (s _ _ h) (s _ _ h1) (s _ _ h2) (Da.mono s v) (DaBd.mono s t)
end
theorem DaAll.length:∀{xs:List V}{ds:List D},DaAll K F xs ds->xs.length=ds.length
 | _,_,.nil=>rfl
 | _,_,.cons _ t=>by simp[DaAll.length t]
theorem DaAll.get:∀{xs:List V}{ds:List D}{i:Nat}{d:D},DaAll K F xs ds->ds[i]?=some d->∃v,xs[i]?=some v/\Da K F v d
 | _,_,_,_,.nil,e=>by simp at e
 | _,_,0,_,.cons h _,e=>by simp at e;subst e;exact ⟨_,rfl,h⟩
 | _,_,i+1,_,.cons _ t,e=>by
  obtain⟨v,a,b⟩:=DaAll.get (i:=i) t (by simpa using e)
  exact ⟨v,by simpa using a,b⟩
theorem DaAll.append:∀{xs ys:List V}{ds es:List D},DaAll K F xs ds->DaAll K F ys es->DaAll K F (xs++ys) (ds++es)
 | _,_,_,_,.nil,s=>s
 | _,_,_,_,.cons h t,s=>.cons h (DaAll.append t s)
theorem DaAll.reverse{xs:List V}{ds:List D}(h:DaAll K F xs ds):DaAll K F xs.reverse ds.reverse:=by
 induction xs generalizing ds with
 | nil=>cases h;exact .nil
 | cons x xs ih =>
  cases h with
  | cons h t=>rw[List.reverse_cons,List.reverse_cons];exact (ih t).append (.cons h .nil)
theorem DaAll.rep{xs:List V}{ds:List D}(h:DaAll K F xs ds):∀k:Nat,DaAll K F (List.replicate k xs).flatten (List.replicate k ds).flatten
 | 0=>.nil
 | k+1=>by rw[List.replicate_succ,List.replicate_succ,List.flatten_cons,List.flatten_cons];exact h.append (DaAll.rep h k)
theorem DaAll.ints:∀ns:List Int,DaAll K F (ns.map V.int) (ns.map PyData.int)
 | []=>.nil
 | n :: ns=>.cons (.int n) (DaAll.ints ns)
end
inductive Sl where
 | fz (d:D)|ow (d:D)|io (d:D)
noncomputable def Sl.d:Sl->D
 | .fz d=>d
 | .ow d=>d
 | .io d=>d
noncomputable def isOw:Sl->Bool
 | .fz _=>false
 | .ow _=>true
 | .io _=>true
noncomputable abbrev Ev:=List (Option Sl)
noncomputable def Own1(K:Fg)(F:Hp):HO->D->Prop
 | .lst xs,.list ds=>DaAll K F xs ds
 | .dK kvs,.dict es=>DaKV K F kvs es
 | .dT kvs,.dict es=>DaKT K F kvs es
 | .ext φ,.dict [(.bool false,.list L)]=>∃(a':Addr) (ep:Nat) (xs:List (List Int×Addr×V)) (ps:List (List Int×D)),HO.ext φ=extD hL a' ep xs/\L=ps.map (fun p=>.tuple [.tuple (p.1.map PyData.int),p.2])/\DaPd K F xs ps
 | .ext φ,.dict [(.bool false,.tuple L)]=>∃(a':Addr) (ep:Nat) (xs:List ((List Int×List Int)×Addr×V)) (ps:List ((List Int×List Int)×D)),HO.ext φ=extD hB a' ep xs/\L=ps.map (fun p=>.tuple [.tuple [.tuple (p.1.1.map PyData.int),.tuple (p.1.2.map PyData.int)],p.2])/\DaBd K F xs ps
 | _,_=>False
section
variable {K:Fg}{F F':Hp}{o:HO}{d:D}{a:Addr}
theorem Own1.ext{φ:Heap->Prop}(h:Own1 K F (.ext φ) d):(∃(a':Addr) (ep:Nat) (xs:List (List Int×Addr×V)) (ps:List (List Int×D)),HO.ext φ=extD hL a' ep xs/\d=pdD ps/\DaPd K F xs ps) \/
  ∃(a':Addr) (ep:Nat) (xs:List ((List Int×List Int)×Addr×V)) (ps:List ((List Int×List Int)×D)),HO.ext φ=extD hB a' ep xs/\d=bdD ps/\DaBd K F xs ps:=by
 unfold Own1 at h
 split at h
 ·rename_i z;cases z
 ·rename_i z;cases z
 ·rename_i z;cases z
 ·rename_i z
  obtain⟨a',ep,xs,ps,e,rfl,t⟩:=h
  exact .inl ⟨a',ep,xs,ps,z.trans e,rfl,t⟩
 ·rename_i z
  obtain⟨a',ep,xs,ps,e,rfl,t⟩:=h
  exact .inr ⟨a',ep,xs,ps,z.trans e,rfl,t⟩
 ·exact h.elim
theorem Own1.pd{a':Addr}{ep:Nat}{xs:List (List Int×Addr×V)}{ps:List (List Int×D)}(h:DaPd K F xs ps):Own1 K F (extD hL a' ep xs) (pdD ps):=⟨a',ep,xs,ps,rfl,rfl,h⟩
theorem Own1.mono(s:Sub F F')(h:Own1 K F o d):Own1 K F' o d:=by
 cases o with
 | ext φ =>
  rcases h.ext with⟨a',ep,xs,ps,e,rfl,t⟩|⟨a',ep,xs,ps,e,rfl,t⟩
  ·exact ⟨a',ep,xs,ps,e,rfl,t.mono s⟩
  ·exact ⟨a',ep,xs,ps,e,rfl,t.mono s⟩
 | _=>cases d<;>first|exact DaAll.mono s h|exact DaKV.mono s h|exact DaKT.mono s h|exact h.elim
theorem Own1.da(h:Own1 K F o d)(e:F a=some o):Da K F (.ref a) d:=by
 cases o with
 | ext φ =>
  rcases h.ext with⟨a',ep,xs,ps,z,rfl,t⟩|⟨a',ep,xs,ps,z,rfl,t⟩
  ·rw[z]at e
   exact .pd e t
  ·rw[z]at e
   exact .bd e t
 | _=>cases d<;>first|exact .lst e h|exact .dk (.inl e) h|exact .dt (.inl e) h|exact h.elim
end
noncomputable def lamN:List Str:=["all_around","_law_made","_law_settle","exchanged","mirrored","stretched","cut"]
noncomputable def TB(K:Fg):List (Addr×Str):=lamN.filterMap fun x=>(PySem.W.tabIn K x).map fun z=>(z.2,x)
noncomputable def stk:HO->Bool
 | .tbl _=>true
 | .frz _ _=>true
 | _=>false
noncomputable def TabOk(K:Fg)(F H:Hp):Prop:=∀z∈TB K,F z.1=none/\∃ps,H z.1=some (.tbl ps)/\PySem.TriplesOk ps.toList/\∀pos v,codeAmong pos ps.toList=some v->∃c o,v=.ref c/\H c=some (codO c o)/\CodQ z.2 o
theorem TabOk.up{K:Fg}{F F' H H':Hp}(T:TabOk K F H)(kp:∀a o,stk o=true->H a=some o->H' a=some o)(hF:∀z∈TB K,F' z.1=none):TabOk K F' H':=fun z hz=>by
 obtain⟨_,ps,e,t,q⟩:=T z hz
 refine ⟨hF z hz,ps,kp _ _ rfl e,t,fun pos v ev=>?_⟩
 obtain⟨c,o,e1,e2,e3⟩:=q pos v ev
 exact ⟨c,o,e1,kp _ _ rfl e2,e3⟩
theorem TabOk.put{K:Fg}{F H:Hp}{a:Addr}{o:HO}(T:TabOk K F H)(n:∀u,H a=some u->stk u=false):TabOk K F (upd H a o) :=
 T.up (fun b u s e=>by rw[upd_ne fun z=>by subst z;rw[n u e]at s;cases s];exact e) fun z hz=>(T z hz).1
theorem TabOk.ne{K:Fg}{F H:Hp}{a:Addr}(T:TabOk K F H)(n:∀u,H a=some u->stk u=false):∀z∈TB K,z.1≠a:=fun z hz e=>by
 obtain⟨_,ps,e1,_⟩:=T z hz
 rw[e]at e1
 cases n _ e1
theorem TabOk.F{K:Fg}{F H:Hp}{a:Addr}{o:HO}(T:TabOk K F H)(n:∀u,H a=some u->stk u=false):TabOk K (upd F a o) H :=
 T.up (fun _ _ _ e=>e) fun z hz=>by rw[upd_ne (T.ne n z hz)];exact (T z hz).1
theorem Own1.stk{K:Fg}{F:Hp}{o:HO}{d:D}(h:Own1 K F o d):stk o=false:=by
 cases o<;>first|rfl|(cases d<;>exact h.elim)
structure Gh where
 H0:Hp
 F0:Hp
 io:Nat->Option Addr
structure Rel(K:Fg)(G:Gh)(F:Hp)(σ:St)(H:Hp)(ρ:Ev):Prop where
 len:σ.length=ρ.length
 sub:Sub F H
 sub0:Sub G.F0 F
 fn:∀a o,F a=some o->G.F0 a=some o\/G.H0 a=none
 keep:∀a o,G.H0 a=some o->(∀i,G.io i≠some a)->(∀z∈TB K,z.1≠a)->H a=some o
 tb:TabOk K F H
 fz:∀(i:Nat) (d:D),ρ[i]?=some (some (Sl.fz d))->∃v,σ[i]?=some (some v)/\Da K F v d
 ow:∀(i:Nat) (s:Sl),ρ[i]?=some (some s)->isOw s=true->∃a o,σ[i]?=some (some (V.ref a))/\F a=none/\H a=some o/\Own1 K F o s.d
 new:∀(i:Nat) (d:D) (a:Addr),ρ[i]?=some (some (Sl.ow d))->σ[i]?=some (some (V.ref a))->G.H0 a=none
 io:∀(i:Nat) (a:Addr),G.io i=some a->∃d,ρ[i]?=some (some (Sl.io d))/\σ[i]?=some (some (V.ref a))
 ioi:∀(i:Nat) (d:D),ρ[i]?=some (some (Sl.io d))->∃a,G.io i=some a
 ap:∀(i j:Nat) (s t:Sl) (a:Addr),ρ[i]?=some (some s)->isOw s=true->ρ[j]?=some (some t)->isOw t=true->σ[i]?=some (some (V.ref a))->σ[j]?=some (some (V.ref a))->i=j
noncomputable def Res(K:Fg)(G:Gh)(F H:Hp)(σ:St)(ρ:Ev)(v:V):Sl->Prop
 | .fz d=>Da K F v d
 | .ow d=>∃a o,v=.ref a/\F a=none/\H a=some o/\Own1 K F o d/\G.H0 a=none/\∀(i:Nat) (s:Sl),ρ[i]?=some (some s)->isOw s=true->σ[i]?≠some (some (V.ref a))
 | .io _=>False
section
variable {K:Fg}{G:Gh}{F F' H:Hp}{σ:St}{ρ:Ev}{a:Addr}{o:HO}{d:D}{v:V}{s:Sl}
theorem Rel.bound(R:Rel K G F σ H ρ){i:Nat}(h:ρ[i]?=some (some s)):∃v,σ[i]?=some (some v):=by
 cases s with
 | fz d=>obtain⟨v,e,_⟩:=R.fz i d h;exact ⟨v,e⟩
 | ow d=>obtain⟨a,o,e,_⟩:=R.ow i _ h rfl;exact ⟨_,e⟩
 | io d=>obtain⟨a,o,e,_⟩:=R.ow i _ h rfl;exact ⟨_,e⟩
theorem Rel.h0(R:Rel K G F σ H ρ)(h:H a=none):G.H0 a=none:=by
 cases e:G.H0 a with
 | none=>rfl
 | some o =>
  by_cases q:∃i,G.io i=some a
  ·obtain⟨i,q⟩:=q
   obtain⟨d,h1,h2⟩:=R.io i a q
   obtain⟨a',o',h3,_,h4,_⟩:=R.ow i _ h1 rfl
   rw[h2]at h3
   cases h3
   rw[h]at h4;cases h4
  ·have:=R.keep a o e (fun i z=>q ⟨i,z⟩) (R.tb.ne fun u z=>by rw[h]at z;cases z)
   rw[h]at this;cases this
theorem Rel.f0(R:Rel K G F σ H ρ)(h:H a=none):F a=none:=by
 cases e:F a with
 | none=>rfl
 | some o=>rw[R.sub a o e]at h;cases h
theorem Rel.laid(R:Rel K G F σ H ρ)(h:H a=none):Rel K G F σ (upd H a o) ρ where
 len:=R.len
 sub:=fun b u e=>by rw[upd_ne (ne_of_none (R.sub b u e) h)];exact R.sub b u e
 sub0:=R.sub0
 fn:=R.fn
 keep:=fun b u e n t=>by rw[upd_ne (ne_of_none (R.keep b u e n t) h)];exact R.keep b u e n t
 tb:=R.tb.put fun u z=>by rw[h]at z;cases z
 fz:=R.fz
 ow:=fun i s e w=>by
  obtain⟨a',o',h1,h2,h3,h4⟩:=R.ow i s e w
  exact ⟨a',o',h1,h2,by rw[upd_ne (ne_of_none h3 h)];exact h3,h4⟩
 new:=R.new
 io:=R.io
 ioi:=R.ioi
 ap:=R.ap
theorem Rel.grow(R:Rel K G F σ H ρ)(h0:G.H0 a=none)(h:H a=some o)(hn:∀(i:Nat) (s:Sl),ρ[i]?=some (some s)->isOw s=true->σ[i]?≠some (some (V.ref a)))(hk:stk o=false:=by rfl):Sub F (upd F a o)/\Rel K G (upd F a o) σ H ρ:=by
 have sb:Sub F (upd F a o):=fun b u e=>by
  by_cases z:b=a
  ·subst z;rw[upd_same,<- h];exact R.sub _ _ e
  ·rw[upd_ne z];exact e
 refine ⟨sb,R.len,fun b u e=>?_,R.sub0.trans sb,fun b u e=>?_,R.keep,R.tb.F fun u z=>by rw[h]at z;cases z;exact hk,fun i d e=>?_,fun i s e w=>?_,R.new,R.io,R.ioi,R.ap⟩
 ·by_cases z:b=a
  ·subst z;rw[upd_same]at e;rw[h];exact e
  ·rw[upd_ne z]at e;exact R.sub _ _ e
 ·by_cases z:b=a
  ·subst z;exact .inr h0
  ·rw[upd_ne z]at e;exact R.fn _ _ e
 ·obtain⟨v,h1,h2⟩:=R.fz i d e
  exact ⟨v,h1,h2.mono sb⟩
 ·obtain⟨a',o',h1,h2,h3,h4⟩:=R.ow i s e w
  have z:a'≠a:=fun z=>hn i s e w (by rw[h1,z])
  exact ⟨a',o',h1,by rw[upd_ne z];exact h2,h3,h4.mono sb⟩
theorem Res.frz(R:Rel K G F σ H ρ)(r:Res K G F H σ ρ v s):∃F',Sub F F'/\Rel K G F' σ H ρ/\Da K F' v s.d:=by
 cases s with
 | fz d=>exact ⟨F,Sub.refl _,R,r⟩
 | ow d =>
  obtain⟨a,o,rfl,h1,h2,h3,h4,h5⟩:=r
  obtain⟨sb,R'⟩:=R.grow h4 h2 h5 h3.stk
  exact ⟨_,sb,R',(h3.mono sb).da upd_same⟩
 | io d=>exact r.elim
theorem Rel.newOw(R:Rel K G F σ H ρ)(h:H a=none)(w:Own1 K F o d):Rel K G F σ (upd H a o) ρ/\Res K G F (upd H a o) σ ρ (.ref a) (.ow d):=by
 refine ⟨R.laid h,a,o,rfl,R.f0 h,upd_same,w,R.h0 h,fun i s e w z=>?_⟩
 obtain⟨a',o',h1,h2,h3,h4⟩:=R.ow i s e w
 rw[z]at h1
 cases h1
 rw[h]at h3;cases h3
theorem Rel.newTup(R:Rel K G F σ H ρ){xs:List V}{ds:List D}(h:H a=none)(w:DaAll K F xs ds) :
  Sub F (upd F a (.tup xs))/\Rel K G (upd F a (.tup xs)) σ (upd H a (.tup xs)) ρ/\Da K (upd F a (.tup xs)) (.ref a) (.tuple ds):=by
 have R1:Rel K G F σ (upd H a (.tup xs)) ρ:=R.laid h
 obtain⟨sb,R2⟩:=R1.grow (a:=a) (o:=.tup xs) (R.h0 h) upd_same fun i s e w z=>by
  obtain⟨a',o',h1,h2,h3,h4⟩:=R.ow i s e w
  rw[z]at h1
  cases h1
  rw[h]at h3;cases h3
 exact ⟨sb,R2,.tup upd_same (w.mono sb)⟩
noncomputable def Sl.put:Sl->D->Sl
 | .fz _,d=>.fz d
 | .ow _,d=>.ow d
 | .io _,d=>.io d
theorem get_set{α:Type}{l:List α}{i j:Nat}{x y:α}(h:(l.set i x)[j]?=some y):(j=i/\y=x)\/(j≠i/\l[j]?=some y):=by
 by_cases z:i=j
 ·subst z
  rw[List.getElem?_set]at h
  simp at h
  exact .inl ⟨rfl,h.2.symm⟩
 ·rw[List.getElem?_set_ne z]at h
  exact .inr ⟨fun q=>z q.symm,h⟩
theorem set_get{α:Type}{l:List α}{i:Nat}{x:α}(h:i < l.length):(l.set i x)[i]?=some x:=by simp[h]
theorem lt_of_get{α:Type}{l:List α}{i:Nat}{x:α}(h:l[i]?=some x):i < l.length:=(List.getElem?_eq_some_iff.mp h).1
theorem Rel.change(R:Rel K G F σ H ρ){i:Nat}{o':HO}{d':D}(h:ρ[i]?=some (some s))(w:isOw s=true)(ha:σ[i]?=some (some (V.ref a)))(q:Own1 K F o' d') :
  Rel K G F σ (upd H a o') (ρ.set i (some (s.put d'))):=by
 obtain⟨a0,o0,h1,h2,h3,h4⟩:=R.ow i s h w
 rw[ha]at h1;cases h1
 have sw:isOw (s.put d')=true:=by cases s<;>first|rfl|cases w
 have hl:=lt_of_get h
 refine ⟨by rw[List.length_set];exact R.len,fun b u e=>?_,R.sub0,R.fn,fun b u e n t=>?_,R.tb.put fun u z=>by rw[h3]at z;cases z;exact h4.stk,fun j d e=>?_,fun j t e wt=>?_,fun j d b e eb=>?_,fun j b e=>?_,fun j d e=>?_,fun j k t u b e1 w1 e2 w2 e3 e4=>?_⟩
 ·have z:b≠a:=fun z=>by subst z;rw[h2]at e;cases e
  rw[upd_ne z];exact R.sub _ _ e
 ·by_cases z:b=a
  ·subst z
   cases s with
   | fz d=>cases w
   | ow d=>rw[R.new i d b h ha]at e;cases e
   | io d =>
    obtain⟨a',e'⟩:=R.ioi i d h
    obtain⟨d',_,e2⟩:=R.io i a' e'
    rw[ha]at e2;cases e2
    exact absurd e' (n i)
  ·rw[upd_ne z];exact R.keep _ _ e n t
 ·rcases get_set e with⟨rfl,z⟩|⟨n,z⟩
  ·cases s<;>simp[Sl.put,isOw]at z w
  ·exact R.fz j d z
 ·rcases get_set e with⟨rfl,z⟩|⟨n,z⟩
  ·cases z
   exact ⟨a,o',ha,h2,upd_same,by cases s<;>first|exact q|cases w⟩
  ·obtain⟨b,u,g1,g2,g3,g4⟩:=R.ow j t z wt
   have nb:b≠a:=fun x=>n (R.ap j i t s a z wt h w (by rw[g1,x]) ha)
   exact ⟨b,u,g1,g2,by rw[upd_ne nb];exact g3,g4⟩
 ·rcases get_set e with⟨rfl,z⟩|⟨n,z⟩
  ·cases s with
   | fz d=>cases w
   | ow d0=>exact R.new j d0 b h eb
   | io d=>cases z
  ·exact R.new j d b z eb
 ·obtain⟨d,e1,e2⟩:=R.io j b e
  by_cases z:j=i
  ·subst z
   rw[h]at e1
   cases e1
   exact ⟨d',by rw[set_get hl];rfl,e2⟩
  ·exact ⟨d,by rw[List.getElem?_set_ne (Ne.symm z)];exact e1,e2⟩
 ·rcases get_set e with⟨rfl,z⟩|⟨n,z⟩
  ·cases s with
   | fz d=>cases w
   | ow d0=>cases z
   | io d0=>exact R.ioi j d0 h
  ·exact R.ioi j d z
 ·have f:∀(j:Nat) (t:Sl),(ρ.set i (some (s.put d')))[j]?=some (some t)->isOw t=true->∃t',ρ[j]?=some (some t')/\isOw t'=true:=fun j t e wt=>by
   rcases get_set e with⟨rfl,z⟩|⟨n,z⟩
   ·exact ⟨s,h,w⟩
   ·exact ⟨t,z,wt⟩
  obtain⟨t',e1',w1'⟩:=f j t e1 w1
  obtain⟨u',e2',w2'⟩:=f k u e2 w2
  exact R.ap j k t' u' b e1' w1' e2' w2' e3 e4
theorem Rel.forget(R:Rel K G F σ H ρ){i:Nat}(h:ρ[i]?=some (some (Sl.ow d))):Rel K G F σ H (ρ.set i none):=by
 refine ⟨by rw[List.length_set];exact R.len,R.sub,R.sub0,R.fn,R.keep,R.tb,fun j d e=>?_,fun j t e wt=>?_,fun j d b e eb=>?_,fun j b e=>?_,fun j d e=>?_,fun j k t u b e1 w1 e2 w2 e3 e4=>?_⟩
 ·rcases get_set e with⟨rfl,z⟩|⟨n,z⟩
  ·cases z
  ·exact R.fz j d z
 ·rcases get_set e with⟨rfl,z⟩|⟨n,z⟩
  ·cases z
  ·exact R.ow j t z wt
 ·rcases get_set e with⟨rfl,z⟩|⟨n,z⟩
  ·cases z
  ·exact R.new j d b z eb
 ·obtain⟨d',e1,e2⟩:=R.io j b e
  have n:i≠j:=fun z=>by subst z;rw[h]at e1;cases e1
  exact ⟨d',by rw[List.getElem?_set_ne n];exact e1,e2⟩
 ·rcases get_set e with⟨rfl,z⟩|⟨n,z⟩
  ·cases z
  ·exact R.ioi j d z
 ·rcases get_set e1 with⟨rfl,z⟩|⟨n,z⟩
  ·cases z
  ·rcases get_set e2 with⟨rfl,z'⟩|⟨n',z'⟩
   ·cases z'
   ·exact R.ap j k t u b z w1 z' w2 e3 e4
theorem Rel.freeze(R:Rel K G F σ H ρ){i:Nat}(h:ρ[i]?=some (some (Sl.ow d))):∃F' v,Sub F F'/\Rel K G F' σ H (ρ.set i (some (Sl.fz d)))/\σ[i]?=some (some v)/\Da K F' v d:=by
 obtain⟨a,o,h1,h2,h3,h4⟩:=R.ow i _ h rfl
 have hl:=lt_of_get h
 have R1:=R.forget h
 have hn:∀(j:Nat) (s:Sl),(ρ.set i none)[j]?=some (some s)->isOw s=true->σ[j]?≠some (some (V.ref a)):=fun j s e w z=>by
  rcases get_set e with⟨rfl,q⟩|⟨n,q⟩
  ·cases q
  ·exact n (R.ap j i s _ a q w h rfl z h1)
 obtain⟨sb,R2⟩:=R1.grow (R.new i d a h h1) h3 hn h4.stk
 have dd:Da K (upd F a o) (.ref a) d:=(h4.mono sb).da upd_same
 refine ⟨_,_,sb,?_,h1,dd⟩
 refine ⟨by rw[List.length_set];exact R.len,R2.sub,R2.sub0,R2.fn,R2.keep,R2.tb,fun j d' e=>?_,fun j t e wt=>?_,fun j d b e eb=>?_,fun j b e=>?_,fun j d e=>?_,fun j k t u b e1 w1 e2 w2 e3 e4=>?_⟩
 ·rcases get_set e with⟨rfl,z⟩|⟨n,z⟩
  ·cases z;exact ⟨_,h1,dd⟩
  ·exact R2.fz j d' (by rw[List.getElem?_set_ne (Ne.symm n)];exact z)
 ·rcases get_set e with⟨rfl,z⟩|⟨n,z⟩
  ·cases z;cases wt
  ·exact R2.ow j t (by rw[List.getElem?_set_ne (Ne.symm n)];exact z) wt
 ·rcases get_set e with⟨rfl,z⟩|⟨n,z⟩
  ·cases z
  ·exact R.new j d b z eb
 ·obtain⟨d',e1,e2⟩:=R.io j b e
  have n:i≠j:=fun z=>by subst z;rw[h]at e1;cases e1
  exact ⟨d',by rw[List.getElem?_set_ne n];exact e1,e2⟩
 ·rcases get_set e with⟨rfl,z⟩|⟨n,z⟩
  ·cases z
  ·exact R.ioi j d z
 ·rcases get_set e1 with⟨rfl,z⟩|⟨n,z⟩
  ·cases z;cases w1
  ·rcases get_set e2 with⟨rfl,z'⟩|⟨n',z'⟩
   ·cases z';cases w2
   ·exact R.ap j k t u b z w1 z' w2 e3 e4
theorem Rel.forgetRes(R:Rel K G F σ H ρ){i:Nat}(h:ρ[i]?=some (some (Sl.ow d))):∃v,σ[i]?=some (some v)/\Res K G F H σ (ρ.set i none) v (.ow d):=by
 obtain⟨a,o,h1,h2,h3,h4⟩:=R.ow i _ h rfl
 refine ⟨_,h1,a,o,rfl,h2,h3,h4,R.new i d a h h1,fun j s e w z=>?_⟩
 rcases get_set e with⟨rfl,q⟩|⟨n,q⟩
 ·cases q
 ·exact n (R.ap j i s _ a q w h rfl z h1)
noncomputable def noIo(ρ:Ev)(i:Nat):Prop:=match ρ[i]? with
 | some (some (Sl.io _))=>False
 | some _=>True
 | none=>False
theorem Rel.asg(R:Rel K G F σ H ρ){i:Nat}(hi:noIo ρ i)(r:Res K G F H σ ρ v s):Rel K G F (σ.set i (some v)) H (ρ.set i (some s)):=by
 have hl:i < ρ.length:=by
  cases e:ρ[i]? with
  | none=>unfold noIo at hi;rw[e]at hi;exact hi.elim
  | some x=>exact lt_of_get e
 have hl':i < σ.length:=by rw[R.len];exact hl
 have ni:∀d,ρ[i]?≠some (some (Sl.io d)):=fun d e=>by unfold noIo at hi;rw[e]at hi;exact hi
 refine ⟨by rw[List.length_set,List.length_set];exact R.len,R.sub,R.sub0,R.fn,R.keep,R.tb,fun j d e=>?_,fun j t e wt=>?_,fun j d b e eb=>?_,fun j b e=>?_,fun j d e=>?_,fun j k t u b e1 w1 e2 w2 e3 e4=>?_⟩
 ·rcases get_set e with⟨rfl,z⟩|⟨n,z⟩
  ·cases z;exact ⟨v,set_get hl',r⟩
  ·rw[List.getElem?_set_ne (Ne.symm n)];exact R.fz j d z
 ·rcases get_set e with⟨rfl,z⟩|⟨n,z⟩
  ·cases z
   cases s with
   | fz d=>cases wt
   | ow d =>
    obtain⟨a,o,rfl,h1,h2,h3,_⟩:=r
    exact ⟨a,o,set_get hl',h1,h2,h3⟩
   | io d=>exact r.elim
  ·rw[List.getElem?_set_ne (Ne.symm n)];exact R.ow j t z wt
 ·rcases get_set e with⟨rfl,z⟩|⟨n,z⟩
  ·cases z
   obtain⟨a,o,rfl,h1,h2,h3,h4,_⟩:=r
   rw[set_get hl']at eb;cases eb
   exact h4
  ·rw[List.getElem?_set_ne (Ne.symm n)]at eb;exact R.new j d b z eb
 ·obtain⟨d,e1,e2⟩:=R.io j b e
  have n:i≠j:=fun z=>by subst z;exact ni d e1
  exact ⟨d,by rw[List.getElem?_set_ne n];exact e1,by rw[List.getElem?_set_ne n];exact e2⟩
 ·rcases get_set e with⟨rfl,z⟩|⟨n,z⟩
  ·cases z;exact r.elim
  ·exact R.ioi j d z
 ·have own:∀(j:Nat) (t:Sl),j≠i->ρ[j]?=some (some t)->isOw t=true->(σ.set i (some v))[j]?=some (some (V.ref b))->s.d=s.d->isOw s=true->v=.ref b->False:=fun j t n e w eb _ ws ev=>by
   subst ev
   cases s with
   | fz d=>cases ws
   | io d=>exact r
   | ow d =>
    obtain⟨a,o,z,h1,h2,h3,h4,h5⟩:=r
    cases z
    rw[List.getElem?_set_ne (Ne.symm n)]at eb
    exact h5 j t e w eb
  rcases get_set e1 with⟨rfl,z⟩|⟨n,z⟩
  ·rcases get_set e2 with⟨rfl,z'⟩|⟨n',z'⟩
   ·rfl
   ·rw[set_get hl']at e3;cases e3
    cases z
    exact (own k u n' z' w2 e4 rfl w1 rfl).elim
  ·rcases get_set e2 with⟨rfl,z'⟩|⟨n',z'⟩
   ·rw[set_get hl']at e4;cases e4
    cases z'
    exact (own j t n z w1 e3 rfl w2 rfl).elim
   ·rw[List.getElem?_set_ne (Ne.symm n)]at e3
    rw[List.getElem?_set_ne (Ne.symm n')]at e4
    exact R.ap j k t u b z w1 z' w2 e3 e4
end
noncomputable abbrev TD:=Ev->(Sl->Ev->Prop)->Prop
noncomputable abbrev TTD:=Ev->(Bool->Ev->Prop)->Prop
noncomputable abbrev Opd:=Sum Nat D
noncomputable abbrev AD:=Sum Nat TD
noncomputable def lift(K:Fg)(td:TD):TE:=fun σ H Q=>∃(G:Gh) (F:Hp) (ρ:Ev) (Qd:Sl->Ev->Prop),Rel K G F σ H ρ/\td ρ Qd /\
 ∀v H' F' r ρ',Sub F F'->Rel K G F' σ H' ρ'->Res K G F' H' σ ρ' v r->Qd r ρ'->Q v H'
noncomputable def liftT(K:Fg)(tc:TTD):TT:=fun σ H Q=>∃(G:Gh) (F:Hp) (ρ:Ev) (Qd:Bool->Ev->Prop),Rel K G F σ H ρ/\tc ρ Qd /\
 ∀b H' F' ρ',Sub F F'->Rel K G F' σ H' ρ'->Qd b ρ'->Q b H'
noncomputable def argT(K:Fg):AD->TE
 | .inl i=>tVar i
 | .inr td=>lift K td
noncomputable def tArgs:List TE->TA
 | []=>tNil
 | t :: ts=>tCons t (tArgs ts)
theorem argT_mono{K:Fg}{a:AD}{σ:St}{H:Hp}{Q Q':VK}(m:∀v H,Q v H->Q' v H)(h:argT K a σ H Q):argT K a σ H Q':=by
 cases a with
 | inl i=>obtain⟨v,e,q⟩:=h;exact ⟨v,e,m _ _ q⟩
 | inr td =>
  obtain⟨G,F,ρ,Qd,R,w,k⟩:=h
  exact ⟨G,F,ρ,Qd,R,w,fun v H' F' r ρ' s R' r' q=>m _ _ (k v H' F' r ρ' s R' r' q)⟩
theorem arg1{K:Fg}{a:AD}{σ:St}{H:Hp}{P:VK}(h:tArgs ([a].map (argT K)) σ H fun vs H2=>∃x,vs=[x]/\P x H2):argT K a σ H P :=
 argT_mono (fun v H q=>by obtain⟨x,e,q⟩:=q;cases e;exact q) h
theorem arg2{K:Fg}{a b:AD}{σ:St}{H:Hp}{P:V->V->Hp->Prop}(h:tArgs ([a,b].map (argT K)) σ H fun vs H2=>∃x y,vs=[x,y]/\P x y H2):argT K a σ H fun x H1=>argT K b σ H1 fun y H2=>P x y H2 :=
 argT_mono (fun v H q=>argT_mono (fun u H q=>by obtain⟨x,y,e,q⟩:=q;cases e;exact q) q) h
noncomputable def dVar(i:Nat):TD:=fun ρ Q=>match ρ[i]? with
 | some (some (.fz d))=>Q (.fz d) ρ
 | some (some (.ow d))=>Q (.fz d) (ρ.set i (some (.fz d)))
 | _=>False
noncomputable def dC(d:D):TD:=fun ρ Q=>Q (.fz d) ρ
section
variable {K:Fg}{σ:St}{H:Hp}{Q:VK}
theorem l_var{i:Nat}(h:lift K (dVar i) σ H Q):tVar i σ H Q:=by
 obtain⟨G,F,ρ,Qd,R,w,k⟩:=h
 unfold dVar at w
 split at w
 ·rename_i d e
  obtain⟨v,e1,h1⟩:=R.fz i d e
  exact ⟨v,e1,k v H F (.fz d) ρ (Sub.refl _) R h1 w⟩
 ·rename_i d e
  obtain⟨F',v,sb,R',e1,h1⟩:=R.freeze e
  exact ⟨v,e1,k v H F' (.fz d) _ sb R' h1 w⟩
 ·exact w.elim
theorem l_c{v:V}{d:D}(hv:∀F,Da K F v d)(h:lift K (dC d) σ H Q):tC v σ H Q:=by
 obtain⟨G,F,ρ,Qd,R,w,k⟩:=h
 exact k v H F (.fz d) ρ (Sub.refl _) R (hv F) w
end
noncomputable def OpdAt(K:Fg)(F:Hp)(σ:St)(v:V):Opd->Prop
 | .inl i=>σ[i]?=some (some v)
 | .inr d=>Da K F v d
inductive OpdsAt (K:Fg) (F:Hp) (σ:St):List V->List Opd->Prop
 | nil:OpdsAt K F σ [] []
 | cons {v x vs xs}:OpdAt K F σ v x->OpdsAt K F σ vs xs->OpdsAt K F σ (v :: vs) (x :: xs)
noncomputable def dArgs:List AD->Ev->(List Opd->Ev->Prop)->Prop
 | [],ρ,Q=>Q [] ρ
 | .inl i :: as,ρ,Q=>match ρ[i]? with
  | some (some _)=>dArgs as ρ fun xs ρ'=>Q (.inl i :: xs) ρ'
  | _=>False
 | .inr td :: as,ρ,Q=>td ρ fun r ρ1=>dArgs as ρ1 fun xs ρ2=>Q (.inr r.d :: xs) ρ2
theorem args_okL{K:Fg}{G:Gh}{σ:St}:∀{as:List AD}{F H:Hp}{ρ:Ev}{Qd:List Opd->Ev->Prop}{Qv:List V->Hp->Prop},Rel K G F σ H ρ->dArgs as ρ Qd ->
  (∀vs H' F' xs ρ',Sub F F'->Rel K G F' σ H' ρ'->OpdsAt K F' σ vs xs->vs.length=as.length->Qd xs ρ'->Qv vs H')->tArgs (as.map (argT K)) σ H Qv
 | [],F,H,ρ,Qd,Qv,R,w,k=>k [] H F [] ρ (Sub.refl _) R .nil rfl w
 | .inl i :: as,F,H,ρ,Qd,Qv,R,w,k=>by
  unfold dArgs at w
  split at w
  ·rename_i s e
   obtain⟨v,ev⟩:=R.bound e
   refine ⟨v,ev,args_okL (as:=as) R w fun vs H' F' xs ρ' sb R' o hl q=>?_⟩
   exact k (v :: vs) H' F' (.inl i :: xs) ρ' sb R' (.cons ev o) (by simp[hl]) q
  ·exact w.elim
 | .inr td :: as,F,H,ρ,Qd,Qv,R,w,k=>by
  refine ⟨G,F,ρ,_,R,w,fun v H1 F1 r ρ1 s1 R1 r1 w1=>?_⟩
  obtain⟨F2,s2,R2,d2⟩:=r1.frz R1
  refine args_okL (as:=as) R2 w1 fun vs H' F' xs ρ' sb R' o hl q=>?_
  exact k (v :: vs) H' F' (.inr r.d :: xs) ρ' (s1.trans (s2.trans sb)) R' (.cons (d2.mono sb) o) (by simp[hl]) q
theorem args_ok{K:Fg}{G:Gh}{σ:St}{as:List AD}{F H:Hp}{ρ:Ev}{Qd:List Opd->Ev->Prop}{Qv:List V->Hp->Prop}(R:Rel K G F σ H ρ)(w:dArgs as ρ Qd)
  (k:∀vs H' F' xs ρ',Sub F F'->Rel K G F' σ H' ρ'->OpdsAt K F' σ vs xs->Qd xs ρ'->Qv vs H'):tArgs (as.map (argT K)) σ H Qv:=args_okL R w fun vs H' F' xs ρ' s R' o _ q=>k vs H' F' xs ρ' s R' o q
noncomputable def At(K:Fg)(F H:Hp)(v:V)(d:D):Prop:=Da K F v d\/∃a o,v=.ref a/\F a=none/\H a=some o/\Own1 K F o d
inductive AtAll (K:Fg) (F H:Hp):List V->List D->Prop
 | nil:AtAll K F H [] []
 | cons {v d vs ds}:At K F H v d->AtAll K F H vs ds->AtAll K F H (v :: vs) (d :: ds)
noncomputable def look(ρ:Ev):Opd->Option D
 | .inl i=>match ρ[i]? with
  | some (some s)=>some s.d
  | _=>none
 | .inr d=>some d
noncomputable def looksQ(ρ:Ev):List Opd->(List D->Prop)->Prop
 | [],k=>k []
 | .inr d :: xs,k=>looksQ ρ xs fun ds=>k (d :: ds)
 | .inl i :: xs,k=>match ρ[i]? with
  | some (some s)=>looksQ ρ xs fun ds=>k (s.d :: ds)
  | _=>False
section
variable {K:Fg}{G:Gh}{F H:Hp}{σ:St}{ρ:Ev}
theorem Rel.at(R:Rel K G F σ H ρ){i:Nat}{s:Sl}{v:V}(e:ρ[i]?=some (some s))(ev:σ[i]?=some (some v)):At K F H v s.d:=by
 cases s with
 | fz d =>
  obtain⟨v',e1,h1⟩:=R.fz i d e
  rw[ev]at e1;cases e1
  exact .inl h1
 | ow d =>
  obtain⟨a,o,h1,h2,h3,h4⟩:=R.ow i _ e rfl
  rw[ev]at h1;cases h1
  exact .inr ⟨a,o,rfl,h2,h3,h4⟩
 | io d =>
  obtain⟨a,o,h1,h2,h3,h4⟩:=R.ow i _ e rfl
  rw[ev]at h1;cases h1
  exact .inr ⟨a,o,rfl,h2,h3,h4⟩
theorem looks_ok(R:Rel K G F σ H ρ){xs:List Opd}{vs:List V}{k:List D->Prop}(o:OpdsAt K F σ vs xs)(h:looksQ ρ xs k):∃ds,AtAll K F H vs ds/\k ds:=by
 induction o generalizing k with
 | nil=>exact ⟨[],.nil,h⟩
 | @cons v x vs xs o t ih =>
  cases x with
  | inr d =>
   obtain⟨ds,a,q⟩:=ih (k:=fun ds=>k (d :: ds)) h
   exact ⟨d :: ds,.cons (.inl o) a,q⟩
  | inl i =>
   unfold looksQ at h
   split at h
   ·rename_i s e
    obtain⟨ds,a,q⟩:=ih (k:=fun ds=>k (s.d :: ds)) h
    exact ⟨s.d :: ds,.cons (R.at e o) a,q⟩
   ·exact h.elim
end
noncomputable def dOp(as:List AD)(f:List D->(Sl->Prop)->Prop):TD:=fun ρ Q=>dArgs as ρ fun xs ρ1=>looksQ ρ1 xs fun ds=>f ds fun r=>Q r ρ1
noncomputable def OpOk(K:Fg)(r:List V->Hp->VK->Prop)(f:List D->(Sl->Prop)->Prop):Prop :=
 ∀(G:Gh) (F:Hp) (σ:St) (H:Hp) (ρ:Ev) (vs:List V) (ds:List D) (Q:VK) (Qd:Sl->Prop),Rel K G F σ H ρ->AtAll K F H vs ds->f ds Qd ->
  (∀v H' F' s,Sub F F'->Rel K G F' σ H' ρ->Res K G F' H' σ ρ v s->Qd s->Q v H')->r vs H Q
theorem l_op{K:Fg}{as:List AD}{r:List V->Hp->VK->Prop}{f:List D->(Sl->Prop)->Prop}(ok:OpOk K r f){σ:St}{H:Hp}{Q:VK}(h:lift K (dOp as f) σ H Q):tArgs (as.map (argT K)) σ H fun vs H1=>r vs H1 Q:=by
 obtain⟨G,F,ρ,Qd,R,w,k⟩:=h
 refine args_ok R w fun vs H' F' xs ρ' sb R' o q=>?_
 obtain⟨ds,ha,q⟩:=looks_ok R' o q
 exact ok G F' σ H' ρ' vs ds Q _ R' ha q fun v H2 F2 s s2 R2 r2 q2=>k v H2 F2 s ρ' (sb.trans s2) R2 r2 q2
noncomputable def o1(f:D->(Sl->Prop)->Prop):List D->(Sl->Prop)->Prop
 | [x],Q=>f x Q
 | _,_=>False
noncomputable def o2(f:D->D->(Sl->Prop)->Prop):List D->(Sl->Prop)->Prop
 | [x,y],Q=>f x y Q
 | _,_=>False
noncomputable def o3(f:D->D->D->(Sl->Prop)->Prop):List D->(Sl->Prop)->Prop
 | [x,y,z],Q=>f x y z Q
 | _,_=>False
noncomputable def dTst(td:TD):TTD:=fun ρ Q=>td ρ fun r ρ'=>match r with
 | .fz (.bool b)=>Q b ρ'
 | _=>False
noncomputable def dNot(c:TTD):TTD:=fun ρ Q=>c ρ fun b ρ'=>Q (!b) ρ'
noncomputable def dAnd(c e:TTD):TTD:=fun ρ Q=>c ρ fun b ρ'=>if b=true then e ρ' Q else Q false ρ'
noncomputable def dOr(c e:TTD):TTD:=fun ρ Q=>c ρ fun b ρ'=>if b=true then Q true ρ' else e ρ' Q
noncomputable def dYes:TTD:=fun ρ Q=>Q true ρ
section
variable {K:Fg}{σ:St}{H:Hp}
theorem l_tst{td:TD}{t:TE}(ht:∀{σ H Q},lift K td σ H Q->t σ H Q){Q:Bool->Hp->Prop}(h:liftT K (dTst td) σ H Q):tTest t σ H Q:=by
 obtain⟨G,F,ρ,Qd,R,w,k⟩:=h
 refine ht ⟨G,F,ρ,_,R,w,fun v H' F' r ρ' sb R' r' q=>?_⟩
 split at q
 ·rename_i b
  cases r'
  exact ⟨b,rfl,k b H' F' ρ' sb R' q⟩
 ·exact q.elim
theorem l_not{c:TTD}{Q:Bool->Hp->Prop}(h:liftT K (dNot c) σ H Q):tNot (liftT K c) σ H Q:=by
 obtain⟨G,F,ρ,Qd,R,w,k⟩:=h
 exact ⟨G,F,ρ,_,R,w,fun b H' F' ρ' sb R' q=>k (!b) H' F' ρ' sb R' q⟩
theorem l_and{c e:TTD}{Q:Bool->Hp->Prop}(h:liftT K (dAnd c e) σ H Q):tAnd (liftT K c) (liftT K e) σ H Q:=by
 obtain⟨G,F,ρ,Qd,R,w,k⟩:=h
 refine ⟨G,F,ρ,_,R,w,fun b H' F' ρ' sb R' q=>?_⟩
 cases b with
 | true=>exact ⟨G,F',ρ',Qd,R',q,fun b H2 F2 ρ2 s2 R2 q2=>k b H2 F2 ρ2 (sb.trans s2) R2 q2⟩
 | false=>exact k false H' F' ρ' sb R' q
theorem l_or{c e:TTD}{Q:Bool->Hp->Prop}(h:liftT K (dOr c e) σ H Q):tOr (liftT K c) (liftT K e) σ H Q:=by
 obtain⟨G,F,ρ,Qd,R,w,k⟩:=h
 refine ⟨G,F,ρ,_,R,w,fun b H' F' ρ' sb R' q=>?_⟩
 cases b with
 | true=>exact k true H' F' ρ' sb R' q
 | false=>exact ⟨G,F',ρ',Qd,R',q,fun b H2 F2 ρ2 s2 R2 q2=>k b H2 F2 ρ2 (sb.trans s2) R2 q2⟩
theorem l_yes{Q:Bool->Hp->Prop}(h:liftT K dYes σ H Q):tYes σ H Q:=by
 obtain⟨G,F,ρ,Qd,R,w,k⟩:=h
 exact k true H F ρ (Sub.refl _) R w
end
noncomputable def dAndV(a b:TD):TD:=fun ρ Q=>a ρ fun r ρ'=>match r with
 | .fz (.bool c)=>if c=true then b ρ' Q else Q (.fz (.bool false)) ρ'
 | _=>False
noncomputable def dNotV(a:TD):TD:=fun ρ Q=>a ρ fun r ρ'=>match r with
 | .fz (.bool c)=>Q (.fz (.bool (!c))) ρ'
 | _=>False
section
variable {K:Fg}{σ:St}{H:Hp}{Q:VK}{a b:TD}{c:TTD}
theorem l_andV(h:lift K (dAndV a b) σ H Q):tAndV (lift K a) (lift K b) σ H Q:=by
 obtain⟨G,F,ρ,Qd,R,w,k⟩:=h
 refine ⟨G,F,ρ,_,R,w,fun v H' F' r ρ' sb R' r' q=>?_⟩
 split at q
 ·rename_i c
  cases r'
  refine ⟨c,rfl,?_⟩
  cases c with
  | true=>exact ⟨G,F',ρ',Qd,R',q,fun v H2 F2 r ρ2 s2 R2 r2 q2=>k v H2 F2 r ρ2 (sb.trans s2) R2 r2 q2⟩
  | false=>exact k _ H' F' (.fz (.bool false)) ρ' sb R' (Da.bl false) q
 ·exact q.elim
theorem l_notV(h:lift K (dNotV a) σ H Q):tNotV (lift K a) σ H Q:=by
 obtain⟨G,F,ρ,Qd,R,w,k⟩:=h
 refine ⟨G,F,ρ,_,R,w,fun v H' F' r ρ' sb R' r' q=>?_⟩
 split at q
 ·rename_i c
  cases r'
  exact ⟨c,rfl,k _ H' F' (.fz (.bool (!c))) ρ' sb R' (Da.bl (!c)) q⟩
 ·exact q.elim
end
theorem noIo_of{ρ:Ev}{i:Nat}{P:Prop}(h:match ρ[i]? with|some (some (.io _))=>False|some _=>P|none=>False):noIo ρ i/\P:=by
 unfold noIo
 cases e:ρ[i]? with
 | none=>rw[e]at h;exact h.elim
 | some x =>
  rw[e]at h
  cases x with
  | none=>exact ⟨trivial,h⟩
  | some s=>cases s with
   | fz d=>exact ⟨trivial,h⟩
   | ow d=>exact ⟨trivial,h⟩
   | io d=>exact h.elim
structure DE where
 nx:Ev->Prop
 rt:Sl->Ev->Prop
 bk:Ev->Prop
 ct:Ev->Prop
noncomputable abbrev TDS:=DE->Ev->Prop
noncomputable def liftS(K:Fg)(ts:TDS):TS:=fun D σ H=>∃(G:Gh) (F:Hp) (ρ:Ev) (E:DE),Rel K G F σ H ρ/\ts E ρ /\
 (∀σ' H' F' ρ',Sub F F'->Rel K G F' σ' H' ρ'->E.nx ρ'->D.nx σ' H') /\
 (∀v σ' H' F' r ρ',Sub F F'->Rel K G F' σ' H' ρ'->Res K G F' H' σ' ρ' v r->E.rt r ρ'->D.rt v H') /\
 (∀σ' H' F' ρ',Sub F F'->Rel K G F' σ' H' ρ'->E.bk ρ'->D.bk σ' H') /\
 (∀σ' H' F' ρ',Sub F F'->Rel K G F' σ' H' ρ'->E.ct ρ'->D.ct σ' H')
noncomputable def dNext:TDS:=fun E ρ=>E.nx ρ
noncomputable def dSeq(t u:TDS):TDS:=fun E ρ=>t { nx:=fun ρ'=>u E ρ',rt:=E.rt,bk:=E.bk,ct:=E.ct } ρ
noncomputable def dRet(a:TD):TDS:=fun E ρ=>a ρ E.rt
noncomputable def dDrop(a:TD):TDS:=fun E ρ=>a ρ fun _ ρ'=>E.nx ρ'
noncomputable def dIfS(c:TTD)(t u:TDS):TDS:=fun E ρ=>c ρ fun b ρ'=>if b=true then t E ρ' else u E ρ'
noncomputable def dSet(i:Nat)(a:TD):TDS:=fun E ρ=>a ρ fun r ρ'=>match ρ'[i]? with
 | some (some (.io _))=>False
 | some _=>E.nx (ρ'.set i (some r))
 | none=>False
section
variable {K:Fg}{σ:St}{H:Hp}{E:Ends}{t u:TDS}{a:TD}{c:TTD}
theorem l_next(h:liftS K dNext E σ H):tNext E σ H:=by
 obtain⟨G,F,ρ,D,R,w,n,r,b,c⟩:=h
 exact n σ H F ρ (Sub.refl _) R w
theorem later{G:Gh}{F F1 H1:Hp}{ρ1:Ev}{σ1:St}{D:DE}{ts:TDS}(s:Sub F F1)(R:Rel K G F1 σ1 H1 ρ1)(w:ts D ρ1)
  (n:∀σ' H' F' ρ',Sub F F'->Rel K G F' σ' H' ρ'->D.nx ρ'->E.nx σ' H')
  (r:∀v σ' H' F' r ρ',Sub F F'->Rel K G F' σ' H' ρ'->Res K G F' H' σ' ρ' v r->D.rt r ρ'->E.rt v H')
  (b:∀σ' H' F' ρ',Sub F F'->Rel K G F' σ' H' ρ'->D.bk ρ'->E.bk σ' H')
  (c:∀σ' H' F' ρ',Sub F F'->Rel K G F' σ' H' ρ'->D.ct ρ'->E.ct σ' H'):liftS K ts E σ1 H1 :=
 ⟨G,F1,ρ1,D,R,w,fun _ _ _ _ s' R' q=>n _ _ _ _ (s.trans s') R' q,fun _ _ _ _ _ _ s' R' r' q=>r _ _ _ _ _ _ (s.trans s') R' r' q,
   fun _ _ _ _ s' R' q=>b _ _ _ _ (s.trans s') R' q,fun _ _ _ _ s' R' q=>c _ _ _ _ (s.trans s') R' q⟩
theorem l_seq(h:liftS K (dSeq t u) E σ H):tSeq (liftS K t) (liftS K u) E σ H:=by
 obtain⟨G,F,ρ,D,R,w,n,r,b,c⟩:=h
 exact ⟨G,F,ρ,_,R,w,fun σ' H' F' ρ' s R' q=>later s R' q n r b c,r,b,c⟩
theorem l_ret(h:liftS K (dRet a) E σ H):tRet (lift K a) E σ H:=by
 obtain⟨G,F,ρ,D,R,w,n,r,b,c⟩:=h
 exact ⟨G,F,ρ,_,R,w,fun v H' F' x ρ' s R' r' q=>r v σ H' F' x ρ' s R' r' q⟩
theorem l_drop(h:liftS K (dDrop a) E σ H):tDrop (lift K a) E σ H:=by
 obtain⟨G,F,ρ,D,R,w,n,r,b,c⟩:=h
 exact ⟨G,F,ρ,_,R,w,fun v H' F' x ρ' s R' r' q=>n σ H' F' ρ' s R' q⟩
theorem l_ifS(h:liftS K (dIfS c t u) E σ H):tIfS (liftT K c) (liftS K t) (liftS K u) E σ H:=by
 obtain⟨G,F,ρ,D,R,w,n,r,b,c⟩:=h
 refine ⟨G,F,ρ,_,R,w,fun x H' F' ρ' s R' q=>?_⟩
 cases x with
 | true=>exact later s R' q n r b c
 | false=>exact later s R' q n r b c
theorem l_set{i:Nat}(h:liftS K (dSet i a) E σ H):tAsg (lift K a) (gName i) E σ H:=by
 obtain⟨G,F,ρ,D,R,w,n,r,b,c⟩:=h
 refine ⟨G,F,ρ,_,R,w,fun v H' F' x ρ' s R' r' q=>?_⟩
 have hn:=noIo_of q
 exact n _ H' F' _ s (R'.asg hn.1 r') hn.2
end
noncomputable def dRetV(i:Nat):TDS:=fun E ρ=>match ρ[i]? with
 | some (some (.fz d))=>E.rt (.fz d) ρ
 | some (some (.ow d))=>E.rt (.ow d) (ρ.set i none)
 | _=>False
noncomputable def dMove(i j:Nat):TDS:=fun E ρ=>match ρ[j]? with
 | some (some (.fz d))=>(match ρ[i]? with
   | some (some (.io _))=>False
   | some _=>E.nx (ρ.set i (some (.fz d)))
   | none=>False)
 | some (some (.ow d))=>(match (ρ.set j none)[i]? with
   | some (some (.io _))=>False
   | some _=>E.nx ((ρ.set j none).set i (some (.ow d)))
   | none=>False)
 | _=>False
section
variable {K:Fg}{σ:St}{H:Hp}{E:Ends}
theorem l_retV{i:Nat}(h:liftS K (dRetV i) E σ H):tRet (tVar i) E σ H:=by
 obtain⟨G,F,ρ,D,R,w,n,r,b,c⟩:=h
 unfold dRetV at w
 split at w
 ·rename_i d e
  obtain⟨v,e1,h1⟩:=R.fz i d e
  exact ⟨v,e1,r v σ H F (.fz d) ρ (Sub.refl _) R h1 w⟩
 ·rename_i d e
  obtain⟨v,e1,h1⟩:=R.forgetRes e
  exact ⟨v,e1,r v σ H F (.ow d) _ (Sub.refl _) (R.forget e) h1 w⟩
 ·exact w.elim
theorem l_move{i j:Nat}(h:liftS K (dMove i j) E σ H):tAsg (tVar j) (gName i) E σ H:=by
 obtain⟨G,F,ρ,D,R,w,n,r,b,c⟩:=h
 unfold dMove at w
 split at w
 ·rename_i d e
  obtain⟨v,e1,h1⟩:=R.fz j d e
  obtain⟨hn,w⟩:=noIo_of w
  exact ⟨v,e1,n _ H F _ (Sub.refl _) (R.asg (s:=.fz d) hn h1) w⟩
 ·rename_i d e
  obtain⟨v,e1,h1⟩:=R.forgetRes e
  obtain⟨hn,w⟩:=noIo_of w
  exact ⟨v,e1,n _ H F _ (Sub.refl _) ((R.forget e).asg (s:=.ow d) hn h1) w⟩
 ·exact w.elim
end
noncomputable abbrev TDG:=D->Ev->(Ev->Prop)->Prop
noncomputable def liftG(K:Fg)(g:TDG):TG:=fun v σ H Q=>∃(G:Gh) (F:Hp) (ρ:Ev) (d:D) (Qd:Ev->Prop),Rel K G F σ H ρ/\Da K F v d/\g d ρ Qd/\∀σ' ρ',Rel K G F σ' H ρ'->Qd ρ'->Q σ' H
noncomputable def dGN(i:Nat):TDG:=fun d ρ Q=>match ρ[i]? with
 | some (some (.io _))=>False
 | some _=>Q (ρ.set i (some (.fz d)))
 | none=>False
noncomputable def dGs:List TDG->List D->Ev->(Ev->Prop)->Prop
 | [],[],ρ,Q=>Q ρ
 | g :: gs,d :: ds,ρ,Q=>g d ρ fun ρ'=>dGs gs ds ρ' Q
 | _,_,_,_=>False
noncomputable def dGT(gs:List TDG):TDG:=fun d ρ Q=>match d with
 | .tuple ds=>ds.length=gs.length/\dGs gs ds ρ Q
 | _=>False
noncomputable def gAll:List TG->TGs
 | []=>gNil
 | g :: gs=>gCons g (gAll gs)
section
variable {K:Fg}{σ:St}{H:Hp}{v:V}{Q:St->Hp->Prop}
theorem l_gn{i:Nat}(h:liftG K (dGN i) v σ H Q):gName i v σ H Q:=by
 obtain⟨G,F,ρ,d,Qd,R,hd,w,k⟩:=h
 obtain⟨hn,w⟩:=noIo_of w
 exact k _ _ (R.asg (s:=.fz d) hn hd) w
theorem l_gs{G:Gh}{F:Hp}:∀{gs:List TDG}{ds:List D}{vs:List V}{σ:St}{ρ:Ev}{Qd:Ev->Prop},Rel K G F σ H ρ->DaAll K F vs ds->dGs gs ds ρ Qd->(∀σ' ρ',Rel K G F σ' H ρ'->Qd ρ'->Q σ' H)->gAll (gs.map (liftG K)) vs σ H Q
 | [],[],_,σ,ρ,Qd,R,.nil,w,k=>⟨rfl,k σ ρ R w⟩
 | g :: gs,d :: ds,_,σ,ρ,Qd,R,.cons h t,w,k=>⟨_,_,rfl,G,F,ρ,d,_,R,h,w,fun σ' ρ' R' w'=>l_gs (gs:=gs) R' t w' k⟩
 | [],_ :: _,_,σ,ρ,Qd,R,_,w,k=>by exact w.elim
 | _ :: _,[],_,σ,ρ,Qd,R,_,w,k=>by exact w.elim
theorem l_gt{gs:List TDG}{n:Nat}(hn:gs.length=n)(h:liftG K (dGT gs) v σ H Q):gTup K n (gAll (gs.map (liftG K))) v σ H Q:=by
 obtain⟨G,F,ρ,d,Qd,R,hd,w,k⟩:=h
 unfold dGT at w
 split at w
 ·cases hd with
  | tup e t=>exact ⟨_,_,rfl,SqT.of (R.sub _ _ e),by rw[t.length,w.1,hn],l_gs R t w.2 k⟩
 ·exact w.elim
end
noncomputable def Walks(K:Fg)(J:It)(F:Hp)(ds:List D):Prop:=∀(i:Nat) (H F1:Hp),Sub F F1->Sub F1 H ->
 (∀d,ds[i]?=some d->J.go i H/\∀x H',J.yld i H x H'->∃F2,Sub F1 F2/\(∀b o,F2 b=some o->F1 b=some o\/H b=none)/\Sub F2 H'/\Sub H H'/\Da K F2 x d)/\(ds.length=i->J.stop i H)
noncomputable abbrev TDI:=Ev->(List D->Ev->Prop)->Prop
noncomputable def liftI(K:Fg)(ti:TDI):TI:=fun σ H R=>∃(G:Gh) (F:Hp) (ρ:Ev) (Qd:List D->Ev->Prop),Rel K G F σ H ρ/\ti ρ Qd /\
 ∀J H' F' ds ρ',Sub F F'->Rel K G F' σ H' ρ'->Walks K J F' ds->Qd ds ρ'->R J H'
theorem Rel.turn{K:Fg}{G:Gh}{F F2 H H':Hp}{σ:St}{ρ:Ev}(R:Rel K G F σ H ρ)(s:Sub F F2)(n:∀b o,F2 b=some o->F b=some o\/H b=none)(s2:Sub F2 H')(s3:Sub H H'):Rel K G F2 σ H' ρ where
 len:=R.len
 sub:=s2
 sub0:=R.sub0.trans s
 fn:=fun b o e=>by
  rcases n b o e with q|q
  ·exact R.fn b o q
  ·exact .inr (R.h0 q)
 keep:=fun a o e m t=>s3 _ _ (R.keep a o e m t)
 tb:=R.tb.up (fun _ _ _ e=>s3 _ _ e) fun z hz=>by
  obtain⟨e1,ps,e2,_⟩:=R.tb z hz
  cases q:F2 z.1 with
  | none=>rfl
  | some u =>
   rcases n _ u q with y|y
   ·rw[e1]at y;cases y
   ·rw[e2]at y;cases y
 fz:=fun i d e=>by
  obtain⟨v,h1,h2⟩:=R.fz i d e
  exact ⟨v,h1,h2.mono s⟩
 ow:=fun i t e w=>by
  obtain⟨a,o,h1,h2,h3,h4⟩:=R.ow i t e w
  refine ⟨a,o,h1,?_,s3 _ _ h3,h4.mono s⟩
  cases q:F2 a with
  | none=>rfl
  | some u =>
   rcases n a u q with z|z
   ·rw[h2]at z;cases z
   ·rw[h3]at z;cases z
 new:=R.new
 io:=R.io
 ioi:=R.ioi
 ap:=R.ap
theorem drop_get{α:Type}{l:List α}{i:Nat}{x:α}(h:l[i]?=some x):l.drop i=x :: l.drop (i+1):=by
 obtain⟨hl,rfl⟩:=List.getElem?_eq_some_iff.mp h
 exact List.drop_eq_getElem_cons hl
noncomputable def capt:Option Sl->Option Sl
 | some (.ow d)=>some (.io d)
 | x=>x
noncomputable def innerE(own:List Str)(fr:List Nat)(ρ:Ev):Ev:=own.map (fun _=>none)++fr.map fun i=>capt ((ρ[i]?).getD none)
noncomputable def wb1:Option Sl->Option (Option Sl)->Option Sl
 | some (.ow d),some (some (.io d'))=>some (.ow d')
 | some (.io d),some (some (.io d'))=>some (.io d')
 | x,_=>x
noncomputable def wbGo(fr:List Nat)(τ:Ev):Nat->Ev->Ev
 | _,[]=>[]
 | j,x :: ρ=>wb1 x ((fr.zip τ).lookup j) :: wbGo fr τ (j+1) ρ
theorem wbGo_get(fr:List Nat)(τ:Ev):∀(ρ:Ev) (j i:Nat),(wbGo fr τ j ρ)[i]?=(ρ[i]?).map fun x=>wb1 x ((fr.zip τ).lookup (j+i))
 | [],j,i=>by simp[wbGo]
 | x :: ρ,j,0=>by simp[wbGo]
 | x :: ρ,j,i+1=>by
  have:=wbGo_get fr τ ρ (j+1) i
  simp only[wbGo,List.getElem?_cons_succ]
  rw[this,show j+1+i=j+(i+1) by omega]
theorem wbGo_len(fr:List Nat)(τ:Ev):∀(ρ:Ev) (j:Nat),(wbGo fr τ j ρ).length=ρ.length
 | [],_=>rfl
 | x :: ρ,j=>by simp[wbGo,wbGo_len fr τ ρ (j+1)]
theorem zip_lookup:∀{fr:List Nat}{τ:Ev}{k i:Nat}{x:Option Sl},fr.Nodup->fr[k]?=some i->τ[k]?=some x->(fr.zip τ).lookup i=some x
 | [],_,_,_,_,_,e,_=>by simp at e
 | j :: fr,[],_,_,_,_,_,e=>by simp at e
 | j :: fr,y :: τ,0,i,x,_,e,e'=>by simp at e e';subst e e';simp[List.lookup]
 | j :: fr,y :: τ,k+1,i,x,nd,e,e'=>by
  have nd':=List.nodup_cons.mp nd
  simp at e e'
  have hm:i∈fr:=List.mem_of_getElem? e
  have ne:(i==j)=false:=by simp;intro z;subst z;exact nd'.1 hm
  simp[List.lookup,ne]
  exact zip_lookup nd'.2 e e'
theorem zip_lookup_mem:∀{fr:List Nat}{τ:Ev}{i:Nat}{x:Option Sl},(fr.zip τ).lookup i=some x->∃k:Nat,fr[k]?=some i/\τ[k]?=some x
 | [],_,_,_,e=>by simp at e
 | j :: fr,[],_,_,e=>by simp at e
 | j :: fr,y :: τ,i,x,e=>by
  by_cases z:i=j
  ·subst z;simp[List.lookup]at e;subst e;exact ⟨0,by simp,by simp⟩
  ·have ne:(i==j)=false:=by simp[z]
   simp[List.lookup,ne]at e
   obtain⟨k,h1,h2⟩:=zip_lookup_mem e
   exact ⟨k+1,by simpa using h1,by simpa using h2⟩
noncomputable def ioOf(σ:St)(ρ:Ev)(i:Nat):Option Addr:=match ρ[i]?,σ[i]? with
 | some (some s),some (some (.ref a))=>if isOw s=true then some a else none
 | _,_=>none
theorem ioOf_some{σ:St}{ρ:Ev}{i:Nat}{a:Addr}(h:ioOf σ ρ i=some a):∃s,ρ[i]?=some (some s)/\isOw s=true/\σ[i]?=some (some (V.ref a)):=by
 unfold ioOf at h
 split at h
 ·rename_i s b e1 e2
  split at h
  ·rename_i w;cases h;exact ⟨s,e1,w,e2⟩
  ·cases h
 ·cases h
theorem ioOf_of{σ:St}{ρ:Ev}{i:Nat}{a:Addr}{s:Sl}(h1:ρ[i]?=some (some s))(h2:isOw s=true)(h3:σ[i]?=some (some (V.ref a))):ioOf σ ρ i=some a:=by
 unfold ioOf;rw[h1,h3];simp[h2]
noncomputable def ghC(own:List Str)(fr:List Nat)(F H:Hp)(σ:St)(ρ:Ev):Gh:=⟨H,F,fun j=>if own.length<=j then (match fr[j - own.length]? with|some i=>ioOf σ ρ i|none=>none) else none⟩
theorem ghC_io{own:List Str}{fr:List Nat}{F H:Hp}{σ:St}{ρ:Ev}{j:Nat}{a:Addr}(h:(ghC own fr F H σ ρ).io j=some a):∃k i s,j=own.length+k/\fr[k]?=some i/\ρ[i]?=some (some s)/\isOw s=true/\σ[i]?=some (some (V.ref a)):=by
 unfold ghC at h
 simp only at h
 split at h
 ·rename_i hl
  split at h
  ·rename_i i e
   obtain⟨s,h1,h2,h3⟩:=ioOf_some h
   exact ⟨j - own.length,i,s,by omega,e,h1,h2,h3⟩
  ·cases h
 ·cases h
theorem ghC_of{own:List Str}{fr:List Nat}{F H:Hp}{σ:St}{ρ:Ev}{k i:Nat}{a:Addr}{s:Sl}(h0:fr[k]?=some i)(h1:ρ[i]?=some (some s))(h2:isOw s=true)(h3:σ[i]?=some (some (V.ref a))):(ghC own fr F H σ ρ).io (own.length+k)=some a:=by
 unfold ghC
 simp only
 rw[if_pos (Nat.le_add_right _ _),Nat.add_sub_cancel_left,h0]
 exact ioOf_of h1 h2 h3
theorem inner_get{α:Type}{own:List Str}{fr:List Nat}{f:Nat->Option α}{j:Nat}{x:α}(h:(own.map (fun _=>(none:Option α))++fr.map f)[j]?=some (some x)):∃k i,j=own.length+k/\fr[k]?=some i/\f i=some x:=by
 by_cases hl:j < own.length
 ·rw[List.getElem?_append_left (by simpa using hl)]at h
  simp at h
 ·rw[List.getElem?_append_right (by simpa using Nat.le_of_not_lt hl)]at h
  simp at h
  obtain⟨i,h1,h2⟩:=h
  exact ⟨j - own.length,i,by omega,h1,h2⟩
theorem inner_of{α:Type}{own:List Str}{fr:List Nat}{f:Nat->Option α}{k i:Nat}(h:fr[k]?=some i):(own.map (fun _=>(none:Option α))++fr.map f)[own.length+k]?=some (f i):=by
 rw[List.getElem?_append_right (by simp)]
 simp[h]
theorem capt_get{x:Option Sl}{s:Sl}(h:capt x=some s):∃s0,x=some s0/\((∃d,s0=.fz d/\s=.fz d)\/(isOw s0=true/\s=.io s0.d)):=by
 cases x with
 | none=>cases h
 | some s0 =>
  cases s0 with
  | fz d=>cases h;exact ⟨_,rfl,.inl ⟨d,rfl,rfl⟩⟩
  | ow d=>cases h;exact ⟨_,rfl,.inr ⟨rfl,rfl⟩⟩
  | io d=>cases h;exact ⟨_,rfl,.inr ⟨rfl,rfl⟩⟩
theorem getD_some{α:Type}{o:Option (Option α)}{x:α}(h:o.getD none=some x):o=some (some x):=by
 cases o with
 | none=>cases h
 | some y=>simp at h;rw[h]
section
variable {K:Fg}{G:Gh}{F F' H H':Hp}{σ τ:St}{ρ μ:Ev}{own:List Str}{fr:List Nat}
theorem innerE_get{j:Nat}{s:Sl}(h:(innerE own fr ρ)[j]?=some (some s)):∃k i s0,j=own.length+k/\fr[k]?=some i/\ρ[i]?=some (some s0)/\((∃d,s0=.fz d/\s=.fz d)\/(isOw s0=true/\s=.io s0.d)):=by
 obtain⟨k,i,h1,h2,h3⟩:=inner_get h
 obtain⟨s0,h4,h5⟩:=capt_get h3
 exact ⟨k,i,s0,h1,h2,getD_some h4,h5⟩
theorem st0_of{k i:Nat}(h:fr[k]?=some i):(st0 own σ fr)[own.length+k]?=some ((σ[i]?).getD none):=inner_of (f:=fun i=>(σ[i]?).getD none) h
theorem innerE_of{k i:Nat}(h:fr[k]?=some i):(innerE own fr ρ)[own.length+k]?=some (capt ((ρ[i]?).getD none)):=inner_of (f:=fun i=>capt ((ρ[i]?).getD none)) h
theorem nodup_at{fr:List Nat}(nd:fr.Nodup){k l i:Nat}(a:fr[k]?=some i)(b:fr[l]?=some i):k=l:=by
 obtain⟨h1,e1⟩:=List.getElem?_eq_some_iff.mp a
 obtain⟨h2,e2⟩:=List.getElem?_eq_some_iff.mp b
 exact (List.getElem_inj nd).mp (e1.trans e2.symm)
theorem Rel.inner(R:Rel K G F σ H ρ)(nd:fr.Nodup):Rel K (ghC own fr F H σ ρ) F (st0 own σ fr) H (innerE own fr ρ) where
 len:=by simp[st0,frS,innerE]
 sub:=R.sub
 sub0:=Sub.refl _
 fn:=fun _ _ e=>.inl e
 keep:=fun _ _ e _ _=>e
 tb:=R.tb
 fz:=fun j d e=>by
  obtain⟨k,i,s0,rfl,h2,h3,h4⟩:=innerE_get e
  rcases h4 with⟨d0,rfl,z⟩|⟨_,z⟩
  ·cases z
   obtain⟨v,e1,e2⟩:=R.fz i d h3
   exact ⟨v,by rw[st0_of h2,e1];rfl,e2⟩
  ·cases z
 ow:=fun j s e w=>by
  obtain⟨k,i,s0,rfl,h2,h3,h4⟩:=innerE_get e
  rcases h4 with⟨d0,rfl,z⟩|⟨w0,z⟩
  ·cases z;cases w
  ·cases z
   obtain⟨a,o,e1,e2,e3,e4⟩:=R.ow i s0 h3 w0
   exact ⟨a,o,by rw[st0_of h2,e1];rfl,e2,e3,e4⟩
 new:=fun j d a e _=>by
  obtain⟨k,i,s0,rfl,h2,h3,h4⟩:=innerE_get e
  rcases h4 with⟨d0,rfl,z⟩|⟨w0,z⟩<;>cases z
 io:=fun j a e=>by
  obtain⟨k,i,s,rfl,h1,h2,h3,h4⟩:=ghC_io e
  refine ⟨s.d,?_,by rw[st0_of h1,h4];rfl⟩
  rw[innerE_of h1,h2]
  cases s<;>first|rfl|cases h3
 ioi:=fun j d e=>by
  obtain⟨k,i,s0,rfl,h2,h3,h4⟩:=innerE_get e
  rcases h4 with⟨d0,rfl,z⟩|⟨w0,z⟩
  ·cases z
  ·obtain⟨a,o,e1,_⟩:=R.ow i s0 h3 w0
   exact ⟨a,ghC_of h2 h3 w0 e1⟩
 ap:=fun j l s t a e1 w1 e2 w2 e3 e4=>by
  obtain⟨k,i,s0,rfl,h2,h3,h4⟩:=innerE_get e1
  obtain⟨k',i',s0',rfl,h2',h3',h4'⟩:=innerE_get e2
  have p1:isOw s0=true:=by
   rcases h4 with⟨d0,rfl,z⟩|⟨w0,z⟩
   ·subst z;cases w1
   ·exact w0
  have p2:isOw s0'=true:=by
   rcases h4' with⟨d0,rfl,z⟩|⟨w0,z⟩
   ·subst z;cases w2
   ·exact w0
  rw[st0_of h2]at e3
  rw[st0_of h2']at e4
  have q:=R.ap i i' s0 s0' a h3 p1 h3' p2 (getD_some (Option.some.inj e3)) (getD_some (Option.some.inj e4))
  subst q
  rw[nodup_at nd h2 h2']
theorem wb_cases(R:Rel K G F σ H ρ)(R':Rel K (ghC own fr F H σ ρ) F' τ H' μ)(nd:fr.Nodup){i:Nat}{s:Sl}(h:(wbGo fr (μ.drop own.length) 0 ρ)[i]?=some (some s)) :
  ∃s0,ρ[i]?=some (some s0)/\((s=s0/\(isOw s0=true->i∉fr))\/(isOw s0=true/\∃k d',fr[k]?=some i/\μ[own.length+k]?=some (some (Sl.io d'))/\s=s0.put d')):=by
 rw[wbGo_get]at h
 cases e:ρ[i]? with
 | none=>rw[e]at h;cases h
 | some x =>
  rw[e]at h
  simp only[Option.map_some,Nat.zero_add]at h
  have h:=Option.some.inj h
  cases x with
  | none=>simp[wb1]at h
  | some s0 =>
   refine ⟨s0,rfl,?_⟩
   by_cases w0:isOw s0=true
   ·by_cases hm:i∈fr
    ·obtain⟨k,hk⟩:=List.mem_iff_getElem?.mp hm
     obtain⟨a,o,e1,_⟩:=R.ow i s0 e w0
     obtain⟨d',g1,g2⟩:=R'.io _ _ (ghC_of (own:=own) (F:=F) (H:=H) hk e w0 e1)
     have z:=zip_lookup (τ:=μ.drop own.length) nd hk (by rw[List.getElem?_drop];exact g1)
     rw[z]at h
     refine .inr ⟨w0,k,d',hk,g1,?_⟩
     cases s0 with
     | fz d=>cases w0
     | ow d=>simp[wb1]at h;exact h.symm
     | io d=>simp[wb1]at h;exact h.symm
    ·refine .inl ⟨?_,fun _=>hm⟩
     have z:(fr.zip (μ.drop own.length)).lookup i=none:=by
      cases q:(fr.zip (μ.drop own.length)).lookup i with
      | none=>rfl
      | some y =>
       obtain⟨k,h1,_⟩:=zip_lookup_mem q
       exact (hm (List.mem_of_getElem? h1)).elim
     rw[z]at h
     cases s0 with
     | fz d=>cases w0
     | ow d=>simp[wb1]at h;exact h.symm
     | io d=>simp[wb1]at h;exact h.symm
   ·refine .inl ⟨?_,fun z=>(w0 z).elim⟩
    cases s0 with
    | fz d=>simp[wb1]at h;exact h.symm
    | ow d=>exact (w0 rfl).elim
    | io d=>exact (w0 rfl).elim
theorem wb1_io{d:D}(x:Option (Option Sl)):∃d',wb1 (some (.io d)) x=some (.io d'):=by
 rcases x with _|_|(d'|d'|d')
 ·exact ⟨d,rfl⟩
 ·exact ⟨d,rfl⟩
 ·exact ⟨d,rfl⟩
 ·exact ⟨d,rfl⟩
 ·exact ⟨d',rfl⟩
theorem Rel.outer(R:Rel K G F σ H ρ)(R':Rel K (ghC own fr F H σ ρ) F' τ H' μ)(nd:fr.Nodup):Rel K G F' σ H' (wbGo fr (μ.drop own.length) 0 ρ):=by
 have sb:Sub F F':=R'.sub0
 have owns:∀{i:Nat}{s:Sl},(wbGo fr (μ.drop own.length) 0 ρ)[i]?=some (some s)->isOw s=true->∃s0,ρ[i]?=some (some s0)/\isOw s0=true:=fun {i s} e w=>by
  obtain⟨s0,h1,h2⟩:=wb_cases R R' nd e
  rcases h2 with⟨rfl,_⟩|⟨w0,_⟩
  ·exact ⟨s,h1,w⟩
  ·exact ⟨s0,h1,w0⟩
 refine ⟨by rw[wbGo_len];exact R.len,R'.sub,R.sub0.trans sb,fun a o e=>?_,fun a o e n t=>?_,R'.tb,fun i d e=>?_,fun i s e w=>?_,fun i d a e ea=>?_,fun i a e=>?_,fun i d e=>?_,fun i j s t a e1 w1 e2 w2 e3 e4=>?_⟩
 ·rcases R'.fn a o e with q|q
  ·exact R.fn a o q
  ·exact .inr (R.h0 q)
 ·refine R'.keep a o (R.keep a o e n t) (fun j z=>?_) t
  obtain⟨k,i,s,rfl,h1,h2,h3,h4⟩:=ghC_io z
  cases s with
  | fz d=>cases h3
  | ow d=>rw[R.new i d a h2 h4]at e;cases e
  | io d =>
   obtain⟨a',g⟩:=R.ioi i d h2
   obtain⟨_,_,g2⟩:=R.io i a' g
   rw[h4]at g2;cases g2
   exact n i g
 ·obtain⟨s0,h1,h2⟩:=wb_cases R R' nd e
  rcases h2 with⟨rfl,_⟩|⟨w0,k,d',_,_,z⟩
  ·obtain⟨v,g1,g2⟩:=R.fz i d h1
   exact ⟨v,g1,g2.mono sb⟩
  ·cases s0<;>simp[Sl.put,isOw]at z w0
 ·obtain⟨s0,h1,h2⟩:=wb_cases R R' nd e
  rcases h2 with⟨rfl,hm⟩|⟨w0,k,d',hk,hd,rfl⟩
  ·obtain⟨a,o,g1,g2,g3,g4⟩:=R.ow i s h1 w
   have nio:∀j,(ghC own fr F H σ ρ).io j≠some a:=fun j z=>by
    obtain⟨k,i',s',rfl,q1,q2,q3,q4⟩:=ghC_io z
    have:=R.ap i i' s s' a h1 w q2 q3 g1 q4
    subst this
    exact hm w (List.mem_of_getElem? q1)
   refine ⟨a,o,g1,?_,R'.keep a o g3 nio (R.tb.ne fun u z=>by rw[g3]at z;cases z;exact g4.stk),g4.mono sb⟩
   cases q:F' a with
   | none=>rfl
   | some u =>
    rcases R'.fn a u q with z|z
    ·have z:F a=some u:=z
     rw[g2]at z;cases z
    ·have z:H a=none:=z
     rw[g3]at z;cases z
  ·obtain⟨a,o,g1,g2,g3,g4⟩:=R.ow i s0 h1 w0
   obtain⟨d2,q1,q2⟩:=R'.io _ _ (ghC_of (own:=own) (F:=F) (H:=H) hk h1 w0 g1)
   obtain⟨a',o',p1,p2,p3,p4⟩:=R'.ow _ _ hd rfl
   rw[q2]at p1;cases p1
   exact ⟨a,o',g1,p2,p3,by cases s0<;>first|exact p4|cases w0⟩
 ·obtain⟨s0,h1,h2⟩:=wb_cases R R' nd e
  rcases h2 with⟨rfl,_⟩|⟨w0,k,d',_,_,z⟩
  ·exact R.new i d a h1 ea
  ·cases s0 with
   | fz d=>cases w0
   | ow d0=>exact R.new i d0 a h1 ea
   | io d0=>cases z
 ·obtain⟨d,h1,h2⟩:=R.io i a e
  obtain⟨d',hd⟩:=wb1_io (d:=d) ((fr.zip (μ.drop own.length)).lookup i)
  exact ⟨d',by rw[wbGo_get,h1];simp only[Option.map_some,Nat.zero_add];rw[hd],h2⟩
 ·obtain⟨s0,h1,h2⟩:=wb_cases R R' nd e
  rcases h2 with⟨rfl,_⟩|⟨w0,k,d',_,_,z⟩
  ·exact R.ioi i d h1
  ·cases s0 with
   | fz d=>cases w0
   | ow d0=>cases z
   | io d0=>exact R.ioi i d0 h1
 ·obtain⟨s0,g1,g2⟩:=owns e1 w1
  obtain⟨t0,g3,g4⟩:=owns e2 w2
  exact R.ap i j s0 t0 a g1 g2 g3 g4 e3 e4
end
noncomputable abbrev Con:=List Sl->(Sl->Ev->Prop)->Prop
noncomputable def conSp(K:Fg)(con:Con):Sp:=fun vs H Q _=>∃(G:Gh) (F:Hp) (args:List Sl) (Qd:Sl->Ev->Prop),Rel K G F (vs.map some) H (args.map some)/\con args Qd /\
 ∀v H' F' r ρ',Sub F F'->Rel K G F' (vs.map some) H' ρ'->Res K G F' H' (vs.map some) ρ' v r->Qd r ρ'->Q v H'
mutual
noncomputable def noMut:D->Bool
 | .none=>true
 | .bool _=>true
 | .int _=>true
 | .str _=>true
 | .tuple xs=>noMutAll xs
 | .list _=>false
 | .dict _=>false
noncomputable def noMutAll:List D->Bool
 | []=>true
 | x :: xs=>noMut x&&noMutAll xs
end
theorem noMutAll_ints:∀ns:List Int,noMutAll (ns.map PyData.int)=true
 | []=>rfl
 | n :: ns=>by simp[noMutAll,noMut,noMutAll_ints ns]
section
variable {K:Fg}{F F':Hp}
mutual
theorem Da.noMut(h:∀b xs,F b=some (.tup xs)->F' b=some (.tup xs)):∀{v:V}{d:D},Da K F v d->noMut d=true->Da K F' v d
 | _,_,.non,_=>.non
 | _,_,.bl b,_=>.bl b
 | _,_,.int i,_=>.int i
 | _,_,.str x,_=>.str x
 | _,_,.lst _ _,z=>by simp[L3.noMut]at z
 | _,_,.tup e t,z=>.tup (h _ _ e) (DaAll.noMut h t (by simpa [L3.noMut]using z))
 | _,_,.dk _ _,z=>by simp[L3.noMut]at z
 | _,_,.dt _ _,z=>by simp[L3.noMut]at z
 | _,_,.scr _,z=>by simp[L3.noMut,scrD]at z
 | _,_,.lam _ _,z=>by simp[L3.noMut,lamD]at z
theorem DaAll.noMut(h:∀b xs,F b=some (.tup xs)->F' b=some (.tup xs)):∀{xs:List V}{ds:List D},DaAll K F xs ds->noMutAll ds=true->DaAll K F' xs ds
 | _,_,.nil,_=>.nil
 | _,_,.cons a t,z=>by
  simp[noMutAll]at z
  exact .cons (Da.noMut h a z.1) (DaAll.noMut h t z.2)
end
end
noncomputable def lentAny(ρ:Ev):List Opd->Bool
 | []=>false
 | .inr _ :: xs=>lentAny ρ xs
 | .inl i :: xs=>(match ρ[i]? with|some (some s)=>isOw s|_=>false)||lentAny ρ xs
noncomputable def dCall(con:Con)(as:List AD):TD:=fun ρ Q=>dArgs as ρ fun xs ρ1=>looksQ ρ1 xs fun ds=>con (ds.map Sl.fz) fun r _=>match lentAny ρ1 xs with
 | false=>Q r ρ1
 | true=>noMut r.d=true/\Q r ρ1
noncomputable def callI(con:Con)(i:Nat)(xs:List Opd)(ρ1:Ev)(Q:Sl->Ev->Prop):Prop:=match ρ1[i]? with
 | some (some s)=>match isOw s,lentAny ρ1 xs with
  | true,false=>looksQ ρ1 xs fun ds=>con (.io s.d :: ds.map Sl.fz) fun r outs=>match outs with
   | some (.io d') :: _=>Q r (ρ1.set i (some (s.put d')))
   | _=>False
  | _,_=>False
 | _=>False
noncomputable def dCallI(con:Con)(i:Nat)(as:List AD):TD:=fun ρ Q=>dArgs (.inl i :: as) ρ fun xs ρ1=>callI con i xs.tail ρ1 Q
noncomputable def LentA(σ:St)(ρ:Ev)(xs:List Opd)(a:Addr):Prop:=∃(i:Nat) (s:Sl),Sum.inl i∈xs/\ρ[i]?=some (some s)/\isOw s=true/\σ[i]?=some (some (V.ref a))
theorem lentAny_of{σ:St}{ρ:Ev}:∀{xs:List Opd}{a:Addr},LentA σ ρ xs a->lentAny ρ xs=true
 | [],a,⟨i,s,h,_⟩=>by cases h
 | .inr d :: xs,a,⟨i,s,h,h1,h2,h3⟩=>by
  rcases List.mem_cons.mp h with h|h
  ·cases h
  ·exact lentAny_of (xs:=xs) ⟨i,s,h,h1,h2,h3⟩
 | .inl j :: xs,a,⟨i,s,h,h1,h2,h3⟩=>by
  unfold lentAny
  rcases List.mem_cons.mp h with h|h
  ·cases h;rw[h1];simp[h2]
  ·rw[lentAny_of (xs:=xs) ⟨i,s,h,h1,h2,h3⟩];simp
open Classical in
noncomputable def lend(σ:St)(ρ:Ev)(xs:List Opd)(F H:Hp):Hp:=fun b=>if LentA σ ρ xs b then H b else F b
open Classical in
noncomputable def unlend(σ:St)(ρ:Ev)(xs:List Opd)(F:Hp):Hp:=fun b=>if LentA σ ρ xs b then none else F b
section
variable {K:Fg}{G:Gh}{F F' H H':Hp}{σ:St}{ρ:Ev}{xs:List Opd}
theorem lend_not{b:Addr}(h:¬LentA σ ρ xs b):lend σ ρ xs F H b=F b:=by unfold lend;rw[if_neg h]
theorem lend_is{b:Addr}(h:LentA σ ρ xs b):lend σ ρ xs F H b=H b:=by unfold lend;rw[if_pos h]
theorem unlend_not{b:Addr}(h:¬LentA σ ρ xs b):unlend σ ρ xs F b=F b:=by unfold unlend;rw[if_neg h]
theorem unlend_is{b:Addr}(h:LentA σ ρ xs b):unlend σ ρ xs F b=none:=by unfold unlend;rw[if_pos h]
theorem LentA.own(R:Rel K G F σ H ρ){b:Addr}(h:LentA σ ρ xs b):∃(i:Nat) (s:Sl) (o:HO),ρ[i]?=some (some s)/\isOw s=true/\σ[i]?=some (some (V.ref b))/\F b=none/\H b=some o/\Own1 K F o s.d:=by
 obtain⟨i,s,_,h1,h2,h3⟩:=h
 obtain⟨a,o,g1,g2,g3,g4⟩:=R.ow i s h1 h2
 rw[h3]at g1;cases g1
 exact ⟨i,s,o,h1,h2,h3,g2,g3,g4⟩
theorem lend_sub(R:Rel K G F σ H ρ):Sub F (lend σ ρ xs F H):=fun b o e=>by
 have n:¬LentA σ ρ xs b:=fun z=>by
  obtain⟨_,_,_,_,_,_,h,_⟩:=z.own R
  rw[h]at e;cases e
 rw[lend_not n];exact e
theorem lend_le(R:Rel K G F σ H ρ):Sub (lend σ ρ xs F H) H:=fun b o e=>by
 by_cases z:LentA σ ρ xs b
 ·rw[lend_is z]at e;exact e
 ·rw[lend_not z]at e;exact R.sub _ _ e
theorem lend_tb(R:Rel K G F σ H ρ):TabOk K (lend σ ρ xs F H) H:=R.tb.up (fun _ _ _ e=>e) fun z hz=>by
 obtain⟨e1,ps,e2,_⟩:=R.tb z hz
 have n:¬LentA σ ρ xs z.1:=fun y=>by
  obtain⟨_,_,o,_,_,_,_,h,w⟩:=y.own R
  rw[e2]at h;cases h
  exact w
 rw[lend_not n];exact e1
theorem lend_looks(R:Rel K G F σ H ρ){ys:List Opd}{vs:List V}{k:List D->Prop}(m:∀y∈ys,y∈xs)(o:OpdsAt K F σ vs ys)(h:looksQ ρ ys k):∃ds,DaAll K (lend σ ρ xs F H) vs ds/\k ds:=by
 induction o generalizing k with
 | nil=>exact ⟨[],.nil,h⟩
 | @cons v x vs ys o t ih =>
  cases x with
  | inr d =>
   obtain⟨ds,a,q⟩:=ih (k:=fun ds=>k (d :: ds)) (fun y hy=>m y (List.mem_cons_of_mem _ hy)) h
   exact ⟨d :: ds,.cons (Da.mono (lend_sub R) o) a,q⟩
  | inl i =>
   unfold looksQ at h
   split at h
   ·rename_i s e
    obtain⟨ds,a,q⟩:=ih (k:=fun ds=>k (s.d :: ds)) (fun y hy=>m y (List.mem_cons_of_mem _ hy)) h
    refine ⟨s.d :: ds,.cons ?_ a,q⟩
    have o:σ[i]?=some (some v):=o
    have own:isOw s=true->Da K (lend σ ρ xs F H) v s.d:=fun w=>by
     obtain⟨b,u,h1,h2,h3,h4⟩:=R.ow i s e w
     rw[o]at h1;cases h1
     have l:LentA σ ρ xs b:=⟨i,s,m _ List.mem_cons_self,e,w,o⟩
     exact (h4.mono (lend_sub R)).da (by rw[lend_is l];exact h3)
    cases s with
    | fz d =>
     obtain⟨v,e1,e2⟩:=R.fz i d e
     rw[o]at e1;cases e1
     exact e2.mono (lend_sub R)
    | ow d=>exact own rfl
    | io d=>exact own rfl
   ·exact h.elim
theorem own_noMut{o:HO}{d:D}(h:Own1 K F o d):noMut d=false:=by
 cases o with
 | ext φ=>rcases h.ext with⟨a',ep,xs,ps,z,rfl,t⟩|⟨a',ep,xs,ps,z,rfl,t⟩<;>rfl
 | _=>cases d<;>first|rfl|exact h.elim
theorem get_fz{ds:List D}{i:Nat}{s:Sl}(h:((ds.map Sl.fz).map some)[i]?=some (some s)):∃d,ds[i]?=some d/\s=.fz d:=by
 rw[List.map_map,List.getElem?_map]at h
 cases e:ds[i]? with
 | none=>rw[e]at h;cases h
 | some d=>rw[e]at h;cases h;exact ⟨d,rfl,rfl⟩
theorem get_vs{vs:List V}{i:Nat}{v:V}(h:vs[i]?=some v):(vs.map some)[i]?=some (some v):=by rw[List.getElem?_map,h];rfl
theorem rel_call{vs:List V}{ds:List D}(s:Sub F H)(tb:TabOk K F H)(da:DaAll K F vs ds):Rel K ⟨H,F,fun _=>none⟩ F (vs.map some) H ((ds.map Sl.fz).map some) where
 len:=by simp[da.length]
 sub:=s
 sub0:=Sub.refl _
 fn:=fun _ _ e=>.inl e
 keep:=fun _ _ e _ _=>e
 tb:=tb
 fz:=fun i d e=>by
  obtain⟨d',e1,e2⟩:=get_fz e
  cases e2
  obtain⟨v,h1,h2⟩:=da.get e1
  exact ⟨v,get_vs h1,h2⟩
 ow:=fun i s e w=>by obtain⟨d',e1,rfl⟩:=get_fz e;cases w
 new:=fun i d a e _=>by obtain⟨d',e1,e2⟩:=get_fz e;cases e2
 io:=fun i a e=>by cases e
 ioi:=fun i d e=>by obtain⟨d',e1,e2⟩:=get_fz e;cases e2
 ap:=fun i j s t a e w _ _ _ _=>by obtain⟨d',e1,rfl⟩:=get_fz e;cases w
theorem Rel.called(R:Rel K G F σ H ρ){σ1:St}{ρ1:Ev}(R':Rel K ⟨H,lend σ ρ xs F H,fun _=>none⟩ F' σ1 H' ρ1):Sub F (unlend σ ρ xs F')/\Rel K G (unlend σ ρ xs F') σ H' ρ:=by
 have nl:∀{b:Addr}{o:HO},F b=some o->¬LentA σ ρ xs b:=fun {b o} e z=>by
  obtain⟨_,_,_,_,_,_,h,_⟩:=z.own R
  rw[h]at e;cases e
 have sb:Sub F (unlend σ ρ xs F'):=fun b o e=>by
  rw[unlend_not (nl e)]
  exact R'.sub0 _ _ (lend_sub R _ _ e)
 have ul:∀{b:Addr}{o:HO},unlend σ ρ xs F' b=some o->¬LentA σ ρ xs b/\F' b=some o:=fun {b o} e=>by
  by_cases z:LentA σ ρ xs b
  ·rw[unlend_is z]at e;cases e
  ·rw[unlend_not z]at e;exact ⟨z,e⟩
 have kp:∀{b:Addr}{o:HO},(∀z∈TB K,z.1≠b)->H b=some o->H' b=some o:=fun {b o} t e=>R'.keep b o e (fun i z=>by cases z) t
 refine ⟨sb,R.len,fun b o e=>R'.sub _ _ (ul e).2,R.sub0.trans sb,fun b o e=>?_,fun a o e n t=>kp t (R.keep a o e n t),R'.tb.up (fun _ _ _ e=>e) fun z hz=>?_,fun i d e=>?_,fun i s e w=>?_,R.new,R.io,R.ioi,R.ap⟩
 ·obtain⟨n,e⟩:=ul e
  rcases R'.fn b o e with q|q
  ·have q:lend σ ρ xs F H b=some o:=q
   rw[lend_not n]at q
   exact R.fn b o q
  ·exact .inr (R.h0 q)
 ·cases q:unlend σ ρ xs F' z.1 with
  | none=>rfl
  | some u =>
   have:=(ul q).2
   rw[(R'.tb z hz).1]at this;cases this
 ·obtain⟨v,h1,h2⟩:=R.fz i d e
  exact ⟨v,h1,h2.mono sb⟩
 ·obtain⟨a,o,h1,h2,h3,h4⟩:=R.ow i s e w
  refine ⟨a,o,h1,?_,kp (R.tb.ne fun u z=>by rw[h3]at z;cases z;exact h4.stk) h3,h4.mono sb⟩
  cases q:unlend σ ρ xs F' a with
  | none=>rfl
  | some u =>
   obtain⟨n,q⟩:=ul q
   rcases R'.fn a u q with z|z
   ·have z:lend σ ρ xs F H a=some u:=z
    rw[lend_not n,h2]at z;cases z
   ·have z:H a=none:=z
    rw[h3]at z;cases z
theorem Res.called(R:Rel K G F σ H ρ){σ1:St}{ρ1:Ev}{v:V}{r:Sl}(R':Rel K ⟨H,lend σ ρ xs F H,fun _=>none⟩ F' σ1 H' ρ1)(q:Res K ⟨H,lend σ ρ xs F H,fun _=>none⟩ F' H' σ1 ρ1 v r)
  (hl:lentAny ρ xs=true->noMut r.d=true):Res K G (unlend σ ρ xs F') H' σ ρ v r:=by
 have tp:∀b ys,F' b=some (.tup ys)->unlend σ ρ xs F' b=some (.tup ys):=fun b ys e=>by
  have n:¬LentA σ ρ xs b:=fun z=>by
   obtain⟨_,_,o,_,_,_,_,h,w⟩:=z.own R
   have e2:=R'.sub0 b o (by show lend σ ρ xs F H b=some o;rw[lend_is z];exact h)
   rw[e]at e2;cases e2
   exact w
  rw[unlend_not n];exact e
 by_cases l:lentAny ρ xs=true
 ·cases r with
  | fz d=>exact Da.noMut tp q (hl l)
  | ow d =>
   obtain⟨a,o,_,_,_,w,_⟩:=q
   have:=hl l
   rw[show (Sl.ow d).d=d from rfl,own_noMut w]at this;cases this
  | io d=>exact q.elim
 ·have e:unlend σ ρ xs F'=F':=funext fun b=>unlend_not fun z=>l (lentAny_of z)
  rw[e]
  cases r with
  | fz d=>exact q
  | io d=>exact q.elim
  | ow d =>
   obtain⟨a,o,h1,h2,h3,h4,h5,_⟩:=q
   refine ⟨a,o,h1,h2,h3,h4,R.h0 h5,fun i s es w z=>?_⟩
   obtain⟨a',o',g1,_,g3,_⟩:=R.ow i s es w
   rw[z]at g1;cases g1
   have h5:H a=none:=h5
   rw[h5]at g3;cases g3
theorem l_call{con:Con}{as:List AD}{E:XK}{Q:VK}(h:lift K (dCall con as) σ H Q):tCall (conSp K con) [] E (tArgs (as.map (argT K))) σ H Q:=by
 obtain⟨G,F,ρ,Qd,R,w,k⟩:=h
 refine args_ok R w fun vs H1 F1 xs ρ1 s1 R1 o w1=>?_
 obtain⟨ds,da,w1⟩:=lend_looks (xs:=xs) R1 (fun y hy=>hy) o w1
 rw[List.append_nil]
 refine ⟨_,_,ds.map Sl.fz,_,rel_call (lend_le R1) (lend_tb R1) da,w1,fun v H' F' r ρ' s' R' r' q=>?_⟩
 obtain⟨sb,R2⟩:=R1.called R'
 have hq:(lentAny ρ1 xs=true->noMut r.d=true)/\Qd r ρ1:=by
  split at q
  ·rename_i e;exact ⟨fun z=>(by rw[e]at z;cases z),q⟩
  ·exact ⟨fun _=>q.1,q.2⟩
 exact k v H' _ r ρ1 (s1.trans sb) R2 (Res.called R1 R' r' hq.1) hq.2
end
section
variable {K:Fg}{G:Gh}{F F' H H':Hp}{σ:St}{ρ:Ev}{xs:List Opd}
noncomputable def ioA(a:Addr):Nat->Option Addr:=fun j=>if j=0 then some a else none
theorem ioA_some{a b:Addr}{j:Nat}(h:ioA a j=some b):j=0/\b=a:=by
 unfold ioA at h
 split at h
 ·rename_i z;cases h;exact ⟨z,rfl⟩
 ·cases h
theorem rel_callI{vs:List V}{ds:List D}{a:Addr}{o:HO}{d:D}(s:Sub F H)(h1:F a=none)(h2:H a=some o)(h3:Own1 K F o d)(tb:TabOk K F H)(da:DaAll K F vs ds) :
  Rel K ⟨H,F,ioA a⟩ F ((V.ref a :: vs).map some) H ((Sl.io d :: ds.map Sl.fz).map some) where
 len:=by simp[da.length]
 sub:=s
 sub0:=Sub.refl _
 fn:=fun _ _ e=>.inl e
 keep:=fun _ _ e _ _=>e
 tb:=tb
 fz:=fun i d' e=>by
  cases i with
  | zero=>simp at e
  | succ i =>
   have e:((ds.map Sl.fz).map some)[i]?=some (some (Sl.fz d')):=by simpa using e
   obtain⟨d2,e1,e2⟩:=get_fz e
   cases e2
   obtain⟨v,g1,g2⟩:=da.get e1
   exact ⟨v,by simpa using g1,g2⟩
 ow:=fun i s e w=>by
  cases i with
  | zero=>simp at e;subst e;exact ⟨a,o,by simp,h1,h2,h3⟩
  | succ i =>
   have e:((ds.map Sl.fz).map some)[i]?=some (some s):=by simpa using e
   obtain⟨d2,e1,rfl⟩:=get_fz e
   cases w
 new:=fun i d' b e _=>by
  cases i with
  | zero=>simp at e
  | succ i =>
   have e:((ds.map Sl.fz).map some)[i]?=some (some (Sl.ow d')):=by simpa using e
   obtain⟨d2,e1,e2⟩:=get_fz e
   cases e2
 io:=fun i b e=>by
  obtain⟨rfl,rfl⟩:=ioA_some e
  exact ⟨d,by simp,by simp⟩
 ioi:=fun i d' e=>by
  cases i with
  | zero=>exact ⟨a,rfl⟩
  | succ i =>
   have e:((ds.map Sl.fz).map some)[i]?=some (some (Sl.io d')):=by simpa using e
   obtain⟨d2,e1,e2⟩:=get_fz e
   cases e2
 ap:=fun i j s t b e1 w1 e2 w2 _ _=>by
  have f:∀{i:Nat}{s:Sl},((Sl.io d :: ds.map Sl.fz).map some)[i]?=some (some s)->isOw s=true->i=0:=fun {i s} e w=>by
   cases i with
   | zero=>rfl
   | succ i =>
    have e:((ds.map Sl.fz).map some)[i]?=some (some s):=by simpa using e
    obtain⟨d2,e1,rfl⟩:=get_fz e
    cases w
  rw[f e1 w1,f e2 w2]
theorem Rel.calledI(R:Rel K G F σ H ρ){i:Nat}{s:Sl}{a:Addr}{d':D}{σ1:St}{ρ1:Ev}(e:ρ[i]?=some (some s))(w:isOw s=true)(ea:σ[i]?=some (some (V.ref a)))
  (R':Rel K ⟨H,F,ioA a⟩ F' (some (V.ref a) :: σ1) H' (some (Sl.io d') :: ρ1)):Rel K G F' σ H' (ρ.set i (some (s.put d'))):=by
 obtain⟨a0,o0,g1,g2,g3,g4⟩:=R.ow i s e w
 rw[ea]at g1;cases g1
 have sb:Sub F F':=R'.sub0
 have hl:=lt_of_get e
 have kp:∀{b:Addr}{o:HO},b≠a->(∀z∈TB K,z.1≠b)->H b=some o->H' b=some o:=fun {b o} n t q=>R'.keep b o q (fun j z=>n (ioA_some z).2) t
 have ow':∀{j:Nat}{t:Sl},j≠i->ρ[j]?=some (some t)->isOw t=true->∃b o,σ[j]?=some (some (V.ref b))/\F' b=none/\H' b=some o/\Own1 K F' o t.d:=fun {j t} n q wt=>by
  obtain⟨b,o,q1,q2,q3,q4⟩:=R.ow j t q wt
  have nb:b≠a:=fun z=>n (R.ap j i t s a q wt e w (by rw[q1,z]) ea)
  refine ⟨b,o,q1,?_,kp nb (R.tb.ne fun u z=>by rw[q3]at z;cases z;exact q4.stk) q3,q4.mono sb⟩
  cases z:F' b with
  | none=>rfl
  | some u =>
   rcases R'.fn b u z with y|y
   ·have y:F b=some u:=y
    rw[q2]at y;cases y
   ·have y:H b=none:=y
    rw[q3]at y;cases y
 refine ⟨by rw[List.length_set];exact R.len,R'.sub,R.sub0.trans sb,fun b o q=>?_,fun b o q n t=>?_,R'.tb,fun j d q=>?_,fun j t q wt=>?_,fun j d b q eb=>?_,fun j b q=>?_,fun j d q=>?_,fun j k t u b e1 w1 e2 w2 e3 e4=>?_⟩
 ·rcases R'.fn b o q with y|y
  ·exact R.fn b o y
  ·exact .inr (R.h0 y)
 ·refine kp (fun z=>?_) t (R.keep b o q n t)
  subst z
  cases s with
  | fz d=>cases w
  | ow d=>rw[R.new i d b e ea]at q;cases q
  | io d =>
   obtain⟨a',y⟩:=R.ioi i d e
   obtain⟨_,_,y2⟩:=R.io i a' y
   rw[ea]at y2;cases y2
   exact n i y
 ·rcases get_set q with⟨rfl,z⟩|⟨n,z⟩
  ·cases s<;>simp[Sl.put,isOw]at z w
  ·obtain⟨v,y1,y2⟩:=R.fz j d z
   exact ⟨v,y1,y2.mono sb⟩
 ·rcases get_set q with⟨rfl,z⟩|⟨n,z⟩
  ·cases z
   obtain⟨b,o,y1,y2,y3,y4⟩:=R'.ow 0 (.io d') (by simp) rfl
   simp at y1;subst y1
   exact ⟨a,o,ea,y2,y3,by cases s<;>first|exact y4|cases w⟩
  ·exact ow' n z wt
 ·rcases get_set q with⟨rfl,z⟩|⟨n,z⟩
  ·cases s with
   | fz d=>cases w
   | ow d0=>exact R.new j d0 b e eb
   | io d0=>cases z
  ·exact R.new j d b z eb
 ·obtain⟨d,y1,y2⟩:=R.io j b q
  by_cases z:j=i
  ·subst z
   rw[e]at y1;cases y1
   exact ⟨d',by rw[set_get hl];rfl,y2⟩
  ·exact ⟨d,by rw[List.getElem?_set_ne (Ne.symm z)];exact y1,y2⟩
 ·rcases get_set q with⟨rfl,z⟩|⟨n,z⟩
  ·cases s with
   | fz d=>cases w
   | ow d0=>cases z
   | io d0=>exact R.ioi j d0 e
  ·exact R.ioi j d z
 ·have f:∀(j:Nat) (t:Sl),(ρ.set i (some (s.put d')))[j]?=some (some t)->isOw t=true->∃t',ρ[j]?=some (some t')/\isOw t'=true:=fun j t q wt=>by
   rcases get_set q with⟨rfl,z⟩|⟨n,z⟩
   ·exact ⟨s,e,w⟩
   ·exact ⟨t,z,wt⟩
  obtain⟨t',e1',w1'⟩:=f j t e1 w1
  obtain⟨u',e2',w2'⟩:=f k u e2 w2
  exact R.ap j k t' u' b e1' w1' e2' w2' e3 e4
theorem noLent_looks(R:Rel K G F σ H ρ){ys:List Opd}{vs:List V}{k:List D->Prop}(m:lentAny ρ ys=false)(o:OpdsAt K F σ vs ys)(h:looksQ ρ ys k):∃ds,DaAll K F vs ds/\k ds:=by
 induction o generalizing k with
 | nil=>exact ⟨[],.nil,h⟩
 | @cons v x vs ys o t ih =>
  cases x with
  | inr d =>
   obtain⟨ds,a,q⟩:=ih (k:=fun ds=>k (d :: ds)) m h
   exact ⟨d :: ds,.cons o a,q⟩
  | inl i =>
   unfold looksQ at h
   unfold lentAny at m
   simp only[Bool.or_eq_false_iff]at m
   split at h
   ·rename_i s e
    obtain⟨ds,a,q⟩:=ih (k:=fun ds=>k (s.d :: ds)) m.2 h
    refine ⟨s.d :: ds,.cons ?_ a,q⟩
    have m1:=m.1
    rw[e]at m1
    cases s with
    | fz d =>
     obtain⟨v',e1,e2⟩:=R.fz i d e
     have o:σ[i]?=some (some v):=o
     rw[o]at e1;cases e1
     exact e2
    | ow d=>cases m1
    | io d=>cases m1
   ·exact h.elim
theorem l_callI{con:Con}{i:Nat}{as:List AD}{E:XK}{Q:VK}(h:lift K (dCallI con i as) σ H Q):tCall (conSp K con) [] E (tArgs ((.inl i :: as).map (argT K))) σ H Q:=by
 obtain⟨G,F,ρ,Qd,R,w,k⟩:=h
 unfold dCallI dArgs at w
 split at w
 ·rename_i s0 e0
  obtain⟨v,ev⟩:=R.bound e0
  refine ⟨v,ev,args_ok R w fun vs H1 F1 xs ρ1 s1 R1 o w1=>?_⟩
  show conSp K con (v :: vs++[]) H1 Q E
  rw[List.append_nil]
  have w1:callI con i xs ρ1 Qd:=w1
  unfold callI at w1
  split at w1
  ·rename_i s e
   split at w1
   ·rename_i p1 p2
    obtain⟨a,o',g1,g2,g3,g4⟩:=R1.ow i s e p1
    rw[ev]at g1;cases g1
    obtain⟨ds,da,w1⟩:=noLent_looks R1 p2 o w1
    refine ⟨_,F1,.io s.d :: ds.map Sl.fz,_,rel_callI R1.sub g2 g3 g4 R1.tb da,w1,fun v H' F' r ρ' s' R' r' q=>?_⟩
    split at q
    ·rename_i d' ρ2
     have R2:=R1.calledI e p1 ev R'
     refine k v H' F' r _ (s1.trans s') R2 ?_ q
     cases r with
     | fz d=>exact r'
     | io d=>exact r'.elim
     | ow d =>
      obtain⟨b,u,h1,h2,h3,h4,h5,_⟩:=r'
      have h5:H1 b=none:=h5
      refine ⟨b,u,h1,h2,h3,h4,R1.h0 h5,fun j t es w z=>?_⟩
      have own:∃t',ρ1[j]?=some (some t')/\isOw t'=true:=by
       rcases get_set es with⟨rfl,y⟩|⟨n,y⟩
       ·exact ⟨s,e,p1⟩
       ·exact ⟨t,y,w⟩
      obtain⟨t',y1,y2⟩:=own
      obtain⟨a',o',q1,_,q3,_⟩:=R1.ow j t' y1 y2
      rw[z]at q1;cases q1
      rw[h5]at q3;cases q3
    ·exact q.elim
   ·exact w1.elim
  ·exact w1.elim
 ·exact w.elim
noncomputable def startE(n:Nat)(args:List Sl):Ev:=args.map some++List.replicate (n - args.length) none
noncomputable def outs:List Sl->Ev->Ev
 | [],_=>[]
 | .io _ :: as,ρ=>(ρ.headD none) :: outs as ρ.tail
 | .fz d :: as,ρ=>some (.fz d) :: outs as ρ.tail
 | .ow d :: as,ρ=>some (.ow d) :: outs as ρ.tail
theorem app_none{α:Type}{l:List (Option α)}{n i:Nat}{x:α}(h:(l++List.replicate n none)[i]?=some (some x)):l[i]?=some (some x):=by
 by_cases z:i < l.length
 ·rw[List.getElem?_append_left z]at h;exact h
 ·rw[List.getElem?_append_right (Nat.le_of_not_lt z),List.getElem?_replicate]at h
  split at h<;>cases h
theorem app_left{α:Type}{l m:List α}{i:Nat}{x:α}(h:l[i]?=some x):(l++m)[i]?=some x:=by rw[List.getElem?_append_left (lt_of_get h)];exact h
theorem Rel.start{vs:List V}{args:List Sl}{N:List Str}(R:Rel K G F (vs.map some) H (args.map some)):Rel K G F (L2.start N vs) H (startE N.length args) where
 len:=by have:=R.len;simp[L2.start,startE]at this ⊢;omega
 sub:=R.sub
 sub0:=R.sub0
 fn:=R.fn
 keep:=R.keep
 tb:=R.tb
 fz:=fun i d e=>by
  obtain⟨v,h1,h2⟩:=R.fz i d (app_none e)
  exact ⟨v,app_left h1,h2⟩
 ow:=fun i s e w=>by
  obtain⟨a,o,h1,h2⟩:=R.ow i s (app_none e) w
  exact ⟨a,o,app_left h1,h2⟩
 new:=fun i d a e ea=>R.new i d a (app_none e) (app_none ea)
 io:=fun i a e=>by
  obtain⟨d,h1,h2⟩:=R.io i a e
  exact ⟨d,app_left h1,app_left h2⟩
 ioi:=fun i d e=>R.ioi i d (app_none e)
 ap:=fun i j s t a e1 w1 e2 w2 e3 e4=>R.ap i j s t a (app_none e1) w1 (app_none e2) w2 (app_none e3) (app_none e4)
theorem outs_get:∀{args:List Sl}{ρ:Ev}{i:Nat}{s:Sl},(outs args ρ)[i]?=some (some s)->(∃d,args[i]?=some (.io d)/\ρ[i]?=some (some s))\/(args[i]?=some s/\∀d,s≠.io d)
 | [],ρ,i,s,h=>by simp[outs]at h
 | .io d :: as,ρ,0,s,h=>by
  simp[outs]at h
  cases ρ with
  | nil=>simp at h
  | cons x ρ=>simp at h;exact .inl ⟨d,by simp,by simp[h]⟩
 | .fz d :: as,ρ,0,s,h=>by simp[outs]at h;subst h;exact .inr ⟨by simp,fun d z=>by cases z⟩
 | .ow d :: as,ρ,0,s,h=>by simp[outs]at h;subst h;exact .inr ⟨by simp,fun d z=>by cases z⟩
 | .io d :: as,ρ,i+1,s,h=>by
  simp only[outs,List.getElem?_cons_succ]at h
  rcases outs_get h with⟨d,h1,h2⟩|⟨h1,h2⟩
  ·exact .inl ⟨d,by simpa using h1,by cases ρ with|nil=>simp at h2|cons x ρ=>simpa using h2⟩
  ·exact .inr ⟨by simpa using h1,h2⟩
 | .fz d :: as,ρ,i+1,s,h=>by
  simp only[outs,List.getElem?_cons_succ]at h
  rcases outs_get h with⟨d,h1,h2⟩|⟨h1,h2⟩
  ·exact .inl ⟨d,by simpa using h1,by cases ρ with|nil=>simp at h2|cons x ρ=>simpa using h2⟩
  ·exact .inr ⟨by simpa using h1,h2⟩
 | .ow d :: as,ρ,i+1,s,h=>by
  simp only[outs,List.getElem?_cons_succ]at h
  rcases outs_get h with⟨d,h1,h2⟩|⟨h1,h2⟩
  ·exact .inl ⟨d,by simpa using h1,by cases ρ with|nil=>simp at h2|cons x ρ=>simpa using h2⟩
  ·exact .inr ⟨by simpa using h1,h2⟩
theorem outs_of:∀{args:List Sl}{ρ:Ev}{i:Nat}{d:D}{x:Option Sl},args[i]?=some (.io d)->ρ[i]?=some x->(outs args ρ)[i]?=some x
 | [],_,_,_,_,h,_=>by simp at h
 | _ :: _,[],_,_,_,_,h=>by simp at h
 | s :: as,y :: ρ,0,d,x,h,h'=>by simp at h h';subst h h';simp[outs]
 | s :: as,y :: ρ,i+1,d,x,h,h'=>by
  have:=outs_of (args:=as) (ρ:=ρ) (i:=i) (by simpa using h) (by simpa using h')
  cases s<;>simpa [outs]using this
theorem outs_len:∀(args:List Sl) (ρ:Ev),(outs args ρ).length=args.length
 | [],_=>rfl
 | s :: as,ρ=>by cases s<;>simp[outs,outs_len as]
theorem get_args{args:List Sl}{i:Nat}{s:Sl}(h:(args.map some)[i]?=some (some s)):args[i]?=some s:=by
 rw[List.getElem?_map]at h
 cases e:args[i]? with
 | none=>rw[e]at h;cases h
 | some x=>rw[e]at h;cases h;rfl
theorem args_get{args:List Sl}{i:Nat}{s:Sl}(h:args[i]?=some s):(args.map some)[i]?=some (some s):=by rw[List.getElem?_map,h];rfl
theorem Rel.ret{vs:List V}{args:List Sl}{σ':St}{ρ':Ev}(hn:∀s∈args,∀d,s≠.ow d)(R:Rel K G F (vs.map some) H (args.map some))(sb:Sub F F')(R':Rel K G F' σ' H' ρ'):Rel K G F' (vs.map some) H' (outs args ρ'):=by
 have own:∀{i:Nat}{s:Sl},(outs args ρ')[i]?=some (some s)->isOw s=true->∃d a,args[i]?=some (.io d)/\ρ'[i]?=some (some s)/\G.io i=some a/\(vs.map some)[i]?=some (some (V.ref a))/\σ'[i]?=some (some (V.ref a)):=fun {i s} e w=>by
  rcases outs_get e with⟨d,h1,h2⟩|⟨h1,h2⟩
  ·obtain⟨a,h3⟩:=R.ioi i d (args_get h1)
   obtain⟨_,_,h4⟩:=R.io i a h3
   obtain⟨_,_,h5⟩:=R'.io i a h3
   exact ⟨d,a,h1,h2,h3,h4,h5⟩
  ·cases s with
   | fz d=>cases w
   | ow d=>exact (hn _ (List.mem_of_getElem? h1) d rfl).elim
   | io d=>exact (h2 d rfl).elim
 refine ⟨by rw[outs_len];simpa using R.len,R'.sub,R'.sub0,R'.fn,R'.keep,R'.tb,fun i d e=>?_,fun i s e w=>?_,fun i d a e ea=>?_,fun i a e=>?_,fun i d e=>?_,fun i j s t a e1 w1 e2 w2 e3 e4=>?_⟩
 ·rcases outs_get e with⟨d',h1,h2⟩|⟨h1,h2⟩
  ·obtain⟨a,h3⟩:=R.ioi i d' (args_get h1)
   obtain⟨d2,h4,_⟩:=R'.io i a h3
   rw[h2]at h4;cases h4
  ·obtain⟨v,h3,h4⟩:=R.fz i d (args_get h1)
   exact ⟨v,h3,h4.mono sb⟩
 ·obtain⟨d,a,h1,h2,h3,h4,h5⟩:=own e w
  obtain⟨b,o,g1,g2⟩:=R'.ow i s h2 w
  rw[h5]at g1;cases g1
  exact ⟨a,o,h4,g2⟩
 ·obtain⟨d',b,h1,h2,h3,h4,h5⟩:=own e rfl
  rw[h4]at ea;cases ea
  exact R'.new i d _ h2 h5
 ·obtain⟨d,h1,h2⟩:=R.io i a e
  obtain⟨d',h3,h4⟩:=R'.io i a e
  exact ⟨d',outs_of (get_args h1) h3,h2⟩
 ·obtain⟨d',a,h1,h2,h3,h4,h5⟩:=own e rfl
  exact ⟨a,h3⟩
 ·obtain⟨_,a1,_,h2,_,h4,h5⟩:=own e1 w1
  obtain⟨_,a2,_,g2,_,g4,g5⟩:=own e2 w2
  rw[h4]at e3;cases e3
  rw[g4]at e4;cases e4
  exact R'.ap i j s t a h2 w1 g2 w2 h5 g5
theorem Res.ret{vs:List V}{args:List Sl}{σ':St}{ρ':Ev}{v:V}{r:Sl}(hn:∀s∈args,∀d,s≠.ow d)(R:Rel K G F (vs.map some) H (args.map some))(R':Rel K G F' σ' H' ρ')(q:Res K G F' H' σ' ρ' v r):Res K G F' H' (vs.map some) (outs args ρ') v r:=by
 cases r with
 | fz d=>exact q
 | io d=>exact q.elim
 | ow d =>
  obtain⟨a,o,h1,h2,h3,h4,h5,h6⟩:=q
  refine ⟨a,o,h1,h2,h3,h4,h5,fun i s e w z=>?_⟩
  rcases outs_get e with⟨d',g1,g2⟩|⟨g1,g2⟩
  ·obtain⟨b,g3⟩:=R.ioi i d' (args_get g1)
   obtain⟨_,_,g4⟩:=R.io i b g3
   obtain⟨_,_,g5⟩:=R'.io i b g3
   rw[g4]at z;cases z
   exact h6 i s g2 w g5
  ·cases s with
   | fz d=>cases w
   | ow d=>exact (hn _ (List.mem_of_getElem? g1) d rfl).elim
   | io d=>exact (g2 d rfl).elim
noncomputable def endsOf(args:List Sl)(Qd:Sl->Ev->Prop):DE:={ nx:=fun ρ=>Qd (.fz .none) (outs args ρ),rt:=fun r ρ=>Qd r (outs args ρ),bk:=fun _=>False,ct:=fun _=>False }
theorem l_def{N:List Str}{con:Con}{ts:TDS}{vs:List V}{Q:VK}{E:XK}(hc:∀args Qd,con args Qd->(∀s∈args,∀d,s≠.ow d)/\ts (endsOf args Qd) (startE N.length args))(h:conSp K con vs H Q E):liftS K ts { nx:=fun _ H'=>Q .non H',rt:=Q } (L2.start N vs) H:=by
 obtain⟨G,F,args,Qd,R,w,k⟩:=h
 obtain⟨hn,w⟩:=hc args Qd w
 refine ⟨G,F,_,_,R.start,w,fun σ' H' F' ρ' s R' q=>?_,fun v σ' H' F' r ρ' s R' r' q=>?_,fun _ _ _ _ _ _ q=>q.elim,fun _ _ _ _ _ _ q=>q.elim⟩
 ·exact k .non H' F' (.fz .none) _ s (R.ret hn s R') Da.non q
 ·exact k v H' F' r _ s (R.ret hn s R') (r'.ret hn R R') q
end
section
variable {K:Fg}{F H:Hp}{v:V}
theorem At.int{i:Int}(h:At K F H v (.int i)):v=.int i:=by
 rcases h with h|⟨a,o,rfl,_,_,h⟩
 ·cases h;rfl
 ·cases o<;>exact h.elim
theorem At.bool{b:Bool}(h:At K F H v (.bool b)):v=.bl b:=by
 rcases h with h|⟨a,o,rfl,_,_,h⟩
 ·cases h;rfl
 ·cases o<;>exact h.elim
theorem At.str{x:Str}(h:At K F H v (.str x)):v=.str x:=by
 rcases h with h|⟨a,o,rfl,_,_,h⟩
 ·cases h;rfl
 ·cases o<;>exact h.elim
theorem At.none(h:At K F H v .none):v=.non:=by
 rcases h with h|⟨a,o,rfl,_,_,h⟩
 ·cases h;rfl
 ·cases o<;>exact h.elim
theorem At.list{ds:List D}(s:Sub F H)(h:At K F H v (.list ds)):∃a xs,v=.ref a/\H a=some (.lst xs)/\DaAll K F xs ds:=by
 rcases h with h|⟨a,o,rfl,_,e,h⟩
 ·cases h with
  | lst e t=>exact ⟨_,_,rfl,s _ _ e,t⟩
 ·cases o<;>first|exact h.elim|exact ⟨_,_,rfl,e,h⟩
theorem At.tuple{ds:List D}(s:Sub F H)(h:At K F H v (.tuple ds)):∃a xs,v=.ref a/\F a=some (.tup xs)/\H a=some (.tup xs)/\DaAll K F xs ds:=by
 rcases h with h|⟨a,o,rfl,_,e,h⟩
 ·cases h with
  | tup e t=>exact ⟨_,_,rfl,e,s _ _ e,t⟩
 ·cases o<;>exact h.elim
theorem keyD_ne(k:Key):keyD k≠.none:=by cases k<;>(intro z;cases z)
theorem Da.scr_inv{ns:List Int}:∀{d:D},Da K F v d->d=scrD ns->∃a,v=.ref a/\SqL K F a (ns.map V.int)
 | _,.non,e=>by cases e
 | _,.bl _,e=>by cases e
 | _,.int _,e=>by cases e
 | _,.str _,e=>by cases e
 | _,.lst _ _,e=>by cases e
 | _,.tup _ _,e=>by cases e
 | _,.lam _ _,e=>by
  injection e with e
  injection e with e _
  injection e with e _
  cases e
 | _,.dk _ t,e=>by
  cases t with
  | nil=>injection e with e;cases e
  | cons _ _ =>
   injection e with e
   injection e with e _
   injection e with e _
   exact (keyD_ne _ e).elim
 | _,.dt _ t,e=>by
  cases t with
  | nil=>injection e with e;cases e
  | cons _ _ =>
   injection e with e
   injection e with e _
   injection e with e _
   cases e
 | _,.scr (ns:=ns') q,e=>by
  injection e with e
  injection e with e _
  injection e with _ e
  injection e with e2
  have:∀(l m:List Int),l.map PyData.int=m.map PyData.int->l=m:=by
   intro l
   induction l with
   | nil=>intro m e;cases m with|nil=>rfl|cons=>simp at e
   | cons a l ih=>intro m e;cases m with|nil=>simp at e|cons b m=>simp at e;rw[e.1,ih m e.2]
  rw[<- this _ _ e2]
  exact ⟨_,rfl,q⟩
theorem At.scr{ns:List Int}(s:Sub F H)(h:At K F H v (scrD ns)):∃a,v=.ref a/\SqL K H a (ns.map V.int):=by
 rcases h with h|⟨a,o,rfl,_,e,h⟩
 ·obtain⟨a,h1,h2⟩:=h.scr_inv rfl
  exact ⟨a,h1,s.sql h2⟩
 ·exfalso
  cases o<;>first|exact h.elim|skip
  ·rename_i kvs
   have h:DaKV K F kvs [(.none,.list (ns.map PyData.int))]:=h
   generalize q:[(PyData.none,PyData.list (ns.map PyData.int))]=es at h
   cases h with
   | nil=>cases q
   | cons _ _ =>
    injection q with q _
    injection q with q _
    exact keyD_ne _ q.symm
  ·rename_i kvs
   have h:DaKT K F kvs [(.none,.list (ns.map PyData.int))]:=h
   cases h
theorem AtAll.one{vs:List V}{d:D}(h:AtAll K F H vs [d]):∃v,vs=[v]/\At K F H v d:=by
 cases h with|cons a t=>cases t;exact ⟨_,rfl,a⟩
theorem AtAll.two{vs:List V}{d e:D}(h:AtAll K F H vs [d,e]):∃v u,vs=[v,u]/\At K F H v d/\At K F H u e:=by
 cases h with|cons a t=>cases t with|cons b t=>cases t;exact ⟨_,_,rfl,a,b⟩
end
noncomputable def r2L(r:R2):List V->Hp->VK->Prop:=fun vs H Q=>∃x y,vs=[x,y]/\r x y H Q
noncomputable def r1L(r:V->Hp->VK->Prop):List V->Hp->VK->Prop:=fun vs H Q=>∃x,vs=[x]/\r x H Q
theorem ok2{K:Fg}{r:R2}{f:D->D->(Sl->Prop)->Prop}(h:∀(G:Gh) (F:Hp) (σ:St) (H:Hp) (ρ:Ev) (x y:V) (d e:D) (Q:VK) (Qd:Sl->Prop),Rel K G F σ H ρ->At K F H x d->At K F H y e->f d e Qd ->
    (∀v H' F' s,Sub F F'->Rel K G F' σ H' ρ->Res K G F' H' σ ρ v s->Qd s->Q v H')->r x y H Q):OpOk K (r2L r) (o2 f):=by
 intro G F σ H ρ vs ds Q Qd R a w k
 match ds,a,w with
 | [d,e],a,w =>
  obtain⟨v,u,rfl,h1,h2⟩:=a.two
  exact ⟨v,u,rfl,h G F σ H ρ v u d e Q Qd R h1 h2 w k⟩
theorem ok1{K:Fg}{r:List V->Hp->VK->Prop}{f:D->(Sl->Prop)->Prop}(h:∀(G:Gh) (F:Hp) (σ:St) (H:Hp) (ρ:Ev) (x:V) (d:D) (Q:VK) (Qd:Sl->Prop),Rel K G F σ H ρ->At K F H x d->f d Qd ->
    (∀v H' F' s,Sub F F'->Rel K G F' σ H' ρ->Res K G F' H' σ ρ v s->Qd s->Q v H')->r [x] H Q):OpOk K r (o1 f):=by
 intro G F σ H ρ vs ds Q Qd R a w k
 match ds,a,w with
 | [d],a,w =>
  obtain⟨v,rfl,h1⟩:=a.one
  exact h G F σ H ρ v d Q Qd R h1 w k
noncomputable def fI(C:Int->Int->Prop)(g:Int->Int->D):D->D->(Sl->Prop)->Prop
 | .int i,.int j,Q=>C i j/\Q (.fz (g i j))
 | _,_,_=>False
noncomputable def fI0(g:Int->Int->D):D->D->(Sl->Prop)->Prop
 | .int i,.int j,Q=>Q (.fz (g i j))
 | _,_,_=>False
theorem ok_I{K:Fg}{C:Int->Int->Prop}{g:Int->Int->V}{g':Int->Int->D}(hg:∀F i j,Da K F (g i j) (g' i j)):OpOk K (r2L (rI C g)) (o2 (fI C g')):=ok2 fun G F σ H ρ x y d e Q Qd R h1 h2 w k=>by
 cases d<;>first|exact w.elim|skip
 cases e<;>first|exact w.elim|skip
 case int.int i j =>
  cases h1.int
  cases h2.int
  exact ⟨i,j,rfl,rfl,w.1,k _ H F (.fz _) (Sub.refl _) R (hg F i j) w.2⟩
theorem ok_I0{K:Fg}{g:Int->Int->V}{g':Int->Int->D}(hg:∀F i j,Da K F (g i j) (g' i j)):OpOk K (r2L (rI0 g)) (o2 (fI0 g')):=ok2 fun G F σ H ρ x y d e Q Qd R h1 h2 w k=>by
 cases d<;>first|exact w.elim|skip
 cases e<;>first|exact w.elim|skip
 case int.int i j =>
  cases h1.int
  cases h2.int
  exact ⟨i,j,rfl,rfl,k _ H F (.fz _) (Sub.refl _) R (hg F i j) w⟩
noncomputable def rAny(r r':R2):R2:=fun x y H Q=>r x y H Q\/r' x y H Q
noncomputable def rCatB:R2:=fun x y H Q=>∃(a b:Addr) (xs ys:List V),x=.ref a/\y=.ref b/\H a=some (.tup xs)/\H b=some (.tup ys)/\xs.length+ys.length<=sizeLine /\
 (xs=[]->Q (.ref b) H)/\(xs≠[]->ys=[]->Q (.ref a) H)/\(xs≠[]->ys≠[]->∀p,H p=none->Q (.ref p) (upd H p (.tup (xs++ys))))
noncomputable def fAdd:D->D->(Sl->Prop)->Prop
 | .int i,.int j,Q=>Q (.fz (.int (i+j)))
 | .tuple xs,.tuple ys,Q=>xs.length+ys.length<=sizeLine/\Q (.fz (.tuple (xs++ys)))
 | .list xs,.list ys,Q=>xs.length+ys.length<=sizeLine/\Q (.ow (.list (xs++ys)))
 | _,_,_=>False
theorem DaAll.nil_of{K:Fg}{F:Hp}{ds:List D}(h:DaAll K F [] ds):ds=[]:=by cases h;rfl
theorem ok_add{K:Fg}:OpOk K (r2L (rAny (rI0 fun i j=>.int (i+j)) (rAny rCatB rCat))) (o2 fAdd):=ok2 fun G F σ H ρ x y d e Q Qd R h1 h2 w k=>by
 cases d<;>first|exact w.elim|(cases e<;>first|exact w.elim|skip)
 case int.int i j =>
  cases h1.int
  cases h2.int
  exact .inl ⟨i,j,rfl,rfl,k _ H F (.fz _) (Sub.refl _) R (Da.int _) w⟩
 case tuple.tuple xs ys =>
  obtain⟨a,us,rfl,f1,e1,d1⟩:=h1.tuple R.sub
  obtain⟨b,ws,rfl,f2,e2,d2⟩:=h2.tuple R.sub
  refine .inr (.inl ⟨a,b,us,ws,rfl,rfl,e1,e2,by rw[d1.length,d2.length];exact w.1,fun z=>?_,fun _ z=>?_,fun _ _ p hp=>?_⟩)
  ·subst z
   have:=d1.nil_of
   subst this
   exact k _ H F (.fz _) (Sub.refl _) R (Da.tup f2 d2) w.2
  ·subst z
   have:=d2.nil_of
   subst this
   refine k _ H F (.fz _) (Sub.refl _) R (Da.tup f1 d1) ?_
   have:=w.2
   rw[List.append_nil]at this
   exact this
  ·obtain⟨sb,R',dd⟩:=R.newTup hp (d1.append d2)
   exact k _ _ _ (.fz _) sb R' dd w.2
 case list.list xs ys =>
  obtain⟨a,us,rfl,e1,d1⟩:=h1.list R.sub
  obtain⟨b,ws,rfl,e2,d2⟩:=h2.list R.sub
  refine .inr (.inr ⟨a,b,us,ws,rfl,rfl,e1,e2,by rw[d1.length,d2.length];exact w.1,fun p hp=>?_⟩)
  obtain⟨R',r'⟩:=R.newOw (o:=.lst (us++ws)) (d:=.list (xs++ys)) hp (d1.append d2)
  exact k _ _ F _ (Sub.refl _) R' r' w.2
noncomputable def fMul:D->D->(Sl->Prop)->Prop
 | .int i,.int j,Q=>CMul i j/\Q (.fz (.int (i * j)))
 | .list xs,.int k,Q=>-(2 ^ 63)<=k/\k < 2 ^ 63/\xs.length * k.toNat<=sizeLine/\Q (.ow (.list (List.replicate k.toNat xs).flatten))
 | _,_,_=>False
theorem ok_mul{K:Fg}:OpOk K (r2L (rAny (rI CMul fun i j=>.int (i * j)) rRep)) (o2 fMul):=ok2 fun G F σ H ρ x y d e Q Qd R h1 h2 w k=>by
 cases d<;>first|exact w.elim|(cases e<;>first|exact w.elim|skip)
 case int.int i j =>
  cases h1.int
  cases h2.int
  exact .inl ⟨i,j,rfl,rfl,w.1,k _ H F (.fz _) (Sub.refl _) R (Da.int _) w.2⟩
 case list.int xs j =>
  cases h2.int
  obtain⟨a,us,rfl,e1,d1⟩:=h1.list R.sub
  refine .inr ⟨a,j,us,rfl,rfl,e1,w.1,w.2.1,by rw[d1.length];exact w.2.2.1,fun p hp=>?_⟩
  obtain⟨R',r'⟩:=R.newOw (o:=.lst (List.replicate j.toNat us).flatten) (d:=.list (List.replicate j.toNat xs).flatten) hp (d1.rep _)
  exact k _ _ F _ (Sub.refl _) R' r' w.2.2.2
noncomputable def fLen:D->(Sl->Prop)->Prop
 | .list ds,Q=>Q (.fz (.int ds.length))
 | .tuple ds,Q=>Q (.fz (.int ds.length))
 | .dict [(.none,.list ds)],Q=>∃ns:List Int,ds=ns.map PyData.int/\Q (.fz (.int ns.length))
 | _,_=>False
theorem ok_len{K:Fg}:OpOk K (rLen K) (o1 fLen):=ok1 fun G F σ H ρ x d Q Qd R h1 w k=>by
 cases d<;>first|exact w.elim|skip
 case list ds =>
  obtain⟨a,us,rfl,e1,d1⟩:=h1.list R.sub
  exact ⟨a,us,rfl,.inl (SqL.of e1),k _ H F (.fz _) (Sub.refl _) R (Da.int _) (by rw[d1.length];exact w)⟩
 case tuple ds =>
  obtain⟨a,us,rfl,_,e1,d1⟩:=h1.tuple R.sub
  exact ⟨a,us,rfl,.inr (SqT.of e1),k _ H F (.fz _) (Sub.refl _) R (Da.int _) (by rw[d1.length];exact w)⟩
 case dict es =>
  rcases es with _|⟨⟨c1,c2⟩,_|⟨c3,c4⟩⟩
  ·exact w.elim
  ·cases c1<;>first|exact w.elim|skip
   cases c2<;>first|exact w.elim|skip
   obtain⟨ns,rfl,w⟩:=w
   obtain⟨a,rfl,q⟩:=h1.scr R.sub
   exact ⟨a,_,rfl,.inl q,k _ H F (.fz _) (Sub.refl _) R (Da.int _) (by rw[List.length_map];exact w)⟩
  ·cases c1<;>first|exact w.elim|(cases c2<;>exact w.elim)
noncomputable def fIx:D->D->(Sl->Prop)->Prop
 | .list ds,.int i,Q=>∃d,atI ds i=some d/\Q (.fz d)
 | .tuple ds,.int i,Q=>∃d,atI ds i=some d/\Q (.fz d)
 | .dict [(.none,.list ds)],.int i,Q=>∃(ns:List Int) (n:Int),ds=ns.map PyData.int/\atI ns i=some n/\Q (.fz (.int n))
 | _,_,_=>False
theorem DaAll.at{K:Fg}{F:Hp}{xs:List V}{ds:List D}{i:Int}{d:D}(h:DaAll K F xs ds)(e:atI ds i=some d):∃v,atI xs i=some v/\Da K F v d:=by
 unfold atI at e ⊢
 rw[h.length]
 cases q:ixN ds.length i with
 | none=>rw[q]at e;cases e
 | some j=>rw[q]at e;exact h.get e
theorem atI_map{α β:Type}(f:α->β){l:List α}{i:Int}{x:α}(h:atI l i=some x):atI (l.map f) i=some (f x):=by
 unfold atI at h ⊢
 rw[List.length_map]
 cases q:ixN l.length i with
 | none=>rw[q]at h;cases h
 | some j=>rw[q]at h;simp at h ⊢;exact ⟨x,h,rfl⟩
theorem ok_ix{K:Fg}:OpOk K (r2L (rAny (rIxL K) (rIxT K))) (o2 fIx):=ok2 fun G F σ H ρ x y d e Q Qd R h1 h2 w k=>by
 cases d<;>first|exact w.elim|skip
 case list ds =>
  cases e<;>first|exact w.elim|skip
  rename_i i
  obtain⟨d,w1,w2⟩:=w
  cases h2.int
  obtain⟨a,us,rfl,e1,d1⟩:=h1.list R.sub
  obtain⟨v,g1,g2⟩:=d1.at w1
  exact .inl ⟨a,us,i,v,rfl,rfl,SqL.of e1,g1,k _ H F (.fz _) (Sub.refl _) R g2 w2⟩
 case tuple ds =>
  cases e<;>first|exact w.elim|skip
  rename_i i
  obtain⟨d,w1,w2⟩:=w
  cases h2.int
  obtain⟨a,us,rfl,_,e1,d1⟩:=h1.tuple R.sub
  obtain⟨v,g1,g2⟩:=d1.at w1
  exact .inr ⟨a,us,i,v,rfl,rfl,SqT.of e1,g1,k _ H F (.fz _) (Sub.refl _) R g2 w2⟩
 case dict es =>
  rcases es with _|⟨⟨c1,c2⟩,_|⟨c3,c4⟩⟩
  ·exact w.elim
  ·cases c1<;>first|exact w.elim|skip
   cases c2<;>first|exact w.elim|skip
   cases e<;>first|exact w.elim|skip
   rename_i i
   obtain⟨ns,n,e,w1,w2⟩:=w
   subst e
   cases h2.int
   obtain⟨a,rfl,q⟩:=h1.scr R.sub
   exact .inl ⟨a,_,i,_,rfl,rfl,q,atI_map V.int w1,k _ H F (.fz _) (Sub.refl _) R (Da.int _) w2⟩
  ·cases c1<;>first|exact w.elim|(cases c2<;>exact w.elim)
noncomputable def fList:D->(Sl->Prop)->Prop
 | .list ds,Q=>Q (.ow (.list ds))
 | .tuple ds,Q=>Q (.ow (.list ds))
 | _,_=>False
noncomputable def fTuple:D->(Sl->Prop)->Prop
 | .list ds,Q=>Q (.fz (.tuple ds))
 | .tuple ds,Q=>Q (.fz (.tuple ds))
 | _,_=>False
theorem ok_tuple{K:Fg}:OpOk K (rTupleOf K) (o1 fTuple):=ok1 fun G F σ H ρ x d Q Qd R h1 w k=>by
 match d,h1,w with
 | .list ds,h1,w =>
  obtain⟨a,us,rfl,e1,d1⟩:=h1.list R.sub
  refine ⟨a,us,rfl,.inl ⟨SqL.of e1,fun p hp=>?_⟩⟩
  obtain⟨sb,R',dd⟩:=R.newTup hp d1
  exact k _ _ _ (.fz _) sb R' dd w
 | .tuple ds,h1,w =>
  obtain⟨a,us,rfl,f1,e1,d1⟩:=h1.tuple R.sub
  exact ⟨a,us,rfl,.inr ⟨SqT.of e1,k _ H F (.fz _) (Sub.refl _) R (Da.tup f1 d1) w⟩⟩
noncomputable def fAll:D->(Sl->Prop)->Prop
 | .list ds,Q=>∃bs:List Bool,ds=bs.map PyData.bool/\Q (.fz (.bool (bs.all id)))
 | _,_=>False
theorem DaAll.bools{K:Fg}{F:Hp}:∀{xs:List V}{bs:List Bool},DaAll K F xs (bs.map PyData.bool)->xs=bs.map V.bl
 | [],[],_=>rfl
 | x :: xs,b :: bs,.cons h t=>by cases h;simp[DaAll.bools t]
theorem ok_all{K:Fg}:OpOk K (rAll K) (o1 fAll):=ok1 fun G F σ H ρ x d Q Qd R h1 w k=>by
 match d,h1,w with
 | .list ds,h1,⟨bs,e,w⟩ =>
  subst e
  obtain⟨a,us,rfl,e1,d1⟩:=h1.list R.sub
  have:=d1.bools
  subst this
  exact ⟨a,bs,rfl,SqL.of e1,k _ H F (.fz _) (Sub.refl _) R (Da.bl _) w⟩
noncomputable def kiD:D->Ki
 | .none=>.non
 | .bool _=>.bl
 | .int _=>.int
 | .str _=>.str
 | .list _=>.lst
 | .tuple _=>.tup
 | .dict ((.none,_) :: _)=>.lst
 | .dict _=>.dct
noncomputable def fIsi(T:Ki):D->(Sl->Prop)->Prop
 | .dict _,_=>False
 | d,Q=>Q (.fz (.bool ((kiD d).sub T)))
theorem ok_isi{K:Fg}{T:Ki}:OpOk K (fun vs H Q=>∃x,vs=[x]/\rIsi K [x,.ty T.nm] H Q) (o1 (fIsi T)):=ok1 fun G F σ H ρ x d Q Qd R h1 w k=>by
 have go:∀(ki:Ki),KiOf K H x ki->Qd (.fz (.bool (ki.sub T)))->∃x',[x]=[x']/\rIsi K [x',.ty T.nm] H Q:=fun ki h w=>⟨x,rfl,x,ki,T,rfl,h,k _ H F (.fz _) (Sub.refl _) R (Da.bl _) w⟩
 match d,h1,w with
 | .none,h1,w=>cases h1.none;exact go .non rfl w
 | .bool b,h1,w=>cases h1.bool;exact go .bl rfl w
 | .int i,h1,w=>cases h1.int;exact go .int rfl w
 | .str z,h1,w=>cases h1.str;exact go .str rfl w
 | .list ds,h1,w =>
  obtain⟨a,us,rfl,e1,d1⟩:=h1.list R.sub
  exact go .lst (.inl ⟨rfl,us,SqL.of e1⟩) w
 | .tuple ds,h1,w =>
  obtain⟨a,us,rfl,_,e1,d1⟩:=h1.tuple R.sub
  exact go .tup (.inr (.inl ⟨rfl,us,SqT.of e1⟩)) w
noncomputable def fAbs:D->(Sl->Prop)->Prop
 | .int i,Q=>Q (.fz (.int (if i < 0 then -i else i)))
 | _,_=>False
theorem ok_abs{K:Fg}:OpOk K (fun xs H Q=>∃i,xs=[V.int i]/\Q (V.int (if i < 0 then -i else i)) H) (o1 fAbs):=ok1 fun G F σ H ρ x d Q Qd R h1 w k=>by
 match d,h1,w with
 | .int i,h1,w=>cases h1.int;exact ⟨i,rfl,k _ H F (.fz _) (Sub.refl _) R (Da.int _) w⟩
theorem ok_2I{K:Fg}{g:Int->Int->Int}:OpOk K (fun xs H Q=>∃i j,xs=[V.int i,V.int j]/\Q (V.int (g i j)) H) (o2 (fI0 fun i j=>.int (g i j))):=by
 intro G F σ H ρ vs ds Q Qd R a w k
 match ds,a,w with
 | [d,e],a,w =>
  obtain⟨v,u,rfl,h1,h2⟩:=a.two
  have w:fI0 (fun i j=>.int (g i j)) d e Qd:=w
  unfold fI0 at w
  split at w
  rotate_left
  ·exact w.elim
  rename_i i j w
  cases h1.int
  cases h2.int
  exact ⟨i,j,rfl,k _ H F (.fz _) (Sub.refl _) R (Da.int _) w⟩
noncomputable def fInt:D->(Sl->Prop)->Prop
 | .int i,Q=>Q (.fz (.int i))
 | .bool b,Q=>Q (.fz (.int (if b then 1 else 0)))
 | _,_=>False
theorem ok_int{K:Fg}:OpOk K (fun xs H Q=>(∃i,xs=[V.int i]/\Q (V.int i) H)\/∃k,xs=[V.bl k]/\Q (V.int (if k then 1 else 0)) H) (o1 fInt):=ok1 fun G F σ H ρ x d Q Qd R h1 w k=>by
 match d,h1,w with
 | .int i,h1,w=>cases h1.int;exact .inl ⟨i,rfl,k _ H F (.fz _) (Sub.refl _) R (Da.int _) w⟩
 | .bool b,h1,w=>cases h1.bool;exact .inr ⟨b,rfl,k _ H F (.fz _) (Sub.refl _) R (Da.int _) w⟩
noncomputable def fNeg:D->(Sl->Prop)->Prop
 | .int i,Q=>Q (.fz (.int (-i)))
 | _,_=>False
theorem ok_neg{K:Fg}:OpOk K (r1L (rU fun i=>.int (-i))) (o1 fNeg):=ok1 fun G F σ H ρ x d Q Qd R h1 w k=>by
 match d,h1,w with
 | .int i,h1,w=>cases h1.int;exact ⟨_,rfl,i,rfl,k _ H F (.fz _) (Sub.refl _) R (Da.int _) w⟩
noncomputable def dOpF(as:List AD)(f:List D->(Sl->Prop)->Prop):TD:=fun ρ Q=>dArgs as ρ fun xs ρ1=>match lentAny ρ1 xs with
 | false=>looksQ ρ1 xs fun ds=>f ds fun r=>Q r ρ1
 | true=>False
noncomputable def fTupD(ds:List D)(Q:Sl->Prop):Prop:=Q (.fz (.tuple ds))
noncomputable def fLstD(ds:List D)(Q:Sl->Prop):Prop:=Q (.ow (.list ds))
theorem le_size{n:Nat}(h:n<=1000):n<=sizeLine:=Nat.le_trans h (by decide)
theorem l_tup{K:Fg}{as:List AD}(hl:as.length<=1000){σ:St}{H:Hp}{Q:VK}(h:lift K (dOpF as fTupD) σ H Q):tTup (tArgs (as.map (argT K))) σ H Q:=by
 obtain⟨G,F,ρ,Qd,R,w,k⟩:=h
 refine args_okL R w fun vs H' F' xs ρ' sb R' o hn q=>?_
 split at q
 ·rename_i e
  obtain⟨ds,da,q⟩:=noLent_looks R' e o q
  refine ⟨le_size (by omega),fun p hp=>?_⟩
  obtain⟨s2,R2,dd⟩:=R'.newTup hp da
  exact k _ _ _ (.fz _) _ (sb.trans s2) R2 dd q
 ·exact q.elim
theorem l_lst{K:Fg}{as:List AD}(hl:as.length<=1000){σ:St}{H:Hp}{Q:VK}(h:lift K (dOpF as fLstD) σ H Q):tLst (tArgs (as.map (argT K))) σ H Q:=by
 obtain⟨G,F,ρ,Qd,R,w,k⟩:=h
 refine args_okL R w fun vs H' F' xs ρ' sb R' o hn q=>?_
 split at q
 ·rename_i e
  obtain⟨ds,da,q⟩:=noLent_looks R' e o q
  refine ⟨le_size (by omega),fun p hp=>?_⟩
  obtain⟨R2,r2⟩:=R'.newOw (o:=.lst vs) (d:=.list ds) hp da
  exact k _ _ _ _ _ sb R2 r2 q
 ·exact q.elim
noncomputable def dChain(p q:Int->Int->Bool)(a b c:AD):TD:=fun ρ Q=>dArgs [a,b] ρ fun xs ρ1=>looksQ ρ1 xs fun ds=>match ds with
 | [.int i,.int j]=>if p i j=true then dArgs [c] ρ1 fun ys ρ2=>looksQ ρ2 ys fun es=>match es with
   | [.int k]=>Q (.fz (.bool (q j k))) ρ2
   | _=>False
  else Q (.fz (.bool false)) ρ1
 | _=>False
theorem l_chain{K:Fg}{p q:Int->Int->Bool}{a b c:AD}{σ:St}{H:Hp}{Q:VK}(h:lift K (dChain p q a b c) σ H Q) :
  tChain (rI0 fun i j=>.bl (p i j)) (rI0 fun i j=>.bl (q i j)) (argT K a) (argT K b) (argT K c) σ H Q:=by
 obtain⟨G,F,ρ,Qd,R,w,k⟩:=h
 have main:tArgs ([a,b].map (argT K)) σ H fun vs H2=>∃x y,vs=[x,y]/\(rI0 fun i j=>V.bl (p i j)) x y H2 fun z H3=>∃k,z=.bl k /\
   (if k=true then argT K c σ H3 fun w' H4=>(rI0 fun i j=>V.bl (q i j)) y w' H4 Q else Q (.bl false) H3):=by
  refine args_ok R w fun vs H' F' xs ρ' sb R' o w1=>?_
  obtain⟨ds,ha,w1⟩:=looks_ok R' o w1
  split at w1
  ·rename_i i j
   obtain⟨v,u,rfl,h1,h2⟩:=ha.two
   cases h1.int
   cases h2.int
   refine ⟨_,_,rfl,i,j,rfl,rfl,p i j,rfl,?_⟩
   by_cases e:p i j=true
   ·rw[if_pos e]at w1 ⊢
    have:=args_ok (as:=[c]) (Qv:=fun vs H4=>∃w',vs=[w']/\(rI0 fun i j=>V.bl (q i j)) (V.int j) w' H4 Q) R' w1 fun vs H2 F2 ys ρ2 s2 R2 o2 w2=>by
     obtain⟨es,hb,w2⟩:=looks_ok R2 o2 w2
     split at w2
     ·rename_i k'
      obtain⟨v,rfl,h3⟩:=hb.one
      cases h3.int
      exact ⟨_,rfl,j,k',rfl,rfl,k _ H2 F2 (.fz _) ρ2 (sb.trans s2) R2 (Da.bl _) w2⟩
     ·exact w2.elim
    exact arg1 this
   ·rw[if_neg e]at w1 ⊢
    exact k _ H' F' (.fz _) ρ' sb R' (Da.bl _) w1
  ·exact w1.elim
 exact arg2 main
noncomputable def dMeth(i:Nat)(as:List AD)(f:List D->List D->(D->D->Prop)->Prop):TD:=fun ρ Q=>match ρ[i]? with
 | some (some s0)=>match s0.d,isOw s0 with
  | .list _,true=>dArgs as ρ fun xs ρ1=>match ρ1[i]?,lentAny ρ1 xs with
   | some (some s),false=>match s.d,isOw s with
    | .list es,true=>looksQ ρ1 xs fun ds=>f es ds fun d' r=>Q (.fz r) (ρ1.set i (some (s.put d')))
    | _,_=>False
   | _,_=>False
  | _,_=>False
 | _=>False
noncomputable def MOk(K:Fg)(r:V->List V->Hp->VK->Prop)(f:List D->List D->(D->D->Prop)->Prop):Prop :=
 ∀(F H:Hp) (a:Addr) (xs:List V) (es:List D) (vs:List V) (ds:List D) (Q:VK) (k:D->D->Prop),Sub F H->H a=some (.lst xs)->DaAll K F xs es->DaAll K F vs ds->f es ds k ->
  (∀v o' d' res,Own1 K F o' d'->Da K F v res->k d' res->Q v (upd H a o'))->r (.ref a) vs H Q
theorem l_meth{K:Fg}{i:Nat}{as:List AD}{r:V->List V->Hp->VK->Prop}{f:List D->List D->(D->D->Prop)->Prop}(ok:MOk K r f){σ:St}{H:Hp}{Q:VK}(h:lift K (dMeth i as f) σ H Q) :
  ∃a xs,σ[i]?=some (some (V.ref a))/\SqL K H a xs/\tArgs (as.map (argT K)) σ H fun vs H2=>r (.ref a) vs H2 Q:=by
 obtain⟨G,F,ρ,Qd,R,w,k⟩:=h
 unfold dMeth at w
 split at w
 ·rename_i s0 e0
  split at w
  ·rename_i es0 p1 p2
   obtain⟨a,o,g1,g2,g3,g4⟩:=R.ow i s0 e0 p2
   have gl:∃xs,H a=some (.lst xs):=by
    rw[p1]at g4
    cases o<;>first|exact g4.elim|exact ⟨_,g3⟩
   obtain⟨xs0,gl⟩:=gl
   refine ⟨a,xs0,g1,SqL.of gl,args_ok R w fun vs H1 F1 xs ρ1 s1 R1 o1 w1=>?_⟩
   split at w1
   ·rename_i s e en
    split at w1
    ·rename_i es q1 q2
     obtain⟨ds,da,w1⟩:=noLent_looks R1 en o1 w1
     obtain⟨a',o',h1,h2,h3,h4⟩:=R1.ow i s e q2
     rw[g1]at h1;cases h1
     rw[q1]at h4
     have hl:∃us,o'=.lst us/\DaAll K F1 us es:=by cases o'<;>first|exact h4.elim|exact ⟨_,rfl,h4⟩
     obtain⟨us,rfl,h4⟩:=hl
     refine ok F1 H1 a us es vs ds Q _ R1.sub h3 h4 da w1 fun v o2 d2 res ho hv hk=>?_
     have R2:=R1.change (o':=o2) (d':=d2) e q2 g1 ho
     exact k v _ F1 (.fz res) _ s1 R2 hv hk
    ·exact w1.elim
   ·exact w1.elim
  ·exact w.elim
 ·exact w.elim
noncomputable def fAppend:List D->List D->(D->D->Prop)->Prop
 | es,[x],k=>es.length < sizeLine/\k (.list (es++[x])) .none
 | _,_,_=>False
theorem ok_append{K:Fg}:MOk K rAppend fAppend:=by
 intro F H a xs es vs ds Q k s e d1 d2 w q
 match ds,d2,w with
 | [x],.cons h .nil,w=>exact ⟨a,xs,_,rfl,rfl,e,by rw[d1.length];exact w.1,q _ (.lst (xs++[_])) (.list (es++[x])) _ (d1.append (.cons h .nil)) .non w.2⟩
noncomputable def fExtend:List D->List D->(D->D->Prop)->Prop
 | es,[.list ys],k=>es.length+ys.length<=sizeLine/\k (.list (es++ys)) .none
 | _,_,_=>False
theorem ok_extend{K:Fg}:MOk K rExtend fExtend:=by
 intro F H a xs es vs ds Q k s e d1 d2 w q
 match ds,d2,w with
 | [.list ys],.cons h .nil,w =>
  cases h with
  | lst e2 t=>exact ⟨a,_,xs,_,rfl,rfl,e,s _ _ e2,by rw[d1.length,t.length];exact w.1,q _ (.lst (xs++_)) (.list (es++ys)) _ (d1.append t) .non w.2⟩
noncomputable def fPop:List D->List D->(D->D->Prop)->Prop
 | es,[],k=>∃d,es[es.length - 1]?=some d/\k (.list es.dropLast) d
 | _,_,_=>False
noncomputable def fReverse:List D->List D->(D->D->Prop)->Prop
 | es,[],k=>k (.list es.reverse) .none
 | _,_,_=>False
theorem ok_reverse{K:Fg}:MOk K rReverse fReverse:=by
 intro F H a xs es vs ds Q k s e d1 d2 w q
 match ds,d2,w with
 | [],.nil,w=>exact ⟨a,xs,rfl,rfl,e,q .non (.lst xs.reverse) (.list es.reverse) .none d1.reverse .non w⟩
noncomputable def fInsert:List D->List D->(D->D->Prop)->Prop
 | es,[.int i,x],k=>es.length < sizeLine/\0<=i/\i<=es.length/\k (.list (es.take i.toNat++x :: es.drop i.toNat)) .none
 | _,_,_=>False
noncomputable def iSeq(K:Fg)(tl:TE):TI:=fun σ H R=>tl σ H fun x H1=>∃a,x=.ref a/\(((∃xs,SqL K H1 a xs)/\R (Itl K a) H1)\/((∃xs,SqT K H1 a xs)/\R (Itt K a) H1))
noncomputable def dISeq(a:TD):TDI:=fun ρ Q=>a ρ fun r ρ1=>match r.d with
 | .list ds=>Q ds ρ1
 | .tuple ds=>Q ds ρ1
 | _=>False
theorem walks_list{K:Fg}{F:Hp}{a:Addr}{xs:List V}{ds:List D}(e:F a=some (.lst xs))(h:DaAll K F xs ds):Walks K (Itl K a) F ds:=fun i H F1 s1 s2=>by
 have q:=SqL.of (K:=K) (s2 _ _ (s1 _ _ e))
 refine ⟨fun d ed=>?_,fun hl=>⟨xs,q,by rw[h.length];omega⟩⟩
 obtain⟨v,h1,h2⟩:=h.get ed
 refine ⟨⟨xs,v,q,h1⟩,fun x H' ⟨e1,e2⟩=>?_⟩
 subst e1
 have:=e2 xs q
 rw[h1]at this;cases this
 exact ⟨F1,Sub.refl _,fun _ _ z=>.inl z,s2,Sub.refl _,h2.mono s1⟩
theorem walks_tup{K:Fg}{F:Hp}{a:Addr}{xs:List V}{ds:List D}(e:F a=some (.tup xs))(h:DaAll K F xs ds):Walks K (Itt K a) F ds:=fun i H F1 s1 s2=>by
 have q:=SqT.of (K:=K) (s2 _ _ (s1 _ _ e))
 refine ⟨fun d ed=>?_,fun hl=>⟨xs,q,by rw[h.length];omega⟩⟩
 obtain⟨v,h1,h2⟩:=h.get ed
 refine ⟨⟨xs,v,q,h1⟩,fun x H' ⟨e1,e2⟩=>?_⟩
 subst e1
 have:=e2 xs q
 rw[h1]at this;cases this
 exact ⟨F1,Sub.refl _,fun _ _ z=>.inl z,s2,Sub.refl _,h2.mono s1⟩
theorem l_iseq{K:Fg}{a:TD}{σ:St}{H:Hp}{R:It->Hp->Prop}(h:liftI K (dISeq a) σ H R):iSeq K (lift K a) σ H R:=by
 obtain⟨G,F,ρ,Qd,Rl,w,k⟩:=h
 refine ⟨G,F,ρ,_,Rl,w,fun v H1 F1 r ρ1 s1 R1 r1 w1=>?_⟩
 obtain⟨F2,s2,R2,d2⟩:=r1.frz R1
 split at w1
 ·rename_i ds e
  rw[e]at d2
  cases d2 with
  | lst q t=>exact ⟨_,rfl,.inl ⟨⟨_,SqL.of (R2.sub _ _ q)⟩,k _ H1 F2 ds ρ1 (s1.trans s2) R2 (walks_list q t) w1⟩⟩
 ·rename_i ds e
  rw[e]at d2
  cases d2 with
  | tup q t=>exact ⟨_,rfl,.inr ⟨⟨_,SqT.of (R2.sub _ _ q)⟩,k _ H1 F2 ds ρ1 (s1.trans s2) R2 (walks_tup q t) w1⟩⟩
 ·exact w1.elim
noncomputable def rangeD(lo:Int)(n:Nat):List D:=(List.range n).map fun (i:Nat)=>PyData.int (lo+i)
theorem walks_range{K:Fg}{F:Hp}{lo:Int}{n:Nat}:Walks K (Itr lo n) F (rangeD lo n):=fun i H F1 s1 s2=>by
 have hl:(rangeD lo n).length=n:=by simp[rangeD]
 refine ⟨fun d ed=>?_,fun h=>by rw[hl]at h;exact Nat.le_of_eq h⟩
 have hi:i < n:=by have:=lt_of_get ed;rw[hl]at this;exact this
 have e:(rangeD lo n)[i]?=some (.int (lo+i)):=by simp[rangeD,hi]
 rw[e]at ed;cases ed
 refine ⟨hi,fun x H' ⟨e1,e2⟩=>?_⟩
 subst e1 e2
 exact ⟨F1,Sub.refl _,fun _ _ z=>.inl z,s2,Sub.refl _,.int _⟩
noncomputable def dIRng1(a:AD):TDI:=fun ρ Q=>dArgs [a] ρ fun xs ρ1=>looksQ ρ1 xs fun ds=>match ds with
 | [.int j]=>-(2 ^ 62)<=j/\j < 2 ^ 62/\Q (rangeD 0 j.toNat) ρ1
 | _=>False
noncomputable def dIRng2(a b:AD):TDI:=fun ρ Q=>dArgs [a,b] ρ fun xs ρ1=>looksQ ρ1 xs fun ds=>match ds with
 | [.int i,.int j]=>(-(2 ^ 62)<=i/\i < 2 ^ 62/\-(2 ^ 62)<=j/\j < 2 ^ 62)/\Q (rangeD i (j - i).toNat) ρ1
 | _=>False
theorem l_rng1{K:Fg}{a:AD}{σ:St}{H:Hp}{R:It->Hp->Prop}(h:liftI K (dIRng1 a) σ H R):iRng1 (tArgs ([a].map (argT K))) σ H R:=by
 obtain⟨G,F,ρ,Qd,Rl,w,k⟩:=h
 refine args_ok Rl w fun vs H' F' xs ρ' sb R' o w1=>?_
 obtain⟨ds,ha,w1⟩:=looks_ok R' o w1
 split at w1
 ·rename_i j
  obtain⟨v,rfl,h1⟩:=ha.one
  cases h1.int
  exact ⟨j,rfl,w1.1,w1.2.1,k _ H' F' _ ρ' sb R' walks_range w1.2.2⟩
 ·exact w1.elim
theorem l_rng2{K:Fg}{a b:AD}{σ:St}{H:Hp}{R:It->Hp->Prop}(h:liftI K (dIRng2 a b) σ H R):iRng2 (tArgs ([a,b].map (argT K))) σ H R:=by
 obtain⟨G,F,ρ,Qd,Rl,w,k⟩:=h
 refine args_ok Rl w fun vs H' F' xs ρ' sb R' o w1=>?_
 obtain⟨ds,ha,w1⟩:=looks_ok R' o w1
 split at w1
 ·rename_i i j
  obtain⟨v,u,rfl,h1,h2⟩:=ha.two
  cases h1.int
  cases h2.int
  exact ⟨i,j,rfl,w1.1,k _ H' F' _ ρ' sb R' walks_range w1.2⟩
 ·exact w1.elim
noncomputable def SeqF(K:Fg)(F:Hp)(v:V)(ds:List D):Prop:=∃k a xs,v=.ref a/\(F a=some (match k with|Kd.l=>HO.lst xs|Kd.t=>HO.tup xs))/\DaAll K F xs ds
theorem sq_of{K:Fg}{H:Hp}{a:Addr}{xs:List V}{k:Kd}(e:H a=some (match k with|Kd.l=>HO.lst xs|Kd.t=>HO.tup xs)):Sq k K H a xs:=by
 cases k with
 | l=>exact SqL.of e
 | t=>exact SqT.of e
noncomputable def seqD:D->Option (List D)
 | .list ds=>some ds
 | .tuple ds=>some ds
 | _=>none
theorem seqF_of{K:Fg}{F:Hp}{v:V}{d:D}{ds:List D}(h:Da K F v d)(e:seqD d=some ds):∃k a xs,v=.ref a/\(F a=some (match k with|Kd.l=>HO.lst xs|Kd.t=>HO.tup xs))/\DaAll K F xs ds:=by
 cases h with
 | lst q t=>cases e;exact ⟨.l,_,_,rfl,q,t⟩
 | tup q t=>cases e;exact ⟨.t,_,_,rfl,q,t⟩
 | non=>cases e
 | bl=>cases e
 | int=>cases e
 | str=>cases e
 | dk _ _=>cases e
 | dt _ _=>cases e
 | scr _=>cases e
 | exc _=>cases e
 | lam _ _=>cases e
 | opq _=>cases e
 | pd _ _=>cases e
 | bd _ _=>cases e
noncomputable def zipD(ds es:List D):List D:=(ds.zip es).map fun p=>PyData.tuple [p.1,p.2]
noncomputable def dIZip2(a b:AD):TDI:=fun ρ Q=>dArgs [a,b] ρ fun xs ρ1=>match lentAny ρ1 xs with
 | false=>looksQ ρ1 xs fun ds=>match ds with
  | [x,y]=>match seqD x,seqD y with
   | some us,some ws=>Q (zipD us ws) ρ1
   | _,_=>False
  | _=>False
 | true=>False
theorem walks_zip2{K:Fg}{F:Hp}{a b:Addr}{k1 k2:Kd}{xs ys:List V}{ds es:List D}(e1:F a=some (match k1 with|Kd.l=>HO.lst xs|Kd.t=>HO.tup xs))(h1:DaAll K F xs ds)
  (e2:F b=some (match k2 with|Kd.l=>HO.lst ys|Kd.t=>HO.tup ys)) (h2:DaAll K F ys es):Walks K (Itz2 K k1 k2 a b) F (zipD ds es):=fun i H F1 s1 s2=>by
 have q1:Sq k1 K H a xs:=sq_of (s2 _ _ (s1 _ _ e1))
 have q2:Sq k2 K H b ys:=sq_of (s2 _ _ (s1 _ _ e2))
 refine ⟨fun d ed=>?_,fun hl=>⟨xs,ys,q1,q2,?_⟩⟩
 ·simp only[zipD,List.getElem?_map,Option.map_eq_some_iff]at ed
  obtain⟨⟨x,y⟩,ez,rfl⟩:=ed
  rw[List.getElem?_zip_eq_some]at ez
  obtain⟨v,g1,g2⟩:=h1.get ez.1
  obtain⟨u,g3,g4⟩:=h2.get ez.2
  refine ⟨⟨xs,v,ys,u,q1,q2,g1,g3⟩,fun z H' ⟨T,x1,x2,hT,ex,eH,f1,f2⟩=>?_⟩
  subst ex eH
  have f1:=f1 xs q1
  have f2:=f2 ys q2
  rw[g1]at f1;cases f1
  rw[g3]at f2;cases f2
  have fT:F1 T=none:=by
   cases z:F1 T with
   | none=>rfl
   | some o=>rw[s2 _ _ z]at hT;cases hT
  refine ⟨upd F1 T (.tup [v,u]),Sub.new fT,fun c o ec=>?_,fun c o ec=>?_,Sub.new hT,.tup upd_same (.cons (g2.mono (s1.trans (Sub.new fT))) (.cons (g4.mono (s1.trans (Sub.new fT))) .nil))⟩
  ·by_cases z:c=T
   ·subst z;exact .inr hT
   ·rw[upd_ne z]at ec;exact .inl ec
  ·by_cases z:c=T
   ·subst z;rw[upd_same]at ec ⊢;exact ec
   ·rw[upd_ne z]at ec ⊢;exact s2 _ _ ec
 ·simp only[zipD,List.length_map,List.length_zip]at hl
  rw[h1.length,h2.length]
  omega
theorem l_zip2{K:Fg}{a b:AD}{σ:St}{H:Hp}{R:It->Hp->Prop}(h:liftI K (dIZip2 a b) σ H R):iZip2 K (tArgs ([a,b].map (argT K))) σ H R:=by
 obtain⟨G,F,ρ,Qd,Rl,w,k⟩:=h
 refine args_ok Rl w fun vs H' F' xs ρ' sb R' o w1=>?_
 split at w1
 ·rename_i e
  obtain⟨ds,da,w1⟩:=noLent_looks R' e o w1
  split at w1
  ·rename_i x y
   split at w1
   ·rename_i us ws p1 p2
    cases da with
    | cons d1 t =>
     cases t with
     | cons d2 t =>
      cases t
      obtain⟨k1,a1,us',rfl,e1,g1⟩:=seqF_of d1 p1
      obtain⟨k2,a2,ws',rfl,e2,g2⟩:=seqF_of d2 p2
      exact ⟨k1,a1,us',k2,a2,ws',rfl,sq_of (R'.sub _ _ e1),sq_of (R'.sub _ _ e2),k _ H' F' _ ρ' sb R' (walks_zip2 e1 g1 e2 g2) w1⟩
   ·exact w1.elim
  ·exact w1.elim
 ·exact w1.elim
noncomputable def kOf:D->Option Key
 | .int i=>some (.inl i)
 | .str x=>some (.inr x)
 | _=>none
theorem kOf_key(k:Key):kOf (keyD k)=some k:=by cases k<;>rfl
theorem kOf_inv{d:D}{k:Key}(h:kOf d=some k):d=keyD k:=by
 cases d<;>first|(cases h;rfl)|cases h
noncomputable def ksOf:List D->Option (List Key)
 | []=>some []
 | d :: ds=>match kOf d,ksOf ds with
  | some k,some ks=>some (k :: ks)
  | _,_=>none
theorem ksOf_map:∀ks:List Key,ksOf (ks.map keyD)=some ks
 | []=>rfl
 | k :: ks=>by simp[ksOf,kOf_key,ksOf_map ks]
theorem ksOf_inv:∀{ds:List D}{ks:List Key},ksOf ds=some ks->ds=ks.map keyD
 | [],ks,h=>by cases h;rfl
 | d :: ds,ks,h=>by
  unfold ksOf at h
  split at h
  ·rename_i k ks' e1 e2
   cases h
   rw[kOf_inv e1,ksOf_inv e2];rfl
  ·cases h
noncomputable def getK(es:List (D×D))(k:Key):Option D:=(es.find? fun e=>decide (kOf e.1=some k)).map (·.2)
noncomputable def keyT:D->Option (List Key)
 | .tuple ds=>ksOf ds
 | _=>none
noncomputable def getT(es:List (D×D))(k:List Key):Option D:=(es.find? fun e=>decide (keyT e.1=some k)).map (·.2)
noncomputable def putKE(es:List (D×D))(k:Key)(d:D):List (D×D):=if (es.any fun e=>decide (kOf e.1=some k))=true then es.map (fun e=>if kOf e.1=some k then (e.1,d) else e) else es++[(keyD k,d)]
section
variable {K:Fg}{F H:Hp}
theorem DaKV.val(k:Key):∀{kvs:List (Key×V)}{es:List (D×D)},DaKV K F kvs es->match getK es k,valV kvs k with|some d,some v=>Da K F v d|none,none=>True|_,_=>False
 | _,_,.nil=>trivial
 | _,_,.cons (k:=k') (v:=v) (d:=d) (kvs:=kvs) (es:=es) h t=>by
  have ih:=DaKV.val k t
  unfold getK valV at ih ⊢
  simp only[List.find?_cons,kOf_key,Option.some.injEq]
  by_cases e:k'=k
  ·subst e;simp;exact h
  ·have e':decide (k'=k)=false:=decide_eq_false e
   simp only[e']
   exact ih
theorem DaKT.val(k:List Key):∀{kvs:List (List Key×V)}{es:List (D×D)},DaKT K F kvs es->match getT es k,valV kvs k with|some d,some v=>Da K F v d|none,none=>True|_,_=>False
 | _,_,.nil=>trivial
 | _,_,.cons (ks:=k') (v:=v) (d:=d) (kvs:=kvs) (es:=es) h t=>by
  have ih:=DaKT.val k t
  unfold getT valV at ih ⊢
  simp only[List.find?_cons,keyT,ksOf_map,Option.some.injEq]
  by_cases e:k'=k
  ·subst e;simp;exact h
  ·have e':decide (k'=k)=false:=decide_eq_false e
   simp only[e']
   exact ih
theorem DaKV.repl{k:Key}{v:V}{d:D}(hv:Da K F v d):∀{kvs:List (Key×V)}{es:List (D×D)},DaKV K F kvs es->DaKV K F (kvs.map fun kv=>if kv.1=k then (kv.1,v) else kv) (es.map fun e=>if kOf e.1=some k then (e.1,d) else e)
 | _,_,.nil=>.nil
 | _,_,.cons (k:=k') h t=>by
  simp only[List.map_cons,kOf_key,Option.some.injEq]
  by_cases e:k'=k
  ·rw[if_pos e,if_pos e];exact .cons hv (DaKV.repl hv t)
  ·rw[if_neg e,if_neg e];exact .cons h (DaKV.repl hv t)
theorem DaKV.snoc{k:Key}{v:V}{d:D}(hv:Da K F v d):∀{kvs:List (Key×V)}{es:List (D×D)},DaKV K F kvs es->DaKV K F (kvs++[(k,v)]) (es++[(keyD k,d)])
 | _,_,.nil=>.cons hv .nil
 | _,_,.cons h t=>.cons h (DaKV.snoc hv t)
theorem DaKV.any(k:Key):∀{kvs:List (Key×V)}{es:List (D×D)},DaKV K F kvs es->(kvs.any fun kv=>decide (kv.1=k))=es.any fun e=>decide (kOf e.1=some k)
 | _,_,.nil=>rfl
 | _,_,.cons (k:=k') h t=>by simp only[List.any_cons,kOf_key,Option.some.injEq];rw[DaKV.any k t]
theorem DaKV.put{k:Key}{v:V}{d:D}{kvs:List (Key×V)}{es:List (D×D)}(h:DaKV K F kvs es)(hv:Da K F v d):DaKV K F (putK kvs k v) (putKE es k d):=by
 unfold putK putKE
 rw[h.any k]
 split
 ·exact h.repl hv
 ·exact h.snoc hv
theorem DaKV.length:∀{kvs:List (Key×V)}{es:List (D×D)},DaKV K F kvs es->kvs.length=es.length
 | _,_,.nil=>rfl
 | _,_,.cons _ t=>by simp[DaKV.length t]
theorem At.dict{v:V}{es:List (D×D)}(s:Sub F H)(h:At K F H v (.dict es)):∃a,v=.ref a/\((∃kvs,Rd H a (.dK kvs)/\DaKV K F kvs es)\/(∃kvs,Rd H a (.dT kvs)/\DaKT K F kvs es)\/∃k0 d0,es=[(k0,d0)]/\kOf k0=Option.none/\keyT k0=Option.none):=by
 rcases h with h|⟨a,o,rfl,_,e,h⟩
 ·cases h with
  | dk q t=>exact ⟨_,rfl,.inl ⟨_,s.rd q,t⟩⟩
  | dt q t=>exact ⟨_,rfl,.inr (.inl ⟨_,s.rd q,t⟩)⟩
  | scr q=>exact ⟨_,rfl,.inr (.inr ⟨_,_,rfl,rfl,rfl⟩)⟩
  | exc q=>exact ⟨_,rfl,.inr (.inr ⟨_,_,rfl,rfl,rfl⟩)⟩
  | lam q _=>exact ⟨_,rfl,.inr (.inr ⟨_,_,rfl,rfl,rfl⟩)⟩
  | opq q=>exact ⟨_,rfl,.inr (.inr ⟨_,_,rfl,rfl,rfl⟩)⟩
  | pd q t=>exact ⟨_,rfl,.inr (.inr ⟨_,_,rfl,rfl,rfl⟩)⟩
  | bd q t=>exact ⟨_,rfl,.inr (.inr ⟨_,_,rfl,rfl,rfl⟩)⟩
 ·cases o with
  | ext φ=>rcases h.ext with⟨a',ep,xs,ps,z,z2,t⟩|⟨a',ep,xs,ps,z,z2,t⟩<;>(injection z2 with z2;exact ⟨_,rfl,.inr (.inr ⟨_,_,z2,rfl,rfl⟩)⟩)
  | _=>first|exact h.elim|exact ⟨_,rfl,.inl ⟨_,.inl e,h⟩⟩|exact ⟨_,rfl,.inr (.inl ⟨_,.inl e,h⟩)⟩
theorem DaAll.keys:∀{xs:List V}{ks:List Key},DaAll K F xs (ks.map keyD)->xs=ks.map kV
 | [],[],_=>rfl
 | x :: xs,k :: ks,.cons h t=>by
  have e:x=kV k:=by cases k<;>(cases h;rfl)
  rw[e,DaAll.keys t];rfl
theorem At.key{v:V}{d:D}{k:Key}(h:At K F H v d)(e:kOf d=some k):v=kV k:=by
 have:=kOf_inv e
 subst this
 cases k with
 | inl i=>exact h.int
 | inr x=>exact h.str
theorem At.keyTup{v:V}{d:D}{k:List Key}(s:Sub F H)(h:At K F H v d)(e:keyT d=some k):∃b,v=.ref b/\H b=some (.tup (k.map kV)):=by
 cases d<;>first|cases e|skip
 rename_i ds
 have:=ksOf_inv e
 subst this
 obtain⟨a,xs,rfl,_,e1,d1⟩:=h.tuple s
 have:=d1.keys
 subst this
 exact ⟨a,rfl,e1⟩
theorem scr_noK{es:List (D×D)}{k0:D}(e:∃d0,es=[(k0,d0)]/\kOf k0=none/\keyT k0=none)(k:Key):getK es k=none:=by obtain⟨d0,rfl,e,_⟩:=e;simp[getK,e]
theorem scr_noT{es:List (D×D)}{k0:D}(e:∃d0,es=[(k0,d0)]/\kOf k0=none/\keyT k0=none)(k:List Key):getT es k=none:=by obtain⟨d0,rfl,_,e⟩:=e;simp[getT,e]
theorem getK_cons(e:D×D)(es:List (D×D))(k:Key)(h:kOf e.1=none):getK (e :: es) k=getK es k:=by simp[getK,List.find?_cons,h]
theorem getT_cons(e:D×D)(es:List (D×D))(k:List Key)(h:keyT e.1=none):getT (e :: es) k=getT es k:=by simp[getT,List.find?_cons,h]
theorem getK_T(k:Key):∀{kvs:List (List Key×V)}{es:List (D×D)},DaKT K F kvs es->getK es k=none
 | _,_,.nil=>rfl
 | _,_,.cons h t=>by rw[getK_cons _ _ _ rfl];exact getK_T k t
theorem getT_K(k:List Key):∀{kvs:List (Key×V)}{es:List (D×D)},DaKV K F kvs es->getT es k=none
 | _,_,.nil=>rfl
 | _,_,.cons (k:=k') h t=>by rw[getT_cons _ _ _ (by cases k'<;>rfl)];exact getT_K k t
end
noncomputable def getE(es:List (D×D))(k:D):Option D:=match kOf k with
 | some k=>getK es k
 | none=>match keyT k with
  | some ks=>getT es ks
  | none=>none
noncomputable def fDGet:D->D->(Sl->Prop)->Prop
 | .dict es,k,Q=>∃d,getE es k=some d/\Q (.fz d)
 | _,_,_=>False
theorem dget_some{K:Fg}{F H:Hp}{x y:V}{es:List (D×D)}{k d:D}(s:Sub F H)(h1:At K F H x (.dict es))(h2:At K F H y k)(e:getE es k=some d):∃a v,x=.ref a/\DGet H a y (some v)/\Da K F v d:=by
 obtain⟨a,rfl,h⟩:=h1.dict s
 unfold getE at e
 split at e
 ·rename_i k' ek
  have hy:=h2.key ek
  subst hy
  rcases h with⟨kvs,q,t⟩|⟨kvs,q,t⟩|⟨ns,q⟩
  ·have:=t.val k'
   rw[e]at this
   cases ev:valV kvs k' with
   | none=>rw[ev]at this;exact this.elim
   | some v=>rw[ev]at this;exact ⟨a,v,rfl,.inl ⟨kvs,k',q,rfl,ev.symm⟩,this⟩
  ·rw[getK_T _ t]at e;cases e
  ·rw[scr_noK q]at e;cases e
 ·split at e
  ·rename_i ks ek
   obtain⟨b,rfl,hb⟩:=h2.keyTup s ek
   rcases h with⟨kvs,q,t⟩|⟨kvs,q,t⟩|⟨ns,q⟩
   ·rw[getT_K _ t]at e;cases e
   ·have:=t.val ks
    rw[e]at this
    cases ev:valV kvs ks with
    | none=>rw[ev]at this;exact this.elim
    | some v=>rw[ev]at this;exact ⟨a,v,rfl,.inr ⟨kvs,ks,b,q,rfl,hb,ev.symm⟩,this⟩
   ·rw[scr_noT q]at e;cases e
  ·cases e
noncomputable def rDGet:R2:=fun x y H Q=>∃a v,x=.ref a/\DGet H a y (some v)/\Q v H
theorem ok_dget{K:Fg}:OpOk K (r2L rDGet) (o2 fDGet):=ok2 fun G F σ H ρ x y d e Q Qd R h1 h2 w k=>by
 match d,h1,w with
 | .dict es,h1,⟨d',w1,w2⟩ =>
  obtain⟨a,v,rfl,g,dv⟩:=dget_some R.sub h1 h2 w1
  exact ⟨a,v,rfl,g,k _ H F (.fz _) (Sub.refl _) R dv w2⟩
noncomputable def dSetKey(j:Nat)(ak:AD)(te:TD):TDS:=fun E ρ=>te ρ fun r ρ1=>match ρ1[j]? with
 | some (some _)=>dArgs [ak] ρ1 fun xs ρ2=>looksQ ρ2 xs fun ds=>match ds,ρ2[j]? with
  | [kd],some (some s)=>match s.d,isOw s,kOf kd with
   | .dict es,true,some k=>es.length < sizeLine/\(getK es k).isSome=true/\E.nx (ρ2.set j (some (s.put (.dict (putKE es k r.d)))))
   | _,_,_=>False
  | _,_=>False
 | _=>False
theorem l_setKey{K:Fg}{j:Nat}{ak:AD}{te:TD}{σ:St}{H:Hp}{E:Ends}(h:liftS K (dSetKey j ak te) E σ H):sDPut (tVar j) (argT K ak) (lift K te) E σ H:=by
 obtain⟨G,F,ρ,D,R,w,n,r,b,c⟩:=h
 refine ⟨G,F,ρ,_,R,w,fun v H1 F1 x ρ1 s1 R1 r1 w1=>?_⟩
 obtain⟨F2,s2,R2,d2⟩:=r1.frz R1
 split at w1
 ·rename_i s0 e0
  obtain⟨u,eu⟩:=R2.bound e0
  refine ⟨u,eu,arg1 (P:=fun y H3=>∃a H4,u=.ref a/\DPut H3 a y v H4/\E.nx σ H4) (args_ok R2 w1 fun vs H3 F3 xs ρ3 s3 R3 o3 w3=>?_)⟩
  obtain⟨ds,ha,w3⟩:=looks_ok R3 o3 w3
  split at w3
  ·rename_i kd s e
   obtain⟨kv,rfl,hk⟩:=ha.one
   split at w3
   ·rename_i es k p1 p2 p3
    obtain⟨a,o,g1,g2,g3,g4⟩:=R3.ow j s e p2
    rw[eu]at g1;cases g1
    rw[p1]at g4
    have:=hk.key p3
    subst this
    refine ⟨_,rfl,a,?_⟩
    cases o with
    | dK kvs =>
     have g4:DaKV K F3 kvs es:=g4
     refine ⟨_,rfl,.inl ⟨kvs,k,g3,rfl,by rw[g4.length];exact w3.1,rfl⟩,?_⟩
     have R4:=R3.change (o':=.dK (putK kvs k v)) (d':=.dict (putKE es k x.d)) e p2 eu (g4.put (d2.mono s3))
     exact n σ _ F3 _ (s1.trans (s2.trans s3)) R4 w3.2.2
    | dT kvs =>
     have g4:DaKT K F3 kvs es:=g4
     rw[getK_T _ g4]at w3
     exact absurd w3.2.1 (by simp)
    | ext φ =>
     rcases g4.ext with⟨a',ep,xs,ps,z,z2,t⟩|⟨a',ep,xs,ps,z,z2,t⟩<;>(injection z2 with z2;rw[z2]at w3;exact absurd w3.2.1 (by simp[getK,kOf]))
    | _=>exact g4.elim
   ·exact w3.elim
  ·exact w3.elim
 ·exact w1.elim
open PySem PySem.Spec PyProof.Rows L2
noncomputable def notStar:Expr->Bool
 | .Starred _ _=>false
 | _=>true
theorem starEach_of{e:Expr}{es:List Expr}{env:Env}(h:notStar e=true):starEach (e :: es) env=(false,eval e env) :: starEach es env:=by
 cases e<;>first|rfl|cases h
theorem plain_of{env:Env}{pos:Pos}:∀{es:List Expr},es.all notStar=true->(backTo pos (starEach es env)).any (·.1)=false:=by
 intro es
 induction es with
 | nil=>intro _;rfl
 | cons e es ih =>
  intro h
  simp only[List.all_cons,Bool.and_eq_true]at h
  rw[starEach_of h.1]
  have:=ih h.2
  simp[backTo]at this ⊢
  exact this
noncomputable def notSet:Expr->Bool
 | .Set _ _ _=>false
 | _=>true
theorem folded_of{e:Expr}{env:Env}(h:notSet e=true)(x:Value):foldedSetIterable e env x=pure x:=by
 cases e<;>first|rfl|cases h
noncomputable def notComp:Expr->Bool
 | .ListComp _ _ _ _=>false
 | .SetComp _ _ _ _=>false
 | .DictComp _ _ _ _ _=>false
 | _=>true
theorem swaps_of{e:Expr}{t:Option Expr}{n:Nat}{env:Env}(h:notComp e=true):swapsWith e t n env=pure false:=by
 cases e<;>first|rfl|cases h
section
variable {X:Cx}{K:Fg}
theorem peM{e:Expr}{t t':TE}(h:PE X e t)(m:∀{σ H Q},t' σ H Q->t σ H Q):PE X e t':=fun pins s σ H Q I w=>h pins s σ H Q I (m w)
theorem ptM{e:Expr}{t t':TT}(h:PT X e t)(m:∀{σ H Q},t' σ H Q->t σ H Q):PT X e t':=fun pins s σ H Q I w=>h pins s σ H Q I (m w)
theorem pwM{e:Expr}{t t':TT}(h:PW X e t)(m:∀{σ H Q},t' σ H Q->t σ H Q):PW X e t':=fun wh pins s σ H Q I w=>h wh pins s σ H Q I (m w)
theorem psM{e:Stmt}{t t':TS}(h:PS X e t)(m:∀{D σ H},t' D σ H->t D σ H):PS X e t':=fun pins s σ H D I w=>h pins s σ H D I (m w)
theorem pssM{e:List Stmt}{t t':TS}(h:PSs X e t)(m:∀{D σ H},t' D σ H->t D σ H):PSs X e t':=fun pins s σ H D I w=>h pins s σ H D I (m w)
theorem pgM{e:Expr}{t t':TG}(h:PG X e t)(m:∀{v σ H Q},t' v σ H Q->t v σ H Q):PG X e t':=by
 unfold PG at h ⊢
 intros
 exact h _ _ _ _ _ _ _ (by assumption) (by assumption) (m (by assumption))
theorem piM{g e:Expr}{t t':TI}(h:PI X g e t)(m:∀{σ H R},t' σ H R->t σ H R):PI X g e t':=fun pins s σ H R I w=>h pins s σ H R I (m w)
theorem pifM{es:List Expr}{t t':TT}(h:PIf X es t)(m:∀{σ H Q},t' σ H Q->t σ H Q):PIf X es t':=fun pins s σ H Q I w=>h pins s σ H Q I (m w)
theorem da_cons{e:Expr}{es:List Expr}{a:AD}{as:List AD}(ha:PE X e (argT K a))(hr:PA X es (tArgs (as.map (argT K))))(hs:starEach (e :: es) X.env=(false,eval e X.env) :: starEach es X.env:=by exact starEach_of rfl):PA X (e :: es) (tArgs ((a :: as).map (argT K))):=pa_cons ha hr hs
variable {e:Expr}{a b c:AD}{as:List AD}{td te:TD}{tc td':TTD}
theorem cv_var{i:Nat}(h:PE X e (tVar i)):PE X e (lift K (dVar i)):=peM h l_var
theorem cv_c{v:V}{d:D}(hv:∀F,Da K F v d)(h:PE X e (tC v)):PE X e (lift K (dC d)):=peM h (l_c hv)
theorem cv2{r:R2}{f:D->D->(Sl->Prop)->Prop}(ok:OpOk K (r2L r) (o2 f))(h:PE X e (tOp r (argT K a) (argT K b))):PE X e (lift K (dOp [a,b] (o2 f))):=peM h fun q=>arg2 (l_op ok q)
theorem cvu{r:V->Hp->VK->Prop}{f:D->(Sl->Prop)->Prop}(ok:OpOk K (r1L r) (o1 f))(h:PE X e (tUn r (argT K a))):PE X e (lift K (dOp [a] (o1 f))):=peM h fun q=>arg1 (l_op ok q)
theorem cvB{r:List V->Hp->VK->Prop}{f:List D->(Sl->Prop)->Prop}(ok:OpOk K r f)(h:PE X e (tCB r (tArgs (as.map (argT K))))):PE X e (lift K (dOp as f)):=peM h fun q=>l_op ok q
theorem cv_isi(T:Ki)(h:PE X e (tCB (rIsi K) (tCons (argT K a) (tCons (tC (.ty T.nm)) tNil)))):PE X e (lift K (dOp [a] (o1 (fIsi T)))):=peM h fun q=>arg1 (P:=fun x H1=>rIsi K [x,.ty T.nm] H1 _) (l_op ok_isi q)
theorem cv_tup(hl:as.length<=1000)(h:PE X e (tTup (tArgs (as.map (argT K))))):PE X e (lift K (dOpF as fTupD)):=peM h (l_tup hl)
theorem cv_lst(hl:as.length<=1000)(h:PE X e (tLst (tArgs (as.map (argT K))))):PE X e (lift K (dOpF as fLstD)):=peM h (l_lst hl)
theorem cv_chain{p q:Int->Int->Bool}(h:PE X e (tChain (rI0 fun i j=>.bl (p i j)) (rI0 fun i j=>.bl (q i j)) (argT K a) (argT K b) (argT K c))):PE X e (lift K (dChain p q a b c)):=peM h l_chain
theorem cv_and(h:PE X e (tAndV (lift K td) (lift K te))):PE X e (lift K (dAndV td te)):=peM h l_andV
theorem cv_not(h:PE X e (tNotV (lift K td))):PE X e (lift K (dNotV td)):=peM h l_notV
theorem cv_fn{con:Con}{E:XK}(h:PE X e (tCall (conSp K con) [] E (tArgs (as.map (argT K))))):PE X e (lift K (dCall con as)):=peM h l_call
theorem cv_fnI{con:Con}{E:XK}{i:Nat}(h:PE X e (tCall (conSp K con) [] E (tArgs ((Sum.inl i :: as).map (argT K))))):PE X e (lift K (dCallI con i as)):=peM h l_callI
theorem cv_m{i:Nat}{r:V->List V->Hp->VK->Prop}{f:List D->List D->(D->D->Prop)->Prop}(ok:MOk K r f)(h:PE X e (tBM K "list" r (tVar i) (tArgs (as.map (argT K))))):PE X e (lift K (dMeth i as f)):=peM h fun q=>by
 obtain⟨a,xs,e1,sq,w⟩:=l_meth ok q
 exact ⟨_,e1,.inl ⟨rfl,xs,sq⟩,w⟩
theorem cv_m0{i:Nat}{r:V->List V->Hp->VK->Prop}{f:List D->List D->(D->D->Prop)->Prop}(ok:MOk K r f)(h:PE X e (tBM0 K "list" r (tVar i))):PE X e (lift K (dMeth i [] f)):=peM h fun q=>by
 obtain⟨a,xs,e1,sq,w⟩:=l_meth ok q
 exact ⟨_,e1,.inl ⟨rfl,xs,sq⟩,w⟩
theorem ct2{r:R2}{f:D->D->(Sl->Prop)->Prop}(ok:OpOk K (r2L r) (o2 f))(h:PT X e (tTest (tOp r (argT K a) (argT K b)))):PT X e (liftT K (dTst (dOp [a,b] (o2 f)))):=ptM h fun q=>l_tst (fun z=>arg2 (l_op ok z)) q
theorem ct_val(h:PT X e (tB (lift K td))):PT X e (liftT K (dTst td)):=ptM h fun q=>l_tst (fun z=>z) q
theorem ct_not(h:PT X e (tNot (liftT K tc))):PT X e (liftT K (dNot tc)):=ptM h l_not
theorem cw_and(h:PW X e (tAnd (liftT K tc) (liftT K td'))):PW X e (liftT K (dAnd tc td')):=pwM h l_and
theorem cw_or(h:PW X e (tOr (liftT K tc) (liftT K td'))):PW X e (liftT K (dOr tc td')):=pwM h l_or
variable {st:Stmt}{sts:List Stmt}{t u:TDS}
theorem cs_next(h:PSs X sts tNext):PSs X sts (liftS K dNext):=pssM h l_next
theorem cs_seq(h:PSs X sts (tSeq (liftS K t) (liftS K u))):PSs X sts (liftS K (dSeq t u)):=pssM h l_seq
theorem cs_ret(h:PS X st (tRet (lift K td))):PS X st (liftS K (dRet td)):=psM h l_ret
theorem cs_retV{i:Nat}(h:PS X st (tRet (tVar i))):PS X st (liftS K (dRetV i)):=psM h l_retV
theorem cs_move{i j:Nat}(h:PS X st (tAsg (tVar j) (gName i))):PS X st (liftS K (dMove i j)):=psM h l_move
theorem cs_drop(h:PS X st (tDrop (lift K td))):PS X st (liftS K (dDrop td)):=psM h l_drop
theorem cs_if(h:PS X st (tIfS (liftT K tc) (liftS K t) (liftS K u))):PS X st (liftS K (dIfS tc t u)):=psM h l_ifS
theorem cs_set{i:Nat}(h:PS X st (tAsg (lift K td) (gName i))):PS X st (liftS K (dSet i td)):=psM h l_set
theorem cs_key{j:Nat}(h:PS X st (sDPut (tVar j) (argT K a) (lift K td))):PS X st (liftS K (dSetKey j a td)):=psM h l_setKey
noncomputable def dAsgG(g:TDG)(a:TD):TDS:=fun E ρ=>a ρ fun r ρ'=>g r.d ρ' E.nx
theorem l_asgG{g:TDG}{E:Ends}{σ:L2.St}{H:Hp}(h:liftS K (dAsgG g td) E σ H):tAsg (lift K td) (liftG K g) E σ H:=by
 obtain⟨G,F,ρ,D,R,w,n,r,b,c⟩:=h
 refine ⟨G,F,ρ,_,R,w,fun v H' F' x ρ' s R' r' q=>?_⟩
 obtain⟨F2,s2,R2,d2⟩:=r'.frz R'
 exact ⟨G,F2,ρ',x.d,_,R2,d2,q,fun σ3 ρ3 R3 w3=>n σ3 H' F2 ρ3 (s.trans s2) R3 w3⟩
theorem cs_asgG{g:TDG}(h:PS X st (tAsg (lift K td) (liftG K g))):PS X st (liftS K (dAsgG g td)):=psM h l_asgG
theorem cg_name{i:Nat}(h:PG X e (gName i)):PG X e (liftG K (dGN i)):=pgM h l_gn
theorem cg_tup{n:Nat}{gs:List TDG}(h:PG X e (gTup K n (gAll (gs.map (liftG K)))))(hn:gs.length=n:=by rfl):PG X e (liftG K (dGT gs)):=pgM h (l_gt hn)
theorem cgs_cons{es:List Expr}{g:TDG}{gs:List TDG}(h1:PG X e (liftG K g))(h2:PGs X es (gAll (gs.map (liftG K))))(hs:(assignEach (e :: es) X.env).map (·.2)=assign e X.env :: (assignEach es X.env).map (·.2):=by rfl):PGs X (e :: es) (gAll ((g :: gs).map (liftG K))):=pgs_cons h1 h2 hs
theorem cif_nil:PIf X [] (liftT K dYes):=pifM if_nil l_yes
variable {tg:Expr}
theorem pi_seqD{l:Expr}{tl:TE}(hK:X.K=K)(hl:PE X l tl):PI X tg l (iSeq K tl):=by
 subst hK
 intro pins s σ H R I h
 refine thn (hl pins s σ H _ I h) fun v s1 ⟨x,H1,I1,r1,q1⟩=>?_
 obtain⟨a,e,q1⟩:=q1
 subst e
 cases r1
 rcases q1 with⟨⟨xs,hq⟩,q⟩|⟨⟨xs,hq⟩,q⟩
 ·obtain⟨its,rv,p,hz⟩:=I1.list hq
  refine wpAny_pyIter_list p.isList ?_
  refine ⟨s1.heap.objs.size,[s1.heap.objs.size],_,_,H1,rfl,I1.kept (t':=s1.toks) fun b o e=>Heap.get?_push_of_some _ e,turn_list a _,⟨_,Heap.get?_push_size _ rfl,rfl,rfl⟩,fun b hb=>?_,q⟩
  have e:b=s1.heap.objs.size:=by simpa using hb
  subst e
  exact I1.fpOk (Nat.le_refl _) (I1.hok.fresh (Nat.le_refl _))
 ·obtain⟨its,rv,p,hz⟩:=I1.tuple hq
  refine wpAny_pyIter_tuple (show s1.heap.IsTuple a its.toArray from p) ?_
  refine ⟨s1.heap.objs.size,[s1.heap.objs.size],_,_,H1,rfl,I1.kept (t':=s1.toks) fun b o e=>Heap.get?_push_of_some _ e,turn_tuple a _,⟨_,Heap.get?_push_size _ rfl,rfl,rfl⟩,fun b hb=>?_,q⟩
  have e:b=s1.heap.objs.size:=by simpa using hb
  subst e
  exact I1.fpOk (Nat.le_refl _) (I1.hok.fresh (Nat.le_refl _))
theorem ci_seq{l:Expr}(hK:X.K=K)(hl:PE X l (lift K td)):PI X tg l (liftI K (dISeq td)):=piM (pi_seqD hK hl) l_iseq
theorem ci_rng1{l:Expr}(h:PI X tg l (iRng1 (tArgs ([a].map (argT K))))):PI X tg l (liftI K (dIRng1 a)):=piM h l_rng1
theorem ci_rng2{l:Expr}(h:PI X tg l (iRng2 (tArgs ([a,b].map (argT K))))):PI X tg l (liftI K (dIRng2 a b)):=piM h l_rng2
theorem ci_zip2{l:Expr}(h:PI X tg l (iZip2 K (tArgs ([a,b].map (argT K))))):PI X tg l (liftI K (dIZip2 a b)):=piM h l_zip2
noncomputable def CMod(_ j:Int):Prop:=0 < j
theorem op_catB:OpR X (binaryOp .Add) rCatB:=by
 intro pins s σ H x y v u Q I rx ry h
 obtain⟨a,b,xs,ys,rfl,rfl,ha,hb,hz,q1,q2,q3⟩:=h
 have ha':SqT X.K H a xs:=SqT.of ha
 have hb':SqT X.K H b ys:=SqT.of hb
 by_cases hx:xs=[]
 ·subst hx
  cases rx
  cases ry
  obtain⟨its,r1,p1,_⟩:=I.tuple ha'
  obtain⟨its2,r2,p2,_⟩:=I.tuple hb'
  cases r1
  exact cat_tup0 p1 p2 ⟨.ref b,H,I,rfl,q1 rfl⟩
 ·exact op_catT pins s σ H (.ref a) (.ref b) v u Q I rx ry ⟨a,b,xs,ys,rfl,rfl,ha',hb',hx,hz,fun e=>q2 hx e,fun e p hp=>q3 hx e p hp⟩
theorem op_addD:OpR X (binaryOp .Add) (rAny (rI0 fun i j=>.int (i+j)) (rAny rCatB rCat)):=op_add.or (op_catB.or op_cat)
theorem op_mulD:OpR X (binaryOp .Mult) (rAny (rI CMul fun i j=>.int (i * j)) rRep):=op_mul.or op_rep
theorem ok_sub:OpOk K (r2L (rI0 fun i j=>.int (i - j))) (o2 (fI0 fun i j=>.int (i - j))):=ok_I0 fun _ _ _=>.int _
theorem ok_fdiv:OpOk K (r2L (rI CDiv fun i j=>.int (i / j))) (o2 (fI CDiv fun i j=>.int (i / j))):=ok_I fun _ _ _=>.int _
theorem ok_mod:OpOk K (r2L (rI (fun _ j=>0 < j) fun i j=>.int (i % j))) (o2 (fI CMod fun i j=>.int (i % j))):=ok_I (C:=CMod) fun _ _ _=>.int _
theorem ok_pow:OpOk K (r2L (rI CPow fun i j=>.int (i ^ j.toNat))) (o2 (fI CPow fun i j=>.int (i ^ j.toNat))):=ok_I fun _ _ _=>.int _
theorem ok_lt:OpOk K (r2L (rI0 fun i j=>.bl (decide (i < j)))) (o2 (fI0 fun i j=>.bool (decide (i < j)))):=ok_I0 fun _ _ _=>.bl _
theorem ok_le:OpOk K (r2L (rI0 fun i j=>.bl (decide (i<=j)))) (o2 (fI0 fun i j=>.bool (decide (i<=j)))):=ok_I0 fun _ _ _=>.bl _
theorem ok_gt:OpOk K (r2L (rI0 fun i j=>.bl (decide (j < i)))) (o2 (fI0 fun i j=>.bool (decide (j < i)))):=ok_I0 fun _ _ _=>.bl _
theorem ok_ge:OpOk K (r2L (rI0 fun i j=>.bl (decide (j<=i)))) (o2 (fI0 fun i j=>.bool (decide (j<=i)))):=ok_I0 fun _ _ _=>.bl _
theorem ix_seqD(hK:X.K=K):IxR X (rAny (rIxL K) (rIxT K)):=(ix_listK hK).or (ix_tupK hK)
end
mutual
noncomputable def plainD:D->Bool
 | .none=>true
 | .bool _=>true
 | .int _=>true
 | .str _=>true
 | .list xs=>plainAll xs
 | .tuple xs=>plainAll xs
 | .dict _=>false
noncomputable def plainAll:List D->Bool
 | []=>true
 | x :: xs=>plainD x&&plainAll xs
end
section
variable {K:Fg}{F H:Hp}
mutual
theorem Da.is(s:Sub F H):∀{v:V}{d:D},Da K F v d->plainD d=true->Is K H v d
 | _,_,.non,_=>.non
 | _,_,.bl b,_=>.bl b
 | _,_,.int i,_=>.int i
 | _,_,.str x,_=>.str x
 | _,_,.lst e t,z=>.lst (SqL.of (s _ _ e)) (DaAll.is s t (by simpa [plainD]using z))
 | _,_,.tup e t,z=>.tup (SqT.of (s _ _ e)) (DaAll.is s t (by simpa [plainD]using z))
 | _,_,.dk _ _,z=>by simp[plainD]at z
 | _,_,.dt _ _,z=>by simp[plainD]at z
 | _,_,.scr _,z=>by simp[plainD,scrD]at z
 | _,_,.exc _,z=>by simp[plainD,excD]at z
 | _,_,.lam _ _,z=>by simp[plainD,lamD]at z
 | _,_,.opq _,z=>by simp[plainD,opqD]at z
 | _,_,.pd _ _,z=>by simp[plainD,pdD]at z
 | _,_,.bd _ _,z=>by simp[plainD,bdD]at z
theorem DaAll.is(s:Sub F H):∀{xs:List V}{ds:List D},DaAll K F xs ds->plainAll ds=true->IsAll K H xs ds
 | _,_,.nil,_=>.nil
 | _,_,.cons a t,z=>by
  simp[plainAll]at z
  exact .cons (Da.is s a z.1) (DaAll.is s t z.2)
end
theorem At.is{v:V}{d:D}(s:Sub F H)(h:At K F H v d)(p:plainD d=true):Is K H v d:=by
 rcases h with h|⟨a,o,rfl,_,e,h⟩
 ·exact h.is s p
 ·cases o<;>cases d<;>first|exact h.elim|(simp[plainD]at p)|skip
  ·rename_i xs ds
   exact .lst (SqL.of e) (DaAll.is s h (by simpa [plainD]using p))
end
noncomputable def fEqG(x y:D)(Q:Sl->Prop):Prop:=plainD x=true/\plainD y=true/\SeqAt.shaped x=true/\SeqAt.shaped y=true/\SeqAt.noMix x y=true/\Q (.fz (.bool (same x y)))
noncomputable def fNeG(x y:D)(Q:Sl->Prop):Prop:=plainD x=true/\plainD y=true/\SeqAt.shaped x=true/\SeqAt.shaped y=true/\SeqAt.noMix x y=true/\Q (.fz (.bool (!same x y)))
noncomputable def fEq:D->D->(Sl->Prop)->Prop
 | .int i,.int j,Q=>Q (.fz (.bool (decide (i=j))))
 | .list xs,y,Q=>fEqG (.list xs) y Q
 | .tuple xs,y,Q=>fEqG (.tuple xs) y Q
 | .str x,.str y,Q=>Q (.fz (.bool (decide (x=y))))
 | x,y,Q=>fEqG x y Q
noncomputable def fNe:D->D->(Sl->Prop)->Prop
 | .int i,.int j,Q=>Q (.fz (.bool (!decide (i=j))))
 | .list xs,y,Q=>fNeG (.list xs) y Q
 | .tuple xs,y,Q=>fNeG (.tuple xs) y Q
 | .str x,.str y,Q=>Q (.fz (.bool (!decide (x=y))))
 | x,y,Q=>fNeG x y Q
theorem ok_eq{K:Fg}:OpOk K (r2L (rAny rEq (rEqD K false))) (o2 fEq):=ok2 fun G F σ H ρ x y d e Q Qd R h1 h2 w k=>by
 have gen:fEqG d e Qd->rAny rEq (rEqD K false) x y H Q:=fun ⟨p1,p2,p3,p4,p5,w⟩=>.inr ⟨d,e,h1.is R.sub p1,h2.is R.sub p2,p3,p4,p5,k _ H F (.fz _) (Sub.refl _) R (Da.bl _) w⟩
 unfold fEq at w
 split at w
 ·rename_i i j
  cases h1.int
  cases h2.int
  refine .inl ⟨rfl,k _ H F (.fz _) (Sub.refl _) R (Da.bl _) ?_⟩
  have e:decide (V.int i=V.int j)=decide (i=j):=by rw[dec_int,Bool.beq_eq_decide_eq]
  rw[e];exact w
 ·exact gen w
 ·exact gen w
 ·rename_i i j
  cases h1.str
  cases h2.str
  refine .inl ⟨rfl,k _ H F (.fz _) (Sub.refl _) R (Da.bl _) ?_⟩
  have e:decide (V.str i=V.str j)=decide (i=j):=by rw[dec_str,Bool.beq_eq_decide_eq]
  rw[e];exact w
 ·exact gen w
theorem ok_ne{K:Fg}:OpOk K (r2L (rAny rNe (rEqD K true))) (o2 fNe):=ok2 fun G F σ H ρ x y d e Q Qd R h1 h2 w k=>by
 have gen:fNeG d e Qd->rAny rNe (rEqD K true) x y H Q:=fun ⟨p1,p2,p3,p4,p5,w⟩=>.inr ⟨d,e,h1.is R.sub p1,h2.is R.sub p2,p3,p4,p5,k _ H F (.fz _) (Sub.refl _) R (Da.bl _) w⟩
 unfold fNe at w
 split at w
 ·rename_i i j
  cases h1.int
  cases h2.int
  refine .inl ⟨rfl,k _ H F (.fz _) (Sub.refl _) R (Da.bl _) ?_⟩
  have e:decide (V.int i=V.int j)=decide (i=j):=by rw[dec_int,Bool.beq_eq_decide_eq]
  rw[e];exact w
 ·exact gen w
 ·exact gen w
 ·rename_i i j
  cases h1.str
  cases h2.str
  refine .inl ⟨rfl,k _ H F (.fz _) (Sub.refl _) R (Da.bl _) ?_⟩
  have e:decide (V.str i=V.str j)=decide (i=j):=by rw[dec_str,Bool.beq_eq_decide_eq]
  rw[e];exact w
 ·exact gen w
theorem op_eqE{X:Cx}{K:Fg}(hK:X.K=K)(hu:X.A.units+64 < cLine):OpR X (compareOp .Eq) (rAny rEq (rEqD K false)):=op_eq.or (op_eqDK hK hu)
theorem op_neE{X:Cx}{K:Fg}(hK:X.K=K)(hu:X.A.units+64 < cLine):OpR X (compareOp .NotEq) (rAny rNe (rEqD K true)):=op_ne.or (op_neDK hK hu)
section
variable {P:Program}{w:World}{K:Fg}{mg:Str->Option Value}{base:Heap}
theorem dfn{x qual:Str}{st:Stmt}{f:Addr}{fd:FuncData}{N ps:List Str}{k:Nat}{con:Con}{ts:TDS}(F:Fun K x qual st f fd)(S:FnScope N ps (defScope st))
  (hb:∀(cdv:Value) (A:Around) (outer:List Env) (s:Shared) (H:Hp) (E:XK),Room k (A.deeper (envOfC qual (defScope st) s.heap.objs.size f cdv))->PSs (cxOf CX0 P w K mg base N qual (defScope st) f cdv A outer s H E).nox (defBody st) (liftS K ts))
  (hl:∀args Qd,con args Qd->args.length=ps.length) (hc:∀args Qd,con args Qd->(∀s∈args,∀d,s≠.ow d)/\ts (endsOf args Qd) (startE N.length args)):FnOk P w K mg base CX0 (k+1) f fd ps (conSp K con):=by
 refine F.ok S (fun vs H Q E h=>?_) (fun cdv A outer s H vs Q E hr h=>⟨_,hb cdv A outer s H E hr,l_def hc h⟩)
 obtain⟨G,F',args,Qd,R,w',_⟩:=h
 have h1:=hl args Qd w'
 have h2:=R.len
 rw[List.length_map,List.length_map]at h2
 rw[h2,h1]
end
noncomputable def noOw:List Sl->Bool
 | []=>true
 | .ow _ :: _=>false
 | _ :: as=>noOw as
theorem noOw_of:∀{as:List Sl},noOw as=true->∀s∈as,∀d,s≠.ow d
 | .fz _ :: as,h,s,hs,d,z=>by
  rcases List.mem_cons.mp hs with e|e
  ·subst e;cases z
  ·exact noOw_of (as:=as) h s e d z
 | .io _ :: as,h,s,hs,d,z=>by
  rcases List.mem_cons.mp hs with e|e
  ·subst e;cases z
  ·exact noOw_of (as:=as) h s e d z
theorem DaAll.intsV{K:Fg}{F:Hp}:∀{xs:List V}{ns:List Int},DaAll K F xs (ns.map PyData.int)->xs=ns.map V.int
 | [],[],_=>rfl
 | x :: xs,b :: bs,.cons h t=>by cases h;simp[DaAll.intsV t]
noncomputable def RngB(i j:Int):Prop:=-(2 ^ 62)<=i/\i < 2 ^ 62/\-(2 ^ 62)<=j/\j < 2 ^ 62
noncomputable def rRng:List V->Hp->VK->Prop:=fun xs H Q=>∃i j:Int,(xs=[.int i,.int j]\/(xs=[.int j]/\i=0))/\∀p,H p=none->Q (.ref p) (upd H p (.rng i j))
theorem call_rng{X:Cx}:CallR X (.type "range") rRng:=by
 intro pins s σ H xs us Q I r h
 obtain⟨i,j,hx,q⟩:=h
 have lay:∀(t u v:Tok) (tk:Nat),EP X pins σ Q (.ref s.heap.objs.size) { s with heap:=s.heap.push { cls:=.type "range",data:=.fields #[.int i t,.int j u,.int 1 v] },toks:=tk }:=fun t u v tk =>
  ⟨.ref s.heap.objs.size,_,I.laid (t':=tk) (o:=.rng i j) (fun b o e=>Heap.get?_push_of_some _ e) (Nat.le_refl _) ⟨t,u,v,Heap.get?_push_size _ rfl⟩,rfl,q _ (I.hok.fresh (Nat.le_refl _))⟩
 rcases hx with rfl|⟨rfl,rfl⟩
 ·obtain⟨u,w,rfl,ru,rw'⟩:=vals2 r
  obtain⟨t,rfl⟩:=ru
  obtain⟨t',rfl⟩:=rw'
  exact call_range_2 (lay _ _ _ _)
 ·obtain⟨u,rfl,ru⟩:=vals1 r
  obtain⟨t,rfl⟩:=ru
  exact call_range_1 (lay _ _ _ _)
noncomputable def rLstRng:List V->Hp->VK->Prop:=fun xs H Q=>∃(p:Addr) (i j:Int),xs=[.ref p]/\H p=some (.rng i j)/\RngB i j/\(j - i).toNat<=2 ^ 24/\∀l,H l=none->Q (.ref l) (upd H l (.lst ((List.range (j - i).toNat).map fun (n:Nat)=>V.int (i+n))))
theorem call_lstRng{X:Cx}(hc:X.calm=true):CallR X (.type "list") rLstRng:=by
 intro pins s σ H xs us Q I r h
 obtain⟨p,i,j,rfl,hp,⟨b1,b2,b3,b4⟩,hz,q⟩:=h
 obtain⟨u,rfl,ru⟩:=vals1 r
 cases ru
 obtain⟨t,u,v,e⟩:=I.hok p _ hp
 have hn:Builtin.Range.rangeSize i j 1=((j - i).toNat:Int):=by rw[rangeSize_one];split<;>omega
 refine call_list_range (I.ok.hd hc) e (small_one b1 b2 b3 b4) hn hz fun h' tk acc' c' hk hS hacc=>?_
 refine ⟨.ref s.heap.objs.size,_,I.laid (t':=tk) (o:=.lst ((List.range (j - i).toNat).map fun (n:Nat)=>V.int (i+n))) hk (Nat.le_refl _) ?_,rfl,q _ (I.hok.fresh (Nat.le_refl _))⟩
 refine ⟨by rw[List.length_map,List.length_range];exact hz,acc'.toList,c',?_,by simpa using hS⟩
 have gen:∀(n:Nat) (ys:List Value),ys.length=n->(∀(k:Nat) (y:Value),ys[k]?=some y->∃t,y=.int (i+k * 1) t)->Vals ((List.range n).map fun (n:Nat)=>V.int (i+n)) ys:=by
  intro n
  induction n with
  | zero=>intro ys hl _;cases ys with|nil=>exact .nil|cons=>simp at hl
  | succ n ih =>
   intro ys hl hy
   rcases List.eq_nil_or_concat ys with rfl|⟨zs,z,rfl⟩
   ·simp at hl
   ·rw[List.concat_eq_append]at hl hy ⊢
    have hl':zs.length=n:=by simpa using hl
    rw[List.range_succ,List.map_append]
    refine Vals.append (ih zs hl' fun k y e=>hy k y (by rw[List.getElem?_append_left (lt_of_get e)];exact e)) ?_
    obtain⟨t,rfl⟩:=hy n z (by rw[<- hl'];simp)
    exact .cons ⟨t,by simp⟩ .nil
 refine gen _ _ (by rw[Array.length_toList];exact hacc.1) fun k y e=>?_
 exact hacc.2 k y (by simpa using e)
noncomputable def fLR:D->D->(Sl->Prop)->Prop
 | .int i,.int j,Q=>RngB i j/\(j - i).toNat<=2 ^ 24/\Q (.ow (.list (rangeD i (j - i).toNat)))
 | _,_,_=>False
theorem ok_LR{K:Fg}:OpOk K (fun vs H Q=>rRng vs H fun v H1=>rLstRng [v] H1 Q) (o2 fLR):=by
 intro G F σ H ρ vs ds Q Qd R a w k
 match ds,a,w with
 | [d,e],a,w =>
  obtain⟨v,u,rfl,h1,h2⟩:=a.two
  have w:fLR d e Qd:=w
  unfold fLR at w
  split at w
  rotate_left
  ·exact w.elim
  rename_i i j w
  cases h1.int
  cases h2.int
  refine ⟨i,j,.inl rfl,fun p hp=>⟨p,i,j,rfl,upd_same,w.1,w.2.1,fun l hl=>?_⟩⟩
  have R1:Rel K G F σ (upd H p (.rng i j)) ρ:=R.laid hp
  have da:DaAll K F ((List.range (j - i).toNat).map fun (n:Nat)=>V.int (i+n)) (rangeD i (j - i).toNat):=by
   have:=DaAll.ints (K:=K) (F:=F) ((List.range (j - i).toNat).map fun (n:Nat)=>i+(n:Int))
   simpa [rangeD,List.map_map,Function.comp_def]using this
  obtain⟨R',r'⟩:=R1.newOw (o:=.lst _) (d:=.list (rangeD i (j - i).toNat)) hl da
  exact k _ _ F _ (Sub.refl _) R' r' w.2.2
section
variable {X:Cx}{K:Fg}{e:Expr}{a b:AD}
theorem cv_LR(h:PE X e (tCB rLstRng (tCons (tCB rRng (tArgs ([a,b].map (argT K)))) tNil))):PE X e (lift K (dOp [a,b] (o2 fLR))):=peM h fun q=>l_op ok_LR q
end
noncomputable def dDispQ(ρ:Ev):List (Key×Sum Nat D)->(List (D×D)->Prop)->Prop
 | [],k=>k []
 | (c,.inr d) :: r,k=>dDispQ ρ r fun es=>k ((keyD c,d) :: es)
 | (c,.inl i) :: r,k=>match ρ[i]? with
  | some (some (.fz d))=>dDispQ ρ r fun es=>k ((keyD c,d) :: es)
  | _=>False
noncomputable def dDisp(its:List (Key×Sum Nat D)):TD:=fun ρ Q=>dDispQ ρ its fun es=>Q (.ow (.dict es)) ρ
noncomputable def itT:Sum Nat D->TE
 | .inl i=>tVar i
 | .inr (.int n)=>tC (.int n)
 | .inr _=>fun _ _ _=>False
theorem disp_ok{K:Fg}{G:Gh}{F H H1:Hp}{σ:L2.St}{ρ:Ev}(R:Rel K G F σ H ρ):∀{its:List (Key×Sum Nat D)}{kk:List (D×D)->Prop}{Qp:List (V×V)->Hp->Prop},(∀p∈its,∀d,p.2=.inr d->∃n,d=.int n)->dDispQ ρ its kk ->
  (∀kvs es,DaKV K F kvs es->kvs.map (·.1)=its.map (·.1)->kk es->Qp (kvs.map fun kv=>(kV kv.1,kv.2)) H1)->tPairs (its.map fun p=>(tC (kV p.1),itT p.2)) σ H1 Qp
 | [],kk,Qp,_,w,k=>k [] [] .nil rfl w
 | (c,.inr d) :: r,kk,Qp,hc,w,k=>by
  obtain⟨n,rfl⟩:=hc (c,.inr d) List.mem_cons_self d rfl
  refine disp_ok R (its:=r) (fun p hp=>hc p (List.mem_cons_of_mem _ hp)) w fun kvs es da e q=>?_
  exact k ((c,.int n) :: kvs) _ (.cons (.int n) da) (by simp[e]) q
 | (c,.inl i) :: r,kk,Qp,hc,w,k=>by
  unfold dDispQ at w
  split at w
  ·rename_i d ed
   obtain⟨v,ev,dv⟩:=R.fz i d ed
   refine ⟨v,ev,disp_ok R (its:=r) (fun p hp=>hc p (List.mem_cons_of_mem _ hp)) w fun kvs es da e q=>?_⟩
   exact k ((c,v) :: kvs) _ (.cons dv da) (by simp[e]) q
  ·exact w.elim
theorem mergeK_nodup:∀(kvs acc:List (Key×V)),((acc++kvs).map (·.1)).Nodup->mergeK acc kvs=acc++kvs
 | [],acc,_=>by simp[mergeK]
 | (c,v) :: r,acc,h=>by
  have hn:valV acc c=none:=by
   unfold valV
   rw[List.find?_eq_none.mpr ?_];rfl
   intro x hx
   simp only[decide_eq_true_eq]
   intro z
   simp only[List.map_append,List.map_cons,List.nodup_append]at h
   exact h.2.2 x.1 (List.mem_map_of_mem hx) c List.mem_cons_self z
  have e:putK acc c v=acc++[(c,v)]:=putK_new v hn
  show mergeK (putK acc c v) r=_
  rw[e,mergeK_nodup r (acc++[(c,v)]) (by simpa using h)]
  simp
theorem cv_disp{X:Cx}{K:Fg}{e:Expr}(its:List (Key×Sum Nat D))(hn:(its.map (·.1)).Nodup)(hl:its.length<=15)(hc:∀p∈its,∀d,p.2=.inr d->∃n,d=.int n)(h:PE X e (tDisp (its.map fun p=>(tC (kV p.1),itT p.2)))):PE X e (lift K (dDisp its)):=peM h fun {σ H Q} q=>by
 obtain⟨G,F,ρ,Qd,R,w,k⟩:=q
 intro p hp
 refine disp_ok R hc w fun kvs es da ek q=>⟨upd_same,kvs,rfl,?_,?_⟩
 ·have:=congrArg List.length ek;simp at this;omega
 ·rw[mergeK_nodup kvs [] (by simpa [ek]using hn),upd_upd]
  obtain⟨R',r'⟩:=R.newOw (o:=.dK ([]++kvs)) (d:=.dict es) hp (by rw[List.nil_append];exact da)
  exact k _ _ F _ ρ (Sub.refl _) R' r' q
noncomputable def clean1(ρ:Ev)(i:Nat):Ev:=match ρ[i]? with
 | some (some (.io _))=>ρ
 | some _=>ρ.set i none
 | none=>ρ
noncomputable def clean(ks:List Nat)(ρ:Ev):Ev:=match ks with
 | []=>ρ
 | i :: r=>clean r (clean1 ρ i)
section
variable {K:Fg}{G:Gh}{F H:Hp}{σ:L2.St}{ρ:Ev}
theorem Rel.drop(R:Rel K G F σ H ρ){i:Nat}(hn:∀d,ρ[i]?≠some (some (Sl.io d))):Rel K G F σ H (ρ.set i none):=by
 refine ⟨by rw[List.length_set];exact R.len,R.sub,R.sub0,R.fn,R.keep,R.tb,fun j d e=>?_,fun j t e wt=>?_,fun j d b e eb=>?_,fun j b e=>?_,fun j d e=>?_,fun j k t u b e1 w1 e2 w2 e3 e4=>?_⟩
 ·rcases get_set e with⟨rfl,z⟩|⟨n,z⟩
  ·cases z
  ·exact R.fz j d z
 ·rcases get_set e with⟨rfl,z⟩|⟨n,z⟩
  ·cases z
  ·exact R.ow j t z wt
 ·rcases get_set e with⟨rfl,z⟩|⟨n,z⟩
  ·cases z
  ·exact R.new j d b z eb
 ·obtain⟨d',e1,e2⟩:=R.io j b e
  have n:i≠j:=fun z=>by subst z;exact hn _ e1
  exact ⟨d',by rw[List.getElem?_set_ne n];exact e1,e2⟩
 ·rcases get_set e with⟨rfl,z⟩|⟨n,z⟩
  ·cases z
  ·exact R.ioi j d z
 ·rcases get_set e1 with⟨rfl,z⟩|⟨n,z⟩
  ·cases z
  ·rcases get_set e2 with⟨rfl,z'⟩|⟨n',z'⟩
   ·cases z'
   ·exact R.ap j k t u b z w1 z' w2 e3 e4
theorem Rel.clean1(R:Rel K G F σ H ρ)(i:Nat):Rel K G F σ H (clean1 ρ i):=by
 unfold L3.clean1
 split
 ·exact R
 ·rename_i e1 e2
  exact R.drop fun d z=>by rw[e2]at z;cases z;exact e1 _ rfl
 ·exact R
theorem Rel.clean(ks:List Nat):∀{ρ:Ev},Rel K G F σ H ρ->Rel K G F σ H (clean ks ρ):=by
 induction ks with
 | nil=>intro ρ R;exact R
 | cons i r ih=>intro ρ R;exact ih (R.clean1 i)
end
noncomputable def dLoopC(ks:List Nat)(g:TDG)(tb:TDS)(E:DE):List D->Ev->Prop
 | [],ρ=>E.nx ρ
 | d :: ds,ρ=>g d ρ fun ρ'=>tb { nx:=fun ρ2=>dLoopC ks g tb E ds (clean ks ρ2),rt:=E.rt,bk:=fun ρ2=>E.nx (clean ks ρ2),ct:=fun ρ2=>dLoopC ks g tb E ds (clean ks ρ2) } ρ'
noncomputable def dForC(ks:List Nat)(ti:TDI)(g:TDG)(tb:TDS):TDS:=fun E ρ=>ti ρ fun ds ρ'=>dLoopC ks g tb E ds (clean ks ρ')
theorem l_forC{K:Fg}{ks:List Nat}{ti:TDI}{g:TDG}{tb:TDS}{E:Ends}{σ:L2.St}{H:Hp}(h:liftS K (dForC ks ti g tb) E σ H):tFor (liftI K ti) (liftG K g) (liftS K tb) E σ H:=by
 obtain⟨G,F,ρ,D,R,w,n,r,b,c⟩:=h
 refine ⟨G,F,ρ,_,R,w,fun J H1 F1 ds ρ1 s1 R1 wk w1=>?_⟩
 refine ⟨fun i m σ H=>m=ds.length - i/\i<=ds.length/\∃F' ρ',Sub F1 F'/\Rel K G F' σ H ρ'/\dLoopC ks g tb D (ds.drop i) ρ',⟨ds.length,rfl,Nat.zero_le _,F1,_,Sub.refl _,R1.clean ks,w1⟩,?_⟩
 rintro i m σ H ⟨rfl,hi,F',ρ',s',R',w'⟩
 obtain⟨hgo,hst⟩:=wk i H F' s' R'.sub
 cases e:ds[i]? with
 | none =>
  have hl:ds.length<=i:=List.getElem?_eq_none_iff.mp e
  refine .inl ⟨hst (by omega),?_⟩
  rw[List.drop_of_length_le hl]at w'
  exact n σ H F' ρ' (s1.trans s') R' w'
 | some d =>
  obtain⟨go,yl⟩:=hgo d e
  have hl:=lt_of_get e
  rw[drop_get e]at w'
  refine .inr ⟨go,fun σ2 H2=>∃F2 ρ2,Sub F1 F2/\Rel K G F2 σ2 H2 ρ2/\dLoopC ks g tb D (ds.drop (i+1)) ρ2,fun σ2 H2 ⟨F2,ρ2,z1,z2,z3⟩=>⟨ds.length - (i+1),by omega,rfl,hl,F2,ρ2,z1,z2,z3⟩,fun x H2 y=>?_⟩
  obtain⟨F2,t1,t2,t3,t4,t5⟩:=yl x H2 y
  have R2:=R'.turn t1 t2 t3 t4
  refine ⟨G,F2,ρ',d,_,R2,t5,w',fun σ3 ρ3 R3 w3=>?_⟩
  refine ⟨G,F2,ρ3,_,R3,w3,fun σ4 H4 F4 ρ4 s4 R4 q=>?_,fun v σ4 H4 F4 x4 ρ4 s4 R4 r4 q=>?_,fun σ4 H4 F4 ρ4 s4 R4 q=>?_,fun σ4 H4 F4 ρ4 s4 R4 q=>?_⟩
  ·exact ⟨F4,_,s'.trans (t1.trans s4),R4.clean ks,q⟩
  ·exact r v σ4 H4 F4 x4 ρ4 (s1.trans (s'.trans (t1.trans s4))) R4 r4 q
  ·exact n σ4 H4 F4 _ (s1.trans (s'.trans (t1.trans s4))) (R4.clean ks) q
  ·exact ⟨F4,_,s'.trans (t1.trans s4),R4.clean ks,q⟩
theorem cs_forC{X:Cx}{K:Fg}{st:Stmt}{t:TDS}(ks:List Nat){ti:TDI}{g:TDG}(h:PS X st (tFor (liftI K ti) (liftG K g) (liftS K t))):PS X st (liftS K (dForC ks ti g t)):=psM h l_forC
theorem loopC{ks:List Nat}{g:TDG}{tb:TDS}{E:DE}(J:List D->Ev->Prop)
  (hs:∀d ds ρ,J (d :: ds) ρ->∀N:Ev->Prop,(∀ρ2,J ds ρ2->N ρ2)->g d ρ fun ρ'=>tb { nx:=fun ρ2=>N (clean ks ρ2),rt:=E.rt,bk:=fun ρ2=>E.nx (clean ks ρ2),ct:=fun ρ2=>N (clean ks ρ2) } ρ')
  (hd:∀ρ,J [] ρ->E.nx ρ):∀{ds:List D}{ρ:Ev},J ds ρ->dLoopC ks g tb E ds ρ
 | [],ρ,h=>hd ρ h
 | d :: ds,ρ,h=>hs d ds ρ h _ fun ρ2 h2=>loopC J hs hd h2
noncomputable def dCompLC(n:Nat)(g:TDG)(tc:TTD)(te:TD):List D->List D->Ev->(List D->Ev->Prop)->Prop
 | [],acc,τ,Q=>Q acc τ
 | d :: ds,acc,τ,Q=>g d τ fun τ1=>tc τ1 fun b τ2=>if b=true then te τ2 fun r τ3=>dCompLC n g tc te ds (acc++[r.d]) (clean (List.range n) τ3) Q else dCompLC n g tc te ds acc (clean (List.range n) τ2) Q
noncomputable def dCompC(ti:TDI)(own:List Str)(fr:List Nat)(g:TDG)(tc:TTD)(te:TD):TD:=fun ρ Q=>ti ρ fun ds ρ1=>ds.length<=sizeLine/\dCompLC own.length g tc te ds [] (innerE own fr ρ1) fun ys τ=>Q (.ow (.list ys)) (wbGo fr (τ.drop own.length) 0 ρ1)
theorem l_compC{K:Fg}{ti:TDI}{own:List Str}{fr:List Nat}{g:TDG}{tc:TTD}{te:TD}(nd:fr.Nodup){σ:L2.St}{H:Hp}{Q:VK}(h:lift K (dCompC ti own fr g tc te) σ H Q):tCompW (liftI K ti) own fr (liftG K g) (liftT K tc) (lift K te) σ H Q:=by
 obtain⟨G,F,ρ,Qd,R,w,k⟩:=h
 refine ⟨G,F,ρ,_,R,w,fun J H1 F1 ds ρ1 s1 R1 wk ⟨hz,w1⟩=>?_⟩
 have Ri:=R1.inner (own:=own) nd
 refine ⟨fun i m ys τ H=>m=ds.length - i/\i<=ds.length/\∃F' ρ' acc,Rel K (ghC own fr F1 H1 σ ρ1) F' τ H ρ'/\DaAll K F' ys acc/\acc.length<=i/\dCompLC own.length g tc te (ds.drop i) acc ρ' (fun ys τ=>Qd (.ow (.list ys)) (wbGo fr (τ.drop own.length) 0 ρ1)),
   ⟨ds.length,rfl,Nat.zero_le _,F1,_,[],Ri,.nil,Nat.zero_le _,w1⟩,?_⟩
 rintro i m ys τ H' ⟨rfl,hi,F',ρ',acc,R',da,hl,w'⟩
 obtain⟨hgo,hst⟩:=wk i H' F' R'.sub0 R'.sub
 cases e:ds[i]? with
 | none =>
  have hl':ds.length<=i:=List.getElem?_eq_none_iff.mp e
  refine .inl ⟨hst (by omega),fun Dd hD=>?_⟩
  rw[List.drop_of_length_le hl']at w'
  have Ro:=R1.outer R' nd
  obtain⟨Rn,rn⟩:=Ro.newOw (o:=.lst ys) (d:=.list acc) hD da
  exact k _ _ F' _ _ (s1.trans R'.sub0) Rn rn w'
 | some d =>
  obtain⟨go,yl⟩:=hgo d e
  have hlt:=lt_of_get e
  rw[drop_get e]at w'
  refine .inr ⟨go,by rw[da.length];omega,fun ys2 τ2 H2=>∃F2 ρ2 acc2,Rel K (ghC own fr F1 H1 σ ρ1) F2 τ2 H2 ρ2/\DaAll K F2 ys2 acc2/\acc2.length<=i+1/\dCompLC own.length g tc te (ds.drop (i+1)) acc2 ρ2 (fun ys τ=>Qd (.ow (.list ys)) (wbGo fr (τ.drop own.length) 0 ρ1)),
    fun ys2 τ2 H2 ⟨F2,ρ2,acc2,z1,z2,z3,z4⟩=>⟨ds.length - (i+1),by omega,rfl,hlt,F2,ρ2,acc2,z1,z2,z3,z4⟩,fun x H2 y=>?_⟩
  obtain⟨F2,t1,t2,t3,t4,t5⟩:=yl x H2 y
  have R2:=R'.turn t1 t2 t3 t4
  refine ⟨_,F2,ρ',d,_,R2,t5,w',fun τ3 ρ3 R3 w3=>?_⟩
  refine ⟨_,F2,ρ3,_,R3,w3,fun b H4 F4 ρ4 s4 R4 w4=>?_⟩
  cases b with
  | false=>exact ⟨F4,_,acc,R4.clean _,da.mono (t1.trans s4),by omega,w4⟩
  | true =>
   refine ⟨_,F4,ρ4,_,R4,w4,fun v H5 F5 r ρ5 s5 R5 r5 w5=>?_⟩
   obtain⟨F6,s6,R6,d6⟩:=r5.frz R5
   exact ⟨F6,_,acc++[r.d],R6.clean _,(da.mono (t1.trans (s4.trans (s5.trans s6)))).append (.cons d6 .nil),by simp;omega,w5⟩
section
variable {X:Cx}{K:Fg}{e:Expr}{st:Stmt}{ti:TDI}{own:List Str}{fr:List Nat}{g:TDG}{tc:TTD}{te:TD}
theorem cv_compC(nd:fr.Nodup)(h:PE X e (tCompW (liftI K ti) own fr (liftG K g) (liftT K tc) (lift K te))):PE X e (lift K (dCompC ti own fr g tc te)):=peM h (l_compC nd)
theorem cs_setCC{i:Nat}(nd:fr.Nodup)(h:PS X st (tAsg (tCompW (liftI K ti) own fr (liftG K g) (liftT K tc) (lift K te)) (gName i))):PS X st (liftS K (dSet i (dCompC ti own fr g tc te))):=psM h fun q=>l_compC nd (l_set q)
end
theorem compC{n:Nat}{g:TDG}{tc:TTD}{te:TD}{Q:List D->Ev->Prop}(J:List D->List D->Ev->Prop)
  (hs:∀d ds acc τ,J (d :: ds) acc τ->∀N:List D->Ev->Prop,(∀acc2 τ2,J ds acc2 τ2->N acc2 τ2)->g d τ fun τ1=>tc τ1 fun b τ2=>if b=true then te τ2 fun r τ3=>N (acc++[r.d]) (clean (List.range n) τ3) else N acc (clean (List.range n) τ2))
  (hd:∀acc τ,J [] acc τ->Q acc τ):∀{ds acc:List D}{τ:Ev},J ds acc τ->dCompLC n g tc te ds acc τ Q
 | [],acc,τ,h=>hd acc τ h
 | d :: ds,acc,τ,h=>hs d ds acc τ h _ fun acc2 τ2 h2=>compC J hs hd h2
theorem compN{n:Nat}{g:TDG}{te:TD}{Q:List D->Ev->Prop}(J:List D->List D->Ev->Prop)
  (hs:∀d ds acc τ,J (d :: ds) acc τ->∀N:List D->Ev->Prop,(∀acc2 τ2,J ds acc2 τ2->N acc2 τ2)->g d τ fun τ1=>te τ1 fun r τ3=>N (acc++[r.d]) (clean (List.range n) τ3))
  (hd:∀acc τ,J [] acc τ->Q acc τ) {ds acc:List D}{τ:Ev} (h:J ds acc τ):dCompLC n g dYes te ds acc τ Q :=
 compC J (fun d ds acc τ h N hN=>by
   have q:=hs d ds acc τ h N hN
   have e:(fun τ1=>te τ1 fun r τ3=>N (acc++[r.d]) (clean (List.range n) τ3))=fun τ1=>dYes τ1 fun b τ2=>if b=true then te τ2 (fun r τ3=>N (acc++[r.d]) (clean (List.range n) τ3)) else N acc (clean (List.range n) τ2):=by
     funext τ1
     show _=(if true=true then te τ1 (fun r τ3=>N (acc++[r.d]) (clean (List.range n) τ3)) else N acc (clean (List.range n) τ1))
     rw[if_pos rfl]
   rw[<- e]
   exact q) hd h
theorem mapC{n:Nat}{g:TDG}{te:TD}{Q:List D->Ev->Prop}(f:D->D){τ:Ev}{ds:List D}
  (hs:∀d∈ds,∀N:D->Ev->Prop,N (f d) τ->g d τ fun τ1=>te τ1 fun r τ3=>N r.d (clean (List.range n) τ3))
  (hd:Q (ds.map f) τ):dCompLC n g dYes te ds [] τ Q:=by
 refine compN (fun rest acc τ'=>τ'=τ/\∃pre,ds=pre++rest/\acc=pre.map f) ?_ ?_ ⟨rfl,[],rfl,rfl⟩
 ·rintro d ds' acc τ' ⟨rfl,pre,e,rfl⟩ N hN
  exact hs d (by rw[e];simp) (fun x τ3=>N (pre.map f++[x]) τ3) (hN _ _ ⟨rfl,pre++[d],by rw[e];simp,by simp⟩)
 ·rintro acc τ' ⟨rfl,pre,e,rfl⟩
  rw[List.append_nil]at e
  subst e
  exact hd
structure WE(X:Cx)(e:Expr)(t:TE):Prop where
 h:PE X e t
structure WA(X:Cx)(es:List Expr)(t:TA):Prop where
 h:PA X es t
structure WT(X:Cx)(e:Expr)(t:TT):Prop where
 h:PT X e t
structure WW(X:Cx)(e:Expr)(t:TT):Prop where
 h:PW X e t
structure WS(X:Cx)(s:Stmt)(t:TS):Prop where
 h:PS X s t
structure WSs(X:Cx)(s:List Stmt)(t:TS):Prop where
 h:PSs X s t
structure WG(X:Cx)(e:Expr)(t:TG):Prop where
 h:PG X e t
structure WGs(X:Cx)(es:List Expr)(t:TGs):Prop where
 h:PGs X es t
structure WI(X:Cx)(g e:Expr)(t:TI):Prop where
 h:PI X g e t
structure WIf(X:Cx)(es:List Expr)(t:TT):Prop where
 h:PIf X es t
section
variable {X:Cx}{K:Fg}{e e1 e2 e3:Expr}{es:List Expr}{a b c:AD}{as:List AD}{td te tf:TD}{tc tc':TTD}{st:Stmt}{sts:List Stmt}{t u:TDS}{p pos pos' p2 apos cpos tpos:Pos}{x:Str}{tg:Expr}
theorem wn(i:Nat)(hN:X.N[i]?=some x:=by rfl)(hv:Vis X.env.scope x:=by first|exact Or.inl rfl|exact Or.inr (Or.inl rfl)|exact Or.inr (Or.inr rfl))(hd:(x==("__debug__":Str))=false:=by decide)
  (hcd:(x==("__classdict__":Str))=false:=by decide):WE X (.Name x pos) (argT K (.inl i)):=⟨pe_var hN hv hd hcd⟩
theorem wv(i:Nat)(hN:X.N[i]?=some x:=by rfl)(hv:Vis X.env.scope x:=by first|exact Or.inl rfl|exact Or.inr (Or.inl rfl)|exact Or.inr (Or.inr rfl))(hd:(x==("__debug__":Str))=false:=by decide)
  (hcd:(x==("__classdict__":Str))=false:=by decide):WE X (.Name x pos) (lift K (dVar i)):=⟨cv_var (pe_var hN hv hd hcd)⟩
theorem wx(h:WE X e (lift K td)):WE X e (argT K (.inr td)):=⟨h.h⟩
theorem wa_nil:WA X [] (tArgs (([]:List AD).map (argT K))):=⟨pa_nil⟩
theorem wa_cons(ha:WE X e (argT K a))(hr:WA X es (tArgs (as.map (argT K))))(hs:notStar e=true:=by rfl):WA X (e :: es) (tArgs ((a :: as).map (argT K))):=⟨da_cons ha.h hr.h (starEach_of hs)⟩
theorem w_int{i:Int}{k:Nat}:WE X (.Constant (.int i) k pos) (lift K (dC (.int i))):=⟨cv_c (fun _=>.int _) pe_int⟩
theorem w_bl{b:Bool}{k:Nat}:WE X (.Constant (.bool b) k pos) (lift K (dC (.bool b))):=⟨cv_c (fun _=>.bl _) pe_bl⟩
theorem w_str{z:Str}{k:Nat}:WE X (.Constant (.str z) k pos) (lift K (dC (.str z))):=⟨cv_c (fun _=>.str _) pe_str⟩
theorem w_bin{op:Operator}{r:R2}{f:D->D->(Sl->Prop)->Prop}(ok:OpOk K (r2L r) (o2 f))(ho:OpR X (binaryOp op) r)(ha:WE X e1 (argT K a))(hb:WE X e2 (argT K b)):WE X (.BinOp e1 op e2 pos) (lift K (dOp [a,b] (o2 f))):=⟨cv2 ok (pe_op ho ha.h hb.h)⟩
theorem w_neg(ha:WE X e1 (argT K a)):WE X (.UnaryOp .USub e1 pos) (lift K (dOp [a] (o1 fNeg))):=⟨cvu ok_neg (pe_un un_neg ha.h)⟩
theorem w_cmp{op:CmpOp}{r:R2}{f:D->D->(Sl->Prop)->Prop}(ok:OpOk K (r2L r) (o2 f))(ho:OpR X (compareOp op) r)(ha:WE X e1 (argT K a))(hb:WE X e2 (argT K b))(hm:op≠.In:=by decide)(hm2:op≠.NotIn:=by decide):WE X (.Compare e1 [op] [e2] pos) (lift K (dOp [a,b] (o2 f))):=⟨cv2 ok (pe_cmpR ho ha.h hb.h (nomark _ hm hm2))⟩
theorem w_chain{op op':CmpOp}{p q:Int->Int->Bool}(ho:OpR X (compareOp op) (rI0 fun i j=>.bl (p i j)))(ho':OpR X (compareOp op') (rI0 fun i j=>.bl (q i j)))(ha:WE X e1 (argT K a))(hb:WE X e2 (argT K b))(hc:WE X e3 (argT K c))
  (hm:lastMarks [op,op'] [e2,e3]=false:=by with_unfolding_all rfl):WE X (.Compare e1 [op,op'] [e2,e3] pos) (lift K (dChain p q a b c)):=⟨cv_chain (pe_chain ho ho' ha.h hb.h hc.h hm)⟩
theorem w_one{op:BoolOp}{tr:TE}(h:WE X e tr):WE X (.BoolOp op [e] pos) tr:=⟨pe_one h.h⟩
theorem w_and{rest:List Expr}(ha:WE X e1 (lift K td))(hb:WE X (.BoolOp .And (e2 :: rest) pos) (lift K te)):WE X (.BoolOp .And (e1 :: e2 :: rest) pos) (lift K (dAndV td te)):=⟨cv_and (pe_and ha.h hb.h)⟩
theorem w_not(ha:WE X e1 (lift K td)):WE X (.UnaryOp .Not e1 pos) (lift K (dNotV td)):=⟨cv_not (pe_not ha.h)⟩
theorem w_fn{k:Nat}{ps:List Str}{con:Con}(C:Cal X.prog X.w X.K X.mg X.base k x ps (conSp K con))(hr:Room k X.A)(ha:WA X (e :: es) (tArgs (as.map (argT K))))(hg:Gl X x:=by rfl)(hdb:(x==("__debug__":Str))=false:=by decide)
  (he:notStar e=true:=by rfl) (hpl:es.all notStar=true:=by rfl):WE X (.Call (.Name x p) (e :: es) [] pos) (lift K (dCall con as)):=⟨cv_fn (pe_fn C hr ha.h hg hdb (starEach_of he) (plain_of hpl))⟩
theorem w_fnI{k i:Nat}{ps:List Str}{con:Con}(C:Cal X.prog X.w X.K X.mg X.base k x ps (conSp K con))(hr:Room k X.A)(ha:WA X (e :: es) (tArgs ((Sum.inl i :: as).map (argT K))))(hg:Gl X x:=by rfl)(hdb:(x==("__debug__":Str))=false:=by decide)
  (he:notStar e=true:=by rfl) (hpl:es.all notStar=true:=by rfl):WE X (.Call (.Name x p) (e :: es) [] pos) (lift K (dCallI con i as)):=⟨cv_fnI (pe_fn C hr ha.h hg hdb (starEach_of he) (plain_of hpl))⟩
theorem w_callB{id:String}{r:List V->Hp->VK->Prop}{f:List D->(Sl->Prop)->Prop}(ok:OpOk K r f)(hc:CallR X (.builtin id) r)(hm:X.mg x=none)(hv:bootBuiltins x=some (.builtin id))(ha:WA X (e :: es) (tArgs (as.map (argT K))))(hg:Gl X x:=by rfl)(hn:x ≠ "__name__":=by decide)(hdb:(x==("__debug__":Str))=false:=by decide)
  (he:notStar e=true:=by rfl) (hpl:es.all notStar=true:=by rfl):WE X (.Call (.Name x p) (e :: es) [] pos) (lift K (dOp as f)):=⟨cvB ok (pe_callB hc hg hm hv ha.h hn hdb (starEach_of he) (plain_of hpl))⟩
theorem w_callT{T:String}{r:List V->Hp->VK->Prop}{f:List D->(Sl->Prop)->Prop}(ok:OpOk K r f)(hc:CallR X (.type T) r)(hm:X.mg x=none)(hv:bootBuiltins x=some (.type T))(ha:WA X (e :: es) (tArgs (as.map (argT K))))(hg:Gl X x:=by rfl)(hn:x ≠ "__name__":=by decide)(hdb:(x==("__debug__":Str))=false:=by decide)
  (he:notStar e=true:=by rfl) (hpl:es.all notStar=true:=by rfl):WE X (.Call (.Name x p) (e :: es) [] pos) (lift K (dOp as f)):=⟨cvB ok (pe_callTy hc hg hm hv ha.h hn hdb (starEach_of he) (plain_of hpl))⟩
theorem w_isi(T:Ki)(hK:X.K=K)(hm:X.mg "isinstance"=none){y:Str}(hm2:X.mg y=none)(hv2:bootBuiltins y=some (.type T.nm))(ha:WE X e1 (argT K a))(hg:Gl X "isinstance":=by rfl)(hg2:Gl X y:=by rfl)(hy:y ≠ "__name__":=by decide)(hy2:(y==("__debug__":Str))=false:=by decide)(he:notStar e1=true:=by rfl) :
  WE X (.Call (.Name "isinstance" p) [e1,.Name y p2] [] pos) (lift K (dOp [a] (o1 (fIsi T)))):=⟨cv_isi T (pe_callB (call_isiK hK) hg hm boot_isinstance (pa_cons ha.h (pa_cons (pe_bltn hg2 hm2 hv2 (v:=.ty T.nm) rfl hy hy2) pa_nil (starEach_of rfl)) (starEach_of he)) (by decide) (by decide) (starEach_of he) (plain_of rfl))⟩
theorem w_LR(hc:X.calm=true)(hm:X.mg "list"=none)(hm2:X.mg "range"=none)(ha:WA X [e1,e2] (tArgs ([a,b].map (argT K))))(hg:Gl X "list":=by rfl)(hg2:Gl X "range":=by rfl)(he:notStar e1=true:=by rfl)(he2:notStar e2=true:=by rfl) :
  WE X (.Call (.Name "list" p) [.Call (.Name "range" p2) [e1,e2] [] pos'] [] pos) (lift K (dOp [a,b] (o2 fLR))) :=
 ⟨cv_LR (pe_callTy (call_lstRng hc) hg hm boot_list (pa_cons (pe_callTy call_rng hg2 hm2 boot_range ha.h (by decide) (by decide) (starEach_of he) (plain_of (by simp[he2]))) pa_nil (starEach_of rfl)) (by decide) (by decide) (starEach_of rfl) (plain_of rfl))⟩
theorem w_ix(hK:X.K=K)(ha:WE X e1 (argT K a))(hb:WE X e2 (argT K b))(hs:PlainIx e2:=by exact fun _ _=>rfl):WE X (.Subscript e1 e2 pos) (lift K (dOp [a,b] (o2 fIx))):=⟨cv2 ok_ix (pe_ix (ix_seqD hK) ha.h hb.h hs)⟩
theorem w_dget(hu:X.A.units+1 < cLine)(ha:WE X e1 (argT K a))(hb:WE X e2 (argT K b))(hs:NoSl e2:=by exact fun _ _=>rfl):WE X (.Subscript e1 e2 pos) (lift K (dOp [a,b] (o2 fDGet))):=⟨cv2 ok_dget (pe_dget hu ha.h hb.h hs)⟩
theorem w_tup{k:Nat}(h:WA X es (tArgs (as.map (argT K))))(hl:as.length<=1000:=by decide):WE X (.Tuple es k pos) (lift K (dOpF as fTupD)):=⟨cv_tup hl (pe_tup h.h)⟩
theorem w_lst(h:WA X es (tArgs (as.map (argT K))))(hl:as.length<=1000:=by decide):WE X (.List es pos) (lift K (dOpF as fLstD)):=⟨cv_lst hl (pe_lst h.h)⟩
theorem w_disp(its:List (Key×Sum Nat D))(hn:(its.map (·.1)).Nodup)(hl:its.length<=15)(hc:∀p∈its,∀d,p.2=.inr d->∃n,d=.int n)(h:PE X e (tDisp (its.map fun p=>(tC (kV p.1),itT p.2)))):WE X e (lift K (dDisp its)):=⟨cv_disp its hn hl hc h⟩
theorem w_comp{elt iter:Expr}{ifs:List Expr}{sc:Scope}{own:List Str}{fr:List Nat}{ti:TDI}{g:TDG}(hc:X.calm=true)(S:compOk X.env.scope X.N fr sc=true)(hi:WI X tg iter (liftI K ti))(hg:∀C s H ex,WG (cxComp X own fr sc C s H ex) tg (liftG K g))
  (hif:∀C s H ex,WIf (cxComp X own fr sc C s H ex) ifs (liftT K tc)) (he:∀C s H ex,WE (cxComp X own fr sc C s H ex) elt (lift K te)) (nd:fr.Nodup:=by decide) (hs:notSet iter=true:=by rfl):WE X (.ListComp elt [⟨tg,iter,ifs,0⟩] sc pos) (lift K (dCompC ti own fr g tc te)) :=
 ⟨cv_compC nd (pe_compW hc (compSc_of S) hi.h (fun C s H ex=>(hg C s H ex).h) (fun C s H ex=>(hif C s H ex).h) (fun C s H ex=>(he C s H ex).h) (folded_of hs))⟩
theorem w_m{name:Str}{id:String}{i:Nat}{r:V->List V->Hp->VK->Prop}{f:List D->List D->(D->D->Prop)->Prop}(ok:MOk K r f)(hK:X.K=K)(slot:Slot "list" name id)(hty:typeOf (.builtin id)=pure (.type "method_descriptor"))(hm:MtR X id r)(ho:WE X (.Name x p) (argT K (.inl i)))(ha:WA X (e :: es) (tArgs (as.map (argT K))))
  (hbase:attributeBase (.Name x p) name X.env (eval (.Name x p) X.env)=eval (.Name x p) X.env:=by rfl)
  (hfew:((backTo cpos (starEach (e :: es) X.env)).all (fun x=>!x.1)&&(backToKw cpos (keywordEach [] X.env)).all (fun x=>x.1.isSome)&&decide ((e :: es).length+([]:List Keyword).length+(if ([]:List Keyword).isEmpty then 0 else 1) < 30))=true:=by rfl)
  (hline:(apos.endLine==cpos.line)=true:=by rfl) (he:notStar e=true:=by rfl) (hpl:es.all notStar=true:=by rfl):WE X (.Call (.Attribute (.Name x p) name apos) (e :: es) [] cpos) (lift K (dMeth i as f)):=by
 subst hK
 exact ⟨cv_m ok (pe_bm PySem.F.plainAttrs_list slot hty hm ho.h ha.h hbase hfew hline (starEach_of he) (plain_of hpl))⟩
theorem w_m0{name:Str}{id:String}{i:Nat}{r:V->List V->Hp->VK->Prop}{f:List D->List D->(D->D->Prop)->Prop}(ok:MOk K r f)(hK:X.K=K)(slot:Slot "list" name id)(hty:typeOf (.builtin id)=pure (.type "method_descriptor"))(hm:MtR X id r)(ho:WE X (.Name x p) (argT K (.inl i)))
  (hbase:attributeBase (.Name x p) name X.env (eval (.Name x p) X.env)=eval (.Name x p) X.env:=by rfl) (hline:(apos.endLine==cpos.line)=true:=by rfl):WE X (.Call (.Attribute (.Name x p) name apos) [] [] cpos) (lift K (dMeth i [] f)):=by
 subst hK
 exact ⟨cv_m0 ok (pe_bm0 PySem.F.plainAttrs_list slot hty hm ho.h hbase hline)⟩
theorem t_cmp{op:CmpOp}{r:R2}{f:D->D->(Sl->Prop)->Prop}(ok:OpOk K (r2L r) (o2 f))(ho:OpR X (compareOp op) r)(ha:WE X e1 (argT K a))(hb:WE X e2 (argT K b))(hm:op≠.In:=by decide)(hm2:op≠.NotIn:=by decide):WT X (.Compare e1 [op] [e2] pos) (liftT K (dTst (dOp [a,b] (o2 f)))):=⟨ct2 ok (pt_cmpR ho ha.h hb.h (nomark _ hm hm2))⟩
theorem t_not(h:WT X e (liftT K tc)):WT X (.UnaryOp .Not e pos) (liftT K (dNot tc)):=⟨ct_not (pt_not h.h)⟩
theorem t_and1(h:WT X e (liftT K tc)):WW X (.BoolOp .And [e] pos) (liftT K tc):=⟨pw_and1 h.h⟩
theorem t_or1(h:WT X e (liftT K tc)):WW X (.BoolOp .Or [e] pos) (liftT K tc):=⟨pw_or1 h.h⟩
theorem t_and{rest:List Expr}(ha:WT X e1 (liftT K tc))(hb:WW X (.BoolOp .And (e2 :: rest) pos) (liftT K tc')):WW X (.BoolOp .And (e1 :: e2 :: rest) pos) (liftT K (dAnd tc tc')):=⟨cw_and (pw_and ha.h hb.h)⟩
theorem t_or{rest:List Expr}(ha:WT X e1 (liftT K tc))(hb:WW X (.BoolOp .Or (e2 :: rest) pos) (liftT K tc')):WW X (.BoolOp .Or (e1 :: e2 :: rest) pos) (liftT K (dOr tc tc')):=⟨cw_or (pw_or ha.h hb.h)⟩
theorem t_w{tt:TT}(h:WW X e tt):WT X e tt:=⟨h.h.pt⟩
theorem t_val(h:WE X e (lift K td))(he:∀whole,isTrue e X.env whole=(do let v<-whole;standAt e.pos;holding [v] (truthy v)):=by intro _;rfl):WT X e (liftT K (dTst td)):=⟨ct_val (pt_val h.h he)⟩
theorem g_name{i:Nat}(hN:X.N.Nodup)(hi:X.N[i]?=some x)(hx:Loc X.env.scope x)(hf:X.fn x=true\/X.env.scope.names.lookup x=some .local:=by first|exact .inl rfl|exact .inr rfl|assumption):WG X (.Name x pos) (liftG K (dGN i)):=⟨cg_name (pg_name hN hi hx hf)⟩
theorem gs_nil:WGs X [] (gAll (([]:List TDG).map (liftG K))):=⟨pgs_nil⟩
theorem gs_cons{g:TDG}{gs:List TDG}(h1:WG X e (liftG K g))(h2:WGs X es (gAll (gs.map (liftG K))))(hs:(assignEach (e :: es) X.env).map (·.2)=assign e X.env :: (assignEach es X.env).map (·.2):=by rfl):WGs X (e :: es) (gAll ((g :: gs).map (liftG K))):=⟨cgs_cons h1.h h2.h hs⟩
theorem g_tup{gs:List TDG}{k:Nat}(hK:X.K=K)(hc:X.calm=true)(hh:WGs X es (gAll (gs.map (liftG K))))(hn:(assignEach es X.env).length=gs.length:=by rfl)(hst:(assignEach es X.env).findIdx? (·.1)=none:=by rfl):WG X (.Tuple es k pos) (liftG K (dGT gs)):=⟨cg_tup (pg_tupK hK hc hh.h hn hst) rfl⟩
theorem if0:WIf X [] (liftT K dYes):=⟨cif_nil⟩
theorem i_seq(hK:X.K=K)(hl:WE X e (lift K td)):WI X tg e (liftI K (dISeq td)):=⟨ci_seq hK hl.h⟩
theorem i_rng1(hm:X.mg "range"=none)(ha:WA X [e1] (tArgs ([a].map (argT K))))(hg:Gl X "range":=by rfl)(he:notStar e1=true:=by rfl):WI X tg (.Call (.Name "range" p) [e1] [] pos) (liftI K (dIRng1 a)):=⟨ci_rng1 (pi_range1 hg hm ha.h (by rw[starEach_of he];rfl))⟩
theorem i_rng2(hm:X.mg "range"=none)(ha:WA X [e1,e2] (tArgs ([a,b].map (argT K))))(hg:Gl X "range":=by rfl)(he:notStar e1=true:=by rfl)(he2:notStar e2=true:=by rfl):WI X tg (.Call (.Name "range" p) [e1,e2] [] pos) (liftI K (dIRng2 a b)):=⟨ci_rng2 (pi_range2 hg hm ha.h (by rw[starEach_of he,starEach_of he2];rfl) (by rw[starEach_of he2];rfl))⟩
theorem i_zip2{ts:List Expr}{kk:Nat}(hK:X.K=K)(hm:X.mg "zip"=none)(ha:WA X [e1,e2] (tArgs ([a,b].map (argT K))))(hg:Gl X "zip":=by rfl)(he:notStar e1=true:=by rfl)(hpl:[e2].all notStar=true:=by rfl):WI X (.Tuple ts kk tpos) (.Call (.Name "zip" p) [e1,e2] [] pos) (liftI K (dIZip2 a b)):=⟨ci_zip2 (pi_zip2K hK hg hm ha.h (starEach_of he) (plain_of hpl))⟩
theorem s_nil:WSs X [] (liftS K dNext):=⟨cs_next pss_nil⟩
theorem s_one{tr:TS}(h:WS X st tr):WSs X [st] tr:=⟨pss_one h.h⟩
theorem s_cons(h:WS X st (liftS K t))(h2:WSs X sts (liftS K u)):WSs X (st :: sts) (liftS K (dSeq t u)):=⟨cs_seq (pss_cons h.h h2.h)⟩
theorem s_ret(h:WE X e (lift K td)):WS X (.Return (some e) pos) (liftS K (dRet td)):=⟨cs_ret (ps_ret h.h)⟩
theorem s_retV{i:Nat}(h:WE X e (argT K (.inl i))):WS X (.Return (some e) pos) (liftS K (dRetV i)):=⟨cs_retV (ps_ret h.h)⟩
theorem s_expr(h:WE X e (lift K td))(hs:notComp e=true:=by rfl):WS X (.Expr e pos) (liftS K (dDrop td)):=⟨cs_drop (ps_expr h.h (swaps_of hs))⟩
theorem s_if{sa sb:List Stmt}(hc:WT X e (liftT K tc))(ha:WSs X sa (liftS K t))(hb:WSs X sb (liftS K u)):WS X (.If e sa sb pos) (liftS K (dIfS tc t u)):=⟨cs_if (ps_if hc.h ha.h hb.h)⟩
theorem s_for{iter:Expr}{body:List Stmt}(ks:List Nat){ti:TDI}{g:TDG}(hp:PassesOwn (model X.prog X.w) X.A X.env X.xe)(hc:X.calm=true)(hi:WI X tg iter (liftI K ti))(hg:WG X tg (liftG K g))(hb:WSs X body (liftS K t))(hs:notSet iter=true:=by rfl):WS X (.For tg iter body [] pos) (liftS K (dForC ks ti g t)):=⟨cs_forC ks (ps_for hp hc hi.h hg.h hb.h (folded_of hs))⟩
theorem s_set{i:Nat}(hN:X.N.Nodup)(hi:X.N[i]?=some x)(hx:Loc X.env.scope x)(he:WE X e (lift K td))(hs:notComp e=true:=by rfl)(hf:X.fn x=true\/X.env.scope.names.lookup x=some .local:=by first|exact .inl rfl|exact .inr rfl|assumption):WS X (.Assign [.Name x pos'] e pos) (liftS K (dSet i td)):=⟨cs_set (ps_set hN hi hx he.h (swaps_of hs) hf)⟩
theorem s_move{i j:Nat}(hN:X.N.Nodup)(hi:X.N[i]?=some x)(hx:Loc X.env.scope x)(he:WE X e (argT K (.inl j)))(hs:notComp e=true:=by rfl)(hf:X.fn x=true\/X.env.scope.names.lookup x=some .local:=by first|exact .inl rfl|exact .inr rfl|assumption):WS X (.Assign [.Name x pos'] e pos) (liftS K (dMove i j)):=⟨cs_move (ps_set hN hi hx he.h (swaps_of hs) hf)⟩
theorem s_setC{elt iter:Expr}{ifs:List Expr}{sc:Scope}{own:List Str}{fr:List Nat}{ti:TDI}{g:TDG}{i:Nat}(hN:X.N.Nodup)(hy:X.N[i]?=some x)(hl:X.env.scope.names.lookup x=some .local)(hc:X.calm=true)(S:compOk X.env.scope X.N fr sc=true)(hi:WI X tg iter (liftI K ti))(hg:∀C s H ex,WG (cxComp X own fr sc C s H ex) tg (liftG K g))
  (hif:∀C s H ex,WIf (cxComp X own fr sc C s H ex) ifs (liftT K tc)) (he:∀C s H ex,WE (cxComp X own fr sc C s H ex) elt (lift K te)) (nd:fr.Nodup:=by decide) (hs:notSet iter=true:=by rfl) (hsw:swapsWith (.ListComp elt [⟨tg,iter,ifs,0⟩] sc p) (some (.Name x pos')) pos.line X.env=pure true:=by rfl) :
  WS X (.Assign [.Name x pos'] (.ListComp elt [⟨tg,iter,ifs,0⟩] sc p) pos) (liftS K (dSet i (dCompC ti own fr g tc te))) :=
 ⟨cs_setCC nd (ps_setCompW hN hy hl hc (compSc_of S) hi.h (fun C s H ex=>(hg C s H ex).h) (fun C s H ex=>(hif C s H ex).h) (fun C s H ex=>(he C s H ex).h) hsw (folded_of hs))⟩
theorem s_key{j:Nat}(hu:X.A.units+1 < cLine)(ho:WE X e1 (argT K (.inl j)))(hi:WE X e2 (argT K a))(hv:WE X e (lift K td))(hs:notComp e=true:=by rfl):WS X (.Assign [.Subscript e1 e2 pos'] e pos) (liftS K (dSetKey j a td)):=⟨cs_key (ps_dput hu ho.h hi.h hv.h (swaps_of hs))⟩
theorem s_asgG{g:TDG}(he:WE X e (lift K td))(hg:WG X tg (liftG K g))(hs:swapsWithSole [tg] e pos.line X.env=pure false:=by rfl)(hw:swappedStores [tg] e X.env=pure none:=by rfl)(h1:(assignEach [tg] X.env).map (·.2)=[assign tg X.env]:=by rfl):WS X (.Assign [tg] e pos) (liftS K (dAsgG g td)):=⟨cs_asgG (ps_asg he.h hg.h hs hw h1)⟩
end
section
variable {P:Program}{w:World}{K:Fg}{mg:Str->Option Value}{base:Heap}
theorem wfn{x qual:Str}{st:Stmt}{f:Addr}{fd:FuncData}{N ps:List Str}{k:Nat}{con:Con}{ts:TDS}(F:Fun K x qual st f fd)(S:FnScope N ps (defScope st))
  (hb:∀(cdv:Value) (A:Around) (outer:List Env) (s:Shared) (H:Hp) (E:XK),Room k (A.deeper (envOfC qual (defScope st) s.heap.objs.size f cdv))->WSs (cxOf CX0 P w K mg base N qual (defScope st) f cdv A outer s H E).nox (defBody st) (liftS K ts))
  (hl:∀args Qd,con args Qd->args.length=ps.length) (hc:∀args Qd,con args Qd->(∀s∈args,∀d,s≠.ow d)/\ts (endsOf args Qd) (startE N.length args)):FnOk P w K mg base CX0 (k+1) f fd ps (conSp K con) :=
 dfn F S (fun cdv A outer s H E hr=>(hb cdv A outer s H E hr).h) hl hc
end
end L3
namespace L2
open PySem PySem.Spec PyProof.Rows
theorem plain_upd_loop:plainId "dict.update.loop"=true:=by decide +kernel
theorem entry_upd_loop:entryFor table "dict.update.loop"=some Builtin.«dict.update.loop»:=entryFor_of_tree (by kernel_rfl)
section
variable {prog:Program}{w:World}{A:Around}{E:Value->Shared->Prop}{s:Shared}
end
section
variable {prog:Program}{w:World}{A:Around}{R:Result->Shared->Prop}{I:Addr}{fp wr:List Addr}{n:Nat}{P:Nat->Value->Prop}{St:Nat->Heap->Prop}
end
theorem Vals.getV:∀{xs:List V}{us:List Value}{i:Nat}{u:Value},Vals xs us->us[i]?=some u->∃x,xs[i]?=some x/\RelV x u
 | _,_,0,_,.cons r _,e=>⟨_,rfl,by cases e;exact r⟩
 | _,_,i+1,_,.cons _ t,e=>Vals.getV (i:=i) t e
section
variable {X:Cx}
end
noncomputable abbrev IsZipH(h:Heap)(z TI TO T:Addr)(fl:Bool):Prop :=
 h.get? z=some { cls:=.type "zip",dict:=none,data:=.fields #[rawInt T,.bool fl,.bool false,.ref TI,.ref TO],slots:=#[] }
section
variable {prog:Program}{w:World}{A:Around}{E:Value->Shared->Prop}{s:Shared}
theorem alive{a:Addr}{o:Obj}{Q:Option Obj->Shared->Prop}(ho:s.heap.get? a=some o)(h:Q (some o) s):wpAny (model prog w) A (loadIfAlive a) Q E s:=fun Γ p _=>by
 show Sem.wp _ Γ (.loadIfAlive a fun x=>.pure x) _ _ p s
 rw[Sem.wp_loadIfAlive,ho]
 exact h
theorem notFree{z TI TO T:Addr}{fl:Bool}{ot:Obj}{Q:Bool->Shared->Prop}(hz:IsZipH s.heap z TI TO T fl)(hT:s.heap.get? T=some ot)
  (h:∀h₁,IsZipH h₁ z TI TO T true->Heap.SameBut z s.heap h₁->Q false { s with heap:=h₁ }):wpAny (model prog w) A (Builtin.SmallTypes.ownedTupleIsFree (.ref z)) Q E s:=by
 unfold Builtin.SmallTypes.ownedTupleIsFree
 refine wpAny_bind (wpAny_field hz rfl (x:=rawInt T) rfl ?_)
 show wpAny _ _ (loadIfAlive T >>= _) _ _ _
 refine wpAny_bind (alive hT ?_)
 rw[if_neg (show ¬((some ot).isNone=true) from Bool.false_ne_true)]
 refine wpAny_bind (wpAny_field hz rfl (x:=.bool fl) rfl ?_)
 cases fl with
 | true =>
  rw[if_neg (by decide)]
  exact wpAny_pure (h s.heap hz ⟨rfl,fun _ _=>rfl⟩)
 | false =>
  rw[if_pos (by decide)]
  exact wpAny_bind (wpAny_setField_rec hz (by simp) fun h₁ hz₁ hs₁=>wpAny_pure (h h₁ hz₁ hs₁))
theorem zipn_kept2{z TI TO T i1 i2 l1 l2:Addr}{fl:Bool}{k:Nat}{k1:Kd}{k2:Kd}{xs1 xs2:Array Value}{ot:Obj}{x1 x2:Value}{Q:Value->Shared->Prop}(D:ZAp2 z TI TO i1 i2 l1 l2)
  (hz:IsZipH s.heap z TI TO T fl) (hTI:IsTup2 s.heap TI (.ref i1) (.ref i2)) (hT:s.heap.get? T=some ot)
  (h1:ItAt k1 s.heap i1 l1 k) (h2:ItAt k2 s.heap i2 l2 k) (hl1:SqAt k1 s.heap l1 xs1) (hl2:SqAt k2 s.heap l2 xs2) (hx1:xs1[k]?=some x1) (hx2:xs2[k]?=some x2)
  (hQ:∀h',IsZipH h' z TI TO T true->ItAt k1 h' i1 l1 (k+1)->ItAt k2 h' i2 l2 (k+1)->IsTup2 h' s.heap.objs.size x1 x2->h'.objs.size=s.heap.objs.size+1 ->
    (∀c o,c≠z->c≠i1->c≠i2->s.heap.get? c=some o->h'.get? c=some o)->Q (.ref s.heap.objs.size) { s with heap:=h' }) :
  wpAny (model prog w) A (Builtin.«zip.__next__» ⟨[.ref z],[]⟩) (fun fin s'=>∃v,fin=.done (.ret v)/\Q v s') E s:=by
 show wpAny _ _ (field (.ref z) 2 >>= _) _ _ _
 refine wpAny_bind (wpAny_field hz rfl (x:=.bool false) rfl ?_)
 show wpAny _ _ (field (.ref z) 3 >>= _) _ _ _
 refine wpAny_bind (wpAny_field hz rfl (x:=.ref TI) rfl ?_)
 refine wpAny_bind (wpAny_seqItems hTI rfl ?_)
 show wpAny _ _ (Builtin.SmallTypes.ownedTupleIsFree (.ref z) >>= _) _ _ _
 refine wpAny_bind (notFree hz hT fun h₁ hz₁ hs₁=>?_)
 simp only[Bool.false_eq_true,if_false]
 rw[List.forIn_toArray]
 simp only[List.forIn_cons,List.forIn_nil]
 refine wpAny_bind (wpAny_bind (wpAny_bind (wpAny_holding ?_)))
 show wpAny _ _ (Builtin.SmallTypes.nextOf (.ref i1) >>= _) _ _ _
 refine wpAny_bind (nextOf_item (h1.at fun o e=>hs₁.extBut _ o D.i1z e) (hl1.at fun o e=>hs₁.extBut _ o D.l1z e) hx1 fun ha1 hi1 hsa1=>wpAny_pure (wpAny_pure ?_))
 refine wpAny_bind (wpAny_bind (wpAny_holding ?_))
 show wpAny _ _ (Builtin.SmallTypes.nextOf (.ref i2) >>= _) _ _ _
 refine wpAny_bind (nextOf_item ((h2.at fun o e=>hs₁.extBut _ o D.i2z e).at fun o e=>hsa1.extBut _ o D.i2i1 e) ((hl2.at fun o e=>hs₁.extBut _ o D.l2z e).at fun o e=>hsa1.extBut _ o D.l2i1 e) hx2 fun ha2 hi2 hsa2=>wpAny_pure (wpAny_pure (wpAny_pure ?_)))
 refine wpAny_bind (wpAny_newTuple (hsz:=by show 2<=sizeLine;decide) ?_)
 have hsz:ha2.objs.size=s.heap.objs.size:=by rw[hsa2.1,hsa1.1,hs₁.1]
 have hzG:IsZipH ha2 z TI TO T true:=hsa2.extBut _ _ D.i2z.symm (hsa1.extBut _ _ D.i1z.symm hz₁)
 refine wpAny_pure ⟨_,rfl,?_⟩
 show Q (.ref ha2.objs.size) _
 rw[hsz]
 refine hQ _ (Heap.get?_push_of_some _ hzG) ((hi1.at fun o e=>hsa2.extBut _ o D.i2i1.symm e).at fun o e=>Heap.get?_push_of_some _ e) (hi2.at fun o e=>Heap.get?_push_of_some _ e) ?_ ?_ fun c o c1 d1 d2 e=>Heap.get?_push_of_some _ (hsa2.extBut _ _ d2 (hsa1.extBut _ _ d1 (hs₁.extBut _ _ c1 e)))
 ·rw[<- hsz];exact Heap.get?_push_size _ rfl
 ·rw[Heap.size_push,hsz]
theorem zipn_keptEnd2{z TI TO T i1 i2 l1 l2:Addr}{fl:Bool}{k:Nat}{k1:Kd}{k2:Kd}{xs1 xs2:Array Value}{ot:Obj}{Q:Fin->Shared->Prop}(hh:A.handled=none)(D:ZAp2 z TI TO i1 i2 l1 l2)
  (hz:IsZipH s.heap z TI TO T fl) (hTI:IsTup2 s.heap TI (.ref i1) (.ref i2)) (hT:s.heap.get? T=some ot)
  (h1:ItAt k1 s.heap i1 l1 k) (h2:ItAt k2 s.heap i2 l2 k) (hl1:SqAt k1 s.heap l1 xs1) (hl2:SqAt k2 s.heap l2 xs2) (hend:xs1[k]?=none\/xs2[k]?=none)
  (hE:∀h' e,(∀c o,c≠z->c≠i1->c≠i2->s.heap.get? c=some o->h'.get? c=some o)->(∃o,h'.get? e=some o/\o.cls=.type "StopIteration")->E (.ref e) { s with heap:=h' }) :
  wpAny (model prog w) A (Builtin.«zip.__next__» ⟨[.ref z],[]⟩) Q E s:=by
 show wpAny _ _ (field (.ref z) 2 >>= _) _ _ _
 refine wpAny_bind (wpAny_field hz rfl (x:=.bool false) rfl ?_)
 show wpAny _ _ (field (.ref z) 3 >>= _) _ _ _
 refine wpAny_bind (wpAny_field hz rfl (x:=.ref TI) rfl ?_)
 refine wpAny_bind (wpAny_seqItems hTI rfl ?_)
 show wpAny _ _ (Builtin.SmallTypes.ownedTupleIsFree (.ref z) >>= _) _ _ _
 refine wpAny_bind (notFree hz hT fun h₁ hz₁ hs₁=>?_)
 simp only[Bool.false_eq_true,if_false]
 rw[List.forIn_toArray]
 simp only[List.forIn_cons,List.forIn_nil]
 refine wpAny_bind (wpAny_bind (wpAny_bind (wpAny_holding ?_)))
 show wpAny _ _ (Builtin.SmallTypes.nextOf (.ref i1) >>= _) _ _ _
 cases hx1:xs1[k]? with
 | none =>
  exact wpAny_bind (nextOf_end hh (h1.at fun o e=>hs₁.extBut _ o D.i1z e) (hl1.at fun o e=>hs₁.extBut _ o D.l1z e) hx1 fun hq e hsq he=>hE hq e (fun c o c1 d1 d2 x=>hsq _ _ d1 (hs₁.extBut _ _ c1 x)) he)
 | some x1 =>
  have hx2:xs2[k]?=none:=by
   rcases hend with h|h
   ·rw[hx1]at h;cases h
   ·exact h
  refine wpAny_bind (nextOf_item (h1.at fun o e=>hs₁.extBut _ o D.i1z e) (hl1.at fun o e=>hs₁.extBut _ o D.l1z e) hx1 fun ha1 hi1 hsa1=>wpAny_pure (wpAny_pure ?_))
  refine wpAny_bind (wpAny_bind (wpAny_holding ?_))
  show wpAny _ _ (Builtin.SmallTypes.nextOf (.ref i2) >>= _) _ _ _
  exact wpAny_bind (nextOf_end hh ((h2.at fun o e=>hs₁.extBut _ o D.i2z e).at fun o e=>hsa1.extBut _ o D.i2i1 e) ((hl2.at fun o e=>hs₁.extBut _ o D.l2z e).at fun o e=>hsa1.extBut _ o D.l2i1 e) hx2 fun hq e hsq he=>hE hq e (fun c o c1 d1 d2 x=>hsq _ _ d2 (hsa1.extBut _ _ d1 (hs₁.extBut _ _ c1 x))) he)
end
section
variable {prog:Program}{w:World}{A:Around}{E:Value->Shared->Prop}{s:Shared}
noncomputable def ZSt(h:Heap)(z TI TO S i1 i2 l1 l2:Addr)(k1 k2:Kd)(i:Nat):Prop :=
 IsTup2 h TI (.ref i1) (.ref i2)/\ItAt k1 h i1 l1 i/\ItAt k2 h i2 l2 i /\
  ((IsZip h z TI TO .none/\∃a1 a2,IsTup2 h TO a1 a2)\/∃T fl ot,IsZipH h z TI TO T fl/\h.get? T=some ot/\T≠z/\T≠i1/\T≠i2/\T≠S)
theorem next_kept2{z TI TO S i1 i2 l1 l2:Addr}{k:Nat}{k1 k2:Kd}{xs1 xs2:Array Value}{x1 x2:Value}{Q:Option Value->Shared->Prop}(D:ZAp2 z TI TO i1 i2 l1 l2)(hS:S < s.heap.objs.size)
  (st:ZSt s.heap z TI TO S i1 i2 l1 l2 k1 k2 k) (hl1:SqAt k1 s.heap l1 xs1) (hl2:SqAt k2 s.heap l2 xs2) (hx1:xs1[k]?=some x1) (hx2:xs2[k]?=some x2)
  (hQ:∀h',ZSt h' z TI TO S i1 i2 l1 l2 k1 k2 (k+1)->IsTup2 h' s.heap.objs.size x1 x2->h'.objs.size=s.heap.objs.size+1 ->
    (∀c o,c≠z->c≠TO->c≠i1->c≠i2->s.heap.get? c=some o->h'.get? c=some o)->Q (some (.ref s.heap.objs.size)) { s with heap:=h' }) :
  wpAny (model prog w) A (pyNext (.ref z)) Q E s:=by
 obtain⟨hTI,h1,h2,hz⟩:=st
 have gz:∀{b:Addr}{o:Obj},s.heap.get? b=some o->s.heap.objs.size≠b:=fun e=>Nat.ne_of_gt (Heap.lt_size e)
 obtain⟨o1,g1,_⟩:=h1.obj
 obtain⟨o2,g2,_⟩:=h2.obj
 rcases hz with⟨hz,a1,a2,hTO⟩|⟨T,fl,ot,hz,hT,t1,t2,t3,t4⟩
 ·refine next_zip_item2 D hz hTI hTO h1 h2 hl1 hl2 hx1 hx2 fun h' b1 b2 c1 c2 b5 b6 b7=>hQ h' ⟨b7 TI _ D.TIz (Ne.symm D.TOTI) (Ne.symm D.i1TI) (Ne.symm D.i2TI) hTI,c1,c2,.inr ⟨s.heap.objs.size,false,_,b1,b5,gz hz,gz g1,gz g2,Nat.ne_of_gt hS⟩⟩ b5 b6 b7
 ·have hTy:s.TypeIs (.ref z) "zip":=⟨_,hz,rfl⟩
  unfold pyNext
  exact wpAny_bind (wpAny_attempt (wpAny_callSpecial?_slot (name:=Str.ofString "__next__") hTy F.slot_zip_next
    (wpAny_call_entry F.slot_zip_next hTy F.entry_zip_next (wpAny_mono (zipn_kept2 (Q:=fun v s'=>Q (some v) s') D hz hTI hT h1 h2 hl1 hl2 hx1 hx2 fun h' b1 c1 c2 b5 b6 b7=>hQ h' ⟨b7 TI _ D.TIz (Ne.symm D.i1TI) (Ne.symm D.i2TI) hTI,c1,c2,.inr ⟨T,true,ot,b1,b7 T _ t1 t2 t3 hT,t1,t2,t3,t4⟩⟩ b5 b6 fun c o d1 _ d3 d4 e=>b7 c o d1 d3 d4 e) (fun fin s' z=>by obtain⟨v,rfl,z⟩:=z;exact ⟨_,rfl,wpAny_pure z⟩) fun _ _ z=>z) (F.args_zip_next_1 _))))
theorem next_keptEnd2{z TI TO S i1 i2 l1 l2:Addr}{k:Nat}{k1 k2:Kd}{xs1 xs2:Array Value}{Q:Option Value->Shared->Prop}(hh:A.handled=none)(D:ZAp2 z TI TO i1 i2 l1 l2)
  (st:ZSt s.heap z TI TO S i1 i2 l1 l2 k1 k2 k) (hl1:SqAt k1 s.heap l1 xs1) (hl2:SqAt k2 s.heap l2 xs2) (hend:xs1[k]?=none\/xs2[k]?=none)
  (hQ:∀h',(∀c o,c≠z->c≠TO->c≠i1->c≠i2->s.heap.get? c=some o->h'.get? c=some o)->Q none { s with heap:=h' }):wpAny (model prog w) A (pyNext (.ref z)) Q E s:=by
 obtain⟨hTI,h1,h2,hz⟩:=st
 rcases hz with⟨hz,a1,a2,hTO⟩|⟨T,fl,ot,hz,hT,t1,t2,t3,t4⟩
 ·exact next_zip_end2 hh D hz hTI hTO h1 h2 hl1 hl2 hend hQ
 ·have hTy:s.TypeIs (.ref z) "zip":=⟨_,hz,rfl⟩
  unfold pyNext
  refine wpAny_bind (wpAny_attempt (wpAny_callSpecial?_slot (name:=Str.ofString "__next__") hTy F.slot_zip_next
    (wpAny_call_entry F.slot_zip_next hTy F.entry_zip_next (zipn_keptEnd2 hh D hz hTI hT h1 h2 hl1 hl2 hend fun h' e hk he=>?_) (F.args_zip_next_1 _))))
  obtain⟨o,ho,hc⟩:=he
  refine wpAny_bind (wpAny_isInstance (T:="StopIteration") (b:=true) ⟨o,ho,hc⟩ isSubtype_stop ?_)
  exact wpAny_pure (hQ _ fun c o d1 _ d3 d4 e=>hk c o d1 d3 d4 e)
theorem ZSt.keep{h h':Heap}{z TI TO S i1 i2 l1 l2:Addr}{k1 k2:Kd}{i:Nat}(x:ZSt h z TI TO S i1 i2 l1 l2 k1 k2 i)(hk:∀b o,b≠S->h.get? b=some o->h'.get? b=some o)(n1:z≠S)(n2:TI≠S)(n3:TO≠S)(n4:i1≠S)(n5:i2≠S) :
  ZSt h' z TI TO S i1 i2 l1 l2 k1 k2 i:=by
 obtain⟨hTI,h1,h2,hz⟩:=x
 refine ⟨hk _ _ n2 hTI,h1.at fun o e=>hk _ _ n4 e,h2.at fun o e=>hk _ _ n5 e,?_⟩
 rcases hz with⟨hz,a1,a2,hTO⟩|⟨T,fl,ot,hz,hT,t1,t2,t3,t4⟩
 ·exact .inl ⟨hk _ _ n1 hz,a1,a2,hk _ _ n3 hTO⟩
 ·exact .inr ⟨T,fl,ot,hk _ _ n1 hz,hk _ _ t4 hT,t1,t2,t3,t4⟩
end
structure ZG(xs1 xs2:Array Value)(lo:Addr)(h:Heap)(as:List Addr):Prop where
 rise:as.Pairwise (· < ·)
 above:∀a∈as,lo < a
 pairs:∀(j:Nat) (a:Addr),as[j]?=some a->∃x y,xs1[j]?=some x/\xs2[j]?=some y/\IsTup2 h a x y
section
variable {prog:Program}{w:World}{A:Around}{s:Shared}{R:Result->Shared->Prop}
end
end L2
namespace L3
open PySem PySem.Spec L2
theorem hu2_of{A:Around}{k:Nat}(hr:Room k A):A.units+2 < cLine:=Nat.lt_of_le_of_lt (Nat.add_le_add_left (by decide:2<=64) _) hr.units
noncomputable def sqD:D->Option (List D)
 | .list ds=>some ds
 | .tuple ds=>some ds
 | _=>none
section
variable {K:Fg}{F H:Hp}
theorem At.seq{v:V}{d:D}{ds:List D}(s:Sub F H)(h:At K F H v d)(e:sqD d=some ds):∃k a xs,v=.ref a/\Sq k K H a xs/\DaAll K F xs ds:=by
 cases d<;>first|cases e|skip
 ·obtain⟨a,xs,rfl,e1,d1⟩:=h.list s
  exact ⟨.l,a,xs,rfl,SqL.of e1,d1⟩
 ·obtain⟨a,xs,rfl,_,e1,d1⟩:=h.tuple s
  exact ⟨.t,a,xs,rfl,SqT.of e1,d1⟩
end
section
variable {X:Cx}{K:Fg}{e e1 e2:Expr}{a b:AD}{p pos pos' p2:Pos}
end
noncomputable def notOw(ρ:Ev)(fr:List Nat):Bool:=fr.all fun j=>match ρ[j]? with|some (some t)=>!isOw t|_=>true
theorem notOw_get{ρ:Ev}{fr:List Nat}(h:notOw ρ fr=true){k i:Nat}{s:Sl}(e:fr[k]?=some i)(e2:ρ[i]?=some (some s)):isOw s=false:=by
 have:=List.all_eq_true.mp h i (List.mem_of_getElem? e)
 simpa [e2]using this
noncomputable def dCompN(i:Nat)(own:List Str)(fr:List Nat)(g:TDG)(tc:TTD)(te:TD):TD:=fun ρ Q=>match ρ[i]? with
 | some (some s)=>match s.d with
  | .list ds=>notOw ρ fr=true/\ds.length<=sizeLine/\dCompLC own.length g tc te ds [] (innerE own fr ρ) fun ys _=>noMutAll ys=true/\Q (.ow (.list ys)) ρ
  | _=>False
 | _=>False
section
variable {K:Fg}{G:Gh}{F F' H H':Hp}{σ τ:St}{ρ μ:Ev}{own:List Str}{fr:List Nat}{xs:List Opd}
theorem Rel.innerL(R:Rel K G F σ H ρ)(hn:notOw ρ fr=true):Rel K ⟨H,lend σ ρ xs F H,fun _=>none⟩ (lend σ ρ xs F H) (st0 own σ fr) H (innerE own fr ρ):=by
 have no:∀{j:Nat}{s:Sl},(innerE own fr ρ)[j]?=some (some s)->∃k i d,j=own.length+k/\fr[k]?=some i/\ρ[i]?=some (some (Sl.fz d))/\s=.fz d:=fun {j s} e=>by
  obtain⟨k,i,s0,rfl,h2,h3,h4⟩:=innerE_get e
  rcases h4 with⟨d0,rfl,z⟩|⟨w0,_⟩
  ·exact ⟨k,i,d0,rfl,h2,h3,z⟩
  ·rw[notOw_get hn h2 h3]at w0;cases w0
 exact {
   len:=by simp[st0,frS,innerE]
   sub:=lend_le R
   sub0:=Sub.refl _
   fn:=fun _ _ e=>.inl e
   keep:=fun _ _ e _ _=>e
   tb:=lend_tb R
   fz:=fun j d e=>by
     obtain⟨k,i,d0,rfl,h2,h3,z⟩:=no e
     cases z
     obtain⟨v,e1,e2⟩:=R.fz i d h3
     exact ⟨v,by rw[st0_of h2,e1];rfl,e2.mono (lend_sub R)⟩
   ow:=fun j s e w=>by obtain⟨k,i,d0,rfl,h2,h3,z⟩:=no e;subst z;cases w
   new:=fun j d a e _=>by obtain⟨k,i,d0,rfl,h2,h3,z⟩:=no e;cases z
   io:=fun j a e=>by cases e
   ioi:=fun j d e=>by obtain⟨k,i,d0,rfl,h2,h3,z⟩:=no e;cases z
   ap:=fun j l s t a e1 w1 _ _ _ _=>by obtain⟨k,i,d0,rfl,h2,h3,z⟩:=no e1;subst z;cases w1 }
theorem unlend_tup(R:Rel K G F σ H ρ){σ1:St}{ρ1:Ev}(R':Rel K ⟨H,lend σ ρ xs F H,fun _=>none⟩ F' σ1 H' ρ1):∀b ys,F' b=some (.tup ys)->unlend σ ρ xs F' b=some (.tup ys):=fun b ys e=>by
 have n:¬LentA σ ρ xs b:=fun z=>by
  obtain⟨_,_,o,_,_,_,_,h,w⟩:=z.own R
  have e2:=R'.sub0 b o (by show lend σ ρ xs F H b=some o;rw[lend_is z];exact h)
  rw[e]at e2;cases e2
  exact w
 rw[unlend_not n];exact e
end
theorem l_compN{K:Fg}{i:Nat}{own:List Str}{fr:List Nat}{g:TDG}{tc:TTD}{te:TD}{σ:L2.St}{H:Hp}{Q:VK}(h:lift K (dCompN i own fr g tc te) σ H Q):tCompW (iSeq K (argT K (.inl i))) own fr (liftG K g) (liftT K tc) (lift K te) σ H Q:=by
 obtain⟨G,F,ρ,Qd,R,w,k⟩:=h
 unfold dCompN at w
 split at w
 case h_2=>exact w.elim
 rename_i s es
 split at w
 case h_2=>exact w.elim
 rename_i ds ed
 obtain⟨hno,hz,w1⟩:=w
 have hv:∃a xs,σ[i]?=some (some (V.ref a))/\lend σ ρ [.inl i] F H a=some (.lst xs)/\DaAll K (lend σ ρ [.inl i] F H) xs ds:=by
  have own:isOw s=true->∃a xs,σ[i]?=some (some (V.ref a))/\lend σ ρ [.inl i] F H a=some (.lst xs)/\DaAll K (lend σ ρ [.inl i] F H) xs ds:=fun ws=>by
   obtain⟨b,u,h1,h2,h3,h4⟩:=R.ow i s es ws
   have l:LentA σ ρ [.inl i] b:=⟨i,s,List.mem_singleton.mpr rfl,es,ws,h1⟩
   rw[ed]at h4
   cases u with
   | lst xs=>exact ⟨b,xs,h1,by rw[lend_is l];exact h3,DaAll.mono (lend_sub R) h4⟩
   | _=>exact h4.elim
  cases s with
  | fz d =>
   obtain⟨v,e1,e2⟩:=R.fz i d es
   have ed:d=.list ds:=ed
   rw[ed]at e2
   cases e2 with
   | lst q t=>exact ⟨_,_,e1,lend_sub R _ _ q,t.mono (lend_sub R)⟩
  | ow d=>exact own rfl
  | io d=>exact own rfl
 obtain⟨a,xs,ha,hl,da0⟩:=hv
 have wk:=walks_list (K:=K) hl da0
 have Ri:=R.innerL (xs:=[.inl i]) (own:=own) hno
 refine ⟨_,ha,a,rfl,.inl ⟨⟨xs,SqL.of (lend_le R _ _ hl)⟩,?_⟩⟩
 refine ⟨fun i' m ys τ H2=>m=ds.length - i'/\i'<=ds.length/\∃F' ρ' acc,Rel K ⟨H,lend σ ρ [.inl i] F H,fun _=>none⟩ F' τ H2 ρ'/\DaAll K F' ys acc/\acc.length<=i'/\dCompLC own.length g tc te (ds.drop i') acc ρ' (fun ys _=>noMutAll ys=true/\Qd (.ow (.list ys)) ρ),
   ⟨ds.length,rfl,Nat.zero_le _,_,_,[],Ri,.nil,Nat.zero_le _,w1⟩,?_⟩
 rintro j m ys τ H' ⟨rfl,hi,F',ρ',acc,R',da,hl,w'⟩
 obtain⟨hgo,hst⟩:=wk j H' F' R'.sub0 R'.sub
 cases e:ds[j]? with
 | none =>
  have hl':ds.length<=j:=List.getElem?_eq_none_iff.mp e
  refine .inl ⟨hst (by omega),fun Dd hD=>?_⟩
  rw[List.drop_of_length_le hl']at w'
  obtain⟨hm,w'⟩:=w'
  obtain⟨sb,Ro⟩:=R.called R'
  obtain⟨Rn,rn⟩:=Ro.newOw (o:=.lst ys) (d:=.list acc) hD (DaAll.noMut (unlend_tup R R') da hm)
  exact k _ _ _ _ _ sb Rn rn w'
 | some d =>
  obtain⟨go,yl⟩:=hgo d e
  have hlt:=lt_of_get e
  rw[drop_get e]at w'
  refine .inr ⟨go,by rw[da.length];omega,fun ys2 τ2 H2=>∃F2 ρ2 acc2,Rel K ⟨H,lend σ ρ [.inl i] F H,fun _=>none⟩ F2 τ2 H2 ρ2/\DaAll K F2 ys2 acc2/\acc2.length<=j+1/\dCompLC own.length g tc te (ds.drop (j+1)) acc2 ρ2 (fun ys _=>noMutAll ys=true/\Qd (.ow (.list ys)) ρ),
    fun ys2 τ2 H2 ⟨F2,ρ2,acc2,z1,z2,z3,z4⟩=>⟨ds.length - (j+1),by omega,rfl,hlt,F2,ρ2,acc2,z1,z2,z3,z4⟩,fun x H2 y=>?_⟩
  obtain⟨F2,t1,t2,t3,t4,t5⟩:=yl x H2 y
  have R2:=R'.turn t1 t2 t3 t4
  refine ⟨_,F2,ρ',d,_,R2,t5,w',fun τ3 ρ3 R3 w3=>?_⟩
  refine ⟨_,F2,ρ3,_,R3,w3,fun b H4 F4 ρ4 s4 R4 w4=>?_⟩
  cases b with
  | false=>exact ⟨F4,_,acc,R4.clean _,da.mono (t1.trans s4),by omega,w4⟩
  | true =>
   refine ⟨_,F4,ρ4,_,R4,w4,fun v H5 F5 r ρ5 s5 R5 r5 w5=>?_⟩
   obtain⟨F6,s6,R6,d6⟩:=r5.frz R5
   exact ⟨F6,_,acc++[r.d],R6.clean _,(da.mono (t1.trans (s4.trans (s5.trans s6)))).append (.cons d6 .nil),by simp;omega,w5⟩
section
variable {X:Cx}{K:Fg}{tg e:Expr}{pos:Pos}{tc:TTD}{te:TD}
theorem w_compN{elt iter:Expr}{ifs:List Expr}{sc:Scope}{own:List Str}{fr:List Nat}{i:Nat}{g:TDG}(hK:X.K=K)(hc:X.calm=true)(S:compOk X.env.scope X.N fr sc=true)(hi:WE X iter (argT K (.inl i)))(hg:∀C s H ex,WG (cxComp X own fr sc C s H ex) tg (liftG K g))
  (hif:∀C s H ex,WIf (cxComp X own fr sc C s H ex) ifs (liftT K tc)) (he:∀C s H ex,WE (cxComp X own fr sc C s H ex) elt (lift K te)) (hs:notSet iter=true:=by rfl):WE X (.ListComp elt [⟨tg,iter,ifs,0⟩] sc pos) (lift K (dCompN i own fr g tc te)) :=
 ⟨peM (pe_compW hc (compSc_of S) (pi_seqD hK hi.h) (fun C s H ex=>(hg C s H ex).h) (fun C s H ex=>(hif C s H ex).h) (fun C s H ex=>(he C s H ex).h) (folded_of hs)) l_compN⟩
end
mutual
theorem noMix_self:∀d:D,plainD d=true->SeqAt.noMix d d=true
 | .none,_=>by simp[SeqAt.noMix]
 | .bool _,_=>by simp[SeqAt.noMix]
 | .int _,_=>by simp[SeqAt.noMix]
 | .str _,_=>by simp[SeqAt.noMix]
 | .list xs,h=>by simp[SeqAt.noMix];exact noMixAll_self xs (by simpa [plainD]using h)
 | .tuple xs,h=>by simp[SeqAt.noMix];exact noMixAll_self xs (by simpa [plainD]using h)
 | .dict _,h=>by simp[plainD]at h
theorem noMixAll_self:∀xs:List D,plainAll xs=true->SeqAt.noMixAll xs xs=true
 | [],_=>by simp[SeqAt.noMixAll]
 | x :: xs,h=>by
  simp[plainAll]at h
  simp[SeqAt.noMixAll]
  exact ⟨noMix_self x h.1,noMixAll_self xs h.2⟩
end
structure Nice(n:Nat)(d:D):Prop where
 p:plainD d=true
 c:d.canLay0=true
 d:d.depth<=n
theorem Nice.bool(n:Nat)(i:Bool):Nice n (.bool i):=⟨rfl,by simp[PyData.canLay0],by simp[PyData.depth]⟩
theorem Nice.sh{n:Nat}{d:D}(h:Nice n d)(k:n<=64):SeqAt.shaped d=true:=by
 have:=h.d
 unfold SeqAt.shaped
 rw[h.c]
 simp
 omega
end L3
namespace L2
open PySem PySem.Spec PyProof.Rows
noncomputable def rIsi2(K:PySem.W.Frag):List V->Hp->VK->Prop:=fun xs H Q=>∃(x:V) (k:Ki) (T:Ki),xs=[x,.ty T.nm]/\(KiOf K H x k\/∃a,x=.ref a/\k=.dct/\IsD H a)/\Q (.bl (k.sub T)) H
theorem call_isi2{X:Cx}:CallR X (.builtin "isinstance") (rIsi2 X.K):=by
 intro pins s σ H xs us Q I r h
 obtain⟨x,k,T,rfl,hk,q⟩:=h
 rcases hk with hk|⟨a,rfl,rfl,hd⟩
 ·exact call_isi pins s σ H _ us Q I r ⟨x,k,T,rfl,hk,q⟩
 ·obtain⟨u,w',rfl,ru,rw'⟩:=vals2 r
  obtain rfl:w'=.type T.nm:=rw'
  cases ru
  have ht:s.TypeIs (.ref a) Ki.dct.nm:=(isD_at I hd).1
  cases hs:Ki.dct.sub T with
  | true =>
   rw[hs]at q
   exact call_isinstance (isinstance_true (Tx:=Ki.dct.nm) (ki_meta T) (by rw[ki_sub,hs])) ⟨ht,.bl true,H,I,rfl,q⟩
  | false =>
   rw[hs]at q
   have hsub:isSubtype (.type Ki.dct.nm) (.type T.nm)=pure false:=by rw[ki_sub,hs]
   have hne:=ki_ne Ki.dct T hs
   have fin:EP X pins σ Q (.bool false) { s with toks:=s.toks+1 }:=⟨.bl false,H,I.tok _,rfl,q⟩
   exact call_isinstance (isinstance_false_dict hne (ki_meta T) hsub) ⟨ht,fin⟩
inductive PrsT (H:Hp):List (V×V)->List (List Key×V)->Prop
 | nil:PrsT H [] []
 | cons {b ks v ps kvs}:H b=some (.tup (ks.map kV))->PrsT H ps kvs->PrsT H ((.ref b,v) :: ps) ((ks,v) :: kvs)
section
variable {X:Cx}{pins:List (Addr×Obj)}{σ:St}{a:Addr}{E:Value->Shared->Prop}
end
end L2
namespace L3
open PySem PySem.Spec PyProof.Rows L2
noncomputable def notScr:List (D×D)->Bool
 | (.none,_) :: _=>false
 | (.bool _,_) :: _=>false
 | _=>true
noncomputable def dNever:TDS:=fun _ _=>False
noncomputable def fIsiA(T:Ki):D->(Sl->Prop)->Prop
 | .dict es,Q=>notScr es=true/\Q (.fz (.bool (Ki.dct.sub T)))
 | d,Q=>Q (.fz (.bool ((kiD d).sub T)))
theorem At.isD{K:Fg}{F H:Hp}{v:V}{es:List (D×D)}(s:Sub F H)(h:At K F H v (.dict es))(hn:notScr es=true):∃a,v=.ref a/\IsD H a:=by
 rcases h with h|⟨a,o,rfl,_,e,h⟩
 ·cases h with
  | dk r t=>exact ⟨_,rfl,.inl ⟨_,s.rd r⟩⟩
  | dt r t=>exact ⟨_,rfl,.inr ⟨_,s.rd r⟩⟩
  | scr q=>simp[notScr]at hn
  | exc q=>simp[notScr]at hn
  | lam q _=>simp[notScr]at hn
  | opq q=>simp[notScr]at hn
  | pd q t=>simp[notScr]at hn
  | bd q t=>simp[notScr]at hn
 ·cases o with
  | ext φ=>rcases h.ext with⟨a',ep,xs,ps,z,z2,t⟩|⟨a',ep,xs,ps,z,z2,t⟩<;>(injection z2 with z2;rw[z2]at hn;simp[notScr]at hn)
  | _=>first|exact h.elim|exact ⟨_,rfl,.inl ⟨_,.inl e⟩⟩|exact ⟨_,rfl,.inr ⟨_,.inl e⟩⟩
theorem ok_isiA{K:Fg}{T:Ki}:OpOk K (fun vs H Q=>∃x,vs=[x]/\rIsi2 K [x,.ty T.nm] H Q) (o1 (fIsiA T)):=ok1 fun G F σ H ρ x d Q Qd R h1 w k=>by
 have go:∀(ki:Ki),KiOf K H x ki->Qd (.fz (.bool (ki.sub T)))->∃x',[x]=[x']/\rIsi2 K [x',.ty T.nm] H Q:=fun ki h w=>⟨x,rfl,x,ki,T,rfl,.inl h,k _ H F (.fz _) (Sub.refl _) R (Da.bl _) w⟩
 match d,h1,w with
 | .none,h1,w=>cases h1.none;exact go .non rfl w
 | .bool b,h1,w=>cases h1.bool;exact go .bl rfl w
 | .int i,h1,w=>cases h1.int;exact go .int rfl w
 | .str z,h1,w=>cases h1.str;exact go .str rfl w
 | .list ds,h1,w =>
  obtain⟨a,us,rfl,e1,d1⟩:=h1.list R.sub
  exact go .lst (.inl ⟨rfl,us,SqL.of e1⟩) w
 | .tuple ds,h1,w =>
  obtain⟨a,us,rfl,_,e1,d1⟩:=h1.tuple R.sub
  exact go .tup (.inr (.inl ⟨rfl,us,SqT.of e1⟩)) w
 | .dict es,h1,w =>
  obtain⟨a,rfl,hd⟩:=h1.isD R.sub w.1
  exact ⟨_,rfl,_,.dct,T,rfl,.inr ⟨a,rfl,rfl,hd⟩,k _ H F (.fz _) (Sub.refl _) R (Da.bl _) w.2⟩
noncomputable def dPar(i j:Nat)(ta tb:TD):TDS:=fun E ρ=>ta ρ fun r ρ1=>tb ρ1 fun q ρ2=>match ρ2[i]? with
 | some (some (.io _))=>False
 | some _=>(match (ρ2.set i (some (.fz r.d)))[j]? with
   | some (some (.io _))=>False
   | some _=>E.nx ((ρ2.set i (some (.fz r.d))).set j (some (.fz q.d)))
   | none=>False)
 | none=>False
theorem l_par{K:Fg}{i j:Nat}{ta tb:TD}{E:Ends}{σ:L2.St}{H:Hp}(h:liftS K (dPar i j ta tb) E σ H):tPar i j (tArgs ([Sum.inr ta,Sum.inr tb].map (argT K))) E σ H:=by
 obtain⟨G,F,ρ,D,R,w,n,_⟩:=h
 refine ⟨G,F,ρ,_,R,w,fun v H1 F1 r ρ1 s1 R1 r1 w1=>?_⟩
 obtain⟨F2,s2,R2,d2⟩:=r1.frz R1
 refine ⟨G,F2,ρ1,_,R2,w1,fun u H3 F3 q ρ3 s3 R3 r3 w3=>?_⟩
 obtain⟨F4,s4,R4,d4⟩:=r3.frz R3
 obtain⟨hi,w3⟩:=noIo_of w3
 obtain⟨hj,w3⟩:=noIo_of w3
 have R5:=R4.asg (s:=.fz r.d) hi (d2.mono (s3.trans s4))
 have R6:=R5.asg (s:=.fz q.d) hj d4
 exact ⟨v,u,rfl,n _ H3 F4 _ (s1.trans (s2.trans (s3.trans s4))) R6 w3⟩
section
variable {X:Cx}{K:Fg}{e e1 e2:Expr}{a b:AD}{ta tb:TD}{st:Stmt}{p pos p2 pos' px py pt:Pos}{x y:Str}
theorem s_never:WS X st (liftS K dNever):=⟨fun pins s σ H D I h=>by obtain⟨G,F,ρ,E,R,w,_⟩:=h;exact w.elim⟩
theorem w_isiA(T:Ki)(hK:X.K=K)(hm:X.mg "isinstance"=none){y:Str}(hm2:X.mg y=none)(hv2:bootBuiltins y=some (.type T.nm))(ha:WE X e1 (argT K a))(hg:Gl X "isinstance":=by rfl)(hg2:Gl X y:=by rfl)(hy:y ≠ "__name__":=by decide)(hy2:(y==("__debug__":Str))=false:=by decide)(he:notStar e1=true:=by rfl) :
  WE X (.Call (.Name "isinstance" p) [e1,.Name y p2] [] pos) (lift K (dOp [a] (o1 (fIsiA T)))):=by
 subst hK
 exact ⟨peM (pe_callB call_isi2 hg hm boot_isinstance (pa_cons ha.h (pa_cons (pe_bltn hg2 hm2 hv2 (v:=.ty T.nm) rfl hy hy2) pa_nil (starEach_of rfl)) (starEach_of he)) (by decide) (by decide) (starEach_of he) (plain_of rfl)) fun q=>arg1 (P:=fun x H1=>rIsi2 X.K [x,.ty T.nm] H1 _) (l_op ok_isiA q)⟩
theorem s_par{i j:Nat}{kt k2 pt2}(hc:X.calm=true)(hN:X.N.Nodup)(hi:X.N[i]?=some x)(hj:X.N[j]?=some y)(hij:i≠j)
  (hx:X.env.scope.names.lookup x=some .local) (hy:X.env.scope.names.lookup y=some .local) (ha:WE X e1 (lift K ta)) (hb:WE X e2 (lift K tb))
  (hw:swappedStores [.Tuple [.Name x px,.Name y py] kt pt] (.Tuple [e1,e2] k2 pt2) X.env=pure (some [x,y]):=by rfl)
  (hs:swapsWithSole [.Tuple [.Name x px,.Name y py] kt pt] (.Tuple [e1,e2] k2 pt2) pos.line X.env=pure false:=by rfl) (h1:notStar e1=true:=by rfl) (h2:notStar e2=true:=by rfl) :
  WS X (.Assign [.Tuple [.Name x px,.Name y py] kt pt] (.Tuple [e1,e2] k2 pt2) pos) (liftS K (dPar i j ta tb)) :=
 ⟨psM (ps_par hc hN hi hj hij hx hy (wa_cons (wx ha) (wa_cons (wx hb) wa_nil h2) h1).h hw hs) l_par⟩
end
end L3
namespace L2
open PySem PySem.Spec PyProof.Rows
section
variable {X:Cx}
end
end L2
namespace L3
open PySem PySem.Spec PyProof.Rows L2
section
variable {X:Cx}{K:Fg}{x:Str}{pos:Pos}
theorem w_gint{n:Int}(hm:∃t,X.mg x=some (.int n t))(hg:Gl X x:=by rfl)(hd:(x==("__debug__":Str))=false:=by decide):WE X (.Name x pos) (lift K (dC (.int n))):=by
 obtain⟨t,hm⟩:=hm
 exact ⟨cv_c (fun _=>.int _) (pe_glob hg hm ⟨t,rfl⟩ hd)⟩
end
end L3
namespace L2
open PySem PySem.Spec PyProof.Rows
noncomputable def tyLT:Obj:={ cls:=.type "tuple",data:=.seq #[.type "list",.type "tuple"] }
noncomputable def tTyT:TE:=fun _ H Q=>∀p,H p=none->Q (.ref p) (upd H p (.frz tyLT (.tup [.ty "list",.ty "tuple"])))
theorem pe_tyT{X:Cx}{p2 p3 pos:Pos}{k:Nat}(hm1:X.mg "list"=none)(hm2:X.mg "tuple"=none)(hg1:Gl X "list")(hg2:Gl X "tuple"):PE X (.Tuple [.Name "list" p2,.Name "tuple" p3] k pos) tTyT:=by
 intro pins s σ H Q I hq
 have h:PA X [.Name "list" p2,.Name "tuple" p3] (tCons (tC (.ty "list")) (tCons (tC (.ty "tuple")) tNil)) :=
  pa_cons (pe_bltn hg1 hm1 boot_list (v:=.ty "list") rfl) (pa_cons (pe_bltn hg2 hm2 boot_tuple (v:=.ty "tuple") rfl) pa_nil (L3.starEach_of rfl)) (L3.starEach_of rfl)
 refine wpAny_Tuple_spliced (thn (h pos pins s σ H (fun xs H1=>xs=[.ty "list",.ty "tuple"]/\H1=H) I ⟨rfl,rfl⟩) fun us s1 ⟨xs,H1,I1,r,ex,eH⟩=>?_)
 subst ex eH
 have r0:=r
 obtain⟨u1,u2,rfl,r1,r2⟩:=vals2 r
 obtain rfl:u1=.type "list":=r1
 obtain rfl:u2=.type "tuple":=r2
 have z:([V.ty "list",V.ty "tuple"]:List V).length<=sizeLine:=by show 2<=sizeLine;decide
 refine ⟨by show 2<=sizeLine;decide,?_⟩
 have hf:=I1.hok.fresh (Nat.le_refl s1.heap.objs.size)
 exact ⟨.ref s1.heap.objs.size,upd H1 s1.heap.objs.size (.frz tyLT (.tup [.ty "list",.ty "tuple"])),I1.laid (t':=s1.toks) (fun b u e=>Heap.get?_push_of_some _ e) (Nat.le_refl _) ⟨Heap.get?_push_size _ rfl,z,_,r0,⟨_,Heap.get?_push_size _ rfl,rfl,_,rfl,rfl⟩⟩,rfl,hq _ hf⟩
end L2
namespace L3
open PySem PySem.Spec PyProof.Rows L2
section
variable {X:Cx}{K:Fg}{e1:Expr}{a:AD}{p pos p2 p3 p4:Pos}
end
end L3
namespace L2
open PySem PySem.Spec PyProof.Rows
noncomputable def unV:V->Int
 | .int i=>i
 | _=>0
theorem unV_ints(l:List Int):(l.map V.int).map unV=l:=by rw[List.map_map];exact List.map_id l
noncomputable def evT(H:Hp)(p:List Int)(y:Value):Bool:=@decide (∃c,y=.ref c/\H c=some (.tup (p.map V.int))) (Classical.propDecidable _)
end L2
namespace L3
open PySem PySem.Spec PyProof.Rows L2
theorem DaAll.ints_of{K:Fg}{F:Hp}{ys:List V}{p:List Int}(h:DaAll K F ys (p.map PyData.int)):ys=p.map V.int:=by
 have e:p.map PyData.int=(p.map fun n=>(.inl n:Key)).map keyD:=by rw[List.map_map];rfl
 rw[e]at h
 have:=h.keys
 rw[this,List.map_map];rfl
open PySem PySem.Spec L2
section
variable {K:Fg}{G:Gh}{F F' H H':Hp}{σ:L2.St}{ρ:Ev}
theorem Rel.grown(R:Rel K G F σ H ρ)(sb:Sub F F')(su:Sub F' H')(fn:∀b o,F' b=some o->F b=some o\/H b=none)(kp:∀b o,(∀z∈TB K,z.1≠b)->H b=some o->H' b=some o)(tb:TabOk K F' H'):Rel K G F' σ H' ρ:=by
 refine ⟨R.len,su,R.sub0.trans sb,fun b o e=>?_,fun a o e n t=>kp _ _ t (R.keep a o e n t),tb,fun i d e=>?_,fun i s e w=>?_,R.new,R.io,R.ioi,R.ap⟩
 ·rcases fn b o e with q|q
  ·exact R.fn b o q
  ·exact .inr (R.h0 q)
 ·obtain⟨v,h1,h2⟩:=R.fz i d e
  exact ⟨v,h1,h2.mono sb⟩
 ·obtain⟨a,o,h1,h2,h3,h4⟩:=R.ow i s e w
  refine ⟨a,o,h1,?_,kp _ _ (R.tb.ne fun u z=>by rw[h3]at z;cases z;exact h4.stk) h3,h4.mono sb⟩
  cases q:F' a with
  | none=>rfl
  | some u =>
   rcases fn a u q with z|z
   ·rw[h2]at z;cases z
   ·rw[h3]at z;cases z
noncomputable def okRes:Sl->Bool
 | .fz d=>noMut d
 | .ow (.list ds)=>noMutAll ds
 | _=>false
noncomputable def dCallL(con:Con)(as:List AD):TD:=fun ρ Q=>dArgs as ρ fun xs ρ1=>looksQ ρ1 xs fun ds=>con (ds.map Sl.fz) fun r _=>okRes r=true/\Q r ρ1
theorem Res.calledL{xs:List Opd}(R:Rel K G F σ H ρ){σ1:L2.St}{ρ1:Ev}{v:V}{r:Sl}(R':Rel K ⟨H,lend σ ρ xs F H,fun _=>none⟩ F' σ1 H' ρ1)(q:Res K ⟨H,lend σ ρ xs F H,fun _=>none⟩ F' H' σ1 ρ1 v r)
  (hl:okRes r=true):Res K G (unlend σ ρ xs F') H' σ ρ v r:=by
 have tp:∀b ys,F' b=some (.tup ys)->unlend σ ρ xs F' b=some (.tup ys):=fun b ys e=>by
  have n:¬LentA σ ρ xs b:=fun z=>by
   obtain⟨_,_,o,_,_,_,_,h,w⟩:=z.own R
   have e2:=R'.sub0 b o (by show lend σ ρ xs F H b=some o;rw[lend_is z];exact h)
   rw[e]at e2;cases e2
   exact w
  rw[unlend_not n];exact e
 cases r with
 | fz d=>exact Da.noMut tp q hl
 | io d=>exact q.elim
 | ow d =>
  obtain⟨a,o,h1,h2,h3,h4,h5,_⟩:=q
  have h5:H a=none:=h5
  have nl:¬LentA σ ρ xs a:=fun z=>by
   obtain⟨_,_,o,_,_,_,_,h,w⟩:=z.own R
   rw[h5]at h;cases h
  refine ⟨a,o,h1,by rw[unlend_not nl];exact h2,h3,?_,R.h0 h5,fun i s es w z=>?_⟩
  ·cases d with
   | list ds =>
    cases o with
    | lst ys=>exact DaAll.noMut tp h4 hl
    | _=>exact h4.elim
   | _=>cases hl
  ·obtain⟨a',o',g1,_,g3,_⟩:=R.ow i s es w
   rw[z]at g1;cases g1
   rw[h5]at g3;cases g3
theorem l_callL{con:Con}{as:List AD}{E:XK}{Q:VK}(h:lift K (dCallL con as) σ H Q):tCall (conSp K con) [] E (tArgs (as.map (argT K))) σ H Q:=by
 obtain⟨G,F,ρ,Qd,R,w,k⟩:=h
 refine args_ok R w fun vs H1 F1 xs ρ1 s1 R1 o w1=>?_
 obtain⟨ds,da,w1⟩:=lend_looks (xs:=xs) R1 (fun y hy=>hy) o w1
 rw[List.append_nil]
 refine ⟨_,_,ds.map Sl.fz,_,rel_call (lend_le R1) (lend_tb R1) da,w1,fun v H' F' r ρ' s' R' r' q=>?_⟩
 obtain⟨sb,R2⟩:=R1.called R'
 exact k v H' _ r ρ1 (s1.trans sb) R2 (Res.calledL R1 R' r' q.1) q.2
end
section
variable {X:Cx}{K:Fg}{e:Expr}{es:List Expr}{as:List AD}{x:Str}{p pos:Pos}
theorem w_fnL{k:Nat}{ps:List Str}{con:Con}(C:Cal X.prog X.w X.K X.mg X.base k x ps (conSp K con))(hr:Room k X.A)(ha:WA X (e :: es) (tArgs (as.map (argT K))))(hg:Gl X x:=by rfl)(hdb:(x==("__debug__":Str))=false:=by decide)
  (he:notStar e=true:=by rfl) (hpl:es.all notStar=true:=by rfl):WE X (.Call (.Name x p) (e :: es) [] pos) (lift K (dCallL con as)):=⟨peM (pe_fn C hr ha.h hg hdb (starEach_of he) (plain_of hpl)) l_callL⟩
end
end L3
namespace SG
open PySem PyProof.Rows
noncomputable def gal:Bool->Keyed->Array Keyed->Nat->Nat->Nat->StateT SortSt Sem (Option Nat):=sortPriv% PySem.Builtin.gallop
noncomputable def mLo:Array Keyed->Array Keyed->StateT SortSt Sem (Array Keyed):=sortPriv% PySem.Builtin.mergeLo
noncomputable def mHi:Array Keyed->Array Keyed->StateT SortSt Sem (Array Keyed):=sortPriv% PySem.Builtin.mergeHi
noncomputable abbrev setG(z:SortSt)(g:Nat):SortSt:=SortSt.mk' (kindOf z) (arrOf z) (pendingOf z) g (failedOf z)
theorem gal_eq(lf:Bool)(ky:Keyed)(xs:Array Keyed)(bs n ht:Nat):gal lf ky xs bs n ht=(do
    let ov (i:Nat):StateT SortSt Sem (Option Bool):=do
      let z<-elem' xs (bs+i)
      if lf then lt' z ky else return (<- lt' ky z).map (!·)
    let mut la:=0
    let mut o:=1
    let mut l:=0
    let mut h:=0
    let some rt<-ov ht|return none
    if rt then
      let mx:=n - ht
      for _ in [0:n] do
        if o ≥ mx then break
        let some mo<-ov (ht+o)|return none
        if !mo then break
        la:=o
        o:=2 * o+1
      l:=ht+la+1
      h:=ht+min o mx
    else
      let mx:=ht+1
      for _ in [0:n] do
        if o ≥ mx then break
        let some fo<-ov (ht - o)|return none
        if fo then break
        la:=o
        o:=2 * o+1
      l:=ht+1 - min o mx
      h:=ht - la
    for _ in [0:n] do
      if l ≥ h then break
      let m:=l+(h - l) / 2
      let some mo<-ov m|return none
      if mo then l:=m+1 else h:=m
    return some h):=rfl
section
variable {prog:Program}{w:World}{A:Around}{E:Value->Shared->Prop}{s:Shared}{κ:SortKind}{rk:Keyed->Nat}{S:Keyed->Prop}
noncomputable def Asks(prog:Program)(w:World)(A:Around)(s:Shared)(κ:SortKind)(rk:Keyed->Nat)(S:Keyed->Prop):Prop :=
 ∀x y:Keyed,S x->S y->∀Q:Bool->Shared->Prop,Q (decide (rk x < rk y)) s->wpAny (model prog w) A (keyLt' κ x.1 y.1) Q (fun _ _=>False) s
theorem w_lt(q:Asks prog w A s κ rk S){x y:Keyed}{st:SortSt}{Q:Option Bool->SortSt->Prop}(hk:kindOf st=κ)(hx:S x)(hy:S y)(h:Q (some (decide (rk x < rk y))) st) :
  wpS (model prog w) A E s (lt' x y) Q st:=by
 rw[lt'_eq]
 refine wpS_bind (wpS_get ?_)
 rw[hk]
 refine wpS_bind (wpS_lift (wpAny_attempt (wpAny_mono (q x y hx hy (fun b s'=>b=decide (rk x < rk y)/\s'=s) ⟨rfl,rfl⟩) (fun b s' e=>?_) fun _ _ e=>e.elim)))
 obtain⟨rfl,rfl⟩:=e
 exact ⟨rfl,wpS_pure h⟩
theorem w_elem{xs:Array Keyed}{i:Nat}{st:SortSt}{Q:Keyed->SortSt->Prop}(hi:i < xs.size)(h:Q xs[i] st):wpS (model prog w) A E s (elem' xs i) Q st:=by
 rw[elem'_eq,getElem?_pos xs i hi]
 exact wpS_pure h
noncomputable def Ov(prog:Program)(w:World)(A:Around)(E:Value->Shared->Prop)(s:Shared)(n:Nat)(b:Nat->Bool)(st:SortSt)(ov:Nat->StateT SortSt Sem (Option Bool)):Prop :=
 ∀i,i < n->∀Q:Option Bool->SortSt->Prop,Q (some (b i)) st->wpS (model prog w) A E s (ov i) Q st
noncomputable def binL(ov:Nat->StateT SortSt Sem (Option Bool))(n l₀ h₀:Nat):StateT SortSt Sem (Option Nat):=do
 let mut l:=l₀
 let mut h:=h₀
 for _ in [0:n] do
  if l ≥ h then break
  let m:=l+(h - l) / 2
  let some mo<-ov m|return none
  if mo then l:=m+1 else h:=m
 return some h
theorem w_bin{ov:Nat->StateT SortSt Sem (Option Bool)}{n l h':Nat}{b:Nat->Bool}{st:SortSt}{Q:Option Nat->SortSt->Prop}(hO:Ov prog w A E s n b st ov)
  (hm:∀i j,i<=j->j < n->b j=true->b i=true) (h1:l<=h') (h2:h'<=n) (h3:∀i,i < l->b i=true) (h4:∀i,h'<=i->i < n->b i=false)
  (h:∀k,k<=n->(∀i,i < k->b i=true)->(∀i,k<=i->i < n->b i=false)->Q (some k) st):wpS (model prog w) A E s (binL ov n l h') Q st:=by
 unfold binL
 refine wpS_bind (wpS_mono (wpS_forRange (I:=fun x c st'=>st'=st/\∃l h',c=(none,l,h')/\l<=h'/\h'<=n/\h' - l<=n - x/\(∀i,i < l->b i=true)/\∀i,h'<=i->i < n->b i=false)
   (Q:=fun c st'=>st'=st/\∃k,c=(none,k,k)/\k<=n/\(∀i,i < k->b i=true)/\∀i,k<=i->i < n->b i=false) ?step ?fin ⟨rfl,l,h',rfl,h1,h2,by omega,h3,h4⟩) ?post)
 case fin =>
  rintro c st' ⟨rfl,l,h',rfl,a1,a2,a3,a4,a5⟩
  have:l=h':=by omega
  subst this
  exact ⟨rfl,l,rfl,a2,a4,a5⟩
 case post =>
  rintro c st' ⟨rfl,k,rfl,a1,a2,a3⟩
  exact wpS_pure (h k a1 a2 a3)
 case step =>
  rintro x c st' _ hx ⟨rfl,l,h',rfl,a1,a2,a3,a4,a5⟩
  dsimp only
  by_cases hge:l ≥ h'
  ·rw[if_pos hge]
   have:l=h':=by omega
   subst this
   exact wpS_pure ⟨rfl,l,rfl,a2,a4,a5⟩
  ·rw[if_neg hge]
   refine wpS_bind (hO _ (by omega) _ ?_)
   cases hb:b (l+(h' - l) / 2) with
   | true =>
    refine wpS_pure ⟨rfl,_,_,rfl,by omega,a2,by omega,fun i hi=>hm _ _ (by omega) (by omega) hb,a5⟩
   | false =>
    refine wpS_pure ⟨rfl,_,_,rfl,by omega,by omega,by omega,a4,fun i i1 i2=>?_⟩
    cases hbi:b i with
    | false=>rfl
    | true=>rw[hm _ _ i1 i2 hbi]at hb;cases hb
theorem w_gal{lf:Bool}{ky:Keyed}{xs:Array Keyed}{bs n ht:Nat}{st:SortSt}{Q:Option Nat->SortSt->Prop}{b:Nat->Bool}
  (hO:Ov prog w A E s n b st (fun i=>do
    let z<-elem' xs (bs+i)
    if lf then lt' z ky else return (<- lt' ky z).map (!·)))
  (hm:∀i j,i<=j->j < n->b j=true->b i=true) (hh:ht < n)
  (h:∀k,k<=n->(∀i,i < k->b i=true)->(∀i,k<=i->i < n->b i=false)->Q (some k) st):wpS (model prog w) A E s (gal lf ky xs bs n ht) Q st:=by
 rw[gal_eq]
 generalize hov:(fun i=>(do
     let z<-elem' xs (bs+i)
     if lf then lt' z ky else return (<- lt' ky z).map (!·):StateT SortSt Sem (Option Bool)))=ov at hO
 dsimp only
 clear hov
 refine wpS_bind (hO ht hh _ ?_)
 cases hb:b ht with
 | true =>
  dsimp only
  rw[if_pos rfl]
  refine wpS_bind (wpS_mono (wpS_forRange (I:=fun x c st'=>st'=st/\∃la o:Nat,c=(none,la,o)/\la < o/\x+1<=o/\ht+la < n/\b (ht+la)=true)
    (Q:=fun c st'=>st'=st/\∃la o:Nat,c=(none,la,o)/\la < o/\ht+la < n/\b (ht+la)=true/\(n - ht<=o\/b (ht+o)=false)) ?step ?fin ⟨rfl,0,1,rfl,by omega,by omega,by omega,hb⟩) ?post)
  case fin =>
   rintro c st' ⟨rfl,la,o,rfl,a1,a2,a3,a4⟩
   exact ⟨rfl,la,o,rfl,a1,a3,a4,.inl (by omega)⟩
  case step =>
   rintro x c st' _ hx ⟨rfl,la,o,rfl,a1,a2,a3,a4⟩
   dsimp only
   by_cases hge:o ≥ n - ht
   ·rw[if_pos hge]
    exact wpS_pure ⟨rfl,la,o,rfl,a1,a3,a4,.inl hge⟩
   ·rw[if_neg hge]
    refine wpS_bind (hO _ (by omega) _ ?_)
    cases hbo:b (ht+o) with
    | true=>exact wpS_pure ⟨rfl,o,2 * o+1,rfl,by omega,by omega,by omega,hbo⟩
    | false=>exact wpS_pure ⟨rfl,la,o,rfl,a1,a3,a4,.inr hbo⟩
  case post =>
   rintro c st' ⟨rfl,la,o,rfl,a1,a3,a4,a5⟩
   refine w_bin hO hm (l:=ht+la+1) (h':=ht+min o (n - ht)) (by omega) (by omega) (fun i hi=>hm _ _ (by omega) a3 a4) (fun i i1 i2=>?_) h
   rcases a5 with a5|a5
   ·omega
   ·cases hbi:b i with
    | false=>rfl
    | true=>rw[hm (ht+o) i (by omega) i2 hbi]at a5;cases a5
 | false =>
  dsimp only
  rw[if_neg (by decide)]
  refine wpS_bind (wpS_mono (wpS_forRange (I:=fun x c st'=>st'=st/\∃la o:Nat,c=(none,la,o)/\la < o/\x+1<=o/\la<=ht/\b (ht - la)=false)
    (Q:=fun c st'=>st'=st/\∃la o:Nat,c=(none,la,o)/\la < o/\la<=ht/\b (ht - la)=false/\(ht+1<=o\/b (ht - o)=true)) ?step2 ?fin2 ⟨rfl,0,1,rfl,by omega,by omega,by omega,hb⟩) ?post2)
  case fin2 =>
   rintro c st' ⟨rfl,la,o,rfl,a1,a2,a3,a4⟩
   exact ⟨rfl,la,o,rfl,a1,a3,a4,.inl (by omega)⟩
  case step2 =>
   rintro x c st' _ hx ⟨rfl,la,o,rfl,a1,a2,a3,a4⟩
   dsimp only
   by_cases hge:o ≥ ht+1
   ·rw[if_pos hge]
    exact wpS_pure ⟨rfl,la,o,rfl,a1,a3,a4,.inl hge⟩
   ·rw[if_neg hge]
    refine wpS_bind (hO _ (by omega) _ ?_)
    cases hbo:b (ht - o) with
    | false=>exact wpS_pure ⟨rfl,o,2 * o+1,rfl,by omega,by omega,by omega,hbo⟩
    | true=>exact wpS_pure ⟨rfl,la,o,rfl,a1,a3,a4,.inr hbo⟩
  case post2 =>
   rintro c st' ⟨rfl,la,o,rfl,a1,a3,a4,a5⟩
   have up:∀i,ht - la<=i->i < n->b i=false:=fun i i1 i2=>by
    cases hbi:b i with
    | false=>rfl
    | true=>rw[hm (ht - la) i i1 i2 hbi]at a4;cases a4
   refine w_bin hO hm (l:=ht+1 - min o (ht+1)) (h':=ht - la) (by omega) (by omega) (fun i hi=>?_) up h
   rcases a5 with a5|a5
   ·omega
   ·exact hm _ (ht - o) (by omega) (by omega) a5
theorem w_gallop(q:Asks prog w A s κ rk S){lf:Bool}{ky:Keyed}{xs:Array Keyed}{bs n ht:Nat}{st:SortSt}{Q:Option Nat->SortSt->Prop}(hk:kindOf st=κ)(hy:S ky)(hS:∀i (h:i < xs.size),S xs[i])
  (hn:bs+n<=xs.size) (hs:∀i j (h:j < xs.size) (h2:i<=j),bs<=i->j < bs+n->rk (xs[i]'(by omega))<=rk xs[j]) (hh:ht < n)
  (h:∀k,k<=n->(∀i (h:i < xs.size),bs<=i->i < bs+k->if lf=true then rk xs[i] < rk ky else rk xs[i]<=rk ky)->(∀i (h:i < xs.size),bs+k<=i->i < bs+n->if lf=true then rk ky<=rk xs[i] else rk ky < rk xs[i])->Q (some k) st) :
  wpS (model prog w) A E s (gal lf ky xs bs n ht) Q st:=by
 refine w_gal (b:=fun i=>if hi:bs+i < xs.size then (if lf=true then decide (rk xs[bs+i] < rk ky) else !decide (rk ky < rk xs[bs+i])) else false) ?_ ?_ hh ?_
 ·intro i hi Q hQ
  have hi':bs+i < xs.size:=by omega
  simp only[dif_pos hi']at hQ
  refine wpS_bind (w_elem hi' ?_)
  cases lf with
  | true=>exact w_lt q hk (hS _ _) hy hQ
  | false=>exact wpS_bind (w_lt q hk hy (hS _ _) (wpS_pure hQ))
 ·intro i j hij hj hb
  have hj':bs+j < xs.size:=by omega
  have hi':bs+i < xs.size:=by omega
  have hle:=hs (bs+i) (bs+j) hj' (by omega) (by omega) (by omega)
  simp only[dif_pos hj']at hb
  simp only[dif_pos hi']
  cases lf with
  | true=>simp at hb ⊢;omega
  | false=>simp at hb ⊢;omega
 ·intro k hk h1 h2
  refine h k hk (fun i hi i1 i2=>?_) (fun i hi i1 i2=>?_)
  ·have:=h1 (i - bs) (by omega)
   have e:bs+(i - bs)=i:=by omega
   simp only[e,dif_pos hi]at this
   cases lf with
   | true=>simpa using this
   | false=>simpa using this
  ·have:=h2 (i - bs) (by omega) (by omega)
   have e:bs+(i - bs)=i:=by omega
   simp only[e,dif_pos hi]at this
   cases lf with
   | true=>simpa using this
   | false=>simpa using this
end
section
variable {α:Type}{le:α->α->Prop}{a b out:List α}{i j:Nat}
structure Mg(le:α->α->Prop)(a b out:List α)(i j:Nat):Prop where
 perm:out.Perm (a.take i++b.take j)
 srt:out.Pairwise le
 la:∀x∈out,∀y∈a.drop i,le x y
 lb:∀x∈out,∀y∈b.drop j,le x y
theorem Mg.comm(h:Mg le a b out i j):Mg le b a out j i:=⟨h.perm.trans List.perm_append_comm,h.srt,h.lb,h.la⟩
theorem Mg.takeA(h:Mg le a b out i j)(ha:a.Pairwise le)(k:Nat)(hk:∀x∈(a.drop i).take k,∀y∈b.drop j,le x y):Mg le a b (out++(a.drop i).take k) (i+k) j where
 perm:=by
  rw[List.take_add]
  refine (h.perm.append_right _).trans ?_
  rw[List.append_assoc,List.append_assoc]
  exact List.Perm.append_left _ List.perm_append_comm
 srt:=List.pairwise_append.mpr ⟨h.srt,(ha.sublist (List.drop_sublist _ _)).sublist (List.take_sublist _ _),fun x hx y hy=>h.la x hx y (List.mem_of_mem_take hy)⟩
 la:=fun x hx y hy=>by
  rw[<- List.drop_drop]at hy
  rcases List.mem_append.mp hx with hx|hx
  ·exact h.la x hx y (List.mem_of_mem_drop hy)
  ·have p:=ha.sublist (List.drop_sublist i _)
   rw[<- List.take_append_drop k (a.drop i)]at p
   exact (List.pairwise_append.mp p).2.2 x hx y hy
 lb:=fun x hx y hy=>by
  rcases List.mem_append.mp hx with hx|hx
  ·exact h.lb x hx y hy
  ·exact hk x hx y hy
theorem Mg.oneA(h:Mg le a b out i j)(ha:a.Pairwise le)(hi:i < a.length)(hk:∀y∈b.drop j,le a[i] y):Mg le a b (out++[a[i]]) (i+1) j:=by
 have e:(a.drop i).take 1=[a[i]]:=by rw[List.drop_eq_getElem_cons hi];rfl
 have:=h.takeA ha 1 (by rw[e];simpa using hk)
 rwa [e]at this
theorem Mg.fin(h:Mg le a b out i j)(ha:a.Pairwise le)(hb:b.Pairwise le)(hx:∀x∈a.drop i,∀y∈b.drop j,le x y):(out++a.drop i++b.drop j).Perm (a++b)/\(out++a.drop i++b.drop j).Pairwise le:=by
 constructor
 ·have e:(a.take i++b.take j++a.drop i++b.drop j).Perm (a.take i++a.drop i++(b.take j++b.drop j)):=by
   simp only[List.append_assoc]
   refine List.Perm.append_left _ ?_
   rw[<- List.append_assoc,<- List.append_assoc]
   exact List.perm_append_comm.append_right _
  rw[List.take_append_drop,List.take_append_drop]at e
  exact ((h.perm.append_right _).append_right _).trans e
 ·rw[List.append_assoc]
  refine List.pairwise_append.mpr ⟨h.srt,List.pairwise_append.mpr ⟨ha.sublist (List.drop_sublist _ _),hb.sublist (List.drop_sublist _ _),hx⟩,fun x hx y hy=>?_⟩
  rcases List.mem_append.mp hy with hy|hy
  ·exact h.la x hx y hy
  ·exact h.lb x hx y hy
theorem Mg.finC(h:Mg le a b out i j)(ha:a.Pairwise le)(hb:b.Pairwise le)(hx:∀x∈b.drop j,∀y∈a.drop i,le x y):(out++b.drop j++a.drop i).Perm (a++b)/\(out++b.drop j++a.drop i).Pairwise le:=by
 obtain⟨h1,h2⟩:=h.comm.fin hb ha hx
 exact ⟨h1.trans List.perm_append_comm,h2⟩
end
noncomputable abbrev LoT:=Option (Array Keyed)×Array Keyed×Nat×Nat×Nat×Nat×Nat
noncomputable abbrev LoS:=Option (Array Keyed)×Array Keyed×Nat×Nat×Nat×Nat
noncomputable abbrev LoO:=Option (Array Keyed)×Array Keyed×Nat×Nat×Nat
section
variable (x y:Array Keyed)
noncomputable def dn(o:Array Keyed)(i j:Nat):Array Keyed:=o++x.extract i x.size++y.extract j y.size
noncomputable def ls(o:Array Keyed)(i j:Nat):Array Keyed:=o++y.extract j y.size++x.extract i x.size
noncomputable def lo2(o:Array Keyed)(i j g ac bc:Nat):StateT SortSt Sem (ForInStep LoT):=do
 let z<-elem' x i
 if (i+1+1==x.size)=true then pure (.done (some (ls x y (o.push z) (i+1) j),o.push z,i+1,j,g,ac,bc))
 else if (decide (ac < 7)&&decide (bc < 7))=true then pure (.done (none,o.push z,i+1,j,g,ac,bc))
 else pure (.yield (none,o.push z,i+1,j,g,ac,bc))
noncomputable def lo1(o:Array Keyed)(i j g ac bc:Nat):StateT SortSt Sem (ForInStep LoT):=do
 let z<-elem' y j
 if (j+1==y.size)=true then pure (.done (some (dn x y (o.push z) i (j+1)),o.push z,i,j+1,g,ac,bc))
 else do
  let u<-elem' x i
  let some k<-gal true u y (j+1) (y.size - (j+1)) 0|pure (.done (some (dn x y (o.push z) i (j+1)),o.push z,i,j+1,g,ac,bc))
  if k > 0 then
   if (j+1+k==y.size)=true then pure (.done (some (dn x y (o.push z++y.extract (j+1) (j+1+k)) i (j+1+k)),o.push z++y.extract (j+1) (j+1+k),i,j+1+k,g,ac,k))
   else lo2 x y (o.push z++y.extract (j+1) (j+1+k)) i (j+1+k) g ac k
  else lo2 x y (o.push z) i (j+1) g ac k
noncomputable def lo0(o:Array Keyed)(i j g ac bc:Nat):StateT SortSt Sem (ForInStep LoT):=do
 modify fun v=>setG v g
 let z<-elem' y j
 let some k<-gal false z x i (x.size - i) 0|pure (.done (some (dn x y o i j),o,i,j,g,ac,bc))
 if k > 0 then
   if (i+k+1==x.size)=true then pure (.done (some (ls x y (o++x.extract i (i+k)) (i+k) j),o++x.extract i (i+k),i+k,j,g,k,bc))
   else if (i+k==x.size)=true then pure (.done (some (dn x y (o++x.extract i (i+k)) (i+k) j),o++x.extract i (i+k),i+k,j,g,k,bc))
   else lo1 x y (o++x.extract i (i+k)) (i+k) j g k bc
 else lo1 x y o i j g k bc
noncomputable def loG(t:LoT):StateT SortSt Sem (ForInStep LoT) :=
 if t.2.2.2.2.1 > 1 then lo0 x y t.2.1 t.2.2.1 t.2.2.2.1 (t.2.2.2.2.1 - 1) t.2.2.2.2.2.1 t.2.2.2.2.2.2
 else lo0 x y t.2.1 t.2.2.1 t.2.2.2.1 t.2.2.2.2.1 t.2.2.2.2.2.1 t.2.2.2.2.2.2
noncomputable def loS(g:Nat)(t:LoS):StateT SortSt Sem (ForInStep LoS):=do
 let z<-elem' y t.2.2.2.1
 let u<-elem' x t.2.2.1
 let some yw<-lt' z u|pure (.done (some (dn x y t.2.1 t.2.2.1 t.2.2.2.1),t.2.1,t.2.2.1,t.2.2.2.1,t.2.2.2.2.1,t.2.2.2.2.2))
 if yw=true then do
   let z<-elem' y t.2.2.2.1
   if (t.2.2.2.1+1==y.size)=true then pure (.done (some (dn x y (t.2.1.push z) t.2.2.1 (t.2.2.2.1+1)),t.2.1.push z,t.2.2.1,t.2.2.2.1+1,0,t.2.2.2.2.2+1))
   else if t.2.2.2.2.2+1 ≥ g then pure (.done (none,t.2.1.push z,t.2.2.1,t.2.2.2.1+1,0,t.2.2.2.2.2+1))
   else pure (.yield (none,t.2.1.push z,t.2.2.1,t.2.2.2.1+1,0,t.2.2.2.2.2+1))
 else do
   let z<-elem' x t.2.2.1
   if (t.2.2.1+1+1==x.size)=true then pure (.done (some (ls x y (t.2.1.push z) (t.2.2.1+1) t.2.2.2.1),t.2.1.push z,t.2.2.1+1,t.2.2.2.1,t.2.2.2.2.1+1,0))
   else if t.2.2.2.2.1+1 ≥ g then pure (.done (none,t.2.1.push z,t.2.2.1+1,t.2.2.2.1,t.2.2.2.2.1+1,0))
   else pure (.yield (none,t.2.1.push z,t.2.2.1+1,t.2.2.2.1,t.2.2.2.2.1+1,0))
noncomputable def loB(t:LoO):StateT SortSt Sem (ForInStep LoO):=do
 let v<-forIn [:x.size+y.size] ((none,t.2.1,t.2.2.1,t.2.2.2.1,0,0):LoS) fun _ v=>loS x y t.2.2.2.2 v
 match v.1 with
 | some r=>pure (.done (some r,v.2.1,v.2.2.1,v.2.2.2.1,t.2.2.2.2))
 | none=>do
  liftM (rule "list.sort.gallop")
  let u<-forIn [:x.size+y.size] ((none,v.2.1,v.2.2.1,v.2.2.2.1,t.2.2.2.2+1,v.2.2.2.2.1,v.2.2.2.2.2):LoT) fun _ u=>loG x y u
  match u.1 with
  | some r=>pure (.done (some r,u.2.1,u.2.2.1,u.2.2.2.1,u.2.2.2.2.1))
  | none=>do
   modify fun z=>setG z (u.2.2.2.2.1+1)
   pure (.yield (none,u.2.1,u.2.2.1,u.2.2.2.1,u.2.2.2.2.1+1))
end
theorem mLo_eq0(x y:Array Keyed):mLo x y=(do
    rule "list.sort.merge-lo"
    let tt:=x.size+y.size
    let dn (o:Array Keyed) (i j:Nat):=o++x.extract i x.size++y.extract j y.size
    let ls (o:Array Keyed) (i j:Nat):=o++y.extract j y.size++x.extract i x.size
    let mut o:Array Keyed:=#[<- elem' y 0]
    let mut i:=0
    let mut j:=1
    if j==y.size then return dn o i j
    if i+1==x.size then return ls o i j
    let mut g:=gallopOf (<- get)
    for _ in [0:tt] do
      let mut ac:=0
      let mut bc:=0
      for _ in [0:tt] do
        let some yw<-lt' (<- elem' y j) (<- elem' x i)|return dn o i j
        if yw then
          o:=o.push (<- elem' y j);j:=j+1;bc:=bc+1;ac:=0
          if j==y.size then return dn o i j
          if bc ≥ g then break
        else
          o:=o.push (<- elem' x i);i:=i+1;ac:=ac+1;bc:=0
          if i+1==x.size then return ls o i j
          if ac ≥ g then break
      rule "list.sort.gallop"
      g:=g+1
      for _ in [0:tt] do
        if g > 1 then g:=g - 1
        modify (setG · g)
        let some k<-gal false (<- elem' y j) x i (x.size - i) 0|return dn o i j
        ac:=k
        if k > 0 then
          o:=o++x.extract i (i+k);i:=i+k
          if i+1==x.size then return ls o i j
          if i==x.size then return dn o i j
        o:=o.push (<- elem' y j);j:=j+1
        if j==y.size then return dn o i j
        let some k<-gal true (<- elem' x i) y j (y.size - j) 0|return dn o i j
        bc:=k
        if k > 0 then
          o:=o++y.extract j (j+k);j:=j+k
          if j==y.size then return dn o i j
        o:=o.push (<- elem' x i);i:=i+1
        if i+1==x.size then return ls o i j
        if ac < 7&&bc < 7 then break
      g:=g+1
      modify (setG · g)
    unsupported "internal:list.sort.merge-bound"):=rfl
theorem mLo_eq(x y:Array Keyed):mLo x y=(do
    liftM (rule "list.sort.merge-lo")
    let z<-elem' y 0
    if (1==y.size)=true then pure (dn x y #[z] 0 1)
    else if (0+1==x.size)=true then pure (ls x y #[z] 0 1)
    else do
      let s<-get
      let v<-forIn [:x.size+y.size] ((none,#[z],0,1,gallopOf s):LoO) fun _ v=>loB x y v
      match v.1 with
      | some r=>pure r
      | none=>unsupported "internal:list.sort.merge-bound"):=by
 rw[mLo_eq0]
 dsimp only
 refine congrArg (bind _) (funext fun _=>?_)
 refine congrArg (bind _) (funext fun z=>?_)
 refine congr (congrArg _ rfl) ?_
 refine congr (congrArg _ rfl) ?_
 refine congrArg (bind _) (funext fun s=>?_)
 refine congr (congrArg bind ?A) (funext fun v=>by obtain⟨r,v⟩:=v;cases r<;>rfl)
 refine congrArg _ (funext fun _=>funext fun v=>?_)
 unfold loB
 refine congr (congrArg bind rfl) (funext fun v=>?_)
 obtain⟨r,v⟩:=v
 cases r with
 | some r=>rfl
 | none =>
  refine congrArg (bind _) (funext fun _=>?_)
  refine congr (congrArg bind ?A2) (funext fun v=>by obtain⟨r,v⟩:=v;cases r<;>rfl)
  rfl
section
variable {α:Type}{x y o:Array α}{i j k:Nat}
theorem ext_all:(x.extract i x.size).toList=x.toList.drop i:=by
 rw[Array.toList_extract,List.extract_eq_take_drop,List.take_of_length_le (by simp)]
theorem ext_k:(x.extract i (i+k)).toList=(x.toList.drop i).take k:=by
 rw[Array.toList_extract,List.extract_eq_take_drop,Nat.add_sub_cancel_left]
theorem mem_dropA{v:α}(h:v∈x.toList.drop i):∃(n:Nat) (hn:n < x.size),i<=n/\v=x[n]:=by
 obtain⟨n,hn,e⟩:=List.getElem_of_mem h
 rw[List.length_drop,Array.length_toList]at hn
 refine ⟨i+n,by omega,by omega,?_⟩
 rw[<- e,List.getElem_drop,Array.getElem_toList]
theorem mem_dropTA{v:α}(h:v∈(x.toList.drop i).take k):∃(n:Nat) (hn:n < x.size),i<=n/\n < i+k/\v=x[n]:=by
 obtain⟨n,hn,e⟩:=List.getElem_of_mem h
 rw[List.length_take,List.length_drop,Array.length_toList]at hn
 refine ⟨i+n,by omega,by omega,by omega,?_⟩
 rw[<- e,List.getElem_take,List.getElem_drop,Array.getElem_toList]
end
theorem dn_list(x y o:Array Keyed)(i j:Nat):(dn x y o i j).toList=o.toList++x.toList.drop i++y.toList.drop j:=by
 unfold dn
 rw[Array.toList_append,Array.toList_append,ext_all,ext_all]
theorem ls_list(x y o:Array Keyed)(i j:Nat):(ls x y o i j).toList=o.toList++y.toList.drop j++x.toList.drop i:=by
 unfold ls
 rw[Array.toList_append,Array.toList_append,ext_all,ext_all]
section
variable {prog:Program}{w:World}{A:Around}{E:Value->Shared->Prop}{s:Shared}{κ:SortKind}{rk:Keyed->Nat}{S:Keyed->Prop}{x y:Array Keyed}
noncomputable abbrev leK(rk:Keyed->Nat):Keyed->Keyed->Prop:=fun a b=>rk a<=rk b
structure Hy(rk:Keyed->Nat)(S:Keyed->Prop)(x y:Array Keyed):Prop where
 hx:x.toList.Pairwise (leK rk)
 hy:y.toList.Pairwise (leK rk)
 Sx:∀i (h:i < x.size),S x[i]
 Sy:∀i (h:i < y.size),S y[i]
 x0:0 < x.size
 y0:0 < y.size
 hl:∀i (h:i < y.size),rk y[i]<=rk x[x.size - 1]
 hf:∀i (h:i < x.size),rk y[0]<=rk x[i]
theorem srt_at{x:Array Keyed}(h:x.toList.Pairwise (leK rk)){i j:Nat}(hj:j < x.size)(hij:i<=j):rk (x[i]'(by omega))<=rk x[j]:=by
 rcases Nat.lt_or_ge i j with h1|h1
 ·have:=List.pairwise_iff_getElem.mp h i j (by simpa using (by omega:i < x.size)) (by simpa using hj) h1
  simpa using this
 ·have:i=j:=by omega
  subst this
  exact Nat.le_refl _
noncomputable def Po(rk:Keyed->Nat)(x y r:Array Keyed):Prop:=r.toList.Perm (x.toList++y.toList)/\r.toList.Pairwise (leK rk)
theorem Po_dn(H:Hy rk S x y){o:Array Keyed}{i j:Nat}(m:Mg (leK rk) x.toList y.toList o.toList i j)(h:y.size<=j\/x.size<=i):Po rk x y (dn x y o i j):=by
 unfold Po
 rw[dn_list]
 refine m.fin H.hx H.hy fun v hv u hu=>?_
 obtain⟨n,hn,n1,_⟩:=mem_dropA hv
 obtain⟨k,hk,k1,_⟩:=mem_dropA hu
 omega
theorem Po_ls(H:Hy rk S x y){o:Array Keyed}{i j:Nat}(m:Mg (leK rk) x.toList y.toList o.toList i j)(h:i+1=x.size):Po rk x y (ls x y o i j):=by
 unfold Po
 rw[ls_list]
 refine m.finC H.hx H.hy fun v hv u hu=>?_
 obtain⟨n,hn,n1,rfl⟩:=mem_dropA hv
 obtain⟨k,hk,k1,rfl⟩:=mem_dropA hu
 have:k=x.size - 1:=by omega
 subst this
 exact H.hl n hn
theorem push_list{α:Type}(o:Array α)(z:α):(o.push z).toList=o.toList++[z]:=Array.toList_push
structure J(rk:Keyed->Nat)(x y:Array Keyed)(N:Nat)(o:Array Keyed)(i j:Nat):Prop where
 m:Mg (leK rk) x.toList y.toList o.toList i j
 hi:i+1 < x.size
 hj:j < y.size
 hN:N<=i+j
theorem J.pushX(H:Hy rk S x y){N:Nat}{o:Array Keyed}{i j:Nat}(m:Mg (leK rk) x.toList y.toList o.toList i j)(hi:i < x.size)(h:∀n (hn:n < y.size),j<=n->rk x[i]<=rk y[n]):Mg (leK rk) x.toList y.toList (o.push x[i]).toList (i+1) j:=by
 rw[push_list]
 have:=m.oneA H.hx (by simpa using hi) fun v hv=>by
  obtain⟨n,hn,n1,rfl⟩:=mem_dropA hv
  simpa using h n hn n1
 simpa using this
theorem J.pushY(H:Hy rk S x y){N:Nat}{o:Array Keyed}{i j:Nat}(m:Mg (leK rk) x.toList y.toList o.toList i j)(hj:j < y.size)(h:∀n (hn:n < x.size),i<=n->rk y[j]<=rk x[n]):Mg (leK rk) x.toList y.toList (o.push y[j]).toList i (j+1):=by
 rw[push_list]
 have:=m.comm.oneA H.hy (by simpa using hj) fun v hv=>by
  obtain⟨n,hn,n1,rfl⟩:=mem_dropA hv
  simpa using h n hn n1
 have:=this.comm
 simpa using this
noncomputable def RT(rk:Keyed->Nat)(x y:Array Keyed)(N:Nat)(c:LoT):Prop:=(∃t,c.1=some t/\Po rk x y t)\/(c.1=none/\J rk x y N c.2.1 c.2.2.1 c.2.2.2.1)
noncomputable def Gs(z z':SortSt):Prop:=∃g,z'=setG z g
theorem Gs.refl(z:SortSt):Gs z z:=⟨gallopOf z,rfl⟩
theorem Gs.set{z z':SortSt}(h:Gs z z')(g:Nat):Gs z (setG z' g):=by obtain⟨_,rfl⟩:=h;exact ⟨g,rfl⟩
theorem Gs.kind{z z':SortSt}(h:Gs z z'):kindOf z'=kindOf z:=by obtain⟨_,rfl⟩:=h;rfl
noncomputable def StT(rk:Keyed->Nat)(x y:Array Keyed)(N:Nat)(st:SortSt)(r:ForInStep LoT)(st':SortSt):Prop :=
 Gs st st'/\match r with
  | .done c=>RT rk x y N c
  | .yield c=>c.1=none/\J rk x y N c.2.1 c.2.2.1 c.2.2.2.1
theorem w_lo2(H:Hy rk S x y){N:Nat}{o:Array Keyed}{i j g ac bc:Nat}{st st':SortSt}(hg:Gs st st')(m:Mg (leK rk) x.toList y.toList o.toList i j)(hi:i+1 < x.size)(hj:j < y.size)(hN:N<=i+j+1)
  (h:∀n (hn:n < y.size),j<=n->rk (x[i]'(by omega))<=rk y[n]):wpS (model prog w) A E s (lo2 x y o i j g ac bc) (StT rk x y N st) st':=by
 unfold lo2
 have m':=J.pushX H (N:=N) m (by omega) h
 refine wpS_bind (w_elem (by omega) ?_)
 by_cases h1:i+1+1=x.size
 ·rw[if_pos (by simpa using h1)]
  exact wpS_pure ⟨hg,.inl ⟨_,rfl,Po_ls H m' h1⟩⟩
 ·rw[if_neg (by simpa using h1)]
  have jj:J rk x y N (o.push (x[i]'(by omega))) (i+1) j:=⟨m',by omega,hj,by omega⟩
  by_cases h2:(decide (ac < 7)&&decide (bc < 7))=true
  ·rw[if_pos h2]
   exact wpS_pure ⟨hg,.inr ⟨rfl,jj⟩⟩
  ·rw[if_neg h2]
   exact wpS_pure ⟨hg,rfl,jj⟩
theorem w_lo1(q:Asks prog w A s κ rk S)(H:Hy rk S x y){N:Nat}{o:Array Keyed}{i j g ac bc:Nat}{st st':SortSt}(hk:kindOf st=κ)(hg:Gs st st')(m:Mg (leK rk) x.toList y.toList o.toList i j)(hi:i+1 < x.size)(hj:j < y.size)(hN:N<=i+j+1)
  (h:∀n (hn:n < x.size),i<=n->rk (y[j]'(by omega))<=rk x[n]):wpS (model prog w) A E s (lo1 x y o i j g ac bc) (StT rk x y N st) st':=by
 unfold lo1
 have m':=J.pushY H (N:=N) m hj h
 refine wpS_bind (w_elem hj ?_)
 by_cases h1:j+1=y.size
 ·rw[if_pos (by simpa using h1)]
  exact wpS_pure ⟨hg,.inl ⟨_,rfl,Po_dn H m' (.inl (by omega))⟩⟩
 ·rw[if_neg (by simpa using h1)]
  refine wpS_bind (w_elem (by omega) ?_)
  refine wpS_bind (w_gallop q (hg.kind.trans hk) (H.Sx _ _) H.Sy (by omega) (fun a b hb hab _ _=>srt_at H.hy hb hab) (by omega) fun k kn k1 k2=>?_)
  dsimp only
  by_cases hk0:k > 0
  ·rw[if_pos hk0]
   have m2:Mg (leK rk) x.toList y.toList (o.push (y[j]'hj)++y.extract (j+1) (j+1+k)).toList i (j+1+k):=by
    rw[Array.toList_append,ext_k]
    refine (m'.comm.takeA H.hy k fun v hv u hu=>?_).comm
    obtain⟨n,hn,n1,n2,rfl⟩:=mem_dropTA hv
    obtain⟨p,hp,p1,rfl⟩:=mem_dropA hu
    have:=k1 n hn n1 n2
    rw[if_pos rfl]at this
    have:=srt_at H.hx hp p1
    show rk _<=rk _
    omega
   by_cases h2:j+1+k=y.size
   ·rw[if_pos (by simpa using h2)]
    exact wpS_pure ⟨hg,.inl ⟨_,rfl,Po_dn H m2 (.inl (by omega))⟩⟩
   ·rw[if_neg (by simpa using h2)]
    refine w_lo2 H hg m2 hi (by omega) (by omega) fun n hn n1=>?_
    have:=k2 n hn (by omega) (by omega)
    rw[if_pos rfl]at this
    exact this
  ·rw[if_neg hk0]
   refine w_lo2 H hg m' hi (by omega) (by omega) fun n hn n1=>?_
   have:=k2 n hn (by omega) (by omega)
   rw[if_pos rfl]at this
   exact this
theorem w_lo0(q:Asks prog w A s κ rk S)(H:Hy rk S x y){N:Nat}{o:Array Keyed}{i j g ac bc:Nat}{st st':SortSt}(hk:kindOf st=κ)(hg:Gs st st')(m:Mg (leK rk) x.toList y.toList o.toList i j)(hi:i+1 < x.size)(hj:j < y.size)(hN:N<=i+j+1) :
  wpS (model prog w) A E s (lo0 x y o i j g ac bc) (StT rk x y N st) st':=by
 unfold lo0
 refine wpS_bind (wpS_modify ?_)
 have hg':=hg.set g
 refine wpS_bind (w_elem hj ?_)
 refine wpS_bind (w_gallop q (hg'.kind.trans hk) (H.Sy _ _) H.Sx (by omega) (fun a b hb hab _ _=>srt_at H.hx hb hab) (by omega) fun k kn k1 k2=>?_)
 dsimp only
 by_cases hk0:k > 0
 ·rw[if_pos hk0]
  have m2:Mg (leK rk) x.toList y.toList (o++x.extract i (i+k)).toList (i+k) j:=by
   rw[Array.toList_append,ext_k]
   refine m.takeA H.hx k fun v hv u hu=>?_
   obtain⟨n,hn,n1,n2,rfl⟩:=mem_dropTA hv
   obtain⟨p,hp,p1,rfl⟩:=mem_dropA hu
   have:=k1 n hn n1 n2
   rw[if_neg (by decide)]at this
   have:=srt_at H.hy hp p1
   show rk _<=rk _
   omega
  by_cases h2:i+k+1=x.size
  ·rw[if_pos (by simpa using h2)]
   exact wpS_pure ⟨hg',.inl ⟨_,rfl,Po_ls H m2 h2⟩⟩
  ·rw[if_neg (by simpa using h2)]
   by_cases h3:i+k=x.size
   ·rw[if_pos (by simpa using h3)]
    exact wpS_pure ⟨hg',.inl ⟨_,rfl,Po_dn H m2 (.inr (by omega))⟩⟩
   ·rw[if_neg (by simpa using h3)]
    refine w_lo1 q H hk hg' m2 (by omega) hj (by omega) fun n hn n1=>?_
    have:=k2 n hn (by omega) (by omega)
    rw[if_neg (by decide)]at this
    omega
 ·rw[if_neg hk0]
  refine w_lo1 q H hk hg' m hi hj (by omega) fun n hn n1=>?_
  have:=k2 n hn (by omega) (by omega)
  rw[if_neg (by decide)]at this
  omega
theorem w_loG(q:Asks prog w A s κ rk S)(H:Hy rk S x y){N:Nat}{c:LoT}{st st':SortSt}(hk:kindOf st=κ)(hg:Gs st st')(hJ:J rk x y N c.2.1 c.2.2.1 c.2.2.2.1) :
  wpS (model prog w) A E s (loG x y c) (StT rk x y (N+1) st) st':=by
 unfold loG
 have:=hJ.hN
 split
 ·exact w_lo0 q H hk hg hJ.m hJ.hi hJ.hj (by omega)
 ·exact w_lo0 q H hk hg hJ.m hJ.hi hJ.hj (by omega)
theorem w_loS(q:Asks prog w A s κ rk S)(H:Hy rk S x y){N g:Nat}{c:LoS}{st:SortSt}(hk:kindOf st=κ)(hJ:J rk x y N c.2.1 c.2.2.1 c.2.2.2.1) :
  wpS (model prog w) A E s (loS x y g c) (fun r st'=>st'=st/\match r with
    | .done c=>(∃t,c.1=some t/\Po rk x y t)\/(c.1=none/\J rk x y (N+1) c.2.1 c.2.2.1 c.2.2.2.1)
    | .yield c=>c.1=none/\J rk x y (N+1) c.2.1 c.2.2.1 c.2.2.2.1) st:=by
 unfold loS
 obtain⟨m,hi,hj,hN⟩:=hJ
 refine wpS_bind (w_elem hj ?_)
 refine wpS_bind (w_elem (by omega) ?_)
 refine wpS_bind (w_lt q hk (H.Sy _ _) (H.Sx _ _) ?_)
 dsimp only
 by_cases hlt:rk (y[c.2.2.2.1]'hj) < rk (x[c.2.2.1]'(by omega))
 ·rw[if_pos (by simpa using hlt)]
  have m':=J.pushY H (N:=N) m hj fun n hn n1=>by have:=srt_at H.hx hn n1;omega
  refine wpS_bind (w_elem hj ?_)
  by_cases h1:c.2.2.2.1+1=y.size
  ·rw[if_pos (by simpa using h1)]
   exact wpS_pure ⟨rfl,.inl ⟨_,rfl,Po_dn H m' (.inl (by omega))⟩⟩
  ·rw[if_neg (by simpa using h1)]
   have jj:J rk x y (N+1) (c.2.1.push (y[c.2.2.2.1]'hj)) c.2.2.1 (c.2.2.2.1+1):=⟨m',hi,by omega,by omega⟩
   split
   ·exact wpS_pure ⟨rfl,.inr ⟨rfl,jj⟩⟩
   ·exact wpS_pure ⟨rfl,rfl,jj⟩
 ·rw[if_neg (by simpa using hlt)]
  have m':=J.pushX H (N:=N) m (by omega) fun n hn n1=>by have:=srt_at H.hy hn n1;omega
  refine wpS_bind (w_elem (by omega) ?_)
  by_cases h1:c.2.2.1+1+1=x.size
  ·rw[if_pos (by simpa using h1)]
   exact wpS_pure ⟨rfl,.inl ⟨_,rfl,Po_ls H m' h1⟩⟩
  ·rw[if_neg (by simpa using h1)]
   have jj:J rk x y (N+1) (c.2.1.push (x[c.2.2.1]'(by omega))) (c.2.2.1+1) c.2.2.2.1:=⟨m',by omega,hj,by omega⟩
   split
   ·exact wpS_pure ⟨rfl,.inr ⟨rfl,jj⟩⟩
   ·exact wpS_pure ⟨rfl,rfl,jj⟩
theorem w_loB(q:Asks prog w A s κ rk S)(H:Hy rk S x y){N:Nat}{c:LoO}{st st':SortSt}(hk:kindOf st=κ)(hg:Gs st st')(hJ:J rk x y N c.2.1 c.2.2.1 c.2.2.2.1) :
  wpS (model prog w) A E s (loB x y c) (fun r st'=>Gs st st'/\match r with
    | .done c=>∃t,c.1=some t/\Po rk x y t
    | .yield c=>c.1=none/\J rk x y (N+1) c.2.1 c.2.2.1 c.2.2.2.1) st':=by
 unfold loB
 refine wpS_bind (wpS_mono (wpS_forRange (I:=fun n c st''=>st''=st'/\c.1=none/\J rk x y (N+n) c.2.1 c.2.2.1 c.2.2.2.1)
   (Q:=fun c st''=>st''=st'/\((∃t,c.1=some t/\Po rk x y t)\/(c.1=none/\J rk x y N c.2.1 c.2.2.1 c.2.2.2.1))) ?step ?fin ⟨rfl,rfl,hJ⟩) ?post)
 case fin =>
  rintro c st'' ⟨rfl,_,h⟩
  have h1:=h.hi
  have h2:=h.hj
  have h3:=h.hN
  omega
 case step =>
  rintro n c st'' _ _ ⟨rfl,_,h⟩
  refine wpS_mono (w_loS q H (hg.kind.trans hk) h) ?_
  rintro r st3 ⟨rfl,h⟩
  cases r with
  | done c =>
   refine ⟨rfl,h.imp id fun h=>⟨h.1,h.2.m,h.2.hi,h.2.hj,?_⟩⟩
   have:=h.2.hN
   omega
  | yield c=>exact ⟨rfl,h.1,h.2⟩
 case post =>
  rintro c st'' ⟨rfl,h⟩
  obtain⟨r,c⟩:=c
  rcases h with⟨t,e,h⟩|⟨e,h⟩
  ·cases e
   exact wpS_pure ⟨hg,_,rfl,h⟩
  ·cases e
   dsimp only
   refine wpS_bind (wpS_lift (wpAny_rule ⟨rfl,?_⟩))
   refine wpS_bind (wpS_mono (wpS_forRange (I:=fun n c st''=>Gs st st''/\c.1=none/\J rk x y (N+n) c.2.1 c.2.2.1 c.2.2.2.1)
     (Q:=fun c st''=>Gs st st''/\RT rk x y (N+1) c) ?step2 ?fin2 ⟨hg,rfl,h⟩) ?post2)
   case fin2 =>
    rintro c st'' ⟨_,_,h⟩
    have h1:=h.hi
    have h2:=h.hj
    have h3:=h.hN
    omega
   case step2 =>
    rintro n c st'' _ _ ⟨hg2,_,h⟩
    refine wpS_mono (w_loG q H hk hg2 h) ?_
    rintro r st3 ⟨hg3,h⟩
    cases r with
    | done c =>
     refine ⟨hg3,Or.imp id (fun h=>⟨h.1,h.2.m,h.2.hi,h.2.hj,?_⟩) h⟩
     have:=h.2.hN
     omega
    | yield c=>exact ⟨hg3,h.1,h.2⟩
   case post2 =>
    rintro c st'' ⟨hg2,h⟩
    obtain⟨r,c⟩:=c
    rcases h with⟨t,e,h⟩|⟨e,h⟩
    ·cases e
     exact wpS_pure ⟨hg2,_,rfl,h⟩
    ·cases e
     exact wpS_bind (wpS_modify (wpS_pure ⟨hg2.set _,rfl,h⟩))
theorem w_mLo(q:Asks prog w A s κ rk S)(H:Hy rk S x y){st:SortSt}{Q:Array Keyed->SortSt->Prop}(hk:kindOf st=κ)(h:∀r st',Gs st st'->Po rk x y r->Q r st'):wpS (model prog w) A E s (mLo x y) Q st:=by
 rw[mLo_eq]
 refine wpS_bind (wpS_lift (wpAny_rule ⟨rfl,?_⟩))
 refine wpS_bind (w_elem H.y0 ?_)
 have m0:Mg (leK rk) x.toList y.toList (#[]:Array Keyed).toList 0 0:=⟨by simp,by simp,by simp,by simp⟩
 have m1:=J.pushY H (N:=0) m0 H.y0 fun n hn _=>H.hf n hn
 have e1:(#[]:Array Keyed).push (y[0]'H.y0)=#[y[0]'H.y0]:=rfl
 rw[e1]at m1
 have hy0:=H.y0
 have hx0:=H.x0
 by_cases h1:1=y.size
 ·rw[if_pos (by simpa using h1)]
  exact wpS_pure (h _ _ (Gs.refl _) (Po_dn H m1 (.inl (by omega))))
 ·rw[if_neg (by simpa using h1)]
  by_cases h2:0+1=x.size
  ·rw[if_pos (by simpa using h2)]
   exact wpS_pure (h _ _ (Gs.refl _) (Po_ls H m1 h2))
  ·rw[if_neg (by simpa using h2)]
   refine wpS_bind (wpS_get ?_)
   refine wpS_bind (wpS_mono (wpS_forRange (I:=fun n c st''=>Gs st st''/\c.1=none/\J rk x y n c.2.1 c.2.2.1 c.2.2.2.1)
     (Q:=fun c st''=>Gs st st''/\∃t,c.1=some t/\Po rk x y t) ?step ?fin ⟨Gs.refl _,rfl,m1,by show 0+1 < x.size;omega,by show 1 < y.size;omega,by omega⟩) ?post)
   case fin =>
    rintro c st'' ⟨_,_,h⟩
    have h1:=h.hi
    have h2:=h.hj
    have h3:=h.hN
    omega
   case step =>
    rintro n c st'' _ _ ⟨hg2,_,h⟩
    refine wpS_mono (w_loB q H hk hg2 h) ?_
    rintro r st3 ⟨hg3,h⟩
    cases r with
    | done c=>exact ⟨hg3,h⟩
    | yield c=>exact ⟨hg3,h⟩
   case post =>
    rintro c st'' ⟨hg2,t,e,hP⟩
    obtain⟨r,c⟩:=c
    cases e
    exact wpS_pure (h _ _ hg2 hP)
end
noncomputable abbrev HiT:=Option (Array Keyed)×Nat×Nat×Array Keyed×Nat×Nat×Nat
noncomputable abbrev HiS:=Option (Array Keyed)×Nat×Nat×Array Keyed×Nat×Nat
noncomputable abbrev HiO:=Option (Array Keyed)×Nat×Nat×Array Keyed×Nat
section
variable (x y:Array Keyed)
noncomputable def dnH(o:Array Keyed)(i j:Nat):Array Keyed:=x.extract 0 i++y.extract 0 j++o.reverse
noncomputable def lsH(o:Array Keyed)(i j:Nat):Array Keyed:=y.extract 0 j++x.extract 0 i++o.reverse
noncomputable def hi2(i j:Nat)(o:Array Keyed)(g ac bc:Nat):StateT SortSt Sem (ForInStep HiT):=do
 let z<-elem' x (i - 1)
 if (i - 1==0)=true then pure (.done (some (dnH x y (o.push z) (i - 1) j),i - 1,j,o.push z,g,ac,bc))
 else if (decide (ac < 7)&&decide (bc < 7))=true then pure (.done (none,i - 1,j,o.push z,g,ac,bc))
 else pure (.yield (none,i - 1,j,o.push z,g,ac,bc))
noncomputable def hi1(i j:Nat)(o:Array Keyed)(g ac bc:Nat):StateT SortSt Sem (ForInStep HiT):=do
 let z<-elem' y (j - 1)
 if (j - 1==1)=true then pure (.done (some (lsH x y (o.push z) i (j - 1)),i,j - 1,o.push z,g,ac,bc))
 else do
  let u<-elem' x (i - 1)
  let some p<-gal true u y 0 (j - 1) (j - 1 - 1)|pure (.done (some (dnH x y (o.push z) i (j - 1)),i,j - 1,o.push z,g,ac,bc))
  if j - 1 - p > 0 then
   if (p==1)=true then pure (.done (some (lsH x y (o.push z++(y.extract p (j - 1)).reverse) i p),i,p,o.push z++(y.extract p (j - 1)).reverse,g,ac,j - 1 - p))
   else if (p==0)=true then pure (.done (some (dnH x y (o.push z++(y.extract p (j - 1)).reverse) i p),i,p,o.push z++(y.extract p (j - 1)).reverse,g,ac,j - 1 - p))
   else hi2 x y i p (o.push z++(y.extract p (j - 1)).reverse) g ac (j - 1 - p)
  else hi2 x y i (j - 1) (o.push z) g ac (j - 1 - p)
noncomputable def hi0(i j:Nat)(o:Array Keyed)(g ac bc:Nat):StateT SortSt Sem (ForInStep HiT):=do
 modify fun v=>setG v g
 let z<-elem' y (j - 1)
 let some p<-gal false z x 0 i (i - 1)|pure (.done (some (dnH x y o i j),i,j,o,g,ac,bc))
 if i - p > 0 then
   if (p==0)=true then pure (.done (some (dnH x y (o++(x.extract p i).reverse) p j),p,j,o++(x.extract p i).reverse,g,i - p,bc))
   else hi1 x y p j (o++(x.extract p i).reverse) g (i - p) bc
 else hi1 x y i j o g (i - p) bc
noncomputable def hiG(t:HiT):StateT SortSt Sem (ForInStep HiT) :=
 if t.2.2.2.2.1 > 1 then hi0 x y t.2.1 t.2.2.1 t.2.2.2.1 (t.2.2.2.2.1 - 1) t.2.2.2.2.2.1 t.2.2.2.2.2.2
 else hi0 x y t.2.1 t.2.2.1 t.2.2.2.1 t.2.2.2.2.1 t.2.2.2.2.2.1 t.2.2.2.2.2.2
noncomputable def hiS(g:Nat)(t:HiS):StateT SortSt Sem (ForInStep HiS):=do
 let z<-elem' y (t.2.2.1 - 1)
 let u<-elem' x (t.2.1 - 1)
 let some xw<-lt' z u|pure (.done (some (dnH x y t.2.2.2.1 t.2.1 t.2.2.1),t.2.1,t.2.2.1,t.2.2.2.1,t.2.2.2.2.1,t.2.2.2.2.2))
 if xw=true then do
   let z<-elem' x (t.2.1 - 1)
   if (t.2.1 - 1==0)=true then pure (.done (some (dnH x y (t.2.2.2.1.push z) (t.2.1 - 1) t.2.2.1),t.2.1 - 1,t.2.2.1,t.2.2.2.1.push z,t.2.2.2.2.1+1,0))
   else if t.2.2.2.2.1+1 ≥ g then pure (.done (none,t.2.1 - 1,t.2.2.1,t.2.2.2.1.push z,t.2.2.2.2.1+1,0))
   else pure (.yield (none,t.2.1 - 1,t.2.2.1,t.2.2.2.1.push z,t.2.2.2.2.1+1,0))
 else do
   let z<-elem' y (t.2.2.1 - 1)
   if (t.2.2.1 - 1==1)=true then pure (.done (some (lsH x y (t.2.2.2.1.push z) t.2.1 (t.2.2.1 - 1)),t.2.1,t.2.2.1 - 1,t.2.2.2.1.push z,0,t.2.2.2.2.2+1))
   else if t.2.2.2.2.2+1 ≥ g then pure (.done (none,t.2.1,t.2.2.1 - 1,t.2.2.2.1.push z,0,t.2.2.2.2.2+1))
   else pure (.yield (none,t.2.1,t.2.2.1 - 1,t.2.2.2.1.push z,0,t.2.2.2.2.2+1))
noncomputable def hiB(t:HiO):StateT SortSt Sem (ForInStep HiO):=do
 let v<-forIn [:x.size+y.size] ((none,t.2.1,t.2.2.1,t.2.2.2.1,0,0):HiS) fun _ v=>hiS x y t.2.2.2.2 v
 match v.1 with
 | some r=>pure (.done (some r,v.2.1,v.2.2.1,v.2.2.2.1,t.2.2.2.2))
 | none=>do
  liftM (rule "list.sort.gallop")
  let u<-forIn [:x.size+y.size] ((none,v.2.1,v.2.2.1,v.2.2.2.1,t.2.2.2.2+1,v.2.2.2.2.1,v.2.2.2.2.2):HiT) fun _ u=>hiG x y u
  match u.1 with
  | some r=>pure (.done (some r,u.2.1,u.2.2.1,u.2.2.2.1,u.2.2.2.2.1))
  | none=>do
   modify fun z=>setG z (u.2.2.2.2.1+1)
   pure (.yield (none,u.2.1,u.2.2.1,u.2.2.2.1,u.2.2.2.2.1+1))
end
theorem mHi_eq0(x y:Array Keyed):mHi x y=(do
    rule "list.sort.merge-hi"
    let tt:=x.size+y.size
    let dn (o:Array Keyed) (i j:Nat):=x.extract 0 i++y.extract 0 j++o.reverse
    let fs (o:Array Keyed) (i j:Nat):=y.extract 0 j++x.extract 0 i++o.reverse
    let mut i:=x.size - 1
    let mut j:=y.size
    let mut o:Array Keyed:=#[<- elem' x i]
    if i==0 then return dn o i j
    if j==1 then return fs o i j
    let mut g:=gallopOf (<- get)
    for _ in [0:tt] do
      let mut ac:=0
      let mut bc:=0
      for _ in [0:tt] do
        let some xw<-lt' (<- elem' y (j - 1)) (<- elem' x (i - 1))|return dn o i j
        if xw then
          i:=i - 1;o:=o.push (<- elem' x i);ac:=ac+1;bc:=0
          if i==0 then return dn o i j
          if ac ≥ g then break
        else
          j:=j - 1;o:=o.push (<- elem' y j);bc:=bc+1;ac:=0
          if j==1 then return fs o i j
          if bc ≥ g then break
      rule "list.sort.gallop"
      g:=g+1
      for _ in [0:tt] do
        if g > 1 then g:=g - 1
        modify (setG · g)
        let some p<-gal false (<- elem' y (j - 1)) x 0 i (i - 1)|return dn o i j
        let k:=i - p
        ac:=k
        if k > 0 then
          o:=o++(x.extract p i).reverse;i:=p
          if i==0 then return dn o i j
        j:=j - 1;o:=o.push (<- elem' y j)
        if j==1 then return fs o i j
        let some p<-gal true (<- elem' x (i - 1)) y 0 j (j - 1)|return dn o i j
        let k:=j - p
        bc:=k
        if k > 0 then
          o:=o++(y.extract p j).reverse;j:=p
          if j==1 then return fs o i j
          if j==0 then return dn o i j
        i:=i - 1;o:=o.push (<- elem' x i)
        if i==0 then return dn o i j
        if ac < 7&&bc < 7 then break
      g:=g+1
      modify (setG · g)
    unsupported "internal:list.sort.merge-bound"):=rfl
theorem mHi_eq(x y:Array Keyed):mHi x y=(do
    liftM (rule "list.sort.merge-hi")
    let z<-elem' x (x.size - 1)
    if (x.size - 1==0)=true then pure (dnH x y #[z] (x.size - 1) y.size)
    else if (y.size==1)=true then pure (lsH x y #[z] (x.size - 1) y.size)
    else do
      let s<-get
      let v<-forIn [:x.size+y.size] ((none,x.size - 1,y.size,#[z],gallopOf s):HiO) fun _ v=>hiB x y v
      match v.1 with
      | some r=>pure r
      | none=>unsupported "internal:list.sort.merge-bound"):=by
 rw[mHi_eq0]
 dsimp only
 refine congrArg (bind _) (funext fun _=>?_)
 refine congrArg (bind _) (funext fun z=>?_)
 refine congr (congrArg _ rfl) ?_
 refine congr (congrArg _ rfl) ?_
 refine congrArg (bind _) (funext fun s=>?_)
 refine congr (congrArg bind ?A) (funext fun v=>by obtain⟨r,v⟩:=v;cases r<;>rfl)
 refine congrArg _ (funext fun _=>funext fun v=>?_)
 unfold hiB
 refine congr (congrArg bind rfl) (funext fun v=>?_)
 obtain⟨r,v⟩:=v
 cases r with
 | some r=>rfl
 | none =>
  refine congrArg (bind _) (funext fun _=>?_)
  refine congr (congrArg bind ?A2) (funext fun v=>by obtain⟨r,v⟩:=v;cases r<;>rfl)
  rfl
section
variable {α:Type}{x:Array α}{i j k:Nat}
theorem rev_drop(hi:i<=x.size):x.toList.reverse.drop (x.size - i)=(x.toList.take i).reverse:=by
 rw[List.drop_reverse,Array.length_toList,Nat.sub_sub_self hi]
theorem mem_revD{v:α}(hi:i<=x.size)(h:v∈x.toList.reverse.drop (x.size - i)):∃(n:Nat) (hn:n < x.size),n < i/\v=x[n]:=by
 rw[rev_drop hi,List.mem_reverse]at h
 obtain⟨n,hn,e⟩:=List.getElem_of_mem h
 rw[List.length_take,Array.length_toList]at hn
 refine ⟨n,by omega,by omega,?_⟩
 rw[<- e,List.getElem_take,Array.getElem_toList]
theorem rev_ext(hk:k<=i)(hi:i<=x.size):(x.extract k i).reverse.toList=(x.toList.reverse.drop (x.size - i)).take (i - k):=by
 rw[Array.toList_reverse,Array.toList_extract,List.extract_eq_take_drop,rev_drop hi,List.take_reverse,List.length_take,Array.length_toList,Nat.min_eq_left hi,Nat.sub_sub_self hk,List.drop_take]
theorem ext_0:(x.extract 0 i).toList=x.toList.take i:=by
 rw[Array.toList_extract,List.extract_eq_take_drop,List.drop_zero,Nat.sub_zero]
end
section
variable {prog:Program}{w:World}{A:Around}{E:Value->Shared->Prop}{s:Shared}{κ:SortKind}{rk:Keyed->Nat}{S:Keyed->Prop}{x y:Array Keyed}
noncomputable abbrev geK(rk:Keyed->Nat):Keyed->Keyed->Prop:=fun a b=>rk b<=rk a
structure MH(rk:Keyed->Nat)(x y:Array Keyed)(o:Array Keyed)(i j:Nat):Prop where
 m:Mg (geK rk) x.toList.reverse y.toList.reverse o.toList (x.size - i) (y.size - j)
 hi:i<=x.size
 hj:j<=y.size
theorem MH.comm{o:Array Keyed}{i j:Nat}(h:MH rk x y o i j):MH rk y x o j i:=⟨h.m.comm,h.hj,h.hi⟩
theorem MH.chunk(hx:x.toList.Pairwise (leK rk)){o:Array Keyed}{i j p:Nat}(h:MH rk x y o i j)(hp:p<=i)(hk:∀n (hn:n < x.size) k (hk:k < y.size),p<=n->n < i->k < j->rk y[k]<=rk x[n]) :
  MH rk x y (o++(x.extract p i).reverse) p j:=by
 have hi:=h.hi
 refine ⟨?_,by omega,h.hj⟩
 rw[Array.toList_append,rev_ext hp hi]
 have e:x.size - p=x.size - i+(i - p):=by omega
 rw[e]
 refine h.m.takeA (List.pairwise_reverse.mpr hx) (i - p) fun v hv u hu=>?_
 obtain⟨k,hk1,hk2,rfl⟩:=mem_revD h.hj hu
 rw[<- rev_ext hp hi,Array.toList_reverse,List.mem_reverse,Array.toList_extract,List.extract_eq_take_drop]at hv
 obtain⟨n,hn,n1,n2,rfl⟩:=mem_dropTA hv
 exact hk n hn k hk1 n1 (by omega) hk2
theorem MH.push(hx:x.toList.Pairwise (leK rk)){o:Array Keyed}{i j:Nat}(h:MH rk x y o i j)(h0:0 < i)(hk:∀k (hk:k < y.size),k < j->rk y[k]<=rk (x[i - 1]'(by have:=h.hi;omega))) :
  MH rk x y (o.push (x[i - 1]'(by have:=h.hi;omega))) (i - 1) j:=by
 have hi:=h.hi
 have e:o.push (x[i - 1]'(by omega))=o++(x.extract (i - 1) i).reverse:=by
  apply Array.toList_inj.mp
  rw[Array.toList_push,Array.toList_append,rev_ext (by omega) hi,show i - (i - 1)=1 by omega,List.drop_eq_getElem_cons (by simp;omega)]
  simp only[List.take_succ_cons,List.take_zero,List.getElem_reverse,Array.getElem_toList,Array.length_toList]
  congr 3
  omega
 rw[e]
 refine h.chunk hx (by omega) fun n hn k hk1 n1 n2 k2=>?_
 have:n=i - 1:=by omega
 subst this
 exact hk k hk1 k2
theorem rev_fin{a b o r:List Keyed}(h:(o++a++b).Perm (x.toList.reverse++y.toList.reverse)/\(o++a++b).Pairwise (geK rk))(e:r=(o++a++b).reverse):r.Perm (x.toList++y.toList)/\r.Pairwise (leK rk):=by
 subst e
 exact ⟨((List.reverse_perm _).trans h.1).trans ((List.reverse_perm _).append (List.reverse_perm _)),List.pairwise_reverse.mpr h.2⟩
theorem Po_dnH(H:Hy rk S x y){o:Array Keyed}{i j:Nat}(m:MH rk x y o i j)(h:i=0\/j=0):Po rk x y (dnH x y o i j):=by
 refine rev_fin (m.m.finC (List.pairwise_reverse.mpr H.hx) (List.pairwise_reverse.mpr H.hy) fun v hv u hu=>?_) ?_
 ·obtain⟨n,hn,n1,_⟩:=mem_revD m.hj hv
  obtain⟨k,hk,k1,_⟩:=mem_revD m.hi hu
  omega
 ·unfold dnH
  rw[Array.toList_append,Array.toList_append,ext_0,ext_0,rev_drop m.hi,rev_drop m.hj,Array.toList_reverse]
  simp
theorem Po_lsH(H:Hy rk S x y){o:Array Keyed}{i j:Nat}(m:MH rk x y o i j)(h:j=1):Po rk x y (lsH x y o i j):=by
 refine rev_fin (m.m.fin (List.pairwise_reverse.mpr H.hx) (List.pairwise_reverse.mpr H.hy) fun v hv u hu=>?_) ?_
 ·obtain⟨n,hn,n1,rfl⟩:=mem_revD m.hi hv
  obtain⟨k,hk,k1,rfl⟩:=mem_revD m.hj hu
  have:k=0:=by omega
  subst this
  exact H.hf n hn
 ·unfold lsH
  rw[Array.toList_append,Array.toList_append,ext_0,ext_0,rev_drop m.hi,rev_drop m.hj,Array.toList_reverse]
  simp
structure JH(rk:Keyed->Nat)(x y:Array Keyed)(N:Nat)(i j:Nat)(o:Array Keyed):Prop where
 m:MH rk x y o i j
 hi:1<=i
 hj:2<=j
 hN:N+i+j<=x.size+y.size
noncomputable def RH(rk:Keyed->Nat)(x y:Array Keyed)(N:Nat)(c:HiT):Prop:=(∃t,c.1=some t/\Po rk x y t)\/(c.1=none/\JH rk x y N c.2.1 c.2.2.1 c.2.2.2.1)
noncomputable def StH(rk:Keyed->Nat)(x y:Array Keyed)(N:Nat)(st:SortSt)(r:ForInStep HiT)(st':SortSt):Prop :=
 Gs st st'/\match r with
  | .done c=>RH rk x y N c
  | .yield c=>c.1=none/\JH rk x y N c.2.1 c.2.2.1 c.2.2.2.1
theorem w_hi2(H:Hy rk S x y){N:Nat}{o:Array Keyed}{i j g ac bc:Nat}{st st':SortSt}(hg:Gs st st')(m:MH rk x y o i j)(hi:1<=i)(hj:2<=j)(hN:N+i+j<=x.size+y.size+1)
  (h:∀n (hn:n < y.size),n < j->rk y[n]<=rk (x[i - 1]'(by have:=m.hi;omega))):wpS (model prog w) A E s (hi2 x y i j o g ac bc) (StH rk x y N st) st':=by
 unfold hi2
 have hi':=m.hi
 have m':=m.push H.hx hi h
 refine wpS_bind (w_elem (by omega) ?_)
 by_cases h1:i - 1=0
 ·rw[if_pos (by simpa using h1)]
  exact wpS_pure ⟨hg,.inl ⟨_,rfl,Po_dnH H m' (.inl h1)⟩⟩
 ·rw[if_neg (by simpa using h1)]
  have jj:JH rk x y N (i - 1) j (o.push (x[i - 1]'(by omega))):=⟨m',by omega,hj,by omega⟩
  by_cases h2:(decide (ac < 7)&&decide (bc < 7))=true
  ·rw[if_pos h2]
   exact wpS_pure ⟨hg,.inr ⟨rfl,jj⟩⟩
  ·rw[if_neg h2]
   exact wpS_pure ⟨hg,rfl,jj⟩
theorem w_hi1(q:Asks prog w A s κ rk S)(H:Hy rk S x y){N:Nat}{o:Array Keyed}{i j g ac bc:Nat}{st st':SortSt}(hk:kindOf st=κ)(hg:Gs st st')(m:MH rk x y o i j)(hi:1<=i)(hj:2<=j)(hN:N+i+j<=x.size+y.size+1)
  (h:∀n (hn:n < x.size),n < i->rk x[n]<=rk (y[j - 1]'(by have:=m.hj;omega))):wpS (model prog w) A E s (hi1 x y i j o g ac bc) (StH rk x y N st) st':=by
 unfold hi1
 have hi':=m.hi
 have hj':=m.hj
 have m':=(m.comm.push H.hy (by omega) h).comm
 refine wpS_bind (w_elem (by omega) ?_)
 by_cases h1:j - 1=1
 ·rw[if_pos (by simpa using h1)]
  exact wpS_pure ⟨hg,.inl ⟨_,rfl,Po_lsH H m' h1⟩⟩
 ·rw[if_neg (by simpa using h1)]
  refine wpS_bind (w_elem (by omega) ?_)
  refine wpS_bind (w_gallop q (hg.kind.trans hk) (H.Sx _ _) H.Sy (by omega) (fun a b hb hab _ _=>srt_at H.hy hb hab) (by omega) fun p pn k1 k2=>?_)
  dsimp only
  have k1':∀n (hn:n < y.size),n < p->rk y[n] < rk (x[i - 1]'(by omega)):=fun n hn hp=>by
   have:=k1 n hn (Nat.zero_le _) (by omega)
   rw[if_pos rfl]at this
   exact this
  by_cases hk0:j - 1 - p > 0
  ·rw[if_pos hk0]
   have m2:=(m'.comm.chunk H.hy (p:=p) pn fun n hn k hk1 n1 n2 n3=>by
     have:=k2 n hn (by omega) (by omega)
     rw[if_pos rfl]at this
     have:=srt_at H.hx (i:=k) (j:=i - 1) (by omega) (by omega)
     omega).comm
   by_cases h2:p=1
   ·rw[if_pos (by simpa using h2)]
    exact wpS_pure ⟨hg,.inl ⟨_,rfl,Po_lsH H m2 h2⟩⟩
   ·rw[if_neg (by simpa using h2)]
    by_cases h3:p=0
    ·rw[if_pos (by simpa using h3)]
     exact wpS_pure ⟨hg,.inl ⟨_,rfl,Po_dnH H m2 (.inr h3)⟩⟩
    ·rw[if_neg (by simpa using h3)]
     exact w_hi2 H hg m2 hi (by omega) (by omega) fun n hn n1=>Nat.le_of_lt (k1' n hn n1)
  ·rw[if_neg hk0]
   exact w_hi2 H hg m' hi (by omega) (by omega) fun n hn n1=>Nat.le_of_lt (k1' n hn (by omega))
theorem w_hi0(q:Asks prog w A s κ rk S)(H:Hy rk S x y){N:Nat}{o:Array Keyed}{i j g ac bc:Nat}{st st':SortSt}(hk:kindOf st=κ)(hg:Gs st st')(m:MH rk x y o i j)(hi:1<=i)(hj:2<=j)(hN:N+i+j<=x.size+y.size+1) :
  wpS (model prog w) A E s (hi0 x y i j o g ac bc) (StH rk x y N st) st':=by
 unfold hi0
 have hi':=m.hi
 have hj':=m.hj
 refine wpS_bind (wpS_modify ?_)
 have hg':=hg.set g
 refine wpS_bind (w_elem (by omega) ?_)
 refine wpS_bind (w_gallop q (hg'.kind.trans hk) (H.Sy _ _) H.Sx (by omega) (fun a b hb hab _ _=>srt_at H.hx hb hab) (by omega) fun p pn k1 k2=>?_)
 dsimp only
 have k1':∀n (hn:n < x.size),n < p->rk x[n]<=rk (y[j - 1]'(by omega)):=fun n hn hp=>by
  have:=k1 n hn (Nat.zero_le _) (by omega)
  rw[if_neg (by decide)]at this
  exact this
 by_cases hk0:i - p > 0
 ·rw[if_pos hk0]
  have m2:=m.chunk H.hx (p:=p) pn fun n hn k hk1 n1 n2 n3=>by
   have:=k2 n hn (by omega) (by omega)
   rw[if_neg (by decide)]at this
   have:=srt_at H.hy (i:=k) (j:=j - 1) (by omega) (by omega)
   omega
  by_cases h3:p=0
  ·rw[if_pos (by simpa using h3)]
   exact wpS_pure ⟨hg',.inl ⟨_,rfl,Po_dnH H m2 (.inl h3)⟩⟩
  ·rw[if_neg (by simpa using h3)]
   exact w_hi1 q H hk hg' m2 (by omega) hj (by omega) k1'
 ·rw[if_neg hk0]
  exact w_hi1 q H hk hg' m hi hj (by omega) fun n hn n1=>k1' n hn (by omega)
theorem w_hiG(q:Asks prog w A s κ rk S)(H:Hy rk S x y){N:Nat}{c:HiT}{st st':SortSt}(hk:kindOf st=κ)(hg:Gs st st')(hJ:JH rk x y N c.2.1 c.2.2.1 c.2.2.2.1) :
  wpS (model prog w) A E s (hiG x y c) (StH rk x y (N+1) st) st':=by
 unfold hiG
 have:=hJ.hN
 split
 ·exact w_hi0 q H hk hg hJ.m hJ.hi hJ.hj (by omega)
 ·exact w_hi0 q H hk hg hJ.m hJ.hi hJ.hj (by omega)
theorem w_hiS(q:Asks prog w A s κ rk S)(H:Hy rk S x y){N g:Nat}{c:HiS}{st:SortSt}(hk:kindOf st=κ)(hJ:JH rk x y N c.2.1 c.2.2.1 c.2.2.2.1) :
  wpS (model prog w) A E s (hiS x y g c) (fun r st'=>st'=st/\match r with
    | .done c=>(∃t,c.1=some t/\Po rk x y t)\/(c.1=none/\JH rk x y (N+1) c.2.1 c.2.2.1 c.2.2.2.1)
    | .yield c=>c.1=none/\JH rk x y (N+1) c.2.1 c.2.2.1 c.2.2.2.1) st:=by
 unfold hiS
 obtain⟨m,hi,hj,hN⟩:=hJ
 have hi':=m.hi
 have hj':=m.hj
 refine wpS_bind (w_elem (by omega) ?_)
 refine wpS_bind (w_elem (by omega) ?_)
 refine wpS_bind (w_lt q hk (H.Sy _ _) (H.Sx _ _) ?_)
 dsimp only
 by_cases hlt:rk (y[c.2.2.1 - 1]'(by omega)) < rk (x[c.2.1 - 1]'(by omega))
 ·rw[if_pos (by simpa using hlt)]
  have m':=m.push H.hx hi fun n hn n1=>by have:=srt_at H.hy (i:=n) (j:=c.2.2.1 - 1) (by omega) (by omega);omega
  refine wpS_bind (w_elem (by omega) ?_)
  by_cases h1:c.2.1 - 1=0
  ·rw[if_pos (by simpa using h1)]
   exact wpS_pure ⟨rfl,.inl ⟨_,rfl,Po_dnH H m' (.inl h1)⟩⟩
  ·rw[if_neg (by simpa using h1)]
   have jj:JH rk x y (N+1) (c.2.1 - 1) c.2.2.1 (c.2.2.2.1.push (x[c.2.1 - 1]'(by omega))):=⟨m',by omega,hj,by omega⟩
   split
   ·exact wpS_pure ⟨rfl,.inr ⟨rfl,jj⟩⟩
   ·exact wpS_pure ⟨rfl,rfl,jj⟩
 ·rw[if_neg (by simpa using hlt)]
  have m':=(m.comm.push H.hy (by omega) fun n hn n1=>by have:=srt_at H.hx (i:=n) (j:=c.2.1 - 1) (by omega) (by omega);omega).comm
  refine wpS_bind (w_elem (by omega) ?_)
  by_cases h1:c.2.2.1 - 1=1
  ·rw[if_pos (by simpa using h1)]
   exact wpS_pure ⟨rfl,.inl ⟨_,rfl,Po_lsH H m' h1⟩⟩
  ·rw[if_neg (by simpa using h1)]
   have jj:JH rk x y (N+1) c.2.1 (c.2.2.1 - 1) (c.2.2.2.1.push (y[c.2.2.1 - 1]'(by omega))):=⟨m',by omega,by omega,by omega⟩
   split
   ·exact wpS_pure ⟨rfl,.inr ⟨rfl,jj⟩⟩
   ·exact wpS_pure ⟨rfl,rfl,jj⟩
theorem JH.false{N i j:Nat}{o:Array Keyed}(h:JH rk x y N i j o)(hN:x.size+y.size<=N):False:=by
 have h1:=h.hi
 have h2:=h.hj
 have h3:=h.hN
 omega
theorem w_hiB(q:Asks prog w A s κ rk S)(H:Hy rk S x y){N:Nat}{c:HiO}{st st':SortSt}(hk:kindOf st=κ)(hg:Gs st st')(hJ:JH rk x y N c.2.1 c.2.2.1 c.2.2.2.1) :
  wpS (model prog w) A E s (hiB x y c) (fun r st'=>Gs st st'/\match r with
    | .done c=>∃t,c.1=some t/\Po rk x y t
    | .yield c=>c.1=none/\JH rk x y (N+1) c.2.1 c.2.2.1 c.2.2.2.1) st':=by
 unfold hiB
 refine wpS_bind (wpS_mono (wpS_forRange (I:=fun n c st''=>st''=st'/\c.1=none/\JH rk x y (N+n) c.2.1 c.2.2.1 c.2.2.2.1)
   (Q:=fun c st''=>st''=st'/\((∃t,c.1=some t/\Po rk x y t)\/(c.1=none/\JH rk x y N c.2.1 c.2.2.1 c.2.2.2.1))) ?step ?fin ⟨rfl,rfl,hJ⟩) ?post)
 case fin =>
  rintro c st'' ⟨rfl,_,h⟩
  exact (h.false (by omega)).elim
 case step =>
  rintro n c st'' _ _ ⟨rfl,_,h⟩
  refine wpS_mono (w_hiS q H (hg.kind.trans hk) h) ?_
  rintro r st3 ⟨rfl,h⟩
  cases r with
  | done c =>
   refine ⟨rfl,h.imp id fun h=>⟨h.1,h.2.m,h.2.hi,h.2.hj,?_⟩⟩
   have:=h.2.hN
   omega
  | yield c=>exact ⟨rfl,h.1,h.2⟩
 case post =>
  rintro c st'' ⟨rfl,h⟩
  obtain⟨r,c⟩:=c
  rcases h with⟨t,e,h⟩|⟨e,h⟩
  ·cases e
   exact wpS_pure ⟨hg,_,rfl,h⟩
  ·cases e
   dsimp only
   refine wpS_bind (wpS_lift (wpAny_rule ⟨rfl,?_⟩))
   refine wpS_bind (wpS_mono (wpS_forRange (I:=fun n c st''=>Gs st st''/\c.1=none/\JH rk x y (N+n) c.2.1 c.2.2.1 c.2.2.2.1)
     (Q:=fun c st''=>Gs st st''/\RH rk x y (N+1) c) ?step2 ?fin2 ⟨hg,rfl,h⟩) ?post2)
   case fin2 =>
    rintro c st'' ⟨_,_,h⟩
    exact (h.false (by omega)).elim
   case step2 =>
    rintro n c st'' _ _ ⟨hg2,_,h⟩
    refine wpS_mono (w_hiG q H hk hg2 h) ?_
    rintro r st3 ⟨hg3,h⟩
    cases r with
    | done c =>
     refine ⟨hg3,Or.imp id (fun h=>⟨h.1,h.2.m,h.2.hi,h.2.hj,?_⟩) h⟩
     have:=h.2.hN
     omega
    | yield c=>exact ⟨hg3,h.1,h.2⟩
   case post2 =>
    rintro c st'' ⟨hg2,h⟩
    obtain⟨r,c⟩:=c
    rcases h with⟨t,e,h⟩|⟨e,h⟩
    ·cases e
     exact wpS_pure ⟨hg2,_,rfl,h⟩
    ·cases e
     exact wpS_bind (wpS_modify (wpS_pure ⟨hg2.set _,rfl,h⟩))
theorem w_mHi(q:Asks prog w A s κ rk S)(H:Hy rk S x y){st:SortSt}{Q:Array Keyed->SortSt->Prop}(hk:kindOf st=κ)(h:∀r st',Gs st st'->Po rk x y r->Q r st'):wpS (model prog w) A E s (mHi x y) Q st:=by
 rw[mHi_eq]
 have hy0:=H.y0
 have hx0:=H.x0
 refine wpS_bind (wpS_lift (wpAny_rule ⟨rfl,?_⟩))
 refine wpS_bind (w_elem (by omega) ?_)
 have m0:MH rk x y #[] x.size y.size:=⟨⟨by simp,by simp,by simp,by simp⟩,Nat.le_refl _,Nat.le_refl _⟩
 have m1:=m0.push H.hx hx0 fun n hn _=>H.hl n hn
 have e1:(#[]:Array Keyed).push (x[x.size - 1]'(by omega))=#[x[x.size - 1]'(by omega)]:=rfl
 rw[e1]at m1
 by_cases h1:x.size - 1=0
 ·rw[if_pos (by simpa using h1)]
  exact wpS_pure (h _ _ (Gs.refl _) (Po_dnH H m1 (.inl h1)))
 ·rw[if_neg (by simpa using h1)]
  by_cases h2:y.size=1
  ·rw[if_pos (by simpa using h2)]
   exact wpS_pure (h _ _ (Gs.refl _) (Po_lsH H m1 h2))
  ·rw[if_neg (by simpa using h2)]
   refine wpS_bind (wpS_get ?_)
   refine wpS_bind (wpS_mono (wpS_forRange (I:=fun n c st''=>Gs st st''/\c.1=none/\JH rk x y n c.2.1 c.2.2.1 c.2.2.2.1)
     (Q:=fun c st''=>Gs st st''/\∃t,c.1=some t/\Po rk x y t) ?step ?fin ⟨Gs.refl _,rfl,m1,by show 1<=x.size - 1;omega,by show 2<=y.size;omega,by show 0+(x.size - 1)+y.size<=_;omega⟩) ?post)
   case fin =>
    rintro c st'' ⟨_,_,h⟩
    exact (h.false (by omega)).elim
   case step =>
    rintro n c st'' _ _ ⟨hg2,_,h⟩
    refine wpS_mono (w_hiB q H hk hg2 h) ?_
    rintro r st3 ⟨hg3,h⟩
    cases r with
    | done c=>exact ⟨hg3,h⟩
    | yield c=>exact ⟨hg3,h⟩
   case post =>
    rintro c st'' ⟨hg2,t,e,hP⟩
    obtain⟨r,c⟩:=c
    cases e
    exact wpS_pure (h _ _ hg2 hP)
end
noncomputable def KR(rk:Keyed->Nat)(xs:Array Keyed)(i:Nat):Nat:=match xs[i]? with
 | some p=>rk p
 | none=>0
theorem KR_at{rk:Keyed->Nat}{xs:Array Keyed}{i:Nat}(h:i < xs.size):KR rk xs i=rk xs[i]:=by
 unfold KR;rw[getElem?_pos xs i h]
theorem KR_congr{rk:Keyed->Nat}{xs ys:Array Keyed}{i j:Nat}(h:xs[i]?=ys[j]?):KR rk xs i=KR rk ys j:=by unfold KR;rw[h]
theorem KR_mirror{rk:Keyed->Nat}{xs:Array Keyed}{i j:Nat}(hj:j<=xs.size)(k:Nat) :
  KR rk (mirror xs i j ((j - i) / 2)) k=if i<=k/\k < j then KR rk xs (i+j - 1 - k) else KR rk xs k:=by
 have e:=getElem?_mirror_all (i:=i) hj k
 split
 ·rename_i h1;rw[if_pos h1]at e;exact KR_congr e
 ·rename_i h1;rw[if_neg h1]at e;exact KR_congr e
theorem KR_bubble{rk:Keyed->Nat}{xs:Array Keyed}{c d:Nat}(hs:c < xs.size)(hd:d<=c)(k:Nat) :
  KR rk (bubble xs c d) k=if k=c - d then KR rk xs c else if c - d < k/\k<=c then KR rk xs (k - 1) else KR rk xs k:=by
 have e:=getElem?_bubble hs d hd k
 split
 ·rename_i h1;rw[if_pos h1]at e;exact KR_congr e
 ·rename_i h1
  rw[if_neg h1]at e
  split
  ·rename_i h2;rw[if_pos h2]at e;exact KR_congr e
  ·rename_i h2;rw[if_neg h2]at e;exact KR_congr e
noncomputable def Sg(rk:Keyed->Nat)(xs:Array Keyed)(lo n:Nat):Prop:=∀i j,lo<=i->i<=j->j < lo+n->KR rk xs i<=KR rk xs j
noncomputable def Dg(rk:Keyed->Nat)(xs:Array Keyed)(lo n:Nat):Prop:=∀i j,lo<=i->i<=j->j < lo+n->KR rk xs j<=KR rk xs i
structure Bs(κ:SortKind)(st:SortSt)(lo n:Nat)(st':SortSt):Prop where
 perm:(arrOf st').Perm (arrOf st)
 kind:kindOf st'=κ
 failed:failedOf st'=none
 pend:pendingOf st'=pendingOf st
 keep:∀i,i < lo\/lo+n<=i->(arrOf st')[i]?=(arrOf st)[i]?
theorem Bs.size{κ:SortKind}{st st':SortSt}{lo n:Nat}(h:Bs κ st lo n st'):(arrOf st').size=(arrOf st).size:=h.perm.size_eq
theorem Bs.mir{κ:SortKind}{st st':SortSt}{lo n i j:Nat}(h:Bs κ st lo n st')(hj:j<=(arrOf st).size)(h1:lo<=i)(h2:j<=lo+n):Bs κ st lo n (setArr st' (mirror (arrOf st') i j ((j - i) / 2))) :=
 ⟨(mirror_perm _ _ _ _).trans h.perm,h.kind,h.failed,h.pend,fun k hk=>by
   show (mirror (arrOf st') i j ((j - i) / 2))[k]?=_
   rw[getElem?_mirror_all (by rw[h.size];exact hj),if_neg (by omega)]
   exact h.keep k hk⟩
section
variable {prog:Program}{w:World}{A:Around}{E:Value->Shared->Prop}{s:Shared}{κ:SortKind}{rk:Keyed->Nat}{S:Keyed->Prop}{st:SortSt}
noncomputable abbrev AllS(S:Keyed->Prop)(xs:Array Keyed):Prop:=∀p,p∈xs.toList->S p
theorem Bs.inS{st':SortSt}{lo n:Nat}(hS:AllS S (arrOf st))(h:Bs κ st lo n st'){i:Nat}(hi:i < (arrOf st').size):S (arrOf st')[i] :=
 hS _ ((Array.perm_iff_toList_perm.mp h.perm).mem_iff.mp (by simp))
theorem w_ltAt(q:Asks prog w A s κ rk S){st':SortSt}{lo n i j:Nat}{Q:Option Bool->SortSt->Prop}(hS:AllS S (arrOf st))(hB:Bs κ st lo n st')(hi:i < (arrOf st).size)(hj:j < (arrOf st).size)
  (h:Q (some (decide (KR rk (arrOf st') i < KR rk (arrOf st') j))) st'):wpS (model prog w) A E s (ltAt' i j) Q st':=by
 have hi':i < (arrOf st').size:=by rw[hB.size];exact hi
 have hj':j < (arrOf st').size:=by rw[hB.size];exact hj
 rw[ltAt'_eq]
 refine wpS_bind (wpS_get ?_)
 refine wpS_bind (w_elem hi' (wpS_bind (w_elem hj' ?_)))
 refine w_lt q hB.kind (hB.inS hS _) (hB.inS hS _) ?_
 rw[KR_at hi',KR_at hj']at h
 exact h
noncomputable def ascL(lo a nrem:Nat):StateT SortSt Sem AscSt :=
 forIn [a:nrem] ((none,a):AscSt) fun _ z=>do
  let some sm<-ltAt' (lo+z.2) (lo+z.2 - 1)|pure (.done (some none,z.2))
  if sm=true then pure (.done (none,z.2)) else pure (.yield (none,z.2+1))
noncomputable def t3L(lo n nrem:Nat):StateT SortSt Sem (Option Nat):=do
 reverseSlice' lo (lo+n)
 let z<-ascL lo n nrem
 match z.1 with
 | some r=>pure r
 | none=>pure (some z.2)
noncomputable def descL(lo n nrem:Nat):StateT SortSt Sem DescSt :=
 forIn [n:nrem] ((none,n,0):DescSt) fun _ z=>do
  let some sm<-ltAt' (lo+z.2.1) (lo+z.2.1 - 1)|pure (.done (some none,z.2.1,z.2.2))
  if sm=true then
   if z.2.2 > 0 then do
    reverseSlice' (lo+z.2.1 - (z.2.2+1)) (lo+z.2.1)
    pure (.yield (none,z.2.1+1,0))
   else pure (.yield (none,z.2.1+1,0))
  else do
   let some la<-ltAt' (lo+z.2.1 - 1) (lo+z.2.1)|pure (.done (some none,z.2.1,z.2.2))
   if la=true then pure (.done (none,z.2.1,z.2.2)) else pure (.yield (none,z.2.1+1,z.2.2+1))
noncomputable def dpL(lo n nrem:Nat):StateT SortSt Sem (Option Nat):=do
 liftM (rule "list.sort.descending-run")
 let z<-descL lo (n+1) nrem
 match z.1 with
 | some r=>pure r
 | none =>
  if z.2.2 > 0 then do
   reverseSlice' (lo+z.2.1 - (z.2.2+1)) (lo+z.2.1)
   t3L lo z.2.1 nrem
  else t3L lo z.2.1 nrem
theorem crL_eq(lo nrem:Nat):countRun' lo nrem=(do
    let z<-ascL lo 1 nrem
    match z.1 with
    | some r=>pure r
    | none =>
      if (z.2==nrem)=true then pure (some z.2)
      else if z.2 > 1 then do
        let some ro<-ltAt' lo (lo+z.2 - 1)|pure none
        if ro=true then pure (some z.2) else do
          reverseSlice' lo (lo+z.2)
          dpL lo z.2 nrem
      else dpL lo z.2 nrem):=by
 have te:∀m,(do
     reverseSlice' lo (lo+m)
     let z<-ascL lo m nrem
     match z.1 with
     | some r=>pure r
     | none=>pure (some z.2))=t3L lo m nrem:=fun m=>rfl
 rw[countRun'_eq]
 unfold dpL t3L descL ascL
 refine congr (congrArg bind rfl) (funext fun z=>?_)
 obtain⟨r,n⟩:=z
 cases r with
 | some r=>rfl
 | none =>
  dsimp only
  have tl:∀z:AscSt,(match z.1 with|some r=>pure r|none=>pure (some z.2):StateT SortSt Sem (Option Nat))=match z.1 with|some r=>pure r|none=>pure (some z.2):=fun z=>rfl
  split
  ·rfl
  ·split
   ·congr 1
    funext x
    cases x with
    | none=>rfl
    | some ro =>
     dsimp only
     split
     ·rfl
     ·congr 1
      funext _
      congr 1
      funext _
      congr 1
      funext z
      obtain⟨r,m,q⟩:=z
      cases r with
      | some r=>rfl
      | none =>
       dsimp only
       split
       ·congr 1;funext _;congr 1;funext _;congr 1;funext z;obtain⟨r,k⟩:=z;cases r<;>rfl
       ·congr 1;funext _;congr 1;funext z;obtain⟨r,k⟩:=z;cases r<;>rfl
   ·congr 1
    funext _
    congr 1
    funext z
    obtain⟨r,m,q⟩:=z
    cases r with
    | some r=>rfl
    | none =>
     dsimp only
     split
     ·congr 1;funext _;congr 1;funext _;congr 1;funext z;obtain⟨r,k⟩:=z;cases r<;>rfl
     ·congr 1;funext _;congr 1;funext z;obtain⟨r,k⟩:=z;cases r<;>rfl
theorem w_rev{i j:Nat}{st':SortSt}{Q:Unit->SortSt->Prop}(h:Q () (setArr st' (mirror (arrOf st') i j ((j - i) / 2)))):wpS (model prog w) A E s (reverseSlice' i j) Q st':=by
 rw[reverseSlice'_eq]
 exact wpS_modify h
theorem w_asc(q:Asks prog w A s κ rk S){st':SortSt}{lo N a nrem:Nat}{Q:AscSt->SortSt->Prop}(hS:AllS S (arrOf st))(hn:lo+nrem<=(arrOf st).size)(ha:1<=a)(han:a<=nrem)(hB:Bs κ st lo N st')(hs:Sg rk (arrOf st') lo a)
  (h:∀n,a<=n->n<=nrem->Sg rk (arrOf st') lo n->(n=nrem\/KR rk (arrOf st') (lo+n) < KR rk (arrOf st') (lo+n - 1))->Q (none,n) st'):wpS (model prog w) A E s (ascL lo a nrem) Q st':=by
 unfold ascL
 refine wpS_forRange (I:=fun x c z=>z=st'/\c=(none,x)/\Sg rk (arrOf st') lo x) ?step ?fin ⟨rfl,rfl,hs⟩
 case fin =>
  rintro c z ⟨rfl,rfl,h1⟩
  rw[show max a nrem=nrem by omega]at h1 ⊢
  exact h nrem han (Nat.le_refl _) h1 (.inl rfl)
 case step =>
  rintro x c z hax hxn ⟨rfl,rfl,h1⟩
  dsimp only
  refine wpS_bind (w_ltAt q hS hB (by omega) (by omega) ?_)
  dsimp only
  by_cases hl:KR rk (arrOf z) (lo+x) < KR rk (arrOf z) (lo+x - 1)
  ·rw[if_pos (by simpa using hl)]
   exact wpS_pure (h x hax (by omega) h1 (.inr hl))
  ·rw[if_neg (by simpa using hl)]
   refine wpS_pure ⟨rfl,rfl,fun i j hi hij hj=>?_⟩
   by_cases hjx:j < lo+x
   ·exact h1 i j hi hij hjx
   ·have:j=lo+x:=by omega
    subst this
    by_cases hi':i=lo+x
    ·subst hi';exact Nat.le_refl _
    ·have:=h1 i (lo+x - 1) hi (by omega) (by omega)
     omega
theorem w_t3(q:Asks prog w A s κ rk S){st':SortSt}{lo n nrem:Nat}{Q:Option Nat->SortSt->Prop}(hS:AllS S (arrOf st))(hn:lo+nrem<=(arrOf st).size)(h1:1<=n)(hnn:n<=nrem)(hB:Bs κ st lo nrem st')(hs:Dg rk (arrOf st') lo n)
  (h:∀m z,Bs κ st lo nrem z->1<=m->m<=nrem->Sg rk (arrOf z) lo m->Q (some m) z):wpS (model prog w) A E s (t3L lo n nrem) Q st':=by
 unfold t3L
 refine wpS_bind (w_rev ?_)
 have hz:lo+n<=(arrOf st').size:=by rw[hB.size];omega
 have hB':=hB.mir (i:=lo) (j:=lo+n) (by omega) (Nat.le_refl _) (by omega)
 refine wpS_bind (w_asc q hS hn h1 hnn hB' (fun i j hi hij hj=>?_) fun m m1 m2 hm _=>wpS_pure (h m _ hB' (by omega) m2 hm))
 show KR rk (mirror _ _ _ _) i<=KR rk (mirror _ _ _ _) j
 rw[KR_mirror hz,KR_mirror hz,if_pos (by omega),if_pos (by omega)]
 exact hs _ _ (by omega) (by omega) (by omega)
theorem KR_alike{xs:Array Keyed}{i j:Nat}(hj:j<=xs.size)(he:∀k,i<=k->k < j->KR rk xs k=KR rk xs (j - 1))(k:Nat):KR rk (mirror xs i j ((j - i) / 2)) k=KR rk xs k:=by
 rw[KR_mirror hj]
 split
 ·rw[he _ (by omega) (by omega),he k (by omega) (by omega)]
 ·rfl
theorem w_desc(q:Asks prog w A s κ rk S){st':SortSt}{lo n nrem:Nat}{Q:DescSt->SortSt->Prop}(hS:AllS S (arrOf st))(hn:lo+nrem<=(arrOf st).size)(h1:1<=n)(hnn:n<=nrem)(hB:Bs κ st lo nrem st')(hs:Dg rk (arrOf st') lo n)
  (h:∀m e z,Bs κ st lo nrem z->n<=m->m<=nrem->Dg rk (arrOf z) lo m->e+1<=m->(∀i,lo+m - (e+1)<=i->i < lo+m->KR rk (arrOf z) i=KR rk (arrOf z) (lo+m - 1))->Q (none,m,e) z) :
  wpS (model prog w) A E s (descL lo n nrem) Q st':=by
 unfold descL
 refine wpS_forRange (I:=fun x c z=>∃e,c=(none,x,e)/\Bs κ st lo nrem z/\Dg rk (arrOf z) lo x/\e+1<=x/\∀i,lo+x - (e+1)<=i->i < lo+x->KR rk (arrOf z) i=KR rk (arrOf z) (lo+x - 1)) ?step ?fin
  ⟨0,rfl,hB,hs,by omega,fun i i1 i2=>by congr 1;omega⟩
 case fin =>
  rintro c z ⟨e,rfl,b,d,e1,e2⟩
  rw[show max n nrem=nrem by omega]at d e1 e2 ⊢
  exact h nrem e z b hnn (Nat.le_refl _) d e1 e2
 case step =>
  rintro x c z hax hxn ⟨e,rfl,b,d,e1,e2⟩
  dsimp only
  have hz:lo+x<=(arrOf z).size:=by rw[b.size];omega
  refine wpS_bind (w_ltAt q hS b (by omega) (by omega) ?_)
  dsimp only
  by_cases hl:KR rk (arrOf z) (lo+x) < KR rk (arrOf z) (lo+x - 1)
  ·rw[if_pos (by simpa using hl)]
   have st1:∀xs:Array Keyed,(∀k,KR rk xs k=KR rk (arrOf z) k)->Dg rk xs lo (x+1):=fun xs hk i j hi hij hj=>by
    rw[hk,hk]
    by_cases hjx:j < lo+x
    ·exact d i j hi hij hjx
    ·have:j=lo+x:=by omega
     subst this
     by_cases hi':i=lo+x
     ·subst hi';exact Nat.le_refl _
     ·have:=d i (lo+x - 1) hi (by omega) (by omega)
      omega
   by_cases he:e > 0
   ·rw[if_pos he]
    exact wpS_bind (w_rev (wpS_pure ⟨0,rfl,b.mir (by omega) (by omega) (by omega),st1 _ (KR_alike hz e2),by omega,fun i i1 i2=>by congr 1;omega⟩))
   ·rw[if_neg he]
    exact wpS_pure ⟨0,rfl,b,st1 _ (fun _=>rfl),by omega,fun i i1 i2=>by congr 1;omega⟩
  ·rw[if_neg (by simpa using hl)]
   refine wpS_bind (w_ltAt q hS b (by omega) (by omega) ?_)
   dsimp only
   by_cases hg:KR rk (arrOf z) (lo+x - 1) < KR rk (arrOf z) (lo+x)
   ·rw[if_pos (by simpa using hg)]
    exact wpS_pure (h x e z b hax (by omega) d e1 e2)
   ·rw[if_neg (by simpa using hg)]
    refine wpS_pure ⟨e+1,rfl,b,fun i j hi hij hj=>?_,by omega,fun i i1 i2=>?_⟩
    ·by_cases hjx:j < lo+x
     ·exact d i j hi hij hjx
     ·have:j=lo+x:=by omega
      subst this
      by_cases hi':i=lo+x
      ·subst hi';exact Nat.le_refl _
      ·have:=d i (lo+x - 1) hi (by omega) (by omega)
       omega
    ·rw[show lo+(x+1) - 1=lo+x by omega]
     by_cases hix:i=lo+x
     ·subst hix;rfl
     ·have:=e2 i (by omega) (by omega)
      omega
theorem w_dp(q:Asks prog w A s κ rk S){st':SortSt}{lo n nrem:Nat}{Q:Option Nat->SortSt->Prop}(hS:AllS S (arrOf st))(hn:lo+nrem<=(arrOf st).size)(hnn:n+1<=nrem)(hB:Bs κ st lo nrem st')(hs:Dg rk (arrOf st') lo (n+1))
  (h:∀m z,Bs κ st lo nrem z->1<=m->m<=nrem->Sg rk (arrOf z) lo m->Q (some m) z):wpS (model prog w) A E s (dpL lo n nrem) Q st':=by
 unfold dpL
 refine wpS_bind (wpS_lift (wpAny_rule ⟨rfl,?_⟩))
 refine wpS_bind (w_desc q hS hn (by omega) hnn hB hs fun m e z b m1 m2 d e1 e2=>?_)
 dsimp only
 have hz:lo+m<=(arrOf z).size:=by rw[b.size];omega
 by_cases he:e > 0
 ·rw[if_pos he]
  refine wpS_bind (w_rev (w_t3 q hS hn (by omega) m2 (b.mir (by omega) (by omega) (by omega)) (fun i j hi hij hj=>?_) h))
  show KR rk (mirror _ _ _ _) j<=KR rk (mirror _ _ _ _) i
  rw[KR_alike hz e2,KR_alike hz e2]
  exact d i j hi hij hj
 ·rw[if_neg he]
  exact w_t3 q hS hn (by omega) m2 b d h
theorem w_cr(q:Asks prog w A s κ rk S){lo nrem:Nat}{Q:Option Nat->SortSt->Prop}(hS:AllS S (arrOf st))(hn:lo+nrem<=(arrOf st).size)(h1:1<=nrem)(hB:Bs κ st lo nrem st)
  (h:∀m z,Bs κ st lo nrem z->1<=m->m<=nrem->Sg rk (arrOf z) lo m->Q (some m) z):wpS (model prog w) A E s (countRun' lo nrem) Q st:=by
 rw[crL_eq]
 refine wpS_bind (w_asc q hS hn (Nat.le_refl 1) h1 hB (fun i j hi hij hj=>by have:i=j:=(by omega);subst this;exact Nat.le_refl _) fun n n1 n2 sn hor=>?_)
 dsimp only
 by_cases hnn:n=nrem
 ·rw[if_pos (by simpa using hnn)]
  exact wpS_pure (h n st hB n1 n2 sn)
 ·rw[if_neg (by simpa using hnn)]
  have hlt:=hor.resolve_left hnn
  by_cases hgt:n > 1
  ·rw[if_pos hgt]
   refine wpS_bind (w_ltAt q hS hB (by omega) (by omega) ?_)
   dsimp only
   by_cases hr:KR rk (arrOf st) lo < KR rk (arrOf st) (lo+n - 1)
   ·rw[if_pos (by simpa using hr)]
    exact wpS_pure (h n st hB n1 n2 sn)
   ·rw[if_neg (by simpa using hr)]
    have hz:lo+n<=(arrOf st).size:=by omega
    have all:∀k,lo<=k->k < lo+n->KR rk (arrOf st) k=KR rk (arrOf st) (lo+n - 1):=fun k k1 k2=>by
     have a1:=sn lo k (by omega) k1 k2
     have a2:=sn k (lo+n - 1) k1 (by omega) (by omega)
     omega
    refine wpS_bind (w_rev (w_dp q hS hn (by omega) (hB.mir (by omega) (by omega) (by omega)) (fun i j hi hij hj=>?_) h))
    show KR rk (mirror _ _ _ _) j<=KR rk (mirror _ _ _ _) i
    rw[KR_alike hz all,KR_alike hz all]
    by_cases hjn:j < lo+n
    ·have:=all i hi (by omega)
     have:=all j (by omega) hjn
     omega
    ·have:j=lo+n:=by omega
     subst this
     by_cases hi':i=lo+n
     ·subst hi';exact Nat.le_refl _
     ·have:=all i hi (by omega)
      omega
  ·rw[if_neg hgt]
   have:n=1:=by omega
   subst this
   refine w_dp q hS hn (by omega) hB (fun i j hi hij hj=>?_) h
   by_cases hi':i=j
   ·subst hi';exact Nat.le_refl _
   ·have e1:i=lo:=by omega
    have e2:j=lo+1:=by omega
    subst e1;subst e2
    exact Nat.le_of_lt hlt
theorem w_bins(q:Asks prog w A s κ rk S){st':SortSt}{lo N n ok:Nat}{Q:Bool->SortSt->Prop}(hS:AllS S (arrOf st))(hn:lo+n<=(arrOf st).size)(hnN:n<=N)(hok:ok<=n)(hB:Bs κ st lo N st')(hs:Sg rk (arrOf st') lo ok)
  (h:∀z,Bs κ st lo N z->Sg rk (arrOf z) lo n->Q true z):wpS (model prog w) A E s (binarySort' lo n ok) Q st':=by
 rw[binarySort'_eq]
 refine wpS_bind (wpS_mono (wpS_forRange (I:=fun k c z=>c=(none,())/\Bs κ st lo N z/\Sg rk (arrOf z) lo (min k n)) (Q:=fun c z=>c=(none,())/\Bs κ st lo N z/\Sg rk (arrOf z) lo n) ?step ?fin ?init) ?post)
 case post =>
  rintro c z ⟨rfl,b,hs'⟩
  exact wpS_pure (h z b hs')
 case init =>
  refine ⟨rfl,hB,fun i j hi hij hj=>?_⟩
  by_cases h1:ok=0
  ·have:i=j:=by omega
   subst this;exact Nat.le_refl _
  ·exact hs i j hi hij (by omega)
 case fin =>
  rintro c z ⟨hc,b,hs'⟩
  refine ⟨hc,b,?_⟩
  rwa [show min (max (max ok 1) n) n=n by omega]at hs'
 case step =>
  rintro k c z hak hkn ⟨rfl,b,hs'⟩
  rw[show min k n=k by omega]at hs'
  refine wpS_bind (wpS_mono (wpS_forRange (I:=fun x c z'=>z'=z/\∃l r,c=(none,l,r)/\l<=r/\r<=k/\r - l<=k - x/\(∀i,i < l->KR rk (arrOf z) (lo+i)<=KR rk (arrOf z) (lo+k))/\(∀i,r<=i->i < k->KR rk (arrOf z) (lo+k) < KR rk (arrOf z) (lo+i)))
    (Q:=fun c z'=>z'=z/\∃l r,c=(none,l,r)/\l<=k/\(∀i,i < l->KR rk (arrOf z) (lo+i)<=KR rk (arrOf z) (lo+k))/\(∀i,l<=i->i < k->KR rk (arrOf z) (lo+k) < KR rk (arrOf z) (lo+i))) ?istep ?ifin ?iinit) ?ipost)
  case iinit=>exact ⟨rfl,0,k,rfl,by omega,by omega,by omega,fun i hi=>by omega,fun i h1 h2=>by omega⟩
  case ifin =>
   rintro c z' ⟨rfl,l,r,rfl,hlr,hrk,hm,hlo,hhi⟩
   have:l=r:=by omega
   subst this
   exact ⟨rfl,l,l,rfl,hrk,hlo,hhi⟩
  case istep =>
   rintro x c z' _ hxk ⟨rfl,l,r,rfl,hlr,hrk,hm,hlo,hhi⟩
   dsimp only
   by_cases hge:l ≥ r
   ·rw[if_pos hge]
    have:l=r:=by omega
    subst this
    exact wpS_pure ⟨rfl,l,l,rfl,hrk,hlo,hhi⟩
   ·rw[if_neg hge]
    refine wpS_bind (w_ltAt q hS b (by omega) (by omega) ?_)
    dsimp only
    by_cases hl:KR rk (arrOf z') (lo+k) < KR rk (arrOf z') (lo+(l+r) / 2)
    ·rw[if_pos (by simpa using hl)]
     refine wpS_pure ⟨rfl,l,(l+r) / 2,rfl,by omega,by omega,by omega,hlo,fun i h1 h2=>?_⟩
     have:=hs' (lo+(l+r) / 2) (lo+i) (by omega) (by omega) (by omega)
     omega
    ·rw[if_neg (by simpa using hl)]
     refine wpS_pure ⟨rfl,(l+r) / 2+1,r,rfl,by omega,by omega,by omega,fun i h1=>?_,hhi⟩
     have:=hs' (lo+i) (lo+(l+r) / 2) (by omega) (by omega) (by omega)
     omega
  case ipost =>
   rintro c z' ⟨rfl,l,r,rfl,hlk,hlo,hhi⟩
   show wpS _ _ _ _ (do moveDown' (lo+k) (lo+l);pure (ForInStep.yield (none,()))) _ _
   rw[moveDown'_eq]
   have hks:lo+k < (arrOf z').size:=by rw[b.size];omega
   refine wpS_bind (wpS_modify (wpS_pure ⟨rfl,⟨(bubble_perm _ _ _).trans b.perm,b.kind,b.failed,b.pend,fun i hi=>?_⟩,?_⟩))
   ·show (bubble (arrOf z') _ _)[i]?=_
    rw[getElem?_bubble hks _ (by omega),if_neg (by omega),if_neg (by omega)]
    exact b.keep i hi
   ·rw[show min (k+1) n=k+1 by omega]
    intro i j hi hij hj
    show KR rk (bubble (arrOf z') (lo+k) (lo+k - (lo+l))) i<=KR rk (bubble (arrOf z') (lo+k) (lo+k - (lo+l))) j
    rw[KR_bubble hks (by omega),KR_bubble hks (by omega),show lo+k - (lo+k - (lo+l))=lo+l by omega]
    have hlo':∀i,lo<=i->i < lo+l->KR rk (arrOf z') i<=KR rk (arrOf z') (lo+k):=fun i h1 h2=>by
     have:=hlo (i - lo) (by omega)
     rwa [show lo+(i - lo)=i by omega]at this
    have hhi':∀i,lo+l<=i->i < lo+k->KR rk (arrOf z') (lo+k) < KR rk (arrOf z') i:=fun i h1 h2=>by
     have:=hhi (i - lo) (by omega) (by omega)
     rwa [show lo+(i - lo)=i by omega]at this
    repeat' split
    all_goals first
     | (exfalso;omega)
     | exact Nat.le_refl _
     | exact hlo' _ (by omega) (by omega)
     | exact Nat.le_of_lt (hhi' _ (by omega) (by omega))
     | exact hs' _ _ (by omega) (by omega) (by omega)
end
noncomputable def wb(xs:Array Keyed)(c:Nat)(m:List Keyed)(n:Nat):Array Keyed:=(m.zipIdx n).foldl (fun a pj=>a.setIfInBounds (c+pj.2) pj.1) xs
theorem mAt_eq(i:Nat):mergeAt' i=(do
    let z<-get
    let (some (sa,na,pw),some (sb,nb,_)):=((pendingOf z)[i]?,(pendingOf z)[i+1]?)|unsupported "internal:list.sort.pending"
    set (setPending z (((pendingOf z).setIfInBounds i (sa,na+nb,pw)).eraseIdxIfInBounds (i+1)))
    let some k<-gal false (<- elem' (arrOf z) sb) (arrOf z) sa na 0|return false
    let (sa,na):=(sa+k,na - k)
    if na==0 then return true
    let some nb<-gal true (<- elem' (arrOf z) (sa+na - 1)) (arrOf z) sb nb (nb - 1)|return false
    if nb==0 then return true
    let x:=(arrOf z).extract sa sb
    let y:=(arrOf z).extract sb (sb+nb)
    let r<-if na<=nb then mLo x y else mHi x y
    modify fun v=>setArr v (wb (arrOf v) sa r.toList 0)
    return (failedOf (<- get)).isNone):=rfl
theorem wb_get:∀(m:List Keyed) (n c:Nat) (xs:Array Keyed),c+n+m.length<=xs.size->∀k,(wb xs c m n)[k]?=if c+n<=k/\k < c+n+m.length then m[k - (c+n)]? else xs[k]?
 | [],n,c,xs,_,k=>by
  show xs[k]?=_
  rw[if_neg (by simp)]
 | p :: m,n,c,xs,h,k=>by
  have hl:(p :: m).length=m.length+1:=rfl
  show (wb (xs.setIfInBounds (c+n) p) c m (n+1))[k]?=_
  rw[wb_get m (n+1) c _ (by rw[Array.size_setIfInBounds];omega),Array.getElem?_setIfInBounds]
  by_cases h1:c+n=k
  ·subst h1
   rw[if_neg (by omega),if_pos rfl,if_pos (by omega),if_pos (by omega)]
   simp
  ·by_cases h2:c+(n+1)<=k/\k < c+(n+1)+m.length
   ·rw[if_pos h2,if_pos (by omega)]
    have e:k - (c+n)=(k - (c+(n+1)))+1:=by omega
    rw[e,List.getElem?_cons_succ]
   ·rw[if_neg h2,if_neg h1,if_neg (by omega)]
theorem wb_list{xs:Array Keyed}{c:Nat}{m:List Keyed}(h:c+m.length<=xs.size):(wb xs c m 0).toList=xs.toList.take c++m++xs.toList.drop (c+m.length):=by
 apply List.ext_getElem?
 intro k
 rw[Array.getElem?_toList,wb_get m 0 c xs (by omega)]
 have hl:(xs.toList.take c).length=c:=by rw[List.length_take,Array.length_toList];omega
 rw[List.append_assoc]
 by_cases h1:k < c
 ·rw[if_neg (by omega),List.getElem?_append_left (by omega),List.getElem?_take_of_lt h1,Array.getElem?_toList]
 ·rw[List.getElem?_append_right (by omega),hl]
  by_cases h2:k - c < m.length
  ·rw[if_pos (by omega),List.getElem?_append_left h2]
   rfl
  ·rw[if_neg (by omega),List.getElem?_append_right (by omega),List.getElem?_drop,Array.getElem?_toList]
   congr 1
   omega
section
variable {prog:Program}{w:World}{A:Around}{E:Value->Shared->Prop}{s:Shared}{κ:SortKind}{rk:Keyed->Nat}{S:Keyed->Prop}{st:SortSt}
theorem ext_at{xs:Array Keyed}{a b i:Nat}(hb:b<=xs.size)(hi:i < (xs.extract a b).size):(xs.extract a b)[i]=xs[a+i]'(by rw[Array.size_extract]at hi;omega):=by
 rw[Array.getElem_extract]
theorem ext_pw{xs:Array Keyed}{a b:Nat}(hb:b<=xs.size)(h:∀i j,a<=i->i<=j->j < b->KR rk xs i<=KR rk xs j):(xs.extract a b).toList.Pairwise (leK rk):=by
 rw[List.pairwise_iff_getElem]
 intro i j hi hj hij
 rw[Array.length_toList]at hi hj
 rw[Array.getElem_toList,Array.getElem_toList,ext_at hb,ext_at hb]
 have hz:(xs.extract a b).size=b - a:=by rw[Array.size_extract];omega
 have:=h (a+i) (a+j) (by omega) (by omega) (by omega)
 rwa [KR_at (by omega),KR_at (by omega)]at this
structure Mt(κ:SortKind)(rk:Keyed->Nat)(st:SortSt)(i sa na nb pw:Nat)(st':SortSt):Prop where
 perm:(arrOf st').Perm (arrOf st)
 kind:kindOf st'=κ
 failed:failedOf st'=none
 pend:pendingOf st'=((pendingOf st).setIfInBounds i (sa,na+nb,pw)).eraseIdxIfInBounds (i+1)
 keep:∀j,j < sa\/sa+(na+nb)<=j->(arrOf st')[j]?=(arrOf st)[j]?
 sg:Sg rk (arrOf st') sa (na+nb)
theorem w_mAt(q:Asks prog w A s κ rk S){i sa na nb pw pw':Nat}{Q:Bool->SortSt->Prop}(hS:AllS S (arrOf st))(hk:kindOf st=κ)(hF:failedOf st=none)(p1:(pendingOf st)[i]?=some (sa,na,pw))(p2:(pendingOf st)[i+1]?=some (sa+na,nb,pw'))
  (hz:sa+na+nb<=(arrOf st).size) (n1:1<=na) (n2:1<=nb) (s1:Sg rk (arrOf st) sa na) (s2:Sg rk (arrOf st) (sa+na) nb) (h:∀st',Mt κ rk st i sa na nb pw st'->Q true st') :
  wpS (model prog w) A E s (mergeAt' i) Q st:=by
 rw[mAt_eq]
 refine wpS_bind (wpS_get ?_)
 rw[p1,p2]
 dsimp only
 refine wpS_bind (wpS_modify (f:=fun _=>setPending st (((pendingOf st).setIfInBounds i (sa,na+nb,pw)).eraseIdxIfInBounds (i+1))) ?_)
 generalize hst1:setPending st (((pendingOf st).setIfInBounds i (sa,na+nb,pw)).eraseIdxIfInBounds (i+1))=st1
 have hk1:kindOf st1=κ:=by rw[<- hst1];exact hk
 have hF1:failedOf st1=none:=by rw[<- hst1];exact hF
 have hA1:arrOf st1=arrOf st:=by rw[<- hst1]
 have hP1:pendingOf st1=((pendingOf st).setIfInBounds i (sa,na+nb,pw)).eraseIdxIfInBounds (i+1):=by rw[<- hst1]
 have hSi:∀j (hj:j < (arrOf st).size),S (arrOf st)[j]:=fun j hj=>hS _ (by simp)
 have s1':∀a b,sa<=a->a<=b->b < sa+na->KR rk (arrOf st) a<=KR rk (arrOf st) b:=s1
 have s2':∀a b,sa+na<=a->a<=b->b < sa+na+nb->KR rk (arrOf st) a<=KR rk (arrOf st) b:=s2
 refine wpS_bind (w_elem (by omega) ?_)
 refine wpS_bind (w_gallop q hk1 (hSi _ _) hSi (by omega) (fun a b hb hab h1 h2=>by
   have:=s1' a b h1 hab h2
   rwa [KR_at (by omega),KR_at hb]at this) (by omega) fun k kn k1 k2=>?_)
 dsimp only
 have k1':∀a,sa<=a->a < sa+k->KR rk (arrOf st) a<=KR rk (arrOf st) (sa+na):=fun a h1 h2=>by
  have:=k1 a (by omega) h1 h2
  rw[if_neg (by decide)]at this
  rwa [KR_at (by omega),KR_at (by omega)]
 have k2':∀a,sa+k<=a->a < sa+na->KR rk (arrOf st) (sa+na) < KR rk (arrOf st) a:=fun a h1 h2=>by
  have:=k2 a (by omega) h1 h2
  rw[if_neg (by decide)]at this
  rwa [KR_at (by omega),KR_at (by omega)]
 by_cases h0:na - k=0
 ·rw[if_pos (by simpa using h0)]
  refine wpS_pure (h st1 ⟨by rw[hA1],hk1,hF1,hP1,fun j _=>by rw[hA1],fun a b h1 h2 h3=>?_⟩)
  rw[hA1]
  by_cases hb:b < sa+na
  ·exact s1' a b h1 h2 hb
  ·by_cases ha:a < sa+na
   ·exact Nat.le_trans (k1' a h1 (by omega)) (s2' (sa+na) b (by omega) (by omega) (by omega))
   ·exact s2' a b (by omega) h2 (by omega)
 ·rw[if_neg (by simpa using h0)]
  refine wpS_bind (w_elem (by omega) ?_)
  refine wpS_bind (w_gallop q hk1 (hSi _ _) hSi (by omega) (fun a b hb hab h1 h2=>by
    have:=s2' a b h1 hab h2
    rwa [KR_at (by omega),KR_at hb]at this) (by omega) fun l ln l1 l2=>?_)
  dsimp only
  have l1':∀a,sa+na<=a->a < sa+na+l->KR rk (arrOf st) a < KR rk (arrOf st) (sa+k+(na - k) - 1):=fun a h1 h2=>by
   have:=l1 a (by omega) h1 h2
   rw[if_pos rfl]at this
   rwa [KR_at (by omega),KR_at (by omega)]
  have l2':∀a,sa+na+l<=a->a < sa+na+nb->KR rk (arrOf st) (sa+k+(na - k) - 1)<=KR rk (arrOf st) a:=fun a h1 h2=>by
   have:=l2 a (by omega) h1 h2
   rw[if_pos rfl]at this
   rwa [KR_at (by omega),KR_at (by omega)]
  have el:sa+k+(na - k) - 1=sa+na - 1:=by omega
  rw[el]at l1' l2'
  by_cases hl0:l=0
  ·rw[if_pos (by simpa using hl0)]
   refine wpS_pure (h st1 ⟨by rw[hA1],hk1,hF1,hP1,fun j _=>by rw[hA1],fun a b h1 h2 h3=>?_⟩)
   rw[hA1]
   by_cases hb:b < sa+na
   ·exact s1' a b h1 h2 hb
   ·by_cases ha:a < sa+na
    ·exact Nat.le_trans (s1' a (sa+na - 1) h1 (by omega) (by omega)) (l2' b (by omega) (by omega))
    ·exact s2' a b (by omega) h2 (by omega)
  ·rw[if_neg (by simpa using hl0)]
   have hxz:((arrOf st).extract (sa+k) (sa+na)).size=na - k:=by rw[Array.size_extract];omega
   have hyz:((arrOf st).extract (sa+na) (sa+na+l)).size=l:=by rw[Array.size_extract];omega
   have H:Hy rk S ((arrOf st).extract (sa+k) (sa+na)) ((arrOf st).extract (sa+na) (sa+na+l)):=by
    refine ⟨ext_pw (by omega) fun a b h1 h2 h3=>s1' a b (by omega) h2 h3,ext_pw (by omega) fun a b h1 h2 h3=>s2' a b h1 h2 (by omega),fun j hj=>?_,fun j hj=>?_,by omega,by omega,fun j hj=>?_,fun j hj=>?_⟩
    ·rw[ext_at (by omega)];exact hSi _ _
    ·rw[ext_at (by omega)];exact hSi _ _
    ·rw[ext_at (by omega),ext_at (by omega)]
     have:=l1' (sa+na+j) (by omega) (by omega)
     rw[KR_at (by omega),KR_at (by omega)]at this
     simp only[hxz]
     have e2:sa+k+(na - k - 1)=sa+na - 1:=by omega
     simp only[e2]
     exact Nat.le_of_lt this
    ·rw[ext_at (by omega),ext_at (by omega)]
     have:=k2' (sa+k+j) (by omega) (by omega)
     rw[KR_at (by omega),KR_at (by omega)]at this
     simp only[Nat.add_zero]
     exact Nat.le_of_lt this
   have go:∀(r:Array Keyed) (st2:SortSt),Gs st1 st2->Po rk ((arrOf st).extract (sa+k) (sa+na)) ((arrOf st).extract (sa+na) (sa+na+l)) r->wpS (model prog w) A E s (do
       modify fun v=>setArr v (wb (arrOf v) (sa+k) r.toList 0)
       let v<-get
       pure (failedOf v).isNone) Q st2:=by
    rintro r st2 ⟨g,rfl⟩ ⟨hp,hw⟩
    refine wpS_bind (wpS_modify (wpS_bind (wpS_get ?_)))
    have hlen:r.toList.length=na - k+l:=by rw[hp.length_eq,List.length_append,Array.length_toList,Array.length_toList,hxz,hyz]
    have hb:sa+k+r.toList.length<=(arrOf st).size:=by omega
    have eA:arrOf (setArr (setG st1 g) (wb (arrOf (setG st1 g)) (sa+k) r.toList 0))=wb (arrOf st) (sa+k) r.toList 0:=by
     show wb (arrOf st1) _ _ _=_
     rw[hA1]
    have eF:failedOf (setArr (setG st1 g) (wb (arrOf (setG st1 g)) (sa+k) r.toList 0))=none:=hF1
    rw[eF]
    have gt:∀j,(wb (arrOf st) (sa+k) r.toList 0)[j]?=if sa+k<=j/\j < sa+k+r.toList.length then r.toList[j - (sa+k)]? else (arrOf st)[j]?:=fun j=>wb_get r.toList 0 (sa+k) (arrOf st) hb j
    have mid:∀j,sa+k<=j->j < sa+na+l->∃n,sa+k<=n/\n < sa+na+l/\KR rk (wb (arrOf st) (sa+k) r.toList 0) j=KR rk (arrOf st) n:=fun j j1 j2=>by
     have hj:j - (sa+k) < r.toList.length:=by omega
     have e:KR rk (wb (arrOf st) (sa+k) r.toList 0) j=rk (r.toList[j - (sa+k)]'hj):=by
      unfold KR
      rw[gt,if_pos (by omega),List.getElem?_eq_getElem hj]
     have hm:=hp.mem_iff.mp (List.getElem_mem hj)
     rw[e]
     rcases List.mem_append.mp hm with hm|hm
     ·obtain⟨n,hn,en⟩:=List.getElem_of_mem hm
      rw[Array.length_toList]at hn
      rw[Array.getElem_toList,ext_at (by omega)]at en
      refine ⟨sa+k+n,by omega,by omega,?_⟩
      rw[<- en,KR_at (by omega)]
     ·obtain⟨n,hn,en⟩:=List.getElem_of_mem hm
      rw[Array.length_toList]at hn
      rw[Array.getElem_toList,ext_at (by omega)]at en
      refine ⟨sa+na+n,by omega,by omega,?_⟩
      rw[<- en,KR_at (by omega)]
    have out:∀j,j < sa+k\/sa+na+l<=j->(wb (arrOf st) (sa+k) r.toList 0)[j]?=(arrOf st)[j]?:=fun j hj=>by rw[gt,if_neg (by omega)]
    refine wpS_pure (h _ ⟨?_,hk1,hF1,hP1,?_,?_⟩)
    ·rw[eA,Array.perm_iff_toList_perm,wb_list hb]
     have e:(arrOf st).toList=(arrOf st).toList.take (sa+k)++(((arrOf st).extract (sa+k) (sa+na)).toList++((arrOf st).extract (sa+na) (sa+na+l)).toList)++(arrOf st).toList.drop (sa+k+r.toList.length):=by
      rw[Array.toList_extract,Array.toList_extract,List.extract_eq_take_drop,List.extract_eq_take_drop]
      have e1:(arrOf st).toList.drop (sa+na)=((arrOf st).toList.drop (sa+k)).drop (na - k):=by rw[List.drop_drop];congr 1;omega
      rw[e1,show sa+na - (sa+k)=na - k by omega,show sa+na+l - (sa+na)=l by omega,<- List.take_add,hlen]
      have e2:(arrOf st).toList.drop (sa+k+(na - k+l))=((arrOf st).toList.drop (sa+k)).drop (na - k+l):=by rw[List.drop_drop]
      rw[e2,List.append_assoc,List.take_append_drop,List.take_append_drop]
     conv=>rhs;rw[e]
     exact (hp.append_left _).append_right _
    ·intro j hj
     rw[eA]
     exact out j (by omega)
    ·rw[eA]
     intro a b h1 h2 h3
     have kA:∀a,a < sa+k->KR rk (wb (arrOf st) (sa+k) r.toList 0) a=KR rk (arrOf st) a:=fun a ha=>KR_congr (out a (.inl ha))
     have kB:∀a,sa+na+l<=a->KR rk (wb (arrOf st) (sa+k) r.toList 0) a=KR rk (arrOf st) a:=fun a ha=>KR_congr (out a (.inr ha))
     by_cases ha:a < sa+k
     ·rw[kA a ha]
      by_cases hb1:b < sa+k
      ·rw[kA b hb1];exact s1' a b h1 h2 (by omega)
      ·by_cases hb2:b < sa+na+l
       ·obtain⟨n,m1,m2,en⟩:=mid b (by omega) hb2
        rw[en]
        by_cases hn:n < sa+na
        ·exact s1' a n h1 (by omega) hn
        ·exact Nat.le_trans (k1' a h1 ha) (s2' (sa+na) n (by omega) (by omega) (by omega))
       ·rw[kB b (by omega)]
        exact Nat.le_trans (k1' a h1 ha) (s2' (sa+na) b (by omega) (by omega) (by omega))
     ·by_cases ha2:a < sa+na+l
      ·by_cases hb2:b < sa+na+l
       ·have ha':a - (sa+k) < r.toList.length:=by omega
        have hb':b - (sa+k) < r.toList.length:=by omega
        have ea:KR rk (wb (arrOf st) (sa+k) r.toList 0) a=rk (r.toList[a - (sa+k)]'ha'):=by
         unfold KR
         rw[gt,if_pos (by omega),List.getElem?_eq_getElem ha']
        have eb:KR rk (wb (arrOf st) (sa+k) r.toList 0) b=rk (r.toList[b - (sa+k)]'hb'):=by
         unfold KR
         rw[gt,if_pos (by omega),List.getElem?_eq_getElem hb']
        rw[ea,eb]
        rcases Nat.lt_or_ge a b with hab|hab
        ·exact List.pairwise_iff_getElem.mp hw _ _ ha' hb' (by omega)
        ·have:a=b:=by omega
         subst this
         exact Nat.le_refl _
       ·obtain⟨n,m1,m2,en⟩:=mid a (by omega) ha2
        rw[en,kB b (by omega)]
        by_cases hn:n < sa+na
        ·exact Nat.le_trans (s1' n (sa+na - 1) (by omega) (by omega) (by omega)) (l2' b (by omega) (by omega))
        ·exact s2' n b (by omega) (by omega) (by omega)
      ·rw[kB a (by omega),kB b (by omega)]
       exact s2' a b (by omega) h2 (by omega)
   by_cases hle:na - k<=l
   ·simp only[if_pos hle]
    exact wpS_bind (w_mLo q H hk1 fun r st2 hg hP=>go r st2 hg hP)
   ·simp only[if_neg hle]
    exact wpS_bind (w_mHi q H hk1 fun r st2 hg hP=>go r st2 hg hP)
end
noncomputable def Ch(rk:Keyed->Nat)(xs:Array Keyed):List (Nat×Nat×Nat)->Nat->Nat->Prop
 | [],b,e=>b=e
 | p :: l,b,e=>p.1=b/\1<=p.2.1/\Sg rk xs b p.2.1/\Ch rk xs l (b+p.2.1) e
theorem Ch.len{rk:Keyed->Nat}{xs:Array Keyed}:∀{l:List (Nat×Nat×Nat)}{b e:Nat},Ch rk xs l b e->b+l.length<=e
 | [],b,e,h=>by cases h;simp
 | p :: l,b,e,h=>by
  have:=h.2.2.2.len
  have:=h.2.1
  rw[List.length_cons]
  omega
theorem Ch.append{rk:Keyed->Nat}{xs:Array Keyed}:∀{l l':List (Nat×Nat×Nat)}{b e:Nat},Ch rk xs (l++l') b e ↔ ∃m,Ch rk xs l b m/\Ch rk xs l' m e
 | [],l',b,e=>⟨fun h=>⟨b,rfl,h⟩,fun ⟨m,h1,h2⟩=>by cases h1;exact h2⟩
 | p :: l,l',b,e=>⟨fun ⟨h1,h2,h3,h4⟩=>by
     obtain⟨m,h5,h6⟩:=Ch.append.mp h4
     exact ⟨m,⟨h1,h2,h3,h5⟩,h6⟩,fun ⟨m,⟨h1,h2,h3,h5⟩,h6⟩=>⟨h1,h2,h3,Ch.append.mpr ⟨m,h5,h6⟩⟩⟩
theorem Ch.congr{rk:Keyed->Nat}{xs ys:Array Keyed}:∀{l:List (Nat×Nat×Nat)}{b e:Nat},(∀i,b<=i->i < e->ys[i]?=xs[i]?)->Ch rk xs l b e->Ch rk ys l b e
 | [],_,_,_,h=>h
 | p :: l,b,e,k,⟨h1,h2,h3,h4⟩=>by
  have:=h4.len
  refine ⟨h1,h2,fun i j hi hij hj=>?_,h4.congr fun i hi he=>k i (by omega) he⟩
  rw[KR_congr (k i hi (by omega)),KR_congr (k j (by omega) (by omega))]
  exact h3 i j hi hij hj
structure In(κ:SortKind)(rk:Keyed->Nat)(st:SortSt)(lo:Nat)(st':SortSt):Prop where
 perm:(arrOf st').Perm (arrOf st)
 kind:kindOf st'=κ
 failed:failedOf st'=none
 ch:Ch rk (arrOf st') (pendingOf st').toList 0 lo
theorem In.size{κ:SortKind}{rk:Keyed->Nat}{st st':SortSt}{lo:Nat}(h:In κ rk st lo st'):(arrOf st').size=(arrOf st).size:=h.perm.size_eq
section
variable {prog:Program}{w:World}{A:Around}{E:Value->Shared->Prop}{s:Shared}{κ:SortKind}{rk:Keyed->Nat}{S:Keyed->Prop}{st:SortSt}
theorem AllS.perm{xs ys:Array Keyed}(h:AllS S xs)(p:ys.Perm xs):AllS S ys:=fun q hq=>h q ((Array.perm_iff_toList_perm.mp p).mem_iff.mp hq)
theorem w_mIn(q:Asks prog w A s κ rk S){i lo:Nat}{st':SortSt}{Q:Bool->SortSt->Prop}(hS:AllS S (arrOf st))(hI:In κ rk st lo st')(hlo:lo<=(arrOf st).size)(hi:i+1 < (pendingOf st').size)
  (h:∀st'',In κ rk st lo st''->(pendingOf st'').size+1=(pendingOf st').size->(∀j,lo<=j->(arrOf st'')[j]?=(arrOf st')[j]?)->Q true st''):wpS (model prog w) A E s (mergeAt' i) Q st':=by
 obtain⟨perm,kind,failed,ch⟩:=hI
 have hl:(pendingOf st').toList.length=(pendingOf st').size:=Array.length_toList
 obtain⟨pre,p,p',post,e,ep⟩:∃pre p p' post,(pendingOf st').toList=pre++p :: p' :: post/\pre.length=i:=by
  refine ⟨(pendingOf st').toList.take i,(pendingOf st').toList[i]'(by omega),(pendingOf st').toList[i+1]'(by omega),(pendingOf st').toList.drop (i+2),?_,by rw[List.length_take];omega⟩
  have e1:=List.drop_eq_getElem_cons (l:=(pendingOf st').toList) (i:=i) (by omega)
  have e2:=List.drop_eq_getElem_cons (l:=(pendingOf st').toList) (i:=i+1) (by omega)
  rw[<- e2,<- e1,List.take_append_drop]
 rw[e]at ch
 obtain⟨m,c1,c2⟩:=Ch.append.mp ch
 obtain⟨sa,na,pw⟩:=p
 obtain⟨sb,nb,pw'⟩:=p'
 obtain⟨f1,f2,f3,g1,g2,g3,c3⟩:=c2
 dsimp only at f1 f2 f3 g1 g2 g3 c3
 subst f1
 subst g1
 have hlen:=c3.len
 have q1:(pendingOf st')[i]?=some (sa,na,pw):=by rw[<- Array.getElem?_toList,e,List.getElem?_append_right (by omega),ep,Nat.sub_self];rfl
 have q2:(pendingOf st')[i+1]?=some (sa+na,nb,pw'):=by rw[<- Array.getElem?_toList,e,List.getElem?_append_right (by omega),ep,Nat.add_sub_cancel_left];rfl
 have hz:=perm.size_eq
 refine w_mAt q (hS.perm perm) kind failed q1 q2 (by omega) f2 g2 f3 g3 fun st'' M=>?_
 have el:(pendingOf st'').toList=pre++(sa,na+nb,pw) :: post:=by
  rw[M.pend,Array.toList_eraseIdxIfInBounds,Array.toList_setIfInBounds,e,<- ep,List.set_append_right _ _ (Nat.le_refl _),Nat.sub_self,List.eraseIdx_append_of_length_le (by omega),Nat.add_sub_cancel_left]
  rfl
 refine h st'' ⟨M.perm.trans perm,M.kind,M.failed,?_⟩ ?_ fun j hj=>M.keep j (.inr (by omega))
 ·rw[el]
  refine Ch.append.mpr ⟨sa,c1.congr fun j _ hj=>M.keep j (.inl hj),rfl,by show 1<=na+nb;omega,M.sg,?_⟩
  show Ch rk _ post (sa+(na+nb)) lo
  rw[<- Nat.add_assoc]
  exact c3.congr fun j hj _=>M.keep j (.inr (by omega))
 ·have e1:=congrArg List.length el
  have e2:=congrArg List.length e
  rw[Array.length_toList]at e1 e2
  simp only[List.length_append,List.length_cons]at e1 e2
  omega
theorem Ch.modify{xs:Array Keyed}(pw:Nat):∀{l:List (Nat×Nat×Nat)}{i b e:Nat},Ch rk xs l b e->Ch rk xs (l.modify i fun x=>(x.1,x.2.1,pw)) b e
 | [],i,_,_,h=>by cases i<;>exact h
 | p :: l,0,_,_,h=>h
 | p :: l,i+1,_,_,⟨h1,h2,h3,h4⟩=>⟨h1,h2,h3,h4.modify pw (i:=i)⟩
theorem In.put{lo n pw:Nat}{z:SortSt}(h:In κ rk st lo z):In κ rk st lo (setPending z ((pendingOf z).modify ((pendingOf z).size - 1) fun x=>(x.1,x.2.1,pw))) :=
 ⟨h.perm,h.kind,h.failed,by
   show Ch rk (arrOf z) ((pendingOf z).modify ((pendingOf z).size - 1) fun x=>(x.1,x.2.1,pw)).toList 0 lo
   rw[Array.toList_modify]
   exact h.ch.modify pw⟩
theorem In.push{lo n:Nat}{z:SortSt}(h:In κ rk st lo z)(hn:1<=n)(hs:Sg rk (arrOf z) lo n):In κ rk st (lo+n) (setPending z ((pendingOf z).push (lo,n,0))) :=
 ⟨h.perm,h.kind,h.failed,by
   show Ch rk (arrOf z) ((pendingOf z).push (lo,n,0)).toList 0 (lo+n)
   rw[Array.toList_push]
   exact Ch.append.mpr ⟨lo,h.ch,rfl,hn,hs,rfl⟩⟩
theorem In.run{lo n:Nat}{z z':SortSt}(h:In κ rk st lo z)(b:Bs κ z lo n z'):In κ rk st lo z' :=
 ⟨b.perm.trans h.perm,b.kind,b.failed,by
   rw[b.pend]
   exact h.ch.congr fun i _ hi=>b.keep i (.inl hi)⟩
theorem Sg.congr{xs ys:Array Keyed}{lo n:Nat}(h:Sg rk xs lo n)(k:∀j,lo<=j->ys[j]?=xs[j]?):Sg rk ys lo n:=fun i j hi hij hj=>by
 rw[KR_congr (k i hi),KR_congr (k j (by omega))]
 exact h i j hi hij hj
theorem w_sort(q:Asks prog w A s κ rk S){Q:Unit->SortSt->Prop}(hS:AllS S (arrOf st))(hk:kindOf st=κ)(hF:failedOf st=none)(hP:pendingOf st=#[])
  (h:∀st',(arrOf st').Perm (arrOf st)->failedOf st'=none->Sg rk (arrOf st') 0 (arrOf st).size->Q () st'):wpS (model prog w) A E s sortRuns' Q st:=by
 rw[sortRuns'_eq]
 refine wpS_bind (wpS_get ?_)
 dsimp only
 have I0:In κ rk st 0 st:=⟨Array.Perm.refl _,hk,hF,by rw[hP];rfl⟩
 refine wpS_bind (wpS_mono (wpS_forRange (I:=fun x c z=>∃lo,c=(none,lo)/\In κ rk st lo z/\lo<=(arrOf st).size/\(x<=lo\/lo=(arrOf st).size)) (Q:=fun c z=>c=(none,(arrOf st).size)/\In κ rk st (arrOf st).size z) ?step ?fin ⟨0,rfl,I0,Nat.zero_le _,.inl (Nat.le_refl _)⟩) ?post)
 case fin =>
  rintro c z ⟨lo,rfl,hI,h1,h2⟩
  have:lo=(arrOf st).size:=by omega
  subst this
  exact ⟨rfl,hI⟩
 case step =>
  rintro x c z _ hx ⟨lo,rfl,hI,h1,h2⟩
  dsimp only
  by_cases hge:lo ≥ (arrOf st).size
  ·rw[if_pos hge]
   have:lo=(arrOf st).size:=by omega
   subst this
   exact wpS_pure ⟨rfl,hI⟩
  ·rw[if_neg hge]
   have hz:=hI.size
   have hS':AllS S (arrOf z):=AllS.perm hS hI.perm
   refine wpS_bind (w_cr q hS' (by omega) (by omega) ⟨Array.Perm.refl _,hI.kind,hI.failed,rfl,fun _ _=>rfl⟩ fun n z1 b1 n1 n2 g1=>?_)
   dsimp only
   have rest:∀(n:Nat) (z1:SortSt),In κ rk st lo z1->1<=n->lo+n<=(arrOf st).size->Sg rk (arrOf z1) lo n->∃c,c=n/\In κ rk st lo z1/\Sg rk (arrOf z1) lo c/\1<=c/\lo+c<=(arrOf st).size:=fun n z1 a b c d=>⟨n,rfl,a,d,b,c⟩
   by_cases hlt:n < minRun' (arrOf st).size (arrOf st).size 0
   case' pos =>
    rw[if_pos hlt]
    refine wpS_bind (wpS_lift (wpAny_rule ⟨rfl,?_⟩))
    refine wpS_bind (w_bins (N:=(arrOf st).size - lo) q hS' (n:=min ((arrOf st).size - lo) (minRun' (arrOf st).size (arrOf st).size 0)) (by omega) (by omega) (by omega) b1 g1 fun z2 b2 g2=>?_)
    simp only[Bool.not_true,Bool.false_eq_true,if_false]
    have hI2:=hI.run b2
    have m1:1<=min ((arrOf st).size - lo) (minRun' (arrOf st).size (arrOf st).size 0):=by omega
    have m2:lo+min ((arrOf st).size - lo) (minRun' (arrOf st).size (arrOf st).size 0)<=(arrOf st).size:=by omega
    clear b2 b1 g1
    generalize min ((arrOf st).size - lo) (minRun' (arrOf st).size (arrOf st).size 0)=m at *
   case' neg =>
    rw[if_neg hlt]
    have hI2:=hI.run b1
    have m1:=n1
    have m2:lo+n<=(arrOf st).size:=by omega
    have g2:=g1
    clear b1 g1 n1 n2 hlt
    generalize n=m at *
    generalize z1=z2 at *
   all_goals
    refine wpS_bind (wpS_get ?_)
    cases hb:(pendingOf z2).back? with
    | none=>exact wpS_bind (wpS_modify (wpS_pure ⟨lo+m,rfl,hI2.push m1 g2,m2,.inl (by omega)⟩))
    | some pb =>
     obtain⟨s1,n1,pv⟩:=pb
     dsimp only
     refine wpS_bind (wpS_mono (wpS_forRange (I:=fun _ c z=>c=(none,())/\In κ rk st lo z/\∀j,lo<=j->(arrOf z)[j]?=(arrOf z2)[j]?) (Q:=fun c z=>c=(none,())/\In κ rk st lo z/\∀j,lo<=j->(arrOf z)[j]?=(arrOf z2)[j]?) ?_ (fun _ _ hh=>hh) ⟨rfl,hI2,fun _ _=>rfl⟩) ?_)
     ·rintro y c z _ _ ⟨rfl,hI3,k3⟩
      refine wpS_bind (wpS_get ?_)
      by_cases hp:(pendingOf z).size > 1
      ·rw[if_pos hp]
       cases hq:(pendingOf z)[(pendingOf z).size - 2]? with
       | none=>exact wpS_pure ⟨rfl,hI3,k3⟩
       | some pq =>
        obtain⟨u1,u2,older⟩:=pq
        dsimp only
        split
        ·exact wpS_pure ⟨rfl,hI3,k3⟩
        ·refine wpS_bind (w_mIn q hS hI3 (by omega) (by omega) fun z4 hI4 _ k4=>?_)
         simp only[Bool.not_true,Bool.false_eq_true,if_false]
         exact wpS_pure ⟨rfl,hI4,fun j hj=>(k4 j hj).trans (k3 j hj)⟩
      ·rw[if_neg hp]
       exact wpS_pure ⟨rfl,hI3,k3⟩
     ·rintro c z ⟨rfl,hI3,k3⟩
      exact wpS_bind (wpS_modify (wpS_bind (wpS_modify (wpS_pure ⟨lo+m,rfl,(hI3.put (n:=0)).push m1 (g2.congr k3),m2,.inl (by omega)⟩))))
 case post =>
  rintro c z ⟨rfl,hI⟩
  dsimp only
  refine wpS_bind (wpS_mono (wpS_forRange (I:=fun x c z=>c=(none,())/\In κ rk st (arrOf st).size z/\(pendingOf z).size+x<=(arrOf st).size) (Q:=fun c z=>c=(none,())/\In κ rk st (arrOf st).size z/\(pendingOf z).size<=1) ?_ ?_ ⟨rfl,hI,?_⟩) ?_)
  ·rintro x c z _ hx ⟨rfl,hI,hx2⟩
   refine wpS_bind (wpS_get ?_)
   by_cases hp:(pendingOf z).size<=1
   ·rw[if_pos hp]
    exact wpS_pure ⟨rfl,hI,hp⟩
   ·rw[if_neg hp]
    refine wpS_bind (w_mIn q hS hI (Nat.le_refl _) (by (repeat' split)<;>omega) fun z4 hI4 hs4 _=>?_)
    simp only[Bool.not_true,Bool.false_eq_true,if_false]
    exact wpS_pure ⟨rfl,hI4,by omega⟩
  ·rintro c z ⟨rfl,hI,hx2⟩
   exact ⟨rfl,hI,by omega⟩
  ·have:=hI.ch.len
   rw[Array.length_toList]at this
   omega
  ·rintro c z ⟨rfl,hI,hp⟩
   refine wpS_pure (h z hI.perm hI.failed ?_)
   have hc:=hI.ch
   have hl:(pendingOf z).toList.length<=1:=by rw[Array.length_toList];exact hp
   match (pendingOf z).toList,hc,hl with
   | [],hc,_ =>
    have:0=(arrOf st).size:=hc
    intro i j _ _ hj
    omega
   | [p],⟨h1,h2,h3,h4⟩,_ =>
    have h4:0+p.2.1=(arrOf st).size:=h4
    rw[Nat.zero_add]at h4
    rw[h4]at h3
    exact h3
end
end SG
namespace L2
open PySem PySem.Spec PyProof.Rows PySem.W
section
variable {prog:Program}{w:World}{A:Around}{E:Value->Shared->Prop}{s:Shared}{κ:SortKind}{vs:List Value}{rk:Value->Nat}
theorem pairs_mem{p:Keyed}(h:p∈(pairsOf vs).toList):p.1=p.2/\p.2∈vs:=by
 have h:p∈(vs.toArray.zip vs.toArray).toList:=h
 rw[Array.toList_zip]at h
 obtain⟨i,hi,e⟩:=List.getElem_of_mem h
 rw[List.getElem_zip]at e
 subst e
 exact ⟨rfl,List.getElem_mem _⟩
theorem list_sort_rk{a:Addr}{n:Nat}{P:Fin->Shared->Prop}(ho:s.heap.get? a=some (seqObj "list" vs.toArray n))(hz:vs.length<=sizeLine)
  (hk:2<=vs.length->∀s':Shared,(∀b o,b≠a->s.heap.get? b=some o->s'.heap.get? b=some o)->∀Q':SortKind->Shared->Prop,Q' κ s'->wpAny (model prog w) A (keyKind' vs.toArray) Q' E s')
  (hlt:∀s':Shared,(∀b o,b≠a->s.heap.get? b=some o->s'.heap.get? b=some o)->∀x y,x∈vs->y∈vs->∀Q':Bool->Shared->Prop,Q' (decide (rk x < rk y)) s'->wpAny (model prog w) A (keyLt' κ x y) Q' (fun _ _=>False) s')
  (h:∀out:List Value,out.Perm vs->out.Pairwise (fun x y=>rk x<=rk y)->P (.done (.ret .none)) { s with heap:=sortedHeap s.heap a vs out.toArray }) :
  wpAny (model prog w) A (Builtin.«list.sort» ⟨[.ref a],[]⟩) P E s:=by
 rw[list_sort_plain]
 have ha:a < s.heap.objs.size:=Heap.lt_size ho
 refine wpAny_bind (listItems_at ho rfl ?_)
 refine wpAny_bind (listUpdate_at ho rfl ?_)
 obtain⟨e1,ho1⟩:∃e1,(s.heap.update a (Obj.mapSeq fun _=>#[])).get? a=some (seqObj "list" #[] e1):=⟨_,get?_update_seq ho (fun _=>#[])⟩
 refine wpAny_bind (seqEpoch_at ho1 rfl ?_)
 refine wpAny_bind (wpAny_newTuple ?_)
 refine wpAny_bind (wpAny_newList ?_)
 refine wpAny_holding ?_
 have ho6:(((s.heap.update a (Obj.mapSeq fun _=>#[])).push (seqObj "tuple" vs.toArray 0)).push (seqObj "list" #[] 0)).get? a=some (seqObj "list" #[] e1):=by
  rw[Heap.get?_push_ne _ _ _ (by rw[size_push',Heap.size_update];exact Nat.ne_of_lt (Nat.lt_succ_of_lt ha)),Heap.get?_push_ne _ _ _ (by rw[Heap.size_update];exact Nat.ne_of_lt ha)]
  exact ho1
 have kp:∀b o,b≠a->s.heap.get? b=some o->(((s.heap.update a (Obj.mapSeq fun _=>#[])).push (seqObj "tuple" vs.toArray 0)).push (seqObj "list" #[] 0)).get? b=some o:=fun b o hb e=>by
  refine Heap.get?_push_of_some _ (Heap.get?_push_of_some _ ?_)
  rw[Heap.get?_update_ne _ _ _ _ hb]
  exact e
 show wpAny (model prog w) A _ P E { s with heap:=((s.heap.update a (Obj.mapSeq fun _=>#[])).push (seqObj "tuple" vs.toArray 0)).push (seqObj "list" #[] 0) }
 dsimp only
 have hsz:vs.toArray.size=vs.length:=by simp
 have out0:((pairsOf vs).map (·.2))=vs.toArray:=by
  apply Array.toList_inj.mp
  rw[Array.toList_map]
  show (vs.toArray.zip vs.toArray).toList.map (·.2)=_
  simp only[Array.toList_zip]
  exact List.map_snd_zip (Nat.le_refl _)
 by_cases h2:vs.toArray.size < 2
 ·rw[if_pos h2,if_pos h2]
  refine wpAny_bind (wpAny_pure ?_)
  rw[StateT.run_pure]
  refine wpAny_bind (wpAny_pure ?_)
  dsimp only
  refine wpAny_bind (seqEpoch_at ho6 rfl ?_)
  refine wpAny_bind (listUpdate_at ho6 rfl ?_ (hsz2:=by rw[Array.size_map];show (pairsOf vs).size<=_;rw[pairsOf_size];exact Nat.le_succ_of_le hz))
  simp only[bne_self_eq_false,Bool.false_eq_true,if_false]
  have h':=h vs (List.Perm.refl _) (by
    match vs,h2 with
    | [],_=>exact .nil
    | [x],_=>exact List.pairwise_singleton _ _
    | x :: y :: z,h2=>simp at h2;omega)
  rw[<- out0]at h'
  exact wpAny_pure h'
 ·rw[if_neg h2,if_neg h2]
  have h2':2<=vs.length:=by omega
  refine wpAny_bind (hk h2' _ kp _ ?_)
  have run:=SG.w_sort (prog:=prog) (w:=w) (A:=A) (E:=E) (κ:=κ) (rk:=fun p=>rk p.1) (S:=fun p=>p.1∈vs) (st:=SortSt.mk' κ (pairsOf vs) #[] 7 none)
   (s:={ s with heap:=((s.heap.update a (Obj.mapSeq fun _=>#[])).push (seqObj "tuple" vs.toArray 0)).push (seqObj "list" #[] 0) })
   (Q:=fun _ st'=>(arrOf st').Perm (pairsOf vs)/\failedOf st'=none/\SG.Sg (fun p=>rk p.1) (arrOf st') 0 (pairsOf vs).size)
   (fun x y hx hy Q' hQ'=>hlt _ kp _ _ hx hy Q' hQ') (fun p hp=>by have:=pairs_mem hp;show p.1∈vs;rw[this.1];exact this.2) rfl rfl rfl fun st' p1 p2 p3=>⟨p1,p2,p3⟩
  refine wpAny_bind (wpAny_mono run ?_ fun _ _ e=>e)
  rintro⟨⟨⟩,st'⟩ s' ⟨rfl,hp,hf,hs⟩
  dsimp only at hp hf hs ⊢
  refine wpAny_bind (seqEpoch_at ho6 rfl ?_)
  have hpl:=Array.perm_iff_toList_perm.mp hp
  have eq12:∀p∈(arrOf st').toList,p.1=p.2:=fun p h=>(pairs_mem (hpl.mem_iff.mp h)).1
  have hO:((arrOf st').map (·.2)).toList.Perm vs:=by
   rw[Array.toList_map]
   have e:(pairsOf vs).toList.map (·.2)=vs:=by rw[<- Array.toList_map,out0]
   have:=hpl.map (·.2)
   rw[e]at this
   exact this
  have hL:((arrOf st').map (·.2)).toList.length=vs.length:=hO.length_eq
  rw[Array.length_toList]at hL
  refine wpAny_bind (listUpdate_at ho6 rfl ?_ (hsz2:=by rw[hL];exact Nat.le_succ_of_le hz))
  rw[hf]
  simp only[bne_self_eq_false,Bool.false_eq_true,if_false]
  refine wpAny_pure ?_
  have:=h ((arrOf st').map (·.2)).toList hO (by
    rw[Array.toList_map,List.pairwise_map,List.pairwise_iff_getElem]
    intro i j hi hj hij
    rw[Array.length_toList]at hi hj
    have hz2:(arrOf st').size=(pairsOf vs).size:=hp.size_eq
    have:=hs i j (Nat.zero_le _) (by omega) (by omega)
    rw[SG.KR_at hi,SG.KR_at hj]at this
    rw[Array.getElem_toList,Array.getElem_toList,<- eq12 _ (by simp),<- eq12 _ (by simp)]
    exact this)
  rw[Array.toArray_toList]at this
  exact this
theorem sorted_rk{l:Addr}{Q:Value->Shared->Prop}(hl:s.heap.IsList l vs.toArray)(hz:vs.length<=sizeLine)
  (hk:2<=vs.length->∀s':Shared,(∀b o,s.heap.get? b=some o->s'.heap.get? b=some o)->∀(E:Value->Shared->Prop) (Q':SortKind->Shared->Prop),Q' κ s'->wpAny (model prog w) A.in1.in1 (keyKind' vs.toArray) Q' E s')
  (hlt:∀s':Shared,(∀b o,s.heap.get? b=some o->s'.heap.get? b=some o)->∀x y,x∈vs->y∈vs->∀Q':Bool->Shared->Prop,Q' (decide (rk x < rk y)) s'->wpAny (model prog w) A.in1.in1 (keyLt' κ x y) Q' (fun _ _=>False) s')
  (h:∀out:List Value,out.Perm vs->out.Pairwise (fun x y=>rk x<=rk y)->Q (.ref (s.heap.objs.size+1)) { s with heap:=sortedAll s.heap vs out.toArray }) :
  wpAny (model prog w) A (call (.builtin "sorted") [.ref l]) Q E s:=by
 refine Calls.call_function_entry kind_sorted plain_sorted entry_sorted (args_sorted1 _) ?_
 unfold Builtin.«sorted»
 refine wpAny_bind (m:=checkCount "sorted" 1 1 _) (wpAny_pure ?_)
 refine wpAny_bind (collect_list hl ?_ (hsz:=hz))
 refine wpAny_bind (wpAny_newList ?_ hz)
 have hsz:((s.heap.push (seqObj "list" #[] 0)).update s.heap.objs.size (Obj.mapSeq (·++vs.toArray))).objs.size=s.heap.objs.size+1:=by
  rw[Heap.size_update,size_push']
 have hoL:(((s.heap.push (seqObj "list" #[] 0)).update s.heap.objs.size (Obj.mapSeq (·++vs.toArray))).push (seqObj "list" vs.toArray 0)).get? (s.heap.objs.size+1)=some (seqObj "list" vs.toArray 0):=by
  rw[<- hsz];exact Heap.get?_push_size _ rfl
 have keep:∀b o,s.heap.get? b=some o->b≠s.heap.objs.size+1/\(((s.heap.push (seqObj "list" #[] 0)).update s.heap.objs.size (Obj.mapSeq (·++vs.toArray))).push (seqObj "list" vs.toArray 0)).get? b=some o:=fun b o q=>by
  have hlt:b < s.heap.objs.size:=Heap.lt_size q
  refine ⟨Nat.ne_of_lt (Nat.lt_succ_of_lt hlt),?_⟩
  rw[Heap.get?_push_ne _ _ _ (by rw[hsz];exact Nat.ne_of_lt (Nat.lt_succ_of_lt hlt)),Heap.get?_update_ne _ _ _ _ (Nat.ne_of_lt hlt),Heap.get?_push_ne _ _ _ (Nat.ne_of_lt hlt)]
  exact q
 show wpAny _ _ _ _ _ { s with heap:=((s.heap.push (seqObj "list" #[] 0)).update s.heap.objs.size (Obj.mapSeq (·++vs.toArray))).push (seqObj "list" vs.toArray 0) }
 rw[hsz]
 refine wpAny_bind (wpAny_holding (wpAny_call_entry slot_list_sort ⟨_,hoL,rfl⟩ entry_list_sort (list_sort_rk (κ:=κ) (rk:=rk) hoL hz (fun h2 s' k Q' q=>hk h2 s' (fun b o e=>k b o (keep b o e).1 (keep b o e).2) _ Q' q)
   (fun s' k x y hx hy Q' q=>hlt s' (fun b o e=>k b o (keep b o e).1 (keep b o e).2) x y hx hy Q' q) fun out o1 o2=>⟨_,rfl,?_⟩) (args_list_sort _)))
 exact wpAny_pure ⟨_,rfl,h out o1 o2⟩
end
end L2
namespace SG
structure Wk{α:Type}(lt:α->α->Bool):Prop where
 irr:∀a,lt a a=false
 tr:∀a b c,lt a b=true->lt b c=true->lt a c=true
 nt:∀a b c,lt a b=false->lt b c=false->lt a c=false
theorem cnt_le{α:Type}{p q:α->Bool}:∀{l:List α},(∀a∈l,p a=true->q a=true)->l.countP p<=l.countP q
 | [],_=>Nat.le_refl _
 | a :: l,h=>by
  have ih:=cnt_le (l:=l) fun x hx=>h x (List.mem_cons_of_mem _ hx)
  rw[List.countP_cons,List.countP_cons]
  have:=h a List.mem_cons_self
  cases hp:p a
  ·simp;omega
  ·rw[this hp];simp;omega
theorem cnt_lt{α:Type}{p q:α->Bool}:∀{l:List α},(∀a∈l,p a=true->q a=true)->(∃a∈l,p a=false/\q a=true)->l.countP p < l.countP q
 | [],_,⟨_,h,_⟩=>by simp at h
 | a :: l,h,⟨x,hx,h1,h2⟩=>by
  rw[List.countP_cons,List.countP_cons]
  rcases List.mem_cons.mp hx with rfl|hx
  ·have:=cnt_le (l:=l) fun x hx=>h x (List.mem_cons_of_mem _ hx)
   rw[h1,h2]
   simp
   omega
  ·have ih:=cnt_lt (l:=l) (fun x hx=>h x (List.mem_cons_of_mem _ hx)) ⟨x,hx,h1,h2⟩
   have:=h a List.mem_cons_self
   cases hp:p a
   ·simp;omega
   ·rw[this hp];simp;omega
theorem rank{α:Type}{lt:α->α->Bool}(W:Wk lt){l:List α}{x y:α}(hx:x∈l)(hy:y∈l):decide (l.countP (fun a=>lt a x) < l.countP (fun a=>lt a y))=lt x y:=by
 cases h:lt x y
 ·rw[decide_eq_false_iff_not,Nat.not_lt]
  refine cnt_le fun a _ ha=>?_
  cases h2:lt a x
  ·rw[W.nt a x y h2 h]at ha;cases ha
  ·rfl
 ·rw[decide_eq_true_eq]
  exact cnt_lt (fun a _ ha=>W.tr a x y ha h) ⟨x,hx,W.irr x,h⟩
theorem lex_wk:Wk HT.lexLt:=by
 refine ⟨fun a=>?_,fun a=>?_,fun a=>?_⟩
 ·induction a with
  | nil=>rfl
  | cons x a ih=>rw[HT.lexLt_cons,if_pos rfl];exact ih
 ·induction a with
  | nil =>
   intro b c h1 h2
   cases c with
   | nil=>cases b<;>cases h2
   | cons z c=>rfl
  | cons x a ih =>
   intro b c h1 h2
   cases b with
   | nil=>cases h1
   | cons y b =>
    cases c with
    | nil=>cases h2
    | cons z c =>
     rw[HT.lexLt_cons]at h1 h2 ⊢
     by_cases e1:x=y
     ·subst e1
      rw[if_pos rfl]at h1
      by_cases e2:x=z
      ·subst e2
       rw[if_pos rfl]at h2 ⊢
       exact ih b c h1 h2
      ·rw[if_neg e2]at h2 ⊢;exact h2
     ·rw[if_neg e1]at h1
      have h1:=of_decide_eq_true h1
      by_cases e2:y=z
      ·subst e2
       rw[if_neg e1]
       exact decide_eq_true h1
      ·rw[if_neg e2]at h2
       have h2:=of_decide_eq_true h2
       rw[if_neg (by omega)]
       exact decide_eq_true (by omega)
 ·induction a with
  | nil =>
   intro b c h1 h2
   cases b with
   | nil=>exact h2
   | cons y b=>cases h1
  | cons x a ih =>
   intro b c h1 h2
   cases c with
   | nil=>rfl
   | cons z c =>
    cases b with
    | nil=>cases h2
    | cons y b =>
     rw[HT.lexLt_cons]at h1 h2 ⊢
     by_cases e1:x=y
     ·subst e1
      rw[if_pos rfl]at h1
      by_cases e2:x=z
      ·subst e2
       rw[if_pos rfl]at h2 ⊢
       exact ih b c h1 h2
      ·rw[if_neg e2]at h2 ⊢;exact h2
     ·rw[if_neg e1]at h1
      have h1:=of_decide_eq_false h1
      by_cases e2:y=z
      ·subst e2
       rw[if_neg e1]
       exact decide_eq_false h1
      ·rw[if_neg e2]at h2
       have h2:=of_decide_eq_false h2
       rw[if_neg (by omega)]
       exact decide_eq_false (by omega)
theorem lex_eq:∀{a b:List Int},HT.lexLt a b=false->HT.lexLt b a=false->a=b
 | [],[],_,_=>rfl
 | [],_ :: _,h,_=>by cases h
 | _ :: _,[],_,h=>by cases h
 | x :: a,y :: b,h1,h2=>by
  rw[HT.lexLt_cons]at h1 h2
  by_cases e:x=y
  ·subst e
   rw[if_pos rfl]at h1 h2
   rw[lex_eq h1 h2]
  ·rw[if_neg e]at h1
   rw[if_neg (fun z=>e z.symm)]at h2
   have h1:=of_decide_eq_false h1
   have h2:=of_decide_eq_false h2
   omega
theorem sorted_uniq{α:Type}{lt:α->α->Bool}(an:∀a b,lt a b=false->lt b a=false->a=b):∀{l m:List α},l.Perm m->l.Pairwise (fun a b=>lt b a=false)->m.Pairwise (fun a b=>lt b a=false)->l=m
 | [],m,p,_,_=>by rw[List.nil_perm.mp p]
 | x :: l,[],p,_,_=>by simp at p
 | x :: l,y :: m,p,h1,h2=>by
  have e:x=y:=by
   have hx:x∈y :: m:=p.mem_iff.mp List.mem_cons_self
   have hy:y∈x :: l:=p.mem_iff.mpr List.mem_cons_self
   rcases List.mem_cons.mp hx with e|hx
   ·exact e
   ·rcases List.mem_cons.mp hy with e|hy
    ·exact e.symm
    ·exact an x y ((List.pairwise_cons.mp h2).1 x hx) ((List.pairwise_cons.mp h1).1 y hy)
  subst e
  rw[sorted_uniq an (List.perm_cons x |>.mp p) (List.pairwise_cons.mp h1).2 (List.pairwise_cons.mp h2).2]
end SG
namespace L2
open PySem PySem.Spec PyProof.Rows PySem.W
section
variable {X:Cx}{α:Type}[Inhabited α]
noncomputable def rSortG(K:PySem.W.Frag)(Rep:Hp->Addr->α->Prop)(fn:Hp->V->α)(lt:α->α->Bool):List V->Hp->VK->Prop:=fun xs H Q=>∃(a:Addr) (us:List V),xs=[.ref a]/\SqL K H a us/\us.length<=sizeLine /\
 (∀v∈us,∃c x,v=.ref c/\Rep H c x)/\∀(p:Addr) (us':List V),H p=none->us'.Perm us->(us'.map (fn H)).Pairwise (fun a b=>lt b a=false)->Q (.ref p) (upd H p (.lst us'))
theorem vals_perm{us:List V}{its:List Value}:∀{out:List Value},out.Perm its->Vals us its->∃us':List V,us'.Perm us/\Vals us' out:=by
 intro out p
 induction p generalizing us with
 | nil=>intro h;exact ⟨us,List.Perm.refl _,h⟩
 | cons x _ ih =>
  intro h
  cases h with
  | cons h t =>
   obtain⟨us',p,r⟩:=ih t
   exact ⟨_,p.cons _,.cons h r⟩
 | swap x y l =>
  intro h
  cases h with
  | cons h1 t=>cases t with|cons h2 t=>exact ⟨_,List.Perm.swap _ _ _,.cons h2 (.cons h1 t)⟩
 | trans _ _ ih1 ih2 =>
  intro h
  obtain⟨u2,p2,r2⟩:=ih2 h
  obtain⟨u1,p1,r1⟩:=ih1 r2
  exact ⟨u1,p1.trans p2,r1⟩
end
open PySem PySem.Spec PyProof.Rows
end L2
namespace L3
open PySem PySem.Spec PyProof.Rows L2
theorem among_snoc{pos pos':Pos}{c v:Value}:∀(l:List Value),TriplesOk l->codeAmong pos' (l++[rawInt pos.line,rawInt pos.col,c])=some v->codeAmong pos' l=some v\/v=c:=by
 intro l h e
 fun_induction TriplesOk l with
 | case1 =>
  simp only[List.nil_append,codeAmong,rawInt]at e
  split at e
  ·exact .inr (Option.some.inj e).symm
  ·cases e
 | case2 a t b u x rest ih =>
  simp only[List.cons_append,codeAmong]at e ⊢
  split at e
  ·rename_i hc;rw[if_pos hc];exact .inl e
  ·rename_i hc;rw[if_neg hc];exact ih h e
 | case3 l h1 h2=>exact h.elim
structure Lm(K:Fg)(x:Str)(fd:FuncData):Prop where
 ex:∃c P,fd.code=.ref c/\PySem.W.codeHdIn K c P=true/\(P,x)∈TB K/\∀z∈TB K,z.1=P->z.2=x
section
variable {K:Fg}{F:Hp}
end
section
variable {P:Program}{w:World}{K:Fg}{mg:Str->Option Value}{base:Heap}
theorem wfnL{x qual:Str}{st:Stmt}{f c:Addr}{fd:FuncData}{N ps:List Str}{k:Nat}{con:Con}{ts:TDS}(F:Fun K x qual st f fd)(hcd:fd.code=.ref c)(S:FnScope N ps (defScope st))
  (hb:∀(A:Around) (outer:List Env) (s:Shared) (H:Hp) (E:XK),Room k (A.deeper (envOfC qual (defScope st) s.heap.objs.size f (.ref c)))->WSs (cxOf CX0 P w K mg base N qual (defScope st) f (.ref c) A outer s H E).nox (defBody st) (liftS K ts))
  (hl:∀args Qd,con args Qd->args.length=ps.length) (hc:∀args Qd,con args Qd->(∀s∈args,∀d,s≠.ow d)/\ts (endsOf args Qd) (startE N.length args)):FnOk P w K mg base CX0 (k+1) f fd ps (conSp K con):=by
 obtain⟨oc,od,kV,doc,pm,an,cdv,ct,osl,rfl,lk,hcd'⟩:=F.ex
 have e:cdv=.ref c:=hcd
 subst e
 refine fn_of lk hcd' S (fun vs H Q E h=>?_) fun A outer s H vs Q E hr hsp=>⟨_,(hb A outer s H E hr).h.nox,l_def hc hsp⟩
 obtain⟨G,F',args,Qd,R,w',_⟩:=h
 have h1:=hl args Qd w'
 have h2:=R.len
 rw[List.length_map,List.length_map]at h2
 rw[h2,h1]
end
theorem rel_law{K:Fg}{H:Hp}{a:Addr}{ns:List Int}(hS:SqL K H a (ns.map V.int))(hT:∀z∈TB K,H z.1=some (.tbl #[])) :
  ∃F:Hp,Rel K ⟨H,F,fun _=>none⟩ F [some (.ref a)] H [some (.fz (scrD ns))]:=by
 refine ⟨fun b=>match H b with
   | some (.tbl ps)=>none
   | o=>o,?_⟩
 have su:Sub (fun b=>match H b with
   | some (.tbl ps)=>none
   | o=>o) H:=fun b o e=>by
  dsimp only at e
  split at e
  ·cases e
  ·exact e
 have back:∀b u,H b=some u->stk u=false\/(∃o x,u=.frz o x)->(match H b with
   | some (.tbl ps)=>none
   | o=>o)=some u:=fun b u e s=>by
  rw[e]
  cases u<;>first|rfl|(rcases s with s|⟨_,_,s⟩<;>cases s)
 have hS':SqL K (fun b=>match H b with
   | some (.tbl ps)=>none
   | o=>o) a (ns.map V.int):=by
  rcases hS with (h|⟨o,h⟩)|h
  ·exact .inl (.inl (back _ _ h (.inl rfl)))
  ·exact .inl (.inr ⟨o,back _ _ h (.inr ⟨_,_,rfl⟩)⟩)
  ·exact .inr h
 have tb:TabOk K (fun b=>match H b with
   | some (.tbl ps)=>none
   | o=>o) H:=fun z hz=>by
  have e:=hT z hz
  refine ⟨by dsimp only;rw[e],#[],e,trivial,fun pos v q=>?_⟩
  cases q
 exact rel_call (vs:=[.ref a]) (ds:=[scrD ns]) su tb (.cons (.scr hS') .nil)
end L3
namespace L2
open PySem PySem.Spec PyProof.Rows
noncomputable def OnlyT(ts:List Addr)(H:Hp):Prop:=(∀b,H b=none\/(∃o xs,H b=some (.frz o (.lst xs)))\/b∈ts)/\∀P∈ts,H P=some (.tbl #[])
theorem law_callT{P:Program}{w:World}{K:PySem.W.Frag}{mg mb:Str->Option Value}{CX:CXT}{k:Nat}{fa a:Addr}{fd:FuncData}{x:Str}{sp:Sp}{s₁:Shared}{vs:List Value}{ns:List Int}{ts:List Addr}
  (KX:K.In s₁.heap) (hts:∀P∈ts,s₁.heap.get? P=some (PySem.W.tabObj #[])) (hct:∀P∈ts,K.lookup P=none/\∃c,PySem.W.codeHdIn K c P=true)
  (hns:s₁.heap.Ns mainGlobals mg) (hb:s₁.heap.Ns builtinsNs mb) (hbb:∀x:Str,x ≠ "__name__"->mb x=bootBuiltins x) (hlim:s₁.heap.NoLimit) (hbm:BmOk mg s₁.heap) (hg:s₁.gens=#[])
  (ha:s₁.heap.get? a=some { cls:=.type "list",data:=.seq vs.toArray }) (hi:IntsAre vs ns) (hl:ns.length<=sizeLine) (hr:Room k callerA)
  (F:∀base:Heap,K.In base->base.Ns mainGlobals mg->FnOk P w K mg base CX k fa fd [x] sp) (hbind:∀(s:Shared) (u:Value),BindsTo s fd ⟨[u],[]⟩ [(x,u)])
  (hsp:∀H:Hp,OnlyT ts H->SqL K H a (ns.map V.int)->sp [.ref a] H (fun v _=>v=.bl true) fun _ _ _=>False)
  (hCX:∀H e s',CX [] H s₁ (fun _ _ _=>False) e s'->False) :
  codeAny (model P w) callerA (.call (.ref fa) ⟨[.ref a],[]⟩) (fun r s'=>r=.ok (.ret (.bool true))/\OldK s₁.heap s'.heap/\s'.os=s₁.os/\AllBare s'.gens) s₁:=by
 have rv:=vals_ints hi
 have lenV:=hi.length
 have nat:a∉ts:=fun z=>by
  have:=hts a z
  rw[ha]at this
  cases this
 have core:∀H:Hp,OnlyT ts H->SqL K H a (ns.map V.int)->HOk P w H s₁.heap->(∀b,H b≠none->b=a\/b∈ts)->(H a≠none->K.lookup a=none) ->
   codeAny (model P w) callerA (.call (.ref fa) ⟨[.ref a],[]⟩) (fun r s'=>r=.ok (.ret (.bool true))/\OldK s₁.heap s'.heap/\s'.os=s₁.os/\AllBare s'.gens) s₁:=by
  intro H hO hS hok hA hK
  have base_of:∀{b:Addr}{o:Obj},s₁.heap.get? b=some o->H b=none->(hidT s₁.heap H).get? b=some o:=fun e n=>hidT_get e n
  have noA:∀{b:Addr}{o:Obj},s₁.heap.get? b=some o->o.cls≠.none->o.cls≠.type "list"->H b=none:=fun {b o} e d1 d2=>by
   cases q:H b with
   | none=>rfl
   | some u =>
    rcases hA b (by rw[q];simp) with e'|e'
    ·subst e'
     rw[ha]at e;cases e
     exact absurd rfl d2
    ·rw[hts b e']at e;cases e
     exact absurd rfl d1
  have noD:∀{b:Addr}{o:Obj}{es:Array DictEntry}{ep:Nat},s₁.heap.get? b=some o->o.data=.dict es ep->H b=none:=fun {b o es ep} e d=>by
   cases q:H b with
   | none=>rfl
   | some u =>
    rcases hA b (by rw[q];simp) with e'|e'
    ·subst e'
     rw[ha]at e;cases e
     have d':Data.seq vs.toArray _=Data.dict es ep:=d
     cases d'
    ·rw[hts b e']at e;cases e
     cases d
  have nsK:∀{b:Addr}{m:Str->Option Value},s₁.heap.Ns b m->(hidT s₁.heap H).Ns b m:=fun {b m} ⟨o,es,ep,e,d,r⟩=>⟨o,es,ep,base_of e (noD e d),d,r⟩
  have hKb:K.In (hidT s₁.heap H):=fun b o e=>base_of (KX b o e) (by
    cases q:H b with
    | none=>rfl
    | some u =>
      rcases hA b (by rw[q];simp) with e'|e'
      · subst e'
        rw[hK (by rw[q];simp)]at e;cases e
      · rw[(hct b e').1]at e;cases e)
  have hM:Mod K mg (hidT s₁.heap H):=⟨hKb,nsK hns,⟨mb,nsK hb,hbb⟩,let ⟨mc,h1,h2⟩:=hlim;⟨mc,nsK h1,h2⟩,let ⟨bm,o,b1,b2,b3,b4,b5,b6⟩:=hbm;⟨bm,o,b1,b2,base_of b3 (noA b3 (by rw[b4];exact fun z=>by cases z) (by rw[b4];intro z;injection z with z;exact absurd z (by decide))),b4,b5,b6⟩⟩
  have e0:Env0 P w K mg (hidT s₁.heap H) callerA [] s₁ H:=⟨rfl,hM,fun b o e=>of_hidT e,Nat.le_of_eq (hidT_size _ _),trivial,fun b hb=>absurd (show b∈([]:List Addr) from hb) (by simp),hok,.of_eq hg⟩
  refine codeAny_mono ((F _ hKb (nsK hns)).run callerA [] s₁ H ⟨[.ref a],[]⟩ [.ref a] [.ref a] _ _ hr e0 (hbind s₁ (.ref a)) (.cons rfl .nil) (hsp H hO hS)) fun r s' h=>?_
  cases r with
  | error e=>exact (hCX H e s' h).elim
  | ok fl =>
   cases fl with
   | next=>exact False.elim h
   | brk=>exact False.elim h
   | cont=>exact False.elim h
   | ret u =>
    obtain⟨v,H',os,bare,un,hok',r',q⟩:=h
    have q':v=.bl true:=q
    subst q'
    obtain rfl:u=Value.bool true:=r'
    have tabs:∀b∈ts,∃more,s'.heap.get? b=some (PySem.W.tabObj (#[]++more)):=fun b hb=>by
     obtain⟨more,e⟩:=un.tbls b _ (hO.2 b hb)
     exact ⟨more,(show ObjOk P w H' s'.heap b (.tbl (#[]++more)) from hok' b _ e)⟩
    have others:∀b o,b∉ts->s₁.heap.get? b=some o->s'.heap.get? b=some o:=fun b o hb e=>by
     cases q:H b with
     | none=>exact un.keep b o e q (by intro z;exact absurd (show b∈([]:List Addr) from z) (by simp)) (by simp)
     | some u =>
      rcases hO.1 b with z|⟨ob,xs,z⟩|z
      ·rw[q]at z;cases z
      ·have z2:=un.frzs b ob _ z
       obtain⟨e1,_⟩:=hok b _ z
       obtain⟨e2,_⟩:=hok' b _ z2
       rw[e]at e1;cases e1
       exact e2
      ·exact absurd z hb
    refine ⟨rfl,⟨fun b o e=>?_,fun b o e=>?_⟩,os,bare⟩
    ·by_cases hb:b∈ts
     ·obtain⟨more,e2⟩:=tabs b hb
      obtain⟨_,c,hc⟩:=hct b hb
      have e3:=hts b hb
      rw[e]at e3
      cases e3
      exact .inr (.inl ⟨((PySem.W.codeHd_of_K KX hc).tab (hts b hb)).isCodeTable,rfl,#[],more,rfl,e2⟩)
     ·exact .inl (others b o hb e)
    ·by_cases hb:b∈ts
     ·obtain⟨more,e2⟩:=tabs b hb
      exact ⟨_,e2⟩
     ·exact ⟨_,others b o hb e⟩
 cases hk:K.lookup a with
 | some o =>
  have e:=KX a o hk
  rw[ha]at e
  cases e
  refine core (fun b=>if b∈ts then some (.tbl #[]) else none) ⟨fun b=>?_,fun P hP=>if_pos hP⟩ (.inr ⟨_,vs.toArray,_,hk,rfl,rfl,rfl,by rw[List.size_toArray,lenV];exact hl,by simpa using rv⟩) (fun b u z=>?_) (fun b z=>?_) fun z=>absurd (if_neg nat) z
  ·by_cases hb:b∈ts
   ·exact .inr (.inr hb)
   ·exact .inl (if_neg hb)
  ·by_cases hb:b∈ts
   ·have z':=(if_pos hb).symm.trans z
    cases z'
    exact hts b hb
   ·have z':=(if_neg hb).symm.trans z
    cases z'
  ·by_cases hb:b∈ts
   ·exact .inr hb
   ·exact absurd (if_neg hb) z
 | none =>
  refine core (fun b=>if b=a then some (.frz { cls:=.type "list",data:=.seq vs.toArray } (.lst (ns.map V.int))) else if b∈ts then some (.tbl #[]) else none) ⟨fun b=>?_,fun P hP=>?_⟩ (.inl (.inr ⟨{ cls:=.type "list",data:=.seq vs.toArray },if_pos rfl⟩)) (fun b u z=>?_) (fun b z=>?_) fun _=>hk
  ·by_cases hb:b=a
   ·exact .inr (.inl ⟨_,_,if_pos hb⟩)
   ·by_cases hb2:b∈ts
    ·exact .inr (.inr hb2)
    ·exact .inl (by dsimp only;rw[if_neg hb,if_neg hb2])
  ·have ne:P≠a:=fun q=>nat (q ▸ hP)
   show (if P=a then _ else if P∈ts then some (HO.tbl #[]) else none)=_
   rw[if_neg ne,if_pos hP]
  ·have z:(if b=a then some (HO.frz { cls:=.type "list",data:=.seq vs.toArray } (.lst (ns.map V.int))) else if b∈ts then some (.tbl #[]) else none)=some u:=z
   by_cases hb:b=a
   ·rw[if_pos hb]at z
    cases z
    subst hb
    exact ⟨ha,by rw[List.length_map];exact hl,vs,_,rv,ha⟩
   ·rw[if_neg hb]at z
    by_cases hb2:b∈ts
    ·rw[if_pos hb2]at z
     cases z
     exact hts b hb2
    ·rw[if_neg hb2]at z
     cases z
  ·have z:(if b=a then some (HO.frz { cls:=.type "list",data:=.seq vs.toArray } (.lst (ns.map V.int))) else if b∈ts then some (.tbl #[]) else none)≠none:=z
   by_cases hb:b=a
   ·exact .inl hb
   ·rw[if_neg hb]at z
    by_cases hb2:b∈ts
    ·exact .inr hb2
    ·exact absurd (if_neg hb2) z
theorem walk_ofT{l:PySem.W.OpenLaw}{n k:Nat}{q:Program}{loose:List Str}{XP:(Str->Option Value)->Heap->Prop}{YP:World->Heap->Prop}{d:DefRec}{K:Params->PySem.W.Frag}{CX:World->CXT}{sp:World->Sp}{x:Str}{ts:List Addr}
  (hn:l.most=some n) (hn2:n<=sizeLine) (hdf:d.params.defaults=[]) (hr:Room k callerA)
  (hY:∀(w:World) (h:Heap),YP w h->(K w.params).In h/\∀P∈ts,h.get? P=some (PySem.W.tabObj #[]))
  (hct:∀w:World,∀P∈ts,(K w.params).lookup P=none/\∃c,PySem.W.codeHdIn (K w.params) c P=true)
  (F:∀(w:World) (mg:Str->Option Value) (fa:Addr) (h:Heap),(K w.params).In h->h.Ns mainGlobals mg->mg d.name=some (.ref fa) ->
    ∃fd:FuncData,(∀(s:Shared) (u:Value),BindsTo s fd ⟨[u],[]⟩ [(x,u)]) /\
      ∀base:Heap,(K w.params).In base->base.Ns mainGlobals mg->FnOk l.prog w (K w.params) mg base (CX w) k fa fd [x] (sp w))
  (hsp:∀(w:World) (H:Hp) (a:Addr) (ns:List Int),ns.length<=n->OnlyT ts H->SqL (K w.params) H a (ns.map V.int)->sp w [.ref a] H (fun v _=>v=.bl true) fun _ _ _=>False)
  (hCX:∀(w:World) (H:Hp) (s:Shared) (e:Value) (s':Shared),CX w [] H s (fun _ _ _=>False) e s'->False) :
  PySem.W.WalkO q loose XP YP l.row.toRowW d [] (fun f vs=>PySem.call f vs):=by
 refine Att.attach_call hn hdf fun w s₀ s₁ mg mb fa o pm cd doc a vs ns G Y ho hd hcd hmg hobj hints hlen hg=>?_
 obtain⟨KX,hts⟩:=hY w _ Y
 obtain⟨fd,hb,hF⟩:=F w mg fa _ KX G.T.g hmg
 exact law_callT KX hts (hct w) G.T.g G.T.b G.T.builtins G.T.nolimit G.T.bmain hg hobj hints (Nat.le_trans hlen hn2) hr hF hb (fun H hO hS=>hsp w H a ns hlen hO hS) fun H e s'=>hCX w H s₁ e s'
noncomputable def del(C:List Addr)(H:Hp):Hp:=fun b=>if b∈C then none else H b
noncomputable def put(C:List Addr)(H H':Hp):Hp:=fun b=>if b∈C then H b else H' b
theorem del_in{C:List Addr}{H:Hp}{b:Addr}(h:b∈C):del C H b=none:=if_pos h
theorem del_not{C:List Addr}{H:Hp}{b:Addr}(h:b∉C):del C H b=H b:=if_neg h
theorem put_in{C:List Addr}{H H':Hp}{b:Addr}(h:b∈C):put C H H' b=H b:=if_pos h
theorem put_not{C:List Addr}{H H':Hp}{b:Addr}(h:b∉C):put C H H' b=H' b:=if_neg h
theorem del_some{C:List Addr}{H:Hp}{b:Addr}{o:HO}(h:del C H b=some o):b∉C/\H b=some o:=by
 by_cases z:b∈C
 ·rw[del_in z]at h;cases h
 ·rw[del_not z]at h;exact ⟨z,h⟩
noncomputable def Cels(C:List Addr)(H:Hp):Prop:=∀c∈C,∃o,H c=some (codO c o)
section
variable {P:Program}{w:World}{C fs:List Addr}{H H':Hp}{h h':Heap}
theorem Cels.ne(hc:Cels C H){b:Addr}{u:HO}(e:H b=some u)(n:∀c o,u≠codO c o):b∉C:=fun z=>by
 obtain⟨o,q⟩:=hc b z
 rw[e]at q
 exact n b o (Option.some.inj q)
theorem Cels.nn(hc:Cels C H){b:Addr}(e:H b=none):b∉C:=fun z=>by
 obtain⟨o,q⟩:=hc b z
 rw[e]at q;cases q
theorem HOk.del(x:HOk P w H h)(hc:Cels C H):HOk P w (del C H) h:=fun b u e=>by
 obtain⟨nb,e⟩:=del_some e
 refine (x b u e).stay (fun _ _ _ q=>q) (fun d q=>?_) fun d xs q=>?_
 ·rw[del_not (hc.ne q fun c o z=>by cases z)];exact q
 ·rw[del_not (hc.ne q fun c o z=>by cases z)];exact q
theorem un_put(x:HOk P w H h)(hc:Cels C H)(u:Un fs [] (L2.del C H) H' h h'):Un fs [] H (put C H H') h h':=by
 have nb:∀{b:Addr},H b=none->b∉C/\L2.del C H b=none:=fun e=>⟨hc.nn e,by rw[del_not (hc.nn e)];exact e⟩
 refine ⟨fun b o e n=>u.keep b o e (nb n).2,fun b o e n=>u.slot b o e (nb n).2,fun b o e n hx=>?_,u.there,fun b xs e=>?_,fun b o v e=>?_,fun b ps e=>?_⟩
 ·rw[put_not (nb n).1];exact u.free b o e (nb n).2 hx
 ·have z:=hc.ne e fun c o z=>by cases z
  rw[put_not z];exact u.tups b xs (by rw[del_not z];exact e)
 ·by_cases z:b∈C
  ·rw[put_in z];exact e
  ·rw[put_not z];exact u.frzs b o v (by rw[del_not z];exact e)
 ·have z:=hc.ne e fun c o z=>by cases z
  rw[put_not z];exact u.tbls b ps (by rw[del_not z];exact e)
theorem cel_none(x:HOk P w H h)(hc:Cels C H)(u:Un fs [] (L2.del C H) H' h h'):∀c∈C,H' c=none:=fun c hm=>by
 obtain⟨o,e⟩:=hc c hm
 obtain⟨ho,_⟩:=(show ObjOk P w H h c (codO c o) from x c _ e)
 exact u.free c o ho (del_in hm) (by simp)
theorem hok_put(x:HOk P w H h)(hc:Cels C H)(hf:∀c∈C,c∉fs)(u:Un fs [] (L2.del C H) H' h h')(y:HOk P w H' h'):HOk P w (put C H H') h':=fun b v e=>by
 have no:=cel_none x hc u
 have nt:∀{d:Addr}{o:HO},H' d=some o->d∉C:=fun {d o} q z=>by rw[no d z]at q;cases q
 by_cases z:b∈C
 ·rw[put_in z]at e
  obtain⟨o,q⟩:=hc b z
  rw[q]at e;cases e
  obtain⟨ho,_⟩:=(show ObjOk P w H h b (codO b o) from x b _ q)
  have h1:=u.keep b o ho (del_in z) (hf b z) (by simp)
  exact ⟨h1,⟨_,h1⟩,⟨_,h1⟩,fun h1 h2 ⟨o,e1⟩ k=>⟨o,k _ e1⟩⟩
 ·rw[put_not z]at e
  refine (y b v e).stay (fun _ _ _ q=>q) (fun d q=>?_) fun d xs q=>?_
  ·rw[put_not (nt q)];exact q
  ·rw[put_not (nt q)];exact q
noncomputable def trC(C:List Addr)(os:Addr->Obj)(H:Hp):Hp:=put C (fun c=>some (codO c (os c))) H
theorem trC_in{os:Addr->Obj}{b:Addr}(h:b∈C):trC C os H b=some (codO b (os b)):=put_in h
theorem trC_not{os:Addr->Obj}{b:Addr}(h:b∉C):trC C os H b=H b:=put_not h
theorem hok_trC{os:Addr->Obj}(x:HOk P w H h)(hn:∀c∈C,H c=none)(ho:∀c∈C,h.get? c=some (os c)):HOk P w (trC C os H) h:=fun b v e=>by
 have nt:∀{d:Addr}{o:HO},H d=some o->d∉C:=fun {d o} q z=>by rw[hn d z]at q;cases q
 by_cases z:b∈C
 ·rw[trC_in z]at e;cases e
  have h1:=ho b z
  exact ⟨h1,⟨_,h1⟩,⟨_,h1⟩,fun h1 h2 ⟨o,e1⟩ k=>⟨o,k _ e1⟩⟩
 ·rw[trC_not z]at e
  refine (x b v e).stay (fun _ _ _ q=>q) (fun d q=>?_) fun d xs q=>?_
  ·rw[trC_not (nt q)];exact q
  ·rw[trC_not (nt q)];exact q
theorem un_trC{os:Addr->Obj}(hn:∀c∈C,H c=none)(ho:∀c∈C,h.get? c=some (os c))(hf:∀c∈C,c∉fs)(u:Un fs [] (trC C os H) H' h h')(y:HOk P w H' h'):Un fs [] H (L2.del C H') h h':=by
 have fz:∀c∈C,H' c=some (codO c (os c)):=fun c hc=>u.frzs c _ _ (trC_in hc)
 have nt:∀{d:Addr}{o:HO},H d=some o->d∉C:=fun {d o} q z=>by rw[hn d z]at q;cases q
 refine ⟨fun b o e n hb hx=>?_,fun b o e n hb hx=>?_,fun b o e n hx=>?_,u.there,fun b xs e=>?_,fun b o v e=>?_,fun b ps e=>?_⟩
 ·by_cases z:b∈C
  ·have:=ho b z
   rw[e]at this;cases this
   exact (show ObjOk P w H' h' b (codO b (os b)) from y b _ (fz b z)).1
  ·exact u.keep b o e (by rw[trC_not z];exact n) hb hx
 ·exact u.slot b o e (by rw[trC_not fun z=>hf b z hb];exact n) hb hx
 ·by_cases z:b∈C
  ·exact del_in z
  ·rw[del_not z];exact u.free b o e (by rw[trC_not z];exact n) hx
 ·rw[del_not (nt e)];exact u.tups b xs (by rw[trC_not (nt e)];exact e)
 ·rw[del_not (nt e)];exact u.frzs b o v (by rw[trC_not (nt e)];exact e)
 ·rw[del_not (nt e)];exact u.tbls b ps (by rw[trC_not (nt e)];exact e)
end
theorem pair_at{α β:Type}{F:α->β->Prop}:∀{l₁:List α}{l₂:List β},Paired F l₁ l₂->∀{i:Nat}{b:β},l₂[i]?=some b->∃a,l₁[i]?=some a/\F a b
 | _,_,.nil,i,b,e=>by simp at e
 | _,_,.cons r t,0,b,e=>by simp at e;subst e;exact ⟨_,rfl,r⟩
 | _,_,.cons r t,i+1,b,e=>by
  obtain⟨a,h1,h2⟩:=pair_at t (i:=i) (by simpa using e)
  exact ⟨a,by simpa using h1,h2⟩
theorem pair_mem{α β:Type}{F:α->β->Prop}:∀{l₁:List α}{l₂:List β},Paired F l₁ l₂->∀{a:α},a∈l₁->∃b,F a b
 | _,_,.nil,_,e=>by cases e
 | _,_,.cons r t,a,e=>by
  rcases List.mem_cons.mp e with rfl|e
  ·exact ⟨_,r⟩
  ·exact pair_mem t e
theorem look_mem{x:Str}{c:Addr}:∀{cl:List (Str×Addr)},(cl.map (·.1)).Nodup->(x,c)∈cl->cl.lookup x=some c
 | (y,d) :: cl,nd,h=>by
  rw[List.map_cons,List.nodup_cons]at nd
  rcases List.mem_cons.mp h with z|z
  ·cases z
   simp
  ·have hne:x≠y:=fun q=>nd.1 (List.mem_map.mpr ⟨(x,c),z,q⟩)
   rw[List.lookup_cons,show (x==y)=false from beq_eq_false_iff_ne.mpr hne]
   exact look_mem nd.2 z
theorem name_one{x y:Str}{c:Addr}:∀{cl:List (Str×Addr)},(cl.map (·.2)).Nodup->(x,c)∈cl->(y,c)∈cl->x=y
 | (z,d) :: cl,nd,h1,h2=>by
  rw[List.map_cons,List.nodup_cons]at nd
  rcases List.mem_cons.mp h1 with e1|e1<;>rcases List.mem_cons.mp h2 with e2|e2
  ·cases e1;cases e2;rfl
  ·cases e1;exact (nd.1 (List.mem_map.mpr ⟨_,e2,rfl⟩)).elim
  ·cases e2;exact (nd.1 (List.mem_map.mpr ⟨_,e1,rfl⟩)).elim
  ·exact name_one nd.2 e1 e2
end L2
namespace L3
open PySem PySem.Spec PyProof.Rows L2
noncomputable abbrev envL(qual:Str)(sc:Scope)(cl:List (Str×Addr))(L f:Addr)(cd:Value):Env:=newEnv sc L mainGlobals cl (qual ++ ".<locals>.") (some f) cd none builtinsNs
noncomputable def cxL(P:Program)(w:World)(K:Fg)(mg:Str->Option Value)(base:Heap)(N:List Str)(qual:Str)(sc:Scope)(cl:List (Str×Addr))(f:Addr)(cd:Value)(A:Around)(outer:List Env)(s:Shared)(H:Hp):Cx where
 prog:=P
 w:=w
 K:=K
 mg:=mg
 base:=base
 A:=A.deeper (envL qual sc cl s.heap.objs.size f cd)
 N:=N
 s₀:=s
 H₀:=H
 env:=envL qual sc cl s.heap.objs.size f cd
 outer:=outer
 stack:=envL qual sc cl s.heap.objs.size f cd :: outer
 ex:=[]
 fn:=fun _=>false
 calm:=true
 pn:=[]
 xe:=fun _ _=>False
structure LamSc(y:Str)(fr:List Str)(sc:Scope):Prop where
 kind:sc.kind=.function
 co:sc.isCoroutine=false
 gen:sc.isGenerator=false
 nc:∀z∈sc.names,z.2≠.cell
 par:sc.names.lookup y=some .local
 has:∀z∈sc.names,z.2=.free->z.1∈fr
 fre:∀x∈fr,sc.names.lookup x=some .free
 nd:fr.Nodup
theorem lam_runC{P:Program}{w:World}{K:Fg}{mg:Str->Option Value}{base:Heap}{k:Nat}{f c:Addr}{qual y:Str}{ar:Arguments}{body:Expr}{sc:Scope}{cl:List (Str×Addr)}{fr:List Str}{A:Around}{outer:List Env}{s:Shared}{H:Hp}
  {u:Value}{v:V}{ws:List V}{Q:VK}{oc:Obj} (S:LamSc y fr sc) (hcl:cl.map (·.1)=fr) (ndc:(cl.map (·.2)).Nodup) (hr:Room (k+1) A) (e0:Env0 P w K mg base A outer s H) (hf:H f=some (lamC f c qual ar body sc cl)) (hc:H c=some (codO c oc))
  (hq:∃vs t,oc.data=.fields vs/\vs[1]?=some (.str qual t)) (hcel:Paired (CelAt H) cl ws)
  (hb:∀(pm ctv u:Value),bindArgs (PySem.W.kla_fn "<lambda>" qual ar body sc cl pm (.ref c) ctv) ⟨[u],[]⟩=pure [(y,u)]) (r:RelV v u)
  (hbody:Room k (A.deeper (envL qual sc cl s.heap.objs.size f (.ref c)))->∃t:TE,PE (cxL P w K mg base (y :: fr) qual sc cl f (.ref c) A outer s (del (cl.map (·.2)) H)) body t /\
    t ((v :: ws).map some) (del (cl.map (·.2)) H) fun v H'=>(∀c∈cl.map (·.2),H' c=none)->Q v (put (cl.map (·.2)) H H')) :
  codeAny (model P w) A (.call (.ref f) ⟨[u],[]⟩) (CR CX0 outer P w H s Q E0) s:=by
 obtain⟨⟨pm,ctv,ho⟩,_⟩:=(show ObjOk P w H s.heap f (lamC f c qual ar body sc cl) from e0.hok f _ hf)
 obtain⟨hoc,_⟩:=(show ObjOk P w H s.heap c (codO c oc) from e0.hok c _ hc)
 obtain⟨vs',t',hd,hv⟩:=hq
 have lim:s.heap.NoLimit:=e0.mod.nolimit.keeps fun b o e=>(e0.bs b o e).1
 have hC:Cels (cl.map (·.2)) H:=fun b hb=>by
  obtain⟨p,hp,rfl⟩:=List.mem_map.mp hb
  obtain⟨v,o,u,e,_⟩:=pair_mem hcel hp
  exact ⟨o,e⟩
 have hfs:∀c∈cl.map (·.2),c∉frs outer:=fun c hc z=>by
  obtain⟨o,e⟩:=hC c hc
  rw[e0.frf c z]at e;cases e
 have obj:∀{p:Str×Addr}{w:V},CelAt H p w->∃u,RelV w u/\s.heap.IsCell p.2 (some u):=fun {p w'} ⟨o,u,e,hd,r⟩=>by
  obtain⟨ho,_⟩:=(show ObjOk P w H s.heap p.2 (codO p.2 o) from e0.hok _ _ e)
  exact ⟨u,r,o,ho,hd⟩
 refine PySem.W.kla_callFunE hr.depth ho rfl S.co S.gen rfl ⟨c,oc,vs',t',rfl,hoc,hd,hv⟩ ?_
 rw[hb pm ctv u]
 refine wpAny_pure (wpAny_newFunctionEnv S.nc (fun x hx=>by rw[List.mem_singleton.mp hx];exact S.par) (fun h' hns hsb=>?_) S.kind)
 have kp:∀b o,s.heap.get? b=some o->h'.get? b=some o:=fun b o e=>by
  rw[hsb.2 b (Nat.ne_of_lt (Heap.lt_size e))]
  exact Heap.get?_push_of_some _ e
 refine ⟨lim.keeps kp,PySem.W.kla_codeExpr ?_⟩
 obtain⟨t,ht,hq⟩:=hbody (hr.deeper _)
 have nd1:(cl.map (·.1)).Nodup:=by rw[hcl];exact S.nd
 have noA:∀b:Addr,b∉([]:List Addr):=fun b z=>by cases z
 have I:Inv (cxL P w K mg base (y :: fr) qual sc cl f (.ref c) A outer s (del (cl.map (·.2)) H)) [] ((v :: ws).map some) (del (cl.map (·.2)) H) { s with heap:=h',toks:=s.toks+[(y,u)].length }:=by
  refine ⟨⟨e0.mod,S.kind,rfl,rfl,Nat.le_refl _,fun x z c h1 h2=>name_one ndc (PySem.mem_of_lookup h1) (PySem.mem_of_lookup h2),fun x hx=>?_,fun x c z _=>(by cases z),fun _=>hr.hd,Around.frames_deeper e0.frames,.inr ⟨rfl,rfl⟩,fun b z=>absurd z (noA b),fun b o e=>⟨(e0.bs b o e).1,?_⟩,e0.bsz,fun b _ _=>noA b,fun b z=>absurd z (noA b),e0.funs,fun b hb=>?_⟩,
    rfl,e0.bare,Un.kept kp,⟨_,hns,fun i x v' h1 h2 h3=>?_⟩,fun x c h=>?_,?_,fun x c h=>?_,fun p hp=>absurd (show p∈([]:List (Addr×Obj)) from hp) (by simp),(e0.hok.del hC).kept kp,?_⟩
  ·have hx:sc.names.lookup x=some .cell\/sc.names.lookup x=some .free:=hx
   rcases hx with hx|hx
   ·exact absurd rfl (S.nc _ (PySem.mem_of_lookup hx))
   ·have:=S.has _ (PySem.mem_of_lookup hx) rfl
    rw[<- hcl]at this
    obtain⟨p,hp,e⟩:=List.mem_map.mp this
    have e:p.1=x:=e
    exact ⟨p.2,look_mem nd1 (by rw[<- e];exact hp)⟩
  ·show del _ H b=none
   rw[del_not (hC.nn (e0.bs b o e).2)]
   exact (e0.bs b o e).2
  ·show del _ H b=none
   rw[del_not (hC.nn (e0.frf b hb))]
   exact e0.frf b hb
  ·cases i with
   | zero =>
    cases h1
    cases h2
    exact ⟨u,r,.inl ⟨S.par,by simp⟩⟩
   | succ i =>
    have h1:fr[i]?=some x:=h1
    have h2:(ws.map some)[i]?=some (some v'):=h2
    have h2:ws[i]?=some v':=by
     rw[List.getElem?_map]at h2
     cases e:ws[i]? with
     | none=>rw[e]at h2;cases h2
     | some a=>rw[e]at h2;cases h2;rfl
    obtain⟨p,hp,hce⟩:=pair_at hcel h2
    rw[<- hcl,List.getElem?_map,hp]at h1
    cases h1
    obtain⟨u',ru,hi⟩:=obj hce
    exact ⟨u',ru,.inr ⟨.inr (S.fre p.1 (by rw[<- hcl];exact List.mem_map.mpr ⟨p,List.mem_of_getElem? hp,rfl⟩)),p.2,look_mem nd1 (List.mem_of_getElem? hp),hi.keeps kp⟩⟩
  ·obtain⟨w',hce⟩:=pair_mem hcel (PySem.mem_of_lookup h)
   obtain⟨u',_,hi⟩:=obj hce
   exact ⟨_,hi.keeps kp⟩
  ·exact (e0.hok.del hC).fresh (Nat.le_refl _)
  ·exact del_in (List.mem_map.mpr ⟨(x,c),PySem.mem_of_lookup h,rfl⟩)
  ·show (List.map some (v :: ws)).length=(y :: fr).length
   have:=hcel.length
   rw[List.length_map,List.length_cons,List.length_cons,<- hcl,List.length_map,this]
 refine wpAny_mono (ht [] _ _ _ _ I hq) (fun u s' ⟨v,H',J,rv,q⟩=>?_) fun e s' hs=>hs.elim
 have un:Un (frs outer) [] (del (cl.map (·.2)) H) H' s.heap s'.heap:=J.base
 exact ⟨v,put (cl.map (·.2)) H H',J.os,J.bare,un_put e0.hok hC un,hok_put e0.hok hC hfs un J.hok,rv,q (cel_none e0.hok hC un)⟩
end L3
namespace L2
open PySem PySem.Spec PyProof.Rows
theorem lamC_ok{P:Program}{w:World}{H:Hp}{h:Heap}{f c:Addr}{qual:Str}{ar:Arguments}{body:Expr}{sc:Scope}{cl:List (Str×Addr)}{pm ctv:Value}(e:h.get? f=some (PySem.W.kla_obj "<lambda>" qual ar body sc cl pm c ctv)) :
  ObjOk P w H h f (lamC f c qual ar body sc cl):=⟨⟨pm,ctv,e⟩,⟨_,e⟩,fun h1 h2 ⟨pm,ctv,e1⟩ k=>⟨pm,ctv,k _ e1⟩⟩
end L2
namespace L3
open PySem PySem.Spec PyProof.Rows L2
noncomputable def tLamC(P:Addr)(x:Str)(ar:Arguments)(body:Expr)(sc:Scope)(cl:List (Str×Addr)):TE:=fun _ H Q=>∃ps,H P=some (.tbl ps)/\TriplesOk ps.toList /\
 (∀pos v,codeAmong pos ps.toList=some v->∃c o,v=.ref c/\H c=some (codO c o)/\CodQ x o) /\
 ∀(H':Hp) (ps':Array Value) (f c:Addr) (o:Obj),(∀b u,b≠P->H b=some u->H' b=some u)->H f=none->H' P=some (.tbl ps')->TriplesOk ps'.toList ->
  (∀pos v,codeAmong pos ps'.toList=some v->∃c o,v=.ref c/\H' c=some (codO c o)/\CodQ x o)->H' c=some (codO c o)->CodQ x o->H' f=some (lamC f c (x ++ ".<locals>.<lambda>") ar body sc cl)->Q (.ref f) H'
theorem pe_lamC{X:Cx}{cl:List (Str×Addr)}{c0 P:Addr}{x:Str}{ar:Arguments}{body:Expr}{sc:Scope}{pos:Pos}(hcode:X.env.code=.ref c0)(hqual:X.env.qual ++ "<lambda>"=x ++ ".<locals>.<lambda>")(hC:PySem.W.codeHdIn X.K c0 P=true)
  (hcl:closureFor sc X.env=pure cl) (hdef:defaultsOf ar X.env=([],[])):PE X (.Lambda ar body sc pos) (tLamC P x ar body sc cl):=by
 intro pins s σ H Q I ⟨ps,eP,tP,cP,h⟩
 have hP:s.heap.get? P=some (PySem.W.tabObj ps):=(show ObjOk X.prog X.w H s.heap P (.tbl ps) from I.hok P _ eP)
 have C:=PySem.W.codeHd_of_K I.kIn hC
 have hg:=I.ok.mod.glob.keeps I.bk
 obtain⟨bm,ob,b1,b2,b3,b4,b5,b6⟩:=I.ok.mod.bm
 have b3':=I.bk _ _ b3
 have hgP:mainGlobals≠P:=fun q=>by
  obtain⟨o,es,ep,e,hd,_⟩:=hg
  rw[q,hP]at e;cases e;cases hd
 have hbP:bm≠P:=fun q=>by
  rw[q,hP]at b3';cases b3';cases b4
 have hbG:bm≠mainGlobals:=fun q=>by
  obtain⟨o,es,ep,e,hd,_⟩:=hg
  rw[q,e]at b3';cases b3';rw[hd]at b6;cases b6
 have hB:s.heap.BuiltinsAt X.mg P:=⟨bm,ob,b1,b2,hbG,hbP,b3',b4,b5,b6⟩
 refine PySem.W.kla_eval hdef ?_
 rw[hqual]
 cases ec:codeAmong pos ps.toList with
 | some v =>
  obtain⟨c,o,rfl,hc,q⟩:=cP pos v ec
  refine PySem.W.kla_makeFunctionHit (mg:=X.mg) hcl I.ok.glob hg hcode C hP tP ec hB fun ctv h' tk k hsz=>?_
  have hf:H h'.objs.size=none:=I.hok.fresh hsz
  have old:∀b u,H b=some u->upd H h'.objs.size (lamC h'.objs.size c (x ++ ".<locals>.<lambda>") ar body sc cl) b=some u:=fun b u e=>by rw[upd_ne (ne_of_none e hf)];exact e
  refine ⟨.ref _,_,I.laid (a:=h'.objs.size) (o:=lamC h'.objs.size c (x ++ ".<locals>.<lambda>") ar body sc cl) (fun b u e=>Heap.get?_push_of_some _ (k b u e)) hsz (lamC_ok (Heap.get?_push_size _ rfl)),rfl,?_⟩
  refine h _ ps _ c o (fun b u _ e=>old b u e) hf (old _ _ eP) tP (fun pos v e=>?_) (old _ _ hc) q upd_same
  obtain⟨c,o,e1,e2,e3⟩:=cP pos v e
  exact ⟨c,o,e1,old _ _ e2,e3⟩
 | none =>
  refine PySem.W.kla_makeFunction (mg:=X.mg) hcl I.ok.glob hg hcode C hP tP ec hgP hB fun c ctv h' tk hx hge hlt hrec htb=>?_
  obtain⟨c₂,oc,vs,t,e2,hoc,hd,hv⟩:=hrec
  cases e2
  have hsz:s.heap.objs.size<=h'.objs.size:=Nat.le_of_lt (Nat.lt_of_le_of_lt hge hlt)
  have hc:H c=none:=I.hok.fresh hge
  have hf:H h'.objs.size=none:=I.hok.fresh hsz
  have ePc:P≠c:=ne_of_none eP hc
  have ePf:P≠h'.objs.size:=ne_of_none eP hf
  have ecf:c≠h'.objs.size:=Nat.ne_of_lt hlt
  have old:∀b u,b≠P->H b=some u->upd (upd (upd H P (.tbl (ps++#[rawInt pos.line,rawInt pos.col,.ref c]))) c (codO c oc)) h'.objs.size (lamC h'.objs.size c (x ++ ".<locals>.<lambda>") ar body sc cl) b=some u:=fun b u n e=>by
   rw[upd_ne (ne_of_none e hf),upd_ne (ne_of_none e hc),upd_ne n];exact e
  have newP:upd (upd (upd H P (.tbl (ps++#[rawInt pos.line,rawInt pos.col,.ref c]))) c (codO c oc)) h'.objs.size (lamC h'.objs.size c (x ++ ".<locals>.<lambda>") ar body sc cl) P=some (.tbl (ps++#[rawInt pos.line,rawInt pos.col,.ref c])):=by
   rw[upd_ne ePf,upd_ne ePc,upd_same]
  have newC:upd (upd (upd H P (.tbl (ps++#[rawInt pos.line,rawInt pos.col,.ref c]))) c (codO c oc)) h'.objs.size (lamC h'.objs.size c (x ++ ".<locals>.<lambda>") ar body sc cl) c=some (codO c oc):=by
   rw[upd_ne ecf,upd_same]
  generalize hH:upd (upd (upd H P (.tbl (ps++#[rawInt pos.line,rawInt pos.col,.ref c]))) c (codO c oc)) h'.objs.size (lamC h'.objs.size c (x ++ ".<locals>.<lambda>") ar body sc cl)=H' at old newP newC
  have newF:H' h'.objs.size=some (lamC h'.objs.size c (x ++ ".<locals>.<lambda>") ar body sc cl):=by rw[<- hH,upd_same]
  have kp:∀b u,b≠P->s.heap.get? b=some u->(h'.push (PySem.W.kla_obj "<lambda>" (x ++ ".<locals>.<lambda>") ar body sc cl ((X.mg "__name__").getD .none) c ctv)).get? b=some u:=fun b u n e=>Heap.get?_push_of_some _ (hx b u n e)
  have nP:∀b,H b=none->b≠P:=fun b n e=>by rw[e,eP]at n;cases n
  have un:Un X.fs [] H H' s.heap (h'.push (PySem.W.kla_obj "<lambda>" (x ++ ".<locals>.<lambda>") ar body sc cl ((X.mg "__name__").getD .none) c ctv)):=by
   refine ⟨fun b o e n _ _=>kp b o (nP b n) e,fun b o e n _ _=>⟨o.slots,kp b o (nP b n) e⟩,fun b o e n _=>?_,fun b o e _=>?_,fun b xs e=>old b _ (fun z=>by rw[z,eP]at e;cases e) e,fun b o u e=>old b _ (fun z=>by rw[z,eP]at e;cases e) e,fun b qs e=>?_⟩
   ·have lt:=Heap.lt_size e
    rw[<- hH,upd_ne (Nat.ne_of_lt (Nat.lt_of_lt_of_le lt hsz)),upd_ne (Nat.ne_of_lt (Nat.lt_of_lt_of_le lt hge)),upd_ne (nP b n)]
    exact n
   ·by_cases z:b=P
    ·subst z;exact ⟨_,Heap.get?_push_of_some _ htb⟩
    ·exact ⟨_,kp b o z e⟩
   ·by_cases z:b=P
    ·subst z
     rw[eP]at e;cases e
     exact ⟨_,newP⟩
    ·exact ⟨#[],by rw[old b _ z e];simp⟩
  have hok:HOk X.prog X.w H' (h'.push (PySem.W.kla_obj "<lambda>" (x ++ ".<locals>.<lambda>") ar body sc cl ((X.mg "__name__").getD .none) c ctv)):=fun b u e=>by
   by_cases zf:b=h'.objs.size
   ·subst zf
    rw[newF]at e;cases e
    exact lamC_ok (Heap.get?_push_size _ rfl)
   by_cases zc:b=c
   ·subst zc
    rw[newC]at e;cases e
    have e1:=Heap.get?_push_of_some (PySem.W.kla_obj "<lambda>" (x ++ ".<locals>.<lambda>") ar body sc cl ((X.mg "__name__").getD .none) b ctv) hoc
    exact ⟨e1,⟨_,e1⟩,⟨_,e1⟩,fun h1 h2 ⟨o,e1⟩ k=>⟨o,k _ e1⟩⟩
   by_cases zp:b=P
   ·subst zp
    rw[newP]at e;cases e
    exact Heap.get?_push_of_some _ htb
   have e:H b=some u:=by rw[<- hH,upd_ne zf,upd_ne zc,upd_ne zp]at e;exact e
   refine (I.hok b u e).stay (fun d v hd q=>kp d v (fun z=>?_) q) (fun d q=>old d _ (fun z=>by rw[z,eP]at q;cases q) q) fun d xs q=>old d _ (fun z=>by rw[z,eP]at q;cases q) q
   rcases hd with hd|hd
   ·exact zp (hd.symm.trans z)
   ·rw[z,eP]at hd;cases hd
  refine ⟨.ref _,H',I.un un hok,rfl,h H' _ _ c oc old hf newP (by rw[Array.toList_append];exact TriplesOk_snoc _ _ _ _ tP) (fun pos' v e=>?_) newC ⟨vs,t,hd,hv⟩ newF⟩
  rw[Array.toList_append]at e
  rcases among_snoc _ tP e with e|e
  ·obtain⟨c1,o,e1,e2,e3⟩:=cP pos' v e
   exact ⟨c1,o,e1,old _ _ (fun z=>by rw[z,eP]at e2;cases e2) e2,e3⟩
  ·exact ⟨c,oc,e,newC,⟨vs,t,hd,hv⟩⟩
noncomputable def tCallC(sp:Sp)(cl:List (Str×Addr))(is:List Nat)(t:TA):TE:=fun σ H Q=>∃ws:List V,(∀(j i:Nat) (v:V),is[j]?=some i->ws[j]?=some v->σ[i]?=some (some v))/\is.length=ws.length/\t σ H fun vs H1 =>
 (∀c∈cl.map (·.2),H1 c=none)->∀os:Addr->Obj,Paired (fun p v=>∃u,(os p.2).data=.cell (some u)/\RelV v u) cl ws->sp vs (trC (cl.map (·.2)) os H1) (fun v H2=>Q v (del (cl.map (·.2)) H2)) E0
theorem pair_of{α β:Type}{F:α->β->Prop}:∀{l₁:List α}{l₂:List β},l₁.length=l₂.length->(∀(j:Nat) a b,l₁[j]?=some a->l₂[j]?=some b->F a b)->Paired F l₁ l₂
 | [],[],_,_=>.nil
 | a :: l₁,b :: l₂,hl,h=>.cons (h 0 a b rfl rfl) (pair_of (by simpa using hl) fun j a b e1 e2=>h (j+1) a b (by simpa using e1) (by simpa using e2))
theorem pe_callC{X:Cx}{k:Nat}{x:Str}{ps:List Str}{sp:Sp}{p pos:Pos}{e:Expr}{es:List Expr}{t:TA}{cl:List (Str×Addr)}{is:List Nat}(C:Cal X.prog X.w X.K X.mg X.base k x ps sp)(hr:Room k X.A)(ha:PA X (e :: es) t)
  (hcl:∀q∈cl,X.env.cells.lookup q.1=some q.2) (hk:∀q∈cl,X.env.kindOf q.1=some .cell) (hfn:∀x,X.fn x=true) (hex:X.ex=[]) (hi:is.map (fun i=>X.N[i]?)=cl.map fun q=>some q.1) (hg:Gl X x:=by rfl)
  (hdb:(x==("__debug__":Str))=false:=by decide) (he:starEach (e :: es) X.env=(false,eval e X.env) :: starEach es X.env:=by rfl) (hpl:(backTo pos (starEach es X.env)).any (·.1)=false:=by rfl) :
  PE X (.Call (.Name x p) (e :: es) [] pos) (tCallC sp cl is t):=by
 obtain⟨f,fd,F,hm,hkp,hb⟩:=C.ex
 intro pins s σ H Q I ⟨ws,hws,hlen,h⟩
 have hil:is.length=cl.length:=by have:=congrArg List.length hi;simpa using this
 refine wpAny_Call_Name_kw (ld_glob I hg hm ?_ hdb)
 refine PySem.W.callWith_K (h₀:=X.base) I.ok.mod.kin hkp (thn (ha pos pins s σ H _ I h) fun us s1 ⟨vs,H1,I1,r,q⟩=>⟨I1.kIn,?_⟩) he hpl
 have mem:∀c∈cl.map (·.2),∃x,X.env.cells.lookup x=some c/\X.env.kindOf x=some .cell:=fun c hc=>by
  obtain⟨q,hq,rfl⟩:=List.mem_map.mp hc
  exact ⟨q.1,hcl q hq,hk q hq⟩
 have hn:∀c∈cl.map (·.2),H1 c=none:=fun c hc=>by
  obtain⟨x,e,_⟩:=mem c hc
  exact I1.freeC x c e
 have above:∀c∈cl.map (·.2),X.s₀.heap.objs.size<=c:=fun c hc=>by
  obtain⟨x,e,_⟩:=mem c hc
  exact I1.ok.cab x c (hfn x) e
 have hfs:∀c∈cl.map (·.2),c∉frs X.stack:=fun c hc z=>by
  obtain⟨x,e,_⟩:=mem c hc
  rcases List.mem_cons.mp (I1.stkSub c z) with z|z
  ·exact I1.cne x c e z
  ·obtain⟨_,o,ho,_⟩:=I1.ok.funs.mem z
   exact absurd (Nat.lt_of_lt_of_le (Heap.lt_size ho) (above c hc)) (Nat.lt_irrefl _)
 have ho:∀c∈cl.map (·.2),s1.heap.get? c=some ((s1.heap.get? c).getD { cls:=.none,data:=.plain }):=fun c hc=>by
  obtain⟨x,e,_⟩:=mem c hc
  obtain⟨v,o,h1,_⟩:=I1.cell x c e
  rw[h1];rfl
 have hp:Paired (fun (p:Str×Addr) v=>∃u,((s1.heap.get? p.2).getD { cls:=.none,data:=.plain }).data=.cell (some u)/\RelV v u) cl ws:=pair_of (by omega) fun j q v h1 h2=>by
  have hq:=List.mem_of_getElem? h1
  obtain⟨i,e1⟩:∃i,is[j]?=some i:=by
   have hj:j < is.length:=by
    rw[hil]
    exact (List.getElem?_eq_some_iff.mp h1).1
   exact ⟨_,List.getElem?_eq_getElem hj⟩
  have e2:X.N[i]?=some q.1:=by
   have:=congrArg (fun l=>l[j]?) hi
   simp only[List.getElem?_map,e1,h1,Option.map_some]at this
   exact Option.some.inj this
  obtain⟨m,_,hl⟩:=I1.loc
  obtain⟨u,ru,lk⟩:=hl i q.1 v e2 (hws j i v e1 h2) (.inr (.inl (hk q hq)))
  rcases lk with⟨z,_⟩|⟨_,c,e3,o,e4,e5⟩
  ·rw[hk q hq]at z;cases z
  ·rw[hcl q hq]at e3
   cases e3
   exact ⟨u,by rw[e4];exact e5,ru⟩
 have h2:=q hn (fun c=>(s1.heap.get? c).getD { cls:=.none,data:=.plain }) hp
 have e0:=I1.env0
 have e1:Env0 X.prog X.w X.K X.mg X.base X.A X.stack s1 (trC (cl.map (·.2)) (fun c=>(s1.heap.get? c).getD { cls:=.none,data:=.plain }) H1) :=
  ⟨e0.frames,e0.mod,fun b o eb=>⟨(e0.bs b o eb).1,by
    have nb:b∉cl.map (·.2):=fun z=>absurd (Nat.lt_of_lt_of_le (Heap.lt_size eb) (Nat.le_trans I1.ok.bsz (above b z))) (Nat.lt_irrefl _)
    rw[trC_not nb]
    exact (e0.bs b o eb).2⟩,e0.bsz,e0.funs,fun b hb=>by
    rw[trC_not fun z=>hfs b z hb]
    exact e0.frf b hb,hok_trC e0.hok hn ho,e0.bare⟩
 have hl:us.length=ps.length:=by rw[<- r.length];exact F.len _ _ _ _ h2
 refine wpAny_call (codeAny_mono (F.run X.A X.stack s1 _ ⟨us,[]⟩ us vs _ E0 hr e1 (by have:=hb s1 us I1.kIn (by rw[List.append_nil];exact hl);rw[List.append_nil]at this;exact this) r h2) fun r s' hq=>?_)
 cases r with
 | error e=>exact False.elim hq
 | ok fl =>
  cases fl with
  | ret u =>
   obtain⟨v,H',os,bare,un,hok,rv,q⟩:=(show CE X.stack X.prog X.w _ s1 _ u s' from hq)
   exact I1.after ⟨v,_,os,bare,un_trC hn ho hfs un hok,hok.del (fun c hc=>⟨_,un.frzs c _ _ (trC_in hc)⟩),rv,q⟩
  | next=>exact False.elim hq
  | brk=>exact False.elim hq
  | cont=>exact False.elim hq
structure VOk(P:Program)(w:World)(K:Fg)(mg:Str->Option Value)(base:Heap)(k:Nat)(sp:Sp):Prop where
 fn:∀v vs H Q,sp (v :: vs) H Q E0->∃f c qual ar body sc cl,v=.ref f/\H f=some (lamC f c qual ar body sc cl)
 run:∀(A:Around) (outer:List Env) (s:Shared) (H:Hp) (f:Addr) (us:List Value) (vs:List V) (Q:VK),Room k A->Env0 P w K mg base A outer s H->Vals vs us->sp (.ref f :: vs) H Q E0 ->
  codeAny (model P w) A (.call (.ref f) ⟨us,[]⟩) (CR CX0 outer P w H s Q E0) s
theorem pe_callV{X:Cx}{k i:Nat}{x:Str}{sp:Sp}{p pos:Pos}{e:Expr}{es:List Expr}{t:TA}(V:VOk X.prog X.w X.K X.mg X.base k sp)(hr:Room k X.A)(hx:PE X (.Name x p) (tVar i))(ha:PA X (e :: es) t)
  (he:starEach (e :: es) X.env=(false,eval e X.env) :: starEach es X.env:=by rfl) (hpl:(backTo pos (starEach es X.env)).any (·.1)=false:=by rfl) :
  PE X (.Call (.Name x p) (e :: es) [] pos) (tCall sp [] E0 (tCons (tVar i) t)):=by
 intro pins s σ H Q I h
 obtain⟨v,hv,h⟩:=(show ∃v,σ[i]?=some (some v)/\t σ H fun vs H1=>sp (v :: vs++[]) H1 Q E0 from h)
 refine wpAny_Call_Name_kw (thn (hx pins s σ H (fun v' H1=>v'=v/\H1=H) I ⟨v,hv,rfl,rfl⟩) fun u s1 ⟨v',H1,I1,ru,q⟩=>?_)
 obtain⟨rfl,rfl⟩:=q
 show wpAny (model X.prog X.w) X.A (callWith pos u [] (backTo pos (starEach (e :: es) X.env)) []) (EP X pins σ Q) X.xe s1
 rw[he]
 refine PySem.W.callWith_of (P:=fun h=>∃o fd f,u=.ref f/\h.get? f=some o/\o.data=.func fd) (by show ((false||(backTo pos (starEach es X.env)).any (·.1))||false)=false;rw[hpl];rfl) (fun h ⟨o,fd,f,e1,e2,e3⟩=>?_) (PySem.Calls.evalArgs_plain ?_)
 ·subst e1
  refine ⟨.frame,.inl rfl,(PySem.W.Looks.ld (part:=none) e2).andThen ?_⟩
  rw[e3]
  exact .now
 ·have ha:=ha pos pins s1 σ H1 _ I1 h
  rw[he]at ha
  refine thn ha fun us s2 ⟨vs,H2,I2,r,q⟩=>?_
  have q:sp (v' :: vs++[]) H2 Q E0:=q
  rw[List.append_nil]at q
  obtain⟨f,c,qual,ar,body,sc,cl,rfl,hf⟩:=V.fn _ _ _ _ q
  cases ru
  obtain⟨⟨pm,ctv,ho⟩,_⟩:=(show ObjOk X.prog X.w H2 s2.heap f (lamC f c qual ar body sc cl) from I2.hok f _ hf)
  refine ⟨⟨_,_,f,rfl,ho,rfl⟩,?_⟩
  refine wpAny_call (codeAny_mono (V.run X.A X.stack s2 H2 f us vs Q hr I2.env0 r q) fun r s' hq=>?_)
  cases r with
  | error e=>exact False.elim hq
  | ok fl =>
   cases fl with
   | ret u=>exact I2.after hq
   | next=>exact False.elim hq
   | brk=>exact False.elim hq
   | cont=>exact False.elim hq
noncomputable def SlAt(ρ:Ev)(is:List Nat)(es:List D):Prop:=is.map (fun i=>ρ[i]?)=es.map fun d=>some (some (Sl.fz d))
noncomputable def dCallC(con:Con)(x:Str)(as:List AD)(is:List Nat):TD:=fun ρ Q=>∃es:List D,SlAt ρ is es/\dArgs as ρ fun xs ρ1=>lentAny ρ1 xs=false/\looksQ ρ1 xs fun ds=>con ((ds++[lamD x es]).map Sl.fz) fun r _=>noMut r.d=true/\Q r ρ1
section
variable {K:Fg}{G:Gh}{F F' H H':Hp}{σ:L2.St}{ρ:Ev}
theorem pair_imp{α β:Type}{F G:α->β->Prop}:∀{l₁:List α}{l₂:List β},Paired F l₁ l₂->(∀a b,a∈l₁->F a b->G a b)->Paired G l₁ l₂
 | _,_,.nil,_=>.nil
 | _,_,.cons r t,f=>.cons (f _ _ List.mem_cons_self r) (pair_imp t fun a b h q=>f a b (List.mem_cons_of_mem _ h) q)
theorem slots_of(R:Rel K G F σ H ρ):∀{is:List Nat}{es:List D},SlAt ρ is es->∃ws:List V,(∀(j i:Nat) (v:V),is[j]?=some i->ws[j]?=some v->σ[i]?=some (some v))/\is.length=ws.length/\DaAll K F ws es
 | [],[],_=>⟨[],fun j i v e=>by simp at e,rfl,.nil⟩
 | [],_ :: _,h=>by cases h
 | _ :: _,[],h=>by cases h
 | i :: is,d :: es,h=>by
  unfold SlAt at h
  rw[List.map_cons,List.map_cons]at h
  injection h with h1 h2
  obtain⟨v,e1,h1⟩:=R.fz i d h1
  obtain⟨ws,g1,g2,g3⟩:=slots_of R (is:=is) (es:=es) h2
  refine ⟨v :: ws,fun j i' v' e e'=>?_,by simp[g2],.cons h1 g3⟩
  cases j with
  | zero =>
   simp at e e'
   subst e
   subst e'
   exact e1
  | succ j=>exact g1 j i' v' (by simpa using e) (by simpa using e')
theorem args_snoc{t:TE}:∀{as:List AD}{H:Hp}{Q:List V->Hp->Prop},(tArgs (as.map (argT K)) σ H fun vs H1=>t σ H1 fun v H2=>Q (vs++[v]) H2)->tArgs (as.map (argT K)++[t]) σ H Q
 | [],_,_,h=>h
 | a :: as,H,Q,h=>by
  have h:argT K a σ H fun v H1=>tArgs (as.map (argT K)) σ H1 fun vs H2=>t σ H2 fun u H3=>Q (v :: vs++[u]) H3:=h
  exact argT_mono (a:=a) (fun v H1 q=>args_snoc (Q:=fun vs H2=>Q (v :: vs) H2) q) h
theorem l_callC{con:Con}{x:Str}{as:List AD}{is:List Nat}{Q:VK}{P:Addr}{ar:Arguments}{body:Expr}{sc:Scope}{cl:List (Str×Addr)}(hlam:lamOf K x=some (ar,body,sc))(hP:(P,x)∈TB K)(hPx:∀z∈TB K,z.1=P->z.2=x)
  (hfr:cl.map (·.1)=frOf sc) (ndc:(cl.map (·.2)).Nodup) (h:lift K (dCallC con x as is) σ H Q):tCallC (conSp K con) cl is (tArgs (as.map (argT K)++[tLamC P x ar body sc cl])) σ H Q:=by
 obtain⟨G,F,ρ,Qd,R,⟨es,hes,w⟩,k⟩:=h
 obtain⟨ws,hws,hlen,dws⟩:=slots_of R hes
 refine ⟨ws,hws,hlen,args_snoc ?_⟩
 refine args_ok R w fun vs H1 F1 xs ρ1 s1 R1 o w1=>?_
 obtain⟨hl,w1⟩:=w1
 obtain⟨ds,da,w1⟩:=lend_looks (xs:=xs) R1 (fun y hy=>hy) o w1
 have el:lend σ ρ1 xs F1 H1=F1:=funext fun b=>lend_not fun z=>by have:=lentAny_of z;rw[hl]at this;cases this
 rw[el]at da
 obtain⟨_,ps0,eP,tP,cP⟩:=R1.tb (P,x) hP
 refine ⟨ps0,eP,tP,cP,fun H2 ps' f c o kp hf nP nT nC nc nq nf=>?_⟩
 intro hn os hp
 generalize hC:cl.map (·.2)=C at hn ndc
 have nin:∀{b:Addr}{u:HO},H2 b=some u->b∉C:=fun {b u} e z=>by rw[hn b z]at e;cases e
 have su:Sub F1 H2:=fun b o e=>kp b o (fun z=>by rw[z,(R1.tb (P,x) hP).1]at e;cases e) (R1.sub b o e)
 have ncf:c≠f:=fun z=>by rw[z,nf]at nc;cases nc
 have tb2:TabOk K F1 H2:=fun z hz=>by
  refine ⟨(R1.tb z hz).1,?_⟩
  by_cases zp:z.1=P
  ·rw[zp,hPx z hz zp]
   exact ⟨ps',nP,nT,nC⟩
  ·obtain⟨_,qs,g1,g2,g3⟩:=R1.tb z hz
   refine ⟨qs,kp _ _ zp g1,g2,fun pos v e=>?_⟩
   obtain⟨c',o',h1,h2,h3⟩:=g3 pos v e
   exact ⟨c',o',h1,kp _ _ (fun q=>by rw[q,eP]at h2;cases h2) h2,h3⟩
 obtain⟨F3,hF3⟩:∃F3,F3=trC C os (upd (upd F1 c (codO c o)) f (lamC f c (x ++ ".<locals>.<lambda>") ar body sc cl)):=⟨_,rfl⟩
 have f3C:∀{b:Addr},b∈C->F3 b=some (codO b (os b)):=fun z=>by rw[hF3];exact trC_in z
 have f3f:F3 f=some (lamC f c (x ++ ".<locals>.<lambda>") ar body sc cl):=by rw[hF3,trC_not (nin nf),upd_same]
 have f3c:F3 c=some (codO c o):=by rw[hF3,trC_not (nin nc),upd_ne ncf,upd_same]
 have f3o:∀{b:Addr},b∉C->b≠f->b≠c->F3 b=F1 b:=fun z1 z2 z3=>by rw[hF3,trC_not z1,upd_ne z2,upd_ne z3]
 have f1f:F1 f=none:=R1.f0 hf
 have f1c:∀{u:HO},F1 c=some u->u=codO c o:=fun e=>by
  have:=su _ _ e
  rw[nc]at this
  exact (Option.some.inj this).symm
 have sb3:Sub F1 F3:=fun b u e=>by
  by_cases z:b=f
  ·rw[z,f1f]at e;cases e
  by_cases z2:b=c
  ·subst z2
   rw[f1c e]
   exact f3c
  ·rw[f3o (nin (su _ _ e)) z z2];exact e
 have su3:Sub F3 (trC C os H2):=fun b u e=>by
  by_cases z1:b∈C
  ·rw[f3C z1]at e;rw[trC_in z1];exact e
  rw[trC_not z1]
  by_cases z:b=f
  ·subst z;rw[f3f]at e;rw[nf];exact e
  by_cases z2:b=c
  ·subst z2;rw[f3c]at e;rw[nc];exact e
  ·rw[f3o z1 z z2]at e;exact su _ _ e
 have tn:∀z∈TB K,z.1≠f/\z.1≠c/\z.1∉C:=fun z hz=>by
  obtain⟨_,qs,e,_⟩:=tb2 z hz
  exact ⟨fun q=>(by rw[q,nf]at e;cases e),fun q=>(by rw[q,nc]at e;cases e),nin e⟩
 have tb3:TabOk K F3 (trC C os H2):=tb2.up (fun a u _ e=>by rw[trC_not (nin e)];exact e) fun z hz=>by
  obtain⟨n1,n2,n3⟩:=tn z hz
  rw[f3o n3 n1 n2]
  exact (tb2 z hz).1
 have lam:LamAt K F3 f x ws:=⟨c,o,ar,body,sc,cl,hlam,f3f,f3c,nq,hfr,by rw[hC];exact ndc,by
   have mem:∀p∈cl,p.2∈C:=fun p hp=>by rw[<- hC];exact List.mem_map.mpr ⟨p,hp,rfl⟩
   exact pair_imp hp fun p v hm ⟨u,h1,h2⟩=>⟨os p.2,u,f3C (mem p hm),h1,h2⟩⟩
 have daA:DaAll K F3 (vs++[.ref f]) (ds++[lamD x es]):=(da.mono sb3).append (.cons (.lam lam (dws.mono (s1.trans sb3))) .nil)
 refine ⟨_,F3,_,_,rel_call su3 tb3 daA,w1,fun v H4 F4 r ρ' s' R' r' q=>?_⟩
 obtain⟨nm,q⟩:=q
 have h4C:∀{b:Addr},b∈C->H4 b=some (codO b (os b)):=fun {b} z=>R'.sub _ _ (R'.sub0 _ _ (f3C z))
 have kpp:∀{b:Addr}{u:HO},H2 b=some u->(∀z∈TB K,z.1≠b)->del C H4 b=some u:=fun {b u} e t=>by
  rw[del_not (nin e)]
  exact R'.keep b u (by show trC C os H2 b=some u;rw[trC_not (nin e)];exact e) (fun i z=>by cases z) t
 have h12:∀{b:Addr},H2 b=none->H1 b=none:=fun {b} e=>by
  cases q:H1 b with
  | none=>rfl
  | some u =>
   by_cases z:b=P
   ·rw[z,nP]at e;cases e
   ·rw[kp b u z q]at e;cases e
 obtain⟨D,hD⟩:∃D:List Addr,D=if F1 c=none then c :: C else C:=⟨_,rfl⟩
 have inD:∀{b:Addr},b∈D->b∈C\/(b=c/\F1 c=none):=fun {b} z=>by
  rw[hD]at z
  split at z
  ·rename_i e
   rcases List.mem_cons.mp z with z|z
   ·exact .inr ⟨z,e⟩
   ·exact .inl z
  ·exact .inl z
 have CD:∀{b:Addr},b∉D->b∉C/\(b=c->F1 c≠none):=fun {b} z=>by
  rw[hD]at z
  split at z
  ·exact ⟨fun y=>z (List.mem_cons_of_mem _ y),fun y=>by rw[y]at z;exact (z List.mem_cons_self).elim⟩
  ·rename_i e
   exact ⟨z,fun _=>e⟩
 have sb:Sub F1 (del D F4):=fun b u e=>by
  have nb:b∉D:=fun z=>by
   rcases inD z with z|⟨z,z2⟩
   ·exact nin (su _ _ e) z
   ·rw[z,z2]at e;cases e
  rw[del_not nb]
  exact R'.sub0 _ _ (sb3 _ _ e)
 refine k v (del C H4) (del D F4) r ρ1 (s1.trans sb) (R1.grown sb (fun b u e=>?_) (fun b u e=>?_) (fun b u t e=>?_) fun z hz=>?_) ?_ q
 ·obtain⟨nb,e⟩:=del_some e
  rw[del_not (CD nb).1]
  exact R'.sub _ _ e
 ·obtain⟨nb,e⟩:=del_some e
  obtain⟨n1,n2⟩:=CD nb
  rcases R'.fn b u e with z|z
  ·have z:F3 b=some u:=z
   by_cases zf:b=f
   ·exact .inr (by rw[zf];exact hf)
   by_cases zc:b=c
   ·subst zc
    cases e1:F1 b with
    | none=>exact (n2 rfl e1).elim
    | some u' =>
     rw[f3c]at z
     rw[f1c e1]
     exact .inl z
   ·rw[f3o n1 zf zc]at z
    exact .inl z
  ·have z:trC C os H2 b=none:=z
   rw[trC_not n1]at z
   exact .inr (h12 z)
 ·exact kpp (kp b u (Ne.symm (t (P,x) hP)) e) t
 ·obtain⟨g0,qs,g1,g2,g3⟩:=R'.tb z hz
  obtain⟨n1,n2,n3⟩:=tn z hz
  refine ⟨?_,qs,by rw[del_not n3];exact g1,g2,fun pos v e=>?_⟩
  ·by_cases y:z.1∈D
   ·exact del_in y
   ·rw[del_not y];exact g0
  ·obtain⟨c',o',h1,h2,h3⟩:=g3 pos v e
   have nc':c'∉C:=fun y=>by
    have y2:=y
    rw[<- hC]at y2
    obtain⟨p,hpm,rfl⟩:=List.mem_map.mp y2
    obtain⟨v',u',e1,_⟩:=pair_mem hp hpm
    rw[h4C y]at h2
    have:os p.2=o':=by injection h2 with h2;injection h2
    obtain⟨vs',t',e2,_⟩:=h3
    rw[<- this,e1]at e2
    cases e2
   exact ⟨c',o',h1,by rw[del_not nc'];exact h2,h3⟩
 ·cases r with
  | io d=>exact r'.elim
  | ow d =>
   obtain⟨a,u,_,_,_,y,_⟩:=r'
   rw[show (Sl.ow d).d=d from rfl,own_noMut y]at nm
   cases nm
  | fz d =>
   refine Da.noMut (F:=F4) (fun b ys e=>?_) r' nm
   have nb:b∉D:=fun z=>by
    rcases inD z with z|⟨z,_⟩
    ·have:=R'.sub0 _ _ (f3C z)
     rw[e]at this;cases this
    ·have:=R'.sub0 _ _ f3c
     rw[<- z,e]at this;cases this
   rw[del_not nb]
   exact e
end
theorem keyD_bl(k:Key)(b:Bool):keyD k≠.bool b:=by cases k<;>(intro z;cases z)
theorem Da.lam_inv{K:Fg}{F:Hp}{v:V}{x:Str}{es:List D}:∀{d:D},Da K F v d->d=lamD x es->∃f ws,v=.ref f/\LamAt K F f x ws/\DaAll K F ws es
 | _,.non,e=>by cases e
 | _,.bl _,e=>by cases e
 | _,.int _,e=>by cases e
 | _,.str _,e=>by cases e
 | _,.lst _ _,e=>by cases e
 | _,.tup _ _,e=>by cases e
 | _,.dk _ t,e=>by
  cases t with
  | nil=>injection e with e;cases e
  | cons _ _ =>
   injection e with e
   injection e with e _
   injection e with e _
   exact (keyD_bl _ _ e).elim
 | _,.dt _ t,e=>by
  cases t with
  | nil=>injection e with e;cases e
  | cons _ _ =>
   injection e with e
   injection e with e _
   injection e with e _
   cases e
 | _,.scr _,e=>by
  injection e with e
  injection e with e _
  injection e with e _
  cases e
 | _,.exc _,e=>by
  injection e with e
  injection e with e _
  injection e with _ e
  cases e
 | _,.opq _,e=>by
  injection e with e
  injection e with e _
  injection e with e _
  cases e
 | _,.pd _ _,e=>by
  injection e with e
  injection e with e _
  injection e with e _
  cases e
 | _,.bd _ _,e=>by
  injection e with e
  injection e with e _
  injection e with e _
  cases e
 | _,.lam h t,e=>by
  injection e with e
  injection e with e _
  injection e with _ e
  injection e with e
  injection e with e1 e2
  injection e1 with e1
  subst e1
  subst e2
  exact ⟨_,_,rfl,h,t⟩
noncomputable def conV(tab:Str->Option TD):Con:=fun args Q=>∃x es d tb,args=[.fz (lamD x es),.fz d]/\tab x=some tb/\noMut d=true/\noMutAll es=true/\tb (((d :: es).map Sl.fz).map some) fun r _=>noMut r.d=true/\∀o,Q r o
structure LamK(P:Program)(w:World)(K:Fg)(mg:Str->Option Value)(base:Heap)(k:Nat)(x:Str)(tb:TD):Prop where
 ex:∃y fr ar body sc,lamOf K x=some (ar,body,sc)/\frOf sc=fr/\LamSc y fr sc /\
  (∀(cl:List (Str×Addr)) (pm ctv:Value) (c:Addr) (u:Value),bindArgs (PySem.W.kla_fn "<lambda>" (x ++ ".<locals>.<lambda>") ar body sc cl pm (.ref c) ctv) ⟨[u],[]⟩=pure [(y,u)]) /\
  ∀(cl:List (Str×Addr)) (f c:Addr) (A:Around) (outer:List Env) (s:Shared) (H:Hp),Room k (A.deeper (envL (x ++ ".<locals>.<lambda>") sc cl s.heap.objs.size f (.ref c))) ->
   WE (cxL P w K mg base (y :: fr) (x ++ ".<locals>.<lambda>") sc cl f (.ref c) A outer s H) body (lift K tb)
theorem v_ok{P:Program}{w:World}{K:Fg}{mg:Str->Option Value}{base:Heap}{k:Nat}{tab:Str->Option TD}(h:∀x tb,tab x=some tb->LamK P w K mg base k x tb):VOk P w K mg base (k+1) (conSp K (conV tab)):=by
 refine ⟨fun v vs H Q ⟨G,F,args,Qd,R,⟨x,es,d,tb,ha,_⟩,_⟩=>?_,fun A outer s H f us vs Q hr e0 rv hsp=>?_⟩
 ·subst ha
  obtain⟨v',e,da⟩:=R.fz 0 _ rfl
  cases e
  obtain⟨f,ws,rfl,⟨c,o,ar,body,sc,cl,_,h2,_⟩,_⟩:=da.lam_inv rfl
  exact ⟨f,c,_,ar,body,sc,cl,rfl,R.sub _ _ h2⟩
 ·obtain⟨G,F,args,Qd,R,⟨x,es,d,tb,ha,htab,nd,nes,wt⟩,kk⟩:=hsp
  subst ha
  obtain⟨v,rfl⟩:∃v,vs=[v]:=by
   have:=R.len
   simp at this
   match vs,this with
   | [v],_=>exact ⟨v,rfl⟩
  obtain⟨_,e,da⟩:=R.fz 0 _ rfl
  cases e
  obtain⟨_,e,dav⟩:=R.fz 1 _ rfl
  cases e
  obtain⟨f',ws,e,⟨c,o,ar,body,sc,cl,h1,h2,h3,h4,h0,h5,h6⟩,dws⟩:=da.lam_inv rfl
  cases e
  obtain⟨y,fr,ar',body',sc',e1,hfr,S,hba,hb⟩:=(h x tb htab).ex
  rw[h1]at e1
  cases e1
  obtain⟨u,rfl,ru⟩:=vals1 rv
  have cF:Cels (cl.map (·.2)) F:=fun b hb=>by
   obtain⟨p,hp,rfl⟩:=List.mem_map.mp hb
   obtain⟨v,o,u,e,_⟩:=pair_mem h6 hp
   exact ⟨o,e⟩
  have cH:Cels (cl.map (·.2)) H:=fun b hb=>by
   obtain⟨o,e⟩:=cF b hb
   exact ⟨o,R.sub _ _ e⟩
  have cD:∀b∈cl.map (·.2),∀o,H b=some (codO b o)->∀vs,o.data≠.fields vs:=fun b hb o' e' vs' z=>by
   obtain⟨p,hp,rfl⟩:=List.mem_map.mp hb
   obtain⟨v,o,u,e,e2,_⟩:=pair_mem h6 hp
   have e:=R.sub _ _ e
   rw[e']at e
   injection e with e
   injection e with e
   rw[e,e2]at z
   cases z
  refine lam_runC (k:=k) (ws:=ws) S (h0.trans hfr) h5 hr e0 (R.sub _ _ h2) (R.sub _ _ h3) h4 (Paired.mapP h6 fun p v h=>h.mono R.sub) (fun pm ctv u=>hba cl pm ctv c u) ru (fun hr'=>⟨_,(hb cl f c A outer s _ hr').h,?_⟩)
  generalize cl.map (·.2)=C at cF cH cD
  have tp:∀b xs,F b=some (.tup xs)->del C F b=some (.tup xs):=fun b xs e=>by rw[del_not (cF.ne e fun c o z=>by cases z)];exact e
  have sub2:Sub (del C F) (del C H):=fun b u e=>by
   obtain⟨nb,e⟩:=del_some e
   rw[del_not nb]
   exact R.sub _ _ e
  have tn:∀z∈TB K,z.1∉C:=fun z hz=>by
   obtain⟨_,qs,e,_⟩:=R.tb z hz
   exact cH.ne e fun c o z=>by cases z
  have tb2:TabOk K (del C F) (del C H):=fun z hz=>by
   obtain⟨g0,qs,g1,g2,g3⟩:=R.tb z hz
   refine ⟨by rw[del_not (tn z hz)];exact g0,qs,by rw[del_not (tn z hz)];exact g1,g2,fun pos v e=>?_⟩
   obtain⟨c',o',k1,k2,k3⟩:=g3 pos v e
   refine ⟨c',o',k1,?_,k3⟩
   have nc:c'∉C:=fun z=>by
    obtain⟨vs',t',k4,_⟩:=k3
    exact cD c' z o' k2 vs' k4
   rw[del_not nc]
   exact k2
  refine ⟨_,del C F,_,_,rel_call sub2 tb2 (.cons (Da.noMut tp dav nd) (DaAll.noMut tp dws nes)),wt,fun v' H5 F5 r ρ' s5 R5 r5 q no=>?_⟩
  obtain⟨nm,q⟩:=q
  have nF:∀{b:Addr}{u:HO},F5 b=some u->b∉C:=fun {b u} e z=>by
   have:=R5.sub _ _ e
   rw[no b z]at this;cases this
  have s5':Sub F5 (put C F F5):=fun b u e=>by rw[put_not (nF e)];exact e
  refine kk v' (put C H H5) (put C F F5) r _ ?_ (R.grown ?_ (fun b u e=>?_) (fun b u e=>?_) (fun b u t e=>?_) fun z hz=>?_) ?_ (q _)
  ·intro b u e
   by_cases z:b∈C
   ·rw[put_in z];exact e
   ·rw[put_not z];exact s5 _ _ (by rw[del_not z];exact e)
  ·intro b u e
   by_cases z:b∈C
   ·rw[put_in z];exact e
   ·rw[put_not z];exact s5 _ _ (by rw[del_not z];exact e)
  ·by_cases z:b∈C
   ·rw[put_in z]at e ⊢;exact R.sub _ _ e
   ·rw[put_not z]at e ⊢;exact R5.sub _ _ e
  ·by_cases z:b∈C
   ·rw[put_in z]at e;exact .inl e
   ·rw[put_not z]at e
    rcases R5.fn b u e with y|y
    ·have y:del C F b=some u:=y
     rw[del_not z]at y
     exact .inl y
    ·have y:del C H b=none:=y
     rw[del_not z]at y
     exact .inr y
  ·by_cases z:b∈C
   ·rw[put_in z];exact e
   ·rw[put_not z]
    exact R5.keep b u (by show del C H b=some u;rw[del_not z];exact e) (fun i z=>by cases z) t
  ·obtain⟨g0,qs,g1,g2,g3⟩:=R5.tb z hz
   refine ⟨by rw[put_not (tn z hz)];exact g0,qs,by rw[put_not (tn z hz)];exact g1,g2,fun pos v e=>?_⟩
   obtain⟨c',o',k1,k2,k3⟩:=g3 pos v e
   refine ⟨c',o',k1,?_,k3⟩
   rw[put_not fun z=>by rw[no c' z]at k2;cases k2]
   exact k2
  ·cases r with
   | io d=>exact r5.elim
   | ow d =>
    obtain⟨a,u,_,_,_,y,_⟩:=r5
    rw[show (Sl.ow d).d=d from rfl,own_noMut y]at nm
    cases nm
   | fz d=>exact Da.mono s5' r5
section
variable {X:Cx}{K:Fg}{e e1 e2:Expr}{es:List Expr}{a b:AD}{as:List AD}{p pos:Pos}{x:Str}
theorem w_callV{k i:Nat}{con:Con}(V:VOk X.prog X.w X.K X.mg X.base k (conSp K con))(hr:Room k X.A)(hx:WE X (.Name x p) (argT K (.inl i)))(ha:WA X (e :: es) (tArgs (as.map (argT K))))(he:notStar e=true:=by rfl)(hpl:es.all notStar=true:=by rfl) :
  WE X (.Call (.Name x p) (e :: es) [] pos) (lift K (dCall con (.inl i :: as))):=⟨cv_fn (as:=.inl i :: as) (pe_callV V hr hx.h ha.h (starEach_of he) (plain_of hpl))⟩
theorem w_callC{k i:Nat}{g z:Str}{ps:List Str}{con:Con}{c0 P cz:Addr}{ar:Arguments}{body:Expr}{sc:Scope}{lp:Pos}(hK:X.K=K)(C:Cal X.prog X.w X.K X.mg X.base k g ps (conSp K con))(hr:Room k X.A)
  (ha:WE X e1 (argT K a)) (hb:WE X e2 (argT K b)) (hcode:X.env.code=.ref c0) (hqual:X.env.qual ++ "<lambda>"=x ++ ".<locals>.<lambda>") (hC:PySem.W.codeHdIn K c0 P=true) (hP:(P,x)∈TB K) (hPx:∀z∈TB K,z.1=P->z.2=x)
  (hlam:lamOf K x=some (ar,body,sc)) (hcl:closureFor sc X.env=pure [(z,cz)]:=by rfl) (hcz:X.env.cells.lookup z=some cz:=by rfl) (hkz:X.env.kindOf z=some .cell:=by rfl) (hfn:∀x,X.fn x=true:=by intro;rfl) (hex:X.ex=[]:=by rfl)
  (hi:X.N[i]?=some z:=by rfl) (hfr:frOf sc=[z]:=by rfl) (hdef:defaultsOf ar X.env=([],[]):=by rfl) (hg:Gl X g:=by rfl) (hdb:(g==("__debug__":Str))=false:=by decide) (he:notStar e1=true:=by rfl) (he2:notStar e2=true:=by rfl) :
  WE X (.Call (.Name g p) [e1,e2,.Lambda ar body sc lp] [] pos) (lift K (dCallC con x [a,b] [i])):=by
 subst hK
 have L:PE X (.Lambda ar body sc lp) (tLamC P x ar body sc [(z,cz)]):=pe_lamC hcode hqual hC hcl hdef
 have A:PA X [e1,e2,.Lambda ar body sc lp] (tArgs ([a,b].map (argT X.K)++[tLamC P x ar body sc [(z,cz)]])):=pa_cons ha.h (pa_cons hb.h (pa_cons L pa_nil (starEach_of rfl)) (starEach_of he2)) (starEach_of he)
 have W:=pe_callC (cl:=[(z,cz)]) (is:=[i]) (p:=p) (pos:=pos) C hr A (fun q hq=>by rw[List.mem_singleton.mp hq];exact hcz) (fun q hq=>by rw[List.mem_singleton.mp hq];exact hkz) hfn hex (by simp[hi]) hg hdb (starEach_of he) (plain_of (by simp[he2];rfl))
 exact ⟨fun pins s σ H Q I h=>W pins s σ H Q I (l_callC hlam hP hPx (by rw[hfr];rfl) (by simp) h)⟩
end
noncomputable def lmIn(K:Fg)(x:Str)(fd:FuncData):Bool:=match PySem.W.tabIn K x with
 | some (c,P)=>(match fd.code with | .ref c'=>c'==c|_=>false)&&PySem.W.codeHdIn K c P&&(TB K).all (fun z=>z.1 != P||z.2==x)&&(TB K).any fun z=>z.1==P&&z.2==x
 | none=>false
theorem lm_of{K:Fg}{x:Str}{fd:FuncData}(h:lmIn K x fd=true):Lm K x fd:=by
 unfold lmIn at h
 split at h
 ·rename_i c P e
  simp only[Bool.and_eq_true]at h
  obtain⟨⟨⟨h1,h2⟩,h3⟩,h4⟩:=h
  refine ⟨c,P,?_,h2,?_,fun z hz q=>?_⟩
  ·split at h1
   ·rename_i c' e1
    rw[e1,beq_iff_eq.mp h1]
   ·cases h1
  ·obtain⟨z,hz,q⟩:=List.any_eq_true.mp h4
   simp only[Bool.and_eq_true,beq_iff_eq]at q
   have:z=(P,x):=Prod.ext q.1 q.2
   rw[<- this]
   exact hz
  ·have:=List.all_eq_true.mp h3 z hz
   rw[q]at this
   simpa using this
 ·cases h
noncomputable def tsOk(K:Fg)(ts:List Addr):Bool:=(ts.all fun P=>(K.lookup P).isNone&&lamN.any fun x=>match PySem.W.tabIn K x with
  | some (c,P')=>P'==P&&PySem.W.codeHdIn K c P
  | none=>false)&&(TB K).all fun z=>ts.contains z.1
theorem ts_of{K:Fg}{ts:List Addr}(h:tsOk K ts=true):(∀P∈ts,K.lookup P=none/\∃c,PySem.W.codeHdIn K c P=true)/\∀z∈TB K,z.1∈ts:=by
 unfold tsOk at h
 rw[Bool.and_eq_true]at h
 refine ⟨fun P hP=>?_,fun z hz=>?_⟩
 ·have:=List.all_eq_true.mp h.1 P hP
  rw[Bool.and_eq_true]at this
  refine ⟨Option.isNone_iff_eq_none.mp this.1,?_⟩
  obtain⟨x,_,q⟩:=List.any_eq_true.mp this.2
  split at q
  ·rename_i c P' _
   rw[Bool.and_eq_true]at q
   exact ⟨c,q.2⟩
  ·cases q
 ·have:=List.all_eq_true.mp h.2 z hz
  simpa using this
theorem walkT{l:PySem.W.OpenLaw}{k:Nat}{q:Program}{loose:List Str}{XP:(Str->Option Value)->Heap->Prop}{YP:World->Heap->Prop}{d:DefRec}{K:Params->PySem.W.Frag}{x:Str}{ts:List Addr}{cLaw:Con}
  (hc:∀ns:List Int,ns.length<=63->cLaw [.fz (scrD ns)] fun r _=>r=.fz (.bool true)) (hr:Room k callerA) (hn:l.most=some 63) (hdf:d.params.defaults=[])
  (hY:∀(w:World) (h:Heap),YP w h->(K w.params).In h/\∀P∈ts,h.get? P=some (PySem.W.tabObj #[])) (hts:∀w:World,tsOk (K w.params) ts=true)
  (F:∀(w:World) (mg:Str->Option Value) (fa:Addr) (h:Heap),(K w.params).In h->h.Ns mainGlobals mg->mg d.name=some (.ref fa) ->
    ∃fd:FuncData,(∀(s:Shared) (u:Value),BindsTo s fd ⟨[u],[]⟩ [(x,u)])/\∀base:Heap,(K w.params).In base->base.Ns mainGlobals mg->FnOk l.prog w (K w.params) mg base CX0 k fa fd [x] (conSp (K w.params) cLaw)) :
  PySem.W.WalkO q loose XP YP l.row.toRowW d [] (fun f vs=>PySem.call f vs):=by
 refine L2.walk_ofT (ts:=ts) (n:=63) (k:=k) (x:=x) (CX:=fun _=>CX0) (sp:=fun w=>conSp (K w.params) cLaw) hn (by decide) hdf hr hY (fun w=>(ts_of (hts w)).1) F (fun w H a ns hl hO hS=>?_) fun _ _ _ _ _ z=>z
 obtain⟨Fr,R⟩:=rel_law hS fun z hz=>hO.2 _ ((ts_of (hts w)).2 z hz)
 refine ⟨_,Fr,[.fz (scrD ns)],fun r _=>r=.fz (.bool true),R,hc ns hl,fun v H' F' r ρ' _ _ res e=>?_⟩
 subst e
 have res:Da (K w.params) F' v (.bool true):=res
 cases res
 rfl
end L3
namespace L2
open PySem PySem.Spec PyProof.Rows PySem.W
section
variable {X:Cx}{α:Type}[Inhabited α]{Rep:Hp->Addr->α->Prop}{fn:Hp->V->α}{lt:α->α->Bool}{κ:SortKind}
theorem relV_ref{c:Addr}{u:Value}(h:RelV (.ref c) u):u=.ref c:=h
noncomputable def ofVal(fn:Hp->V->α)(H:Hp):Value->α
 | .ref c=>fn H (.ref c)
 | _=>default
theorem call_sortG(W:SG.Wk lt)(hf:∀H c a,Rep H c a->fn H (.ref c)=a)
  (hkind:∀{pins:List (Addr×Obj)}{s:Shared}{σ:St}{H:Hp},Inv X pins σ H s->∀its:List Value,2<=its.length->(∀u∈its,∃c x,u=.ref c/\Rep H c x)->∀(s':Shared),(∀b o,s.heap.get? b=some o->s'.heap.get? b=some o)->∀(E:Value->Shared->Prop) (Q':SortKind->Shared->Prop),Q' κ s'->wpAny (model X.prog X.w) X.A.in1.in1 (keyKind' its.toArray) Q' E s')
  (hcmp:∀{pins:List (Addr×Obj)}{s:Shared}{σ:St}{H:Hp},Inv X pins σ H s->∀(c d:Addr) (x y:α),Rep H c x->Rep H d y->∀(s':Shared),(∀b o,s.heap.get? b=some o->s'.heap.get? b=some o)->∀Q':Bool->Shared->Prop,Q' (lt x y) s'->wpAny (model X.prog X.w) X.A.in1.in1 (keyLt' κ (.ref c) (.ref d)) Q' (fun _ _=>False) s') :
  CallR X (.builtin "sorted") (rSortG X.K Rep fn lt):=by
 intro pins s σ H xs us Q I r h
 obtain⟨a,vs,rfl,hs,hz,hrep,q⟩:=h
 obtain⟨u,rfl,ru⟩:=vals1 r
 cases ru
 obtain⟨its,rv,⟨o,n,e,c,d1,d2⟩,hz'⟩:=I.list hs
 have hl:=rv.length
 have at':∀u∈its,∃c x,u=.ref c/\Rep H c x:=fun u hu=>by
  obtain⟨i,hi,rfl⟩:=List.getElem_of_mem hu
  have hi2:i < vs.length:=by omega
  obtain⟨c,x,hv,hr⟩:=hrep _ (List.getElem_mem hi2)
  obtain⟨u,hu,ru⟩:=rv.get (List.getElem?_eq_getElem hi2)
  rw[hv]at ru
  rw[List.getElem?_eq_getElem hi]at hu
  have:its[i]=u:=Option.some.inj hu
  rw[this]
  exact ⟨c,x,relV_ref ru,hr⟩
 have key:∀x∈its,∀y∈its,decide ((its.map (ofVal fn H)).countP (fun a=>lt a (ofVal fn H x)) < (its.map (ofVal fn H)).countP (fun a=>lt a (ofVal fn H y)))=lt (ofVal fn H x) (ofVal fn H y):=fun x hx y hy =>
  SG.rank W (List.mem_map_of_mem hx) (List.mem_map_of_mem hy)
 refine sorted_rk (κ:=κ) (rk:=fun v=>(its.map (ofVal fn H)).countP (fun a=>lt a (ofVal fn H v))) (vs:=its) ⟨o,e,c,n,by first|exact d2|exact d1⟩ (by omega) (fun h2 s' k E' Q' q'=>?_) (fun s' k x y hx hy Q' q'=>?_) (fun out o1 o2=>?_)
 ·exact hkind I its h2 at' s' k E' Q' q'
 ·rw[key x hx y hy]at q'
  obtain⟨c,x',rfl,hx'⟩:=at' x hx
  obtain⟨d,y',rfl,hy'⟩:=at' y hy
  refine hcmp I c d x' y' hx' hy' s' k Q' ?_
  have e1:ofVal fn H (.ref c)=x':=hf H c x' hx'
  have e2:ofVal fn H (.ref d)=y':=hf H d y' hy'
  rw[e1,e2]at q'
  exact q'
 ·obtain⟨ep,he⟩:=sortedAll_at s.heap its out.toArray
  have hn:H (s.heap.objs.size+1)=none:=I.hok.fresh (Nat.le_succ _)
  obtain⟨us',p',r'⟩:=vals_perm o1 rv
  refine ⟨.ref (s.heap.objs.size+1),upd H (s.heap.objs.size+1) (.lst us'),I.laid (t':=s.toks) (fun b u e=>sortedAll_old e) (Nat.le_succ _) ?_,rfl,q _ us' hn p' ?_⟩
  ·exact ⟨by rw[p'.length_eq];exact hz,out,ep,r',by rw[he]⟩
  ·rw[List.pairwise_map,List.pairwise_iff_getElem]
   intro i j hi hj hij
   have hl':=r'.length
   have o3:=List.pairwise_iff_getElem.mp o2 i j (by omega) (by omega) hij
   have hxm:out[i]'(by omega)∈its:=o1.mem_iff.mp (List.getElem_mem _)
   have hym:out[j]'(by omega)∈its:=o1.mem_iff.mp (List.getElem_mem _)
   have k2:=key _ hym _ hxm
   rw[decide_eq_false (Nat.not_lt.mpr o3)]at k2
   have ev:∀(m:Nat) (hm:m < us'.length),fn H us'[m]=ofVal fn H (out[m]'(by omega)):=fun m hm=>by
    obtain⟨c,x,hv,hr⟩:=hrep _ (p'.mem_iff.mp (List.getElem_mem hm))
    obtain⟨u,hu,ru⟩:=r'.get (List.getElem?_eq_getElem hm)
    rw[List.getElem?_eq_getElem (by omega)]at hu
    have hu:out[m]'(by omega)=u:=Option.some.inj hu
    rw[hv]at ru ⊢
    rw[hu,relV_ref ru]
    rfl
   rw[ev i hi,ev j hj]
   exact k2.symm
end
section
variable {prog:Program}{w:World}{A:Around}{s:Shared}
theorem one_int(b:Bool){n m:Int}{t u:Tok}{Q:Bool->Shared->Prop}{E:Value->Shared->Prop}(h:Q (decide (n < m)) s):wpAny (model prog w) A (oneLt' b (.int n t) (.int m u)) Q E s:=by
 cases b with
 | true=>exact oneLt_int h
 | false=>exact kat_one _ _ (lt_int h)
theorem kat_ints{b:Bool}{Q:Bool->Shared->Prop}:∀{ns ms:List Int}{xs ys:List Value} (i:Nat),IntsAre xs ns->IntsAre ys ms->Q (HT.lexLt ns ms) s->KatLex prog w A b (decide (xs.length < ys.length)) Q (xs.zip ys) i s
 | _,_,_,_,i,.nil,.nil,h=>h
 | _,_,_,_,i,.nil,.cons m u r,h=>h
 | _,_,_,_,i,.cons n t r,.nil,h=>h
 | _,_,_,_,i,.cons (vs:=xs) (ns:=ns) n t r,.cons (vs:=ys) (ns:=ms) m u r',h=>by
  have e:decide ((Value.int n t :: xs).length < (Value.int m u :: ys).length)=decide (xs.length < ys.length):=by simp
  rw[e]
  rw[HT.lexLt_cons]at h
  show KatLex prog w A b _ Q ((Value.int n t,Value.int m u) :: xs.zip ys) i s
  refine kat_cons (SeqAt.EqAt.int_int n t m u _ _ _ _ ?_)
  refine kat_go (fun q=>kat_yes ?_) (fun q=>kat_no ?_)
  ·rw[if_pos (by simpa using q)]at h
   exact kat_ints (i+1) r r' h
  ·rw[if_neg (by simpa using q)]at h
   exact one_int _ h
end
noncomputable def RepT(H:Hp)(c:Addr)(r:List Int):Prop:=H c=some (.tup (r.map V.int))/\r≠[]
noncomputable def fnT(H:Hp):V->List Int
 | .ref c=>match H c with
  | some (.tup xs)=>xs.map unV
  | _=>[]
 | _=>[]
theorem fnT_of(H:Hp)(c:Addr)(r:List Int)(h:RepT H c r):fnT H (.ref c)=r:=by
 show (match H c with|some (.tup xs)=>xs.map unV|_=>[])=r
 rw[h.1]
 exact unV_ints r
theorem call_sortT{X:Cx}:CallR X (.builtin "sorted") (rSortG X.K RepT fnT HT.lexLt):=by
 refine call_sortG (κ:=tuples' true) SG.lex_wk fnT_of (fun {pins s σ H} I its h2 at' s' k E' Q' q'=>?_) (fun {pins s σ H} I c d x y hx hy s' k Q' q'=>?_)
 ·have gen:∀(l:List Value),(∀v∈l,∃(c:Addr) (r:List Int),v=.ref c/\RepT H c r)->∃fs:List Value,KatTups s'.heap l fs/\fs.length=l.length/\∀v∈fs,Looks (model X.prog X.w) s'.heap (typeOf v) (.type "int"):=by
   intro l
   induction l with
   | nil=>intro _;exact ⟨[],.nil,rfl,fun v hv=>by simp at hv⟩
   | cons v l ih =>
    intro hl
    obtain⟨fs,f1,f2,f3⟩:=ih fun x hx=>hl x (List.mem_cons_of_mem _ hx)
    obtain⟨c,r,rfl,hc,hr⟩:=hl v List.mem_cons_self
    obtain⟨_,itc,rc,ob,e1,e2,m,e3,_⟩:=(show ObjOk X.prog X.w H s.heap c (.tup (r.map V.int)) from I.hok c _ hc)
    cases r with
    | nil=>exact absurd rfl hr
    | cons n r =>
     rw[List.map_cons]at rc
     cases rc with
     | cons h1 rc =>
      obtain⟨t,rfl⟩:=h1
      refine ⟨.int n t :: fs,.cons (k _ _ e1) e2 e3 rfl f1,by simp[f2],fun v hv=>?_⟩
      rcases List.mem_cons.mp hv with rfl|hv
      ·exact Looks.of_pure rfl
      ·exact f3 v hv
  obtain⟨fs,f1,f2,f3⟩:=gen its at'
  exact kat_kind (T:=.type "int") f1 (by omega) f3 (by decide) q'
 ·obtain⟨_,ic,rc,oc,c1,c2,m1,c3,_⟩:=(show ObjOk X.prog X.w H s.heap c (.tup (x.map V.int)) from I.hok c _ hx.1)
  obtain⟨_,id',rd,od,d1,d2,m2,d3,_⟩:=(show ObjOk X.prog X.w H s.heap d (.tup (y.map V.int)) from I.hok d _ hy.1)
  refine kat_lt (k _ _ c1) c3 (k _ _ d1) d3 ?_
  have:=kat_ints (prog:=X.prog) (w:=X.w) (A:=X.A.in1.in1) (s:=s') (b:=true) (Q:=Q') 0 (intsAre_of rc) (intsAre_of rd) q'
  simpa using this
end L2
namespace L3
open PySem PySem.Spec PyProof.Rows L2
noncomputable def fSortT:D->(Sl->Prop)->Prop
 | .list ds,Q=>∃rows:List (List Int),ds=rows.map (fun r=>.tuple (r.map PyData.int))/\rows.length<=sizeLine/\(∀r∈rows,r≠[])/\∀rows':List (List Int),rows'.Perm rows->rows'.Pairwise (fun a b=>HT.lexLt b a=false)->Q (.ow (.list (rows'.map fun r=>.tuple (r.map PyData.int))))
 | _,_=>False
theorem DaAll.mem{K:Fg}{F:Hp}:∀{us:List V}{ds:List D},DaAll K F us ds->∀v∈us,∃d∈ds,Da K F v d
 | _,_,.nil,v,h=>by simp at h
 | _,_,.cons a t,v,h=>by
  rcases List.mem_cons.mp h with rfl|h
  ·exact ⟨_,List.mem_cons_self,a⟩
  ·obtain⟨d,h1,h2⟩:=DaAll.mem t v h
   exact ⟨d,List.mem_cons_of_mem _ h1,h2⟩
theorem DaAll.map_of{K:Fg}{F:Hp}{f:V->D}:∀{us:List V},(∀v∈us,Da K F v (f v))->DaAll K F us (us.map f)
 | [],_=>.nil
 | v :: us,h=>.cons (h v List.mem_cons_self) (DaAll.map_of fun x hx=>h x (List.mem_cons_of_mem _ hx))
theorem DaAll.map_eq{K:Fg}{F:Hp}{α:Type}{g:α->D}{f:V->α}(hg:∀v a,Da K F v (g a)->f v=a):∀{us:List V}{as:List α},DaAll K F us (as.map g)->us.map f=as
 | [],[],_=>rfl
 | _ :: _,[],h=>by cases h
 | [],_ :: _,h=>by cases h
 | v :: us,a :: as,h=>by
  cases h with
  | cons h t=>rw[List.map_cons,hg v a h,DaAll.map_eq hg t]
theorem da_tup{K:Fg}{F:Hp}{v:V}{r:List Int}(h:Da K F v (.tuple (r.map PyData.int))):∃c,v=.ref c/\F c=some (.tup (r.map V.int)):=by
 cases h with
 | tup h t =>
  have:=t.ints_of
  subst this
  exact ⟨_,rfl,h⟩
theorem ok_sortT{K:Fg}:OpOk K (rSortG K RepT fnT HT.lexLt) (o1 fSortT):=ok1 fun G F σ H ρ x d Q Qd R h1 w k=>by
 cases d<;>first|exact w.elim|skip
 case list ds =>
  obtain⟨rows,e,hz,hne,w⟩:=w
  subst e
  obtain⟨a,us,rfl,e1,d1⟩:=h1.list R.sub
  have hl:=d1.length
  rw[List.length_map]at hl
  have hrep:∀v∈us,∃c r,v=.ref c/\RepT F c r/\r∈rows:=fun v hv=>by
   obtain⟨d,hd,dv⟩:=d1.mem v hv
   obtain⟨r,hr,rfl⟩:=List.mem_map.mp hd
   obtain⟨c,rfl,hc⟩:=da_tup dv
   exact ⟨c,r,rfl,⟨hc,hne r hr⟩,hr⟩
  have hfe:∀v∈us,fnT H v=fnT F v:=fun v hv=>by
   obtain⟨c,r,rfl,hc,_⟩:=hrep v hv
   rw[fnT_of F c r hc,fnT_of H c r ⟨R.sub _ _ hc.1,hc.2⟩]
  refine ⟨a,us,rfl,SqL.of e1,by omega,fun v hv=>?_,fun p us' hp p' o'=>?_⟩
  ·obtain⟨c,r,rfl,hc,_⟩:=hrep v hv
   exact ⟨c,r,rfl,R.sub _ _ hc.1,hc.2⟩
  ·have em:us.map (fnT F)=rows:=by
    refine DaAll.map_eq (K:=K) (F:=F) (g:=fun r:List Int=>PyData.tuple (r.map PyData.int)) (fun v a h=>?_) d1
    obtain⟨c,rfl,hc⟩:=da_tup h
    show (match F c with|some (.tup xs)=>xs.map unV|_=>[])=a
    rw[hc]
    exact unV_ints a
   have ee:us'.map (fnT H)=us'.map (fnT F):=List.map_congr_left fun v hv=>hfe v (p'.mem_iff.mp hv)
   rw[ee]at o'
   have dall:DaAll K F us' ((us'.map (fnT F)).map fun r=>PyData.tuple (r.map PyData.int)):=by
    rw[List.map_map]
    refine DaAll.map_of fun v hv=>?_
    obtain⟨c,r,rfl,hc,_⟩:=hrep v (p'.mem_iff.mp hv)
    show Da K F (.ref c) (.tuple ((fnT F (.ref c)).map PyData.int))
    rw[fnT_of F c r hc]
    exact .tup hc.1 (DaAll.ints r)
   obtain⟨R',r'⟩:=R.newOw (o:=.lst us') (d:=.list _) hp dall
   exact k _ _ F _ (Sub.refl _) R' r' (w _ (by rw[<- em];exact p'.map _) o')
theorem call_sortTK{X:Cx}{K:Fg}(h:X.K=K):CallR X (.builtin "sorted") (rSortG K RepT fnT HT.lexLt):=by subst h;exact call_sortT
end L3
namespace L2
open PySem PySem.Spec PyProof.Rows
noncomputable def rIsiLA(K:PySem.W.Frag):List V->Hp->VK->Prop:=fun xs H Q=>∃(x:V) (p:Addr),xs=[x,.ref p]/\(∃u,H p=some (.frz tyLT u)) /\
 ((∃a ys,x=.ref a/\SqL K H a ys/\Q (.bl true) H)\/(∃a ys,x=.ref a/\SqT K H a ys/\Q (.bl true) H)\/(((∃i,x=.int i)\/(∃b,x=.bl b)\/∃t,x=.str t)/\Q (.bl false) H))
theorem call_isiLA{X:Cx}:CallR X (.builtin "isinstance") (rIsiLA X.K):=by
 intro pins s σ H xs us Q I r h
 obtain⟨x,p,rfl,⟨u,hp⟩,h⟩:=h
 obtain⟨u1,u2,rfl,r1,r2⟩:=vals2 r
 cases r2
 have hpt:s.heap.get? p=some tyLT:=(show ObjOk X.prog X.w H s.heap p (.frz tyLT u) from I.hok p _ hp).1
 rcases h with⟨a,ys,rfl,hs,q⟩|⟨a,ys,rfl,hs,q⟩|⟨h,q⟩
 ·cases r1
  obtain⟨its,rv,⟨o,n,e,c,d1,d2⟩,hz⟩:=I.list hs
  have ht:s.TypeIs (.ref a) "list":=⟨o,e,c⟩
  exact call_isinstance (isinstance_tuple (Tx:="list") (tp:=p) (cs:=[.type "list",.type "tuple"]) (vs:=[true,false])
    ⟨Answers.of_true (ki_meta .lst) (ki_sub .lst .lst),Answers.of_false_list (ki_ne .lst .tup (by decide)) (ki_meta .tup) (ki_sub .lst .tup),trivial⟩) ⟨ht,hpt,fun tk=>⟨.bl true,H,I.tok _,rfl,q⟩⟩
 ·cases r1
  obtain⟨its,_,⟨o,e,c,_⟩,_⟩:=I.tuple hs
  have ht:s.TypeIs (.ref a) "tuple":=⟨o,e,c⟩
  exact call_isinstance (isinstance_tuple (Tx:="tuple") (tp:=p) (cs:=[.type "list",.type "tuple"]) (vs:=[false,true])
    ⟨Answers.of_false_tuple (ki_ne .tup .lst (by decide)) (ki_meta .lst) (ki_sub .tup .lst),Answers.of_true (ki_meta .tup) (ki_sub .tup .tup),trivial⟩) ⟨ht,hpt,fun tk=>⟨.bl true,H,I.tok _,rfl,q⟩⟩
 ·rcases h with⟨i,rfl⟩|⟨b,rfl⟩|⟨t,rfl⟩
  ·obtain⟨t,rfl⟩:=r1
   exact call_isinstance (isinstance_tuple (Tx:="int") (tp:=p) (cs:=[.type "list",.type "tuple"]) (vs:=[false,false])
     ⟨Answers.of_false_int (ki_ne .int .lst (by decide)) (ki_meta .lst) (ki_sub .int .lst),Answers.of_false_int (ki_ne .int .tup (by decide)) (ki_meta .tup) (ki_sub .int .tup),trivial⟩) ⟨typeIs_int _ _ _,hpt,fun tk=>⟨.bl false,H,I.tok _,rfl,q⟩⟩
  ·cases r1
   exact call_isinstance (isinstance_tuple (Tx:="bool") (tp:=p) (cs:=[.type "list",.type "tuple"]) (vs:=[false,false])
     ⟨Answers.of_false_bool (ki_ne .bl .lst (by decide)) (ki_meta .lst) (ki_sub .bl .lst),Answers.of_false_bool (ki_ne .bl .tup (by decide)) (ki_meta .tup) (ki_sub .bl .tup),trivial⟩) ⟨PySem.typeIs_bool _ _,hpt,fun tk=>⟨.bl false,H,I.tok _,rfl,q⟩⟩
  ·obtain⟨t',rfl⟩:=r1
   exact call_isinstance (isinstance_tuple (Tx:="str") (tp:=p) (cs:=[.type "list",.type "tuple"]) (vs:=[false,false])
     ⟨Answers.of_false_str (ki_ne .str .lst (by decide)) (ki_meta .lst) (ki_sub .str .lst),Answers.of_false_str (ki_ne .str .tup (by decide)) (ki_meta .tup) (ki_sub .str .tup),trivial⟩) ⟨PySem.typeIs_str _ _ _,hpt,fun tk=>⟨.bl false,H,I.tok _,rfl,q⟩⟩
end L2
namespace L3
open PySem PySem.Spec PyProof.Rows L2
noncomputable def fIsiLA:D->(Sl->Prop)->Prop
 | .list _,Q=>Q (.fz (.bool true))
 | .tuple _,Q=>Q (.fz (.bool true))
 | .int _,Q=>Q (.fz (.bool false))
 | .bool _,Q=>Q (.fz (.bool false))
 | .str _,Q=>Q (.fz (.bool false))
 | _,_=>False
theorem ok_isiLA{K:Fg}:OpOk K (fun vs H Q=>∃x,vs=[x]/\∀p,H p=none->rIsiLA K [x,.ref p] (upd H p (.frz tyLT (.tup [.ty "list",.ty "tuple"]))) Q) (o1 fIsiLA):=ok1 fun G F σ H ρ x d Q Qd R h1 w k=>by
 have fin:∀(b:Bool) (p:Addr),H p=none->Qd (.fz (.bool b))->Q (.bl b) (upd H p (.frz tyLT (.tup [.ty "list",.ty "tuple"]))):=fun b p hp w=>k _ _ F (.fz _) (Sub.refl _) (R.laid hp) (Da.bl _) w
 cases d<;>first|exact w.elim|skip
 case bool b =>
  cases h1.bool
  exact ⟨_,rfl,fun p hp=>⟨_,p,rfl,⟨_,upd_same⟩,.inr (.inr ⟨.inr (.inl ⟨_,rfl⟩),fin _ p hp w⟩)⟩⟩
 case int b =>
  cases h1.int
  exact ⟨_,rfl,fun p hp=>⟨_,p,rfl,⟨_,upd_same⟩,.inr (.inr ⟨.inl ⟨_,rfl⟩,fin _ p hp w⟩)⟩⟩
 case str b =>
  cases h1.str
  exact ⟨_,rfl,fun p hp=>⟨_,p,rfl,⟨_,upd_same⟩,.inr (.inr ⟨.inr (.inr ⟨_,rfl⟩),fin _ p hp w⟩)⟩⟩
 case list ds =>
  obtain⟨a,us,rfl,e1,d1⟩:=h1.list R.sub
  exact ⟨_,rfl,fun p hp=>⟨_,p,rfl,⟨_,upd_same⟩,.inl ⟨a,us,rfl,SqL.of (by rw[upd_ne (ne_of_none e1 hp)];exact e1),fin _ p hp w⟩⟩⟩
 case tuple ds =>
  obtain⟨a,us,rfl,_,e1,d1⟩:=h1.tuple R.sub
  exact ⟨_,rfl,fun p hp=>⟨_,p,rfl,⟨_,upd_same⟩,.inr (.inl ⟨a,us,rfl,SqT.of (by rw[upd_ne (ne_of_none e1 hp)];exact e1),fin _ p hp w⟩)⟩⟩
section
variable {X:Cx}{K:Fg}{e1:Expr}{a:AD}{p pos p2 p3 p4:Pos}
theorem w_isiLA{k:Nat}(hK:X.K=K)(hm:X.mg "isinstance"=none)(hm1:X.mg "list"=none)(hm2:X.mg "tuple"=none)(ha:WE X e1 (argT K a))(hg:Gl X "isinstance":=by rfl)(hg1:Gl X "list":=by rfl)(hg2:Gl X "tuple":=by rfl)(he:notStar e1=true:=by rfl) :
  WE X (.Call (.Name "isinstance" p) [e1,.Tuple [.Name "list" p2,.Name "tuple" p3] k p4] [] pos) (lift K (dOp [a] (o1 fIsiLA))):=by
 subst hK
 exact ⟨peM (pe_callB call_isiLA hg hm boot_isinstance (pa_cons ha.h (pa_cons (pe_tyT hm1 hm2 hg1 hg2) pa_nil (starEach_of rfl)) (starEach_of he)) (by decide) (by decide) (starEach_of he) (plain_of rfl)) fun q=>arg1 (P:=fun x H1=>∀p,H1 p=none->rIsiLA X.K [x,.ref p] (upd H1 p (.frz tyLT (.tup [.ty "list",.ty "tuple"]))) _) (l_op ok_isiLA q)⟩
end
noncomputable def cA(mg:Str->Option Value)(x:Str):Addr:=match mg x with
 | some (.ref a)=>a
 | _=>0
theorem cA_of{mg:Str->Option Value}{x:Str}{a:Addr}(h:mg x=some (.ref a)):cA mg x=a:=by unfold cA;rw[h]
theorem cA_mg{mg:Str->Option Value}{x:Str}{a:Addr}(h:mg x=some (.ref a)):mg x=some (.ref (cA mg x)):=by rw[cA_of h];exact h
structure WC(X:Cx)(es:List Expr)(Bs:List Addr):Prop where
 h:PA X es (fun _ H Q=>Q (Bs.map V.ref) H)
section
variable {X:Cx}{K:Fg}{e1:Expr}{es:List Expr}{a:AD}{as:List AD}{B:Addr}{Bs:List Addr}{y f n b c:Str}{p pos p2 p3 p4 pb pn pc hpos cpos apos py:Pos}{k iE iC:Nat}{ps:List Str}{con:ConX}{t:TDS}
end
end L3
namespace L2
open PySem PySem.Spec PyProof.Rows
theorem ne_add{b n:Nat}(k:Nat)(h:b < n):b≠n+k:=by omega
theorem zip_no_keys:typeLookup (.type "zip") "keys"=pure none:=by rw[typeLookup_type,builtinLookup_eq_fast];kernel_rfl
theorem zip_no_getattr:typeLookup (.type "zip") "__getattr__"=pure none:=by rw[typeLookup_type,builtinLookup_eq_fast];kernel_rfl
theorem entry_zip_getattribute:entryFor table "zip.__getattribute__"=some Builtin.«object.__getattribute__»:=entryFor_alias (id':="object.__getattribute__") (by kernel_rfl) (by decide +kernel) (by decide +kernel) (by kernel_rfl)
theorem zip_attr_miss(a:Addr)(fs:Array Value)(sl:Array (Option Value))(u:Tok) :
  Meets (Builtin.«object.__getattribute__» ⟨[.ref a,.str "keys" u],[]⟩) (fun A R s=>s.heap.get? a=some { cls:=.type "zip",dict:=none,data:=.fields fs,slots:=sl }/\raisesAttr (.ref a) "keys" A R s):=.of_wp fun prog w A R s hs=>by
 obtain⟨hp,g,d,tk,os⟩:=s
 obtain⟨hx,hs⟩:=hs
 have hT:(⟨hp,g,d,tk,os⟩:Shared).TypeIs (.ref a) "zip":=⟨_,hx,rfl⟩
 have hmiss:=zip_no_keys
 have hname:(["__module__","__name__","__qualname__","__doc__","__annotations__"]:List Str).contains "keys"=false:=by decide +kernel
 unfold Builtin.«object.__getattribute__»
 repeat (any_goals (first|assumption|wp_step))
 all_goals (try simp only[hname,Bool.false_eq_true,if_false])
 repeat (any_goals (first|assumption|wp_step))
 exact wpAny_raiseAttrError hs.1 hs.2 (attrMsg_fits (by decide +kernel) (by size_fits))
section
variable {prog:Program}{w:World}{A:Around}{E:Value->Shared->Prop}{s:Shared}
theorem zip_keys_none{a:Addr}{fs:Array Value}{sl:Array (Option Value)}{Q:Option Value->Shared->Prop}(hx:s.heap.get? a=some { cls:=.type "zip",dict:=none,data:=.fields fs,slots:=sl })(hA:A.handled=none)
  (h:∀h' tk,(∀b o,s.heap.get? b=some o->h'.get? b=some o)->Q none { s with heap:=h',toks:=tk }) :
  wpAny (model prog w) A (getAttr? (.ref a) "keys") Q E s:=by
 obtain⟨hp,g,d,tk,os⟩:=s
 have hT:∀tk',(⟨hp,g,d,tk',os⟩:Shared).TypeIs (.ref a) "zip":=fun _=>⟨_,hx,rfl⟩
 have f1:=sub_AttributeError
 have f3:=F.slot_zip_getattribute.lookup
 have f4:=F.slot_zip_getattribute.bind (.ref a)
 have f5:=zip_no_getattr
 unfold getAttr? getAttrBy? getAttrBy
 repeat (any_goals (first|assumption|exact hT _|((with_reducible show wpAny _ _ (call (Value.builtin "zip.__getattribute__") _ _) _ _ _);refine call_meets F.slot_zip_getattribute (hT _) entry_zip_getattribute (F.args_zip_getattribute_2 _ _) (zip_attr_miss a fs sl _) ⟨hx,hA,fun h' tk' e hx'=>?_⟩)|wp_step))
 obtain⟨t',u',he⟩:=hx'.there
 show wpAny _ _ (getattributeRaised _ _ _ _ _ _ _) _ _ _
 unfold getattributeRaised
 repeat (any_goals (first|assumption|wp_step))
 exact h _ _ hx'.keeps
end
section
variable {prog:Program}{w:World}{A:Around}{R:Result->Shared->Prop}
theorem upd_loopZ{z TI TO d i1 i2 l1 l2:Addr}{k1 k2:Kd}{xs1 xs2:Array Value}{n:Nat}(hh:A.handled=none)(D:ZAp2 z TI TO i1 i2 l1 l2)(n1:z≠d)(n2:TI≠d)(n3:TO≠d)(n4:i1≠d)(n5:i2≠d)(n6:l1≠d)(n7:l2≠d)
  (hn1:n<=xs1.size) (hn2:n<=xs2.size) (hend:xs1[n]?=none\/xs2[n]?=none) (J:Nat->Heap->Prop)
  (hfr:∀i h h',J i h->(∀b o,b≠z->b≠TO->b≠i1->b≠i2->h.get? b=some o->h'.get? b=some o)->J i h')
  (step:∀(i:Nat) (x y:Value) (s:Shared) (Q:Unit->Shared->Prop) (E:Value->Shared->Prop),i < n->xs1[i]?=some x->xs2[i]?=some y->J i s.heap ->
    (∀h' tk,J (i+1) h'->Heap.SameBut d s.heap h'->Q () { s with heap:=h',toks:=tk })->wpAny (model prog w) A.in1 (dictSet d x y) Q E s) :
  ∀(k i:Nat) (s:Shared) (tA:Tok),n - i=k->i<=n->ZSt s.heap z TI TO d i1 i2 l1 l2 k1 k2 i->SqAt k1 s.heap l1 xs1->SqAt k2 s.heap l2 xs2->J i s.heap->d < s.heap.objs.size ->
  (∀h' tk,J n h'->R (.ok (.ret .none)) { s with heap:=h',toks:=tk }) ->
  codeAny (model prog w) A (.builtin "dict.update.loop" ⟨[.ref d,.ref z,.int i tA,.none],[]⟩) R s:=by
 intro k
 induction k with
 | zero =>
  intro i s tA hk hi hst q1 q2 hJ hd hR
  have hin:i=n:=by omega
  subst hin
  refine codeAny_builtin entry_upd_loop ?_
  rw[Around.under_plainId plain_upd_loop _]
  show wpAny _ A.in1 (pyNext (.ref z) >>= _) _ _ s
  refine wpAny_bind (next_keptEnd2 (A:=A.in1) hh D hst q1 q2 hend fun h' he=>?_)
  show wpAny _ _ (Builtin.Dict.addKeywords d [] >>= _) _ _ _
  exact wpAny_bind (wpAny_pure (wpAny_pure (hR h' s.toks (hfr _ _ _ hJ he))))
 | succ k ih =>
  intro i s tA hk hi hst q1 q2 hJ hd hR
  have hlt:i < n:=by omega
  obtain⟨x,hx⟩:∃p,xs1[i]?=some p:=⟨xs1[i],Array.getElem?_eq_getElem (by omega)⟩
  obtain⟨y,hy⟩:∃p,xs2[i]?=some p:=⟨xs2[i],Array.getElem?_eq_getElem (by omega)⟩
  refine codeAny_builtin entry_upd_loop ?_
  rw[Around.under_plainId plain_upd_loop _]
  show wpAny _ A.in1 (pyNext (.ref z) >>= _) _ _ s
  refine wpAny_bind (next_kept2 (S:=d) D hd hst q1 q2 hx hy fun h' hst' ht hz hkp=>?_)
  have hJ':=hfr _ _ _ hJ hkp
  show wpAny _ A.in1 (holding [.ref s.heap.objs.size] _ >>= _) _ _ _
  refine wpAny_bind (wpAny_holding ?_)
  refine wpAny_bind (wpAny_tryCatch ?_)
  unfold Builtin.Dict.pairItems
  refine wpAny_bind (wpAny_typeOf (T:="tuple") ⟨_,ht,rfl⟩ ?_)
  rw[if_pos (by decide)]
  refine wpAny_bind (wpAny_seqItems ht rfl (wpAny_pure ?_))
  show wpAny _ A.in1 (holding [x,y] (dictSet d x y)) _ _ _
  refine wpAny_holding (wpAny_mono (step i x y { s with heap:=h' } (fun _ s''=>∃h'' tk',s''={ s with heap:=h'',toks:=tk' }/\J (i+1) h''/\Heap.SameBut d h' h'') (fun _ _=>False) hlt hx hy hJ' fun h'' tk' j sb=>⟨h'',tk',rfl,j,sb⟩) (fun _ s'' z=>?_) fun _ _ z=>z.elim)
  obtain⟨h'',tk',rfl,j,sb⟩:=z
  have kp:∀b o,b≠d->h'.get? b=some o->h''.get? b=some o:=fun b o nb e=>(sb.2 b nb).trans e
  refine wpAny_pure ⟨plainId_quiet plain_upd_loop _,?_⟩
  refine ih (i+1) { s with heap:=h'',toks:=tk' } 0 (by omega) hlt (hst'.keep kp n1 n2 n3 n4 n5) (q1.at fun o e=>kp _ _ n6 (hkp _ o D.l1z D.l1TO D.l1i1 D.l1i2 e)) (q2.at fun o e=>kp _ _ n7 (hkp _ o D.l2z D.l2TO D.l2i1 D.l2i2 e)) j ?_ fun h3 tk3 j3=>hR h3 tk3 j3
  have:IsTup2 h'' s.heap.objs.size x y:=kp _ _ (Nat.ne_of_gt hd) ht
  exact Nat.lt_trans hd (Heap.lt_size this)
end
theorem call_dict_zip{prog:Program}{w:World}{A:Around}{E:Value->Shared->Prop}{s:Shared}{z TI TO i1 i2 l1 l2:Addr}{k1 k2:Kd}{xs1 xs2:Array Value}{n:Nat}{Q:Value->Shared->Prop}(J:Nat->Heap->Prop)(hh:A.handled=none)(D:ZAp2 z TI TO i1 i2 l1 l2)
  (hn1:n<=xs1.size) (hn2:n<=xs2.size) (hend:xs1[n]?=none\/xs2[n]?=none) {a1 a2:Value}
  (hz:IsZip s.heap z TI TO .none) (hTI:IsTup2 s.heap TI (.ref i1) (.ref i2)) (hTO:IsTup2 s.heap TO a1 a2) (h1:ItAt k1 s.heap i1 l1 0) (h2:ItAt k2 s.heap i2 l2 0) (hl1:SqAt k1 s.heap l1 xs1) (hl2:SqAt k2 s.heap l2 xs2) (b1:l1 < s.heap.objs.size) (b2:l2 < s.heap.objs.size)
  (h0:∀h',(∀b ob,s.heap.get? b=some ob->h'.get? b=some ob)->h'.get? s.heap.objs.size=some { cls:=.type "dict",data:=.dict #[] }->J 0 h')
  (hfr:∀i h h',J i h->(∀b o,b≠z->b≠TO->b≠i1->b≠i2->h.get? b=some o->h'.get? b=some o)->J i h')
  (step:∀(i:Nat) (x y:Value) (s':Shared) (Q':Unit->Shared->Prop) (E':Value->Shared->Prop),i < n->xs1[i]?=some x->xs2[i]?=some y->J i s'.heap ->
    (∀h' tk,J (i+1) h'->Heap.SameBut s.heap.objs.size s'.heap h'->Q' () { s' with heap:=h',toks:=tk })->wpAny (model prog w) A.in1.in1 (dictSet s.heap.objs.size x y) Q' E' s')
  (h:∀h' tk,J n h'->Q (.ref s.heap.objs.size) { s with heap:=h',toks:=tk }) :
  wpAny (model prog w) A (call (.type "dict") [.ref z]) Q E s:=by
 refine callType_codes (Q₁:=fun obj s₁=>obj=.ref s.heap.objs.size/\s₁={ s with heap:=s.heap.push { cls:=.type "dict",data:=.dict #[] } }) F.kt_called_dict (F.kt_typeCall_dict_1 _) F.entry_dict_init (kt_code_dict_new _ ⟨rfl,rfl⟩) ?_
 rintro obj s₁ ⟨rfl,rfl⟩
 have hnew:(s.heap.push { cls:=.type "dict",data:=.dict #[] }).get? s.heap.objs.size=some { cls:=.type "dict",data:=.dict #[] }:=Heap.get?_push_size _ rfl
 have hkp:∀b ob,s.heap.get? b=some ob->(s.heap.push { cls:=.type "dict",data:=.dict #[] }).get? b=some ob:=fun b ob e=>Heap.get?_push_of_some _ e
 refine ⟨⟨_,hnew,rfl⟩,F.args_dict_init_2 _ _,?_⟩
 unfold Builtin.«dict.__init__»
 refine wpAny_bind ?_
 unfold Builtin.Dict.selfAndRest
 refine wpAny_bind (wpAny_notOrdered_dict ⟨_,hnew,rfl⟩ ?_)
 show wpAny _ _ (pure (s.heap.objs.size,[Value.ref z])) _ _ _
 refine wpAny_pure ?_
 show wpAny _ _ (Builtin.Dict.updateFrom "dict.__init__" s.heap.objs.size (.ref z) [] .none) _ _ _
 unfold Builtin.Dict.updateFrom
 refine wpAny_bind (wpAny_typeOf (T:="zip") ⟨_,hkp _ _ hz,rfl⟩ ?_)
 rw[if_pos (by decide)]
 refine wpAny_bind (zip_keys_none (hkp _ _ hz) hh fun h1' tk1 kk1=>?_)
 simp only[Option.isNone_none,if_true]
 refine wpAny_bind (wpAny_rule ?_)
 refine wpAny_bind (wpAny_pyIter_zip (s:={ s with heap:=h1',toks:=tk1 }) (kk1 _ _ (hkp _ _ hz)) ?_)
 have kp:∀b ob,s.heap.get? b=some ob->h1'.get? b=some ob:=fun b ob e=>kk1 b ob (hkp b ob e)
 obtain⟨o1,g1,_⟩:=h1.obj
 obtain⟨o2,g2,_⟩:=h2.obj
 have hlt:s.heap.objs.size < h1'.objs.size:=Heap.lt_size (kk1 _ _ hnew)
 refine wpAny_pure ⟨plainId_quiet plain_upd_loop _,upd_loopZ (A:=A.in1) hh D (Nat.ne_of_lt (Heap.lt_size hz)) (Nat.ne_of_lt (Heap.lt_size hTI)) (Nat.ne_of_lt (Heap.lt_size hTO)) (Nat.ne_of_lt (Heap.lt_size g1)) (Nat.ne_of_lt (Heap.lt_size g2)) (Nat.ne_of_lt b1) (Nat.ne_of_lt b2) hn1 hn2 hend J hfr step n 0 _ 0 rfl (Nat.zero_le _)
   ⟨kp _ _ hTI,h1.at fun o e=>kp _ _ e,h2.at fun o e=>kp _ _ e,.inl ⟨kp _ _ hz,a1,a2,kp _ _ hTO⟩⟩ (hl1.at fun o e=>kp _ _ e) (hl2.at fun o e=>kp _ _ e) (h0 h1' kp (kk1 _ _ hnew)) hlt fun h' tk j=>⟨rfl,h h' tk j⟩⟩
end L2
namespace L3
open PySem PySem.Spec PyProof.Rows L2
section
variable {X:Cx}{K:Fg}{e e1 e2:Expr}{a b:AD}{p pos pos' p2:Pos}
end
end L3
namespace L2
open PySem PySem.Spec PyProof.Rows
end L2
namespace L3
open PySem PySem.Spec PyProof.Rows L2
theorem izip2_of{i j:Nat}{ρ:Ev}{Q:List D->Ev->Prop}{A B:D}{us ws:List D}(h1:ρ[i]?=some (some (.fz A)))(h2:ρ[j]?=some (some (.fz B)))(e1:seqD A=some us)(e2:seqD B=some ws)(w:Q (zipD us ws) ρ):dIZip2 (.inl i) (.inl j) ρ Q:=by
 unfold dIZip2
 simp only[dArgs,h1,h2,lentAny,looksQ,Sl.d,e1,e2,isOw]
 exact w
theorem forZ_of{ks:List Nat}{i j:Nat}{g:TDG}{tb u:TDS}{E:DE}{ρ:Ev}{A B:D}{us ws:List D}(h1:ρ[i]?=some (some (.fz A)))(h2:ρ[j]?=some (some (.fz B)))(e1:seqD A=some us)(e2:seqD B=some ws)(w:dLoopC ks g tb { nx:=fun ρ'=>u E ρ',rt:=E.rt,bk:=E.bk,ct:=E.ct } (zipD us ws) (clean ks ρ)):dSeq (dForC ks (dIZip2 (.inl i) (.inl j)) g tb) u E ρ:=izip2_of (Q:=fun ds ρ'=>dLoopC ks g tb { nx:=fun ρ'=>u E ρ',rt:=E.rt,bk:=E.bk,ct:=E.ct } ds (clean ks ρ')) h1 h2 e1 e2 w
theorem cutS{t u:TDS}{E:DE}{ρ:Ev}(J:Ev->Prop)(h1:∀N:Ev->Prop,(∀ρ',J ρ'->N ρ')->t { nx:=N,rt:=E.rt,bk:=E.bk,ct:=E.ct } ρ)(h2:∀ρ',J ρ'->u E ρ'):dSeq t u E ρ:=h1 _ h2
theorem gnC{i:Nat}{d:D}{ρ:Ev}{Q:Ev->Prop}(h:dGN i d ρ Q=Q (ρ.set i (some (.fz d))))(w:Q (ρ.set i (some (.fz d)))):dGN i d ρ Q:=by rw[h];exact w
end L3
namespace L2
open PySem PySem.Spec PyProof.Rows
section
variable {P:Program}{w:World}{κ:Type}[DecidableEq κ]{kd:KeyKind P w κ}
variable {A:Around}{E:Value->Shared->Prop}{s:Shared}
end
section
variable {X:Cx}
end
end L2
namespace L3
open PySem PySem.Spec L2 PyProof.Rows
section
variable {X:Cx}{K:Fg}{e e1:Expr}{a:AD}{p pos p2:Pos}
theorem hu6_of{A:Around}{k:Nat}(hr:Room k A):A.units+6 < cLine:=Nat.lt_of_le_of_lt (Nat.add_le_add_left (by decide:6<=64) _) hr.units
end
end L3
namespace L2
open PySem PySem.Spec PyProof.Rows
section
variable {prog:Program}{w:World}{A:Around}{E:Value->Shared->Prop}{s:Shared}
theorem no_none(d:Addr):¬((Value.ref d==Value.none)=true):=Bool.false_ne_true
end
theorem prd_get{α β:Type}{R:α->β->Prop}:∀{l:List α}{m:List β},Paired R l m->∀{i:Nat}{x:α},l[i]?=some x->∃y,m[i]?=some y/\R x y
 | _,_,.nil,i,x,h=>by simp at h
 | _,_,.cons r t,0,x,h=>by
  simp only[List.getElem?_cons_zero,Option.some.injEq]at h
  subst h
  exact ⟨_,rfl,r⟩
 | _,_,.cons r t,i+1,x,h=>by
  simp only[List.getElem?_cons_succ]at h
  obtain⟨y,e,ry⟩:=prd_get t h
  exact ⟨y,e,ry⟩
section
variable {κ:Type}{hs:κ->Int}
theorem ext_same{P:Program}{w:World}{H:Hp}{h:Heap}{d d':Addr}{ep:Nat}{xs:List (κ×Addr×V)}(e:ObjOk P w H h d (extD hs d' ep xs)):d'=d:=by
 obtain⟨f,⟨o,ho⟩,st⟩:=e
 by_cases z:d'=d
 ·exact z
 exfalso
 obtain⟨⟨vs,pr,o',es,e1,e2,e3,e4⟩,_⟩:=id f
 obtain⟨⟨vs2,_,o2,es2,g1,g2,_⟩,_⟩:=st h (h.update d' fun _=>{ cls:=.type "tuple",data:=.seq #[] }) f fun q hq=>by rw[Heap.get?_update_ne _ d d' _ (Ne.symm z)];exact hq
 have g3:(h.update d' fun _=>{ cls:=.type "tuple",data:=.seq #[] }).get? d'=some { cls:=.type "tuple",data:=.seq #[] }:=Heap.get?_update_self _ e1 rfl
 rw[g3]at g1
 injection g1 with g1
 rw[<- g1]at g2
 exact absurd g2.1 (by decide)
theorem ext_at{X:Cx}{pins:List (Addr×Obj)}{σ:St}{H:Hp}{s:Shared}{d d':Addr}{ep:Nat}{xs:List (κ×Addr×V)}(I:Inv X pins σ H s)(e:H d=some (extD hs d' ep xs)) :
  ∃(vs:List (κ×Addr×Value)) (o:Obj) (es:Array DictEntry),Paired (fun x v=>x.1=v.1/\x.2.1=v.2.1/\RelV x.2.2 v.2.2) xs vs/\s.heap.get? d=some o/\o.ExactDict/\o.data=.dict es ep/\(es.toList=vs.map fun x=>⟨hs x.1,.ref x.2.1,x.2.2⟩)/\es.size=xs.length/\(xs.map (·.1)).Nodup/\xs.length<=sizeLine/\(d==sysModules)=false:=by
 have ed:=ext_same (show ObjOk X.prog X.w H s.heap d (extD hs d' ep xs) from I.hok d _ e)
 subst ed
 obtain⟨⟨⟨vs,pr,o,es,e1,e2,e3,e4⟩,nd,hl,hm⟩,_⟩:=(show ObjOk X.prog X.w H s.heap d' (extD hs d' ep xs) from I.hok d' _ e)
 refine ⟨vs,o,es,pr,e1,e2,e3,e4,?_,nd,hl,hm⟩
 have:=congrArg List.length e4
 rw[List.length_map,<- pr.length]at this
 simpa using this
end
noncomputable def rDP(K:PySem.W.Frag):List V->Hp->VK->Prop:=fun vs H1 Q=>∃(k1:Kd) (l1:Addr) (k2:Kd) (l2:Addr) (xs:List (List Int×Addr×V)),vs=[.ref l1,.ref l2]/\Sq k1 K H1 l1 (xs.map fun x=>V.ref x.2.1)/\Sq k2 K H1 l2 (xs.map fun x=>x.2.2) /\
 (∀x∈xs,H1 x.2.1=some (.tup (x.1.map V.int)))/\(xs.map (·.1)).Nodup/\∀l ep,H1 l=none->Q (.ref l) (upd H1 l (extD hL l ep xs))
noncomputable def tDP(K:PySem.W.Frag)(ta:TA):TE:=fun σ H Q=>ta σ H fun vs H1=>rDP K vs H1 Q
theorem ints_are{P:Program}{w:World}:∀{ks:List Int}{us:List Value},Vals (ks.map V.int) us->ItemsAre (intKind P w) ks us
 | [],_,r=>by cases r;exact .nil
 | k :: ks,_,r=>by
  cases r with
  | cons h t =>
   obtain⟨tk,rfl⟩:=h
   exact .cons (by show Value.isInt k (.int k tk)=true;simp[Value.isInt]) (ints_are t)
theorem prd_snoc{α β:Type}{R:α->β->Prop}{x:α}{y:β}:∀{l:List α}{m:List β},Paired R l m->R x y->Paired R (l++[x]) (m++[y])
 | _,_,.nil,r=>.cons r .nil
 | _,_,.cons r0 t,r=>.cons r0 (prd_snoc t r)
theorem prd_keys{κ:Type}:∀{xs:List (κ×Addr×V)}{vs:List (κ×Addr×Value)},Paired (fun x v=>x.1=v.1/\x.2.1=v.2.1/\RelV x.2.2 v.2.2) xs vs->vs.map (·.1)=xs.map (·.1)
 | _,_,.nil=>rfl
 | _,_,.cons r t=>by simp only[List.map_cons,prd_keys t,r.1]
theorem prd_len{α β:Type}{R:α->β->Prop}:∀{l:List α}{m:List β},Paired R l m->l.length=m.length
 | _,_,.nil=>rfl
 | _,_,.cons _ t=>by simp[prd_len t]
theorem prd_mem{α β:Type}{R:α->β->Prop}:∀{l:List α}{m:List β},Paired R l m->∀y∈m,∃x∈l,R x y
 | _,_,.nil,y,h=>by cases h
 | _,_,.cons r t,y,h=>by
  rcases List.mem_cons.mp h with z|z
  ·subst z;exact ⟨_,List.mem_cons_self,r⟩
  ·obtain⟨x,hx,r'⟩:=prd_mem t y z
   exact ⟨x,List.mem_cons_of_mem _ hx,r'⟩
theorem at_new{κ:Type}[DecidableEq κ]{vs:List (κ×Addr×Value)}{k:κ}(h:k∉vs.map (·.1)):atKey vs k=none:=atKey_none_of_get fun j p e=>h (List.mem_map.mpr ⟨_,List.mem_of_getElem? e,rfl⟩)
theorem take_get{α:Type}{l:List α}{i:Nat}{x:α}(h:l[i]?=some x):l.take (i+1)=l.take i++[x]:=by
 have hi:=(List.getElem?_eq_some_iff.mp h).1
 have e:=(List.getElem?_eq_some_iff.mp h).2
 rw[List.take_add_one,h]
 rfl
theorem key_fresh{κ:Type}{xs:List (κ×Addr×V)}{i:Nat}{x:κ×Addr×V}(nd:(xs.map (·.1)).Nodup)(h:xs[i]?=some x):x.1∉(xs.take i).map (·.1):=fun z=>by
 obtain⟨y,hy,e⟩:=List.mem_map.mp z
 obtain⟨j,hj⟩:=List.mem_iff_getElem?.mp hy
 rw[List.getElem?_take]at hj
 split at hj
 ·rename_i hlt
  have a1:(xs.map (·.1))[j]?=some x.1:=by rw[List.getElem?_map,hj,Option.map_some,e]
  have a2:(xs.map (·.1))[i]?=some x.1:=by rw[List.getElem?_map,h];rfl
  have:=(List.getElem?_inj (List.getElem?_eq_some_iff.mp a1).1 nd).mp (a1.trans a2.symm)
  omega
 ·cases hj
theorem pe_DP{X:Cx}{a b:Expr}{ta:TA}{p pos p0 pos0:Pos}(hcm:X.calm=true)(hu:X.A.units+2 < cLine)(hg0:Gl X "dict")(hm0:X.mg "dict"=none)(hv0:bootBuiltins "dict"=some (.type "dict"))(hg:Gl X "zip")(hm:X.mg "zip"=none)(ha:PA X [a,b] ta)
  (hs:starEach [a,b] X.env=(false,eval a X.env) :: starEach [b] X.env) (hpl:(backTo pos (starEach [b] X.env)).any (·.1)=false)
  (hs0:starEach [.Call (.Name "zip" p) [a,b] [] pos] X.env=(false,eval (.Call (.Name "zip" p) [a,b] [] pos) X.env) :: starEach [] X.env) (hpl0:(backTo pos0 (starEach [] X.env)).any (·.1)=false) :
  PE X (.Call (.Name "dict" p0) [.Call (.Name "zip" p) [a,b] [] pos] [] pos0) (tDP X.K ta):=by
 intro pins s σ H Q I h
 refine wpAny_Call_Name_kw (ld_blt I hg0 hm0 hv0 ?_ (by decide) (by decide))
 refine PyProof.Rows.callWith_type1 ?_ hs0 hpl0
 rw[hs0]
 show wpAny _ _ (spliced ((false,eval (.Call (.Name "zip" p) [a,b] [] pos) X.env) :: backTo pos0 (starEach [] X.env))) _ _ s
 refine Calls.spliced_cons ?_
 refine Call_ (ld_blt I hg hm boot_zip (PyProof.Rows.callWith_type1 (thn (ha pos pins s σ H _ I h) fun us s1 ⟨vs,H1,I1,r1,q1⟩=>?_) hs hpl))
 obtain⟨k1,l1,k2,l2,xs,e,q1,q2,hky,hnd,q⟩:=q1
 subst e
 obtain rfl:us=[.ref l1,.ref l2]:=by
  cases r1 with|cons r rr=>cases r;cases rr with|cons r rr=>cases r;cases rr;rfl
 obtain⟨its1,rv1,p1,z1⟩:=I1.sq q1
 obtain⟨its2,rv2,p2,z2⟩:=I1.sq q2
 have lt:∀{k:Kd}{l:Addr}{xs:Array Value},SqAt k s1.heap l xs->l < s1.heap.objs.size:=fun {k l xs} p=>by
  cases k with
  | l=>obtain⟨o,e,_⟩:=p;exact Heap.lt_size e
  | t=>obtain⟨o,e,_⟩:=p;exact Heap.lt_size e
 refine callType_new F.called_zip (by decide) (F.typeCall_zip_2 _ _) (F.newCall_zip_2 _ _) (fun obj=>F.args_object_init_3 obj _ _) F.entry_zip_new (zip_new2 k1 k2 l1 l2 its1.toArray its2.toArray) ⟨p1,p2,?_⟩
 have zI:(zh2I s1.heap k1 k2 l1 l2).objs.size=s1.heap.objs.size+2:=by simp[Heap.size_push]
 have zT:(zh2T s1.heap k1 k2 l1 l2).objs.size=s1.heap.objs.size+3:=by simp[Heap.size_push]
 have zO:(zh2O s1.heap k1 k2 l1 l2).objs.size=s1.heap.objs.size+4:=by simp[Heap.size_push]
 have zZ:(zh2Z s1.heap k1 k2 l1 l2).objs.size=s1.heap.objs.size+5:=by simp[Heap.size_push]
 have gZ:(zh2Z s1.heap k1 k2 l1 l2).get? (zh2O s1.heap k1 k2 l1 l2).objs.size=some _:=Heap.get?_push_size _ rfl
 have gO:(zh2Z s1.heap k1 k2 l1 l2).get? (zh2T s1.heap k1 k2 l1 l2).objs.size=some _:=Heap.get?_push_of_some _ (Heap.get?_push_size _ rfl)
 have gT:(zh2Z s1.heap k1 k2 l1 l2).get? (zh2I s1.heap k1 k2 l1 l2).objs.size=some _:=Heap.get?_push_of_some _ (Heap.get?_push_of_some _ (Heap.get?_push_size _ rfl))
 have g1:(zh2Z s1.heap k1 k2 l1 l2).get? s1.heap.objs.size=some (itObj k1 l1):=Heap.get?_push_of_some _ (Heap.get?_push_of_some _ (Heap.get?_push_of_some _ (Heap.get?_push_of_some _ (Heap.get?_push_size _ (by cases k1<;>rfl)))))
 have g2:(zh2Z s1.heap k1 k2 l1 l2).get? (s1.heap.push (itObj k1 l1)).objs.size=some (itObj k2 l2):=Heap.get?_push_of_some _ (Heap.get?_push_of_some _ (Heap.get?_push_of_some _ (Heap.get?_push_size _ (by cases k2<;>rfl))))
 have zz2:(s1.heap.push (itObj k1 l1)).objs.size=s1.heap.objs.size+1:=by simp[Heap.size_push]
 rw[zO,zT,zI]at gZ
 rw[zI,zz2]at gT
 rw[zT]at gO
 rw[zz2]at g2
 show _/\_
 rw[zO]
 have kp:∀b o,s1.heap.get? b=some o->(zh2Z s1.heap k1 k2 l1 l2).get? b=some o:=fun b o e=>Heap.get?_push_of_some _ (Heap.get?_push_of_some _ (Heap.get?_push_of_some _ (Heap.get?_push_of_some _ (Heap.get?_push_of_some _ (e)))))
 refine ⟨⟨_,gZ,rfl⟩,Calls.spliced_nil ?_⟩
 have len1:=rv1.length
 have len2:=rv2.length
 have DD:=zap2 s1.heap.objs.size l1 l2 (lt p1) (lt p2)
 have hxl:its1.length=xs.length:=by rw[<- len1,List.length_map]
 have hxl2:its2.length=xs.length:=by rw[<- len2,List.length_map]
 have key:∀{x:List Int×Addr×V}{h':Heap},x∈xs->(∀b ob,s1.heap.get? b=some ob->h'.get? b=some ob)->(tupleKind (intKind X.prog X.w)).is h' x.1 x.2.1:=fun {x h'} hx kk=>by
  obtain⟨_,its,r,o,h1,h2,n,h3,_⟩:=(show ObjOk X.prog X.w H1 s1.heap x.2.1 (.tup (x.1.map V.int)) from I1.hok _ _ (hky x hx))
  exact ⟨o,its.toArray,n,kk _ _ h1,h2,h3,by simpa using ints_are r⟩
 have hb:(s1.heap.objs.size+5==sysModules)=false:=beq_eq_false_iff_ne.mpr (Ne.symm (Nat.ne_of_lt (Nat.lt_of_lt_of_le I1.big (Nat.le_add_right _ _))))
 have hz5:xs.length<=sizeLine:=by omega
 refine call_dict_zip (s:={ s1 with heap:=zh2Z s1.heap k1 k2 l1 l2 }) (xs1:=its1.toArray) (xs2:=its2.toArray) (n:=xs.length) (fun i h=>(∀b ob,s1.heap.get? b=some ob->h.get? b=some ob)/\∃vs:List (List Int×Addr×Value),Paired (fun x v=>x.1=v.1/\x.2.1=v.2.1/\RelV x.2.2 v.2.2) (xs.take i) vs/\∃o es ep,h.get? (s1.heap.objs.size+5)=some o/\o.ExactDict/\o.data=.dict es ep/\es.toList=vs.map fun x=>⟨hL x.1,.ref x.2.1,x.2.2⟩)
  (I1.ok.hd hcm) DD (by simp only[List.size_toArray];omega) (by simp only[List.size_toArray];omega) (.inl (by simp;omega)) gZ gT gO (ItAt.new k1 g1) (ItAt.new k2 g2)
  (p1.at fun o e=>kp _ _ e) (p2.at fun o e=>kp _ _ e) (by show l1 < (zh2Z s1.heap k1 k2 l1 l2).objs.size;rw[zZ];exact Nat.lt_of_lt_of_le (lt p1) (Nat.le_add_right _ _)) (by show l2 < (zh2Z s1.heap k1 k2 l1 l2).objs.size;rw[zZ];exact Nat.lt_of_lt_of_le (lt p2) (Nat.le_add_right _ _)) ?_ ?_ ?_ ?_
 ·intro h' kk e
  dsimp only at e
  rw[zZ]at e
  exact ⟨fun b o x=>kk b o (kp b o x),[],.nil,_,#[],0,e,⟨rfl,rfl,rfl⟩,rfl,rfl⟩
 ·rintro i h1 h2 ⟨kk,vs,rel,o',es,ep,ho,rest⟩ k3
  have far:∀{b:Addr},b < s1.heap.objs.size->b≠s1.heap.objs.size+4/\b≠s1.heap.objs.size+3/\b≠s1.heap.objs.size/\b≠s1.heap.objs.size+1:=fun {b} z=>⟨ne_add 4 z,ne_add 3 z,ne_add 0 z,ne_add 1 z⟩
  refine ⟨fun b o x=>?_,vs,rel,o',es,ep,?_,rest⟩
  ·obtain⟨f1,f2,f3,f4⟩:=far (Heap.lt_size x)
   exact k3 b o f1 f2 f3 f4 (kk b o x)
  ·refine k3 _ _ ?_ ?_ ?_ ?_ ho<;>(show ¬(@Eq Nat _ _))<;>omega
 ·rintro i x y s' Q' E' hi hx hy ⟨kk,vs,rel,o',es,ep,ho,a1,a2,a3⟩ hq'
  dsimp only at hq' ⊢
  rw[zZ]at hq' ⊢
  obtain⟨y1,ey1,ry1⟩:=rv1.getV (by simpa using hx)
  obtain⟨y2,ey2,ry2⟩:=rv2.getV (by simpa using hy)
  obtain⟨⟨k,b,v⟩,hxi⟩:∃x,xs[i]?=some x:=⟨_,List.getElem?_eq_getElem hi⟩
  rw[List.getElem?_map,hxi]at ey1 ey2
  cases ey1
  cases ey2
  cases ry1
  have hxm:(k,b,v)∈xs:=List.mem_of_getElem? hxi
  have hvl:=prd_len rel
  rw[List.length_take]at hvl
  have hz2:vs.length<=sizeLine:=by omega
  have hfr:=key_fresh hnd hxi
  rw[<- prd_keys rel]at hfr
  have hvn:(vs.map (·.1)).Nodup:=by rw[prd_keys rel,List.map_take];exact hnd.sublist (List.take_sublist _ _)
  refine wpAny_dictSet_heap (hsz:=hz2) (knd:=tupleKind (intKind X.prog X.w)) hu (key hxm kk) ⟨o',es,ep,ho,a1,a2,a3,fun u hu'=>?_,hvn⟩ fun h' dd' sb=>hq' h' _ ⟨fun c o e=>?_,vs++[(k,b,y)],?_,?_⟩ sb
  ·obtain⟨x',hx',r1,r2,_⟩:=prd_mem rel u hu'
   have:=key (List.mem_of_mem_take hx') kk
   rw[r1,r2]at this
   exact this
  ·have hc:c < s1.heap.objs.size:=Heap.lt_size e
   exact (sb.2 c (ne_add 5 hc)).trans (kk c o e)
  ·rw[take_get hxi]
   exact prd_snoc rel ⟨rfl,rfl,ry2⟩
  ·obtain⟨q,es,ep,hq,h2,h3,h4,_,h5⟩:=dd'
   rw[storedH_new (at_new hfr)]at h4
   exact ⟨q,es,ep,hq,h2,h3,h4⟩
 ·rintro h' tk ⟨kk,vs,rel,o',es,ep,f1,f2,f3,f4⟩
  rw[List.take_of_length_le (Nat.le_refl _)]at rel
  have hfr:H1 (s1.heap.objs.size+5)=none:=I1.hok.fresh (Nat.le_add_right _ _)
  dsimp only
  rw[zZ]
  refine ⟨.ref (s1.heap.objs.size+5),_,I1.laid (t':=tk) kk (Nat.le_add_right _ _) (show ObjOk X.prog X.w _ h' _ (extD hL (s1.heap.objs.size+5) ep xs) from ⟨⟨⟨vs,rel,o',es,f1,f2,f3,f4⟩,hnd,hz5,hb⟩,⟨o',f1⟩,fun h1 h2 z k=>?_⟩),rfl,q _ ep hfr⟩
  obtain⟨⟨vs,r,o,es,g1,g2⟩,g3⟩:=z
  exact ⟨⟨vs,r,o,es,k _ g1,g2⟩,g3⟩
section
variable {X:Cx}{pins:List (Addr×Obj)}{σ:St}{H:Hp}{s:Shared}
end
end L2
namespace L3
open PySem PySem.Spec PyProof.Rows L2
noncomputable abbrev tI(k:List Int):D:=.tuple (k.map PyData.int)
noncomputable abbrev b2(k:List Int×List Int):D:=.tuple [tI k.1,tI k.2]
section
variable {K:Fg}{F H:Hp}
theorem ints_da:∀{ks:List Int}{xs:List V},DaAll K F xs (ks.map PyData.int)->xs=ks.map V.int
 | [],_,h=>by cases h;rfl
 | k :: ks,_,h=>by
  cases h with
  | cons h t =>
   rw[ints_da t]
   cases h
   rfl
theorem da_tI{v:V}{k:List Int}(h:Da K F v (tI k)):∃b,v=.ref b/\F b=some (.tup (k.map V.int)):=by
 cases h with
 | tup e t =>
  have:=ints_da t
  subst this
  exact ⟨_,rfl,e⟩
theorem da_mark{v:V}{d0:D}(h:Da K F v (.dict [(.bool false,d0)])):(∃a,v=.ref a/\d0=.none/\F a=some (opqO a))\/(∃a a' ep xs ps,v=.ref a/\F a=some (extD hL a' ep xs)/\DaPd K F xs ps/\d0=.list (ps.map fun p=>.tuple [tI p.1,p.2])) \/
  ∃a a' ep xs ps,v=.ref a/\F a=some (extD hB a' ep xs)/\DaBd K F xs ps/\d0=.tuple (ps.map fun p=>.tuple [b2 p.1,p.2]):=by
 generalize e0:(PyData.dict [(.bool false,d0)])=d at h
 cases h with
 | opq q=>cases e0;exact .inl ⟨_,rfl,rfl,q⟩
 | pd q t=>injection e0 with e0;injection e0 with e0 _;injection e0 with _ e0;exact .inr (.inl ⟨_,_,_,_,_,rfl,q,t,e0⟩)
 | bd q t=>injection e0 with e0;injection e0 with e0 _;injection e0 with _ e0;exact .inr (.inr ⟨_,_,_,_,_,rfl,q,t,e0⟩)
 | dk q t =>
  injection e0 with e0
  subst e0
  generalize e9:([(PyData.bool false,d0)]:List (D×D))=es at t
  cases t with
  | nil=>cases e9
  | @cons k _ _ _ _ _ _=>cases k<;>cases e9
 | dt q t =>
  injection e0 with e0
  subst e0
  generalize e9:([(PyData.bool false,d0)]:List (D×D))=es at t
  cases t with
  | nil=>cases e9
  | cons _ _=>cases e9
 | _=>cases e0
theorem DaPd.get:∀{xs:List (List Int×Addr×V)}{ps:List (List Int×D)},DaPd K F xs ps->∀{i:Nat}{x:List Int×Addr×V},xs[i]?=some x->∃d,ps[i]?=some (x.1,d)/\F x.2.1=some (.tup (x.1.map V.int))/\Da K F x.2.2 d
 | _,_,.nil,i,x,h=>by simp at h
 | _,_,.cons e h t,0,x,z=>by
  simp only[List.getElem?_cons_zero,Option.some.injEq]at z
  subst z
  exact ⟨_,rfl,e,h⟩
 | _,_,.cons e h t,i+1,x,z=>by
  simp only[List.getElem?_cons_succ]at z
  exact DaPd.get t z
theorem DaPd.length:∀{xs:List (List Int×Addr×V)}{ps:List (List Int×D)},DaPd K F xs ps->xs.length=ps.length
 | _,_,.nil=>rfl
 | _,_,.cons _ _ t=>by simp[DaPd.length t]
theorem Rel.newE{G:Gh}{σ:L2.St}{ρ:Ev}{a:Addr}{o:HO}(R:Rel K G F σ H ρ)(h:H a=none)(hk:stk o=false:=by rfl):Sub F (upd F a o)/\Rel K G (upd F a o) σ (upd H a o) ρ:=by
 have R1:Rel K G F σ (upd H a o) ρ:=R.laid h
 refine R1.grow (a:=a) (o:=o) (R.h0 h) upd_same (fun i s e w z=>?_) hk
 obtain⟨a',o',h1,h2,h3,h4⟩:=R.ow i s e w
 rw[z]at h1
 cases h1
 rw[h]at h3
 cases h3
end
noncomputable def fDP:D->D->(Sl->Prop)->Prop:=fun d e Q=>∃ps:List (List Int×D),sqD d=some (ps.map fun p=>tI p.1)/\sqD e=some (ps.map (·.2))/\(ps.map (·.1)).Nodup/\Q (.fz (pdD ps))
theorem zip_xs{K:Fg}{F:Hp}:∀{ps:List (List Int×D)}{ys1 ys2:List V},DaAll K F ys1 (ps.map fun p=>tI p.1)->DaAll K F ys2 (ps.map (·.2)) ->
  ∃xs:List (List Int×Addr×V),xs.map (·.1)=ps.map (·.1)/\ys1=xs.map (fun x=>V.ref x.2.1)/\ys2=xs.map (fun x=>x.2.2)/\(∀x∈xs,F x.2.1=some (.tup (x.1.map V.int)))/\DaPd K F xs ps
 | [],_,_,h1,h2=>by
  cases h1;cases h2
  exact ⟨[],rfl,rfl,rfl,fun x hx=>(by cases hx),.nil⟩
 | p :: ps,_,_,h1,h2=>by
  cases h1 with
  | @cons v _ _ _ h1 t1 =>
   cases h2 with
   | @cons u _ _ _ h2 t2 =>
    obtain⟨xs,e1,e2,e3,e4,e5⟩:=zip_xs t1 t2
    obtain⟨b,rfl,eb⟩:=da_tI h1
    refine ⟨(p.1,b,u) :: xs,by simp[e1],by simp[e2],by simp[e3],fun x hx=>?_,.cons eb h2 e5⟩
    rcases List.mem_cons.mp hx with z|z
    ·subst z;exact eb
    ·exact e4 x z
theorem ok_DP{K:Fg}:OpOk K (rDP K) (o2 fDP):=by
 intro G F σ H ρ vs ds Q Qd R ha w k
 rcases ds with _|⟨d,_|⟨e,_|⟨e3,ds⟩⟩⟩<;>first|exact w.elim|skip
 ·obtain⟨v1,v2,rfl,h1,h2⟩:=ha.two
  obtain⟨ps,e1,e2,nd,w⟩:=w
  obtain⟨k1,l1,ys1,rfl,q1,d1⟩:=h1.seq R.sub e1
  obtain⟨k2,l2,ys2,rfl,q2,d2⟩:=h2.seq R.sub e2
  obtain⟨xs,g1,g2,g3,g4,g5⟩:=zip_xs d1 d2
  rw[g2]at q1
  rw[g3]at q2
  refine ⟨k1,l1,k2,l2,xs,rfl,q1,q2,fun x hx=>R.sub _ _ (g4 x hx),by rw[g1];exact nd,fun l ep hl=>?_⟩
  obtain⟨sb,R'⟩:=R.newE (o:=extD hL l ep xs) hl
  exact k _ _ _ (.fz (pdD ps)) sb R' (Da.pd upd_same (g5.mono sb)) w
section
variable {X:Cx}{K:Fg}{e e1 e2:Expr}{a b:AD}{p pos pos' p2 tpos apos cpos:Pos}
theorem w_DP(hK:X.K=K)(hc:X.calm=true)(hu:X.A.units+2 < cLine)(hm:X.mg "dict"=none)(hv:bootBuiltins "dict"=some (.type "dict"))(hm2:X.mg "zip"=none)(ha:WA X [e1,e2] (tArgs ([a,b].map (argT K))))(hg:Gl X "dict":=by rfl)(hg2:Gl X "zip":=by rfl)(he:notStar e1=true:=by rfl)(he2:notStar e2=true:=by rfl) :
  WE X (.Call (.Name "dict" p) [.Call (.Name "zip" p2) [e1,e2] [] pos'] [] pos) (lift K (dOp [a,b] (o2 fDP))):=by
 subst hK
 exact ⟨peM (pe_DP hc hu hg hm hv hg2 hm2 ha.h (starEach_of he) (plain_of (by simp[he2])) (starEach_of rfl) (plain_of rfl)) fun q=>l_op ok_DP q⟩
end
end L3
namespace L2
open PySem PySem.Spec PyProof.Rows
section
variable {prog:Program}{w:World}{A:Around}{E:Value->Shared->Prop}{s:Shared}
theorem own_keys:Builtin.Dict_items.ownsTuple "dict_keyiterator"=false:=by decide
theorem ky_next{it d:Addr}{i ep:Nat}{es:Array DictEntry}{od:Obj}{Q:Option Value->Shared->Prop}(x:s.heap.IsKeyIter it d i es.size ep)(y:s.heap.get? d=some od)(yd:od.data=.dict es ep)(hi:i < es.size)
  (q:∀h',h'.IsKeyIter it d (i+1) es.size ep->Heap.SameBut it s.heap h'->Q (some es[i].key) { s with heap:=h' }):wpAny (model prog w) A (pyNext (.ref it)) Q E s:=by
 obtain⟨o,e1,e2,e3⟩:=id x
 have ty:=x.typeIs
 unfold pyNext
 refine wpAny_bind (wpAny_attempt (wpAny_callSpecial?_slot (name:=Str.ofString "__next__") ty F.slot_dict_keyiterator_next (wpAny_call_entry F.slot_dict_keyiterator_next ty F.entry_dict_keyiterator_next ?_ (F.args_dict_keyiterator_next_1 _))))
 refine wpAny_bind (wpAny_pure (wpAny_bind (wpAny_bind ?_)))
 first|refine wpAny_bind (wpAny_typeNameOfWhole_keyiter ty (wpAny_pure ?_))|refine wpAny_bind (wpAny_typeNameOf_keyiter ty (wpAny_pure ?_))
 refine wpAny_bind (wpAny_fieldsOf e1 e3 ?_)
 simp only[own_keys,Bool.false_eq_true,if_false]
 show wpAny _ _ (if (Value.ref d==Value.none)=true then _ else _) _ _ _
 rw[if_neg (no_none d)]
 refine wpAny_bind (wpAny_pure (wpAny_bind (wpAny_dictEntries y yd ?_)))
 rw[if_neg (by simp)]
 refine wpAny_bind (wpAny_pure (wpAny_bind (wpAny_dictEpoch y yd ?_)))
 rw[if_neg (by simp)]
 refine wpAny_pure ?_
 simp only[show ¬((i:Int) < 0) from by omega,if_false,Int.toNat_natCast,Array.getElem?_eq_getElem hi]
 refine wpAny_bind ?_
 first|refine wpAny_bind (wpAny_typeNameOfWhole_keyiter ty (wpAny_pure ?_))|refine wpAny_bind (wpAny_typeNameOf_keyiter ty (wpAny_pure ?_))
 refine wpAny_bind (wpAny_isOneOf_keyiter ty ?_)
 show wpAny _ _ (setField (.ref it) 1 (rawInt ((i:Int)+1)) >>= _) _ _ s
 refine wpAny_bind (wpAny_setField e1 e3 (by simp) ?_)
 obtain⟨h1,z1⟩:∃h1,h1=s.heap.update it (Obj.mapFields (·.setIfInBounds 1 (rawInt ((i:Int)+1)))):=⟨_,rfl⟩
 have x1:h1.IsKeyIter it d (i+1) es.size ep:=by
  rw[z1]
  exact ⟨_,Heap.get?_update_self _ e1 (Obj.isFreed_of_fields (Obj.data_mapFields e3 _)),(Obj.cls_mapFields ..).trans e2,by rw[Obj.data_mapFields e3];simp[rawInt]⟩
 have b1:Heap.SameBut it s.heap h1:=by rw[z1];exact Heap.SameBut.update ..
 rw[<- z1]
 refine wpAny_bind (wpAny_holding (wpAny_bind (wpAny_isOneOf_keyiter (s:={ s with heap:=h1 }) x1.typeIs ?_)))
 show wpAny _ _ (pure es[i].key) _ _ _
 exact wpAny_pure (wpAny_pure ⟨_,rfl,wpAny_pure (q h1 x1 b1)⟩)
theorem ky_end{it d:Addr}{i ep:Nat}{es:Array DictEntry}{od:Obj}{Q:Option Value->Shared->Prop}(hh:A.handled=none)(x:s.heap.IsKeyIter it d i es.size ep)(y:s.heap.get? d=some od)(yd:od.data=.dict es ep)(hi:es.size<=i)
  (q:∀h',Heap.ExtBut it s.heap h'->Q none { s with heap:=h' }):wpAny (model prog w) A (pyNext (.ref it)) Q E s:=by
 obtain⟨o,e1,e2,e3⟩:=id x
 have ty:=x.typeIs
 unfold pyNext
 refine wpAny_bind (wpAny_attempt (wpAny_callSpecial?_slot (name:=Str.ofString "__next__") ty F.slot_dict_keyiterator_next (wpAny_call_entry F.slot_dict_keyiterator_next ty F.entry_dict_keyiterator_next ?_ (F.args_dict_keyiterator_next_1 _))))
 refine wpAny_bind (wpAny_pure (wpAny_bind (wpAny_bind ?_)))
 first|refine wpAny_bind (wpAny_typeNameOfWhole_keyiter ty (wpAny_pure ?_))|refine wpAny_bind (wpAny_typeNameOf_keyiter ty (wpAny_pure ?_))
 refine wpAny_bind (wpAny_fieldsOf e1 e3 ?_)
 simp only[own_keys,Bool.false_eq_true,if_false]
 show wpAny _ _ (if (Value.ref d==Value.none)=true then _ else _) _ _ s
 rw[if_neg (no_none d)]
 refine wpAny_bind (wpAny_pure (wpAny_bind (wpAny_dictEntries y yd ?_)))
 rw[if_neg (by simp)]
 refine wpAny_bind (wpAny_pure (wpAny_bind (wpAny_dictEpoch y yd ?_)))
 rw[if_neg (by simp)]
 refine wpAny_pure ?_
 simp only[show ¬((i:Int) < 0) from by omega,if_false,Int.toNat_natCast,Array.getElem?_eq_none hi]
 refine wpAny_bind ?_
 first|refine wpAny_bind (wpAny_typeNameOfWhole_keyiter ty (wpAny_pure ?_))|refine wpAny_bind (wpAny_typeNameOf_keyiter ty (wpAny_pure ?_))
 show wpAny _ _ (setField (.ref it) 0 .none >>= _) _ _ s
 refine wpAny_bind (wpAny_setField e1 e3 (by simp) ?_)
 show wpAny _ _ (newExc (.type "StopIteration") [] >>= _) _ _ _
 refine wpAny_bind ?_
 simp only[newExc,newTuple]
 refine wpAny_bind (wpAny_newObj_type ?_ (by size_fits))
 refine wpAny_bind (m:=firstArgMember _ _) (wpAny_of_eq (a:=Value.none) (by first|rfl|(simp only[firstArgMember];rfl)) ?_)
 refine wpAny_newObj_type ?_ (by size_fits)
 simp only[raiseNew]
 refine wpAny_bind (wpAny_handled ?_)
 rw[show A.in1.handled=none from hh]
 refine wpAny_bind (wpAny_pure (wpAny_throw ?_))
 refine wpAny_bind (wpAny_isInstance (b:=true) (T:="StopIteration") ⟨_,Heap.get?_push_size _ rfl,rfl⟩ isSubtype_stop ?_)
 exact wpAny_pure (q _ (((Heap.SameBut.update ..).extBut.push _).push _))
theorem ky_iter{d:Addr}{es:Array DictEntry}{ep:Nat}{od:Obj}{Q:Value->Shared->Prop}(hm:(d==sysModules)=false)(y:s.heap.get? d=some od)(hx:od.ExactDict)(yd:od.data=.dict es ep)
  (q:Q (.ref s.heap.objs.size) { s with heap:=s.heap.push { cls:=.type "dict_keyiterator",data:=.fields #[.ref d,.int 0 0,.int es.size 0,.int ep 0] } }):wpAny (model prog w) A (pyIter (.ref d)) Q E s:=by
 have ty:s.TypeIs (.ref d) "dict":=⟨od,y,hx.1⟩
 refine wpAny_pyIter_slot ty F.slot_dict_iter (wpAny_call_entry F.slot_dict_iter ty F.entry_dict_iter ?_ (F.args_dict_iter_1 _))
 unfold Builtin.«dict.__iter__»
 refine wpAny_bind ?_
 unfold Builtin.Dict.dictSlotNone
 refine wpAny_bind (wpAny_notOrdered_dict ty ?_)
 show wpAny _ _ (pure (Value.ref d)) _ _ s
 refine wpAny_pure ?_
 show wpAny _ _ (Builtin.Dict.showsAll d >>= _) _ _ s
 unfold Builtin.Dict.showsAll
 rw[if_neg (by rw[hm];decide)]
 refine wpAny_bind (wpAny_pure (wpAny_bind (wpAny_dictEntries y yd (wpAny_bind (wpAny_dictEpoch y yd ?_)))))
 refine wpAny_bind (wpAny_newObj_type (wpAny_pure ⟨_,rfl,"dict_keyiterator",_,⟨_,Heap.get?_push_size _ rfl,rfl⟩,F.slot_dict_keyiterator_next.lookup,?_⟩))
 simpa [rawInt]using q
end
noncomputable def Itk{κ:Type}(hs:κ->Int)(d d':Addr)(ep:Nat)(xs:List (κ×Addr×V)):It :=
 ⟨fun i H=>H d=some (extD hs d' ep xs)/\i < xs.length,
  fun i H x H'=>∃k b v,x=.ref b/\H'=H/\xs[i]?=some (k,b,v),
  fun i H=>H d=some (extD hs d' ep xs)/\xs.length<=i⟩
section
variable {κ:Type}{hs:κ->Int}
theorem turn_keys{P:Program}{w:World}{K:PySem.W.Frag}{tg:Expr}(it d d':Addr)(ep:Nat)(xs:List (κ×Addr×V)):Turn P w K tg (Itk hs d d' ep xs) [it] it (fun i h=>h.IsKeyIter it d i xs.length ep) where
 mem:=by simp
 obj:=fun i h st b hb=>by
  have e:b=it:=by simpa using hb
  subst e
  obtain⟨o,e,c,d⟩:=st
  exact ⟨o,e,fun v z=>by rw[d]at z;cases z⟩
 keep:=fun i h h' st k=>st.at fun o e=>k it (by simp) o e
 item:=by
  intro X hP hw hK hc i pins s σ H E I hf st hg
  subst hP hw hK
  obtain⟨hd,hi⟩:=hg
  obtain⟨vs,o,es,pr,e1,e2,e3,e4,hz,_⟩:=ext_at I hd
  obtain⟨⟨k,b,v⟩,hx⟩:∃x,xs[i]?=some x:=⟨_,List.getElem?_eq_getElem hi⟩
  obtain⟨⟨k',b',u⟩,hv,r1,r2,r3⟩:=prd_get pr hx
  have r2:b=b':=r2
  subst r2
  have hi':i < es.size:=by rw[hz];exact hi
  have hent:es[i].key=.ref b:=by
   have q:es.toList[i]?=some (⟨hs k',.ref b,u⟩:DictEntry):=by rw[e4,List.getElem?_map,hv];rfl
   have q2:es.toList[i]?=some es[i]:=by simp[hi']
   rw[q2]at q
   rw[Option.some.inj q]
  obtain⟨f0,f1,f2,f3,f4,f5⟩:=hf it (by simp)
  rw[<- hz]at st
  refine ky_next st e1 e3 hi' fun h' st' sb=>?_
  have I1:Inv X pins σ H { s with heap:=h' }:=I.turned (t':=s.toks) (fun b o hb e=>(sb.2 b hb).trans e) f0 f1 f3 f4 f5
  obtain⟨o',g1,g2,g3⟩:=id st'
  rw[hent]
  rw[hz]at st'
  exact ⟨.ref b,rfl,go_of (s:={ s with heap:=h' }) g1 g2 g3 (by decide) ⟨.ref b,H,I1,rfl,⟨k,b,v,rfl,rfl,hx⟩,st',fun c hb=>(hf c hb).1⟩⟩
 done:=by
  intro X hP hw hK hc i pins s σ H E I hf st hg
  subst hP hw hK
  obtain⟨hd,hi⟩:=hg
  obtain⟨vs,o,es,pr,e1,e2,e3,e4,hz,_⟩:=ext_at I hd
  obtain⟨f0,f1,f2,f3,f4,f5⟩:=hf it (by simp)
  rw[<- hz]at st
  exact ky_end (I.ok.hd hc) st e1 e3 (by omega) fun h' eb=>⟨rfl,I.turned (t':=s.toks) (fun b o hb e=>eb b o hb e) f0 f1 f3 f4 f5⟩
 self:=fun _ _ _ _ _ st h=>wpAny_pyIter_keyiter st h
noncomputable def iKeys(hs:κ->Int)(to:TE):TI:=fun σ H R=>to σ H fun x H1=>∃(d d':Addr) (ep:Nat) (xs:List (κ×Addr×V)),x=.ref d/\H1 d=some (extD hs d' ep xs)/\R (Itk hs d d' ep xs) H1
theorem pi_keys{X:Cx}{tg o:Expr}{to:TE}(ho:PE X o to):PI X tg o (iKeys hs to):=by
 intro pins s σ H R I h
 refine thn (ho pins s σ H _ I h) fun v s1 ⟨x,H1,I1,r1,d,d',ep,xs,ex,hd,q1⟩=>?_
 subst ex
 cases r1
 obtain⟨vs,ob,es,pr,e1,e2,e3,e4,hz,_,_,hm⟩:=ext_at I1 hd
 refine ky_iter hm e1 e2 e3 ?_
 rw[hz]
 refine ⟨_,[s1.heap.objs.size],_,_,H1,rfl,I1.kept (t':=s1.toks) (fun b oc e=>Heap.get?_push_of_some _ e),turn_keys (hs:=hs) s1.heap.objs.size d d' ep xs,⟨_,Heap.get?_push_size _ rfl,rfl,rfl⟩,fun b hb=>?_,q1⟩
 have hb:b=s1.heap.objs.size:=by simpa using hb
 subst hb
 exact I1.fpOk (Nat.le_refl _) (I1.hok.fresh (Nat.le_refl _))
end
end L2
namespace L3
open PySem PySem.Spec PyProof.Rows L2
noncomputable def firsts(L:List D):List D:=L.map fun d=>match d with
 | .tuple (x :: _)=>x
 | _=>.none
noncomputable def dIKeys(a:AD):TDI:=fun ρ Q=>dArgs [a] ρ fun xs ρ1=>match lentAny ρ1 xs with
 | true=>False
 | false=>looksQ ρ1 xs fun ds=>match ds with
  | [.dict [(.bool false,.list L)]]=>Q (firsts L) ρ1
  | _=>False
theorem firsts_pd(ps:List (List Int×D)):firsts (ps.map fun p=>.tuple [tI p.1,p.2])=ps.map fun p=>tI p.1:=by
 unfold firsts
 rw[List.map_map]
 rfl
theorem walks_keys{K:Fg}{F:Hp}{a a':Addr}{ep:Nat}{xs:List (List Int×Addr×V)}{ps:List (List Int×D)}(e1:F a=some (extD hL a' ep xs))(h1:DaPd K F xs ps):Walks K (Itk hL a a' ep xs) F (ps.map fun p=>tI p.1):=fun i H F1 s1 s2=>by
 have hl:=h1.length
 refine ⟨fun d ed=>?_,fun hz=>⟨s2 _ _ (s1 _ _ e1),by rw[List.length_map]at hz;omega⟩⟩
 have hi:i < xs.length:=by
  have:=(List.getElem?_eq_some_iff.mp ed).1
  rw[List.length_map]at this
  omega
 refine ⟨⟨s2 _ _ (s1 _ _ e1),hi⟩,fun z H' ⟨k,b,v,ex,eH,hx⟩=>?_⟩
 subst ex eH
 obtain⟨d',g1,g2,g3⟩:=h1.get hx
 rw[List.getElem?_map,g1]at ed
 cases ed
 exact ⟨F1,Sub.refl _,fun c o ec=>.inl ec,fun c o ec=>s2 _ _ ec,Sub.refl _,.tup (s1 _ _ g2) (DaAll.ints _)⟩
theorem l_keys{K:Fg}{a:AD}{σ:L2.St}{H:Hp}{R:It->Hp->Prop}(h:liftI K (dIKeys a) σ H R):iKeys hL (argT K a) σ H R:=by
 obtain⟨G,F,ρ,Qd,Rl,w,k⟩:=h
 refine arg1 (P:=fun x H1=>∃(d d':Addr) (ep:Nat) (xs:List (List Int×Addr×V)),x=.ref d/\H1 d=some (extD hL d' ep xs)/\R (Itk hL d d' ep xs) H1) (args_ok Rl w fun vs H' F' xs ρ' sb R' o w1=>?_)
 split at w1
 ·exact w1.elim
 rename_i m
 obtain⟨ds,da,w1⟩:=noLent_looks R' m o w1
 split at w1
 ·rename_i L
  cases da with
  | cons d1 t =>
   cases t
   rcases da_mark d1 with⟨a,_,z,_⟩|⟨a,a',ep,ys,qs,rfl,e1,g1,z⟩|⟨a,_,ep,ys,qs,_,_,_,z⟩
   ·cases z
   ·injection z with z
    subst z
    rw[firsts_pd]at w1
    exact ⟨_,rfl,a,a',ep,ys,rfl,R'.sub _ _ e1,k _ H' F' _ ρ' sb R' (walks_keys e1 g1) w1⟩
   ·cases z
 ·exact w1.elim
section
variable {X:Cx}{K:Fg}{e1 tg:Expr}{a:AD}
theorem i_keys(ha:WE X e1 (argT K a)):WI X tg e1 (liftI K (dIKeys a)):=⟨piM (pi_keys ha.h) l_keys⟩
end
end L3
namespace L2
open PySem PySem.Spec PyProof.Rows
noncomputable def putP{α:Type}(xs:List (List Int×Addr×α))(k:List Int)(b:Addr)(v:α):List (List Int×Addr×α) :=
 if k∈xs.map (·.1) then xs.map (fun x=>if x.1=k then (x.1,x.2.1,v) else x) else xs++[(k,b,v)]
theorem putP_stored{vs:List (List Int×Addr×Value)}{k:List Int}{b:Addr}{u:Value}:storedH vs k b u=putP vs k b u:=by
 unfold storedH putP
 have e:(atKey vs k).isSome=true ↔ k∈vs.map (·.1):=by
  unfold atKey
  rw[Option.isSome_map,List.find?_isSome]
  constructor
  ·rintro⟨x,hx,e⟩
   exact List.mem_map.mpr ⟨x,hx,of_decide_eq_true e⟩
  ·intro h
   obtain⟨x,hx,e⟩:=List.mem_map.mp h
   exact ⟨x,hx,decide_eq_true e⟩
 by_cases z:k∈vs.map (·.1)
 ·rw[if_pos (e.mpr z),if_pos z];rfl
 ·rw[if_neg (fun y=>z (e.mp y)),if_neg z]
theorem putP_len{α:Type}(xs:List (List Int×Addr×α))(k:List Int)(b:Addr)(v:α):(putP xs k b v).length<=xs.length+1:=by
 unfold putP
 split
 ·rw[List.length_map];omega
 ·rw[List.length_append];simp
theorem putP_nodup{α:Type}{xs:List (List Int×Addr×α)}{k:List Int}{b:Addr}{v:α}(h:(xs.map (·.1)).Nodup):((putP xs k b v).map (·.1)).Nodup:=by
 unfold putP
 split
 ·rw[List.map_map]
  have e:((fun x:List Int×Addr×α=>x.1) ∘ fun x=>if x.1=k then (x.1,x.2.1,v) else x)=fun x=>x.1:=by
   funext x
   show (if x.1=k then (x.1,x.2.1,v) else x).1=x.1
   split<;>rfl
  rw[e]
  exact h
 ·rename_i z
  rw[List.map_append,List.nodup_append]
  refine ⟨h,by simp,fun a ha b hb e=>?_⟩
  have hb:b=k:=by simpa using hb
  rw[e,hb]at ha
  exact z ha
theorem putP_prd{xs:List (List Int×Addr×V)}{vs:List (List Int×Addr×Value)}{k:List Int}{b:Addr}{v:V}{u:Value}(h:Paired (fun x v=>x.1=v.1/\x.2.1=v.2.1/\RelV x.2.2 v.2.2) xs vs)(r:RelV v u) :
  Paired (fun x v=>x.1=v.1/\x.2.1=v.2.1/\RelV x.2.2 v.2.2) (putP xs k b v) (putP vs k b u):=by
 unfold putP
 rw[prd_keys h]
 split
 ·rename_i z
  clear z
  induction h with
  | nil=>exact .nil
  | @cons x y l m r1 t ih =>
   refine .cons ?_ ih
   obtain⟨a1,a2,a3⟩:=r1
   by_cases z:x.1=k
   ·have z2:y.1=k:=a1.symm.trans z
    dsimp only
    rw[if_pos z,if_pos z2]
    exact ⟨a1,a2,r⟩
   ·have z2:¬y.1=k:=fun q=>z (a1.trans q)
    dsimp only
    rw[if_neg z,if_neg z2]
    exact ⟨a1,a2,a3⟩
 ·exact prd_snoc h ⟨rfl,rfl,r⟩
theorem d_setItemP{X:Cx}{pins:List (Addr×Obj)}{σ:St}{H:Hp}{s:Shared}{A:Around}{E:Value->Shared->Prop}{d d' b:Addr}{ep:Nat}{xs:List (List Int×Addr×V)}{k:List Int}{v:V}{u:Value}{Q:Unit->Shared->Prop}(hu:A.units+1 < cLine)(I:Inv X pins σ H s)
  (e:H d=some (extD hL d' ep xs)) (hky:∀x∈xs,H x.2.1=some (.tup (x.1.map V.int))) (hk:H b=some (.tup (k.map V.int))) (rv:RelV v u) (hl:xs.length < sizeLine)
  (q:∀ep' s',Inv X pins σ (upd H d (extD hL d ep' (putP xs k b v))) s'->Q () s'):wpAny (model X.prog X.w) A (setItem (.ref d) (.ref b) u) Q E s:=by
 obtain⟨vs,o,es,pr,e1,e2,e3,e4,hz,nd,_,hm⟩:=ext_at I e
 have key:∀{k:List Int}{b:Addr},H b=some (.tup (k.map V.int))->(tupleKind (intKind X.prog X.w)).is s.heap k b:=fun {k b} hb=>by
  obtain⟨_,its,r,o,h1,h2,n,h3,_⟩:=(show ObjOk X.prog X.w H s.heap b (.tup (k.map V.int)) from I.hok _ _ hb)
  exact ⟨o,its.toArray,n,h1,h2,h3,by simpa using ints_are r⟩
 have hvl:=prd_len pr
 refine wpAny_setItem_heap (hsz:=by omega) (knd:=tupleKind (intKind X.prog X.w)) (tupleKind_room_in1 hu) (key hk) ⟨o,es,ep,e1,e2,e3,e4,fun x hx=>?_,by rw[prd_keys pr];exact nd⟩ fun h' dd' sb=>?_
 ·obtain⟨y,hy,r1,r2,_⟩:=prd_mem pr x hx
  have:=key (hky y hy)
  rw[r1,r2]at this
  exact this
 ·obtain⟨o2,es2,ep2,g1,g2,g3,g4,_,g5⟩:=dd'
  rw[putP_stored]at g4
  have hlen:=putP_len xs k b v
  refine q ep2 _ (d_write I (by rw[e];exact True.intro) sb ⟨o2,g1⟩ ⟨⟨⟨putP vs k b u,putP_prd pr rv,o2,es2,g1,g2,g3,g4⟩,putP_nodup nd,by omega,hm⟩,⟨o2,g1⟩,fun h1 h2 z k'=>?_⟩)
  obtain⟨⟨vs',r',o',es',f1,f2⟩,f3⟩:=z
  exact ⟨⟨vs',r',o',es',k' _ f1,f2⟩,f3⟩
noncomputable def sPPut(td ty tv:TE):TS:=fun E σ H=>tv σ H fun v H1=>td σ H1 fun x H2=>ty σ H2 fun y H3=>∃(d d' b:Addr) (ep:Nat) (xs:List (List Int×Addr×V)) (k:List Int),x=.ref d/\y=.ref b/\H3 d=some (extD hL d' ep xs)/\(∀z∈xs,H3 z.2.1=some (.tup (z.1.map V.int))) /\
 H3 b=some (.tup (k.map V.int))/\xs.length < sizeLine/\∀ep',E.nx σ (upd H3 d (extD hL d ep' (putP xs k b v)))
theorem ps_pput{X:Cx}{o i value:Expr}{td ty tv:TE}{pos pos':Pos}(hu:X.A.units+1 < cLine)(ho:PE X o td)(hi:PE X i ty)(hv:PE X value tv)(hs:swapsWith value (some (.Subscript o i pos')) pos.line X.env=pure false) :
  PS X (.Assign [.Subscript o i pos'] value pos) (sPPut td ty tv):=by
 intro pins s σ H D I h
 refine wpAny_Assign_Subscript (thn (hv pins s σ H _ I h) fun r s1 ⟨v,H1,I1,rv,q1⟩=>thn (ho pins s1 σ H1 _ I1 q1) fun u s2 ⟨x,H2,I2,rx,q2⟩=>thn (hi pins s2 σ H2 _ I2 q2) fun iv s3 ⟨y,H3,I3,ry,d,d',b,ep,xs,k,ex,ey,e1,e2,e3,e4,q3⟩=>?_) hs
 subst ex ey
 obtain rfl:u=Value.ref d:=rx
 obtain rfl:iv=Value.ref b:=ry
 exact d_setItemP hu I3 e1 e2 e3 rv e4 fun ep' s4 I4=>⟨σ,_,I4,q3 ep'⟩
noncomputable def tDNewP:TE:=fun _ H Q=>∀p,H p=none->Q (.ref p) (upd H p (extD hL p 0 []))
theorem pe_dnewP{X:Cx}{pos:Pos}:PE X (.Dict [] [] pos) tDNewP:=fun pins s σ H Q I h =>
 wpAny_Dict_empty ⟨.ref s.heap.objs.size,_,I.laid (a:=s.heap.objs.size) (o:=extD hL s.heap.objs.size 0 []) (t':=s.toks) (fun _ _ q=>Heap.get?_push_of_some _ q) (Nat.le_refl _)
   ⟨⟨⟨[],.nil,_,#[],Heap.get?_push_size _ rfl,⟨rfl,rfl,rfl⟩,rfl,rfl⟩,List.nodup_nil,Nat.zero_le _,beq_eq_false_iff_ne.mpr (Ne.symm (Nat.ne_of_lt I.big))⟩,⟨_,Heap.get?_push_size _ rfl⟩,fun h1 h2 z k=>by
     obtain⟨⟨vs,r,o,es,g1,g2⟩,g3⟩:=z
     exact ⟨⟨vs,r,o,es,k _ g1,g2⟩,g3⟩⟩,rfl,h _ (I.hok.fresh (Nat.le_refl _))⟩
end L2
namespace L3
open PySem PySem.Spec PyProof.Rows L2
noncomputable def putPs(ps:List (List Int×D))(k:List Int)(d:D):List (List Int×D) :=
 if k∈ps.map (·.1) then ps.map (fun x=>if x.1=k then (x.1,d) else x) else ps++[(k,d)]
theorem DaPd.keys{K:Fg}{F:Hp}:∀{xs:List (List Int×Addr×V)}{ps:List (List Int×D)},DaPd K F xs ps->xs.map (·.1)=ps.map (·.1)
 | _,_,.nil=>rfl
 | _,_,.cons _ _ t=>by simp only[List.map_cons,DaPd.keys t]
theorem DaPd.at{K:Fg}{F:Hp}:∀{xs:List (List Int×Addr×V)}{ps:List (List Int×D)},DaPd K F xs ps->∀z∈xs,F z.2.1=some (.tup (z.1.map V.int))
 | _,_,.nil,z,h=>by cases h
 | _,_,.cons e _ t,z,h=>by
  rcases List.mem_cons.mp h with q|q
  ·subst q;exact e
  ·exact DaPd.at t z q
theorem DaPd.snoc{K:Fg}{F:Hp}{k:List Int}{b:Addr}{v:V}{d:D}(hb:F b=some (.tup (k.map V.int)))(hv:Da K F v d):∀{xs:List (List Int×Addr×V)}{ps:List (List Int×D)},DaPd K F xs ps->DaPd K F (xs++[(k,b,v)]) (ps++[(k,d)])
 | _,_,.nil=>.cons hb hv .nil
 | _,_,.cons e h t=>.cons e h (DaPd.snoc hb hv t)
theorem DaPd.repl{K:Fg}{F:Hp}{k:List Int}{v:V}{d:D}(hv:Da K F v d):∀{xs:List (List Int×Addr×V)}{ps:List (List Int×D)},DaPd K F xs ps->DaPd K F (xs.map fun x=>if x.1=k then (x.1,x.2.1,v) else x) (ps.map fun x=>if x.1=k then (x.1,d) else x)
 | _,_,.nil=>.nil
 | _,_,@DaPd.cons _ _ k' b' v' d' xs ps e h t=>by
  have ih:=DaPd.repl (k:=k) hv t
  rw[List.map_cons,List.map_cons]
  by_cases z:k'=k
  ·dsimp only
   rw[if_pos z,if_pos z]
   exact .cons e hv ih
  ·dsimp only
   rw[if_neg z,if_neg z]
   exact .cons e h ih
theorem DaPd.put{K:Fg}{F:Hp}{k:List Int}{b:Addr}{v:V}{d:D}{xs:List (List Int×Addr×V)}{ps:List (List Int×D)}(h:DaPd K F xs ps)(hb:F b=some (.tup (k.map V.int)))(hv:Da K F v d):DaPd K F (putP xs k b v) (putPs ps k d):=by
 unfold putP putPs
 rw[h.keys]
 split
 ·exact h.repl hv
 ·exact h.snoc hb hv
noncomputable def dSetP(j:Nat)(ak:AD)(te:TD):TDS:=fun E ρ=>te ρ fun r ρ1=>match ρ1[j]? with
 | some (some _)=>dArgs [ak] ρ1 fun xs ρ2=>match lentAny ρ2 xs with
  | true=>False
  | false=>looksQ ρ2 xs fun ds=>match ρ2[j]? with
   | some (some s)=>∃(k:List Int) (ps:List (List Int×D)),ds=[tI k]/\s.d=pdD ps/\isOw s=true/\ps.length < sizeLine/\E.nx (ρ2.set j (some (s.put (pdD (putPs ps k r.d)))))
   | _=>False
 | _=>False
theorem l_setP{K:Fg}{j:Nat}{ak:AD}{te:TD}{σ:L2.St}{H:Hp}{E:Ends}(h:liftS K (dSetP j ak te) E σ H):sPPut (tVar j) (argT K ak) (lift K te) E σ H:=by
 obtain⟨G,F,ρ,D,R,w,n,r,b,c⟩:=h
 refine ⟨G,F,ρ,_,R,w,fun v H1 F1 x ρ1 s1 R1 r1 w1=>?_⟩
 obtain⟨F2,s2,R2,d2⟩:=r1.frz R1
 split at w1
 ·rename_i s0 e0
  obtain⟨u,eu⟩:=R2.bound e0
  refine ⟨u,eu,arg1 (P:=fun y H3=>∃(d d' b:Addr) (ep:Nat) (xs:List (List Int×Addr×V)) (k:List Int),u=.ref d/\y=.ref b/\H3 d=some (extD hL d' ep xs)/\(∀z∈xs,H3 z.2.1=some (.tup (z.1.map V.int))) /\
    H3 b=some (.tup (k.map V.int))/\xs.length < sizeLine/\∀ep',E.nx σ (upd H3 d (extD hL d ep' (putP xs k b v)))) (args_ok R2 w1 fun vs H3 F3 xs ρ3 s3 R3 o3 w3=>?_)⟩
  split at w3
  ·exact w3.elim
  rename_i m
  obtain⟨ds,ha,w3⟩:=noLent_looks R3 m o3 w3
  split at w3
  ·rename_i s e
   obtain⟨k,ps,rfl,p1,p2,p3,w3⟩:=w3
   cases ha with
   | cons hk ht =>
    cases ht
    obtain⟨kb,rfl,hb⟩:=da_tup hk
    obtain⟨a,o,g1,g2,g3,g4⟩:=R3.ow j s e p2
    rw[eu]at g1;cases g1
    rw[p1]at g4
    cases o with
    | ext φ =>
     rcases g4.ext with⟨a',ep,ys,qs,z,z2,t⟩|⟨_,_,_,_,_,z2,_⟩
     case inr=>injection z2 with z2;injection z2 with z2 _;injection z2 with _ z2;cases z2
     have t:DaPd K F3 ys ps:=by
      have e2:ps.map (fun p=>PyData.tuple [PyData.tuple (p.1.map PyData.int),p.2])=qs.map (fun p=>PyData.tuple [PyData.tuple (p.1.map PyData.int),p.2]):=by
       injection z2 with z2;injection z2 with z2 _;injection z2 with _ z2;injection z2
      have e3:ps=qs:=(List.map_inj_right (fun x y q=>by
        injection q with q
        injection q with q1 q2
        injection q2 with q2 _
        injection q1 with q1
        exact Prod.ext ((List.map_inj_right (fun x y z=>by injection z)).mp q1) q2)).mp e2
      rw[e3];exact t
     rw[z]at g3
     refine ⟨_,rfl,a,a',kb,ep,ys,k,rfl,rfl,g3,fun q hq=>R3.sub _ _ (t.at q hq),R3.sub _ _ hb,by have:=congrArg List.length t.keys;rw[List.length_map,List.length_map]at this;omega,fun ep'=>?_⟩
     have R4:=R3.change (o':=extD hL a ep' (putP ys k kb v)) (d':=pdD (putPs ps k x.d)) e p2 eu (Own1.pd (t.put hb (d2.mono s3)))
     exact n σ _ F3 _ (s1.trans (s2.trans s3)) R4 w3
    | dK kvs =>
     exfalso
     have h:DaKV K F3 kvs [(PyData.bool false,PyData.list (ps.map fun p=>PyData.tuple [PyData.tuple (p.1.map PyData.int),p.2]))]:=g4
     generalize e9:[(PyData.bool false,PyData.list (ps.map fun p=>PyData.tuple [PyData.tuple (p.1.map PyData.int),p.2]))]=es at h
     cases h with
     | nil=>cases e9
     | @cons k _ _ _ _ _ _=>cases k<;>cases e9
    | dT kvs =>
     exfalso
     have h:DaKT K F3 kvs [(PyData.bool false,PyData.list (ps.map fun p=>PyData.tuple [PyData.tuple (p.1.map PyData.int),p.2]))]:=g4
     generalize e9:[(PyData.bool false,PyData.list (ps.map fun p=>PyData.tuple [PyData.tuple (p.1.map PyData.int),p.2]))]=es at h
     cases h with
     | nil=>cases e9
     | cons _ _=>cases e9
    | _=>exact g4.elim
  ·exact w3.elim
 ·exact w1.elim
noncomputable def dNewP:TD:=fun ρ Q=>Q (.ow (pdD [])) ρ
theorem l_newP{K:Fg}{σ:L2.St}{H:Hp}{Q:VK}(h:lift K dNewP σ H Q):tDNewP σ H Q:=by
 obtain⟨G,F,ρ,Qd,R,w,k⟩:=h
 intro p hp
 obtain⟨R',r'⟩:=R.newOw (o:=extD hL p 0 []) (d:=pdD []) hp (Own1.pd .nil)
 exact k _ _ F _ ρ (Sub.refl _) R' r' w
section
variable {X:Cx}{K:Fg}{e e1 e2:Expr}{a:AD}{td:TD}{pos pos':Pos}
theorem s_keyP{j:Nat}(hu:X.A.units+1 < cLine)(ho:WE X e1 (argT K (.inl j)))(hi:WE X e2 (argT K a))(hv:WE X e (lift K td))(hs:notComp e=true:=by rfl):WS X (.Assign [.Subscript e1 e2 pos'] e pos) (liftS K (dSetP j a td)):=⟨psM (ps_pput hu ho.h hi.h hv.h (swaps_of hs)) l_setP⟩
theorem w_dnewP:WE X (.Dict [] [] pos) (lift K dNewP):=⟨peM pe_dnewP l_newP⟩
end
end L3
namespace L2
open PySem PySem.Spec PyProof.Rows
end L2
namespace L3
open PySem PySem.Spec PyProof.Rows L2
theorem pd_at{K:Fg}{F H:Hp}{v:V}{L:List D}(s:Sub F H)(h1:At K F H v (.dict [(.bool false,.list L)])):∃(b b':Addr) (ep:Nat) (ys:List (List Int×Addr×V)) (qs:List (List Int×D)),v=.ref b/\H b=some (extD hL b' ep ys)/\DaPd K F ys qs/\L=qs.map fun p=>.tuple [tI p.1,p.2]:=by
 rcases h1 with h1|⟨b,o,rfl,g1,g2,g3⟩
 ·rcases da_mark h1 with⟨_,_,z,_⟩|⟨c,a',ep,ys,qs,rfl,e1,g1,z⟩|⟨_,_,_,_,_,_,_,_,z⟩
  ·cases z
  ·injection z with z
   exact ⟨c,a',ep,ys,qs,rfl,s _ _ e1,g1,z⟩
  ·cases z
 ·cases o with
  | ext φ =>
   rcases g3.ext with⟨a',ep,ys,qs,z,z2,t⟩|⟨_,_,_,_,_,z2,_⟩
   case inr=>injection z2 with z2;injection z2 with z2 _;injection z2 with _ z2;cases z2
   rw[z]at g2
   refine ⟨b,a',ep,ys,qs,rfl,g2,t,?_⟩
   injection z2 with z2;injection z2 with z2 _;injection z2 with _ z2;injection z2
  | dK kvs =>
   exfalso
   have h:DaKV K F kvs [(PyData.bool false,PyData.list L)]:=g3
   generalize e9:[(PyData.bool false,PyData.list L)]=es at h
   cases h with
   | nil=>cases e9
   | @cons k _ _ _ _ _ _=>cases k<;>cases e9
  | dT kvs =>
   exfalso
   have h:DaKT K F kvs [(PyData.bool false,PyData.list L)]:=g3
   generalize e9:[(PyData.bool false,PyData.list L)]=es at h
   cases h with
   | nil=>cases e9
   | cons _ _=>cases e9
  | _=>exact g3.elim
theorem pd_inj{ps qs:List (List Int×D)}(z2:pdD ps=pdD qs):ps=qs:=by
 have e2:ps.map (fun p=>PyData.tuple [PyData.tuple (p.1.map PyData.int),p.2])=qs.map (fun p=>PyData.tuple [PyData.tuple (p.1.map PyData.int),p.2]):=by
  injection z2 with z2;injection z2 with z2 _;injection z2 with _ z2;injection z2
 exact (List.map_inj_right (fun x y q=>by
   injection q with q
   injection q with q1 q2
   injection q2 with q2 _
   injection q1 with q1
   exact Prod.ext ((List.map_inj_right (fun x y z=>by injection z)).mp q1) q2)).mp e2
section
variable {X:Cx}{K:Fg}{p p1 p2 p3 p4 pos pos':Pos}{f a x y:Str}
end
end L3
namespace L2
open PySem PySem.Spec PyProof.Rows
noncomputable def rPGet:R2:=fun x y H Q=>∃(d d' b:Addr) (ep:Nat) (xs:List (List Int×Addr×V)) (k:List Int) (c:Addr) (v:V),x=.ref d/\y=.ref b/\H d=some (extD hL d' ep xs)/\(∀z∈xs,H z.2.1=some (.tup (z.1.map V.int)))/\H b=some (.tup (k.map V.int))/\(k,c,v)∈xs/\Q v H
theorem pe_pget{X:Cx}{o i:Expr}{td ty:TE}{pos:Pos}(hu:X.A.units+6 < cLine)(ho:PE X o td)(hi:PE X i ty)(hs:NoSl i):PE X (.Subscript o i pos) (tOp rPGet td ty):=by
 intro pins s σ H Q I h
 refine subD_of PySem.F.slot_dict_getitem.lookup hs (thn (ho pins s σ H _ I h) fun u s1 ⟨x,H1,I1,rx,q1⟩=>thn (hi pins s1 σ H1 _ I1 q1) fun iv s2 ⟨y,H2,I2,ry,q2⟩=>?_)
 obtain⟨d,d',b,ep,xs,k,c,v,ex,ey,hd,hk,hb,hm,q⟩:=q2
 subst ex ey
 obtain rfl:u=Value.ref d:=rx
 obtain rfl:iv=Value.ref b:=ry
 obtain⟨vs,ob,es,pr,e1,e2,e3,e4,hz,hnd,_,_⟩:=ext_at I2 hd
 have key:∀{k:List Int}{b:Addr},H2 b=some (.tup (k.map V.int))->(tupleKind (intKind X.prog X.w)).is s2.heap k b:=fun {k b} hb=>by
  obtain⟨_,its,r,o,h1,h2,n,h3,_⟩:=(show ObjOk X.prog X.w H2 s2.heap b (.tup (k.map V.int)) from I2.hok _ _ hb)
  exact ⟨o,its.toArray,n,h1,h2,h3,by simpa using ints_are r⟩
 refine ⟨⟨ob,e1,e2.1⟩,?_⟩
 obtain⟨j,hj⟩:=List.mem_iff_getElem?.mp hm
 obtain⟨⟨k',b',w'⟩,hv,r1,r2,r3⟩:=prd_get pr hj
 have r1:k=k':=r1
 subst r1
 have hvn:(vs.map (·.1)).Nodup:=by rw[prd_keys pr];exact hnd
 have hall:∀x∈vs,(tupleKind (intKind X.prog X.w)).is s2.heap x.1 x.2.1:=fun x hx=>by
  obtain⟨x',hx',r1,r2,_⟩:=prd_mem pr x hx
  have:=key (hk x' hx')
  rw[r1,r2]at this
  exact this
 exact wpAny_getItem_heap (knd:=tupleKind (intKind X.prog X.w)) (tupleKind_room_in1 (show X.A.units+1 < cLine by omega)) (key hb) ⟨ob,es,ep,e1,e2,e3,e4,hall,hvn⟩ (atKey_of_get hvn hv) ⟨v,H2,I2.tok _,r3,q⟩
end L2
namespace L3
open PySem PySem.Spec PyProof.Rows L2
noncomputable def fPGet:D->D->(Sl->Prop)->Prop
 | .dict [(.bool false,.list L)],.tuple ds,Q=>∃(ps:List (List Int×D)) (k:List Int) (d:D),L=ps.map (fun p=>.tuple [tI p.1,p.2])/\ds=k.map PyData.int/\(k,d)∈ps/\Q (.fz d)
 | _,_,_=>False
theorem DaPd.has{K:Fg}{F:Hp}{k:List Int}{d:D}:∀{xs:List (List Int×Addr×V)}{ps:List (List Int×D)},DaPd K F xs ps->(k,d)∈ps->∃b v,(k,b,v)∈xs/\Da K F v d
 | _,_,.nil,h=>by cases h
 | _,_,.cons e h t,z=>by
  rcases List.mem_cons.mp z with q|q
  ·cases q;exact ⟨_,_,List.mem_cons_self,h⟩
  ·obtain⟨b,v,hb,hv⟩:=DaPd.has t q
   exact ⟨b,v,List.mem_cons_of_mem _ hb,hv⟩
theorem ok_pget{K:Fg}:OpOk K (r2L rPGet) (o2 fPGet):=ok2 fun G F σ H ρ x y d e Q Qd R h1 h2 w k=>by
 unfold fPGet at w
 split at w
 rotate_left
 ·exact w.elim
 rename_i L ds w
 obtain⟨ps,kk,d0,hL',rfl,hm,w⟩:=w
 obtain⟨b,b',ep,ys,qs,rfl,hb,t,hq⟩:=pd_at R.sub h1
 have e3:ps=qs:=pd_inj (by unfold pdD;rw[<- hL',hq])
 subst e3
 obtain⟨c,us,rfl,hc1,hc2,hd⟩:=h2.tuple R.sub
 rw[hd.intsV]at hc2
 obtain⟨b0,v,hv,dv⟩:=t.has hm
 exact ⟨b,b',c,ep,ys,kk,b0,v,rfl,rfl,hb,fun z hz=>R.sub _ _ (t.at z hz),hc2,hv,k _ _ F (.fz d0) (Sub.refl _) R dv w⟩
section
variable {X:Cx}{K:Fg}{e1 e2:Expr}{a b:AD}{pos:Pos}
theorem w_pget(hu:X.A.units+6 < cLine)(ha:WE X e1 (argT K a))(hb:WE X e2 (argT K b))(hs:NoSl e2:=by exact fun _ _=>rfl):WE X (.Subscript e1 e2 pos) (lift K (dOp [a,b] (o2 fPGet))):=⟨cv2 ok_pget (pe_pget hu ha.h hb.h hs)⟩
end
end L3
namespace R55
open PySem L2 L3 PyProof.Rows
noncomputable def top(i:Nat):Stmt:=PySem.Challenge.pw_boxsums_k55_stretched_and_cut.main.body.getD i (.Pass ⟨0,0,0,0⟩)
structure Txt(mg:Str->Option Value):Prop where
 MOST_CELLS_:∃t,mg "MOST_CELLS"=some (.int 120 t)
 len_:mg "len"=none
 abs_:mg "abs"=none
 min_:mg "min"=none
 max_:mg "max"=none
 sum_:mg "sum"=none
 dict_:mg "dict"=none
 all_:mg "all"=none
 isinstance_:mg "isinstance"=none
 tuple_:mg "tuple"=none
 list_:mg "list"=none
 int_:mg "int"=none
 bool_:mg "bool"=none
 range_:mg "range"=none
 zip_:mg "zip"=none
 sorted_:mg "sorted"=none
 ValueError_:mg "ValueError"=none
 BoxError_:mg "BoxError"=some (.ref (cA mg "BoxError"))
 NoField_:mg "NoField"=some (.ref (cA mg "NoField"))
 NoBox_:mg "NoBox"=some (.ref (cA mg "NoBox"))
 NoTurn_:mg "NoTurn"=some (.ref (cA mg "NoTurn"))
section
variable {P:Program}{w:World}{K:PySem.W.Frag}{mg:Str->Option Value}{base:Heap}
noncomputable abbrev penE(ns:List Int)(k l:Int):List (PyData×PyData):=[(.str "script",scrD ns),(.str "at",.int k),(.str "left",.int l)]
noncomputable abbrev penD(ns:List Int)(k l:Int):PyData:=.dict (penE ns k l)
theorem g_script(ns:List Int)(k l:Int):getE (penE ns k l) (.str "script")=some (scrD ns):=by rfl
theorem g_at(ns:List Int)(k l:Int):getE (penE ns k l) (.str "at")=some (.int k):=by rfl
theorem g_left(ns:List Int)(k l:Int):getE (penE ns k l) (.str "left")=some (.int l):=by rfl
theorem s_at(ns:List Int)(k l:Int):(getK (penE ns k l) (.inr "at")).isSome=true:=by rfl
theorem s_left(ns:List Int)(k l:Int):(getK (penE ns k l) (.inr "left")).isSome=true:=by rfl
theorem z3(ns:List Int)(k l:Int):(penE ns k l).length < sizeLine:=by show 3 < sizeLine;decide
noncomputable def cPen:Con:=fun args Q=>∃ns:List Int,args=[.fz (scrD ns)]/\∀o,Q (.ow (penD ns 0 0)) o
theorem scPen:FnScope ["_law_script"] ["_law_script"] (defScope (top 31)):=⟨rfl,rfl,rfl,by decide +kernel,rfl,by decide +kernel,by decide +kernel⟩
theorem ok_pen{f:Addr}{fd:FuncData}(F:Fun K "_law_pen" "_law_pen" (top 31) f fd):FnOk P w K mg base CX0 1 f fd ["_law_script"] (conSp K cPen):=by
 have S:=scPen
 refine wfn F S (fun cdv A outer s H E hr=>(s_one (s_ret (w_disp [(.inr "script",.inl 0),(.inr "at",.inr (.int 0)),(.inr "left",.inr (.int 0))] (by decide +kernel) (by decide) (by simp) (pe_disp (pps_cons pe_str (pv 0) (pps_cons pe_str pe_int (pps_cons pe_str pe_int pps_nil))) rfl rfl (by simp) (by simp)))))) ?_ ?_
 ·rintro args Qd ⟨ns,rfl,_⟩;rfl
 ·rintro args Qd ⟨ns,rfl,q⟩
  exact ⟨noOw_of rfl,q _⟩
noncomputable def cTake:Con:=fun args Q=>∃(ns:List Int) (k l m:Int),args=[.io (penD ns k l),.fz (.int m)]/\0<=k/\0<=l/\0 < m/\m < 1000000 /\
 ∀(r k' l':Int) (o:Ev),0<=r->r < m->0<=k'->0<=l'->Q (.fz (.int r)) (some (.io (penD ns k' l')) :: o)
theorem scTake:FnScope ["_law_pen_here","_law_many","_law_digit","_law_script","_law_at","_law_cell","_law_number_here"] ["_law_pen_here","_law_many"] (defScope (top 32)):=⟨rfl,rfl,rfl,by decide +kernel,rfl,by decide +kernel,by decide +kernel⟩
theorem ok_take{f:Addr}{fd:FuncData}(F:Fun K "_law_take" "_law_take" (top 32) f fd)(T:Txt mg):FnOk P w K mg base CX0 1 f fd ["_law_pen_here","_law_many"] (conSp K cTake):=by
 have S:=scTake
 refine wfn F S (fun cdv A outer s H E hr=>(s_cons (s_if (t_cmp ok_gt op_gt (wx (w_dget (hu_of hr) (wn 0) (wx w_str))) (wx w_int)) (s_cons (s_set (i:=2) S.nd rfl (Or.inl rfl) (w_bin ok_mod op_mod (wx (w_dget (hu_of hr) (wn 0) (wx w_str))) (wn 1)))
     (s_cons (s_key (hu_of hr) (wn 0) (wx w_str) (w_bin ok_fdiv op_fdiv (wx (w_dget (hu_of hr) (wn 0) (wx w_str))) (wn 1)))
     (s_one (s_retV (wn 2))))) s_nil)
     (s_cons (s_set (i:=3) S.nd rfl (Or.inl rfl) (w_dget (hu_of hr) (wn 0) (wx w_str)))
     (s_cons (s_set (i:=4) S.nd rfl (Or.inl rfl) (w_dget (hu_of hr) (wn 0) (wx w_str)))
     (s_cons (s_key (hu_of hr) (wn 0) (wx w_str) (w_bin ok_add op_addD (wn 4) (wx w_int)))
     (s_cons (s_set (i:=5) S.nd rfl (Or.inl rfl) (w_bin ok_add op_addD (wx (w_bin ok_mul op_mulD (wx w_int) (wn 4))) (wx w_int)))
     (s_cons (s_if (t_cmp ok_lt op_lt (wn 4) (wx (w_callB ok_len (call_lenK (K:=K) rfl) T.len_ PySem.boot_len (wa_cons (wn 3) wa_nil)))) (s_cons (s_set (i:=5) S.nd rfl (Or.inl rfl) (w_ix rfl (wn 3) (wn 4)))
     (s_one (s_if (t_cmp ok_ge op_ge (wx (w_callB ok_abs call_abs T.abs_ boot_abs (wa_cons (wn 5) wa_nil))) (wx (w_bin ok_pow op_pow (wx w_int) (wx w_int)))) (s_cons (s_key (hu_of hr) (wn 0) (wx w_str) (w_bin ok_fdiv op_fdiv (wx (w_callB ok_abs call_abs T.abs_ boot_abs (wa_cons (wn 5) wa_nil))) (wn 1)))
     (s_one (s_ret (w_bin ok_mod op_mod (wx (w_callB ok_abs call_abs T.abs_ boot_abs (wa_cons (wn 5) wa_nil))) (wn 1))))) s_nil))) (s_one (s_if (t_cmp ok_gt op_gt (wx (w_callB ok_len (call_lenK (K:=K) rfl) T.len_ PySem.boot_len (wa_cons (wn 3) wa_nil))) (wx w_int)) (s_one (s_set (i:=5) S.nd rfl (Or.inl rfl) (w_bin ok_add op_addD (wx (w_bin ok_mod op_mod (wx (w_ix rfl (wn 3) (wx (w_bin ok_mod op_mod (wn 4) (wx (w_callB ok_len (call_lenK (K:=K) rfl) T.len_ PySem.boot_len (wa_cons (wn 3) wa_nil))))))) (wx (w_bin ok_pow op_pow (wx w_int) (wx w_int))))) (wx (w_bin ok_mul op_mulD (wx w_int) (wn 4)))))) s_nil)))
     (s_cons (s_set (i:=6) S.nd rfl (Or.inl rfl) (w_bin ok_mod op_mod (wx (w_bin ok_mul op_mulD (wx (w_bin ok_add op_addD (wx (w_bin ok_add op_addD (wx (w_bin ok_mod op_mod (wn 5) (wx w_int))) (wx (w_bin ok_mul op_mulD (wx w_int) (wn 4))))) (wx w_int))) (wx w_int))) (wx w_int)))
     (s_cons (s_set (i:=6) S.nd rfl (Or.inl rfl) (w_bin ok_mod op_mod (wx (w_bin ok_add op_addD (wx (w_bin ok_mul op_mulD (wn 6) (wx (w_bin ok_add op_addD (wx (w_bin ok_mod op_mod (wn 6) (wx w_int))) (wx w_int))))) (wx w_int))) (wx w_int)))
     (s_one (s_ret (w_bin ok_mod op_mod (wx (w_bin ok_fdiv op_fdiv (wn 6) (wx w_int))) (wn 1))))))))))))) ?_ ?_
 ·rintro args Qd ⟨ns,k,l,m,rfl,_⟩;rfl
 ·rintro args Qd ⟨ns,k,l,m,rfl,hk,hl,m0,m1,q⟩
  have hmd:∀x:Int,0<=x % m/\x % m < m:=fun x=>⟨Int.emod_nonneg _ (by omega),Int.emod_lt_of_pos _ m0⟩
  refine ⟨noOw_of rfl,?_⟩
  refine ⟨_,g_left ns k l,?_⟩
  refine ite2 (fun h1=>?_) (fun h1=>?_)
  ·exact ⟨_,g_left ns k l,m0,_,g_left ns k l,⟨m0,by omega⟩,z3 ns k l,s_left ns k l,q _ _ _ _ (hmd _).1 (hmd _).2 hk (Int.ediv_nonneg hl (by omega))⟩
  refine ⟨_,g_script ns k l,?_⟩
  refine ⟨_,g_at ns k l,?_⟩
  refine ⟨z3 ns k l,s_at ns k l,?_⟩
  refine ⟨.inl ⟨by decide,by decide⟩,?_⟩
  refine ⟨ns,rfl,?_⟩
  refine ite2 (fun h2=>?_) (fun h2=>?_)
  ·have h2:k < (ns.length:Int):=of_decide_eq_true h2
   obtain⟨j,hj⟩:=Int.eq_ofNat_of_zero_le hk
   have hjl:j < ns.length:=by omega
   refine ⟨ns,ns[j],rfl,by rw[hj];exact atI_nat (List.getElem?_eq_getElem hjl),?_⟩
   have hab:0<=(if ns[j] < 0 then -ns[j] else ns[j]):=by split<;>omega
   refine ⟨⟨by decide,by decide,by decide⟩,?_⟩
   refine ite2 (fun h3=>?_) (fun h3=>?_)
   ·exact ⟨⟨m0,by omega⟩,z3 ns (k+1) l,s_left ns (k+1) l,m0,q _ _ _ _ (hmd _).1 (hmd _).2 (by omega) (Int.ediv_nonneg hab (by omega))⟩
   ·refine ⟨by show (0:Int) < 2147483629;decide,.inl ⟨by decide,by decide⟩,.inr ⟨by decide,by decide⟩,by show (0:Int) < 2147483587;decide,?_⟩
    refine ⟨by show (0:Int) < 65521;decide,.inl ⟨by omega,by omega⟩,by show (0:Int) < 2147483563;decide,?_⟩
    exact ⟨⟨by decide,by decide⟩,m0,q _ _ _ _ (hmd _).1 (hmd _).2 (by omega) hl⟩
  ·refine ⟨ns,rfl,?_⟩
   refine ite2 (fun h3=>?_) (fun h3=>?_)
   ·have hpos:(0:Int) < (ns.length:Int):=of_decide_eq_true h3
    have hb:=Int.emod_lt_of_pos k hpos
    have ha:=Int.emod_nonneg k (show (ns.length:Int)≠0 by omega)
    obtain⟨j,hj⟩:=Int.eq_ofNat_of_zero_le ha
    have hjl:j < ns.length:=by omega
    refine ⟨ns,rfl,hpos,ns,ns[j],rfl,by rw[hj];exact atI_nat (List.getElem?_eq_getElem hjl),⟨by decide,by decide,by decide⟩,by show (0:Int) < 10 ^ 17;decide,.inl ⟨by decide,by decide⟩,?_⟩
    refine ⟨by show (0:Int) < 2147483629;decide,.inl ⟨by decide,by decide⟩,.inr ⟨by decide,by decide⟩,by show (0:Int) < 2147483587;decide,?_⟩
    refine ⟨by show (0:Int) < 65521;decide,.inl ⟨by omega,by omega⟩,by show (0:Int) < 2147483563;decide,?_⟩
    exact ⟨⟨by decide,by decide⟩,m0,q _ _ _ _ (hmd _).1 (hmd _).2 (by omega) hl⟩
   ·refine ⟨by show (0:Int) < 2147483629;decide,.inl ⟨by decide,by decide⟩,.inr ⟨by decide,by decide⟩,by show (0:Int) < 2147483587;decide,?_⟩
    refine ⟨by show (0:Int) < 65521;decide,.inl ⟨by omega,by omega⟩,by show (0:Int) < 2147483563;decide,?_⟩
    exact ⟨⟨by decide,by decide⟩,m0,q _ _ _ _ (hmd _).1 (hmd _).2 (by omega) hl⟩
end
section
variable {P:Program}{w:World}{K:PySem.W.Frag}{mg:Str->Option Value}{base:Heap}
theorem rangeD_succ(lo:Int)(n:Nat):rangeD lo (n+1)=PyData.int lo :: rangeD (lo+1) n:=by
 simp only[rangeD,List.range_succ_eq_map,List.map_cons,List.map_map]
 refine congr (congrArg List.cons (by simp)) (List.map_congr_left fun a _=>?_)
 simp only[Function.comp_def,PyData.int.injEq,Int.natCast_succ]
 omega
noncomputable def prodI:List Int->Int
 | []=>1
 | a :: r=>a * prodI r
theorem prodI_pos:∀{l:List Int},(∀c∈l,1<=c)->1<=prodI l
 | [],_=>Int.le_refl _
 | a :: r,h=>by
  have h1:=h a List.mem_cons_self
  have h2:=prodI_pos (l:=r) fun c hc=>h c (List.mem_cons_of_mem _ hc)
  show 1<=a * prodI r
  have:=Int.mul_le_mul h1 h2 (by decide) (by omega)
  omega
theorem prodI_append(l r:List Int):prodI (l++r)=prodI l * prodI r:=by
 induction l with
 | nil=>show prodI r=1 * prodI r;rw[Int.one_mul]
 | cons a l ih=>show a * prodI (l++r)=a * prodI l * prodI r;rw[ih,Int.mul_assoc]
structure Sd(sd:List Int):Prop where
 l1:1<=sd.length
 l3:sd.length<=3
 p:∀c∈sd,1<=c
 m:prodI sd<=120
noncomputable abbrev tupD(p:List Int):PyData:=.tuple (p.map PyData.int)
theorem prodI_reverse(l:List Int):prodI l.reverse=prodI l:=by
 induction l with
 | nil=>rfl
 | cons a l ih =>
  rw[List.reverse_cons,prodI_append,ih]
  show prodI l * (a * 1)=a * prodI l
  rw[Int.mul_one,Int.mul_comm]
structure CalsB(P:Program)(w:World)(K:PySem.W.Frag)(mg:Str->Option Value)(base:Heap):Prop where
 law_take:Cal P w K mg base 1 "_law_take" ["_law_pen_here","_law_many"] (conSp K cTake)
noncomputable def cSides:Con:=fun args Q=>∃(ns:List Int) (k l m:Int),args=[.io (penD ns k l),.fz (.int m)]/\0<=k/\0<=l/\1<=m/\m<=120 /\
 ∀(sd:List Int) (k' l':Int) (o:Ev),Sd sd->prodI sd<=m->0<=k'->0<=l'->Q (.ow (.list (sd.map PyData.int))) (some (.io (penD ns k' l')) :: o)
theorem scSides:FnScope ["_law_pen_here","_law_most","_law_ways","_law_thin","_law_sides_here","_law_left","_law_way","_law_top","_law_side"] ["_law_pen_here","_law_most"] (defScope (top 35)):=⟨rfl,rfl,rfl,by decide +kernel,rfl,by decide +kernel,by decide +kernel⟩
theorem ok_sides{f:Addr}{fd:FuncData}(F:Fun K "_law_sides" "_law_sides" (top 35) f fd)(T:Txt mg)(C:CalsB P w K mg base):FnOk P w K mg base CX0 2 f fd ["_law_pen_here","_law_most"] (conSp K cSides):=by
 have S:=scSides
 refine wfn F S (fun cdv A outer s H E hr=>(s_cons (s_set (i:=2) S.nd rfl (Or.inl rfl) (w_bin ok_add op_addD (wx w_int) (wx (w_fnI C.law_take (hr.mono (by first|decide|omega)) (wa_cons (wn 0) (wa_cons (wx w_int) wa_nil))))))
     (s_cons (s_set (i:=3) S.nd rfl (Or.inl rfl) (w_cmp ok_eq (op_eqE (K:=K) rfl hr.units) (wx (w_fnI C.law_take (hr.mono (by first|decide|omega)) (wa_cons (wn 0) (wa_cons (wx w_int) wa_nil)))) (wx w_int)))
     (s_cons (s_set (i:=4) S.nd rfl (Or.inl rfl) (w_lst wa_nil))
     (s_cons (s_move (i:=5) S.nd rfl (Or.inl rfl) (wn 1))
     (s_cons (s_for [6,7,8] PassesOwn.never rfl (i_rng1 T.range_ (wa_cons (wn 2) wa_nil)) (g_name (i:=6) S.nd rfl (Or.inl rfl)) (s_cons (s_set (i:=7) S.nd rfl (Or.inl rfl) (w_ix rfl (wx (w_lst (wa_cons (wx w_int) (wa_cons (wx w_int) (wa_cons (wx w_int) wa_nil))))) (wx (w_bin ok_sub op_sub (wn 2) (wx w_int)))))
     (s_cons (s_if (t_val (wv 3)) (s_one (s_set (i:=7) S.nd rfl (Or.inl rfl) (w_ix rfl (wx (w_lst (wa_cons (wx w_int) (wa_cons (wx w_int) wa_nil)))) (wx (w_callT ok_int call_int1 T.int_ boot_int (wa_cons (wx (w_cmp ok_eq (op_eqE (K:=K) rfl hr.units) (wn 6) (wx (w_bin ok_sub op_sub (wn 2) (wx w_int))))) wa_nil)))))) s_nil)
     (s_cons (s_set (i:=8) S.nd rfl (Or.inl rfl) (w_bin ok_add op_addD (wx w_int) (wx (w_fnI C.law_take (hr.mono (by first|decide|omega)) (wa_cons (wn 0) (wa_cons (wx (w_callB ok_2I (call_min2 rfl) T.min_ boot_min (wa_cons (wn 5) (wa_cons (wn 7) wa_nil)))) wa_nil))))))
     (s_cons (s_expr (w_m ok_append rfl PySem.F.slot_list_append PySem.F.type_list_append mt_append (wn 4) (wa_cons (wx (wv 8)) wa_nil)))
     (s_one (s_set (i:=5) S.nd rfl (Or.inl rfl) (w_bin ok_fdiv op_fdiv (wn 5) (wn 8)))))))))
     (s_cons (s_if (t_w (t_and (t_val (wv 3)) (t_and1 (t_cmp ok_eq (op_eqE (K:=K) rfl hr.units) (wx (w_fnI C.law_take (hr.mono (by first|decide|omega)) (wa_cons (wn 0) (wa_cons (wx w_int) wa_nil)))) (wx w_int))))) (s_one (s_expr (w_m0 ok_reverse rfl PySem.F.slot_list_reverse PySem.F.type_list_reverse mt_reverse (wn 4)))) s_nil)
     (s_one (s_retV (wn 4)))))))))) ?_ ?_
 ·rintro args Qd ⟨ns,k,l,m,rfl,_⟩;rfl
 ·rintro args Qd ⟨ns,k,l,m,rfl,hk,hl,m1,m2,q⟩
  refine ⟨noOw_of rfl,?_⟩
  refine ⟨ns,k,l,_,rfl,hk,hl,by decide,by decide,fun w0 k1 l1 _ w00 w01 hk1 hl1=>?_⟩
  refine ⟨ns,k1,l1,_,rfl,hk1,hl1,by decide,by decide,fun th k2 l2 _ _ _ hk2 hl2=>?_⟩
  refine ⟨by omega,by omega,loopC (fun rest ρ=>∃(lc:Int) (fs:List Int) (k4 l4:Int),ρ=[some (.io (penD ns k4 l4)),some (.fz (.int m)),some (.fz (.int (1+w0))),some (.fz (.bool (decide (th=3)))),some (.ow (.list (fs.map PyData.int))),some (.fz (.int lc)),none,none,none] /\
      (∃n:Nat,rest=rangeD fs.length n/\(fs.length:Int)+n=1+w0)/\(∀c∈fs,1<=c)/\1<=lc/\prodI fs * lc<=m/\0<=k4/\0<=l4) ?_ ?_
    ⟨m,[],k2,l2,rfl,⟨(1+w0).toNat,rfl,by simp;omega⟩,fun c hc=>by simp at hc,m1,by show 1 * m<=m;omega,hk2,hl2⟩⟩
  ·rintro d ds ρ ⟨lc,fs,k4,l4,rfl,⟨n,en,hlen⟩,hfp,hm1,hpm,hk4,hl4⟩ N hN
   cases n with
   | zero=>cases en
   | succ n =>
    rw[rangeD_succ]at en
    cases en
    have hp1:=prodI_pos hfp
    have hmc:lc<=m:=Int.le_trans (by have:=Int.mul_le_mul_of_nonneg_right hp1 (show (0:Int)<=lc by omega);omega) hpm
    have pick:∃x:Int,atI [PyData.int 120,PyData.int 12,PyData.int 6] (1+w0 - 1)=some (.int x)/\1<=x:=by
     have:w0=0\/w0=1\/w0=2:=by omega
     rcases this with rfl|rfl|rfl
     ·exact ⟨120,rfl,by decide⟩
     ·exact ⟨12,rfl,by decide⟩
     ·exact ⟨6,rfl,by decide⟩
    obtain⟨x,hx,hx1⟩:=pick
    refine ⟨_,hx,?_⟩
    refine ite2 (fun hb=>?_) (fun hb=>?_)
    ·have pick2:∃y:Int,atI [PyData.int 2,PyData.int 120] (if decide ((fs.length:Int)=1+w0 - 1)=true then 1 else 0)=some (.int y)/\1<=y:=by
      split
      ·exact ⟨120,rfl,by decide⟩
      ·exact ⟨2,rfl,by decide⟩
     obtain⟨y,hy,hy1⟩:=pick2
     refine ⟨_,hy,?_⟩
     refine ⟨ns,k4,l4,_,rfl,hk4,hl4,by split<;>omega,by split<;>omega,fun r6 k6 l6 _ r60 r61 hk6 hl6=>?_⟩
     have hs1:1+r6<=lc:=by
      have:(if y < lc then y else lc)<=lc:=by split<;>omega
      omega
     refine ⟨by rw[List.length_map];exact Nat.lt_of_lt_of_le (show fs.length < 1000 by omega) (by decide),⟨by omega,by omega⟩,?_⟩
     refine hN _ ⟨lc / (1+r6),fs++[1+r6],k6,l6,by rw[List.map_append];rfl,⟨n,by rw[List.length_append];rfl,by rw[List.length_append,List.length_singleton];omega⟩,?_,Int.le_ediv_of_mul_le (by omega) (by omega),?_,hk6,hl6⟩
     ·intro c hc
      rcases List.mem_append.mp hc with z|z
      ·exact hfp c z
      ·rw[List.mem_singleton.mp z];omega
     ·rw[prodI_append]
      show prodI fs * ((1+r6) * 1) * (lc / (1+r6))<=m
      have h1:(1+r6) * (lc / (1+r6))<=lc:=Int.mul_ediv_self_le (by omega)
      have h2:prodI fs * ((1+r6) * (lc / (1+r6)))<=prodI fs * lc:=Int.mul_le_mul_of_nonneg_left h1 (by omega)
      rw[Int.mul_one,Int.mul_assoc]
      omega
    ·obtain⟨y,ey⟩:∃y,y=x:=⟨x,rfl⟩
     subst ey
     refine ⟨ns,k4,l4,_,rfl,hk4,hl4,by split<;>omega,by split<;>omega,fun r6 k6 l6 _ r60 r61 hk6 hl6=>?_⟩
     have hs1:1+r6<=lc:=by
      have:(if y < lc then y else lc)<=lc:=by split<;>omega
      omega
     refine ⟨by rw[List.length_map];exact Nat.lt_of_lt_of_le (show fs.length < 1000 by omega) (by decide),⟨by omega,by omega⟩,?_⟩
     refine hN _ ⟨lc / (1+r6),fs++[1+r6],k6,l6,by rw[List.map_append];rfl,⟨n,by rw[List.length_append];rfl,by rw[List.length_append,List.length_singleton];omega⟩,?_,Int.le_ediv_of_mul_le (by omega) (by omega),?_,hk6,hl6⟩
     ·intro c hc
      rcases List.mem_append.mp hc with z|z
      ·exact hfp c z
      ·rw[List.mem_singleton.mp z];omega
     ·rw[prodI_append]
      show prodI fs * ((1+r6) * 1) * (lc / (1+r6))<=m
      have h1:(1+r6) * (lc / (1+r6))<=lc:=Int.mul_ediv_self_le (by omega)
      have h2:prodI fs * ((1+r6) * (lc / (1+r6)))<=prodI fs * lc:=Int.mul_le_mul_of_nonneg_left h1 (by omega)
      rw[Int.mul_one,Int.mul_assoc]
      omega
  ·rintro ρ ⟨lc,fs,k4,l4,rfl,⟨n,en,hlen⟩,hfp,hm1,hpm,hk4,hl4⟩
   cases n with
   | succ n=>rw[rangeD_succ]at en;cases en
   | zero =>
    have hp1:=prodI_pos hfp
    have hpp:=Int.mul_le_mul_of_nonneg_left hm1 (show (0:Int)<=prodI fs by omega)
    have hsd:Sd fs:=⟨by omega,by omega,hfp,by omega⟩
    have hsr:Sd fs.reverse:=⟨by rw[List.length_reverse];omega,by rw[List.length_reverse];omega,fun c hc=>hfp c (List.mem_reverse.mp hc),by rw[prodI_reverse];omega⟩
    refine ite2 (fun hb=>?_) (fun hb=>?_)
    ·refine ⟨ns,k4,l4,_,rfl,hk4,hl4,by decide,by decide,fun r6 k6 l6 _ r60 r61 hk6 hl6=>?_⟩
     refine ite2 (fun hb=>?_) (fun hb=>?_)
     ·have e:(fs.map PyData.int).reverse=fs.reverse.map PyData.int:=by rw[List.map_reverse]
      refine (?_:Qd (Sl.ow (PyData.list (fs.map PyData.int).reverse)) _)
      rw[e]
      exact q fs.reverse k6 l6 _ hsr (by rw[prodI_reverse];omega) hk6 hl6
     ·exact q fs k6 l6 _ hsd (by omega) hk6 hl6
    ·exact q fs k4 l4 _ hsd (by omega) hk4 hl4
end
noncomputable def eachA{α:Type}(acc:List (List α)):List (List α)->List (List α)
 | []=>acc
 | c :: cs=>eachA (acc.flatMap fun p=>c.map fun x=>p++[x]) cs
noncomputable def lenP{α:Type}:List (List α)->Nat
 | []=>1
 | c :: cs=>c.length * lenP cs
theorem lenP_pos{α:Type}:∀{cs:List (List α)},(∀c∈cs,c≠[])->1<=lenP cs
 | [],_=>Nat.le_refl _
 | c :: cs,h=>by
  have h1:1<=c.length:=List.length_pos_iff.mpr (h c List.mem_cons_self)
  have h2:=lenP_pos (cs:=cs) fun d hd=>h d (List.mem_cons_of_mem _ hd)
  exact Nat.mul_le_mul h1 h2
theorem flat_len{α:Type}(c:List α):∀acc:List (List α),(acc.flatMap fun p=>c.map fun x=>p++[x]).length=acc.length * c.length
 | []=>by simp
 | p :: acc=>by rw[List.flatMap_cons,List.length_append,flat_len c acc,List.length_map,List.length_cons,Nat.succ_mul,Nat.add_comm]
theorem eachA_len{α:Type}:∀(cs acc:List (List α)),(eachA acc cs).length=acc.length * lenP cs
 | [],acc=>by simp[eachA,lenP]
 | c :: cs,acc=>by rw[eachA,eachA_len cs,flat_len,lenP,Nat.mul_assoc]
noncomputable def rng(s:Int):List Int:=(List.range s.toNat).map fun (n:Nat)=>(n:Int)
theorem rangeD_rng(s:Int):rangeD 0 s.toNat=(rng s).map PyData.int:=by simp[rangeD,rng,List.map_map,Function.comp_def]
theorem rng_len(s:Int):(rng s).length=s.toNat:=by simp[rng]
noncomputable def plc(sd:List Int):List (List Int):=eachA [[]] (sd.map rng)
theorem lenP_rng:∀{sd:List Int},(∀c∈sd,1<=c)->(lenP (sd.map rng):Int)=prodI sd
 | [],_=>rfl
 | a :: r,h=>by
  have h1:=h a List.mem_cons_self
  have h2:=lenP_rng (sd:=r) fun c hc=>h c (List.mem_cons_of_mem _ hc)
  show ((((rng a).length * lenP (r.map rng):Nat)):Int)=a * prodI r
  rw[rng_len,Int.natCast_mul,h2]
  congr 1
  omega
open PySem PySem.Spec L2 L3 PyProof.Rows
theorem zipD_ints(a b:List Int):zipD (a.map PyData.int) (b.map PyData.int)=(a.zip b).map fun p=>PyData.tuple [.int p.1,.int p.2]:=by
 rw[zipD,List.zip_map,List.map_map];rfl
noncomputable def rng2(a b:Int):List Int:=(List.range (b+1 - a).toNat).map fun (n:Nat)=>a+(n:Int)
theorem rangeD_rng2(a b:Int):rangeD a (b+1 - a).toNat=(rng2 a b).map PyData.int:=by simp[rangeD,rng2,List.map_map,Function.comp_def]
theorem rng2_zero(s:Int):rng2 0 (s - 1)=rng s:=by
 unfold rng2 rng
 rw[show s - 1+1 - 0=s by omega]
 simp
noncomputable def btw(low high:List Int):List (List Int):=eachA [[]] ((low.zip high).map fun p=>rng2 p.1 p.2)
theorem zip_zero:∀sd:List Int,((sd.map fun _=>(0:Int)).zip (sd.map fun s=>s - 1))=sd.map fun s=>(0,s - 1)
 | []=>rfl
 | a :: r=>by simp[zip_zero r]
theorem le_prodI:∀{sd:List Int},(∀c∈sd,1<=c)->∀c∈sd,c<=prodI sd
 | a :: r,h,c,hc=>by
  have h1:=h a List.mem_cons_self
  have hr:∀c∈r,1<=c:=fun c hc=>h c (List.mem_cons_of_mem _ hc)
  have h2:=prodI_pos hr
  show c<=a * prodI r
  rcases List.mem_cons.mp hc with rfl|hc
  ·have:=Int.mul_le_mul_of_nonneg_left h2 (show (0:Int)<=c by omega);omega
  ·have h3:=le_prodI hr c hc
   have:=Int.mul_le_mul_of_nonneg_right h1 (show (0:Int)<=prodI r by omega);omega
noncomputable def idx(sd pl:List Int):Int:=(sd.zip pl).foldl (fun i p=>i * p.1+p.2) 0
noncomputable def InW{α:Type}:List α->List (List α)->Prop
 | [],[]=>True
 | x :: xs,c :: cs=>x∈c/\InW xs cs
 | _,_=>False
theorem each_mem{α:Type}:∀{cs acc:List (List α)}{p:List α},p∈eachA acc cs->∃a∈acc,∃q,p=a++q/\InW q cs
 | [],acc,p,h=>⟨p,h,[],by simp,trivial⟩
 | c :: cs,acc,p,h=>by
  obtain⟨a',ha',q,rfl,hq⟩:=each_mem (cs:=cs) h
  obtain⟨a,ha,hb⟩:=List.mem_flatMap.mp ha'
  obtain⟨x,hx,rfl⟩:=List.mem_map.mp hb
  exact ⟨a,ha,x :: q,by simp,hx,hq⟩
theorem each_mem0{α:Type}{cs:List (List α)}{p:List α}(h:p∈eachA [[]] cs):InW p cs:=by
 obtain⟨a,ha,q,rfl,hq⟩:=each_mem h
 simp at ha
 subst ha
 exact hq
theorem mem_rng{x s:Int}(h:x∈rng s):0<=x/\x < s:=by
 unfold rng at h
 obtain⟨n,hn,rfl⟩:=List.mem_map.mp h
 have:=List.mem_range.mp hn
 omega
noncomputable def Wi:List Int->List Int->Prop
 | [],[]=>True
 | x :: xs,s :: ss=>(0<=x/\x < s)/\Wi xs ss
 | _,_=>False
theorem plc_wi{sd p:List Int}(hm:p∈plc sd):Wi p sd:=by
 have h:=each_mem0 hm
 clear hm
 induction sd generalizing p with
 | nil=>cases p with
  | nil=>trivial
  | cons _ _=>exact h.elim
 | cons s ss ih=>cases p with
  | nil=>exact h.elim
  | cons x xs=>exact ⟨mem_rng h.1,ih h.2⟩
theorem plc_len{sd:List Int}(hp:∀c∈sd,1<=c):((plc sd).length:Int)=prodI sd:=by
 rw[plc,eachA_len,<- lenP_rng hp]
 simp
theorem wi_len:∀{p sd:List Int},Wi p sd->p.length=sd.length
 | [],[],_=>rfl
 | [],_ :: _,h=>h.elim
 | _ :: _,[],h=>h.elim
 | _ :: _,_ :: _,h=>by simp[wi_len h.2]
theorem idx_b:∀{sd pl:List Int}{i m:Int},Wi pl sd->0<=i->i < m->0<=(sd.zip pl).foldl (fun i p=>i * p.1+p.2) i/\(sd.zip pl).foldl (fun i p=>i * p.1+p.2) i < m * prodI sd
 | [],[],i,m,_,h0,h1=>by simp[prodI];omega
 | [],_ :: _,_,_,h,_,_=>h.elim
 | _ :: _,[],_,_,h,_,_=>h.elim
 | s :: ss,x :: xs,i,m,h,h0,h1=>by
  have hx:=h.1
  have hs:0<=s:=by omega
  have e1:0<=i * s:=Int.mul_nonneg h0 hs
  have e2:i * s<=(m - 1) * s:=Int.mul_le_mul_of_nonneg_right (by omega) hs
  rw[Int.sub_mul,Int.one_mul]at e2
  have:=idx_b (sd:=ss) (pl:=xs) (i:=i * s+x) (m:=m * s) h.2 (by omega) (by omega)
  rw[Int.mul_assoc]at this
  exact this
theorem rng_at{s:Int}{j:Nat}{x:Int}(h:(rng s)[j]?=some x):x=j/\(j:Int) < s:=by
 unfold rng at h
 rw[List.getElem?_map,Option.map_eq_some_iff]at h
 obtain⟨n,hn,rfl⟩:=h
 rw[List.getElem?_eq_some_iff]at hn
 obtain⟨h1,h2⟩:=hn
 simp at h1 h2
 omega
theorem flat_at{s:Int}(hs:1<=s):∀{acc:List (List Int)}{j':Nat}{a':List Int},(acc.flatMap fun p=>(rng s).map fun x=>p++[x])[j']?=some a' ->
  ∃(j:Nat) (a:List Int) (x:Int),acc[j]?=some a/\a'=a++[x]/\(0<=x/\x < s)/\(j':Int)=j * s+x
 | [],j',a',h=>by simp at h
 | a :: acc,j',a',h=>by
  rw[List.flatMap_cons]at h
  rcases Nat.lt_or_ge j' ((rng s).map fun x=>a++[x]).length with g|g
  ·rw[List.getElem?_append_left g,List.getElem?_map,Option.map_eq_some_iff]at h
   obtain⟨x,hx,rfl⟩:=h
   obtain⟨rfl,h2⟩:=rng_at hx
   exact ⟨0,a,_,rfl,rfl,⟨by omega,h2⟩,by simp⟩
  ·rw[List.getElem?_append_right g]at h
   obtain⟨j,b,x,h1,h2,h3,h4⟩:=flat_at hs h
   rw[List.length_map,rng_len]at g h4
   refine ⟨j+1,b,x,h1,h2,h3,?_⟩
   rw[show ((j+1:Nat):Int)=(j:Int)+1 by omega,Int.add_mul,Int.one_mul]
   omega
theorem each_at:∀{sd:List Int}{acc:List (List Int)}{k:Nat}{p:List Int},(∀c∈sd,1<=c)->(eachA acc (sd.map rng))[k]?=some p ->
  ∃(j:Nat) (a q:List Int),acc[j]?=some a/\p=a++q/\Wi q sd/\(sd.zip q).foldl (fun i p=>i * p.1+p.2) (j:Int)=k
 | [],acc,k,p,_,h=>⟨k,p,[],h,by simp,trivial,rfl⟩
 | s :: ss,acc,k,p,hp,h=>by
  obtain⟨j',a',q',h1,h2,h3,h4⟩:=each_at (sd:=ss) (fun c hc=>hp c (List.mem_cons_of_mem _ hc)) h
  obtain⟨j,a,x,g1,g2,g3,g4⟩:=flat_at (hp s List.mem_cons_self) h1
  refine ⟨j,a,x :: q',g1,by rw[h2,g2];simp,⟨g3,h3⟩,?_⟩
  rw[g4]at h4
  exact h4
theorem plc_at{sd:List Int}(hp:∀c∈sd,1<=c){k:Nat}{p:List Int}(h:(plc sd)[k]?=some p):Wi p sd/\idx sd p=k:=by
 obtain⟨j,a,q,h1,h2,h3,h4⟩:=each_at hp h
 have hj:j=0:=by
  rcases j with _|j
  ·rfl
  ·simp at h1
 subst hj
 simp at h1
 subst h1
 simp at h2
 subst h2
 exact ⟨h3,h4⟩
theorem at_ints{xs:List Int}{i:Nat}(h:i < xs.length):atI (xs.map PyData.int) (i:Int)=some (.int (xs.getD i 0)):=by
 refine atI_nat ?_
 rw[List.getElem?_map,List.getElem?_eq_getElem h,List.getD_eq_getElem?_getD,List.getElem?_eq_getElem h]
 rfl
noncomputable def IT:Nat->PyData->Prop
 | 0,d=>∃i,d=.int i
 | n+1,d=>(∃i,d=.int i)\/∃l,(d=.list l\/d=.tuple l)/\l.length<=20000/\∀x∈l,IT n x
theorem it_int(n:Nat)(i:Int):IT n (.int i):=by
 cases n
 ·exact ⟨i,rfl⟩
 ·exact .inl ⟨i,rfl⟩
theorem zl(l:List PyData)(h:l.length<=20000):(zipD l l).length<=sizeLine:=by
 unfold zipD
 rw[List.length_map,List.length_zip,Nat.min_self]
 exact Nat.le_trans h (by decide)
theorem zm{l:List PyData}{x:PyData}(h:x∈zipD l l):∃a∈l,x=.tuple [a,a]:=by
 unfold zipD at h
 obtain⟨p,hp,rfl⟩:=List.mem_map.mp h
 obtain⟨i,hi,e⟩:=List.getElem_of_mem hp
 rw[List.getElem_zip]at e
 subst e
 rw[List.length_zip,Nat.min_self]at hi
 exact ⟨l[i],List.getElem_mem _,rfl⟩
theorem zr(l:List PyData):(zipD l l).map (fun _=>PyData.bool true)=List.replicate l.length (.bool true):=by
 unfold zipD
 rw[List.map_map,List.eq_replicate_iff]
 refine ⟨by rw[List.length_map,List.length_zip,Nat.min_self],fun b hb=>?_⟩
 obtain⟨p,_,rfl⟩:=List.mem_map.mp hb
 rfl
section
variable {P:Program}{w:World}{K:PySem.W.Frag}{mg:Str->Option Value}{base:Heap}
noncomputable def cSame:Nat->Con
 | 0=>fun _ _=>False
 | n+1=>fun args Q=>∃d,args=[.fz d,.fz d]/\IT n d/\∀o,Q (.fz (.bool true)) o
theorem scSame:FnScope ["_law_found","_law_due"] ["_law_found","_law_due"] (defScope (top 33)):=⟨rfl,rfl,rfl,by decide +kernel,rfl,by decide +kernel,by decide +kernel⟩
structure CalsSm(n k:Nat)(P:Program)(w:World)(K:PySem.W.Frag)(mg:Str->Option Value)(base:Heap):Prop where
 law_same:Cal P w K mg base k "_law_same" ["_law_found","_law_due"] (conSp K (cSame n))
theorem ok_sameG{n k:Nat}{f:Addr}{fd:FuncData}(F:Fun K "_law_same" "_law_same" (top 33) f fd)(T:Txt mg)(C:CalsSm n k P w K mg base):FnOk P w K mg base CX0 (k+1) f fd ["_law_found","_law_due"] (conSp K (cSame (n+1))):=by
 have S:=scSame
 refine wfn F S (fun cdv A outer s H E hr=>(s_cons (s_if (t_val (w_isiLA rfl T.isinstance_ T.list_ T.tuple_ (wn 1))) (s_cons (s_if (t_w (t_or (t_not (t_val (w_isiLA rfl T.isinstance_ T.list_ T.tuple_ (wn 0)))) (t_or1 (t_cmp ok_ne (op_neE (K:=K) rfl hr.units) (wx (w_isi .lst rfl T.isinstance_ T.list_ boot_list (wn 0))) (wx (w_isi .lst rfl T.isinstance_ T.list_ boot_list (wn 1))))))) (s_one (s_ret w_bl)) s_nil)
     (s_one (s_ret (w_and (w_cmp ok_eq (op_eqE (K:=K) rfl hr.units) (wx (w_callB ok_len (call_lenK (K:=K) rfl) T.len_ PySem.boot_len (wa_cons (wn 0) wa_nil))) (wx (w_callB ok_len (call_lenK (K:=K) rfl) T.len_ PySem.boot_len (wa_cons (wn 1) wa_nil)))) (w_one (w_callB ok_all (call_allK (K:=K) rfl rfl) T.all_ boot_all (wa_cons (wx (w_comp rfl (own:=["_law_one","_law_other"]) (fr:=[]) (by kernel_rfl) (i_zip2 rfl T.zip_ (wa_cons (wn 0) (wa_cons (wn 1) wa_nil))) (fun _ _ _ _=>(g_tup rfl rfl (gs_cons (g_name (i:=0) (by decide +kernel:List.Nodup (["_law_one","_law_other"]:List Str)) rfl (Or.inl rfl)) (gs_cons (g_name (i:=1) (by decide +kernel:List.Nodup (["_law_one","_law_other"]:List Str)) rfl (Or.inl rfl)) gs_nil)))) (fun _ _ _ _=>if0) (fun _ _ _ _=>(w_fn C.law_same (hr.mono (by first|decide|omega)) (wa_cons (wn 0) (wa_cons (wn 1) wa_nil)))))) wa_nil))))))) s_nil)
     (s_one (s_ret (w_and (w_isi .int rfl T.isinstance_ T.int_ boot_int (wn 0)) (w_and (w_not (w_isi .bl rfl T.isinstance_ T.bool_ boot_bool (wn 0))) (w_one (w_cmp ok_eq (op_eqE (K:=K) rfl hr.units) (wn 0) (wn 1))))))))) ?_ ?_
 ·rintro args Qd ⟨d,rfl,_⟩;rfl
 ·rintro args Qd ⟨d,rfl,hd,q⟩
  refine ⟨noOw_of rfl,?_⟩
  have key:(∃i,d=.int i)\/∃m l,n=m+1/\(d=.list l\/d=.tuple l)/\l.length<=20000/\∀x∈l,IT m x:=by
   cases n with
   | zero=>exact .inl hd
   | succ m =>
    rcases hd with h|⟨l,h1,h2,h3⟩
    ·exact .inl h
    ·exact .inr ⟨m,l,rfl,h1,h2,h3⟩
  rcases key with⟨i,rfl⟩|⟨m,l,rfl,hd|hd,hl,hi⟩
  ·refine (?_:Qd (.fz (.bool (decide (i=i)))) _)
   rw[decide_eq_true (rfl:i=i)]
   exact q _
  ·subst hd
   have nb:=Nice.bool 0 true
   refine ⟨nb.p,nb.p,nb.sh (by decide),nb.sh (by decide),noMix_self _ nb.p,ite2 (fun h=>?_) (fun h=>?_)⟩
   ·have h:(!same (.bool true) (.bool true))=true:=h
    rw[same_self]at h
    cases h
   refine ite2 (fun h=>?_) (fun h=>?_)
   ·refine ⟨zl l hl,mapC (fun _=>.bool true) ?_ ?_⟩
    ·intro x hx R hR
     obtain⟨a,ha,rfl⟩:=zm hx
     exact ⟨rfl,a,rfl,hi a ha,fun o=>hR⟩
    ·refine ⟨List.replicate l.length true,?_,?_⟩
     ·rw[List.map_replicate]
      exact zr l
     ·have e:(List.replicate l.length true).all id=true:=by simp
      refine (?_:Qd (.fz (.bool ((List.replicate l.length true).all id))) _)
      rw[e]
      exact q _
   ·exact absurd (decide_eq_true rfl) h
  ·subst hd
   have nb:=Nice.bool 0 false
   refine ⟨nb.p,nb.p,nb.sh (by decide),nb.sh (by decide),noMix_self _ nb.p,ite2 (fun h=>?_) (fun h=>?_)⟩
   ·have h:(!same (.bool false) (.bool false))=true:=h
    rw[same_self]at h
    cases h
   refine ite2 (fun h=>?_) (fun h=>?_)
   ·refine ⟨zl l hl,mapC (fun _=>.bool true) ?_ ?_⟩
    ·intro x hx R hR
     obtain⟨a,ha,rfl⟩:=zm hx
     exact ⟨rfl,a,rfl,hi a ha,fun o=>hR⟩
    ·refine ⟨List.replicate l.length true,?_,?_⟩
     ·rw[List.map_replicate]
      exact zr l
     ·have e:(List.replicate l.length true).all id=true:=by simp
      refine (?_:Qd (.fz (.bool ((List.replicate l.length true).all id))) _)
      rw[e]
      exact q _
   ·exact absurd (decide_eq_true rfl) h
end
noncomputable def lawS(acc:List (List Int))(c:List Int):List (List Int):=c.flatMap fun x=>acc.map fun p=>p++[x]
noncomputable def lawA(acc:List (List Int)):List (List Int)->List (List Int)
 | []=>acc
 | c :: cs=>lawA (lawS acc c) cs
theorem perm_zip{α β:Type}(g:α->β)(h:α->List β):∀c:List α,(c.map g++c.flatMap h).Perm (c.flatMap fun x=>g x :: h x)
 | []=>List.Perm.refl _
 | x :: c=>by
  rw[List.map_cons,List.flatMap_cons,List.flatMap_cons,List.cons_append,List.cons_append]
  refine List.Perm.cons _ ?_
  rw[<- List.append_assoc]
  refine (List.perm_append_comm.append_right _).trans ?_
  rw[List.append_assoc]
  exact (perm_zip g h c).append_left _
theorem perm_swap{α β γ:Type}(f:α->β->γ)(c:List β):∀acc:List α,(c.flatMap fun x=>acc.map fun p=>f p x).Perm (acc.flatMap fun p=>c.map fun x=>f p x)
 | []=>by simp
 | a :: acc=>by
  rw[List.flatMap_cons]
  exact (perm_zip (f a) (fun x=>acc.map fun p=>f p x) c).symm.trans ((perm_swap f c acc).append_left _)
theorem lawA_perm:∀{cs acc acc':List (List Int)},acc.Perm acc'->(lawA acc cs).Perm (eachA acc' cs)
 | [],_,_,h=>h
 | c :: cs,acc,acc',h=>lawA_perm (cs:=cs) ((perm_swap (fun p x=>p++[x]) c acc).trans (h.flatMap_right _))
theorem lex_app:∀{a b:List Int} (x y:Int),a.length=b.length->HT.lexLt a b=true->HT.lexLt (a++[x]) (b++[y])=true
 | [],[],x,y,_,h=>by cases h
 | [],_ :: _,x,y,e,_=>by simp at e
 | _ :: _,[],x,y,e,_=>by simp at e
 | u :: a,v :: b,x,y,e,h=>by
  rw[List.cons_append,List.cons_append,HT.lexLt_cons]
  rw[HT.lexLt_cons]at h
  by_cases q:u=v
  ·rw[if_pos q]at h ⊢
   exact lex_app x y (by simpa using e) h
  ·rw[if_neg q]at h ⊢
   exact h
theorem lex_end:∀(a:List Int) {x y:Int},x < y->HT.lexLt (a++[x]) (a++[y])=true
 | [],x,y,h=>by
  show HT.lexLt [x] [y]=true
  rw[HT.lexLt_cons,if_neg (by omega)]
  exact decide_eq_true h
 | u :: a,x,y,h=>by
  rw[List.cons_append,List.cons_append,HT.lexLt_cons,if_pos rfl]
  exact lex_end a h
theorem eachA_sorted:∀{cs acc:List (List Int)}{n:Nat},acc.Pairwise (fun a b=>HT.lexLt a b=true)->(∀p∈acc,p.length=n)->(∀c∈cs,c.Pairwise (· < ·))->(eachA acc cs).Pairwise (fun a b=>HT.lexLt a b=true)
 | [],_,_,h,_,_=>h
 | c :: cs,acc,n,h,hn,hc=>by
  refine eachA_sorted (cs:=cs) (n:=n+1) ?_ ?_ fun d hd=>hc d (List.mem_cons_of_mem _ hd)
  ·rw[List.pairwise_flatMap]
   refine ⟨fun p hp=>?_,?_⟩
   ·rw[List.pairwise_map]
    exact (hc c List.mem_cons_self).imp fun h=>lex_end p h
   ·refine List.Pairwise.imp_of_mem (fun {a b} ha hb h=>?_) h
    intro x hx y hy
    obtain⟨u,_,rfl⟩:=List.mem_map.mp hx
    obtain⟨v,_,rfl⟩:=List.mem_map.mp hy
    exact lex_app u v (by rw[hn a ha,hn b hb]) h
  ·intro p hp
   obtain⟨q,hq,hx⟩:=List.mem_flatMap.mp hp
   obtain⟨x,_,rfl⟩:=List.mem_map.mp hx
   rw[List.length_append,hn q hq]
   rfl
theorem rng2_lt(a b:Int):(rng2 a b).Pairwise (· < ·):=by
 unfold rng2
 rw[List.pairwise_map]
 exact List.pairwise_lt_range.imp fun h=>by omega
theorem btw_sorted(lo hi:List Int):(btw lo hi).Pairwise (fun a b=>HT.lexLt b a=false):=by
 have h:=eachA_sorted (cs:=(lo.zip hi).map fun p=>rng2 p.1 p.2) (acc:=[[]]) (n:=0) (List.pairwise_singleton _ _) (by simp) fun c hc=>by
  obtain⟨p,_,rfl⟩:=List.mem_map.mp hc
  exact rng2_lt _ _
 refine List.Pairwise.imp (fun {a b} h=>?_) h
 cases e:HT.lexLt b a
 ·rfl
 ·have:=SG.lex_wk.tr a b a h e
  rw[SG.lex_wk.irr]at this
  cases this
theorem lawA_len(cs acc:List (List Int)):(lawA acc cs).length=acc.length * lenP cs:=by
 rw[<- eachA_len]
 exact (lawA_perm (List.Perm.refl acc)).length_eq
theorem rng2_len(a b:Int):(rng2 a b).length=(b+1 - a).toNat:=by simp[rng2]
noncomputable def snocD(x:Int):PyData->PyData
 | .tuple l=>.tuple (l++[.int x])
 | _=>.none
theorem noMut_tup(p:List Int):noMut (tupD p)=true:=by
 show noMutAll (p.map PyData.int)=true
 exact noMutAll_ints p
theorem noMutAll_tups:∀ps:List (List Int),noMutAll (ps.map tupD)=true
 | []=>rfl
 | p :: ps=>by
  show (noMut (tupD p)&&noMutAll (ps.map tupD))=true
  rw[noMut_tup,noMutAll_tups ps]
  rfl
noncomputable abbrev prD2(p:Int×Int):PyData:=.tuple [.int p.1,.int p.2]
section
variable {P:Program}{w:World}{K:PySem.W.Frag}{mg:Str->Option Value}{base:Heap}
noncomputable def cLPl:Con:=fun args Q=>∃(A B:PyData) (lo hi:List Int),args=[.fz A,.fz B]/\seqD A=some (lo.map PyData.int)/\seqD B=some (hi.map PyData.int)/\lo.length=hi.length/\lo.length<=3/\1<=lo.length/\(∀p∈lo.zip hi,0<=p.1/\p.1<=p.2/\p.2<=1000)/\lenP ((lo.zip hi).map fun p=>rng2 p.1 p.2)<=1000/\∀o,Q (.ow (.list ((btw lo hi).map tupD))) o
theorem scLPl:FnScope ["_law_low","_law_high","_law_found","_law_first","_law_last","_law_longer","_law_one"] ["_law_low","_law_high"] (defScope (top 36)):=⟨rfl,rfl,rfl,by decide +kernel,rfl,by decide +kernel,by decide +kernel⟩
theorem ok_lpl{f:Addr}{fd:FuncData}(F:Fun K "_law_places" "_law_places" (top 36) f fd)(T:Txt mg):FnOk P w K mg base CX0 1 f fd ["_law_low","_law_high"] (conSp K cLPl):=by
 have S:=scLPl
 refine wfn F S (fun cdv A outer s H E hr=>(s_cons (s_set (i:=2) S.nd rfl (Or.inl rfl) (w_lst (wa_cons (wx (w_tup wa_nil)) wa_nil)))
     (s_cons (s_for [3,4,5,6] PassesOwn.never rfl (i_zip2 rfl T.zip_ (wa_cons (wn 0) (wa_cons (wn 1) wa_nil))) (g_tup rfl rfl (gs_cons (g_name (i:=3) S.nd rfl (Or.inl rfl)) (gs_cons (g_name (i:=4) S.nd rfl (Or.inl rfl)) gs_nil))) (s_cons (s_set (i:=5) S.nd rfl (Or.inl rfl) (w_lst wa_nil))
     (s_cons (s_for [6] PassesOwn.never rfl (i_rng2 T.range_ (wa_cons (wn 3) (wa_cons (wx (w_bin ok_add op_addD (wn 4) (wx w_int))) wa_nil))) (g_name (i:=6) S.nd rfl (Or.inr rfl)) (s_one (s_expr (w_m ok_extend rfl PySem.F.slot_list_extend PySem.F.type_list_extend mt_extend (wn 5) (wa_cons (wx (w_compN rfl rfl (own:=["_law_place"]) (fr:=[6]) (by kernel_rfl) (wn 2) (fun _ _ _ _=>(g_name (i:=0) (by decide +kernel:List.Nodup (["_law_place","_law_one"]:List Str)) rfl (Or.inl rfl))) (fun _ _ _ _=>if0) (fun _ _ _ _=>(w_bin ok_add op_addD (wn 0) (wx (w_tup (wa_cons (wx (wv 1)) wa_nil))))))) wa_nil)))))
     (s_one (s_move (i:=2) S.nd rfl (Or.inl rfl) (wn 5))))))
     (s_one (s_ret (w_callB ok_sortT (call_sortTK rfl) T.sorted_ boot_sorted (wa_cons (wn 2) wa_nil))))))) ?_ ?_
 ·rintro args Qd ⟨A,B,lo,hi,rfl,_⟩;rfl
 ·rintro args Qd ⟨A,B,lo,hi,rfl,hA,hB,hle,h3,h1,hin,hm,q⟩
  refine ⟨noOw_of rfl,?_⟩
  refine cutS (fun ρ=>ρ=[some (.fz A),some (.fz B),some (.ow (.list [.tuple []])),none,none,none,none]) (fun N hN=>hN _ rfl) ?_
  rintro ρ rfl
  refine forZ_of rfl rfl hA hB ?_
  show dLoopC _ _ _ _ (zipD (lo.map PyData.int) (hi.map PyData.int)) _
  rw[zipD_ints]
  refine loopC (fun rest ρ=>∃(acc:List (List Int)) (rs:List (Int×Int)),ρ=[some (.fz A),some (.fz B),some (.ow (.list (acc.map tupD))),none,none,none,none]/\rest=rs.map prD2/\(∀p∈rs,0<=p.1/\p.1<=p.2/\p.2<=1000) /\
      lawA acc (rs.map fun p=>rng2 p.1 p.2)=lawA [[]] ((lo.zip hi).map fun p=>rng2 p.1 p.2)/\(∀p∈acc,p.length+rs.length=lo.length)) ?_ ?_
   ⟨[[]],lo.zip hi,rfl,rfl,hin,rfl,fun p hp=>by simp at hp;subst hp;simp[hle]⟩
  ·rintro d ds ρ ⟨acc,rs,rfl,er,hr1,hacc,hl3⟩ N hN
   cases rs with
   | nil=>cases er
   | cons a rs =>
    cases er
    have ha1:=hr1 a List.mem_cons_self
    have hr2:∀c∈rs,0<=c.1/\c.1<=c.2/\c.2<=1000:=fun c hc=>hr1 c (List.mem_cons_of_mem _ hc)
    have hlp:=lenP_pos (cs:=rs.map fun p=>rng2 p.1 p.2) fun c hc=>by
     obtain⟨x,hx,rfl⟩:=List.mem_map.mp hc
     intro z
     have:=congrArg List.length z
     rw[rng2_len]at this
     have:=hr2 x hx
     simp at *
     omega
    have htot:(lawS acc (rng2 a.1 a.2)).length<=1000:=by
     have h1:=lawA_len (rs.map fun p=>rng2 p.1 p.2) (lawS acc (rng2 a.1 a.2))
     have h2:lawA (lawS acc (rng2 a.1 a.2)) (rs.map fun p=>rng2 p.1 p.2)=_:=hacc
     rw[h2,lawA_len,List.length_singleton,Nat.one_mul]at h1
     have:(lawS acc (rng2 a.1 a.2)).length<=(lawS acc (rng2 a.1 a.2)).length * lenP (rs.map fun p=>rng2 p.1 p.2):=Nat.le_mul_of_pos_right _ hlp
     omega
    refine ⟨rfl,?_⟩
    refine ⟨⟨by omega,by omega,by omega,by omega⟩,?_⟩
    show dLoopC _ _ _ _ (rangeD a.1 (a.2+1 - a.1).toNat) _
    rw[rangeD_rng2]
    refine loopC (fun rest ρ=>∃(lg:List (List Int)) (rc:List Int),ρ=[some (.fz A),some (.fz B),some (.ow (.list (acc.map tupD))),some (.fz (.int a.1)),some (.fz (.int a.2)),some (.ow (.list (lg.map tupD))),none]/\rest=rc.map PyData.int/\lg++lawS acc rc=lawS acc (rng2 a.1 a.2)) ?_ ?_
     ⟨[],rng2 a.1 a.2,rfl,rfl,rfl⟩
    ·rintro d ds ρ ⟨lg,rc,rfl,er,he⟩ M hM
     cases rc with
     | nil=>cases er
     | cons x rc =>
      cases er
      have hl5:lg.length+acc.length<=1000:=by
       have:=congrArg List.length he
       have e2:lawS acc (x :: rc)=(acc.map fun p=>p++[x])++lawS acc rc:=by unfold lawS;rw[List.flatMap_cons]
       rw[e2,List.length_append,List.length_append,List.length_map]at this
       omega
      have ez:(acc.map tupD).map (snocD x)=(acc.map fun p=>p++[x]).map tupD:=by
       rw[List.map_map,List.map_map]
       exact List.map_congr_left fun p _=>by simp[snocD,tupD]
      refine ⟨rfl,by rw[List.length_map];exact le_size (by omega),mapC (snocD x) ?_ ?_⟩
      ·intro d hd R hR
       obtain⟨p,hp,rfl⟩:=List.mem_map.mp hd
       have:=hl3 p hp
       exact ⟨by simp only[List.length_map,List.length_singleton];exact le_size (by simp at this;omega),hR⟩
      ·rw[ez]
       refine ⟨noMutAll_tups _,by rw[List.length_map,List.length_map,List.length_map];exact le_size (by omega),?_⟩
       refine hM _ ⟨lg++acc.map fun p=>p++[x],rc,by rw[List.map_append];rfl,rfl,?_⟩
       rw[<- he,List.append_assoc]
       congr 1
    ·rintro ρ ⟨lg,rc,rfl,er,he⟩
     cases rc with
     | cons p rp=>cases er
     | nil =>
      have he:lg=lawS acc (rng2 a.1 a.2):=by simpa [lawS]using he
      refine hN _ ⟨lawS acc (rng2 a.1 a.2),rs,?_,rfl,hr2,hacc,fun p hp=>?_⟩
      ·rw[he];rfl
      ·obtain⟨x,_,hx⟩:=List.mem_flatMap.mp hp
       obtain⟨p',hp',rfl⟩:=List.mem_map.mp hx
       have:=hl3 p' hp'
       simp at this ⊢
       omega
  ·rintro ρ ⟨acc,rs,rfl,er,hr1,hacc,hl3⟩
   cases rs with
   | cons a rs=>cases er
   | nil =>
    have hacc:acc=lawA [[]] ((lo.zip hi).map fun p=>rng2 p.1 p.2):=hacc
    have pm:acc.Perm (btw lo hi):=by rw[hacc];exact lawA_perm (List.Perm.refl _)
    refine ⟨acc,rfl,?_,fun r hr=>?_,fun rows r1 r2=>?_⟩
    ·rw[hacc,lawA_len,List.length_singleton,Nat.one_mul]
     exact Nat.le_trans hm (by decide)
    ·intro z
     have:=hl3 r hr
     subst z
     simp at this
     omega
    ·rw[SG.sorted_uniq (fun a b=>SG.lex_eq) (r1.trans pm) r2 (btw_sorted lo hi)]
     exact q _
end
section
variable {P:Program}{w:World}{K:PySem.W.Frag}{mg:Str->Option Value}{base:Heap}
noncomputable abbrev cSame0:Con:=cSame 0
noncomputable abbrev cSame1:Con:=cSame 1
noncomputable abbrev cSame2:Con:=cSame 2
noncomputable abbrev cSame3:Con:=cSame 3
theorem ok_same0{f:Addr}{fd:FuncData}(F:Fun K "_law_same" "_law_same" (top 33) f fd):FnOk P w K mg base CX0 1 f fd ["_law_found","_law_due"] (conSp K cSame0):=⟨fun _ _ _ _ ⟨_,_,_,_,_,h,_⟩=>h.elim,fun _ _ _ _ _ _ _ _ _ _ _ _ _ ⟨_,_,_,_,_,h,_⟩=>h.elim⟩
structure CalsSa(P:Program)(w:World)(K:PySem.W.Frag)(mg:Str->Option Value)(base:Heap):Prop where
 law_same:Cal P w K mg base 1 "_law_same" ["_law_found","_law_due"] (conSp K cSame0)
theorem ok_same1{f:Addr}{fd:FuncData}(F:Fun K "_law_same" "_law_same" (top 33) f fd)(T:Txt mg)(C:CalsSa P w K mg base):FnOk P w K mg base CX0 2 f fd ["_law_found","_law_due"] (conSp K cSame1):=ok_sameG F T ⟨C.law_same⟩
structure CalsSb(P:Program)(w:World)(K:PySem.W.Frag)(mg:Str->Option Value)(base:Heap):Prop where
 law_same:Cal P w K mg base 2 "_law_same" ["_law_found","_law_due"] (conSp K cSame1)
theorem ok_same2{f:Addr}{fd:FuncData}(F:Fun K "_law_same" "_law_same" (top 33) f fd)(T:Txt mg)(C:CalsSb P w K mg base):FnOk P w K mg base CX0 3 f fd ["_law_found","_law_due"] (conSp K cSame2):=ok_sameG F T ⟨C.law_same⟩
structure CalsSc(P:Program)(w:World)(K:PySem.W.Frag)(mg:Str->Option Value)(base:Heap):Prop where
 law_same:Cal P w K mg base 3 "_law_same" ["_law_found","_law_due"] (conSp K cSame2)
theorem ok_same3{f:Addr}{fd:FuncData}(F:Fun K "_law_same" "_law_same" (top 33) f fd)(T:Txt mg)(C:CalsSc P w K mg base):FnOk P w K mg base CX0 4 f fd ["_law_found","_law_due"] (conSp K cSame3):=ok_sameG F T ⟨C.law_same⟩
structure CalsSd(P:Program)(w:World)(K:PySem.W.Frag)(mg:Str->Option Value)(base:Heap):Prop where
 law_same:Cal P w K mg base 4 "_law_same" ["_law_found","_law_due"] (conSp K cSame3)
structure CalsAl(P:Program)(w:World)(K:PySem.W.Frag)(mg:Str->Option Value)(base:Heap):Prop where
 law_places:Cal P w K mg base 1 "_law_places" ["_law_low","_law_high"] (conSp K cLPl)
noncomputable def cAllL:Con:=fun args Q=>∃(A:PyData) (sd:List Int),args=[.fz A]/\(A=.list (sd.map PyData.int)\/A=tupD sd)/\Sd sd/\∀o,Q (.ow (.list ((plc sd).map tupD))) o
theorem scAll:FnScope ["_law_sides_here"] ["_law_sides_here"] (defScope (top 37)):=⟨rfl,rfl,rfl,by decide +kernel,rfl,by decide +kernel,by decide +kernel⟩
theorem ok_all_{f:Addr}{fd:FuncData}(F:Fun K "_law_all" "_law_all" (top 37) f fd)(T:Txt mg)(C:CalsAl P w K mg base):FnOk P w K mg base CX0 2 f fd ["_law_sides_here"] (conSp K cAllL):=by
 have S:=scAll
 refine wfn F S (fun cdv A outer s H E hr=>(s_one (s_ret (w_fn C.law_places (hr.mono (by first|decide|omega)) (wa_cons (wx (w_comp rfl (own:=["_law_side"]) (fr:=[]) (by kernel_rfl) (i_seq rfl (wv 0)) (fun _ _ _ _=>(g_name (i:=0) (by decide +kernel:List.Nodup (["_law_side"]:List Str)) rfl (Or.inl rfl))) (fun _ _ _ _=>if0) (fun _ _ _ _=>w_int))) (wa_cons (wx (w_comp rfl (own:=["_law_side"]) (fr:=[]) (by kernel_rfl) (i_seq rfl (wv 0)) (fun _ _ _ _=>(g_name (i:=0) (by decide +kernel:List.Nodup (["_law_side"]:List Str)) rfl (Or.inl rfl))) (fun _ _ _ _=>if0) (fun _ _ _ _=>(w_bin ok_sub op_sub (wn 0) (wx w_int))))) wa_nil)))))) ?_ ?_
 ·rintro args Qd ⟨A,sd,rfl,_⟩;rfl
 ·rintro args Qd ⟨A,sd,rfl,hA,hsd,q⟩
  have h3:=hsd.l3
  have h1:=hsd.l1
  have hks:(sd.map PyData.int).length=sd.length:=List.length_map ..
  rcases hA with rfl|rfl
  all_goals
   refine ⟨noOw_of rfl,?_⟩
   refine ⟨by rw[hks];exact le_size (by omega),mapC (fun _=>.int 0) (fun d hd R hR=>hR) ?_⟩
   refine ⟨by rw[hks];exact le_size (by omega),mapC (fun d=>match d with | .int i=>.int (i - 1)|_=>.none) ?_ ?_⟩
   ·intro d hd R hR
    obtain⟨i,_,rfl⟩:=List.mem_map.mp hd
    exact hR
   have e:((sd.map fun _=>(0:Int)).zip (sd.map fun s=>s - 1)).map (fun p=>rng2 p.1 p.2)=sd.map rng:=by
    rw[zip_zero,List.map_map]
    exact List.map_congr_left fun s _=>rng2_zero s
   refine ⟨_,_,sd.map fun _=>0,sd.map fun s=>s - 1,rfl,?_,?_,by simp,by simpa using h3,by simpa using h1,fun p hp=>?_,?_,fun o3=>?_⟩
   ·simp only[List.map_map]
    rfl
   ·simp only[List.map_map]
    rfl
   ·rw[zip_zero]at hp
    obtain⟨s,hs,rfl⟩:=List.mem_map.mp hp
    have h1:=hsd.p s hs
    have h2:=le_prodI hsd.p s hs
    have:=hsd.m
    exact ⟨by show (0:Int)<=0;decide,by show (0:Int)<=s - 1;omega,by show s - 1<=1000;omega⟩
   ·rw[e]
    have h1:=lenP_rng hsd.p
    have:=hsd.m
    omega
   ·unfold btw
    rw[e]
    exact q _
end
theorem plc_nodup{sd:List Int}(hp:∀c∈sd,1<=c):(plc sd).Nodup:=by
 rw[List.nodup_iff_pairwise_ne,List.pairwise_iff_getElem]
 intro i j hi hj hij e
 have h1:=plc_at hp (k:=i) (p:=(plc sd)[i]) (by simp[hi])
 have h2:=plc_at hp (k:=j) (p:=(plc sd)[j]) (by simp[hj])
 rw[e]at h1
 have:=h1.2.symm.trans h2.2
 omega
theorem each_in2{α:Type}:∀{cs acc:List (List α)}{a q:List α},a∈acc->InW q cs->a++q∈eachA acc cs
 | [],acc,a,[],ha,_=>by simpa [eachA]using ha
 | [],_,_,_ :: _,_,h=>h.elim
 | _ :: _,_,_,[],_,h=>h.elim
 | c :: cs,acc,a,x :: q,ha,h=>by
  have:=each_in2 (cs:=cs) (acc:=acc.flatMap fun p=>c.map fun x=>p++[x]) (a:=a++[x]) (q:=q) (List.mem_flatMap.mpr ⟨a,ha,List.mem_map.mpr ⟨x,h.1,rfl⟩⟩) h.2
  simpa [eachA]using this
theorem rng_mem{x s:Int}(h0:0<=x)(h1:x < s):x∈rng s:=List.mem_map.mpr ⟨x.toNat,List.mem_range.mpr (by omega),by omega⟩
theorem wi_inW:∀{p sd:List Int},Wi p sd->InW p (sd.map rng)
 | [],[],_=>trivial
 | [],_ :: _,h=>h.elim
 | _ :: _,[],h=>h.elim
 | x :: p,s :: sd,h=>⟨rng_mem h.1.1 h.1.2,wi_inW h.2⟩
theorem wi_mem{p sd:List Int}(h:Wi p sd):p∈plc sd:=each_in2 (a:=[]) (by simp) (wi_inW h)
noncomputable abbrev fldD(sd cl:List Int):PyData:=.tuple [tupD sd,tupD cl]
noncomputable def cel(sd cl p:List Int):Int:=cl.getD (idx sd p).toNat 0
section
variable {P:Program}{w:World}{K:PySem.W.Frag}{mg:Str->Option Value}{base:Heap}
noncomputable def cNumber:Con:=fun args Q=>∃(ns:List Int) (k l:Int),args=[.io (penD ns k l)]/\0<=k/\0<=l/\∀(r k' l':Int) (o:Ev),0<=k'->0<=l'->Q (.fz (.int r)) (some (.io (penD ns k' l')) :: o)
theorem scNumber:FnScope ["_law_pen_here","_law_way"] ["_law_pen_here"] (defScope (top 34)):=⟨rfl,rfl,rfl,by decide +kernel,rfl,by decide +kernel,by decide +kernel⟩
theorem ok_number{f:Addr}{fd:FuncData}(F:Fun K "_law_number" "_law_number" (top 34) f fd)(T:Txt mg)(C:CalsB P w K mg base):FnOk P w K mg base CX0 2 f fd ["_law_pen_here"] (conSp K cNumber):=by
 have S:=scNumber
 refine wfn F S (fun cdv A outer s H E hr=>(s_cons (s_set (i:=1) S.nd rfl (Or.inl rfl) (w_fnI C.law_take (hr.mono (by first|decide|omega)) (wa_cons (wn 0) (wa_cons (wx w_int) wa_nil))))
     (s_cons (s_if (t_cmp ok_eq (op_eqE (K:=K) rfl hr.units) (wn 1) (wx w_int)) (s_one (s_ret (w_bin ok_mul op_mulD (wx (w_bin ok_sub op_sub (wx (w_bin ok_sub op_sub (wx (w_bin ok_pow op_pow (wx w_int) (wx w_int))) (wx w_int))) (wx (w_fnI C.law_take (hr.mono (by first|decide|omega)) (wa_cons (wn 0) (wa_cons (wx w_int) wa_nil)))))) (wx (w_bin ok_sub op_sub (wx w_int) (wx (w_bin ok_mul op_mulD (wx w_int) (wx (w_fnI C.law_take (hr.mono (by first|decide|omega)) (wa_cons (wn 0) (wa_cons (wx w_int) wa_nil))))))))))) s_nil)
     (s_cons (s_if (t_cmp ok_gt op_gt (wn 1) (wx w_int)) (s_one (s_ret (w_bin ok_sub op_sub (wx (w_fnI C.law_take (hr.mono (by first|decide|omega)) (wa_cons (wn 0) (wa_cons (wx w_int) wa_nil)))) (wx w_int)))) s_nil)
     (s_one (s_ret (w_bin ok_sub op_sub (wx (w_fnI C.law_take (hr.mono (by first|decide|omega)) (wa_cons (wn 0) (wa_cons (wx w_int) wa_nil)))) (wx w_int)))))))) ?_ ?_
 ·rintro args Qd ⟨ns,k,l,rfl,_⟩;rfl
 ·rintro args Qd ⟨ns,k,l,rfl,hk,hl,q⟩
  refine ⟨noOw_of rfl,?_⟩
  refine ⟨ns,k,l,_,rfl,hk,hl,by decide,by decide,fun r k1 l1 _ r0 r1 hk1 hl1=>?_⟩
  refine ite2 (fun h=>?_) (fun h=>?_)
  ·refine ⟨⟨by decide,by decide,by decide⟩,?_⟩
   refine ⟨ns,k1,l1,_,rfl,hk1,hl1,by decide,by decide,fun a k2 l2 _ a0 a1 hk2 hl2=>?_⟩
   refine ⟨ns,k2,l2,_,rfl,hk2,hl2,by decide,by decide,fun b k3 l3 _ b0 b1 hk3 hl3=>?_⟩
   refine ⟨.inl ⟨by decide,by decide⟩,.inr ⟨by omega,by omega⟩,?_⟩
   exact q _ _ _ _ hk3 hl3
  refine ite2 (fun h=>?_) (fun h=>?_)
  ·refine ⟨ns,k1,l1,_,rfl,hk1,hl1,by decide,by decide,fun a k2 l2 _ a0 a1 hk2 hl2=>?_⟩
   exact q _ _ _ _ hk2 hl2
  ·refine ⟨ns,k1,l1,_,rfl,hk1,hl1,by decide,by decide,fun a k2 l2 _ a0 a1 hk2 hl2=>?_⟩
   exact q _ _ _ _ hk2 hl2
structure CalsFd(P:Program)(w:World)(K:PySem.W.Frag)(mg:Str->Option Value)(base:Heap):Prop where
 law_sides:Cal P w K mg base 2 "_law_sides" ["_law_pen_here","_law_most"] (conSp K cSides)
 law_number:Cal P w K mg base 2 "_law_number" ["_law_pen_here"] (conSp K cNumber)
 law_all:Cal P w K mg base 2 "_law_all" ["_law_sides_here"] (conSp K cAllL)
noncomputable def cField:Con:=fun args Q=>∃(ns:List Int) (k l m:Int),args=[.io (penD ns k l),.fz (.int m)]/\0<=k/\0<=l/\1<=m/\m<=120 /\
 ∀(sd cl:List Int) (k' l':Int) (o:Ev),Sd sd->cl.length=(plc sd).length->0<=k'->0<=l'->Q (.fz (fldD sd cl)) (some (.io (penD ns k' l')) :: o)
theorem scField:FnScope ["_law_pen_here","_law_most","_law_sides_here"] ["_law_pen_here","_law_most"] (defScope (top 38)):=⟨rfl,rfl,rfl,by decide +kernel,rfl,by decide +kernel,by decide +kernel⟩
theorem ok_field{f:Addr}{fd:FuncData}(F:Fun K "_law_field" "_law_field" (top 38) f fd)(T:Txt mg)(C:CalsFd P w K mg base):FnOk P w K mg base CX0 3 f fd ["_law_pen_here","_law_most"] (conSp K cField):=by
 have S:=scField
 refine wfn F S (fun cdv A outer s H E hr=>(s_cons (s_set (i:=2) S.nd rfl (Or.inl rfl) (w_fnI C.law_sides (hr.mono (by first|decide|omega)) (wa_cons (wn 0) (wa_cons (wn 1) wa_nil))))
     (s_one (s_ret (w_tup (wa_cons (wx (w_callT ok_tuple (call_tupleK (K:=K) rfl) T.tuple_ boot_tuple (wa_cons (wn 2) wa_nil))) (wa_cons (wx (w_callT ok_tuple (call_tupleK (K:=K) rfl) T.tuple_ boot_tuple (wa_cons (wx (w_comp rfl (own:=["_law_place"]) (fr:=[0]) (by kernel_rfl) (i_seq rfl (w_fnL C.law_all (hr.mono (by first|decide|omega)) (wa_cons (wn 2) wa_nil))) (fun _ _ _ _=>(g_name (i:=0) (by decide +kernel:List.Nodup (["_law_place","_law_pen_here"]:List Str)) rfl (Or.inl rfl))) (fun _ _ _ _=>if0) (fun _ _ _ _=>(w_fnI C.law_number (hr.mono (by first|decide|omega)) (wa_cons (wn 1) wa_nil))))) wa_nil))) wa_nil))))))) ?_ ?_
 ·rintro args Qd ⟨ns,k,l,m,rfl,_⟩;rfl
 ·rintro args Qd ⟨ns,k,l,m,rfl,hk,hl,m1,m2,q⟩
  refine ⟨noOw_of rfl,?_⟩
  refine ⟨ns,k,l,m,rfl,hk,hl,m1,m2,fun sd k1 l1 _ hsd _ hk1 hl1=>?_⟩
  have hm:=hsd.m
  have hpl:=plc_len hsd.p
  refine ⟨_,sd,rfl,.inl rfl,hsd,fun _=>⟨noMutAll_tups _,?_⟩⟩
  refine ⟨by rw[List.length_map];exact le_size (by omega),compN (fun rest acc τ=>∃(cs:List Int) (k4 l4:Int),τ=[none,some (.io (penD ns k4 l4))]/\acc=cs.map PyData.int/\cs.length+rest.length=(plc sd).length/\0<=k4/\0<=l4) ?_ ?_
    ⟨[],k1,l1,rfl,rfl,by simp,hk1,hl1⟩⟩
  ·rintro d ds acc τ ⟨cs,k4,l4,rfl,rfl,hlen,hk4,hl4⟩ N hN
   refine ⟨ns,k4,l4,rfl,hk4,hl4,fun x k5 l5 _ hk5 hl5=>?_⟩
   exact hN _ _ ⟨cs++[x],k5,l5,rfl,by simp[Sl.d],by simp at hlen ⊢;omega,hk5,hl5⟩
  ·rintro acc τ ⟨cs,k4,l4,rfl,rfl,hlen,hk4,hl4⟩
   exact q sd cs k4 l4 _ hsd (by simpa using hlen) hk4 hl4
end
mutual
noncomputable def okD:PyData->Bool
 | .dict es=>notScr es
 | .list xs=>okAll xs
 | .tuple xs=>okAll xs
 | .none=>true
 | .bool _=>true
 | .int _=>true
 | .str _=>true
noncomputable def okAll:List PyData->Bool
 | []=>true
 | x :: xs=>okD x&&okAll xs
end
theorem okAll_mem:∀{xs:List PyData},okAll xs=true->∀d∈xs,okD d=true
 | [],_,d,h=>by simp at h
 | x :: xs,h,d,hd=>by
  simp[okAll]at h
  rcases List.mem_cons.mp hd with rfl|hd
  ·exact h.1
  ·exact okAll_mem h.2 d hd
theorem okAll_of:∀{xs:List PyData},(∀d∈xs,okD d=true)->okAll xs=true
 | [],_=>rfl
 | x :: xs,h=>by
  simp[okAll]
  exact ⟨h x List.mem_cons_self,okAll_of fun d hd=>h d (List.mem_cons_of_mem _ hd)⟩
noncomputable def isI:PyData->Bool
 | .int _=>true
 | _=>false
noncomputable def num1(s:Int):PyData->Bool
 | .int i=>decide (0<=i)&&decide (i < s)
 | _=>false
noncomputable def okZ:List PyData->List Int->Bool
 | d :: ds,s :: sd=>num1 s d&&okZ ds sd
 | _,_=>true
noncomputable def isPl(sd:List Int):PyData->Bool
 | .tuple ds=>decide (ds.length=sd.length)&&okZ ds sd
 | _=>false
theorem ints_of:∀{ds:List PyData},ds.all isI=true->∃ns:List Int,ds=ns.map PyData.int
 | [],_=>⟨[],rfl⟩
 | d :: ds,h=>by
  simp at h
  obtain⟨ns,e⟩:=ints_of (ds:=ds) (by simpa using h.2)
  cases d<;>simp[isI]at h
  rename_i i
  exact ⟨i :: ns,by rw[e];rfl⟩
theorem okZ_ints:∀{ds:List PyData}{sd:List Int},ds.length=sd.length->okZ ds sd=true->ds.all isI=true
 | [],_,_,_=>rfl
 | d :: ds,[],h,_=>by simp at h
 | d :: ds,s :: sd,h,k=>by
  simp[okZ]at k
  have:=okZ_ints (ds:=ds) (sd:=sd) (by simpa using h) k.2
  cases d<;>simp[num1]at k
  rename_i i
  show (isI (.int i)&&ds.all isI)=true
  rw[this];rfl
noncomputable def numZ(p:Int×Int):Bool:=decide (0<=p.1)&&decide (p.1 < p.2)
theorem okZ_zip:∀(ns sd:List Int),okZ (ns.map PyData.int) sd=((ns.zip sd).map numZ).all id
 | [],_=>by simp[okZ]
 | n :: ns,[]=>by simp[okZ]
 | n :: ns,s :: sd=>by simp[okZ,num1,numZ,okZ_zip ns sd]
noncomputable def leZ(ns ms:List Int):Bool:=((ns.zip ms).map fun p=>decide (p.1<=p.2)).all id
noncomputable def unI:PyData->Int
 | .int i=>i
 | _=>0
noncomputable def leD:PyData->PyData->Bool
 | .tuple xs,.tuple ys=>leZ (xs.map unI) (ys.map unI)
 | _,_=>false
theorem unI_int(ns:List Int):(ns.map PyData.int).map unI=ns:=by
 rw[List.map_map];exact List.map_id ns
noncomputable def isBx(sd:List Int):PyData->Bool
 | .tuple [a,b]=>isPl sd a&&isPl sd b&&leD a b
 | _=>false
theorem isPl_ints{sd:List Int}{d:PyData}(h:isPl sd d=true):∃ns:List Int,d=tupD ns/\ns.length=sd.length:=by
 cases d<;>simp[isPl]at h
 rename_i ds
 obtain⟨ns,e⟩:=ints_of (okZ_ints h.1 h.2)
 subst e
 exact ⟨ns,rfl,by simpa using h.1⟩
theorem isBx_len{sd:List Int}{xs:List PyData}(h:xs.length≠2):isBx sd (.tuple xs)=false:=by
 rcases xs with _|⟨a,_|⟨b,_|⟨c,xs⟩⟩⟩<;>first|rfl|simp at h
section
variable {P:Program}{w:World}{K:PySem.W.Frag}{mg:Str->Option Value}{base:Heap}
noncomputable def cWhole:Con:=fun args Q=>∃d,args=[.fz d]/\okD d=true/\∀o,Q (.fz (.bool (isI d))) o
theorem scWhole:FnScope ["thing"] ["thing"] (defScope (top 6)):=⟨rfl,rfl,rfl,by decide +kernel,rfl,by decide +kernel,by decide +kernel⟩
theorem ok_whole{f:Addr}{fd:FuncData}(F:Fun K "is_whole" "is_whole" (top 6) f fd)(T:Txt mg):FnOk P w K mg base CX0 1 f fd ["thing"] (conSp K cWhole):=by
 have S:=scWhole
 refine wfn F S (fun cdv A outer s H E hr=>(s_one (s_ret (w_and (w_isiA .int rfl T.isinstance_ T.int_ boot_int (wn 0)) (w_one (w_not (w_isiA .bl rfl T.isinstance_ T.bool_ boot_bool (wn 0)))))))) ?_ ?_
 ·rintro args Qd ⟨d,rfl,_⟩;rfl
 ·rintro args Qd ⟨d,rfl,hd,q⟩
  refine ⟨noOw_of rfl,?_⟩
  cases d with
  | dict es=>exact ⟨hd,q _⟩
  | int i=>exact q _
  | bool b=>exact q _
  | none=>exact q _
  | str x=>exact q _
  | list xs=>exact q _
  | tuple xs=>exact q _
structure CalsC(P:Program)(w:World)(K:PySem.W.Frag)(mg:Str->Option Value)(base:Heap):Prop where
 is_whole:Cal P w K mg base 1 "is_whole" ["thing"] (conSp K cWhole)
noncomputable def areW(n:Nat):PyData->Bool
 | .tuple ds=>decide (ds.length=n)&&ds.all isI
 | _=>false
noncomputable def cAreW:Con:=fun args Q=>∃(d:PyData) (n:Nat),args=[.fz d,.fz (.int n)]/\okD d=true/\n<=1000/\∀o,Q (.fz (.bool (areW n d))) o
theorem scAreW:FnScope ["thing","many"] ["thing","many"] (defScope (top 7)):=⟨rfl,rfl,rfl,by decide +kernel,rfl,by decide +kernel,by decide +kernel⟩
theorem ok_areW{f:Addr}{fd:FuncData}(F:Fun K "are_wholes" "are_wholes" (top 7) f fd)(T:Txt mg)(C:CalsC P w K mg base):FnOk P w K mg base CX0 2 f fd ["thing","many"] (conSp K cAreW):=by
 have S:=scAreW
 refine wfn F S (fun cdv A outer s H E hr=>(s_cons (s_if (t_w (t_or (t_not (t_val (w_isiA .tup rfl T.isinstance_ T.tuple_ boot_tuple (wn 0)))) (t_or1 (t_cmp ok_ne (op_neE (K:=K) rfl hr.units) (wx (w_callB ok_len (call_lenK (K:=K) rfl) T.len_ PySem.boot_len (wa_cons (wn 0) wa_nil))) (wn 1))))) (s_one (s_ret w_bl)) s_nil)
     (s_one (s_ret (w_callB ok_all (call_allK (K:=K) rfl rfl) T.all_ boot_all (wa_cons (wx (w_comp rfl (own:=["number"]) (fr:=[]) (by kernel_rfl) (i_seq rfl (wv 0)) (fun _ _ _ _=>(g_name (i:=0) (by decide +kernel:List.Nodup (["number"]:List Str)) rfl (Or.inl rfl))) (fun _ _ _ _=>if0) (fun _ _ _ _=>(w_fn C.is_whole (hr.mono (by first|decide|omega)) (wa_cons (wn 0) wa_nil))))) wa_nil)))))) ?_ ?_
 ·rintro args Qd ⟨d,n,rfl,_⟩;rfl
 ·rintro args Qd ⟨d,n,rfl,hd,hn,q⟩
  refine ⟨noOw_of rfl,?_⟩
  cases d with
  | dict es=>exact ⟨hd,q _⟩
  | int i=>exact q _
  | bool b=>exact q _
  | none=>exact q _
  | str x=>exact q _
  | list xs=>exact q _
  | tuple xs =>
   refine ite2 (fun h=>?_) (fun h=>?_)
   ·have h:¬(xs.length:Int)=n:=by simpa using h
    have e:areW n (.tuple xs)=false:=by simp[areW];intro z;omega
    rw[e]at q
    exact q _
   ·have h:(xs.length:Int)=n:=by simpa using h
    have hl:xs.length=n:=by omega
    refine ⟨le_size (by omega),mapC (fun d=>.bool (isI d)) ?_ ?_⟩
    ·intro d hd2 N hN
     exact ⟨d,rfl,okAll_mem (by simpa [okD]using hd) d hd2,fun o=>hN⟩
    ·refine ⟨xs.map isI,by rw[List.map_map];rfl,?_⟩
     have e:areW n (.tuple xs)=(xs.map isI).all id:=by simp[areW,hl]
     rw[<- e]
     exact q _
structure CalsD(P:Program)(w:World)(K:PySem.W.Frag)(mg:Str->Option Value)(base:Heap):Prop where
 are_wholes:Cal P w K mg base 2 "are_wholes" ["thing","many"] (conSp K cAreW)
noncomputable def cIsPlace:Con:=fun args Q=>∃(sd:List Int) (d:PyData),args=[.fz (tupD sd),.fz d]/\okD d=true/\sd.length<=1000/\∀o,Q (.fz (.bool (isPl sd d))) o
noncomputable def fNum:PyData->PyData
 | .tuple [.int a,.int b]=>.bool (numZ (a,b))
 | _=>.none
theorem scIsPlace:FnScope ["sides","thing"] ["sides","thing"] (defScope (top 14)):=⟨rfl,rfl,rfl,by decide +kernel,rfl,by decide +kernel,by decide +kernel⟩
theorem ok_isPlace{f:Addr}{fd:FuncData}(F:Fun K "is_place" "is_place" (top 14) f fd)(T:Txt mg)(C:CalsD P w K mg base):FnOk P w K mg base CX0 3 f fd ["sides","thing"] (conSp K cIsPlace):=by
 have S:=scIsPlace
 refine wfn F S (fun cdv A outer s H E hr=>(s_cons (s_if (t_not (t_val (w_fn C.are_wholes (hr.mono (by first|decide|omega)) (wa_cons (wn 1) (wa_cons (wx (w_callB ok_len (call_lenK (K:=K) rfl) T.len_ PySem.boot_len (wa_cons (wn 0) wa_nil))) wa_nil))))) (s_one (s_ret w_bl)) s_nil)
     (s_one (s_ret (w_callB ok_all (call_allK (K:=K) rfl rfl) T.all_ boot_all (wa_cons (wx (w_comp rfl (own:=["number","side"]) (fr:=[]) (by kernel_rfl) (i_zip2 rfl T.zip_ (wa_cons (wn 1) (wa_cons (wn 0) wa_nil))) (fun _ _ _ _=>(g_tup rfl rfl (gs_cons (g_name (i:=0) (by decide +kernel:List.Nodup (["number","side"]:List Str)) rfl (Or.inl rfl)) (gs_cons (g_name (i:=1) (by decide +kernel:List.Nodup (["number","side"]:List Str)) rfl (Or.inl rfl)) gs_nil)))) (fun _ _ _ _=>if0) (fun _ _ _ _=>(w_chain op_le op_lt (wx w_int) (wn 0) (wn 1))))) wa_nil)))))) ?_ ?_
 ·rintro args Qd ⟨sd,d,rfl,_⟩;rfl
 ·rintro args Qd ⟨sd,d,rfl,hd,hn,q⟩
  refine ⟨noOw_of rfl,?_⟩
  refine ⟨d,sd.length,by rw[List.length_map];rfl,hd,hn,fun o=>?_⟩
  cases ha:areW sd.length d with
  | false =>
   have e:isPl sd d=false:=by
    cases d<;>first|rfl|skip
    rename_i ds
    simp[areW]at ha
    by_cases h:ds.length=sd.length
    ·cases hz:okZ ds sd with
     | false=>simp[isPl,hz]
     | true =>
      have:=okZ_ints h hz
      exact absurd this (by simpa using ha h)
    ·simp[isPl,h]
   rw[e]at q
   exact q _
  | true =>
   cases d<;>simp[areW]at ha
   rename_i ds
   obtain⟨hl,hi⟩:=ha
   obtain⟨ns,rfl⟩:=ints_of (ds:=ds) (by simpa using hi)
   have hz:zipD (ns.map PyData.int) (sd.map PyData.int)=(ns.zip sd).map fun p=>PyData.tuple [.int p.1,.int p.2]:=zipD_ints ns sd
   have hln:ns.length=sd.length:=by simpa using hl
   refine ⟨by rw[hz,List.length_map,List.length_zip];exact le_size (by omega),mapC fNum ?_ ?_⟩
   ·intro d hd2 N hN
    rw[hz]at hd2
    obtain⟨⟨a,b⟩,_,rfl⟩:=List.mem_map.mp hd2
    have hN:N (.bool (numZ (a,b))) _:=hN
    refine ⟨rfl,?_⟩
    refine ite2 (fun h=>?_) (fun h=>?_)
    ·have e:numZ (a,b)=decide (a < b):=by
      have h:decide (0<=a)=true:=h
      simp[numZ,of_decide_eq_true h]
     rw[e]at hN
     exact hN
    ·have e:numZ (a,b)=false:=by
      have h:¬decide (0<=a)=true:=h
      simp[numZ]
      intro z
      exact absurd (decide_eq_true z) h
     rw[e]at hN
     exact hN
   ·rw[hz,List.map_map]
    refine ⟨(ns.zip sd).map numZ,by rw[List.map_map];rfl,?_⟩
    have e:isPl sd (.tuple (ns.map PyData.int))=((ns.zip sd).map numZ).all id:=by
     rw[<- okZ_zip]
     simp[isPl,hln]
    rw[<- e]
    exact q _
structure CalsE(P:Program)(w:World)(K:PySem.W.Frag)(mg:Str->Option Value)(base:Heap):Prop where
 is_place:Cal P w K mg base 3 "is_place" ["sides","thing"] (conSp K cIsPlace)
noncomputable def cIsBox:Con:=fun args Q=>∃(sd:List Int) (d:PyData),args=[.fz (tupD sd),.fz d]/\okD d=true/\sd.length<=1000/\∀o,Q (.fz (.bool (isBx sd d))) o
noncomputable def fLe:PyData->PyData
 | .tuple [.int a,.int b]=>.bool (decide (a<=b))
 | _=>.none
theorem scIsBox:FnScope ["sides","thing"] ["sides","thing"] (defScope (top 15)):=⟨rfl,rfl,rfl,by decide +kernel,rfl,by decide +kernel,by decide +kernel⟩
theorem ok_isBox{f:Addr}{fd:FuncData}(F:Fun K "is_box" "is_box" (top 15) f fd)(T:Txt mg)(C:CalsE P w K mg base):FnOk P w K mg base CX0 4 f fd ["sides","thing"] (conSp K cIsBox):=by
 have S:=scIsBox
 refine wfn F S (fun cdv A outer s H E hr=>(s_cons (s_if (t_w (t_or (t_not (t_val (w_isiA .tup rfl T.isinstance_ T.tuple_ boot_tuple (wn 1)))) (t_or1 (t_cmp ok_ne (op_neE (K:=K) rfl hr.units) (wx (w_callB ok_len (call_lenK (K:=K) rfl) T.len_ PySem.boot_len (wa_cons (wn 1) wa_nil))) (wx w_int))))) (s_one (s_ret w_bl)) s_nil)
     (s_cons (s_if (t_w (t_or (t_not (t_val (w_fn C.is_place (hr.mono (by first|decide|omega)) (wa_cons (wn 0) (wa_cons (wx (w_ix rfl (wn 1) (wx w_int))) wa_nil))))) (t_or1 (t_not (t_val (w_fn C.is_place (hr.mono (by first|decide|omega)) (wa_cons (wn 0) (wa_cons (wx (w_ix rfl (wn 1) (wx w_int))) wa_nil)))))))) (s_one (s_ret w_bl)) s_nil)
     (s_one (s_ret (w_callB ok_all (call_allK (K:=K) rfl rfl) T.all_ boot_all (wa_cons (wx (w_comp rfl (own:=["first","last"]) (fr:=[]) (by kernel_rfl) (i_zip2 rfl T.zip_ (wa_cons (wx (w_ix rfl (wn 1) (wx w_int))) (wa_cons (wx (w_ix rfl (wn 1) (wx w_int))) wa_nil))) (fun _ _ _ _=>(g_tup rfl rfl (gs_cons (g_name (i:=0) (by decide +kernel:List.Nodup (["first","last"]:List Str)) rfl (Or.inl rfl)) (gs_cons (g_name (i:=1) (by decide +kernel:List.Nodup (["first","last"]:List Str)) rfl (Or.inl rfl)) gs_nil)))) (fun _ _ _ _=>if0) (fun _ _ _ _=>(w_cmp ok_le op_le (wn 0) (wn 1))))) wa_nil))))))) ?_ ?_
 ·rintro args Qd ⟨sd,d,rfl,_⟩;rfl
 ·rintro args Qd ⟨sd,d,rfl,hd,hn,q⟩
  refine ⟨noOw_of rfl,?_⟩
  cases d with
  | dict es=>exact ⟨hd,q _⟩
  | int i=>exact q _
  | bool b=>exact q _
  | none=>exact q _
  | str x=>exact q _
  | list xs=>exact q _
  | tuple xs =>
   refine ite2 (fun h=>?_) (fun h=>?_)
   ·have h:¬(xs.length:Int)=2:=by simpa using h
    rw[isBx_len (by omega)]at q
    exact q _
   ·have h:(xs.length:Int)=2:=by simpa using h
    obtain⟨a,b,rfl⟩:∃a b,xs=[a,b]:=by
     rcases xs with _|⟨a,_|⟨b,_|⟨c,xs⟩⟩⟩
     ·simp at h
     ·simp at h
     ·exact ⟨a,b,rfl⟩
     ·simp at h;omega
    have hab:okD a=true/\okD b=true:=by simpa [okD,okAll]using hd
    refine ⟨a,rfl,sd,a,rfl,hab.1,hn,fun o=>?_⟩
    cases ha:isPl sd a with
    | false =>
     have e:isBx sd (.tuple [a,b])=false:=by simp[isBx,ha]
     rw[e]at q
     exact q _
    | true =>
     refine ⟨b,rfl,sd,b,rfl,hab.2,hn,fun o=>?_⟩
     cases hb:isPl sd b with
     | false =>
      have e:isBx sd (.tuple [a,b])=false:=by simp[isBx,hb]
      rw[e]at q
      exact q _
     | true =>
      obtain⟨ns,rfl,hns⟩:=isPl_ints ha
      obtain⟨ms,rfl,hms⟩:=isPl_ints hb
      have hz:=zipD_ints ns ms
      refine ⟨tupD ns,rfl,tupD ms,rfl,by rw[hz,List.length_map,List.length_zip];exact le_size (by omega),mapC fLe ?_ ?_⟩
      ·intro d hd2 N hN
       rw[hz]at hd2
       obtain⟨⟨a,b⟩,_,rfl⟩:=List.mem_map.mp hd2
       exact ⟨rfl,hN⟩
      ·rw[hz,List.map_map]
       refine ⟨(ns.zip ms).map fun p=>decide (p.1<=p.2),by rw[List.map_map];rfl,?_⟩
       have e:isBx sd (.tuple [tupD ns,tupD ms])=((ns.zip ms).map fun p=>decide (p.1<=p.2)).all id:=by
        simp only[isBx,ha,hb,Bool.true_and]
        show leZ ((ns.map PyData.int).map unI) ((ms.map PyData.int).map unI)=_
        rw[unI_int,unI_int];rfl
       rw[<- e]
       exact q _
end
theorem eachA_map{α β:Type}(f:α->β):∀(cs acc:List (List α)),(eachA acc cs).map (List.map f)=eachA (acc.map (List.map f)) (cs.map (List.map f))
 | [],acc=>rfl
 | c :: cs,acc=>by
  show (eachA (acc.flatMap fun p=>c.map fun x=>p++[x]) cs).map (List.map f)=eachA ((acc.map (List.map f)).flatMap fun p=>(c.map f).map fun x=>p++[x]) (cs.map (List.map f))
  rw[eachA_map f cs]
  congr 1
  rw[List.map_flatMap,List.flatMap_map]
  congr 1
  funext p
  simp[List.map_map,Function.comp_def]
section
variable {P:Program}{w:World}{K:PySem.W.Frag}{mg:Str->Option Value}{base:Heap}
noncomputable def cEach:Con:=fun args Q=>∃cs:List (List PyData),args=[.fz (.list (cs.map PyData.list))]/\(∀c∈cs,c≠[])/\lenP cs<=1000/\cs.length<=1000/\∀o,Q (.ow (.list ((eachA [[]] cs).map PyData.tuple))) o
theorem scEach:FnScope ["choices","chosen","things","longer","ahead","thing"] ["choices"] (defScope (top 9)):=⟨rfl,rfl,rfl,by decide +kernel,rfl,by decide +kernel,by decide +kernel⟩
theorem ok_each{f:Addr}{fd:FuncData}(F:Fun K "one_of_each" "one_of_each" (top 9) f fd):FnOk P w K mg base CX0 1 f fd ["choices"] (conSp K cEach):=by
 have S:=scEach
 refine wfn F S (fun cdv A outer s H E hr=>(s_cons (s_set (i:=1) S.nd rfl (Or.inl rfl) (w_lst (wa_cons (wx (w_tup wa_nil)) wa_nil)))
     (s_cons (s_for [2,3,4] PassesOwn.never rfl (i_seq rfl (wv 0)) (g_name (i:=2) S.nd rfl (Or.inl rfl)) (s_cons (s_set (i:=3) S.nd rfl (Or.inl rfl) (w_lst wa_nil))
     (s_cons (s_for [4,5] PassesOwn.never rfl (i_seq rfl (wv 1)) (g_name (i:=4) S.nd rfl (Or.inl rfl)) (s_one (s_for [5] PassesOwn.never rfl (i_seq rfl (wv 2)) (g_name (i:=5) S.nd rfl (Or.inl rfl)) (s_one (s_expr (w_m ok_append rfl PySem.F.slot_list_append PySem.F.type_list_append mt_append (wn 3) (wa_cons (wx (w_bin ok_add op_addD (wn 4) (wx (w_tup (wa_cons (wx (wv 5)) wa_nil))))) wa_nil)))))))
     (s_one (s_move (i:=1) S.nd rfl (Or.inl rfl) (wn 3))))))
     (s_one (s_retV (wn 1)))))) ?_ ?_
 ·rintro args Qd ⟨cs,rfl,_⟩;rfl
 ·rintro args Qd ⟨cs,rfl,hne,hlen,hcl,q⟩
  refine ⟨noOw_of rfl,?_⟩
  refine loopC (fun rest ρ=>∃(acc rs:List (List PyData)),ρ=[some (.fz (.list (cs.map PyData.list))),some (.ow (.list (acc.map PyData.tuple))),none,none,none,none]/\rest=rs.map PyData.list/\(∀c∈rs,c≠[])/\acc.length * lenP rs=lenP cs/\eachA acc rs=eachA [[]] cs/\(∀p∈acc,p.length+rs.length<=1000)) ?_ ?_
   ⟨[[]],cs,rfl,rfl,hne,by simp,rfl,fun p hp=>by simp at hp;subst hp;simpa using hcl⟩
  ·rintro d ds ρ ⟨acc,rs,rfl,er,hne',hln,hacc,hpl⟩ N hN
   cases rs with
   | nil=>cases er
   | cons c rs =>
    cases er
    have hr2:∀c∈rs,c≠[]:=fun c hc=>hne' c (List.mem_cons_of_mem _ hc)
    have hlp:=lenP_pos hr2
    have htot:(acc.flatMap fun p=>c.map fun x=>p++[x]).length<=1000:=by
     rw[flat_len]
     have h1:acc.length * (c.length * lenP rs)=lenP cs:=hln
     rw[<- Nat.mul_assoc]at h1
     have:acc.length * c.length<=acc.length * c.length * lenP rs:=Nat.le_mul_of_pos_right _ hlp
     omega
    refine loopC (fun rest ρ=>∃(lg rp:List (List PyData)),ρ=[some (.fz (.list (cs.map PyData.list))),some (.fz (.list (acc.map PyData.tuple))),some (.fz (.list c)),some (.ow (.list (lg.map PyData.tuple))),none,none]/\rest=rp.map PyData.tuple/\(lg++rp.flatMap fun p=>c.map fun x=>p++[x])=(acc.flatMap fun p=>c.map fun x=>p++[x])/\(∀p∈rp,p∈acc)) ?_ ?_
     ⟨[],acc,rfl,rfl,rfl,fun p hp=>hp⟩
    ·rintro d ds ρ ⟨lg,rp,rfl,er,he,hin⟩ M hM
     cases rp with
     | nil=>cases er
     | cons p rp =>
      cases er
      have hp1:=hpl p (hin p List.mem_cons_self)
      have hl5:lg.length+c.length<=1000:=by
       have:=congrArg List.length he
       rw[List.length_append,List.flatMap_cons,List.length_append,List.length_map]at this
       omega
      refine loopC (fun rest ρ=>∃(pre:List PyData),c=pre++rest/\ρ=[some (.fz (.list (cs.map PyData.list))),some (.fz (.list (acc.map PyData.tuple))),some (.fz (.list c)),some (.ow (.list ((lg++pre.map fun x=>p++[x]).map PyData.tuple))),some (.fz (.tuple p)),none]) ?_ ?_
       ⟨[],rfl,by simp;rfl⟩
      ·rintro x ds' ρ ⟨pre,hc,rfl⟩ L hL
       refine ⟨by simp at hp1 ⊢;exact le_size (by omega),by rw[List.length_map,List.length_append,List.length_map];have:=congrArg List.length hc;simp at this;exact Nat.lt_of_lt_of_le (show _ < 1000 by omega) (by decide),?_⟩
       refine hL _ ⟨pre++[x],by rw[hc];simp,?_⟩
       have e1:((lg++pre.map fun x=>p++[x]).map PyData.tuple)++[PyData.tuple (p++[x])]=((lg++(pre++[x]).map fun x=>p++[x]).map PyData.tuple):=by simp
       rw[<- e1];rfl
      ·rintro ρ ⟨pre,hc,rfl⟩
       rw[List.append_nil]at hc
       subst hc
       exact hM _ ⟨lg++c.map fun x=>p++[x],rp,rfl,rfl,by rw[List.append_assoc,<- he,List.flatMap_cons],fun p' hp'=>hin p' (List.mem_cons_of_mem _ hp')⟩
    ·rintro ρ ⟨lg,rp,rfl,er,he,hin⟩
     cases rp with
     | cons p rp=>cases er
     | nil =>
      rw[List.flatMap_nil,List.append_nil]at he
      refine hN _ ⟨acc.flatMap fun p=>c.map fun x=>p++[x],rs,by rw[he];rfl,rfl,hr2,?_,hacc,fun p hp=>?_⟩
      ·rw[flat_len,Nat.mul_assoc];exact hln
      ·obtain⟨p',hp',hx⟩:=List.mem_flatMap.mp hp
       obtain⟨x,_,rfl⟩:=List.mem_map.mp hx
       have:=hpl p' hp'
       simp at this ⊢
       omega
  ·rintro ρ ⟨acc,rs,rfl,er,hne',hln,hacc,hpl⟩
   cases rs with
   | cons a rs=>cases er
   | nil =>
    have hacc:acc=eachA [[]] cs:=hacc
    rw[hacc]
    exact q _
structure CalsBt(P:Program)(w:World)(K:PySem.W.Frag)(mg:Str->Option Value)(base:Heap):Prop where
 one_of_each:Cal P w K mg base 1 "one_of_each" ["choices"] (conSp K cEach)
noncomputable def cBtw:Con:=fun args Q=>∃low high:List Int,args=[.fz (tupD low),.fz (tupD high)]/\low.length=high.length/\low.length<=3/\(∀p∈low.zip high,0<=p.1/\p.1<=p.2/\p.2<=1000)/\lenP ((low.zip high).map fun p=>rng2 p.1 p.2)<=1000/\∀o,Q (.ow (.list ((btw low high).map tupD))) o
theorem scBtw:FnScope ["low","high"] ["low","high"] (defScope (top 10)):=⟨rfl,rfl,rfl,by decide +kernel,rfl,by decide +kernel,by decide +kernel⟩
theorem ok_btw{f:Addr}{fd:FuncData}(F:Fun K "places_between" "places_between" (top 10) f fd)(T:Txt mg)(C:CalsBt P w K mg base):FnOk P w K mg base CX0 2 f fd ["low","high"] (conSp K cBtw):=by
 have S:=scBtw
 refine wfn F S (fun cdv A outer s H E hr=>(s_one (s_ret (w_fn C.one_of_each (hr.mono (by first|decide|omega)) (wa_cons (wx (w_comp rfl (own:=["first","last"]) (fr:=[]) (by kernel_rfl) (i_zip2 rfl T.zip_ (wa_cons (wn 0) (wa_cons (wn 1) wa_nil))) (fun _ _ _ _=>(g_tup rfl rfl (gs_cons (g_name (i:=0) (by decide +kernel:List.Nodup (["first","last"]:List Str)) rfl (Or.inl rfl)) (gs_cons (g_name (i:=1) (by decide +kernel:List.Nodup (["first","last"]:List Str)) rfl (Or.inl rfl)) gs_nil)))) (fun _ _ _ _=>if0) (fun _ _ _ _=>(w_LR rfl T.list_ T.range_ (wa_cons (wn 0) (wa_cons (wx (w_bin ok_add op_addD (wn 1) (wx w_int))) wa_nil)))))) wa_nil))))) ?_ ?_
 ·rintro args Qd ⟨low,high,rfl,_⟩;rfl
 ·rintro args Qd ⟨low,high,rfl,hl,h3,hb,hlen,q⟩
  refine ⟨noOw_of rfl,?_⟩
  have hz:(zipD (low.map PyData.int) (high.map PyData.int)).length<=sizeLine:=by rw[zipD_ints,List.length_map,List.length_zip];exact le_size (by omega)
  refine ⟨hz,mapC (fun d=>match d with | .tuple [.int a,.int b]=>.list (rangeD a (b+1 - a).toNat)|_=>.none) ?_ ?_⟩
  ·intro d hd N hN
   rw[zipD_ints]at hd
   obtain⟨⟨a,b⟩,hp,rfl⟩:=List.mem_map.mp hd
   have hab:=hb _ hp
   simp only at hab
   exact ⟨rfl,⟨by omega,by omega,by omega,by omega⟩,by omega,hN⟩
  ·have e1:(zipD (low.map PyData.int) (high.map PyData.int)).map (fun d=>match d with | .tuple [.int a,.int b]=>PyData.list (rangeD a (b+1 - a).toNat)|_=>.none)=(((low.zip high).map fun p=>rng2 p.1 p.2).map (List.map PyData.int)).map PyData.list:=by
    rw[zipD_ints,List.map_map,List.map_map,List.map_map]
    refine List.map_congr_left fun p _=>?_
    simp[rangeD_rng2]
   rw[e1]
   have hl2:lenP (((low.zip high).map fun p=>rng2 p.1 p.2).map (List.map PyData.int))=lenP ((low.zip high).map fun p=>rng2 p.1 p.2):=by
    generalize (low.zip high).map (fun p=>rng2 p.1 p.2)=cs
    induction cs with
    | nil=>rfl
    | cons c cs ih=>simp[lenP,ih]
   refine ⟨((low.zip high).map fun p=>rng2 p.1 p.2).map (List.map PyData.int),rfl,?_,by rw[hl2];exact hlen,by simp;omega,fun o=>?_⟩
   ·intro c hc
    obtain⟨c',hc',rfl⟩:=List.mem_map.mp hc
    obtain⟨p,hp,rfl⟩:=List.mem_map.mp hc'
    have:=hb p hp
    intro z
    have:=congrArg List.length z
    simp[rng2]at this
    omega
   ·have e2:(eachA [[]] (((low.zip high).map fun p=>rng2 p.1 p.2).map (List.map PyData.int))).map PyData.tuple=(btw low high).map tupD:=by
     have:=eachA_map PyData.int ((low.zip high).map fun p=>rng2 p.1 p.2) [[]]
     simp only[List.map_cons,List.map_nil]at this
     rw[<- this,List.map_map];rfl
    rw[e2]
    exact q _
noncomputable def cIndex:Con:=fun args Q=>∃sd pl:List Int,args=[.fz (tupD sd),.fz (tupD pl)]/\sd.length<=1000/\(∀s∈sd,0<=s/\s < 2 ^ 64)/\∀o,Q (.fz (.int (idx sd pl))) o
theorem scIndex:FnScope ["sides","place","index","side","number"] ["sides","place"] (defScope (top 11)):=⟨rfl,rfl,rfl,by decide +kernel,rfl,by decide +kernel,by decide +kernel⟩
theorem ok_index{f:Addr}{fd:FuncData}(F:Fun K "index_of" "index_of" (top 11) f fd)(T:Txt mg):FnOk P w K mg base CX0 1 f fd ["sides","place"] (conSp K cIndex):=by
 have S:=scIndex
 refine wfn F S (fun cdv A outer s H E hr=>(s_cons (s_set (i:=2) S.nd rfl (Or.inl rfl) w_int)
     (s_cons (s_for [3,4] PassesOwn.never rfl (i_zip2 rfl T.zip_ (wa_cons (wn 0) (wa_cons (wn 1) wa_nil))) (g_tup rfl rfl (gs_cons (g_name (i:=3) S.nd rfl (Or.inl rfl)) (gs_cons (g_name (i:=4) S.nd rfl (Or.inl rfl)) gs_nil))) (s_one (s_set (i:=2) S.nd rfl (Or.inl rfl) (w_bin ok_add op_addD (wx (w_bin ok_mul op_mulD (wn 2) (wn 3))) (wn 4)))))
     (s_one (s_retV (wn 2)))))) ?_ ?_
 ·rintro args Qd ⟨sd,pl,rfl,_⟩;rfl
 ·rintro args Qd ⟨sd,pl,rfl,hl,hs,q⟩
  refine ⟨noOw_of rfl,?_⟩
  refine loopC (fun rest ρ=>∃(i:Int) (rs:List (Int×Int)),ρ=[some (.fz (tupD sd)),some (.fz (tupD pl)),some (.fz (.int i)),none,none]/\rest=rs.map (fun p=>PyData.tuple [.int p.1,.int p.2])/\(∀p∈rs,p∈sd.zip pl)/\rs.foldl (fun i p=>i * p.1+p.2) i=idx sd pl) ?_ ?_
   ⟨0,sd.zip pl,rfl,zipD_ints _ _,fun _ h=>h,rfl⟩
  ·rintro d ds ρ ⟨i,rs,rfl,er,hin,hf⟩ N hN
   cases rs with
   | nil=>cases er
   | cons p rs =>
    cases er
    have hp:=hs p.1 (List.of_mem_zip (hin p List.mem_cons_self)).1
    exact ⟨rfl,.inr ⟨by omega,by omega⟩,hN _ ⟨i * p.1+p.2,rs,rfl,rfl,fun x hx=>hin x (List.mem_cons_of_mem _ hx),hf⟩⟩
  ·rintro ρ ⟨i,rs,rfl,er,hin,hf⟩
   cases rs with
   | nil =>
    have hf:i=idx sd pl:=hf
    subst hf
    exact q _
   | cons _ _=>cases er
end
noncomputable def Bx:List Int->List Int->List Int->Prop
 | [],[],[]=>True
 | x :: lo,y :: hi,s :: sd=>(0<=x/\x<=y/\y < s)/\Bx lo hi sd
 | _,_,_=>False
noncomputable abbrev bxD(lo hi:List Int):PyData:=.tuple [tupD lo,tupD hi]
theorem bx_len:∀{lo hi sd:List Int},Bx lo hi sd->lo.length=sd.length/\hi.length=sd.length
 | [],[],[],_=>⟨rfl,rfl⟩
 | x :: lo,y :: hi,s :: sd,h=>by
  have:=bx_len h.2
  simp[this.1,this.2]
 | [],[],_ :: _,h=>h.elim
 | [],_ :: _,z,h=>by cases z<;>exact h.elim
 | _ :: _,[],z,h=>by cases z<;>exact h.elim
 | _ :: _,_ :: _,[],h=>h.elim
theorem bx_is:∀{lo hi sd:List Int},Bx lo hi sd->okZ (lo.map PyData.int) sd=true/\okZ (hi.map PyData.int) sd=true/\leZ lo hi=true
 | [],[],[],_=>⟨rfl,rfl,rfl⟩
 | x :: lo,y :: hi,s :: sd,h=>by
  obtain⟨h1,h2,h3⟩:=bx_is h.2
  have hx:=h.1
  refine ⟨?_,?_,?_⟩
  ·simp only[List.map_cons,okZ,num1,h1,Bool.and_true,Bool.and_eq_true,decide_eq_true_eq];omega
  ·simp only[List.map_cons,okZ,num1,h2,Bool.and_true,Bool.and_eq_true,decide_eq_true_eq];omega
  ·have e:leZ (x :: lo) (y :: hi)=(decide (x<=y)&&leZ lo hi):=by simp[leZ]
   rw[e,h3,Bool.and_true,decide_eq_true_eq];exact hx.2.1
 | [],[],_ :: _,h=>h.elim
 | [],_ :: _,z,h=>by cases z<;>exact h.elim
 | _ :: _,[],z,h=>by cases z<;>exact h.elim
 | _ :: _,_ :: _,[],h=>h.elim
theorem bx_isBx{lo hi sd:List Int}(h:Bx lo hi sd):isBx sd (bxD lo hi)=true:=by
 obtain⟨h1,h2,h3⟩:=bx_is h
 obtain⟨e1,e2⟩:=bx_len h
 have a1:isPl sd (tupD lo)=true:=by
  show (decide ((lo.map PyData.int).length=sd.length)&&okZ (lo.map PyData.int) sd)=true
  rw[List.length_map,h1,Bool.and_true];exact decide_eq_true e1
 have a2:isPl sd (tupD hi)=true:=by
  show (decide ((hi.map PyData.int).length=sd.length)&&okZ (hi.map PyData.int) sd)=true
  rw[List.length_map,h2,Bool.and_true];exact decide_eq_true e2
 show (isPl sd (tupD lo)&&isPl sd (tupD hi)&&leZ ((lo.map PyData.int).map unI) ((hi.map PyData.int).map unI))=true
 rw[a1,a2,unI_int,unI_int,h3];rfl
theorem okD_tup(p:List Int):okD (tupD p)=true:=okAll_of fun d hd=>by
 obtain⟨i,_,rfl⟩:=List.mem_map.mp hd;rfl
theorem okD_bx(lo hi:List Int):okD (bxD lo hi)=true:=by
 show (okD (tupD lo)&&(okD (tupD hi)&&true))=true
 rw[okD_tup,okD_tup];rfl
theorem bx_snoc:∀{lo hi sd:List Int}{x y s:Int},Bx lo hi sd->0<=x->x<=y->y < s->Bx (lo++[x]) (hi++[y]) (sd++[s])
 | [],[],[],_,_,_,_,h1,h2,h3=>⟨⟨h1,h2,h3⟩,trivial⟩
 | a :: lo,b :: hi,c :: sd,_,_,_,h,h1,h2,h3=>⟨h.1,bx_snoc h.2 h1 h2 h3⟩
 | [],[],_ :: _,_,_,_,h,_,_,_=>h.elim
 | [],_ :: _,z,_,_,_,h,_,_,_=>by cases z<;>exact h.elim
 | _ :: _,[],z,_,_,_,h,_,_,_=>by cases z<;>exact h.elim
 | _ :: _,_ :: _,[],_,_,_,h,_,_,_=>h.elim
theorem idx_nn{sd p:List Int}(h:Wi p sd):0<=idx sd p/\idx sd p < prodI sd:=by
 have:=idx_b h (Int.le_refl 0) (by decide:(0:Int) < 1)
 rw[Int.one_mul]at this
 exact this
section
variable {P:Program}{w:World}{K:PySem.W.Frag}{mg:Str->Option Value}{base:Heap}
structure CalsAk(P:Program)(w:World)(K:PySem.W.Frag)(mg:Str->Option Value)(base:Heap):Prop where
 is_box:Cal P w K mg base 4 "is_box" ["sides","thing"] (conSp K cIsBox)
noncomputable def cAsk:Con:=fun args Q=>∃(sd:List Int) (d:PyData),args=[.fz (tupD sd),.fz d]/\okD d=true/\sd.length<=1000/\isBx sd d=true/\∀o,Q (.fz .none) o
theorem scAsk:FnScope ["sides","thing"] ["sides","thing"] (defScope (top 16)):=⟨rfl,rfl,rfl,by decide +kernel,rfl,by decide +kernel,by decide +kernel⟩
theorem ok_ask{f:Addr}{fd:FuncData}(F:Fun K "ask_for_box" "ask_for_box" (top 16) f fd)(C:CalsAk P w K mg base):FnOk P w K mg base CX0 5 f fd ["sides","thing"] (conSp K cAsk):=by
 have S:=scAsk
 refine wfn F S (fun cdv A outer s H E hr=>(s_one (s_if (t_not (t_val (w_fn C.is_box (hr.mono (by first|decide|omega)) (wa_cons (wn 0) (wa_cons (wn 1) wa_nil))))) (s_one s_never) s_nil))) ?_ ?_
 ·rintro args Qd ⟨sd,d,rfl,_⟩;rfl
 ·rintro args Qd ⟨sd,d,rfl,hd,hn,hb,q⟩
  refine ⟨noOw_of rfl,?_⟩
  refine ⟨sd,d,rfl,hd,hn,fun o=>?_⟩
  rw[hb]
  exact q _
noncomputable def cProT:Con:=fun args Q=>∃sd:List Int,args=[.fz (tupD sd)]/\(∀c∈sd,0<=c/\c < 2 ^ 60)/\∀o,Q (.fz (.int (prodI sd))) o
theorem scProT:FnScope ["numbers","result","number"] ["numbers"] (defScope (top 8)):=⟨rfl,rfl,rfl,by decide +kernel,rfl,by decide +kernel,by decide +kernel⟩
theorem ok_proT{f:Addr}{fd:FuncData}(F:Fun K "product" "product" (top 8) f fd):FnOk P w K mg base CX0 1 f fd ["numbers"] (conSp K cProT):=by
 have S:=scProT
 refine wfn F S (fun cdv A outer s H E hr=>(s_cons (s_set (i:=1) S.nd rfl (Or.inl rfl) w_int)
     (s_cons (s_for [2] PassesOwn.never rfl (i_seq rfl (wv 0)) (g_name (i:=2) S.nd rfl (Or.inl rfl)) (s_one (s_set (i:=1) S.nd rfl (Or.inl rfl) (w_bin ok_mul op_mulD (wn 1) (wn 2)))))
     (s_one (s_retV (wn 1)))))) ?_ ?_
 ·rintro args Qd ⟨sd,rfl,_⟩;rfl
 ·rintro args Qd ⟨sd,rfl,hb,q⟩
  refine ⟨noOw_of rfl,?_⟩
  refine loopC (fun rest ρ=>∃(t:Int) (rs:List Int),ρ=[some (.fz (tupD sd)),some (.fz (.int t)),none]/\rest=rs.map PyData.int/\(∀c∈rs,c∈sd)/\t * prodI rs=prodI sd) ?_ ?_
   ⟨1,sd,rfl,rfl,fun _ h=>h,by rw[Int.one_mul]⟩
  ·rintro d ds ρ ⟨t,rs,rfl,er,hin,hp⟩ N hN
   cases rs with
   | nil=>cases er
   | cons a rs =>
    cases er
    have ha:=hb a (hin a List.mem_cons_self)
    exact ⟨.inr ⟨by omega,by omega⟩,hN _ ⟨t * a,rs,rfl,rfl,fun c hc=>hin c (List.mem_cons_of_mem _ hc),by rw[Int.mul_assoc];exact hp⟩⟩
  ·rintro ρ ⟨t,rs,rfl,er,hin,hp⟩
   cases rs with
   | nil =>
    have hp:t=prodI sd:=by rw[<- hp];show t=t * 1;omega
    subst hp
    exact q _
   | cons _ _=>cases er
noncomputable def cFirst:Con:=fun args Q=>∃sd:List Int,args=[.fz (tupD sd)]/\sd.length<=1000/\∀o,Q (.fz (tupD (sd.map fun _=>0))) o
theorem scFirst:FnScope ["sides"] ["sides"] (defScope (top 17)):=⟨rfl,rfl,rfl,by decide +kernel,rfl,by decide +kernel,by decide +kernel⟩
theorem ok_first{f:Addr}{fd:FuncData}(F:Fun K "first_place" "first_place" (top 17) f fd)(T:Txt mg):FnOk P w K mg base CX0 1 f fd ["sides"] (conSp K cFirst):=by
 have S:=scFirst
 refine wfn F S (fun cdv A outer s H E hr=>(s_one (s_ret (w_callT ok_tuple (call_tupleK (K:=K) rfl) T.tuple_ boot_tuple (wa_cons (wx (w_comp rfl (own:=["side"]) (fr:=[]) (by kernel_rfl) (i_seq rfl (wv 0)) (fun _ _ _ _=>(g_name (i:=0) (by decide +kernel:List.Nodup (["side"]:List Str)) rfl (Or.inl rfl))) (fun _ _ _ _=>if0) (fun _ _ _ _=>w_int))) wa_nil))))) ?_ ?_
 ·rintro args Qd ⟨sd,rfl,_⟩;rfl
 ·rintro args Qd ⟨sd,rfl,hl,q⟩
  refine ⟨noOw_of rfl,?_⟩
  refine ⟨by rw[List.length_map];exact le_size hl,mapC (fun _=>.int 0) (fun d hd N hN=>hN) ?_⟩
  have e:(sd.map PyData.int).map (fun _=>PyData.int 0)=(sd.map fun _=>0).map PyData.int:=by simp[List.map_map,Function.comp_def]
  rw[e]
  exact q _
noncomputable def cLast:Con:=fun args Q=>∃sd:List Int,args=[.fz (tupD sd)]/\sd.length<=1000/\∀o,Q (.fz (tupD (sd.map fun s=>s - 1))) o
theorem scLast:FnScope ["sides"] ["sides"] (defScope (top 18)):=⟨rfl,rfl,rfl,by decide +kernel,rfl,by decide +kernel,by decide +kernel⟩
theorem ok_last{f:Addr}{fd:FuncData}(F:Fun K "last_place" "last_place" (top 18) f fd)(T:Txt mg):FnOk P w K mg base CX0 1 f fd ["sides"] (conSp K cLast):=by
 have S:=scLast
 refine wfn F S (fun cdv A outer s H E hr=>(s_one (s_ret (w_callT ok_tuple (call_tupleK (K:=K) rfl) T.tuple_ boot_tuple (wa_cons (wx (w_comp rfl (own:=["side"]) (fr:=[]) (by kernel_rfl) (i_seq rfl (wv 0)) (fun _ _ _ _=>(g_name (i:=0) (by decide +kernel:List.Nodup (["side"]:List Str)) rfl (Or.inl rfl))) (fun _ _ _ _=>if0) (fun _ _ _ _=>(w_bin ok_sub op_sub (wn 0) (wx w_int))))) wa_nil))))) ?_ ?_
 ·rintro args Qd ⟨sd,rfl,_⟩;rfl
 ·rintro args Qd ⟨sd,rfl,hl,q⟩
  refine ⟨noOw_of rfl,?_⟩
  refine ⟨by rw[List.length_map];exact le_size hl,mapC (fun d=>match d with | .int i=>.int (i - 1)|_=>.none) (fun d hd N hN=>?_) ?_⟩
  ·obtain⟨i,_,rfl⟩:=List.mem_map.mp hd
   exact hN
  ·refine Eq.mpr (congrArg (fun z=>Qd (.fz (.tuple z)) _) ?_) (q _)
   simp[List.map_map,Function.comp_def]
structure CalsF(P:Program)(w:World)(K:PySem.W.Frag)(mg:Str->Option Value)(base:Heap):Prop where
 places_between:Cal P w K mg base 2 "places_between" ["low","high"] (conSp K cBtw)
 first_place:Cal P w K mg base 1 "first_place" ["sides"] (conSp K cFirst)
 last_place:Cal P w K mg base 1 "last_place" ["sides"] (conSp K cLast)
noncomputable def cAllPlaces:Con:=fun args Q=>∃sd:List Int,args=[.fz (tupD sd)]/\Sd sd/\∀o,Q (.ow (.list ((plc sd).map tupD))) o
theorem scAllPlaces:FnScope ["sides"] ["sides"] (defScope (top 20)):=⟨rfl,rfl,rfl,by decide +kernel,rfl,by decide +kernel,by decide +kernel⟩
theorem ok_allPlaces{f:Addr}{fd:FuncData}(F:Fun K "all_places" "all_places" (top 20) f fd)(C:CalsF P w K mg base):FnOk P w K mg base CX0 3 f fd ["sides"] (conSp K cAllPlaces):=by
 have S:=scAllPlaces
 refine wfn F S (fun cdv A outer s H E hr=>(s_one (s_ret (w_fn C.places_between (hr.mono (by first|decide|omega)) (wa_cons (wx (w_fn C.first_place (hr.mono (by first|decide|omega)) (wa_cons (wn 0) wa_nil))) (wa_cons (wx (w_fn C.last_place (hr.mono (by first|decide|omega)) (wa_cons (wn 0) wa_nil))) wa_nil)))))) ?_ ?_
 ·rintro args Qd ⟨sd,rfl,_⟩;rfl
 ·rintro args Qd ⟨sd,rfl,hsd,q⟩
  have h3:=hsd.l3
  refine ⟨noOw_of rfl,?_⟩
  refine ⟨sd,rfl,by omega,fun o1=>?_⟩
  refine ⟨sd,rfl,by omega,fun o2=>?_⟩
  have e:((sd.map fun _=>(0:Int)).zip (sd.map fun s=>s - 1)).map (fun p=>rng2 p.1 p.2)=sd.map rng:=by
   rw[zip_zero,List.map_map]
   exact List.map_congr_left fun s _=>rng2_zero s
  refine ⟨sd.map fun _=>0,sd.map fun s=>s - 1,rfl,by simp,by simpa using h3,fun p hp=>?_,?_,fun o3=>?_⟩
  ·rw[zip_zero]at hp
   obtain⟨s,hs,rfl⟩:=List.mem_map.mp hp
   have h1:=hsd.p s hs
   have h2:=le_prodI hsd.p s hs
   have:=hsd.m
   exact ⟨by show (0:Int)<=0;decide,by show (0:Int)<=s - 1;omega,by show s - 1<=1000;omega⟩
  ·rw[e]
   have h1:=lenP_rng hsd.p
   have:=hsd.m
   omega
  ·unfold btw
   rw[e]
   exact q _
structure CalsCa(P:Program)(w:World)(K:PySem.W.Frag)(mg:Str->Option Value)(base:Heap):Prop where
 index_of:Cal P w K mg base 1 "index_of" ["sides","place"] (conSp K cIndex)
noncomputable def cCa:Con:=fun args Q=>∃sd cl p:List Int,args=[.fz (fldD sd cl),.fz (tupD p)]/\Sd sd/\cl.length=(plc sd).length/\Wi p sd/\∀o,Q (.fz (.int (cel sd cl p))) o
theorem scCa:FnScope ["field","place"] ["field","place"] (defScope (top 19)):=⟨rfl,rfl,rfl,by decide +kernel,rfl,by decide +kernel,by decide +kernel⟩
theorem ok_ca{f:Addr}{fd:FuncData}(F:Fun K "cell_at" "cell_at" (top 19) f fd)(C:CalsCa P w K mg base):FnOk P w K mg base CX0 2 f fd ["field","place"] (conSp K cCa):=by
 have S:=scCa
 refine wfn F S (fun cdv A outer s H E hr=>(s_one (s_ret (w_ix rfl (wx (w_ix rfl (wn 0) (wx w_int))) (wx (w_fn C.index_of (hr.mono (by first|decide|omega)) (wa_cons (wx (w_ix rfl (wn 0) (wx w_int))) (wa_cons (wn 1) wa_nil)))))))) ?_ ?_
 ·rintro args Qd ⟨sd,cl,p,rfl,_⟩;rfl
 ·rintro args Qd ⟨sd,cl,p,rfl,hsd,hcl,hp,q⟩
  refine ⟨noOw_of rfl,?_⟩
  have h3:=hsd.l3
  have hm:=hsd.m
  have hpl:=plc_len hsd.p
  have hi:=idx_nn hp
  refine ⟨_,rfl,_,rfl,sd,p,rfl,by omega,fun s hs=>?_,fun o=>?_⟩
  ·have h1:=hsd.p s hs
   have h2:=le_prodI hsd.p s hs
   omega
  ·obtain⟨n,hn⟩:=Int.eq_ofNat_of_zero_le hi.1
   have hnl:n < cl.length:=by omega
   refine ⟨.int (cel sd cl p),?_,q _⟩
   unfold cel
   rw[hn]
   exact at_ints hnl
end
noncomputable def mulL(xs fs:List Int):List Int:=(xs.zip fs).map fun p=>p.1 * p.2
noncomputable def shrL(xs fs:List Int):List Int:=(xs.zip fs).map fun p=>p.1 / p.2
noncomputable def movL(xs fs:List Int):List Int:=(xs.zip fs).map fun p=>p.1+p.2
noncomputable def on2(f:Int->Int->Int):PyData->PyData
 | .tuple [.int a,.int b]=>.int (f a b)
 | _=>.none
theorem on2_map(f:Int->Int->Int)(xs fs:List Int):(zipD (xs.map PyData.int) (fs.map PyData.int)).map (on2 f)=((xs.zip fs).map fun p=>f p.1 p.2).map PyData.int:=by
 rw[zipD_ints,List.map_map,List.map_map]
 rfl
theorem mem2{xs fs:List Int}{d:PyData}(h:d∈zipD (xs.map PyData.int) (fs.map PyData.int)):∃a∈xs,∃b∈fs,d=.tuple [.int a,.int b]:=by
 rw[zipD_ints]at h
 obtain⟨u,hu,rfl⟩:=List.mem_map.mp h
 exact ⟨u.1,(List.of_mem_zip hu).1,u.2,(List.of_mem_zip hu).2,rfl⟩
noncomputable def unT:PyData->List Int
 | .tuple ds=>ds.map unI
 | _=>[]
theorem unT_tup(p:List Int):unT (tupD p)=p:=by
 show (p.map PyData.int).map unI=p
 rw[List.map_map]
 exact List.map_id p
section
variable {P:Program}{w:World}{K:PySem.W.Frag}{mg:Str->Option Value}{base:Heap}
noncomputable def cTimes:Con:=fun args Q=>∃(A:PyData) (xs fs:List Int),args=[.fz A,.fz (tupD fs)]/\(A=tupD xs\/A=.list (xs.map PyData.int))/\xs.length<=1000/\(∀x∈xs,0<=x/\x < 2 ^ 64)/\∀o,Q (.fz (tupD (mulL xs fs))) o
theorem scTimes:FnScope ["numbers","factors"] ["numbers","factors"] (defScope (top 24)):=⟨rfl,rfl,rfl,by decide +kernel,rfl,by decide +kernel,by decide +kernel⟩
theorem ok_times{f:Addr}{fd:FuncData}(F:Fun K "times" "times" (top 24) f fd)(T:Txt mg):FnOk P w K mg base CX0 1 f fd ["numbers","factors"] (conSp K cTimes):=by
 have S:=scTimes
 refine wfn F S (fun cdv A outer s H E hr=>(s_one (s_ret (w_callT ok_tuple (call_tupleK (K:=K) rfl) T.tuple_ boot_tuple (wa_cons (wx (w_comp rfl (own:=["number","factor"]) (fr:=[]) (by kernel_rfl) (i_zip2 rfl T.zip_ (wa_cons (wn 0) (wa_cons (wn 1) wa_nil))) (fun _ _ _ _=>(g_tup rfl rfl (gs_cons (g_name (i:=0) (by decide +kernel:List.Nodup (["number","factor"]:List Str)) rfl (Or.inl rfl)) (gs_cons (g_name (i:=1) (by decide +kernel:List.Nodup (["number","factor"]:List Str)) rfl (Or.inl rfl)) gs_nil)))) (fun _ _ _ _=>if0) (fun _ _ _ _=>(w_bin ok_mul op_mulD (wn 0) (wn 1))))) wa_nil))))) ?_ ?_
 ·rintro args Qd ⟨A,xs,fs,rfl,_⟩;rfl
 ·rintro args Qd ⟨A,xs,fs,rfl,hA,hl,hx,q⟩
  refine ⟨noOw_of rfl,?_⟩
  have hz:(zipD (xs.map PyData.int) (fs.map PyData.int)).length<=sizeLine:=by rw[zipD_ints,List.length_map,List.length_zip];exact le_size (by omega)
  have go:∀{R:Sl->Prop},R (.fz (tupD (mulL xs fs)))->R (.fz (.tuple ((zipD (xs.map PyData.int) (fs.map PyData.int)).map (on2 fun a b=>a * b)))):=fun {R} h=>by rw[on2_map];exact h
  rcases hA with rfl|rfl
  ·refine ⟨hz,mapC (on2 fun a b=>a * b) (fun d hd N hN=>?_) (go (R:=fun r=>Qd r _) (q _))⟩
   obtain⟨a,ha,b,hb,rfl⟩:=mem2 hd
   have:=hx a ha
   exact ⟨rfl,.inl ⟨by omega,by omega⟩,hN⟩
  ·refine ⟨hz,mapC (on2 fun a b=>a * b) (fun d hd N hN=>?_) (go (R:=fun r=>Qd r _) (q _))⟩
   obtain⟨a,ha,b,hb,rfl⟩:=mem2 hd
   have:=hx a ha
   exact ⟨rfl,.inl ⟨by omega,by omega⟩,hN⟩
noncomputable def cShr:Con:=fun args Q=>∃xs fs:List Int,args=[.fz (tupD xs),.fz (tupD fs)]/\xs.length<=1000/\(∀f∈fs,1<=f/\f<=1000)/\∀o,Q (.fz (tupD (shrL xs fs))) o
theorem scShr:FnScope ["place","factors"] ["place","factors"] (defScope (top 25)):=⟨rfl,rfl,rfl,by decide +kernel,rfl,by decide +kernel,by decide +kernel⟩
theorem ok_shr{f:Addr}{fd:FuncData}(F:Fun K "place_shrunk" "place_shrunk" (top 25) f fd)(T:Txt mg):FnOk P w K mg base CX0 1 f fd ["place","factors"] (conSp K cShr):=by
 have S:=scShr
 refine wfn F S (fun cdv A outer s H E hr=>(s_one (s_ret (w_callT ok_tuple (call_tupleK (K:=K) rfl) T.tuple_ boot_tuple (wa_cons (wx (w_comp rfl (own:=["number","factor"]) (fr:=[]) (by kernel_rfl) (i_zip2 rfl T.zip_ (wa_cons (wn 0) (wa_cons (wn 1) wa_nil))) (fun _ _ _ _=>(g_tup rfl rfl (gs_cons (g_name (i:=0) (by decide +kernel:List.Nodup (["number","factor"]:List Str)) rfl (Or.inl rfl)) (gs_cons (g_name (i:=1) (by decide +kernel:List.Nodup (["number","factor"]:List Str)) rfl (Or.inl rfl)) gs_nil)))) (fun _ _ _ _=>if0) (fun _ _ _ _=>(w_bin ok_fdiv op_fdiv (wn 0) (wn 1))))) wa_nil))))) ?_ ?_
 ·rintro args Qd ⟨xs,fs,rfl,_⟩;rfl
 ·rintro args Qd ⟨xs,fs,rfl,hl,hf,q⟩
  refine ⟨noOw_of rfl,?_⟩
  have hz:(zipD (xs.map PyData.int) (fs.map PyData.int)).length<=sizeLine:=by rw[zipD_ints,List.length_map,List.length_zip];exact le_size (by omega)
  refine ⟨hz,mapC (on2 fun a b=>a / b) (fun d hd N hN=>?_) ?_⟩
  ·obtain⟨a,ha,b,hb,rfl⟩:=mem2 hd
   have:=hf b hb
   exact ⟨rfl,⟨by omega,by omega⟩,hN⟩
  ·rw[on2_map]
   exact q _
noncomputable def cMov:Con:=fun args Q=>∃xs fs:List Int,args=[.fz (tupD xs),.fz (tupD fs)]/\xs.length<=1000/\∀o,Q (.fz (tupD (movL xs fs))) o
theorem scMov:FnScope ["place","low"] ["place","low"] (defScope (top 27)):=⟨rfl,rfl,rfl,by decide +kernel,rfl,by decide +kernel,by decide +kernel⟩
theorem ok_mov{f:Addr}{fd:FuncData}(F:Fun K "place_moved" "place_moved" (top 27) f fd)(T:Txt mg):FnOk P w K mg base CX0 1 f fd ["place","low"] (conSp K cMov):=by
 have S:=scMov
 refine wfn F S (fun cdv A outer s H E hr=>(s_one (s_ret (w_callT ok_tuple (call_tupleK (K:=K) rfl) T.tuple_ boot_tuple (wa_cons (wx (w_comp rfl (own:=["number","first"]) (fr:=[]) (by kernel_rfl) (i_zip2 rfl T.zip_ (wa_cons (wn 0) (wa_cons (wn 1) wa_nil))) (fun _ _ _ _=>(g_tup rfl rfl (gs_cons (g_name (i:=0) (by decide +kernel:List.Nodup (["number","first"]:List Str)) rfl (Or.inl rfl)) (gs_cons (g_name (i:=1) (by decide +kernel:List.Nodup (["number","first"]:List Str)) rfl (Or.inl rfl)) gs_nil)))) (fun _ _ _ _=>if0) (fun _ _ _ _=>(w_bin ok_add op_addD (wn 0) (wn 1))))) wa_nil))))) ?_ ?_
 ·rintro args Qd ⟨xs,fs,rfl,_⟩;rfl
 ·rintro args Qd ⟨xs,fs,rfl,hl,q⟩
  refine ⟨noOw_of rfl,?_⟩
  have hz:(zipD (xs.map PyData.int) (fs.map PyData.int)).length<=sizeLine:=by rw[zipD_ints,List.length_map,List.length_zip];exact le_size (by omega)
  refine ⟨hz,mapC (on2 fun a b=>a+b) (fun d hd N hN=>?_) ?_⟩
  ·obtain⟨a,ha,b,hb,rfl⟩:=mem2 hd
   exact ⟨rfl,hN⟩
  ·rw[on2_map]
   exact q _
structure CalsAf(P:Program)(w:World)(K:PySem.W.Frag)(mg:Str->Option Value)(base:Heap):Prop where
 are_wholes:Cal P w K mg base 2 "are_wholes" ["thing","many"] (conSp K cAreW)
noncomputable def cAf:Con:=fun args Q=>∃fs:List Int,args=[.fz (.int fs.length),.fz (tupD fs)]/\fs.length<=1000/\(∀f∈fs,1<=f)/\∀o,Q (.fz .none) o
theorem scAf:FnScope ["many","thing"] ["many","thing"] (defScope (top 22)):=⟨rfl,rfl,rfl,by decide +kernel,rfl,by decide +kernel,by decide +kernel⟩
theorem ok_af{f:Addr}{fd:FuncData}(F:Fun K "ask_for_factors" "ask_for_factors" (top 22) f fd)(T:Txt mg)(C:CalsAf P w K mg base):FnOk P w K mg base CX0 3 f fd ["many","thing"] (conSp K cAf):=by
 have S:=scAf
 refine wfn F S (fun cdv A outer s H E hr=>(s_one (s_if (t_w (t_or (t_not (t_val (w_fn C.are_wholes (hr.mono (by first|decide|omega)) (wa_cons (wn 1) (wa_cons (wn 0) wa_nil))))) (t_or1 (t_not (t_val (w_callB ok_all (call_allK (K:=K) rfl rfl) T.all_ boot_all (wa_cons (wx (w_comp rfl (own:=["factor"]) (fr:=[]) (by kernel_rfl) (i_seq rfl (wv 1)) (fun _ _ _ _=>(g_name (i:=0) (by decide +kernel:List.Nodup (["factor"]:List Str)) rfl (Or.inl rfl))) (fun _ _ _ _=>if0) (fun _ _ _ _=>(w_cmp ok_ge op_ge (wn 0) (wx w_int))))) wa_nil))))))) (s_one s_never) s_nil))) ?_ ?_
 ·rintro args Qd ⟨fs,rfl,_⟩;rfl
 ·rintro args Qd ⟨fs,rfl,hl,hf,q⟩
  refine ⟨noOw_of rfl,?_⟩
  have e1:areW fs.length (tupD fs)=true:=by
   show (decide ((fs.map PyData.int).length=fs.length)&&(fs.map PyData.int).all isI)=true
   rw[List.length_map,decide_eq_true rfl,Bool.true_and,List.all_eq_true]
   intro d hd
   obtain⟨i,_,rfl⟩:=List.mem_map.mp hd
   rfl
  refine ⟨tupD fs,fs.length,rfl,okD_tup fs,hl,fun o=>?_⟩
  rw[e1]
  refine ⟨by rw[List.length_map];exact le_size hl,mapC (fun d=>.bool (decide (1<=unI d))) (fun d hd N hN=>?_) ?_⟩
  ·obtain⟨i,_,rfl⟩:=List.mem_map.mp hd
   exact hN
  ·refine ⟨fs.map fun i=>decide (1<=i),by rw[List.map_map,List.map_map];rfl,?_⟩
   have e2:((fs.map fun i=>decide (1<=i)).all id)=true:=by
    rw[List.all_eq_true]
    intro b hb
    obtain⟨i,hi,rfl⟩:=List.mem_map.mp hb
    exact decide_eq_true (hf i hi)
   rw[e2]
   exact q _
noncomputable def tabL(x:Str):Option TD:=if x = "stretched" then some (dCall cShr [.inl 0,.inl 1]) else if x = "cut" then some (dCall cMov [.inl 0,.inl 1]) else none
structure CalsLa(P:Program)(w:World)(K:PySem.W.Frag)(mg:Str->Option Value)(base:Heap):Prop where
 place_shrunk:Cal P w K mg base 1 "place_shrunk" ["place","factors"] (conSp K cShr)
 place_moved:Cal P w K mg base 1 "place_moved" ["place","low"] (conSp K cMov)
structure LamF(K:PySem.W.Frag):Prop where
 stretched:lamOf K "stretched"=lamS (defBody (top 26))
 cut:lamOf K "cut"=lamS (defBody (top 28))
theorem lam_shr(M:LamF K)(C:CalsLa P w K mg base):LamK P w K mg base 1 "stretched" (dCall cShr [.inl 0,.inl 1]):=by
 refine ⟨"place",["factors"],_,_,_,M.stretched.trans rfl,rfl,⟨rfl,rfl,rfl,by decide +kernel,rfl,by decide +kernel,by decide +kernel,by decide⟩,fun cl pm ctv c u=>rfl,fun cl f c A outer s H hr=>(w_fn C.place_shrunk (hr.mono (by first|decide|omega)) (wa_cons (wn 0) (wa_cons (wn 1) wa_nil)))⟩
theorem lam_mov(M:LamF K)(C:CalsLa P w K mg base):LamK P w K mg base 1 "cut" (dCall cMov [.inl 0,.inl 1]):=by
 refine ⟨"place",["low"],_,_,_,M.cut.trans rfl,rfl,⟨rfl,rfl,rfl,by decide +kernel,rfl,by decide +kernel,by decide +kernel,by decide⟩,fun cl pm ctv c u=>rfl,fun cl f c A outer s H hr=>(w_fn C.place_moved (hr.mono (by first|decide|omega)) (wa_cons (wn 0) (wa_cons (wn 1) wa_nil)))⟩
theorem vok_of(M:LamF K)(C:CalsLa P w K mg base):VOk P w K mg base 2 (conSp K (conV tabL)):=v_ok fun x tb h=>by
 unfold tabL at h
 split at h
 ·rename_i e
  cases h
  rw[e]
  exact lam_shr M C
 ·split at h
  ·rename_i e
   cases h
   rw[e]
   exact lam_mov M C
  ·cases h
structure CalsFf(P:Program)(w:World)(K:PySem.W.Frag)(mg:Str->Option Value)(base:Heap):Prop where
 product:Cal P w K mg base 1 "product" ["numbers"] (conSp K cProT)
 all_places:Cal P w K mg base 3 "all_places" ["sides"] (conSp K cAllPlaces)
 cell_at:Cal P w K mg base 2 "cell_at" ["field","place"] (conSp K cCa)
 vok:VOk P w K mg base 2 (conSp K (conV tabL))
noncomputable def cFF:Con:=fun args Q=>∃(sd cl sd2:List Int) (x:Str) (es:List PyData) (g:List Int->List Int),args=[.fz (fldD sd cl),.fz (tupD sd2),.fz (lamD x es)]/\Sd sd/\cl.length=(plc sd).length/\Sd sd2/\noMutAll es=true /\
 (∀p∈plc sd2,Wi (g p) sd/\∃tb,tabL x=some tb/\∀R:Sl->Prop,R (.fz (tupD (g p)))->tb (((tupD p :: es).map Sl.fz).map some) fun r _=>R r)/\∀o,Q (.fz (fldD sd2 ((plc sd2).map fun p=>cel sd cl (g p)))) o
theorem scFF:FnScope ["field","sides","source"] ["field","sides","source"] (defScope (top 23)):=⟨rfl,rfl,rfl,by decide +kernel,rfl,by decide +kernel,by decide +kernel⟩
theorem ok_ff{f:Addr}{fd:FuncData}(F:Fun K "field_from" "field_from" (top 23) f fd)(T:Txt mg)(C:CalsFf P w K mg base):FnOk P w K mg base CX0 4 f fd ["field","sides","source"] (conSp K cFF):=by
 have S:=scFF
 refine wfn F S (fun cdv A outer s H E hr=>(s_cons (s_if (t_cmp ok_gt op_gt (wx (w_fn C.product (hr.mono (by first|decide|omega)) (wa_cons (wn 1) wa_nil))) (wx (w_gint T.MOST_CELLS_))) (s_one s_never) s_nil)
     (s_one (s_ret (w_tup (wa_cons (wx (wv 1)) (wa_cons (wx (w_callT ok_tuple (call_tupleK (K:=K) rfl) T.tuple_ boot_tuple (wa_cons (wx (w_comp rfl (own:=["place"]) (fr:=[0,2]) (by kernel_rfl) (i_seq rfl (w_fn C.all_places (hr.mono (by first|decide|omega)) (wa_cons (wn 1) wa_nil))) (fun _ _ _ _=>(g_name (i:=0) (by decide +kernel:List.Nodup (["place","field","source"]:List Str)) rfl (Or.inl rfl))) (fun _ _ _ _=>if0) (fun _ _ _ _=>(w_fn C.cell_at (hr.mono (by first|decide|omega)) (wa_cons (wn 1) (wa_cons (wx (w_callV C.vok (hr.mono (by first|decide|omega)) (wn 2) (wa_cons (wn 0) wa_nil))) wa_nil)))))) wa_nil))) wa_nil))))))) ?_ ?_
 ·rintro args Qd ⟨sd,cl,sd2,x,es,g,rfl,_⟩;rfl
 ·rintro args Qd ⟨sd,cl,sd2,x,es,g,rfl,hsd,hcl,hsd2,hes,hg,q⟩
  refine ⟨noOw_of rfl,?_⟩
  have h3:=hsd2.l3
  have hm:=hsd2.m
  have hpl:=plc_len hsd2.p
  have hs2:∀c∈sd2,0<=c/\c < 2 ^ 60:=fun c hc=>by
   have:=hsd2.p c hc
   have:=le_prodI hsd2.p c hc
   omega
  with_reducible refine cutS (fun ρ=>ρ=[some (.fz (fldD sd cl)),some (.fz (tupD sd2)),some (.fz (lamD x es))]) ?_ ?_
  ·intro N hN
   refine ⟨sd2,rfl,hs2,fun o=>?_⟩
   refine ite2 (fun h=>?_) (fun h=>hN _ rfl)
   have h:decide ((120:Int) < prodI sd2)=true:=h
   have:=of_decide_eq_true h
   omega
  rintro _ rfl
  refine ⟨sd2,rfl,hsd2,fun o=>?_⟩
  refine ⟨by rw[List.length_map];exact le_size (by omega),mapC (fun d=>.int (cel sd cl (g (unT d)))) (fun d hd N hN=>?_) ?_⟩
  ·obtain⟨p,hp,rfl⟩:=List.mem_map.mp hd
   obtain⟨hw,tb,ht,htb⟩:=hg p hp
   have e:unT (tupD p)=p:=unT_tup p
   rw[e]at hN
   refine ⟨x,es,tupD p,tb,rfl,ht,noMutAll_ints p,hes,htb (fun r=>noMut r.d=true/\∀o,_) ⟨noMutAll_ints (g p),fun o=>?_⟩⟩
   exact ⟨sd,cl,g p,rfl,hsd,hcl,hw,fun o=>hN⟩
  ·have e:((plc sd2).map tupD).map (fun d=>PyData.int (cel sd cl (g (unT d))))=((plc sd2).map fun p=>cel sd cl (g p)).map PyData.int:=by
    rw[List.map_map,List.map_map]
    refine List.map_congr_left fun p _=>?_
    show PyData.int (cel sd cl (g (unT (tupD p))))=_
    rw[unT_tup]
    rfl
   rw[e]
   exact q _
end
theorem wi_shr:∀{p sd fs:List Int},Wi p (mulL sd fs)->fs.length=sd.length->(∀f∈fs,1<=f)->Wi (shrL p fs) sd
 | [],[],[],_,_,_=>trivial
 | x :: p,s :: sd,f :: fs,h,hl,hf=>by
  have h1:0<=x/\x < s * f:=h.1
  have hf1:=hf f (by simp)
  refine ⟨⟨Int.ediv_nonneg h1.1 (by omega),Int.ediv_lt_of_lt_mul (by omega) h1.2⟩,wi_shr (p:=p) h.2 (by simpa using hl) fun f hf'=>hf f (by simp[hf'])⟩
 | [],_ :: _,_ :: _,h,_,_=>h.elim
 | _ :: _,[],[],h,_,_=>h.elim
 | _,[],_ :: _,_,hl,_=>by simp at hl
 | _,_ :: _,[],_,hl,_=>by simp at hl
noncomputable def sdB(lo hi:List Int):List Int:=(lo.zip hi).map fun p=>p.2 - p.1+1
theorem wi_mov:∀{p lo hi sd:List Int},Bx lo hi sd->Wi p (sdB lo hi)->Wi (movL p lo) sd
 | [],[],[],[],_,_=>trivial
 | x :: p,a :: lo,b :: hi,s :: sd,hb,h=>by
  have h1:0<=x/\x < b - a+1:=h.1
  have h2:=hb.1
  exact ⟨⟨by show 0<=x+a;omega,by show x+a < s;omega⟩,wi_mov (p:=p) hb.2 h.2⟩
 | _ :: _,[],[],_,_,h=>h.elim
 | [],_ :: _,_ :: _,_,_,h=>h.elim
 | _,[],_ :: _,z,hb,_=>by cases z<;>exact hb.elim
 | _,_ :: _,[],z,hb,_=>by cases z<;>exact hb.elim
 | _,_ :: _,_ :: _,[],hb,_=>hb.elim
 | _,[],[],_ :: _,hb,_=>hb.elim
theorem sdB_le:∀{lo hi sd:List Int},Bx lo hi sd->(sdB lo hi).length=sd.length/\(∀c∈sdB lo hi,1<=c)/\1<=prodI (sdB lo hi)/\prodI (sdB lo hi)<=prodI sd
 | [],[],[],_=>⟨rfl,fun c hc=>(by cases hc),Int.le_refl _,Int.le_refl _⟩
 | a :: lo,b :: hi,s :: sd,h=>by
  obtain⟨h1,h2,h3,h4⟩:=sdB_le h.2
  have hx:=h.1
  have e:sdB (a :: lo) (b :: hi)=(b - a+1) :: sdB lo hi:=rfl
  have e2:prodI ((b - a+1) :: sdB lo hi)=(b - a+1) * prodI (sdB lo hi):=rfl
  have e3:prodI (s :: sd)=s * prodI sd:=rfl
  rw[e,e2,e3]
  refine ⟨by simp[h1],fun c hc=>?_,?_,?_⟩
  ·rcases List.mem_cons.mp hc with z|z
   ·rw[z];omega
   ·exact h2 c z
  ·have:=Int.mul_le_mul (show 1<=b - a+1 by omega) h3 (by decide) (by omega)
   omega
  ·exact Int.mul_le_mul (show b - a+1<=s by omega) h4 (by omega) (by omega)
 | [],[],_ :: _,h=>h.elim
 | [],_ :: _,z,h=>by cases z<;>exact h.elim
 | _ :: _,[],z,h=>by cases z<;>exact h.elim
 | _ :: _,_ :: _,[],h=>h.elim
theorem Sd.box{lo hi sd:List Int}(hs:Sd sd)(h:Bx lo hi sd):Sd (sdB lo hi):=by
 obtain⟨h1,h2,_,h4⟩:=sdB_le h
 exact ⟨by rw[h1];exact hs.l1,by rw[h1];exact hs.l3,h2,Int.le_trans h4 hs.m⟩
section
variable {P:Program}{w:World}{K:PySem.W.Frag}{mg:Str->Option Value}{base:Heap}
structure CalsStr(P:Program)(w:World)(K:PySem.W.Frag)(mg:Str->Option Value)(base:Heap):Prop where
 ask_for_factors:Cal P w K mg base 3 "ask_for_factors" ["many","thing"] (conSp K cAf)
 times:Cal P w K mg base 1 "times" ["numbers","factors"] (conSp K cTimes)
 field_from:Cal P w K mg base 4 "field_from" ["field","sides","source"] (conSp K cFF)
noncomputable def cStr:Con:=fun args Q=>∃sd cl fs:List Int,args=[.fz (fldD sd cl),.fz (tupD fs)]/\Sd sd/\cl.length=(plc sd).length/\fs.length=sd.length/\(∀f∈fs,1<=f/\f<=1000)/\Sd (mulL sd fs)/\∀o,Q (.fz (fldD (mulL sd fs) ((plc (mulL sd fs)).map fun p=>cel sd cl (shrL p fs)))) o
theorem scStr:FnScope ["field","factors","sides"] ["field","factors"] (defScope (top 26)):=⟨rfl,rfl,rfl,by decide +kernel,rfl,by decide +kernel,by decide +kernel⟩
theorem ok_str{f:Addr}{fd:FuncData}(F:Fun K "stretched" "stretched" (top 26) f fd)(T:Txt mg)(C:CalsStr P w K mg base)(N:LamF K)(M:Lm K "stretched" fd):FnOk P w K mg base CX0 5 f fd ["field","factors"] (conSp K cStr):=by
 have S:=scStr
 have hL:=N.stretched
 obtain⟨c,Pt,hcd,hC,hP,hPx⟩:=M.ex
 refine wfnL F hcd S (fun A outer s H E hr=>(s_cons (s_set (i:=2) S.nd rfl (Or.inl rfl) (w_ix rfl (wn 0) (wx w_int)))
     (s_cons (s_expr (w_fn C.ask_for_factors (hr.mono (by first|decide|omega)) (wa_cons (wx (w_callB ok_len (call_lenK (K:=K) rfl) T.len_ PySem.boot_len (wa_cons (wn 2) wa_nil))) (wa_cons (wn 1) wa_nil))))
     (s_one (s_ret (w_callC (x:="stretched") (z:="factors") (i:=1) (cz:=s.heap.objs.size+1) rfl C.field_from (hr.mono (by first|decide|omega)) (wn 0) (wx (w_fn C.times (hr.mono (by first|decide|omega)) (wa_cons (wn 2) (wa_cons (wn 1) wa_nil)))) rfl (show (Str.ofString "stretched"++Str.ofString ".<locals>.")++Str.ofString "<lambda>"=Str.ofString "stretched"++Str.ofString ".<locals>.<lambda>" from by decide +kernel) hC hP hPx hL)))))) ?_ ?_
 ·rintro args Qd ⟨sd,cl,fs,rfl,_⟩;rfl
 ·rintro args Qd ⟨sd,cl,fs,rfl,hsd,hcl,hfl,hf,hsd2,q⟩
  refine ⟨noOw_of rfl,?_⟩
  have h3:=hsd.l3
  have hm:=hsd.m
  have hs:∀x∈sd,0<=x/\x < 2 ^ 64:=fun c hc=>by
   have:=hsd.p c hc
   have:=le_prodI hsd.p c hc
   omega
  with_reducible refine cutS (fun ρ=>ρ=[some (.fz (fldD sd cl)),some (.fz (tupD fs)),some (.fz (tupD sd))]) ?_ ?_
  ·intro N hN
   exact ⟨_,rfl,hN _ rfl⟩
  rintro _ rfl
  with_reducible refine cutS (fun ρ=>ρ=[some (.fz (fldD sd cl)),some (.fz (tupD fs)),some (.fz (tupD sd))]) ?_ ?_
  ·intro N hN
   refine ⟨fs,?_,by omega,fun f hf'=>(hf f hf').1,fun o=>hN _ rfl⟩
   show [Sl.fz (.int ((sd.map PyData.int).length:Nat)),Sl.fz (tupD fs)]=_
   rw[List.length_map,<- hfl]
  rintro _ rfl
  refine ⟨[tupD fs],rfl,?_⟩
  refine ⟨tupD sd,sd,fs,rfl,.inl rfl,by omega,hs,fun o=>?_⟩
  refine ⟨rfl,sd,cl,mulL sd fs,"stretched",[tupD fs],fun p=>shrL p fs,rfl,hsd,hcl,hsd2,by show (noMut (tupD fs)&&true)=true;rw[Bool.and_true];exact noMutAll_ints fs,fun p hp=>?_,fun o=>⟨?_,q _⟩⟩
  ·refine ⟨wi_shr (plc_wi hp) hfl fun f hf'=>(hf f hf').1,_,rfl,fun R hR=>?_⟩
   have hpl:=wi_len (plc_wi hp)
   have hml:(mulL sd fs).length=sd.length:=by unfold mulL;rw[List.length_map,List.length_zip,hfl,Nat.min_self]
   exact ⟨p,fs,rfl,by omega,hf,fun o=>hR⟩
  ·show (noMut (tupD (mulL sd fs))&&(noMut (tupD _)&&true))=true
   rw[show noMut (tupD (mulL sd fs))=true from noMutAll_ints _,show ∀l:List Int,noMut (tupD l)=true from fun l=>noMutAll_ints l]
   rfl
structure CalsCut(P:Program)(w:World)(K:PySem.W.Frag)(mg:Str->Option Value)(base:Heap):Prop where
 ask_for_box:Cal P w K mg base 5 "ask_for_box" ["sides","thing"] (conSp K cAsk)
 field_from:Cal P w K mg base 4 "field_from" ["field","sides","source"] (conSp K cFF)
noncomputable def cCut:Con:=fun args Q=>∃sd cl lo hi:List Int,args=[.fz (fldD sd cl),.fz (bxD lo hi)]/\Sd sd/\cl.length=(plc sd).length/\Bx lo hi sd/\∀o,Q (.fz (fldD (sdB lo hi) ((plc (sdB lo hi)).map fun p=>cel sd cl (movL p lo)))) o
theorem scCut:FnScope ["field","box","low","sides"] ["field","box"] (defScope (top 28)):=⟨rfl,rfl,rfl,by decide +kernel,rfl,by decide +kernel,by decide +kernel⟩
theorem ok_cut{f:Addr}{fd:FuncData}(F:Fun K "cut" "cut" (top 28) f fd)(T:Txt mg)(C:CalsCut P w K mg base)(N:LamF K)(M:Lm K "cut" fd):FnOk P w K mg base CX0 6 f fd ["field","box"] (conSp K cCut):=by
 have S:=scCut
 have hL:=N.cut
 obtain⟨c,Pt,hcd,hC,hP,hPx⟩:=M.ex
 refine wfnL F hcd S (fun A outer s H E hr=>(s_cons (s_expr (w_fn C.ask_for_box (hr.mono (by first|decide|omega)) (wa_cons (wx (w_ix rfl (wn 0) (wx w_int))) (wa_cons (wn 1) wa_nil))))
     (s_cons (s_set (i:=2) S.nd rfl (Or.inr rfl) (w_ix rfl (wn 1) (wx w_int)))
     (s_cons (s_set (i:=3) S.nd rfl (Or.inl rfl) (w_callT ok_tuple (call_tupleK (K:=K) rfl) T.tuple_ boot_tuple (wa_cons (wx (w_comp rfl (own:=["first","last"]) (fr:=[]) (by kernel_rfl) (i_zip2 rfl T.zip_ (wa_cons (wn 2) (wa_cons (wx (w_ix rfl (wn 1) (wx w_int))) wa_nil))) (fun _ _ _ _=>(g_tup rfl rfl (gs_cons (g_name (i:=0) (by decide +kernel:List.Nodup (["first","last"]:List Str)) rfl (Or.inl rfl)) (gs_cons (g_name (i:=1) (by decide +kernel:List.Nodup (["first","last"]:List Str)) rfl (Or.inl rfl)) gs_nil)))) (fun _ _ _ _=>if0) (fun _ _ _ _=>(w_bin ok_add op_addD (wx (w_bin ok_sub op_sub (wn 1) (wn 0))) (wx w_int))))) wa_nil)))
     (s_one (s_ret (w_callC (x:="cut") (z:="low") (i:=2) (cz:=s.heap.objs.size+1) rfl C.field_from (hr.mono (by first|decide|omega)) (wn 0) (wn 3) rfl (show (Str.ofString "cut"++Str.ofString ".<locals>.")++Str.ofString "<lambda>"=Str.ofString "cut"++Str.ofString ".<locals>.<lambda>" from by decide +kernel) hC hP hPx hL))))))) ?_ ?_
 ·rintro args Qd ⟨sd,cl,lo,hi,rfl,_⟩;rfl
 ·rintro args Qd ⟨sd,cl,lo,hi,rfl,hsd,hcl,hb,q⟩
  refine ⟨noOw_of rfl,?_⟩
  have h3:=hsd.l3
  obtain⟨l1,l2⟩:=bx_len hb
  have hsd2:=hsd.box hb
  have h32:=hsd2.l3
  have hz:(zipD (lo.map PyData.int) (hi.map PyData.int)).length<=sizeLine:=by rw[zipD_ints,List.length_map,List.length_zip];exact le_size (by omega)
  with_reducible refine cutS (fun ρ=>ρ=[some (.fz (fldD sd cl)),some (.fz (bxD lo hi)),none,none]) ?_ ?_
  ·intro N hN
   exact ⟨_,rfl,sd,_,rfl,okD_bx lo hi,by omega,bx_isBx hb,fun o=>hN _ rfl⟩
  rintro _ rfl
  with_reducible refine cutS (fun ρ=>ρ=[some (.fz (fldD sd cl)),some (.fz (bxD lo hi)),some (.fz (tupD lo)),none]) ?_ ?_
  ·intro N hN
   exact ⟨_,rfl,hN _ rfl⟩
  rintro _ rfl
  with_reducible refine cutS (fun ρ=>ρ=[some (.fz (fldD sd cl)),some (.fz (bxD lo hi)),some (.fz (tupD lo)),some (.fz (tupD (sdB lo hi)))]) ?_ ?_
  ·intro N hN
   refine ⟨_,rfl,hz,mapC (on2 fun a b=>b - a+1) (fun d hd N hN=>?_) ?_⟩
   ·obtain⟨a,ha,b,hb,rfl⟩:=mem2 hd
    exact ⟨rfl,hN⟩
   ·rw[on2_map]
    exact hN _ rfl
  rintro _ rfl
  refine ⟨[tupD lo],rfl,?_⟩
  refine ⟨rfl,sd,cl,sdB lo hi,"cut",[tupD lo],fun p=>movL p lo,rfl,hsd,hcl,hsd2,by show (noMut (tupD lo)&&true)=true;rw[Bool.and_true];exact noMutAll_ints lo,fun p hp=>?_,fun o=>⟨?_,q _⟩⟩
  ·refine ⟨wi_mov hb (plc_wi hp),_,rfl,fun R hR=>?_⟩
   have hpl:=wi_len (plc_wi hp)
   exact ⟨p,lo,rfl,by omega,fun o=>hR⟩
  ·show (noMut (tupD (sdB lo hi))&&(noMut (tupD _)&&true))=true
   rw[show noMut (tupD (sdB lo hi))=true from noMutAll_ints _,show ∀l:List Int,noMut (tupD l)=true from fun l=>noMutAll_ints l]
   rfl
structure CalsBs(P:Program)(w:World)(K:PySem.W.Frag)(mg:Str->Option Value)(base:Heap):Prop where
 ask_for_factors:Cal P w K mg base 3 "ask_for_factors" ["many","thing"] (conSp K cAf)
 ask_for_box:Cal P w K mg base 5 "ask_for_box" ["sides","thing"] (conSp K cAsk)
 times:Cal P w K mg base 1 "times" ["numbers","factors"] (conSp K cTimes)
noncomputable def cBs:Con:=fun args Q=>∃sd lo hi fs:List Int,args=[.fz (tupD sd),.fz (bxD lo hi),.fz (tupD fs)]/\Sd sd/\Bx lo hi sd/\fs.length=sd.length/\(∀f∈fs,1<=f)/\∀o,Q (.fz (bxD (mulL lo fs) ((mulL (hi.map fun x=>x+1) fs).map fun x=>x - 1))) o
theorem scBs:FnScope ["sides","box","factors","behind"] ["sides","box","factors"] (defScope (top 29)):=⟨rfl,rfl,rfl,by decide +kernel,rfl,by decide +kernel,by decide +kernel⟩
theorem bx_small{lo hi sd:List Int}(hs:Sd sd)(h:Bx lo hi sd):(∀x∈lo,0<=x/\x < 120)/\∀x∈hi,0<=x/\x < 120:=by
 have hm:∀c∈sd,c<=120:=fun c hc=>Int.le_trans (le_prodI hs.p c hc) hs.m
 clear hs
 have gen:∀{lo hi sd:List Int},Bx lo hi sd->(∀c∈sd,c<=120)->(∀x∈lo,0<=x/\x < 120)/\∀x∈hi,0<=x/\x < 120:=by
  intro lo
  induction lo with
  | nil =>
   intro hi sd h _
   cases hi with
   | nil=>exact ⟨fun x hx=>(by cases hx),fun x hx=>(by cases hx)⟩
   | cons _ _=>cases sd<;>exact h.elim
  | cons a lo ih =>
   intro hi sd h hm
   cases hi with
   | nil=>cases sd<;>exact h.elim
   | cons b hi =>
    cases sd with
    | nil=>exact h.elim
    | cons s sd =>
     obtain⟨g1,g2⟩:=ih h.2 fun c hc=>hm c (by simp[hc])
     have hx:=h.1
     have hs:=hm s (by simp)
     refine ⟨fun x hx=>?_,fun x hx=>?_⟩
     ·rcases List.mem_cons.mp hx with z|z
      ·rw[z];omega
      ·exact g1 x z
     ·rcases List.mem_cons.mp hx with z|z
      ·rw[z];omega
      ·exact g2 x z
 exact gen h hm
theorem ok_bs{f:Addr}{fd:FuncData}(F:Fun K "box_stretched" "box_stretched" (top 29) f fd)(T:Txt mg)(C:CalsBs P w K mg base):FnOk P w K mg base CX0 6 f fd ["sides","box","factors"] (conSp K cBs):=by
 have S:=scBs
 refine wfn F S (fun cdv A outer s H E hr=>(s_cons (s_expr (w_fn C.ask_for_factors (hr.mono (by first|decide|omega)) (wa_cons (wx (w_callB ok_len (call_lenK (K:=K) rfl) T.len_ PySem.boot_len (wa_cons (wn 0) wa_nil))) (wa_cons (wn 2) wa_nil))))
     (s_cons (s_expr (w_fn C.ask_for_box (hr.mono (by first|decide|omega)) (wa_cons (wn 0) (wa_cons (wn 1) wa_nil))))
     (s_cons (s_set (i:=3) S.nd rfl (Or.inl rfl) (w_fn C.times (hr.mono (by first|decide|omega)) (wa_cons (wx (w_comp rfl (own:=["last"]) (fr:=[]) (by kernel_rfl) (i_seq rfl (w_ix rfl (wn 1) (wx w_int))) (fun _ _ _ _=>(g_name (i:=0) (by decide +kernel:List.Nodup (["last"]:List Str)) rfl (Or.inl rfl))) (fun _ _ _ _=>if0) (fun _ _ _ _=>(w_bin ok_add op_addD (wn 0) (wx w_int))))) (wa_cons (wn 2) wa_nil))))
     (s_one (s_ret (w_tup (wa_cons (wx (w_fn C.times (hr.mono (by first|decide|omega)) (wa_cons (wx (w_ix rfl (wn 1) (wx w_int))) (wa_cons (wn 2) wa_nil)))) (wa_cons (wx (w_callT ok_tuple (call_tupleK (K:=K) rfl) T.tuple_ boot_tuple (wa_cons (wx (w_comp rfl (own:=["number"]) (fr:=[]) (by kernel_rfl) (i_seq rfl (wv 3)) (fun _ _ _ _=>(g_name (i:=0) (by decide +kernel:List.Nodup (["number"]:List Str)) rfl (Or.inl rfl))) (fun _ _ _ _=>if0) (fun _ _ _ _=>(w_bin ok_sub op_sub (wn 0) (wx w_int))))) wa_nil))) wa_nil))))))))) ?_ ?_
 ·rintro args Qd ⟨sd,lo,hi,fs,rfl,_⟩;rfl
 ·rintro args Qd ⟨sd,lo,hi,fs,rfl,hsd,hb,hfl,hf,q⟩
  refine ⟨noOw_of rfl,?_⟩
  have h3:=hsd.l3
  obtain⟨l1,l2⟩:=bx_len hb
  obtain⟨b1,b2⟩:=bx_small hsd hb
  with_reducible refine cutS (fun ρ=>ρ=[some (.fz (tupD sd)),some (.fz (bxD lo hi)),some (.fz (tupD fs)),none]) ?_ ?_
  ·intro N hN
   refine ⟨fs,?_,by omega,hf,fun o=>hN _ rfl⟩
   show [Sl.fz (.int ((sd.map PyData.int).length:Nat)),Sl.fz (tupD fs)]=_
   rw[List.length_map,<- hfl]
  rintro _ rfl
  with_reducible refine cutS (fun ρ=>ρ=[some (.fz (tupD sd)),some (.fz (bxD lo hi)),some (.fz (tupD fs)),none]) ?_ ?_
  ·intro N hN
   exact ⟨sd,_,rfl,okD_bx lo hi,by omega,bx_isBx hb,fun o=>hN _ rfl⟩
  rintro _ rfl
  have ml:(mulL (hi.map fun x=>x+1) fs).length<=1000:=by unfold mulL;rw[List.length_map,List.length_zip];omega
  with_reducible refine cutS (fun ρ=>ρ=[some (.fz (tupD sd)),some (.fz (bxD lo hi)),some (.fz (tupD fs)),some (.fz (tupD (mulL (hi.map fun x=>x+1) fs)))]) ?_ ?_
  ·intro N hN
   refine ⟨_,rfl,by rw[List.length_map];exact le_size (by omega),mapC (fun d=>.int (unI d+1)) (fun d hd R hR=>?_) ?_⟩
   ·obtain⟨i,_,rfl⟩:=List.mem_map.mp hd
    exact hR
   ·have e:((hi.map PyData.int).map fun d=>PyData.int (unI d+1))=(hi.map fun x=>x+1).map PyData.int:=by rw[List.map_map,List.map_map];rfl
    rw[e]
    refine ⟨_,hi.map fun x=>x+1,fs,rfl,.inr rfl,by rw[List.length_map];omega,fun x hx=>?_,fun o=>hN _ rfl⟩
    obtain⟨y,hy,rfl⟩:=List.mem_map.mp hx
    have:=b2 y hy
    omega
  rintro _ rfl
  refine ⟨_,rfl,tupD lo,lo,fs,rfl,.inl rfl,by omega,fun x hx=>by have:=b1 x hx;omega,fun o=>?_⟩
  refine ⟨by rw[List.length_map];exact le_size (by omega),mapC (fun d=>.int (unI d - 1)) (fun d hd R hR=>?_) ?_⟩
  ·obtain⟨i,_,rfl⟩:=List.mem_map.mp hd
   exact hR
  ·have e:(((mulL (hi.map fun x=>x+1) fs).map PyData.int).map fun d=>PyData.int (unI d - 1))=((mulL (hi.map fun x=>x+1) fs).map fun x=>x - 1).map PyData.int:=by rw[List.map_map,List.map_map];rfl
   rw[e]
   exact q _
end
theorem Sd.b{sd:List Int}(h:Sd sd):∀c∈sd,1<=c/\c<=120:=fun c hc=>⟨h.p c hc,Int.le_trans (le_prodI h.p c hc) h.m⟩
section
variable {P:Program}{w:World}{K:PySem.W.Frag}{mg:Str->Option Value}{base:Heap}
noncomputable def cBox:Con:=fun args Q=>∃(ns:List Int) (k l:Int) (sd:List Int),args=[.io (penD ns k l),.fz (tupD sd)]/\0<=k/\0<=l/\Sd sd /\
 ∀(lo hi:List Int) (k' l':Int) (o:Ev),Bx lo hi sd->0<=k'->0<=l'->Q (.fz (bxD lo hi)) (some (.io (penD ns k' l')) :: o)
theorem scBox:FnScope ["_law_pen_here","_law_sides_here","_law_low","_law_high","_law_side","_law_one","_law_other"] ["_law_pen_here","_law_sides_here"] (defScope (top 40)):=⟨rfl,rfl,rfl,by decide +kernel,rfl,by decide +kernel,by decide +kernel⟩
theorem ok_box{f:Addr}{fd:FuncData}(F:Fun K "_law_box" "_law_box" (top 40) f fd)(T:Txt mg)(C:CalsB P w K mg base):FnOk P w K mg base CX0 2 f fd ["_law_pen_here","_law_sides_here"] (conSp K cBox):=by
 have S:=scBox
 refine wfn F S (fun cdv A outer s H E hr=>(s_cons (s_set (i:=2) S.nd rfl (Or.inl rfl) (w_lst wa_nil))
     (s_cons (s_set (i:=3) S.nd rfl (Or.inl rfl) (w_lst wa_nil))
     (s_cons (s_for [4,5,6] PassesOwn.never rfl (i_seq rfl (wv 1)) (g_name (i:=4) S.nd rfl (Or.inl rfl)) (s_cons (s_set (i:=5) S.nd rfl (Or.inl rfl) (w_fnI C.law_take (hr.mono (by first|decide|omega)) (wa_cons (wn 0) (wa_cons (wn 4) wa_nil))))
     (s_cons (s_set (i:=6) S.nd rfl (Or.inl rfl) (w_ix rfl (wx (w_lst (wa_cons (wx (w_fnI C.law_take (hr.mono (by first|decide|omega)) (wa_cons (wn 0) (wa_cons (wn 4) wa_nil)))) (wa_cons (wx (wv 5)) wa_nil)))) (wx (w_callT ok_int call_int1 T.int_ boot_int (wa_cons (wx (w_cmp ok_eq (op_eqE (K:=K) rfl hr.units) (wx (w_fnI C.law_take (hr.mono (by first|decide|omega)) (wa_cons (wn 0) (wa_cons (wx w_int) wa_nil)))) (wx w_int))) wa_nil)))))
     (s_cons (s_if (t_cmp ok_eq (op_eqE (K:=K) rfl hr.units) (wx (w_fnI C.law_take (hr.mono (by first|decide|omega)) (wa_cons (wn 0) (wa_cons (wx w_int) wa_nil)))) (wx w_int)) (s_one (s_par (i:=5) (j:=6) rfl S.nd rfl rfl (by decide) rfl rfl w_int (w_bin ok_sub op_sub (wn 4) (wx w_int)))) s_nil)
     (s_cons (s_expr (w_m ok_append rfl PySem.F.slot_list_append PySem.F.type_list_append mt_append (wn 2) (wa_cons (wx (w_callB ok_2I (call_min2 rfl) T.min_ boot_min (wa_cons (wn 5) (wa_cons (wn 6) wa_nil)))) wa_nil)))
     (s_one (s_expr (w_m ok_append rfl PySem.F.slot_list_append PySem.F.type_list_append mt_append (wn 3) (wa_cons (wx (w_callB ok_2I (call_max2 rfl) T.max_ boot_max (wa_cons (wn 5) (wa_cons (wn 6) wa_nil)))) wa_nil)))))))))
     (s_one (s_ret (w_tup (wa_cons (wx (w_callT ok_tuple (call_tupleK (K:=K) rfl) T.tuple_ boot_tuple (wa_cons (wn 2) wa_nil))) (wa_cons (wx (w_callT ok_tuple (call_tupleK (K:=K) rfl) T.tuple_ boot_tuple (wa_cons (wn 3) wa_nil))) wa_nil))))))))) ?_ ?_
 ·rintro args Qd ⟨ns,k,l,sd,rfl,_⟩;rfl
 ·rintro args Qd ⟨ns,k,l,sd,rfl,hk,hl,hsd,q⟩
  have h3:=hsd.l3
  refine ⟨noOw_of rfl,?_⟩
  refine loopC (fun rest ρ=>∃(dn lo hi rs:List Int) (k4 l4:Int),ρ=[some (.io (penD ns k4 l4)),some (.fz (tupD sd)),some (.ow (.list (lo.map PyData.int))),some (.ow (.list (hi.map PyData.int))),none,none,none] /\
      rest=rs.map PyData.int/\sd=dn++rs/\Bx lo hi dn/\0<=k4/\0<=l4) ?_ ?_
   ⟨[],[],[],sd,k,l,rfl,rfl,rfl,trivial,hk,hl⟩
  ·rintro d ds ρ ⟨dn,lo,hi,rs,k4,l4,rfl,er,hsp,hbx,hk4,hl4⟩ N hN
   cases rs with
   | nil=>cases er
   | cons s rs =>
    cases er
    have hs:=hsd.b s (by rw[hsp];simp)
    have hdl:dn.length<=3:=by have:=congrArg List.length hsp;simp at this;omega
    obtain⟨g1,g2⟩:=bx_len hbx
    have hz1:(lo.map PyData.int).length < sizeLine:=by rw[List.length_map];exact Nat.lt_of_lt_of_le (show lo.length < 1000 by omega) (by decide)
    have hz2:(hi.map PyData.int).length < sizeLine:=by rw[List.length_map];exact Nat.lt_of_lt_of_le (show hi.length < 1000 by omega) (by decide)
    refine ⟨ns,k4,l4,_,rfl,hk4,hl4,by omega,by omega,fun a k5 l5 _ a0 a1 hk5 hl5=>?_⟩
    refine ⟨ns,k5,l5,_,rfl,hk5,hl5,by omega,by omega,fun b k6 l6 _ b0 b1 hk6 hl6=>?_⟩
    refine ⟨ns,k6,l6,_,rfl,hk6,hl6,by decide,by decide,fun c k7 l7 _ c0 c1 hk7 hl7=>?_⟩
    have pick:∃x:Int,atI [PyData.int b,PyData.int a] (if decide (c=0)=true then 1 else 0)=some (.int x)/\0<=x/\x < s:=by
     split
     ·exact ⟨a,rfl,a0,a1⟩
     ·exact ⟨b,rfl,b0,b1⟩
    obtain⟨x,hx,x0,x1⟩:=pick
    refine ⟨_,hx,?_⟩
    refine ⟨ns,k7,l7,_,rfl,hk7,hl7,by decide,by decide,fun e k8 l8 _ e0 e1 hk8 hl8=>?_⟩
    have fin:∀u v:Int,0<=u->u<=v->v < s->Bx (lo++[u]) (hi++[v]) (dn++[s]):=fun u v=>bx_snoc hbx
    refine ite2 (fun h=>?_) (fun h=>?_)
    ·exact ⟨hz1,hz2,hN _ ⟨dn++[s],lo++[_],hi++[_],rs,k8,l8,by rw[List.map_append,List.map_append];rfl,rfl,by rw[hsp];simp,fin _ _ (by split<;>omega) (by split<;>split<;>omega) (by split<;>omega),hk8,hl8⟩⟩
    ·exact ⟨hz1,hz2,hN _ ⟨dn++[s],lo++[_],hi++[_],rs,k8,l8,by rw[List.map_append,List.map_append];rfl,rfl,by rw[hsp];simp,fin _ _ (by split<;>omega) (by split<;>split<;>omega) (by split<;>omega),hk8,hl8⟩⟩
  ·rintro ρ ⟨dn,lo,hi,rs,k4,l4,rfl,er,hsp,hbx,hk4,hl4⟩
   cases rs with
   | nil=>exact q lo hi k4 l4 _ (by rw[hsp,List.append_nil];exact hbx) hk4 hl4
   | cons _ _=>cases er
end
noncomputable def dcP(sd cl:List Int):List (List Int×PyData):=((plc sd).zip cl).map fun q=>(q.1,.int q.2)
theorem at_last(ss:List Int)(z:Int):atI ((ss++[z]).map PyData.int) (-1)=some (.int z):=by
 unfold atI ixN
 rw[if_neg (by decide),List.length_map,List.length_append,List.length_singleton,if_pos (by omega)]
 show ((ss++[z]).map PyData.int)[((-1:Int)+((ss.length+1:Nat):Int)).toNat]?=_
 rw[show ((-1:Int)+((ss.length+1:Nat):Int)).toNat=ss.length by omega]
 simp
theorem prodI_mul:∀{sd fs:List Int},fs.length=sd.length->prodI (mulL sd fs)=prodI sd * prodI fs
 | [],[],_=>rfl
 | s :: sd,f :: fs,h=>by
  have ih:=prodI_mul (sd:=sd) (fs:=fs) (by simpa using h)
  show (s * f) * prodI (mulL sd fs)=s * prodI sd * (f * prodI fs)
  rw[ih,Int.mul_assoc,Int.mul_assoc,Int.mul_left_comm f]
 | [],_ :: _,h=>by simp at h
 | _ :: _,[],h=>by simp at h
theorem Sd.mul{sd fs:List Int}(hs:Sd sd)(hl:fs.length=sd.length)(hf:∀f∈fs,1<=f)(hm:prodI fs * prodI sd<=120):Sd (mulL sd fs):=by
 have e:(mulL sd fs).length=sd.length:=by unfold mulL;rw[List.length_map,List.length_zip,hl,Nat.min_self]
 refine ⟨by rw[e];exact hs.l1,by rw[e];exact hs.l3,fun c hc=>?_,by rw[prodI_mul hl,Int.mul_comm];exact hm⟩
 obtain⟨u,hu,rfl⟩:=List.mem_map.mp hc
 have h1:=hs.p u.1 (List.of_mem_zip hu).1
 have h2:=hf u.2 (List.of_mem_zip hu).2
 have:=Int.mul_le_mul h1 h2 (by decide) (by omega)
 omega
section
variable {P:Program}{w:World}{K:PySem.W.Frag}{mg:Str->Option Value}{base:Heap}
structure CalsKn(P:Program)(w:World)(K:PySem.W.Frag)(mg:Str->Option Value)(base:Heap):Prop where
 law_all:Cal P w K mg base 2 "_law_all" ["_law_sides_here"] (conSp K cAllL)
noncomputable def cKnown:Con:=fun args Q=>∃sd cl:List Int,args=[.fz (fldD sd cl)]/\Sd sd/\cl.length=(plc sd).length/\∀o,Q (.fz (pdD (dcP sd cl))) o
theorem scKnown:FnScope ["_law_field_here"] ["_law_field_here"] (defScope (top 39)):=⟨rfl,rfl,rfl,by decide +kernel,rfl,by decide +kernel,by decide +kernel⟩
theorem ok_known{f:Addr}{fd:FuncData}(F:Fun K "_law_known" "_law_known" (top 39) f fd)(T:Txt mg)(C:CalsKn P w K mg base):FnOk P w K mg base CX0 3 f fd ["_law_field_here"] (conSp K cKnown):=by
 have S:=scKnown
 refine wfn F S (fun cdv A outer s H E hr=>(s_one (s_ret (w_DP rfl rfl (hu2_of hr) T.dict_ (by decide +kernel) T.zip_ (wa_cons (wx (w_fn C.law_all (hr.mono (by first|decide|omega)) (wa_cons (wx (w_ix rfl (wn 0) (wx w_int))) wa_nil))) (wa_cons (wx (w_ix rfl (wn 0) (wx w_int))) wa_nil)))))) ?_ ?_
 ·rintro args Qd ⟨sd,cl,rfl,_⟩;rfl
 ·rintro args Qd ⟨sd,cl,rfl,hsd,hcl,q⟩
  refine ⟨noOw_of rfl,?_⟩
  refine ⟨_,rfl,_,sd,rfl,.inr rfl,hsd,fun _=>?_⟩
  have e1:(dcP sd cl).map (·.1)=plc sd:=by
   unfold dcP
   rw[List.map_map]
   show ((plc sd).zip cl).map Prod.fst=plc sd
   rw[List.map_fst_zip]
   omega
  have e2:(dcP sd cl).map (·.2)=cl.map PyData.int:=by
   unfold dcP
   rw[List.map_map]
   show ((plc sd).zip cl).map (PyData.int ∘ Prod.snd)=_
   rw[<- List.map_map,List.map_snd_zip]
   omega
  refine ⟨_,rfl,dcP sd cl,?_,?_,?_,q _⟩
  ·have:((dcP sd cl).map fun p=>tI p.1)=((dcP sd cl).map (·.1)).map tI:=by rw[List.map_map];rfl
   rw[this,e1]
   rfl
  ·rw[e2]
   rfl
  ·rw[e1]
   exact plc_nodup hsd.p
structure CalsLd(P:Program)(w:World)(K:PySem.W.Frag)(mg:Str->Option Value)(base:Heap):Prop where
 law_all:Cal P w K mg base 2 "_law_all" ["_law_sides_here"] (conSp K cAllL)
noncomputable def cLaid:Con:=fun args Q=>∃(sd:List Int) (ps:List (List Int×PyData)) (g:List Int->Int),args=[.fz (.list (sd.map PyData.int)),.fz (pdD ps)]/\Sd sd/\(∀p∈plc sd,(p,.int (g p))∈ps)/\∀o,Q (.fz (fldD sd ((plc sd).map g))) o
theorem scLaid:FnScope ["_law_sides_here","_law_known_here"] ["_law_sides_here","_law_known_here"] (defScope (top 42)):=⟨rfl,rfl,rfl,by decide +kernel,rfl,by decide +kernel,by decide +kernel⟩
theorem ok_laid{f:Addr}{fd:FuncData}(F:Fun K "_law_laid" "_law_laid" (top 42) f fd)(T:Txt mg)(C:CalsLd P w K mg base):FnOk P w K mg base CX0 3 f fd ["_law_sides_here","_law_known_here"] (conSp K cLaid):=by
 have S:=scLaid
 refine wfn F S (fun cdv A outer s H E hr=>(s_one (s_ret (w_tup (wa_cons (wx (w_callT ok_tuple (call_tupleK (K:=K) rfl) T.tuple_ boot_tuple (wa_cons (wn 0) wa_nil))) (wa_cons (wx (w_callT ok_tuple (call_tupleK (K:=K) rfl) T.tuple_ boot_tuple (wa_cons (wx (w_comp rfl (own:=["_law_place"]) (fr:=[1]) (by kernel_rfl) (i_seq rfl (w_fn C.law_all (hr.mono (by first|decide|omega)) (wa_cons (wn 0) wa_nil))) (fun _ _ _ _=>(g_name (i:=0) (by decide +kernel:List.Nodup (["_law_place","_law_known_here"]:List Str)) rfl (Or.inl rfl))) (fun _ _ _ _=>if0) (fun _ _ _ _=>(w_pget (hu6_of hr) (wn 1) (wn 0))))) wa_nil))) wa_nil)))))) ?_ ?_
 ·rintro args Qd ⟨sd,ps,g,rfl,_⟩;rfl
 ·rintro args Qd ⟨sd,ps,g,rfl,hsd,hg,q⟩
  refine ⟨noOw_of rfl,?_⟩
  have hm:=hsd.m
  have hpl:=plc_len hsd.p
  refine ⟨_,sd,rfl,.inl rfl,hsd,fun o=>?_⟩
  refine ⟨by rw[List.length_map];exact le_size (by omega),mapC (fun d=>.int (g (unT d))) (fun d hd N hN=>?_) ?_⟩
  ·obtain⟨p,hp,rfl⟩:=List.mem_map.mp hd
   have e:unT (tupD p)=p:=unT_tup p
   rw[e]at hN
   exact ⟨ps,p,.int (g p),rfl,rfl,hg p hp,hN⟩
  ·have e:((plc sd).map tupD).map (fun d=>PyData.int (g (unT d)))=((plc sd).map g).map PyData.int:=by
    rw[List.map_map,List.map_map]
    refine List.map_congr_left fun p _=>?_
    show PyData.int (g (unT (tupD p)))=_
    rw[unT_tup]
    rfl
   rw[e]
   exact q _
noncomputable def cFac:Con:=fun args Q=>∃(ns:List Int) (k l:Int) (sd:List Int),args=[.io (penD ns k l),.fz (tupD sd)]/\0<=k/\0<=l/\Sd sd/\∀(fs:List Int) (k' l':Int) (o:Ev),fs.length=sd.length->(∀f∈fs,1<=f/\f<=4)->Sd (mulL sd fs)->0<=k'->0<=l'->Q (.fz (tupD fs)) (some (.io (penD ns k' l')) :: o)
theorem scFac:FnScope ["_law_pen_here","_law_sides_here","_law_left","_law_side","_law_found"] ["_law_pen_here","_law_sides_here"] (defScope (top 41)):=⟨rfl,rfl,rfl,by decide +kernel,rfl,by decide +kernel,by decide +kernel⟩
theorem ok_fac{f:Addr}{fd:FuncData}(F:Fun K "_law_factors" "_law_factors" (top 41) f fd)(T:Txt mg)(C:CalsB P w K mg base):FnOk P w K mg base CX0 2 f fd ["_law_pen_here","_law_sides_here"] (conSp K cFac):=by
 have S:=scFac
 refine wfn F S (fun cdv A outer s H E hr=>(s_cons (s_set (i:=2) S.nd rfl (Or.inl rfl) w_int)
     (s_cons (s_for [3] PassesOwn.never rfl (i_seq rfl (wv 1)) (g_name (i:=3) S.nd rfl (Or.inl rfl)) (s_one (s_set (i:=2) S.nd rfl (Or.inl rfl) (w_bin ok_fdiv op_fdiv (wn 2) (wn 3)))))
     (s_cons (s_set (i:=4) S.nd rfl (Or.inl rfl) (w_lst wa_nil))
     (s_cons (s_for [3] PassesOwn.never rfl (i_seq rfl (wv 1)) (g_name (i:=3) S.nd rfl (Or.inl rfl)) (s_cons (s_expr (w_m ok_append rfl PySem.F.slot_list_append PySem.F.type_list_append mt_append (wn 4) (wa_cons (wx (w_bin ok_add op_addD (wx w_int) (wx (w_fnI C.law_take (hr.mono (by first|decide|omega)) (wa_cons (wn 0) (wa_cons (wx (w_callB ok_2I (call_min2 rfl) T.min_ boot_min (wa_cons (wn 2) (wa_cons (wx w_int) wa_nil)))) wa_nil)))))) wa_nil)))
     (s_one (s_set (i:=2) S.nd rfl (Or.inl rfl) (w_bin ok_fdiv op_fdiv (wn 2) (wx (w_ix rfl (wn 4) (wx (w_neg (wx w_int))))))))))
     (s_one (s_ret (w_callT ok_tuple (call_tupleK (K:=K) rfl) T.tuple_ boot_tuple (wa_cons (wn 4) wa_nil))))))))) ?_ ?_
 ·rintro args Qd ⟨ns,k,l,sd,rfl,_⟩;rfl
 ·rintro args Qd ⟨ns,k,l,sd,rfl,hk,hl,hsd,q⟩
  refine ⟨noOw_of rfl,?_⟩
  have h3:=hsd.l3
  have hm:=hsd.m
  have hp:=hsd.p
  with_reducible refine cutS (fun ρ=>ρ=[some (.io (penD ns k l)),some (.fz (tupD sd)),some (.fz (.int 120)),none,none]) ?_ ?_
  ·intro N hN
   exact hN _ rfl
  rintro _ rfl
  with_reducible refine cutS (fun ρ=>∃lf:Int,1<=lf/\lf<=120/\lf * prodI sd<=120/\ρ=[some (.io (penD ns k l)),some (.fz (tupD sd)),some (.fz (.int lf)),none,none]) ?_ ?_
  ·intro NE hE
   refine loopC (fun rest ρ=>∃(dn rs:List Int) (lf:Int),sd=dn++rs/\rest=rs.map PyData.int/\0<=lf/\lf<=120/\lf * prodI dn<=120/\120 < (lf+1) * prodI dn/\ρ=[some (.io (penD ns k l)),some (.fz (tupD sd)),some (.fz (.int lf)),none,none]) ?_ ?_ ⟨[],sd,120,rfl,rfl,by decide,by decide,by decide,by decide,rfl⟩
   ·rintro d ds ρ ⟨dn,rs,lf,es,er,l0,l1,l2,l4,rfl⟩ N hN
    cases rs with
    | nil=>cases er
    | cons s rs =>
     cases er
     have hs:=hsd.b s (by rw[es];simp)
     have hd1:1<=prodI dn:=prodI_pos fun c hc=>hp c (by rw[es];simp[hc])
     have e1:prodI (dn++[s])=prodI dn * s:=by rw[prodI_append];show prodI dn * (s * 1)=_;rw[Int.mul_one]
     have a1:lf / s * s<=lf:=Int.ediv_mul_le _ (by omega)
     have a2:lf < (lf / s+1) * s:=Int.lt_ediv_add_one_mul_self _ (by omega)
     have a0:0<=lf / s:=Int.ediv_nonneg l0 (by omega)
     have a3:lf / s<=lf:=Int.ediv_le_self _ l0
     refine ⟨⟨by omega,by omega⟩,hN _ ⟨dn++[s],rs,lf / s,by rw[es];simp,rfl,a0,by omega,?_,?_,rfl⟩⟩
     ·rw[e1]
      have:=Int.mul_le_mul_of_nonneg_right a1 (show 0<=prodI dn by omega)
      have e:lf / s * (prodI dn * s)=lf / s * s * prodI dn:=by rw[Int.mul_assoc,Int.mul_comm (prodI dn)]
      rw[e]
      omega
     ·rw[e1]
      have:=Int.mul_le_mul_of_nonneg_right (show lf+1<=(lf / s+1) * s by omega) (show 0<=prodI dn by omega)
      have e:(lf / s+1) * (prodI dn * s)=(lf / s+1) * s * prodI dn:=by rw[Int.mul_assoc,Int.mul_comm (prodI dn)]
      rw[e]
      omega
   ·rintro ρ ⟨dn,rs,lf,es,er,l0,l1,l2,l4,rfl⟩
    cases rs with
    | cons _ _=>cases er
    | nil =>
     rw[List.append_nil]at es
     subst es
     have:1<=lf:=by
      rcases Int.lt_or_le lf 1 with z|z
      ·have:lf=0:=by omega
       rw[this,Int.zero_add,Int.one_mul]at l4
       omega
      ·exact z
     exact hE _ ⟨lf,this,l1,l2,rfl⟩
  rintro _ ⟨lf,l1,l12,l2,rfl⟩
  with_reducible refine cutS (fun ρ=>ρ=[some (.io (penD ns k l)),some (.fz (tupD sd)),some (.fz (.int lf)),none,some (.ow (.list []))]) ?_ ?_
  ·intro N hN
   exact hN _ rfl
  rintro _ rfl
  with_reducible refine cutS (fun ρ=>∃(fs:List Int) (lf k l:Int),fs.length=sd.length/\(∀f∈fs,1<=f/\f<=4)/\1<=lf/\lf * prodI fs * prodI sd<=120/\(0<=k/\0<=l)/\ρ=[some (.io (penD ns k l)),some (.fz (tupD sd)),some (.fz (.int lf)),none,some (.ow (.list (fs.map PyData.int)))]) ?_ ?_
  ·intro NE hE
   refine loopC (fun rest ρ=>∃(dn rs fs:List Int) (lf k l:Int),sd=dn++rs/\rest=rs.map PyData.int/\fs.length=dn.length/\(∀f∈fs,1<=f/\f<=4)/\1<=lf/\lf<=120/\lf * prodI fs * prodI sd<=120/\(0<=k/\0<=l)/\ρ=[some (.io (penD ns k l)),some (.fz (tupD sd)),some (.fz (.int lf)),none,some (.ow (.list (fs.map PyData.int)))]) ?_ ?_ ⟨[],sd,[],lf,k,l,rfl,rfl,rfl,fun f hf=>(by cases hf),l1,l12,by show lf * 1 * prodI sd<=120;rw[Int.mul_one];exact l2,⟨hk,hl⟩,rfl⟩
   ·clear hk hl l1 l12 l2
    rintro d ds ρ ⟨dn,rs,fs,lf,k,l,es,er,hfl,hf,l1,l12,l2,⟨hk,hl⟩,rfl⟩ N hN
    cases rs with
    | nil=>cases er
    | cons s rs =>
     cases er
     have hmin:1<=(if 4 < lf then 4 else lf)/\(if 4 < lf then 4 else lf)<=4/\(if 4 < lf then 4 else lf)<=lf:=by split<;>omega
     generalize hmm:(if 4 < lf then 4 else lf)=m at hmin
     have hdl:=congrArg List.length es
     rw[List.length_append]at hdl
     with_reducible refine gnC rfl ?_
     with_reducible refine cutS (fun ρ=>∃(f k l:Int),1<=f/\f<=4/\f<=lf/\(0<=k/\0<=l)/\ρ=[some (.io (penD ns k l)),some (.fz (tupD sd)),some (.fz (.int lf)),some (.fz (.int s)),some (.ow (.list ((fs++[f]).map PyData.int)))]) ?_ ?_
     ·intro M hM
      refine ⟨ns,k,l,m,by rw[<- hmm];rfl,hk,hl,by omega,by omega,fun r k1 l1' _ r0 r1 hk1 hl1=>?_⟩
      refine ⟨by rw[List.length_map];exact Nat.lt_of_le_of_lt (show fs.length<=3 by omega) (by decide),hM _ ⟨1+r,k1,l1',by omega,by omega,by omega,⟨hk1,hl1⟩,by rw[List.map_append];rfl⟩⟩
     clear hk hl
     rintro _ ⟨f,k,l,f1,f4,flf,⟨hk,hl⟩,rfl⟩
     have a1:lf / f * f<=lf:=Int.ediv_mul_le _ (by omega)
     have a2:1<=lf / f:=Int.le_ediv_of_mul_le (by omega) (by omega)
     have a3:lf / f<=lf:=Int.ediv_le_self _ (by omega)
     have hfp:1<=prodI fs:=prodI_pos fun c hc=>(hf c hc).1
     have hsp:1<=prodI sd:=prodI_pos hp
     have e1:prodI (fs++[f])=prodI fs * f:=by rw[prodI_append];show prodI fs * (f * 1)=_;rw[Int.mul_one]
     refine ⟨_,at_last fs f,⟨by omega,by omega⟩,hN _ ⟨dn++[s],rs,fs++[f],lf / f,k,l,by rw[es];simp,rfl,by simp[hfl],fun c hc=>?_,a2,by omega,?_,⟨hk,hl⟩,rfl⟩⟩
     ·rcases List.mem_append.mp hc with z|z
      ·exact hf c z
      ·rw[List.mem_singleton.mp z];omega
     ·rw[e1]
      have b1:=Int.mul_le_mul_of_nonneg_right (Int.mul_le_mul_of_nonneg_right a1 (show 0<=prodI fs by omega)) (show 0<=prodI sd by omega)
      have e:lf / f * (prodI fs * f)=lf / f * f * prodI fs:=by rw[Int.mul_assoc,Int.mul_comm (prodI fs)]
      rw[e]
      omega
   ·rintro ρ ⟨dn,rs,fs,lf,k,l,es,er,hfl,hf,l1,l12,l2,hkl,rfl⟩
    cases rs with
    | cons _ _=>cases er
    | nil =>
     rw[List.append_nil]at es
     subst es
     exact hE _ ⟨fs,lf,k,l,hfl,hf,l1,l2,hkl,rfl⟩
  clear hk hl l1 l12 l2
  rintro _ ⟨fs,lf,k,l,hfl,hf,l1,l2,⟨hk,hl⟩,rfl⟩
  have hfp:1<=prodI fs:=prodI_pos fun c hc=>(hf c hc).1
  have hsp:1<=prodI sd:=prodI_pos hp
  refine q fs k l _ hfl hf (hsd.mul hfl (fun f h=>(hf f h).1) ?_) hk hl
  have b1:=Int.mul_le_mul_of_nonneg_right (Int.mul_le_mul_of_nonneg_right l1 (show 0<=prodI fs by omega)) (show 0<=prodI sd by omega)
  rw[Int.one_mul]at b1
  omega
end
theorem eachA_acc:∀(cs acc:List (List Int)),eachA acc cs=acc.flatMap fun a=>(eachA [[]] cs).map fun t=>a++t
 | [],acc=>by
  show acc=acc.flatMap fun a=>[a++[]]
  simp
 | c :: cs,acc=>by
  show eachA (acc.flatMap fun p=>c.map fun x=>p++[x]) cs=acc.flatMap fun a=>(eachA ([[]].flatMap fun p=>c.map fun x=>p++[x]) cs).map fun t=>a++t
  rw[eachA_acc cs (acc.flatMap _),eachA_acc cs ([[]].flatMap _)]
  simp[List.flatMap_assoc,List.map_flatMap,List.flatMap_map,Function.comp_def]
theorem eachA_cons(c:List Int)(cs:List (List Int)):eachA [[]] (c :: cs)=c.flatMap fun x=>(eachA [[]] cs).map fun t=>x :: t:=by
 show eachA ([[]].flatMap fun p=>c.map fun x=>p++[x]) cs=_
 rw[eachA_acc]
 simp[List.flatMap_map]
theorem btw_mov:∀{lo hi sd:List Int},Bx lo hi sd->btw lo hi=(plc (sdB lo hi)).map fun p=>movL p lo
 | [],[],[],_=>rfl
 | a :: lo,b :: hi,s :: sd,h=>by
  have ih:=btw_mov h.2
  have hx:=h.1
  have e1:btw (a :: lo) (b :: hi)=(rng2 a b).flatMap fun x=>(btw lo hi).map fun t=>x :: t:=eachA_cons _ _
  have e2:plc (sdB (a :: lo) (b :: hi))=(rng (b - a+1)).flatMap fun x=>(plc (sdB lo hi)).map fun t=>x :: t:=eachA_cons _ _
  have e3:rng2 a b=(rng (b - a+1)).map fun x=>x+a:=by
   unfold rng2 rng
   rw[List.map_map,show (b+1 - a).toNat=(b - a+1).toNat by omega]
   refine List.map_congr_left fun n _=>?_
   show a+(n:Int)=(n:Int)+a
   omega
  rw[e1,e2,e3,ih,List.map_flatMap,List.flatMap_map]
  congr 1
  funext x
  rw[List.map_map,List.map_map]
  rfl
 | [],[],_ :: _,h=>h.elim
 | [],_ :: _,z,h=>by cases z<;>exact h.elim
 | _ :: _,[],z,h=>by cases z<;>exact h.elim
 | _ :: _,_ :: _,[],h=>h.elim
noncomputable def blo(p fs:List Int):List Int:=mulL p fs
noncomputable def bhi(l fs:List Int):List Int:=(l.zip fs).map fun q=>q.1+q.2 - 1
theorem blk_in:∀{p fs q:List Int},fs.length=p.length->(∀f∈fs,1<=f)->(InW q (((blo p fs).zip (bhi (blo p fs) fs)).map fun u=>rng2 u.1 u.2) ↔ (q.length=fs.length/\shrL q fs=p))
 | [],[],[],_,_=>⟨fun _=>⟨rfl,rfl⟩,fun _=>trivial⟩
 | [],[],_ :: _,_,_=>⟨fun h=>h.elim,fun h=>by simp at h⟩
 | a :: p,f :: fs,[],_,_=>⟨fun h=>h.elim,fun h=>by simp at h⟩
 | a :: p,f :: fs,x :: q,hl,hf=>by
  have ih:=blk_in (p:=p) (fs:=fs) (q:=q) (by simpa using hl) fun g hg=>hf g (by simp[hg])
  have hf1:=hf f (by simp)
  have h1:x∈rng2 (a * f) (a * f+f - 1) ↔ x / f=a:=by
   unfold rng2
   constructor
   ·intro h
    obtain⟨n,hn,rfl⟩:=List.mem_map.mp h
    have:=List.mem_range.mp hn
    rw[Int.add_comm,Int.add_mul_ediv_right _ _ (by omega),Int.ediv_eq_zero_of_lt (by omega) (by omega),Int.zero_add]
   ·intro h
    have b1:=Int.ediv_mul_le x (show f≠0 by omega)
    have b2:=Int.lt_ediv_add_one_mul_self x (show 0 < f by omega)
    rw[h]at b1 b2
    rw[Int.add_mul,Int.one_mul]at b2
    exact List.mem_map.mpr ⟨(x - a * f).toNat,List.mem_range.mpr (by omega),by omega⟩
  show (x∈rng2 (a * f) (a * f+f - 1)/\InW q (((blo p fs).zip (bhi (blo p fs) fs)).map fun u=>rng2 u.1 u.2)) ↔ (q.length+1=fs.length+1/\x / f :: shrL q fs=a :: p)
  rw[h1,ih]
  constructor
  ·rintro⟨h1,h2,h3⟩
   exact ⟨by omega,by rw[h1,h3]⟩
  ·rintro⟨h1,h2⟩
   injection h2 with h2 h3
   exact ⟨h2,by omega,h3⟩
 | [],_ :: _,_,hl,_=>by simp at hl
 | _ :: _,[],_,hl,_=>by simp at hl
theorem blk_mem{p fs q:List Int}(hl:fs.length=p.length)(hf:∀f∈fs,1<=f):q∈btw (blo p fs) (bhi (blo p fs) fs) ↔ (q.length=fs.length/\shrL q fs=p):=by
 rw[<- blk_in hl hf]
 exact ⟨fun h=>each_mem0 h,fun h=>each_in2 (a:=[]) (by simp) h⟩
theorem blk_len:∀{p fs:List Int},fs.length=p.length->(∀f∈fs,1<=f)->(lenP (((blo p fs).zip (bhi (blo p fs) fs)).map fun u=>rng2 u.1 u.2):Int)=prodI fs
 | [],[],_,_=>rfl
 | a :: p,f :: fs,hl,hf=>by
  have ih:=blk_len (p:=p) (fs:=fs) (by simpa using hl) fun g hg=>hf g (by simp[hg])
  have hf1:=hf f (by simp)
  show (((rng2 (a * f) (a * f+f - 1)).length * lenP (((blo p fs).zip (bhi (blo p fs) fs)).map fun u=>rng2 u.1 u.2):Nat):Int)=f * prodI fs
  rw[Int.natCast_mul,ih]
  congr 1
  unfold rng2
  rw[List.length_map,List.length_range]
  omega
 | [],_ :: _,hl,_=>by simp at hl
 | _ :: _,[],hl,_=>by simp at hl
theorem blk_bnd:∀{p fs sd:List Int},Wi p sd->fs.length=sd.length->(∀f∈fs,1<=f/\f<=4)->(∀c∈sd,c<=120)->∀u∈(blo p fs).zip (bhi (blo p fs) fs),0<=u.1/\u.1<=u.2/\u.2<=1000
 | [],[],[],_,_,_,_,u,hu=>by cases hu
 | a :: p,f :: fs,s :: sd,h,hl,hf,hc,u,hu=>by
  have hu:u∈(a * f,a * f+f - 1) :: (blo p fs).zip (bhi (blo p fs) fs):=hu
  rcases List.mem_cons.mp hu with z|z
  ·rw[z]
   have h1:=h.1
   have h2:=hf f (by simp)
   have h3:=hc s (by simp)
   have b1:=Int.mul_nonneg h1.1 (show 0<=f by omega)
   have b2:=Int.mul_le_mul (show a<=119 by omega) h2.2 (by omega) (by decide)
   exact ⟨b1,by show a * f<=a * f+f - 1;omega,by show a * f+f - 1<=1000;omega⟩
  ·exact blk_bnd h.2 (by simpa using hl) (fun g hg=>hf g (by simp[hg])) (fun c hc'=>hc c (by simp[hc'])) u z
 | [],_ :: _,[],_,hl,_,_,_,_=>by simp at hl
 | [],_,_ :: _,h,_,_,_,_,_=>h.elim
 | _ :: _,_,[],h,_,_,_,_,_=>h.elim
 | _ :: _,[],_ :: _,_,hl,_,_,_,_=>by simp at hl
theorem put_mem{ps:List (List Int×PyData)}{k:List Int}{d:PyData}:(k,d)∈putPs ps k d:=by
 unfold putPs
 split
 ·rename_i h
  obtain⟨x,hx,e⟩:=List.mem_map.mp h
  have e:x.1=k:=e
  exact List.mem_map.mpr ⟨x,hx,by rw[if_pos e,e]⟩
 ·simp
theorem put_old{ps:List (List Int×PyData)}{k:List Int}{d:PyData}{x:List Int×PyData}(hx:x∈ps)(h:x.1=k->x.2=d):x∈putPs ps k d:=by
 unfold putPs
 split
 ·refine List.mem_map.mpr ⟨x,hx,?_⟩
  split
  ·rename_i e
   rw[<- h e]
  ·rfl
 ·exact List.mem_append_left _ hx
theorem put_inv{ps:List (List Int×PyData)}{k:List Int}{d:PyData}{x:List Int×PyData}(hx:x∈putPs ps k d):x∈ps\/x=(k,d):=by
 unfold putPs at hx
 split at hx
 ·obtain⟨y,hy,e⟩:=List.mem_map.mp hx
  split at e
  ·rename_i z
   rw[z]at e
   exact .inr e.symm
  ·rw[<- e];exact .inl hy
 ·rcases List.mem_append.mp hx with z|z
  ·exact .inl z
  ·exact .inr (List.mem_singleton.mp z)
theorem put_len{ps:List (List Int×PyData)}{k:List Int}{d:PyData}:(putPs ps k d).length<=ps.length+1:=by
 unfold putPs
 split
 ·rw[List.length_map];omega
 ·rw[List.length_append];exact Nat.le_refl _
theorem it_tup{n:Nat}{l:List Int}(h:l.length<=1000):IT (n+1) (tupD l):=.inr ⟨_,.inr rfl,by rw[List.length_map];omega,fun x hx=>by
  obtain⟨i,_,rfl⟩:=List.mem_map.mp hx
  exact it_int n i⟩
theorem it_two{a b:List Int}(ha:a.length<=1000)(hb:b.length<=1000):IT 2 (.tuple [tupD a,tupD b]):=.inr ⟨_,.inr rfl,by show 2<=20000;decide,fun x hx=>by
  simp only[List.mem_cons,List.not_mem_nil,or_false]at hx
  rcases hx with rfl|rfl
  · exact it_tup ha
  · exact it_tup hb⟩
theorem end_is:∀hi fs:List Int,(mulL (hi.map fun x=>x+1) fs).map (fun x=>x - 1)=(hi.zip fs).map fun p=>p.1 * p.2+p.2 - 1
 | [],_=>rfl
 | _ :: _,[]=>rfl
 | x :: hi,f :: fs=>by
  have ih:=end_is hi fs
  show ((x+1) * f - 1) :: (mulL (hi.map fun x=>x+1) fs).map (fun x=>x - 1)=(x * f+f - 1) :: _
  rw[ih,Int.add_mul,Int.one_mul]
  rfl
theorem dcP_mem{sd cl p:List Int}(hp:∀c∈sd,1<=c)(hl:cl.length=(plc sd).length)(h:Wi p sd):(p,.int (cel sd cl p))∈dcP sd cl:=by
 obtain⟨k,hk,e⟩:=List.getElem_of_mem (wi_mem h)
 have h1:(plc sd)[k]?=some p:=by rw[List.getElem?_eq_getElem hk,e]
 have h2:=(plc_at hp h1).2
 have hk2:k < cl.length:=by omega
 refine List.mem_map.mpr ⟨(p,cl[k]),?_,?_⟩
 ·have e2:((plc sd).zip cl)[k]'(by rw[List.length_zip];omega)=(p,cl[k]):=by rw[List.getElem_zip,e]
  rw[<- e2]
  exact List.getElem_mem _
 ·show (p,PyData.int cl[k])=_
  unfold cel
  rw[h2,Int.toNat_natCast,List.getD_eq_getElem?_getD,List.getElem?_eq_getElem hk2]
  rfl
theorem dcP_keys{sd cl:List Int}(hl:cl.length=(plc sd).length):firsts ((dcP sd cl).map fun p=>PyData.tuple [tI p.1,p.2])=(plc sd).map tupD:=by
 rw[firsts_pd]
 unfold dcP
 rw[List.map_map]
 show ((plc sd).zip cl).map (tupD ∘ Prod.fst)=_
 rw[<- List.map_map,List.map_fst_zip]
 omega
theorem btw_lenP{lo hi sd:List Int}(hs:Sd sd)(h:Bx lo hi sd):lenP ((lo.zip hi).map fun p=>rng2 p.1 p.2)<=1000:=by
 have h1:(btw lo hi).length=lenP ((lo.zip hi).map fun p=>rng2 p.1 p.2):=by
  unfold btw
  rw[eachA_len]
  simp
 have hs2:=hs.box h
 have h2:=plc_len hs2.p
 have h3:=hs2.m
 rw[btw_mov h,List.length_map]at h1
 omega
theorem bx_bnd{lo hi sd:List Int}(hs:Sd sd)(h:Bx lo hi sd):∀p∈lo.zip hi,0<=p.1/\p.1<=p.2/\p.2<=1000:=by
 have gen:∀{lo hi sd:List Int},Bx lo hi sd->∀p∈lo.zip hi,p.1<=p.2:=by
  intro lo
  induction lo with
  | nil=>intro hi sd _ p hp;cases hp
  | cons a lo ih =>
   intro hi sd h p hp
   cases hi with
   | nil=>cases hp
   | cons b hi =>
    cases sd with
    | nil=>exact h.elim
    | cons s sd =>
     rcases List.mem_cons.mp hp with z|z
     ·rw[z];exact h.1.2.1
     ·exact ih h.2 p z
 obtain⟨b1,b2⟩:=bx_small hs h
 intro p hp
 have h1:=b1 p.1 (List.of_mem_zip hp).1
 have h2:=b2 p.2 (List.of_mem_zip hp).2
 exact ⟨h1.1,gen h p hp,by omega⟩
section
variable {P:Program}{w:World}{K:PySem.W.Frag}{mg:Str->Option Value}{base:Heap}
structure CalsBr(P:Program)(w:World)(K:PySem.W.Frag)(mg:Str->Option Value)(base:Heap):Prop where
 law_box:Cal P w K mg base 2 "_law_box" ["_law_pen_here","_law_sides_here"] (conSp K cBox)
 law_same:Cal P w K mg base 4 "_law_same" ["_law_found","_law_due"] (conSp K cSame3)
 box_stretched:Cal P w K mg base 6 "box_stretched" ["sides","box","factors"] (conSp K cBs)
noncomputable def cBr:Con:=fun args Q=>∃(ns:List Int) (k l:Int) (sd fs:List Int),args=[.io (penD ns k l),.fz (tupD sd),.fz (tupD fs)]/\0<=k/\0<=l/\Sd sd/\fs.length=sd.length/\(∀f∈fs,1<=f)/\∀(k' l':Int) (o:Ev),0<=k'->0<=l'->Q (.fz (.bool true)) (some (.io (penD ns k' l')) :: o)
theorem scBr:FnScope ["_law_pen_here","_law_sides_here","_law_factors_here","_law_low","_law_high","_law_begin","_law_end"] ["_law_pen_here","_law_sides_here","_law_factors_here"] (defScope (top 43)):=⟨rfl,rfl,rfl,by decide +kernel,rfl,by decide +kernel,by decide +kernel⟩
theorem ok_br{f:Addr}{fd:FuncData}(F:Fun K "_law_box_right" "_law_box_right" (top 43) f fd)(T:Txt mg)(C:CalsBr P w K mg base):FnOk P w K mg base CX0 7 f fd ["_law_pen_here","_law_sides_here","_law_factors_here"] (conSp K cBr):=by
 have S:=scBr
 refine wfn F S (fun cdv A outer s H E hr=>(s_cons (s_asgG (w_fnI C.law_box (hr.mono (by first|decide|omega)) (wa_cons (wn 0) (wa_cons (wn 1) wa_nil))) (g_tup rfl rfl (gs_cons (g_name (i:=3) S.nd rfl (Or.inl rfl)) (gs_cons (g_name (i:=4) S.nd rfl (Or.inl rfl)) gs_nil))))
     (s_cons (s_set (i:=5) S.nd rfl (Or.inl rfl) (w_callT ok_tuple (call_tupleK (K:=K) rfl) T.tuple_ boot_tuple (wa_cons (wx (w_comp rfl (own:=["_law_one","_law_factor"]) (fr:=[]) (by kernel_rfl) (i_zip2 rfl T.zip_ (wa_cons (wn 3) (wa_cons (wn 2) wa_nil))) (fun _ _ _ _=>(g_tup rfl rfl (gs_cons (g_name (i:=0) (by decide +kernel:List.Nodup (["_law_one","_law_factor"]:List Str)) rfl (Or.inl rfl)) (gs_cons (g_name (i:=1) (by decide +kernel:List.Nodup (["_law_one","_law_factor"]:List Str)) rfl (Or.inl rfl)) gs_nil)))) (fun _ _ _ _=>if0) (fun _ _ _ _=>(w_bin ok_mul op_mulD (wn 0) (wn 1))))) wa_nil)))
     (s_cons (s_set (i:=6) S.nd rfl (Or.inl rfl) (w_callT ok_tuple (call_tupleK (K:=K) rfl) T.tuple_ boot_tuple (wa_cons (wx (w_comp rfl (own:=["_law_one","_law_factor"]) (fr:=[]) (by kernel_rfl) (i_zip2 rfl T.zip_ (wa_cons (wn 4) (wa_cons (wn 2) wa_nil))) (fun _ _ _ _=>(g_tup rfl rfl (gs_cons (g_name (i:=0) (by decide +kernel:List.Nodup (["_law_one","_law_factor"]:List Str)) rfl (Or.inl rfl)) (gs_cons (g_name (i:=1) (by decide +kernel:List.Nodup (["_law_one","_law_factor"]:List Str)) rfl (Or.inl rfl)) gs_nil)))) (fun _ _ _ _=>if0) (fun _ _ _ _=>(w_bin ok_sub op_sub (wx (w_bin ok_add op_addD (wx (w_bin ok_mul op_mulD (wn 0) (wn 1))) (wn 1))) (wx w_int))))) wa_nil)))
     (s_one (s_ret (w_fn C.law_same (hr.mono (by first|decide|omega)) (wa_cons (wx (w_fn C.box_stretched (hr.mono (by first|decide|omega)) (wa_cons (wn 1) (wa_cons (wx (w_tup (wa_cons (wx (wv 3)) (wa_cons (wx (wv 4)) wa_nil)))) (wa_cons (wn 2) wa_nil))))) (wa_cons (wx (w_tup (wa_cons (wx (wv 5)) (wa_cons (wx (wv 6)) wa_nil)))) wa_nil))))))))) ?_ ?_
 ·rintro args Qd ⟨ns,k,l,sd,fs,rfl,_⟩;rfl
 ·rintro args Qd ⟨ns,k,l,sd,fs,rfl,hk,hl,hsd,hfl,hf,q⟩
  refine ⟨noOw_of rfl,?_⟩
  have h3:=hsd.l3
  with_reducible refine cutS (fun ρ=>∃(lo hi:List Int) (k l:Int),Bx lo hi sd/\(0<=k/\0<=l)/\ρ=[some (.io (penD ns k l)),some (.fz (tupD sd)),some (.fz (tupD fs)),some (.fz (tupD lo)),some (.fz (tupD hi)),none,none]) ?_ ?_
  ·intro N hN
   exact ⟨ns,k,l,sd,rfl,hk,hl,hsd,fun lo hi k1 l1 _ hb hk1 hl1=>⟨rfl,hN _ ⟨lo,hi,k1,l1,hb,⟨hk1,hl1⟩,rfl⟩⟩⟩
  clear hk hl
  rintro _ ⟨lo,hi,k,l,hb,⟨hk,hl⟩,rfl⟩
  obtain⟨l1,l2⟩:=bx_len hb
  obtain⟨b1,b2⟩:=bx_small hsd hb
  with_reducible refine cutS (fun ρ=>ρ=[some (.io (penD ns k l)),some (.fz (tupD sd)),some (.fz (tupD fs)),some (.fz (tupD lo)),some (.fz (tupD hi)),some (.fz (tupD (mulL lo fs))),none]) ?_ ?_
  ·intro N hN
   refine ⟨by rw[zipD_ints,List.length_map,List.length_zip];exact le_size (by omega),mapC (on2 fun a b=>a * b) (fun d hd N hN=>?_) ?_⟩
   ·obtain⟨a,ha,b,hb,rfl⟩:=mem2 hd
    have:=b1 a ha
    exact ⟨rfl,.inl ⟨by omega,by omega⟩,hN⟩
   ·rw[on2_map]
    exact hN _ rfl
  rintro _ rfl
  with_reducible refine cutS (fun ρ=>ρ=[some (.io (penD ns k l)),some (.fz (tupD sd)),some (.fz (tupD fs)),some (.fz (tupD lo)),some (.fz (tupD hi)),some (.fz (tupD (mulL lo fs))),some (.fz (tupD ((mulL (hi.map fun x=>x+1) fs).map fun x=>x - 1)))]) ?_ ?_
  ·intro N hN
   refine ⟨by rw[zipD_ints,List.length_map,List.length_zip];exact le_size (by omega),mapC (on2 fun a b=>a * b+b - 1) (fun d hd N hN=>?_) ?_⟩
   ·obtain⟨a,ha,b,hb,rfl⟩:=mem2 hd
    have:=b2 a ha
    exact ⟨rfl,.inl ⟨by omega,by omega⟩,hN⟩
   ·rw[on2_map]
    refine hN _ ?_
    rw[end_is]
    rfl
  rintro _ rfl
  refine ⟨sd,lo,hi,fs,rfl,hsd,hb,hfl,hf,fun o=>?_⟩
  have ml:∀{a:List Int},a.length=sd.length->(mulL a fs).length<=1000:=fun {a} h=>by unfold mulL;rw[List.length_map,List.length_zip];omega
  exact ⟨_,rfl,it_two (ml l1) (by rw[List.length_map];exact ml (by rw[List.length_map];exact l2)),fun o=>q k l _ hk hl⟩
structure CalsCr(P:Program)(w:World)(K:PySem.W.Frag)(mg:Str->Option Value)(base:Heap):Prop where
 law_known:Cal P w K mg base 3 "_law_known" ["_law_field_here"] (conSp K cKnown)
 law_places:Cal P w K mg base 1 "_law_places" ["_law_low","_law_high"] (conSp K cLPl)
 law_same:Cal P w K mg base 4 "_law_same" ["_law_found","_law_due"] (conSp K cSame3)
 cut:Cal P w K mg base 6 "cut" ["field","box"] (conSp K cCut)
noncomputable def cCr:Con:=fun args Q=>∃sd cl lo hi:List Int,args=[.fz (fldD sd cl),.fz (bxD lo hi)]/\Sd sd/\cl.length=(plc sd).length/\Bx lo hi sd/\∀o,Q (.fz (.bool true)) o
theorem scCr:FnScope ["_law_field_here","_law_box_here","_law_known_here","_law_cells","_law_sides_here"] ["_law_field_here","_law_box_here"] (defScope (top 45)):=⟨rfl,rfl,rfl,by decide +kernel,rfl,by decide +kernel,by decide +kernel⟩
theorem ok_cr{f:Addr}{fd:FuncData}(F:Fun K "_law_cut_right" "_law_cut_right" (top 45) f fd)(T:Txt mg)(C:CalsCr P w K mg base):FnOk P w K mg base CX0 7 f fd ["_law_field_here","_law_box_here"] (conSp K cCr):=by
 have S:=scCr
 refine wfn F S (fun cdv A outer s H E hr=>(s_cons (s_set (i:=2) S.nd rfl (Or.inr rfl) (w_fn C.law_known (hr.mono (by first|decide|omega)) (wa_cons (wn 0) wa_nil)))
     (s_cons (s_set (i:=3) S.nd rfl (Or.inl rfl) (w_callT ok_tuple (call_tupleK (K:=K) rfl) T.tuple_ boot_tuple (wa_cons (wx (w_comp rfl (own:=["_law_place"]) (fr:=[2]) (by kernel_rfl) (i_seq rfl (w_fn C.law_places (hr.mono (by first|decide|omega)) (wa_cons (wx (w_ix rfl (wn 1) (wx w_int))) (wa_cons (wx (w_ix rfl (wn 1) (wx w_int))) wa_nil)))) (fun _ _ _ _=>(g_name (i:=0) (by decide +kernel:List.Nodup (["_law_place","_law_known_here"]:List Str)) rfl (Or.inl rfl))) (fun _ _ _ _=>if0) (fun _ _ _ _=>(w_pget (hu6_of hr) (wn 1) (wn 0))))) wa_nil)))
     (s_cons (s_set (i:=4) S.nd rfl (Or.inl rfl) (w_callT ok_tuple (call_tupleK (K:=K) rfl) T.tuple_ boot_tuple (wa_cons (wx (w_comp rfl (own:=["_law_first","_law_last"]) (fr:=[]) (by kernel_rfl) (i_zip2 rfl T.zip_ (wa_cons (wx (w_ix rfl (wn 1) (wx w_int))) (wa_cons (wx (w_ix rfl (wn 1) (wx w_int))) wa_nil))) (fun _ _ _ _=>(g_tup rfl rfl (gs_cons (g_name (i:=0) (by decide +kernel:List.Nodup (["_law_first","_law_last"]:List Str)) rfl (Or.inl rfl)) (gs_cons (g_name (i:=1) (by decide +kernel:List.Nodup (["_law_first","_law_last"]:List Str)) rfl (Or.inl rfl)) gs_nil)))) (fun _ _ _ _=>if0) (fun _ _ _ _=>(w_bin ok_add op_addD (wx (w_bin ok_sub op_sub (wn 1) (wn 0))) (wx w_int))))) wa_nil)))
     (s_one (s_ret (w_fn C.law_same (hr.mono (by first|decide|omega)) (wa_cons (wx (w_fn C.cut (hr.mono (by first|decide|omega)) (wa_cons (wn 0) (wa_cons (wn 1) wa_nil)))) (wa_cons (wx (w_tup (wa_cons (wx (wv 4)) (wa_cons (wx (wv 3)) wa_nil)))) wa_nil))))))))) ?_ ?_
 ·rintro args Qd ⟨sd,cl,lo,hi,rfl,_⟩;rfl
 ·rintro args Qd ⟨sd,cl,lo,hi,rfl,hsd,hcl,hb,q⟩
  refine ⟨noOw_of rfl,?_⟩
  have h1:=hsd.l1
  have h3:=hsd.l3
  obtain⟨l1,l2⟩:=bx_len hb
  have hs2:=hsd.box hb
  have hs2l:=plc_len hs2.p
  have hs2m:=hs2.m
  have hs23:=hs2.l3
  have hbt:(btw lo hi).length<=1000:=by rw[btw_mov hb,List.length_map];omega
  with_reducible refine cutS (fun ρ=>ρ=[some (.fz (fldD sd cl)),some (.fz (bxD lo hi)),some (.fz (pdD (dcP sd cl))),none,none]) ?_ ?_
  ·intro N hN
   exact ⟨sd,cl,rfl,hsd,hcl,fun o=>hN _ rfl⟩
  rintro _ rfl
  with_reducible refine cutS (fun ρ=>ρ=[some (.fz (fldD sd cl)),some (.fz (bxD lo hi)),some (.fz (pdD (dcP sd cl))),some (.fz (tupD ((plc (sdB lo hi)).map fun p=>cel sd cl (movL p lo)))),none]) ?_ ?_
  ·intro N hN
   refine ⟨_,rfl,_,rfl,tupD lo,tupD hi,lo,hi,rfl,rfl,rfl,by omega,by omega,by omega,bx_bnd hsd hb,btw_lenP hsd hb,fun o=>?_⟩
   refine ⟨by rw[List.length_map];exact le_size hbt,mapC (fun d=>.int (cel sd cl (unT d))) (fun d hd R hR=>?_) ?_⟩
   ·obtain⟨p,hp,rfl⟩:=List.mem_map.mp hd
    have e:unT (tupD p)=p:=unT_tup p
    rw[e]at hR
    rw[btw_mov hb]at hp
    obtain⟨p',hp',rfl⟩:=List.mem_map.mp hp
    exact ⟨dcP sd cl,_,_,rfl,rfl,dcP_mem hsd.p hcl (wi_mov hb (plc_wi hp')),hR⟩
   ·have e:((btw lo hi).map tupD).map (fun d=>PyData.int (cel sd cl (unT d)))=((plc (sdB lo hi)).map fun p=>cel sd cl (movL p lo)).map PyData.int:=by
     rw[btw_mov hb,List.map_map,List.map_map,List.map_map]
     refine List.map_congr_left fun p _=>?_
     show PyData.int (cel sd cl (unT (tupD (movL p lo))))=_
     rw[unT_tup]
     rfl
    rw[e]
    exact hN _ rfl
  rintro _ rfl
  with_reducible refine cutS (fun ρ=>ρ=[some (.fz (fldD sd cl)),some (.fz (bxD lo hi)),some (.fz (pdD (dcP sd cl))),some (.fz (tupD ((plc (sdB lo hi)).map fun p=>cel sd cl (movL p lo)))),some (.fz (tupD (sdB lo hi)))]) ?_ ?_
  ·intro N hN
   refine ⟨_,rfl,_,rfl,by rw[zipD_ints,List.length_map,List.length_zip];exact le_size (by omega),mapC (on2 fun a b=>b - a+1) (fun d hd N hN=>?_) ?_⟩
   ·obtain⟨a,ha,b,hb,rfl⟩:=mem2 hd
    exact ⟨rfl,hN⟩
   ·rw[on2_map]
    exact hN _ rfl
  rintro _ rfl
  refine ⟨sd,cl,lo,hi,rfl,hsd,hcl,hb,fun o=>?_⟩
  exact ⟨_,rfl,it_two (by omega) (by rw[List.length_map];omega),fun o=>q _⟩
structure CalsSr(P:Program)(w:World)(K:PySem.W.Frag)(mg:Str->Option Value)(base:Heap):Prop where
 law_take:Cal P w K mg base 1 "_law_take" ["_law_pen_here","_law_many"] (conSp K cTake)
 law_factors:Cal P w K mg base 2 "_law_factors" ["_law_pen_here","_law_sides_here"] (conSp K cFac)
 law_known:Cal P w K mg base 3 "_law_known" ["_law_field_here"] (conSp K cKnown)
 law_places:Cal P w K mg base 1 "_law_places" ["_law_low","_law_high"] (conSp K cLPl)
 law_laid:Cal P w K mg base 3 "_law_laid" ["_law_sides_here","_law_known_here"] (conSp K cLaid)
 law_same:Cal P w K mg base 4 "_law_same" ["_law_found","_law_due"] (conSp K cSame3)
 law_box_right:Cal P w K mg base 7 "_law_box_right" ["_law_pen_here","_law_sides_here","_law_factors_here"] (conSp K cBr)
 stretched:Cal P w K mg base 5 "stretched" ["field","factors"] (conSp K cStr)
noncomputable def cSr:Con:=fun args Q=>∃(ns:List Int) (k l:Int) (sd cl:List Int),args=[.io (penD ns k l),.fz (fldD sd cl)]/\0<=k/\0<=l/\Sd sd/\cl.length=(plc sd).length/\∀(k' l':Int) (o:Ev),0<=k'->0<=l'->Q (.fz (.bool true)) (some (.io (penD ns k' l')) :: o)
noncomputable abbrev eR(ns:List Int)(k l:Int)(sd cl:List Int)(r:Ev):Ev:=some (.io (penD ns k l)) :: some (.fz (fldD sd cl)) :: some (.fz (tupD sd)) :: some (.fz (tupD cl)) :: r
theorem scSr:FnScope ["_law_pen_here","_law_field_here","_law_sides_here","_law_cells","_law_factors_here","_law_known_here","_law_there","_law_place","_law_low","_law_high","_law_other","_law_more","_law_wide"] ["_law_pen_here","_law_field_here"] (defScope (top 44)):=⟨rfl,rfl,rfl,by decide +kernel,rfl,by decide +kernel,by decide +kernel⟩
theorem ok_sr{f:Addr}{fd:FuncData}(F:Fun K "_law_stretched_right" "_law_stretched_right" (top 44) f fd)(T:Txt mg)(C:CalsSr P w K mg base):FnOk P w K mg base CX0 8 f fd ["_law_pen_here","_law_field_here"] (conSp K cSr):=by
 have S:=scSr
 refine wfn F S (fun cdv A outer s H E hr=>(s_cons (s_asgG (wv 1) (g_tup rfl rfl (gs_cons (g_name (i:=2) S.nd rfl (Or.inl rfl)) (gs_cons (g_name (i:=3) S.nd rfl (Or.inl rfl)) gs_nil))))
     (s_cons (s_set (i:=4) S.nd rfl (Or.inl rfl) (w_fnI C.law_factors (hr.mono (by first|decide|omega)) (wa_cons (wn 0) (wa_cons (wn 2) wa_nil))))
     (s_cons (s_set (i:=5) S.nd rfl (Or.inl rfl) (w_fn C.law_known (hr.mono (by first|decide|omega)) (wa_cons (wn 1) wa_nil)))
     (s_cons (s_set (i:=6) S.nd rfl (Or.inl rfl) w_dnewP)
     (s_cons (s_for [7,8,9,10] PassesOwn.never rfl (i_keys (wn 5)) (g_name (i:=7) S.nd rfl (Or.inl rfl)) (s_cons (s_setC (i:=8) S.nd rfl rfl rfl (own:=["_law_one","_law_factor"]) (fr:=[]) (by kernel_rfl) (i_zip2 rfl T.zip_ (wa_cons (wn 7) (wa_cons (wn 4) wa_nil))) (fun _ _ _ _=>(g_tup rfl rfl (gs_cons (g_name (i:=0) (by decide +kernel:List.Nodup (["_law_one","_law_factor"]:List Str)) rfl (Or.inl rfl)) (gs_cons (g_name (i:=1) (by decide +kernel:List.Nodup (["_law_one","_law_factor"]:List Str)) rfl (Or.inl rfl)) gs_nil)))) (fun _ _ _ _=>if0) (fun _ _ _ _=>(w_bin ok_mul op_mulD (wn 0) (wn 1))))
     (s_cons (s_setC (i:=9) S.nd rfl rfl rfl (own:=["_law_one","_law_factor"]) (fr:=[]) (by kernel_rfl) (i_zip2 rfl T.zip_ (wa_cons (wx (wv 8)) (wa_cons (wx (wv 4)) wa_nil))) (fun _ _ _ _=>(g_tup rfl rfl (gs_cons (g_name (i:=0) (by decide +kernel:List.Nodup (["_law_one","_law_factor"]:List Str)) rfl (Or.inl rfl)) (gs_cons (g_name (i:=1) (by decide +kernel:List.Nodup (["_law_one","_law_factor"]:List Str)) rfl (Or.inl rfl)) gs_nil)))) (fun _ _ _ _=>if0) (fun _ _ _ _=>(w_bin ok_sub op_sub (wx (w_bin ok_add op_addD (wn 0) (wn 1))) (wx w_int))))
     (s_one (s_for [10] PassesOwn.never rfl (i_seq rfl (w_fn C.law_places (hr.mono (by first|decide|omega)) (wa_cons (wx (wv 8)) (wa_cons (wx (wv 9)) wa_nil)))) (g_name (i:=10) S.nd rfl (Or.inl rfl)) (s_one (s_keyP (hu_of hr) (wn 6) (wn 10) (w_pget (hu6_of hr) (wn 5) (wn 7)))))))))
     (s_cons (s_setC (i:=11) S.nd rfl rfl rfl (own:=["_law_side","_law_factor"]) (fr:=[]) (by kernel_rfl) (i_zip2 rfl T.zip_ (wa_cons (wn 2) (wa_cons (wn 4) wa_nil))) (fun _ _ _ _=>(g_tup rfl rfl (gs_cons (g_name (i:=0) (by decide +kernel:List.Nodup (["_law_side","_law_factor"]:List Str)) rfl (Or.inl rfl)) (gs_cons (g_name (i:=1) (by decide +kernel:List.Nodup (["_law_side","_law_factor"]:List Str)) rfl (Or.inl rfl)) gs_nil)))) (fun _ _ _ _=>if0) (fun _ _ _ _=>(w_bin ok_mul op_mulD (wn 0) (wn 1))))
     (s_cons (s_if (t_not (t_val (w_fn C.law_same (hr.mono (by first|decide|omega)) (wa_cons (wx (w_fn C.stretched (hr.mono (by first|decide|omega)) (wa_cons (wn 1) (wa_cons (wn 4) wa_nil)))) (wa_cons (wx (w_fn C.law_laid (hr.mono (by first|decide|omega)) (wa_cons (wn 11) (wa_cons (wn 6) wa_nil)))) wa_nil))))) (s_one (s_ret w_bl)) s_nil)
     (s_cons (s_set (i:=12) S.nd rfl (Or.inl rfl) (w_callT ok_tuple (call_tupleK (K:=K) rfl) T.tuple_ boot_tuple (wa_cons (wx (w_comp rfl (own:=["_law_side"]) (fr:=[0]) (by kernel_rfl) (i_seq rfl (wv 2)) (fun _ _ _ _=>(g_name (i:=0) (by decide +kernel:List.Nodup (["_law_side","_law_pen_here"]:List Str)) rfl (Or.inl rfl))) (fun _ _ _ _=>if0) (fun _ _ _ _=>(w_ix rfl (wx (w_lst (wa_cons (wx (w_bin ok_add op_addD (wx w_int) (wx (w_fnI C.law_take (hr.mono (by first|decide|omega)) (wa_cons (wn 1) (wa_cons (wx w_int) wa_nil)))))) (wa_cons (wx (w_bin ok_add op_addD (wx (w_bin ok_pow op_pow (wx w_int) (wx w_int))) (wx (w_fnI C.law_take (hr.mono (by first|decide|omega)) (wa_cons (wn 1) (wa_cons (wx w_int) wa_nil)))))) (wa_cons (wx w_int) wa_nil))))) (wx (w_fnI C.law_take (hr.mono (by first|decide|omega)) (wa_cons (wn 1) (wa_cons (wx w_int) wa_nil)))))))) wa_nil)))
     (s_one (s_ret (w_and (w_fnI C.law_box_right (hr.mono (by first|decide|omega)) (wa_cons (wn 0) (wa_cons (wn 2) (wa_cons (wn 4) wa_nil)))) (w_one (w_fnI C.law_box_right (hr.mono (by first|decide|omega)) (wa_cons (wn 0) (wa_cons (wn 2) (wa_cons (wn 12) wa_nil))))))))))))))))) ?_ ?_
 ·rintro args Qd ⟨ns,k,l,sd,cl,rfl,_⟩;rfl
 ·rintro args Qd ⟨ns,k,l,sd,cl,rfl,hk,hl,hsd,hcl,q⟩
  refine ⟨noOw_of rfl,?_⟩
  have h1:=hsd.l1
  have h3:=hsd.l3
  have hm:=hsd.m
  have hpl:=plc_len hsd.p
  have hb120:∀c∈sd,c<=120:=fun c hc=>Int.le_trans (le_prodI hsd.p c hc) hm
  with_reducible refine cutS (fun ρ=>ρ=eR ns k l sd cl [none,none,none,none,none,none,none,none,none]) ?_ ?_
  ·intro N hN
   exact ⟨rfl,hN _ rfl⟩
  rintro _ rfl
  with_reducible refine cutS (fun ρ=>∃(fs:List Int) (k l:Int),fs.length=sd.length/\(∀f∈fs,1<=f/\f<=4)/\Sd (mulL sd fs)/\(0<=k/\0<=l)/\ρ=eR ns k l sd cl [some (.fz (tupD fs)),none,none,none,none,none,none,none,none]) ?_ ?_
  ·intro N hN
   exact ⟨ns,k,l,sd,rfl,hk,hl,hsd,fun fs k1 l1 _ a1 a2 a3 hk1 hl1=>hN _ ⟨fs,k1,l1,a1,a2,a3,⟨hk1,hl1⟩,rfl⟩⟩
  clear hk hl
  rintro _ ⟨fs,k,l,hfl,hf,hs2,⟨hk,hl⟩,rfl⟩
  have hf1:∀f∈fs,1<=f:=fun f h=>(hf f h).1
  have hsp:1<=prodI sd:=prodI_pos hsd.p
  have hfp:1<=prodI fs:=prodI_pos hf1
  have hs2m:=hs2.m
  have hs23:=hs2.l3
  have hs2l:=plc_len hs2.p
  have hfm:prodI fs<=120:=by
   have e:=prodI_mul hfl
   have:=Int.mul_le_mul_of_nonneg_right hsp (show 0<=prodI fs by omega)
   omega
  with_reducible refine cutS (fun ρ=>ρ=eR ns k l sd cl [some (.fz (tupD fs)),some (.fz (pdD (dcP sd cl))),none,none,none,none,none,none,none]) ?_ ?_
  ·intro N hN
   exact ⟨sd,cl,rfl,hsd,hcl,fun o=>hN _ rfl⟩
  rintro _ rfl
  with_reducible refine cutS (fun ρ=>ρ=eR ns k l sd cl [some (.fz (tupD fs)),some (.fz (pdD (dcP sd cl))),some (.ow (pdD [])),none,none,none,none,none,none]) ?_ ?_
  ·intro N hN
   exact hN _ rfl
  rintro _ rfl
  with_reducible refine cutS (fun ρ=>∃ps:List (List Int×PyData),(∀q∈plc (mulL sd fs),(q,.int (cel sd cl (shrL q fs)))∈ps)/\ρ=eR ns k l sd cl [some (.fz (tupD fs)),some (.fz (pdD (dcP sd cl))),some (.ow (pdD ps)),none,none,none,none,none,none]) ?_ ?_
  ·intro NE hE
   refine (?_:dLoopC _ _ _ _ (firsts ((dcP sd cl).map fun p=>.tuple [tI p.1,p.2])) _)
   rw[dcP_keys hcl]
   refine loopC (fun rest ρ=>∃(dn rs:List (List Int)) (ps:List (List Int×PyData)),plc sd=dn++rs/\rest=rs.map tupD/\ps.length<=dn.length * 200/\(∀x∈ps,x.2=.int (cel sd cl (shrL x.1 fs)))/\(∀q:List Int,q.length=fs.length->shrL q fs∈dn->(q,.int (cel sd cl (shrL q fs)))∈ps)/\ρ=eR ns k l sd cl [some (.fz (tupD fs)),some (.fz (pdD (dcP sd cl))),some (.ow (pdD ps)),none,none,none,none,none,none]) ?_ ?_ ⟨[],plc sd,[],rfl,rfl,by simp,fun x hx=>(by cases hx),fun q _ h=>(by cases h),rfl⟩
   ·rintro d ds ρ ⟨dn,rs,ps,es,er,hpsl,hB,hA,rfl⟩ N hN
    cases rs with
    | nil=>cases er
    | cons p rs =>
     cases er
     have hpm:p∈plc sd:=by rw[es];simp
     have hw:=plc_wi hpm
     have hwl:=wi_len hw
     have hdl:dn.length<=120:=by
      have:=congrArg List.length es
      rw[List.length_append]at this
      omega
     have bl:(blo p fs).length=sd.length:=by unfold blo mulL;rw[List.length_map,List.length_zip];omega
     have bh:(bhi (blo p fs) fs).length=sd.length:=by unfold bhi;rw[List.length_map,List.length_zip];omega
     with_reducible refine gnC rfl ?_
     with_reducible refine cutS (fun ρ=>ρ=eR ns k l sd cl [some (.fz (tupD fs)),some (.fz (pdD (dcP sd cl))),some (.ow (pdD ps)),some (.fz (tupD p)),some (.ow (.list ((blo p fs).map PyData.int))),none,none,none,none]) ?_ ?_
     ·intro M hM
      refine ⟨by rw[zipD_ints,List.length_map,List.length_zip];exact le_size (by omega),mapC (on2 fun a b=>a * b) (fun d hd R hR=>?_) ?_⟩
      ·obtain⟨a,ha,b,hb,rfl⟩:=mem2 hd
       have:=hf b hb
       exact ⟨rfl,.inr ⟨by omega,by omega⟩,hR⟩
      ·rw[on2_map]
       exact hM _ rfl
     rintro _ rfl
     with_reducible refine cutS (fun ρ=>ρ=eR ns k l sd cl [some (.fz (tupD fs)),some (.fz (pdD (dcP sd cl))),some (.ow (pdD ps)),some (.fz (tupD p)),some (.fz (.list ((blo p fs).map PyData.int))),some (.ow (.list ((bhi (blo p fs) fs).map PyData.int))),none,none,none]) ?_ ?_
     ·intro M hM
      refine ⟨by rw[zipD_ints,List.length_map,List.length_zip];exact le_size (by omega),mapC (on2 fun a b=>a+b - 1) (fun d hd R hR=>?_) ?_⟩
      ·obtain⟨a,ha,b,hb,rfl⟩:=mem2 hd
       exact ⟨rfl,hR⟩
      ·rw[on2_map]
       exact hM _ rfl
     rintro _ rfl
     have hbl:=blk_len (p:=p) (fs:=fs) (by omega) hf1
     have hbt:((btw (blo p fs) (bhi (blo p fs) fs)).length:Int)=prodI fs:=by
      rw[<- hbl]
      unfold btw
      rw[eachA_len]
      simp
     refine ⟨_,_,blo p fs,bhi (blo p fs) fs,rfl,rfl,rfl,by omega,by omega,by omega,blk_bnd hw hfl hf hb120,by omega,fun o=>?_⟩
     refine loopC (fun rest ρ=>∃(d2 r2:List (List Int)) (qs:List (List Int×PyData)),btw (blo p fs) (bhi (blo p fs) fs)=d2++r2/\rest=r2.map tupD/\qs.length<=dn.length * 200+d2.length/\(∀x∈qs,x.2=.int (cel sd cl (shrL x.1 fs)))/\(∀q:List Int,q.length=fs.length->shrL q fs∈dn->(q,.int (cel sd cl (shrL q fs)))∈qs)/\(∀q∈d2,(q,.int (cel sd cl (shrL q fs)))∈qs)/\ρ=eR ns k l sd cl [some (.fz (tupD fs)),some (.fz (pdD (dcP sd cl))),some (.ow (pdD qs)),some (.fz (tupD p)),some (.fz (.list ((blo p fs).map PyData.int))),some (.fz (.list ((bhi (blo p fs) fs).map PyData.int))),none,none,none]) ?_ ?_ ⟨[],_,ps,rfl,rfl,by simpa using hpsl,hB,hA,fun q h=>(by cases h),rfl⟩
     ·rintro d ds ρ ⟨d2,r2,qs,es2,er2,hql,hB2,hA2,hD2,rfl⟩ M hM
      cases r2 with
      | nil=>cases er2
      | cons q r2 =>
       cases er2
       have hqm:q∈btw (blo p fs) (bhi (blo p fs) fs):=by rw[es2];simp
       have hq2:=((blk_mem (by omega) hf1).mp hqm).2
       have hd2l:d2.length<=120:=by
        have:=congrArg List.length es2
        rw[List.length_append]at this
        omega
       have keep:∀x∈qs,x∈putPs qs q (.int (cel sd cl p)):=fun x hx=>put_old hx fun e=>by rw[hB2 x hx,e,hq2]
       refine ⟨dcP sd cl,p,.int (cel sd cl p),rfl,rfl,dcP_mem hsd.p hcl hw,q,qs,rfl,rfl,rfl,Nat.lt_of_le_of_lt (show qs.length<=24200 by omega) (by decide),hM _ ⟨d2++[q],r2,putPs qs q (.int (cel sd cl p)),by rw[es2];simp,rfl,?_,fun x hx=>?_,fun q' h1 h2=>keep _ (hA2 q' h1 h2),fun q' h1=>?_,rfl⟩⟩
       ·have:=put_len (ps:=qs) (k:=q) (d:=.int (cel sd cl p))
        rw[List.length_append,List.length_singleton]
        omega
       ·rcases put_inv hx with z|z
        ·exact hB2 x z
        ·rw[z]
         show PyData.int (cel sd cl p)=.int (cel sd cl (shrL q fs))
         rw[hq2]
       ·rcases List.mem_append.mp h1 with z|z
        ·exact keep _ (hD2 q' z)
        ·rw[List.mem_singleton.mp z,hq2]
         exact put_mem
     ·rintro ρ ⟨d2,r2,qs,es2,er2,hql,hB2,hA2,hD2,rfl⟩
      cases r2 with
      | cons _ _=>cases er2
      | nil =>
       rw[List.append_nil]at es2
       have hd2l:d2.length<=120:=by
        have:=congrArg List.length es2
        omega
       refine hN _ ⟨dn++[p],rs,qs,by rw[es];simp,rfl,by rw[List.length_append,List.length_singleton];omega,hB2,fun q h1 h2=>?_,rfl⟩
       rcases List.mem_append.mp h2 with z|z
       ·exact hA2 q h1 z
       ·exact hD2 q (by rw[<- es2];exact (blk_mem (by omega) hf1).mpr ⟨h1,List.mem_singleton.mp z⟩)
   ·rintro ρ ⟨dn,rs,ps,es,er,hpsl,hB,hA,rfl⟩
    cases rs with
    | cons _ _=>cases er
    | nil =>
     rw[List.append_nil]at es
     subst es
     refine hE _ ⟨ps,fun q hq=>hA q ?_ (wi_mem (wi_shr (plc_wi hq) hfl hf1)),rfl⟩
     rw[wi_len (plc_wi hq)]
     unfold mulL
     rw[List.length_map,List.length_zip]
     omega
  rintro _ ⟨ps,hps,rfl⟩
  with_reducible refine cutS (fun ρ=>ρ=eR ns k l sd cl [some (.fz (tupD fs)),some (.fz (pdD (dcP sd cl))),some (.ow (pdD ps)),none,none,none,none,some (.ow (.list ((mulL sd fs).map PyData.int))),none]) ?_ ?_
  ·intro N hN
   refine ⟨by rw[zipD_ints,List.length_map,List.length_zip];exact le_size (by omega),mapC (on2 fun a b=>a * b) (fun d hd R hR=>?_) ?_⟩
   ·obtain⟨a,ha,b,hb,rfl⟩:=mem2 hd
    have:=hf b hb
    exact ⟨rfl,.inr ⟨by omega,by omega⟩,hR⟩
   ·rw[on2_map]
    exact hN _ rfl
  rintro _ rfl
  with_reducible refine cutS (fun ρ=>ρ=eR ns k l sd cl [some (.fz (tupD fs)),some (.fz (pdD (dcP sd cl))),some (.ow (pdD ps)),none,none,none,none,some (.ow (.list ((mulL sd fs).map PyData.int))),none]) ?_ ?_
  ·intro N hN
   refine ⟨sd,cl,fs,rfl,hsd,hcl,hfl,fun f h=>by have:=hf f h;omega,hs2,fun o=>?_⟩
   refine ⟨mulL sd fs,ps,fun q=>cel sd cl (shrL q fs),rfl,hs2,hps,fun o=>⟨?_,?_⟩⟩
   ·show (noMut (tupD (mulL sd fs))&&(noMut (tupD _)&&true))=true
    rw[show noMut (tupD (mulL sd fs))=true from noMutAll_ints _,show ∀l:List Int,noMut (tupD l)=true from fun l=>noMutAll_ints l]
    rfl
   ·exact ⟨_,rfl,it_two (by omega) (by rw[List.length_map];omega),fun o=>hN _ rfl⟩
  rintro _ rfl
  with_reducible refine cutS (fun ρ=>∃(ws:List Int) (k l:Int),ws.length=sd.length/\(∀f∈ws,1<=f)/\(0<=k/\0<=l)/\ρ=eR ns k l sd cl [some (.fz (tupD fs)),some (.fz (pdD (dcP sd cl))),some (.ow (pdD ps)),none,none,none,none,some (.ow (.list ((mulL sd fs).map PyData.int))),some (.fz (tupD ws))]) ?_ ?_
  ·intro N hN
   refine ⟨by rw[List.length_map];exact le_size (by omega),compN (fun rest acc τ=>∃(ws:List Int) (k4 l4:Int),acc=ws.map PyData.int/\ws.length+rest.length=sd.length/\(∀f∈ws,1<=f)/\τ=[none,some (.io (penD ns k4 l4))]/\0<=k4/\0<=l4) ?_ ?_ ⟨[],k,l,rfl,by simp,fun f h=>(by cases h),rfl,hk,hl⟩⟩
   ·rintro d ds acc τ ⟨ws,k4,l4,rfl,hwl,hw1,rfl,hk4,hl4⟩ N' hN'
    refine ⟨ns,k4,l4,200,rfl,hk4,hl4,by decide,by decide,fun a k5 l5 _ a0 a1 hk5 hl5=>?_⟩
    refine ⟨⟨by decide,by decide,by decide⟩,?_⟩
    refine ⟨ns,k5,l5,9,rfl,hk5,hl5,by decide,by decide,fun b k6 l6 _ b0 b1 hk6 hl6=>?_⟩
    refine ⟨ns,k6,l6,3,rfl,hk6,hl6,by decide,by decide,fun c k7 l7 _ c0 c1 hk7 hl7=>?_⟩
    have pick:∃x:Int,atI [PyData.int (1+a),PyData.int (10 ^ 29+b),PyData.int 1] c=some (.int x)/\1<=x:=by
     rcases (show c=0\/c=1\/c=2 by omega) with rfl|rfl|rfl
     ·exact ⟨1+a,rfl,by omega⟩
     ·have h29:(1:Int)<=10 ^ 29:=by decide +kernel
      exact ⟨10 ^ 29+b,rfl,by omega⟩
     ·exact ⟨1,rfl,by decide⟩
    obtain⟨x,hx,x1⟩:=pick
    refine ⟨_,hx,hN' _ _ ⟨ws++[x],k7,l7,by simp[Sl.d],?_,fun f h=>?_,rfl,hk7,hl7⟩⟩
    ·rw[List.length_cons]at hwl
     rw[List.length_append,List.length_singleton]
     omega
    ·rcases List.mem_append.mp h with z|z
     ·exact hw1 f z
     ·rw[List.mem_singleton.mp z];exact x1
   ·rintro acc τ ⟨ws,k4,l4,rfl,hwl,hw1,rfl,hk4,hl4⟩
    exact hN _ ⟨ws,k4,l4,by simpa using hwl,hw1,⟨hk4,hl4⟩,rfl⟩
  clear hk hl
  rintro _ ⟨ws,k,l,hwl,hw1,⟨hk,hl⟩,rfl⟩
  refine ⟨ns,k,l,sd,fs,rfl,hk,hl,hsd,hfl,hf1,fun k1 l1 _ hk1 hl1=>?_⟩
  exact ⟨ns,k1,l1,sd,ws,rfl,hk1,hl1,hsd,hwl,hw1,fun k2 l2 _ hk2 hl2=>q k2 l2 _ hk2 hl2⟩
end
section
variable {P:Program}{w:World}{K:PySem.W.Frag}{mg:Str->Option Value}{base:Heap}
noncomputable def cLaw:Con:=fun args Q=>∃ns:List Int,args=[.fz (scrD ns)]/\ns.length<=63/\∀o,Q (.fz (.bool true)) o
theorem cLaw_at(ns:List Int)(h:ns.length<=63):cLaw [.fz (scrD ns)] fun r _=>r=.fz (.bool true):=⟨ns,rfl,h,fun _=>rfl⟩
structure CalsL(P:Program)(w:World)(K:PySem.W.Frag)(mg:Str->Option Value)(base:Heap):Prop where
 law_pen:Cal P w K mg base 1 "_law_pen" ["_law_script"] (conSp K cPen)
 law_take:Cal P w K mg base 1 "_law_take" ["_law_pen_here","_law_many"] (conSp K cTake)
 law_field:Cal P w K mg base 3 "_law_field" ["_law_pen_here","_law_most"] (conSp K cField)
 law_box:Cal P w K mg base 2 "_law_box" ["_law_pen_here","_law_sides_here"] (conSp K cBox)
 law_stretched_right:Cal P w K mg base 8 "_law_stretched_right" ["_law_pen_here","_law_field_here"] (conSp K cSr)
 law_cut_right:Cal P w K mg base 7 "_law_cut_right" ["_law_field_here","_law_box_here"] (conSp K cCr)
theorem scLaw:FnScope ["_law_script","_law_pen_here","_law_turn","_law_field_here"] ["_law_script"] (defScope (top 46)):=⟨rfl,rfl,rfl,by decide +kernel,rfl,by decide +kernel,by decide +kernel⟩
theorem ok_law{f:Addr}{fd:FuncData}(F:Fun K "law" "law" (top 46) f fd)(T:Txt mg)(C:CalsL P w K mg base):FnOk P w K mg base CX0 9 f fd ["_law_script"] (conSp K cLaw):=by
 have S:=scLaw
 refine wfn F S (fun cdv A outer s H E hr=>(s_cons (s_set (i:=1) S.nd rfl (Or.inl rfl) (w_fn C.law_pen (hr.mono (by first|decide|omega)) (wa_cons (wn 0) wa_nil)))
     (s_cons (s_for [2,3] PassesOwn.never rfl (i_rng1 T.range_ (wa_cons (wx w_int) wa_nil)) (g_name (i:=2) S.nd rfl (Or.inl rfl)) (s_cons (s_set (i:=3) S.nd rfl (Or.inl rfl) (w_fnI C.law_field (hr.mono (by first|decide|omega)) (wa_cons (wn 1) (wa_cons (wx (w_ix rfl (wx (w_lst (wa_cons (wx w_int) (wa_cons (wx w_int) (wa_cons (wx w_int) (wa_cons (wx w_int) wa_nil)))))) (wx (w_fnI C.law_take (hr.mono (by first|decide|omega)) (wa_cons (wn 1) (wa_cons (wx w_int) wa_nil)))))) wa_nil))))
     (s_one (s_if (t_w (t_or (t_not (t_val (w_fnI C.law_stretched_right (hr.mono (by first|decide|omega)) (wa_cons (wn 1) (wa_cons (wn 3) wa_nil))))) (t_or1 (t_not (t_val (w_fn C.law_cut_right (hr.mono (by first|decide|omega)) (wa_cons (wn 3) (wa_cons (wx (w_fnI C.law_box (hr.mono (by first|decide|omega)) (wa_cons (wn 1) (wa_cons (wx (w_ix rfl (wn 3) (wx w_int))) wa_nil)))) wa_nil)))))))) (s_one (s_ret w_bl)) s_nil))))
     (s_one (s_ret w_bl))))) ?_ ?_
 ·rintro args Qd ⟨ns,rfl,_⟩;rfl
 ·rintro args Qd ⟨ns,rfl,hns,q⟩
  refine ⟨noOw_of rfl,?_⟩
  with_reducible refine cutS (fun ρ=>ρ=[some (.fz (scrD ns)),some (.ow (penD ns 0 0)),none,none]) ?_ ?_
  ·intro N hN
   exact ⟨ns,rfl,fun o=>hN _ rfl⟩
  rintro _ rfl
  with_reducible refine cutS (fun ρ=>∃k l:Int,0<=k/\0<=l/\ρ=[some (.fz (scrD ns)),some (.ow (penD ns k l)),none,none]) ?_ ?_
  rotate_left
  ·rintro _ ⟨k,l,_,_,rfl⟩
   exact q _
  intro NE hE
  refine ⟨by decide,by decide,?_⟩
  generalize rangeD 0 (4:Int).toNat=rg
  refine loopC (fun rest ρ=>∃k l:Int,0<=k/\0<=l/\ρ=[some (.fz (scrD ns)),some (.ow (penD ns k l)),none,none]) ?_ (fun ρ h=>hE ρ h) ⟨0,0,by decide,by decide,rfl⟩
  rintro d ds _ ⟨k,l,hk,hl,rfl⟩ N hN
  with_reducible refine gnC rfl ?_
  with_reducible refine cutS (fun ρ=>∃(sd cl:List Int) (k l:Int),Sd sd/\cl.length=(plc sd).length/\(0<=k/\0<=l)/\ρ=[some (.fz (scrD ns)),some (.ow (penD ns k l)),some (.fz d),some (.fz (fldD sd cl))]) ?_ ?_
  ·intro M hM
   refine ⟨ns,k,l,4,rfl,hk,hl,by decide,by decide,fun r k1 l1 _ r0 r1 hk1 hl1=>?_⟩
   have pick:∃x:Int,atI [PyData.int 24,PyData.int 24,PyData.int 24,PyData.int 120] r=some (.int x)/\1<=x/\x<=120:=by
    rcases (show r=0\/r=1\/r=2\/r=3 by omega) with rfl|rfl|rfl|rfl
    ·exact ⟨24,rfl,by decide,by decide⟩
    ·exact ⟨24,rfl,by decide,by decide⟩
    ·exact ⟨24,rfl,by decide,by decide⟩
    ·exact ⟨120,rfl,by decide,by decide⟩
   obtain⟨x,hx,x1,x2⟩:=pick
   exact ⟨_,hx,ns,k1,l1,x,rfl,hk1,hl1,x1,x2,fun sd cl k2 l2 _ a1 a2 hk2 hl2=>hM _ ⟨sd,cl,k2,l2,a1,a2,⟨hk2,hl2⟩,rfl⟩⟩
  clear hk hl
  rintro _ ⟨sd,cl,k,l,hsd,hcl,⟨hk,hl⟩,rfl⟩
  refine ⟨ns,k,l,sd,cl,rfl,hk,hl,hsd,hcl,fun k1 l1 _ hk1 hl1=>?_⟩
  refine ⟨_,rfl,ns,k1,l1,sd,rfl,hk1,hl1,hsd,fun lo hi k2 l2 _ hb hk2 hl2=>?_⟩
  exact ⟨sd,cl,lo,hi,rfl,hsd,hcl,hb,fun o=>hN _ ⟨k2,l2,hk2,hl2,rfl⟩⟩
end
theorem len0{p:List Value->Prop}(h:p []):∀us:List Value,us.length=0->p us:=fun us e=>by
 cases us with
 | nil=>exact h
 | cons x us=>cases e
theorem len1{p:List Value->Prop}(h:∀x0,p [x0]):∀us:List Value,us.length=1->p us:=fun us e=>by
 cases us with
 | nil=>cases e
 | cons x us=>exact len0 (p:=fun l=>p (x :: l)) (h x) us (Nat.succ.inj e)
theorem len2{p:List Value->Prop}(h:∀x0 x1,p [x0,x1]):∀us:List Value,us.length=2->p us:=fun us e=>by
 cases us with
 | nil=>cases e
 | cons x us=>exact len1 (p:=fun l=>p (x :: l)) (fun x1=>h x x1) us (Nat.succ.inj e)
theorem len3{p:List Value->Prop}(h:∀x0 x1 x2,p [x0,x1,x2]):∀us:List Value,us.length=3->p us:=fun us e=>by
 cases us with
 | nil=>cases e
 | cons x us=>exact len2 (p:=fun l=>p (x :: l)) (fun x1 x2=>h x x1 x2) us (Nat.succ.inj e)
structure Df(K:PySem.W.Frag)(mg:Str->Option Value)(x:Str)(st:Stmt)(f:Addr)(d:FuncData):Prop where
 F:Fun K x x st f d
 m:mg x=some (.ref f)
 k:PySem.W.keepIn K (.ref f)=true
section
variable {K:PySem.W.Frag}{mg:Str->Option Value}
theorem df_mk{h:Heap}(X:K.In h)(G:h.Ns mainGlobals mg){x:Str}{st:Stmt}{f:Addr}{oc:Value}{od an:Option Addr}{osl:Array (Option Value)}{kV doc pm cdv ct:Value}(a:PySem.W.nsIn K mainGlobals x=some (some (.ref f)))(l:K.lookup f=some ⟨oc,od,.func (PySem.W.fnOf x x (defArgs st) (defBody st) (defScope st) .none kV doc pm an cdv ct),osl⟩)(c:PySem.W.codeIn K cdv x=true)(k:PySem.W.keepIn K (.ref f)=true):Df K mg x st f (PySem.W.fnOf x x (defArgs st) (defBody st) (defScope st) .none kV doc pm an cdv ct) :=
 ⟨fun_mk l c k,PySem.W.mg_of X G a,k⟩
theorem calD(P:Program)(w:World)(base:Heap){k:Nat}{x:Str}{ps:List Str}{sp:Sp}{st:Stmt}{f:Addr}{d:FuncData}(D:Df K mg x st f d)(h:FnOk P w K mg base CX0 k f d ps sp)(b:∀(kV doc pm:Value) (an:Option Addr) (cdv ct:Value) (us:List Value),us.length=ps.length->bindArgs (PySem.W.fnOf x x (defArgs st) (defBody st) (defScope st) .none kV doc pm an cdv ct) ⟨us,[]⟩=pure (ps.zip us)):Cal P w K mg base k x ps sp :=
 ⟨⟨f,d,h,D.m,D.k,D.F.binds b⟩⟩
end
theorem all_mk{l:PySem.W.OpenLaw}{w:World}{K:PySem.W.Frag}{h:Heap}{mg:Str->Option Value}{fa f0 f1 f2 f3 f4 f5 f6 f7 f8 f9 f10 f11 f12 f13 f14 f15 f16 f17 f18 f19 f20 f21 f22 f23 f24 f25 f26 f27 f28 f29 f30 f31 f32 f33 f34 f35 f36 f37 f38 f39 cl0 cl1 cl2 cl3:Addr}{d0 d1 d2 d3 d4 d5 d6 d7 d8 d9 d10 d11 d12 d13 d14 d15 d16 d17 d18 d19 d20 d21 d22 d23 d24 d25 d26 d27 d28 d29 d30 d31 d32 d33 d34 d35 d36 d37 d38 d39:FuncData}(X:K.In h)(G:h.Ns mainGlobals mg)(hfa:mg "law"=some (.ref fa))
  {tk0:Tok}
  (D0:Df K mg "_law_pen" (top 31) f0 d0) (D1:Df K mg "_law_take" (top 32) f1 d1) (D2:Df K mg "_law_sides" (top 35) f2 d2) (D3:Df K mg "_law_number" (top 34) f3 d3) (D4:Df K mg "_law_places" (top 36) f4 d4) (D5:Df K mg "_law_all" (top 37) f5 d5) (D6:Df K mg "_law_field" (top 38) f6 d6) (D7:Df K mg "_law_box" (top 40) f7 d7) (D8:Df K mg "_law_factors" (top 41) f8 d8) (D9:Df K mg "_law_known" (top 39) f9 d9) (D10:Df K mg "_law_laid" (top 42) f10 d10) (D11:Df K mg "_law_same" (top 33) f11 d11) (D12:Df K mg "_law_same" (top 33) f12 d12) (D13:Df K mg "_law_same" (top 33) f13 d13) (D14:Df K mg "_law_same" (top 33) f14 d14) (D15:Df K mg "is_whole" (top 6) f15 d15) (D16:Df K mg "are_wholes" (top 7) f16 d16) (D17:Df K mg "ask_for_factors" (top 22) f17 d17) (D18:Df K mg "is_place" (top 14) f18 d18) (D19:Df K mg "is_box" (top 15) f19 d19) (D20:Df K mg "ask_for_box" (top 16) f20 d20) (D21:Df K mg "times" (top 24) f21 d21) (D22:Df K mg "box_stretched" (top 29) f22 d22) (D23:Df K mg "_law_box_right" (top 43) f23 d23) (D24:Df K mg "product" (top 8) f24 d24) (D25:Df K mg "one_of_each" (top 9) f25 d25) (D26:Df K mg "places_between" (top 10) f26 d26) (D27:Df K mg "first_place" (top 17) f27 d27) (D28:Df K mg "last_place" (top 18) f28 d28) (D29:Df K mg "all_places" (top 20) f29 d29) (D30:Df K mg "index_of" (top 11) f30 d30) (D31:Df K mg "cell_at" (top 19) f31 d31) (D32:Df K mg "place_shrunk" (top 25) f32 d32) (D33:Df K mg "place_moved" (top 27) f33 d33) (D34:Df K mg "field_from" (top 23) f34 d34) (D35:Df K mg "stretched" (top 26) f35 d35) (D36:Df K mg "_law_stretched_right" (top 44) f36 d36) (D37:Df K mg "cut" (top 28) f37 d37) (D38:Df K mg "_law_cut_right" (top 45) f38 d38) (D39:Df K mg "law" (top 46) f39 d39)
  (x0:PySem.W.nsIn K mainGlobals "BoxError"=some (some (.ref cl0))) (x1:PySem.W.nsIn K mainGlobals "NoField"=some (some (.ref cl1))) (x2:PySem.W.nsIn K mainGlobals "NoBox"=some (some (.ref cl2))) (x3:PySem.W.nsIn K mainGlobals "NoTurn"=some (some (.ref cl3))) (z0:PySem.W.nsIn K mainGlobals "len"=some none) (z1:PySem.W.nsIn K mainGlobals "abs"=some none) (z2:PySem.W.nsIn K mainGlobals "min"=some none) (z3:PySem.W.nsIn K mainGlobals "max"=some none) (z4:PySem.W.nsIn K mainGlobals "sum"=some none) (z5:PySem.W.nsIn K mainGlobals "dict"=some none) (z6:PySem.W.nsIn K mainGlobals "all"=some none) (z7:PySem.W.nsIn K mainGlobals "isinstance"=some none) (z8:PySem.W.nsIn K mainGlobals "tuple"=some none) (z9:PySem.W.nsIn K mainGlobals "list"=some none) (z10:PySem.W.nsIn K mainGlobals "int"=some none) (z11:PySem.W.nsIn K mainGlobals "bool"=some none) (z12:PySem.W.nsIn K mainGlobals "range"=some none) (z13:PySem.W.nsIn K mainGlobals "zip"=some none) (z14:PySem.W.nsIn K mainGlobals "sorted"=some none) (z15:PySem.W.nsIn K mainGlobals "ValueError"=some none) (y0:PySem.W.nsIn K mainGlobals "MOST_CELLS"=some (some (.int 120 tk0))) (e0:lmIn K "stretched" d35=true) (e1:lmIn K "cut" d37=true) (e2:lamOf K "stretched"=lamS (defBody (top 26))) (e3:lamOf K "cut"=lamS (defBody (top 28))) :
  ∃fd:FuncData,(∀(s:Shared) (v:Value),BindsTo s fd ⟨[v],[]⟩ [("_law_script",v)])/\∀base:Heap,K.In base->base.Ns mainGlobals mg->FnOk l.prog w K mg base CX0 9 fa fd ["_law_script"] (conSp K cLaw):=by
 cases hfa.symm.trans D39.m
 have T:Txt mg:=⟨⟨_,PySem.W.mg_of X G y0⟩,PySem.W.mg_none_of X G z0,PySem.W.mg_none_of X G z1,PySem.W.mg_none_of X G z2,PySem.W.mg_none_of X G z3,PySem.W.mg_none_of X G z4,PySem.W.mg_none_of X G z5,PySem.W.mg_none_of X G z6,PySem.W.mg_none_of X G z7,PySem.W.mg_none_of X G z8,PySem.W.mg_none_of X G z9,PySem.W.mg_none_of X G z10,PySem.W.mg_none_of X G z11,PySem.W.mg_none_of X G z12,PySem.W.mg_none_of X G z13,PySem.W.mg_none_of X G z14,PySem.W.mg_none_of X G z15,cA_mg (PySem.W.mg_of X G x0),cA_mg (PySem.W.mg_of X G x1),cA_mg (PySem.W.mg_of X G x2),cA_mg (PySem.W.mg_of X G x3)⟩
 obtain⟨oc,od,kV,doc,pm,an,cdv,ct,osl,e,lk,hcd⟩:=D39.F.ex
 refine ⟨d39,fun s v=>by subst e;exact .of_eq rfl,fun b _ _=>?_⟩
 have LF:LamF K:=⟨e2,e3⟩
 have C0:=calD l.prog w b D0 (ok_pen D0.F) fun _ _ _ _ _ _=>len1 fun _=>rfl
 have C1:=calD l.prog w b D1 (ok_take D1.F T) fun _ _ _ _ _ _=>len2 fun _ _=>rfl
 have C2:=calD l.prog w b D2 (ok_sides D2.F T ⟨C1⟩) fun _ _ _ _ _ _=>len2 fun _ _=>rfl
 have C3:=calD l.prog w b D3 (ok_number D3.F T ⟨C1⟩) fun _ _ _ _ _ _=>len1 fun _=>rfl
 have C4:=calD l.prog w b D4 (ok_lpl D4.F T) fun _ _ _ _ _ _=>len2 fun _ _=>rfl
 have C5:=calD l.prog w b D5 (ok_all_ D5.F T ⟨C4⟩) fun _ _ _ _ _ _=>len1 fun _=>rfl
 have C6:=calD l.prog w b D6 (ok_field D6.F T ⟨C2,C3,C5⟩) fun _ _ _ _ _ _=>len2 fun _ _=>rfl
 have C7:=calD l.prog w b D7 (ok_box D7.F T ⟨C1⟩) fun _ _ _ _ _ _=>len2 fun _ _=>rfl
 have C8:=calD l.prog w b D8 (ok_fac D8.F T ⟨C1⟩) fun _ _ _ _ _ _=>len2 fun _ _=>rfl
 have C9:=calD l.prog w b D9 (ok_known D9.F T ⟨C5⟩) fun _ _ _ _ _ _=>len1 fun _=>rfl
 have C10:=calD l.prog w b D10 (ok_laid D10.F T ⟨C5⟩) fun _ _ _ _ _ _=>len2 fun _ _=>rfl
 have C11:=calD l.prog w b D11 (ok_same0 D11.F) fun _ _ _ _ _ _=>len2 fun _ _=>rfl
 have C12:=calD l.prog w b D12 (ok_same1 D12.F T ⟨C11⟩) fun _ _ _ _ _ _=>len2 fun _ _=>rfl
 have C13:=calD l.prog w b D13 (ok_same2 D13.F T ⟨C12⟩) fun _ _ _ _ _ _=>len2 fun _ _=>rfl
 have C14:=calD l.prog w b D14 (ok_same3 D14.F T ⟨C13⟩) fun _ _ _ _ _ _=>len2 fun _ _=>rfl
 have C15:=calD l.prog w b D15 (ok_whole D15.F T) fun _ _ _ _ _ _=>len1 fun _=>rfl
 have C16:=calD l.prog w b D16 (ok_areW D16.F T ⟨C15⟩) fun _ _ _ _ _ _=>len2 fun _ _=>rfl
 have C17:=calD l.prog w b D17 (ok_af D17.F T ⟨C16⟩) fun _ _ _ _ _ _=>len2 fun _ _=>rfl
 have C18:=calD l.prog w b D18 (ok_isPlace D18.F T ⟨C16⟩) fun _ _ _ _ _ _=>len2 fun _ _=>rfl
 have C19:=calD l.prog w b D19 (ok_isBox D19.F T ⟨C18⟩) fun _ _ _ _ _ _=>len2 fun _ _=>rfl
 have C20:=calD l.prog w b D20 (ok_ask D20.F ⟨C19⟩) fun _ _ _ _ _ _=>len2 fun _ _=>rfl
 have C21:=calD l.prog w b D21 (ok_times D21.F T) fun _ _ _ _ _ _=>len2 fun _ _=>rfl
 have C22:=calD l.prog w b D22 (ok_bs D22.F T ⟨C17,C20,C21⟩) fun _ _ _ _ _ _=>len3 fun _ _ _=>rfl
 have C23:=calD l.prog w b D23 (ok_br D23.F T ⟨C7,C14,C22⟩) fun _ _ _ _ _ _=>len3 fun _ _ _=>rfl
 have C24:=calD l.prog w b D24 (ok_proT D24.F) fun _ _ _ _ _ _=>len1 fun _=>rfl
 have C25:=calD l.prog w b D25 (ok_each D25.F) fun _ _ _ _ _ _=>len1 fun _=>rfl
 have C26:=calD l.prog w b D26 (ok_btw D26.F T ⟨C25⟩) fun _ _ _ _ _ _=>len2 fun _ _=>rfl
 have C27:=calD l.prog w b D27 (ok_first D27.F T) fun _ _ _ _ _ _=>len1 fun _=>rfl
 have C28:=calD l.prog w b D28 (ok_last D28.F T) fun _ _ _ _ _ _=>len1 fun _=>rfl
 have C29:=calD l.prog w b D29 (ok_allPlaces D29.F ⟨C26,C27,C28⟩) fun _ _ _ _ _ _=>len1 fun _=>rfl
 have C30:=calD l.prog w b D30 (ok_index D30.F T) fun _ _ _ _ _ _=>len2 fun _ _=>rfl
 have C31:=calD l.prog w b D31 (ok_ca D31.F ⟨C30⟩) fun _ _ _ _ _ _=>len2 fun _ _=>rfl
 have C32:=calD l.prog w b D32 (ok_shr D32.F T) fun _ _ _ _ _ _=>len2 fun _ _=>rfl
 have C33:=calD l.prog w b D33 (ok_mov D33.F T) fun _ _ _ _ _ _=>len2 fun _ _=>rfl
 have CV:=vok_of (P:=l.prog) (w:=w) (base:=b) LF ⟨C32,C33⟩
 have C34:=calD l.prog w b D34 (ok_ff D34.F T ⟨C24,C29,C31,CV⟩) fun _ _ _ _ _ _=>len3 fun _ _ _=>rfl
 have C35:=calD l.prog w b D35 (ok_str D35.F T ⟨C17,C21,C34⟩ LF (lm_of e0)) fun _ _ _ _ _ _=>len2 fun _ _=>rfl
 have C36:=calD l.prog w b D36 (ok_sr D36.F T ⟨C1,C8,C9,C4,C10,C14,C23,C35⟩) fun _ _ _ _ _ _=>len2 fun _ _=>rfl
 have C37:=calD l.prog w b D37 (ok_cut D37.F T ⟨C20,C34⟩ LF (lm_of e1)) fun _ _ _ _ _ _=>len2 fun _ _=>rfl
 have C38:=calD l.prog w b D38 (ok_cr D38.F T ⟨C9,C4,C14,C37⟩) fun _ _ _ _ _ _=>len2 fun _ _=>rfl
 exact ok_law D39.F T ⟨C0,C1,C6,C7,C36,C38⟩
end R55
open PySem PySem.W PyProof.Rows
namespace PySem.W.Fast
def tw13082744289705266848:Unit:=()
def tw8183047948624975822:Unit:=()
def tw8899162403177671141:Unit:=()
def tw13140957491663589682:Unit:=()
def tw15514195574535359322:Unit:=()
def tw340012997756328397:Unit:=()
def tw15998436090743442907:Unit:=()
def tw14196931953646730454:Unit:=()
def tw15002641174481891880:Unit:=()
def tw6145057883032955011:Unit:=()
def tw9938899404908979339:Unit:=()
def tw11424389584873648195:Unit:=()
def tw9741918252973592908:Unit:=()
def tw5869071435780374112:Unit:=()
def tw8889842240858779739:Unit:=()
def tw9568989911415693121:Unit:=()
def tw17436602083682141181:Unit:=()
def tw5268999808030977237:Unit:=()
def tw2345277798518516962:Unit:=()
def tw8110439165769852678:Unit:=()
def tw6021655723772343830:Unit:=()
def tw5224618605889042155:Unit:=()
def tw9230279584268754819:Unit:=()
def tw8488256969362515756:Unit:=()
def tw7125173020144735834:Unit:=()
def tw3145374266245679222:Unit:=()
def tw17374562144866366175:Unit:=()
def tw5840432619772846659:Unit:=()
def tw17143537085994176412:Unit:=()
def tw1251165744832536192:Unit:=()
def tw12968933602164213655:Unit:=()
def tw14661358358227828079:Unit:=()
def tw8495510331261247404:Unit:=()
def tw7354268616938170057:Unit:=()
def tw9459180190002311400:Unit:=()
def tw16366823687823918819:Unit:=()
def tw17767818431381465838:Unit:=()
def tw1034971960323780542:Unit:=()
def tw2681157290756357833:Unit:=()
def tw8938470422825141272:Unit:=()
def tw5872118743761953677:Unit:=()
def tw14609126980861986198:Unit:=()
def tw8121926406507571293:Unit:=()
def tw17520038827356098726:Unit:=()
def tw6619345644322618992:Unit:=()
def tw6038083312011986845:Unit:=()
def tw2649328463673385234:Unit:=()
def tw11594647641625836892:Unit:=()
def tw18290701952845705984:Unit:=()
def tw7902562033955438474:Unit:=()
def tw8859265321310811664:Unit:=()
def tw17038792920884445347:Unit:=()
def tw11135364971568975333:Unit:=()
def tw10035969796770816350:Unit:=()
def tw484273617762791304:Unit:=()
def tw46285338715780574:Unit:=()
def tw12792315072403360339:Unit:=()
def tw8242327245958300105:Unit:=()
def tw9560253147803128516:Unit:=()
def tw8818948506185278261:Unit:=()
def tw9973094585928139034:Unit:=()
def tw6841089891493666823:Unit:=()
def tw6528373137488295005:Unit:=()
def tw9722123899118165138:Unit:=()
def tw6093676203013960958:Unit:=()
def tw4302516889810383427:Unit:=()
def tw13993879552604732922:Unit:=()
def tw4162311952882475433:Unit:=()
def tw16596985093377844428:Unit:=()
def tw547213773437603568:Unit:=()
def tw4493368283911501763:Unit:=()
def tw17091812550782837996:Unit:=()
def tw2618904762346195879:Unit:=()
def tw140462961709672900:Unit:=()
def tw18361404185112500969:Unit:=()
def tw5026510577942629544:Unit:=()
def tw17040459480576919162:Unit:=()
def tw1747530243437719796:Unit:=()
def tw2998441712201449251:Unit:=()
def tw8369401031701304343:Unit:=()
def tw16181136475429511970:Unit:=()
def tw15466038191327841232:Unit:=()
def tw18330349635418389907:Unit:=()
def tw13965218830493018158:Unit:=()
def tw4623688413042430498:Unit:=()
def tw13021396544800316331:Unit:=()
def tw4249083587118777090:Unit:=()
def tw9942583677878171777:Unit:=()
def tw15525830165595976477:Unit:=()
def tw17410705400267890951:Unit:=()
def tw6155053078038821663:Unit:=()
def tw15110828440797045492:Unit:=()
def tw721705079083529142:Unit:=()
def tw1174590525785987785:Unit:=()
def tw11086397165536674530:Unit:=()
def tw17545181927376254645:Unit:=()
def tw13710041832784634232:Unit:=()
def tw8992110345624328093:Unit:=()
def tw8688814510122391431:Unit:=()
def tw5540285160069149300:Unit:=()
def tw18145205971857097814:Unit:=()
def tw6879387184687638416:Unit:=()
def tw9232894032233175048:Unit:=()
def tw698052172435664961:Unit:=()
def tw8384609411623420227:Unit:=()
def tw13087851363857465884:Unit:=()
def tw15051926046515406979:Unit:=()
def tw9972127070793095601:Unit:=()
def tw9038285573076407001:Unit:=()
def tw4348445517327952065:Unit:=()
def tw18098475438660817776:Unit:=()
def tw16467786089359892869:Unit:=()
def tw14414184199452963676:Unit:=()
def tw10396426349034783219:Unit:=()
def tw6476029387802253653:Unit:=()
def tw859568923905472826:Unit:=()
def tw13658921951824623095:Unit:=()
def tw11924998253805303689:Unit:=()
def tw1065985497908886562:Unit:=()
def tw1163402183852442750:Unit:=()
def tw3302876572699306225:Unit:=()
def tw14340264505136145353:Unit:=()
def tw7445612538764896198:Unit:=()
def tw5284559357251926581:Unit:=()
def tw15436822009643391387:Unit:=()
def tw7799073225333542852:Unit:=()
def tw15457514682249724971:Unit:=()
def tw8614822294468830840:Unit:=()
def tw10313253435542667145:Unit:=()
def tw5395366240891545250:Unit:=()
def tw7629150412921330084:Unit:=()
def tw15209140497875176117:Unit:=()
def tw5985352370090883707:Unit:=()
def tw18381854564135201090:Unit:=()
def tw9386214684707002581:Unit:=()
def tw1956127126064073533:Unit:=()
def tw14274782946602472996:Unit:=()
def tw3090172695998523324:Unit:=()
def tw679837676026852053:Unit:=()
def tw18374251491132546300:Unit:=()
def tw18438451725680607485:Unit:=()
def tw6479274883854102999:Unit:=()
def tw6077936442180679452:Unit:=()
def tw1390139267396808404:Unit:=()
def tw2862421108778140739:Unit:=()
def tw1912113446309366699:Unit:=()
def tw13888688219051652870:Unit:=()
def tw16847516081484465868:Unit:=()
def tw657783086254566767:Unit:=()
def tw10455525004670691377:Unit:=()
def tw2752283328007909661:Unit:=()
def tw13873044698163269464:Unit:=()
def tw9731388983895161468:Unit:=()
def tw2038203289062031920:Unit:=()
def tw8065395981092660991:Unit:=()
def tw17122780332660623671:Unit:=()
def tw2535306409083243831:Unit:=()
def tw12915423699745250087:Unit:=()
def tw2379036777276594556:Unit:=()
def tw10254478100053924719:Unit:=()
def tw14072520862210075917:Unit:=()
def tw3868676613787210497:Unit:=()
end PySem.W.Fast
set_option maxRecDepth 100000 in
set_option maxHeartbeats 0 in
theorem PySem.Challenge.cw_boxsums_k55_stretched_and_cut_holds : PySem.Challenge.rw_boxsums_k55_stretched_and_cut.Holds := by
 w_on;o_law;k_head;(case hw=>w_witness2)
 k_fill
 refine L3.walkT (l:=PySem.Challenge.rw_boxsums_k55_stretched_and_cut) (k:=9) (x:="_law_script") R55.cLaw_at ⟨rfl,by decide,by decide,rfl⟩ rfl rfl (fun w h Y=>⟨PySem.W.km_in_of Y,PySem.W.km_tabs_of Y⟩) (fun w=>by kernel_rfl) ?F
 case F =>
  intro w mg fa h KX G hmg
  refine' R55.all_mk KX G hmg (R55.df_mk KX G ?a0 ?l0 ?c0 ?k0) (R55.df_mk KX G ?a1 ?l1 ?c1 ?k1) (R55.df_mk KX G ?a2 ?l2 ?c2 ?k2) (R55.df_mk KX G ?a3 ?l3 ?c3 ?k3) (R55.df_mk KX G ?a4 ?l4 ?c4 ?k4) (R55.df_mk KX G ?a5 ?l5 ?c5 ?k5) (R55.df_mk KX G ?a6 ?l6 ?c6 ?k6) (R55.df_mk KX G ?a7 ?l7 ?c7 ?k7) (R55.df_mk KX G ?a8 ?l8 ?c8 ?k8) (R55.df_mk KX G ?a9 ?l9 ?c9 ?k9) (R55.df_mk KX G ?a10 ?l10 ?c10 ?k10) (R55.df_mk KX G ?a11 ?l11 ?c11 ?k11) (R55.df_mk KX G ?a12 ?l12 ?c12 ?k12) (R55.df_mk KX G ?a13 ?l13 ?c13 ?k13) (R55.df_mk KX G ?a14 ?l14 ?c14 ?k14) (R55.df_mk KX G ?a15 ?l15 ?c15 ?k15) (R55.df_mk KX G ?a16 ?l16 ?c16 ?k16) (R55.df_mk KX G ?a17 ?l17 ?c17 ?k17) (R55.df_mk KX G ?a18 ?l18 ?c18 ?k18) (R55.df_mk KX G ?a19 ?l19 ?c19 ?k19) (R55.df_mk KX G ?a20 ?l20 ?c20 ?k20) (R55.df_mk KX G ?a21 ?l21 ?c21 ?k21) (R55.df_mk KX G ?a22 ?l22 ?c22 ?k22) (R55.df_mk KX G ?a23 ?l23 ?c23 ?k23) (R55.df_mk KX G ?a24 ?l24 ?c24 ?k24) (R55.df_mk KX G ?a25 ?l25 ?c25 ?k25) (R55.df_mk KX G ?a26 ?l26 ?c26 ?k26) (R55.df_mk KX G ?a27 ?l27 ?c27 ?k27) (R55.df_mk KX G ?a28 ?l28 ?c28 ?k28) (R55.df_mk KX G ?a29 ?l29 ?c29 ?k29) (R55.df_mk KX G ?a30 ?l30 ?c30 ?k30) (R55.df_mk KX G ?a31 ?l31 ?c31 ?k31) (R55.df_mk KX G ?a32 ?l32 ?c32 ?k32) (R55.df_mk KX G ?a33 ?l33 ?c33 ?k33) (R55.df_mk KX G ?a34 ?l34 ?c34 ?k34) (R55.df_mk KX G ?a35 ?l35 ?c35 ?k35) (R55.df_mk KX G ?a36 ?l36 ?c36 ?k36) (R55.df_mk KX G ?a37 ?l37 ?c37 ?k37) (R55.df_mk KX G ?a38 ?l38 ?c38 ?k38) (R55.df_mk KX G ?a39 ?l39 ?c39 ?k39) ?x0 ?x1 ?x2 ?x3 ?z0 ?z1 ?z2 ?z3 ?z4 ?z5 ?z6 ?z7 ?z8 ?z9 ?z10 ?z11 ?z12 ?z13 ?z14 ?z15 ?y0 ?e0 ?e1 ?e2 ?e3
  case a0|l0|c0|k0|a1|l1|c1|k1|a2|l2|c2|k2|a3|l3|c3|k3|a4|l4|c4|k4|a5|l5|c5|k5|a6|l6|c6|k6|a7|l7|c7|k7|a8|l8|c8|k8|a9|l9|c9|k9|a10|l10|c10|k10|a11|l11|c11|k11|a12|l12|c12|k12|a13|l13|c13|k13|a14|l14|c14|k14|a15|l15|c15|k15|a16|l16|c16|k16|a17|l17|c17|k17|a18|l18|c18|k18|a19|l19|c19|k19|a20|l20|c20|k20|a21|l21|c21|k21|a22|l22|c22|k22|a23|l23|c23|k23|a24|l24|c24|k24|a25|l25|c25|k25|a26|l26|c26|k26|a27|l27|c27|k27|a28|l28|c28|k28|a29|l29|c29|k29|a30|l30|c30|k30|a31|l31|c31|k31|a32|l32|c32|k32|a33|l33|c33|k33|a34|l34|c34|k34|a35|l35|c35|k35|a36|l36|c36|k36|a37|l37|c37|k37|a38|l38|c38|k38|a39|l39|c39|k39|x0|x1|x2|x3|z0|z1|z2|z3|z4|z5|z6|z7|z8|z9|z10|z11|z12|z13|z14|z15|y0=>k_is
  case e0|e1|e2|e3=>kernel_rfl
