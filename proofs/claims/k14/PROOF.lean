import PyProof.Rows.All
import Wide.All
import OpenK.AllK
import Wide.FinOn
import Lean
import PyProof.EqAt
import PyProof.EqKinds
import PyProof.TupleCall
import KE.KEqDict
import PyProof.NeKinds
import KE.KDictLaws
import KE.KDictList
import PyProof.ConsumeWalk
import PyProof.SumWalkG
import PyProof.DictRoadsH
import Wide.Seal
import PyProof.StationsW
import PyProof.StrBlockI
import PyProof.StrBlockL
import PyProof.SliceList
import KE.KIntText
import PyProof.SliceStr2
import PyProof.EnumMake
import PyProof.Draws
import PyProof.Rows.CallKwBuiltin
import PyProof.Rows.CallKw2
import PyProof.Rows.Exc
import OpenK.KWalk
import PyProof.MinMaxWalk
import PyProof.ZipIter
import PyProof.TupleIter
import PyProof.WalksMore
import PyProof.Rows.ZipGen
import PyProof.StrWalks
import PyProof.DictWalks
import PyProof.DictItems
import PyProof.FactsAll.dict_3
import OpenK.KOwn
import KE.KIsAll
import PyProof.NsDelKeeps
import PyProof.ExcClass2
import PySem.Challenge.RW_commonforms_k14_texts_refused
set_option bootstrap.genMatcherCode false
set_option Elab.async false
set_option linter.all false
set_option maxRecDepth 100000
namespace L2
open PySem PySem.Spec PyProof.Rows
noncomputable abbrev Key:=Sum Int Str
noncomputable def keyIs:Key->Value->Bool
 | .inl k,v=>Value.isInt k v
 | .inr x,v=>Value.isStrOf x v
noncomputable def keyH(w:World):Key->Int
 | .inl k=>hashInt k
 | .inr x=>hashStr w x
theorem keyIs_shape:∀ {k:Key} {v:Value},keyIs k v=true->(∃ i t,k=Sum.inl i/\v=Value.int i t)\/(∃ x t,k=Sum.inr x/\v=Value.str x t)
 | .inl i,v,h=>by
  obtain⟨t,e⟩:=Value.isInt_shape (k:=i) (v:=v) h
  exact .inl ⟨i,t,rfl,e⟩
 | .inr x,v,h=>by
  obtain⟨t,e⟩:=Value.isStrOf_shape (x:=x) (v:=v) h
  exact .inr ⟨x,t,rfl,e⟩
theorem key_ll(a b:Int):decide ((Sum.inl a:Key)=Sum.inl b)=(a == b):=by
 by_cases e:a=b
 ·subst e;simp
 ·have h:¬ (Sum.inl a:Key)=Sum.inl b:=fun q=>e (Sum.inl.inj q)
  rw[decide_eq_false h]
  exact(beq_eq_false_iff_ne.mpr e).symm
theorem key_rr(a b:Str):decide ((Sum.inr a:Key)=Sum.inr b)=decide (a=b):=by
 by_cases e:a=b
 ·subst e;simp
 ·have h:¬ (Sum.inr a:Key)=Sum.inr b:=fun q=>e (Sum.inr.inj q)
  rw[decide_eq_false h,decide_eq_false e]
theorem key_lr(a:Int)(b:Str):decide ((Sum.inl a:Key)=Sum.inr b)=false:=decide_eq_false (fun q=>nomatch q)
theorem key_rl(a:Str)(b:Int):decide ((Sum.inr a:Key)=Sum.inl b)=false:=decide_eq_false (fun q=>nomatch q)
noncomputable def mixKind(prog:Program)(w:World):PySem.KeyKind prog w Key where
 is:=keyIs
 hash:=keyH w
 inj:=fun v a b ha hb=>by
  rcases keyIs_shape ha with⟨i,t,rfl,rfl⟩ | ⟨x,t,rfl,rfl⟩
  ·rcases keyIs_shape hb with⟨j,u,rfl,e⟩ | ⟨y,u,rfl,e⟩
   ·injection e with e1 _;rw[e1]
   ·exact nomatch e
  ·rcases keyIs_shape hb with⟨j,u,rfl,e⟩ | ⟨y,u,rfl,e⟩
   ·exact nomatch e
   ·injection e with e1 _;rw[e1]
 byValue:=fun k v h=>by
  rcases keyIs_shape h with⟨i,t,rfl,rfl⟩ | ⟨x,t,rfl,rfl⟩<;>rfl
 pyHash:=fun hv h=>by
  rcases keyIs_shape hv with⟨i,t,rfl,rfl⟩ | ⟨x,t,rfl,rfl⟩
  ·exact wpAny_pyHash_int h
  ·exact wpAny_pyHash_str h
 eqBool:=fun hu hv h=>by
  rcases keyIs_shape hu with⟨i,t,rfl,rfl⟩ | ⟨x,t,rfl,rfl⟩
  ·rcases keyIs_shape hv with⟨j,u,rfl,rfl⟩ | ⟨y,u,rfl,rfl⟩
   ·rw[key_ll] at h;exact wpAny_eqBool_int h
   ·rw[key_lr] at h;exact SeqAt.EqAt.int_str i t y u _ _ _ _ h
  ·rcases keyIs_shape hv with⟨j,u,rfl,rfl⟩ | ⟨y,u,rfl,rfl⟩
   ·rw[key_rl] at h;exact SeqAt.EqAt.str_int x t j u _ _ _ _ h
   ·rw[key_rr] at h;exact wpAny_eqBool_str h
 «strs» := fun k x t v h=>by
  rcases keyIs_shape h with⟨i,u,rfl,e⟩ | ⟨y,u,rfl,e⟩
  ·exact nomatch e
  ·injection e with e1 _
   subst e1
   cases v<;>rfl
end L2
namespace L2
open PySem PySem.Spec PyProof.Rows
inductive V where
 |non|bl (b:Bool)|int (i:Int)|str (x:Str)|byt (b:Array UInt8)|flt (b:UInt64)|ref (a:Addr)|ty (n:String)
 deriving DecidableEq
noncomputable def RelV:V->Value->Prop
 | .non,u=>u=Value.none
 | .bl b,u=>u=Value.bool b
 | .int i,u=>∃ t,u=Value.int i t
 | .str x,u=>∃ t,u=Value.str x t
 | .byt b,u=>∃ t,u=Value.bytes b t
 | .flt b,u=>∃ t,u=Value.float b t
 | .ref a,u=>u=Value.ref a
 | .ty n,u=>u=Value.type n
noncomputable abbrev Vals:List V->List Value->Prop:=Paired RelV
theorem Vals.length{xs:List V}{us:List Value}(r:Vals xs us):xs.length=us.length:=Paired.length r
theorem Vals.get:∀ {xs:List V} {us:List Value} {i:Nat} {x:V},Vals xs us->xs[i]?=some x->∃ u,us[i]?=some u/\RelV x u
 |_,_,_,_,.nil,e=>by simp at e
 |_,_,0,_,.cons r _,e=>by simp at e;subst e;exact⟨_,rfl,r⟩
 |_,_,i+1,x,.cons _ t,e=>by
  obtain⟨u,h1,h2⟩:=Vals.get (i:=i) (x:=x) t (by simpa using e)
  exact⟨u,by simpa using h1,h2⟩
theorem Vals.set{x:V}{u:Value}(r:RelV x u):∀ {xs:List V} {us:List Value} (i:Nat),Vals xs us->Vals (xs.set i x) (us.set i u)
 |_,_,_,.nil=>.nil
 |_,_,0,.cons _ t=>.cons r t
 |_,_,i+1,.cons q t=>.cons q (Vals.set r i t)
theorem Vals.append:∀ {xs ys:List V} {us ws:List Value},Vals xs us->Vals ys ws->Vals (xs++ys) (us++ws)
 |_,_,_,_,.nil,s=>s
 |_,_,_,_,.cons r t,s=>.cons r (Vals.append t s)
theorem Vals.take:∀ {xs:List V} {us:List Value} (n:Nat),Vals xs us->Vals (xs.take n) (us.take n)
 |_,_,0,_=>.nil
 |_,_,_+1,.nil=>.nil
 |_,_,n+1,.cons r t=>.cons r (Vals.take n t)
theorem Vals.drop:∀ {xs:List V} {us:List Value} (n:Nat),Vals xs us->Vals (xs.drop n) (us.drop n)
 |_,_,0,r=>r
 |_,_,_+1,.nil=>.nil
 |_,_,n+1,.cons _ t=>Vals.drop n t
noncomputable def RelO:Option V->Option Value->Prop
 |some v,some u=>RelV v u
 |none,none=>True
 |_,_=>False
noncomputable def KV{κ:Type}:List (κ × V)->List (κ × Value)->Prop:=Paired fun(p:κ × V) (q:κ × Value)=>p.1=q.1/\RelV p.2 q.2
noncomputable def kV:Key->V
 | .inl i=>.int i
 | .inr x=>.str x
inductive HO where
 |lst (xs:List V)
 |tup (xs:List V)
 |dK (kvs:List (Key × V))|dT (kvs:List (List Key × V))
 |set (S:Int->Bool) (n:Nat)
 |ins (C dx:Addr) (fs:List (Str × V))
 |own (x:Addr)
 |xd (fs:List (Str × V))
 |met (f x:Addr)
 |rng (lo hi:Int)
 |frz (o:Obj) (u:HO)
 |tbl (ps:Array Value)
 |ext (φ:Heap->Prop)
noncomputable abbrev Hp:=Addr->Option HO
noncomputable def upd(H:Hp)(a:Addr)(o:HO):Hp:=fun b=>if b=a then some o else H b
theorem upd_same{H:Hp}{a:Addr}{o:HO}:upd H a o a=some o:=by unfold upd;rw[if_pos rfl]
theorem upd_ne{H:Hp}{a b:Addr}{o:HO}(h:b≠a):upd H a o b=H b:=by unfold upd;rw[if_neg h]
theorem ne_of_none{H:Hp}{a b:Addr}{o:HO}(h:H a=some o)(h':H b=none):a≠b:=by
 intro e;subst e;rw[h] at h';cases h'
section
variable (P:Program)(w:World)
noncomputable def ObjOk(H:Hp)(h:Heap)(a:Addr):HO->Prop
 | .lst xs=>xs.length<=sizeLine/\∃ (its:List Value) (n:Nat),Vals xs its/\h.get? a=some {cls:=.type "list",data:=.seq its.toArray n}
 | .tup xs=>xs.length<=sizeLine/\∃ its:List Value,Vals xs its/\IsTup h a its.toArray
 | .dK kvs=>kvs.length<=sizeLine/\(a == sysModules)=false/\∃ vs,KV kvs vs/\h.DictOf (mixKind P w) a vs
 | .dT kvs=>kvs.length<=sizeLine/\(a == sysModules)=false/\∃ xs:List (List Key × Addr × Value),
  Paired (fun(p:List Key × V) (q:List Key × Addr × Value)=>p.1=q.1/\H q.2.1=some (.tup (p.1.map kV))/\RelV p.2 q.2.2) kvs xs ∧
  ∃ o es ep,h.get? a=some o/\o.ExactDict/\o.data = .dict es ep/\es.toList=xs.map (entryOfKey (tupleKind (mixKind P w)))/\(xs.map (·.1)).Nodup
 | .set S n=>h.SetOf (intKind P w) a S n
 | .ins C dx fs=>H dx=some (.own a)/\fs.length<=1000/\dx≠a/\h.get? a=some (PySem.W.instObj C dx) ∧
  ∃ mA,h.Ns1 dx mA/\(∀ f,RelO (fs.lookup f) (mA f))/\PySem.Within mA (fs.map (·.1))
 | .own _=>∃ o,h.get? a=some o
 | .xd fs=>∃ mA,h.Ns1 a mA/\∀ f,RelO (fs.lookup f) (mA f)
 | .rng lo hi=>∃ t u v,h.get? a=some {cls:=.type "range",data:=.fields #[.int lo t,.int hi u,.int 1 v]}
 | .frz o u=>h.get? a=some o/\ObjOk H h a u
 | .tbl ps=>h.get? a=some {cls:=.none,data:=.fields ps}
 | .met f x=>h.get? a=some (PySem.W.methodObj (.ref f) (.ref x))
 | .ext φ=>φ h/\(∃ o,h.get? a=some o)/\∀ h1 h2:Heap,φ h1->(∀ o,h1.get? a=some o->h2.get? a=some o)->φ h2
noncomputable def HOk(H:Hp)(h:Heap):Prop:=∀ a o,H a=some o->ObjOk P w H h a o
end
section
variable {P:Program}{w:World}{H H':Hp}{h h':Heap}{a:Addr}{o:HO}
theorem ObjOk.lt(x:ObjOk P w H h a o):a<h.objs.size:=by
 cases o with
 |lst xs=>obtain⟨_,_,_,_,e⟩:=x;exact Heap.lt_size e
 |tup xs=>obtain⟨_,_,_,p⟩:=x;exact p.lt
 |dK kvs=>obtain⟨_,_,_,_,o,_,_,e,_⟩:=x;exact Heap.lt_size e
 |dT kvs=>obtain⟨_,_,_,_,o,_,_,e,_⟩:=x;exact Heap.lt_size e
 |set S n=>obtain⟨o,_,_,_,e,_⟩:=x;exact Heap.lt_size e
 |ins C dx fs=>obtain⟨_,_,_,e,_⟩:=x;exact Heap.lt_size e
 |own y=>obtain⟨_,e⟩:=x;exact Heap.lt_size e
 |xd fs=>obtain⟨_,⟨_,_,_,e,_⟩,_⟩:=x;exact Heap.lt_size e
 |rng lo hi=>obtain⟨_,_,_,e⟩:=x;exact Heap.lt_size e
 |frz ob u=>obtain⟨e,_⟩:=x;exact Heap.lt_size e
 |tbl ps=>exact Heap.lt_size (show h.get? a=some _ from x)
 |met f y=>exact Heap.lt_size (show h.get? a=some _ from x)
 |ext φ=>obtain⟨_,⟨_,e⟩,_⟩:=x;exact Heap.lt_size e
theorem Paired.mapP{α β:Type}{F G:α->β->Prop}:∀ {l₁:List α} {l₂:List β},Paired F l₁ l₂->(∀ a b,F a b->G a b)->Paired G l₁ l₂
 |_,_,.nil,_=>.nil
 |_,_,.cons r t,f=>.cons (f _ _ r) (Paired.mapP t f)
theorem ObjOk.stay(x:ObjOk P w H h a o)(k:∀ b u,(b=a\/H b=some (.own a))->h.get? b=some u->h'.get? b=some u)
 (ho:∀ b,H b=some (.own a)->H' b=some (.own a)) (ht:∀ b xs,H b=some (.tup xs)->H' b=some (.tup xs)):ObjOk P w H' h' a o:=by
 induction o with
 |lst xs=>obtain⟨z,its,n,r,e⟩:=x;exact⟨z,its,n,r,k _ _ (.inl rfl) e⟩
 |tup xs=>obtain⟨z,its,r,ob,e,c⟩:=x;exact⟨z,its,r,ob,k _ _ (.inl rfl) e,c⟩
 |dK kvs=>obtain⟨z,y,vs,r,ob,es,ep,e,c⟩:=x;exact⟨z,y,vs,r,ob,es,ep,k _ _ (.inl rfl) e,c⟩
 |dT kvs =>
  obtain⟨z,y,xs,r,ob,es,ep,e,c⟩:=x
  exact⟨z,y,xs,Paired.mapP r fun p q z=>⟨z.1,ht _ _ z.2.1,z.2.2⟩,ob,es,ep,k _ _ (.inl rfl) e,c⟩
 |set S n=>obtain⟨ob,es,ep,t,e,c⟩:=x;exact⟨ob,es,ep,t,k _ _ (.inl rfl) e,c⟩
 |ins C dx fs =>
  obtain⟨d,z,ne,e,mA,⟨od,es,ep,e2,c⟩,r⟩:=x
  exact⟨ho _ d,z,ne,k _ _ (.inl rfl) e,mA,⟨od,es,ep,k _ _ (.inr d) e2,c⟩,r⟩
 |own y=>obtain⟨ob,e⟩:=x;exact⟨ob,k _ _ (.inl rfl) e⟩
 |xd fs=>obtain⟨mA,⟨od,es,ep,e,c⟩,r⟩:=x;exact⟨mA,⟨od,es,ep,k _ _ (.inl rfl) e,c⟩,r⟩
 |rng lo hi=>obtain⟨t,u,v,e⟩:=x;exact⟨t,u,v,k _ _ (.inl rfl) e⟩
 |frz ob u ih=>obtain⟨e,q⟩:=x;exact⟨k _ _ (.inl rfl) e,ih q⟩
 |tbl ps =>
  have e:h.get? a=some {cls:=.none,data:=.fields ps}:=x
  show h'.get? a=some {cls:=.none,data:=.fields ps}
  exact k a _ (.inl rfl) e
 |met f y =>
  have e:h.get? a=some (PySem.W.methodObj (.ref f) (.ref y)):=x
  show h'.get? a=some (PySem.W.methodObj (.ref f) (.ref y))
  exact k a _ (.inl rfl) e
 |ext φ=>obtain⟨p,⟨o,e⟩,st⟩:=x;exact⟨st _ _ p fun o q=>k _ _ (.inl rfl) q,⟨o,k _ _ (.inl rfl) e⟩,st⟩
theorem HOk.lt(x:HOk P w H h)(e:H a=some o):a<h.objs.size:=(x a o e).lt
theorem HOk.fresh(x:HOk P w H h)(e:h.objs.size<=a):H a=none:=by
 cases q:H a with
 |none=>rfl
 |some u=>exact absurd (Nat.lt_of_lt_of_le (x.lt q) e) (Nat.lt_irrefl _)
theorem HOk.kept(x:HOk P w H h)(k:∀ b u,h.get? b=some u->h'.get? b=some u):HOk P w H h':=fun a o e =>
 (x a o e).stay (fun b u _ q=>k b u q) (fun _ q=>q) fun _ _ q=>q
theorem HOk.laid(x:HOk P w H h)(k:∀ b u,h.get? b=some u->h'.get? b=some u)(hp:h.objs.size<=a)(new:ObjOk P w (upd H a o) h' a o):HOk P w (upd H a o) h':=fun b u e=>by
 have hn:=x.fresh hp
 by_cases hb:b=a
 ·subst hb;rw[upd_same] at e;cases e;exact new
 ·rw[upd_ne hb] at e
  exact(x b u e).stay (fun c v _ q=>k c v q) (fun c q=>by rw[upd_ne (ne_of_none q hn)];exact q) fun c xs q=>by rw[upd_ne (ne_of_none q hn)];exact q
end
noncomputable def Rd(H:Hp)(a:Addr)(u:HO):Prop:=H a=some u\/∃ o,H a=some (.frz o u)
theorem Rd.ok{P:Program}{w:World}{H:Hp}{h:Heap}{a:Addr}{u:HO}(r:Rd H a u)(x:HOk P w H h):ObjOk P w H h a u:=by
 rcases r with r | ⟨o,r⟩
 ·exact x a u r
 ·obtain⟨_,q⟩:=x a _ r
  exact q
noncomputable def Mut:Option HO->Prop
 |some (.lst _)=>True
 |some (.dK _)=>True
 |some (.dT _)=>True
 |some (.set _ _)=>True
 |some (.ins _ _ _)=>True
 |some (.ext _)=>True
 |_=>False
section
variable {P:Program}{w:World}{H:Hp}{h h':Heap}{x e:Addr}{o':HO}
theorem HOk.write(ok:HOk P w H h)(mu:Mut (H x))(he:e=x\/H e=some (.own x))(k:∀ b u,b≠e->h.get? b=some u->h'.get? b=some u)(heo:∃ u,h'.get? e=some u)
 (new:ObjOk P w (upd H x o') h' x o'):HOk P w (upd H x o') h':=fun b u q=>by
 have nown:∀ c y,H c=some (.own y)->c≠x:=fun c y r z=>by subst z;rw[r] at mu;exact mu
 have ntup:∀ c xs,H c=some (.tup xs)->c≠x:=fun c xs r z=>by subst z;rw[r] at mu;exact mu
 by_cases hb:b=x
 ·subst hb;rw[upd_same] at q;cases q;exact new
 ·rw[upd_ne hb] at q
  by_cases hbe:b=e
  ·have q':H b=some (.own x):=by
    rcases he with z|z
    ·exact absurd (hbe.trans z) hb
    ·rw[hbe];exact z
   rw[q] at q';cases q'
   obtain⟨v,hv⟩:=heo
   exact⟨v,by rw[hbe];exact hv⟩
  ·refine(ok b u q).stay (fun c v hc r=>k c v ?_ r) (fun c r=>by rw[upd_ne (nown c b r)];exact r) fun c xs r=>by rw[upd_ne (ntup c xs r)];exact r
   rcases hc with rfl|hc
   ·exact hbe
   ·rintro rfl
    rcases he with z|z
    ·exact nown c b hc z
    ·rw[hc] at z;cases z;exact hb rfl
end
structure Un(fs ex:List Addr)(H H':Hp)(h h':Heap):Prop where
 keep:∀ b o,h.get? b=some o->H b=none->b∉fs->b∉ex->h'.get? b=some o
 slot:∀ b o,h.get? b=some o->H b=none->b∈fs->b∉ex->∃ sl,h'.get? b=some {o with slots:=sl}
 free:∀ b o,h.get? b=some o->H b=none->b∉ex->H' b=none
 there:∀ b o,h.get? b=some o->b∉ex->∃ o',h'.get? b=some o'
 tups:∀ b xs,H b=some (.tup xs)->H' b=some (.tup xs)
 frzs:∀ b o u,H b=some (.frz o u)->H' b=some (.frz o u)
 tbls:∀ b ps,H b=some (.tbl ps)->∃ more,H' b=some (.tbl (ps++more))
section
variable {fs fs' ex ex':List Addr}{H H1 H2:Hp}{h h1 h2 h':Heap}{a x e:Addr}{o:HO}
theorem Un.any(u:Un fs ex H H1 h h1){b:Addr}{ob:Obj}(q:h.get? b=some ob)(n:H b=none)(hx:b∉ex):∃ sl,h1.get? b=some {ob with slots:=sl}:=by
 by_cases hb:b∈fs
 ·exact u.slot b ob q n hb hx
 ·exact⟨ob.slots,u.keep b ob q n hb hx⟩
theorem Un.trans(a:Un fs ex H H1 h h1)(b:Un fs ex H1 H2 h1 h2):Un fs ex H H2 h h2 where
 keep:=fun c ob q n hc hx=>b.keep c ob (a.keep c ob q n hc hx) (a.free c ob q n hx) hc hx
 slot:=fun c ob q n hc hx=>by
  obtain⟨sl,e1⟩:=a.slot c ob q n hc hx
  obtain⟨sl',e2⟩:=b.slot c _ e1 (a.free c ob q n hx) hc hx
  exact⟨sl',e2⟩
 free:=fun c ob q n hx=>by
  obtain⟨o',e1⟩:=a.there c ob q hx
  exact b.free c o' e1 (a.free c ob q n hx) hx
 there:=fun c ob q hx=>by
  obtain⟨o',e1⟩:=a.there c ob q hx
  exact b.there c o' e1 hx
 tups:=fun c xs q=>b.tups c xs (a.tups c xs q)
 frzs:=fun c ob xs q=>b.frzs c ob xs (a.frzs c ob xs q)
 tbls:=fun c ps q=>by
  obtain⟨m1,e1⟩:=a.tbls c ps q
  obtain⟨m2,e2⟩:=b.tbls c _ e1
  exact⟨m1++m2,by rw[e2,Array.append_assoc]⟩
theorem Un.kept(k:∀ b u,h.get? b=some u->h'.get? b=some u):Un fs ex H H h h' :=
 ⟨fun b ob q _ _ _=>k b ob q,fun b ob q _ _ _=>⟨ob.slots,k b ob q⟩,fun _ _ _ n _=>n,fun b ob q _=>⟨ob,k b ob q⟩,fun _ _ q=>q,fun _ _ _ q=>q,fun _ ps q=>⟨#[],by rw[q];simp⟩⟩
theorem Un.refl:Un fs ex H H h h:=Un.kept fun _ _ q=>q
theorem Un.laid(k:∀ b u,h.get? b=some u->h'.get? b=some u)(hp:h.objs.size<=a)(hn:H a=none):Un fs ex H (upd H a o) h h' where
 keep:=fun b u q _ _ _=>k b u q
 slot:=fun b u q _ _ _=>⟨u.slots,k b u q⟩
 free:=fun b u q n _=>by rw[upd_ne (Nat.ne_of_lt (Nat.lt_of_lt_of_le (Heap.lt_size q) hp))];exact n
 there:=fun b u q _=>⟨u,k b u q⟩
 tups:=fun b xs q=>by rw[upd_ne (ne_of_none q hn)];exact q
 frzs:=fun b u xs q=>by rw[upd_ne (ne_of_none q hn)];exact q
 tbls:=fun b ps q=>⟨#[],by rw[upd_ne (ne_of_none q hn),q];simp⟩
theorem Un.write(mu:Mut (H x))(he:e=x\/H e=some (.own x))(k:∀ b u,b≠e->h.get? b=some u->h'.get? b=some u)(heo:∃ u,h'.get? e=some u):Un fs ex H (upd H x o) h h':=by
 have hx:∀ b,H b=none->b≠x:=fun b n z=>by subst z;rw[n] at mu;exact mu
 have hb:∀ b,H b=none->b≠e:=fun b n z=>by
  subst z
  rcases he with r|r
  ·exact hx b n r
  ·rw[n] at r;cases r
 have hm:∀ b u,H b=some u->¬ Mut (some u)->b≠x:=fun b u q nm z=>by subst z;rw[q] at mu;exact nm mu
 refine⟨fun b u q n _ _=>k b u (hb b n) q,fun b u q n _ _=>⟨u.slots,k b u (hb b n) q⟩,fun b u q n _=>by rw[upd_ne (hx b n)];exact n,fun b u q _ => ?_,
  fun b xs q=>by rw[upd_ne (hm b _ q fun z=>z)];exact q,fun b u xs q=>by rw[upd_ne (hm b _ q fun z=>z)];exact q,fun b ps q=>⟨#[],by rw[upd_ne (hm b _ q fun z=>z),q];simp⟩⟩
 by_cases hbe:b=e
 ·subst hbe;exact heo
 ·exact⟨u,k b u hbe q⟩
end
noncomputable def trk(h:Heap)(H:Hp):List Addr:=(List.range h.objs.size).filter fun a=>(H a).isSome
noncomputable def hidT(h:Heap)(H:Hp):Heap:=PySem.W.hideAll h (trk h H)
theorem hidT_size(h:Heap)(H:Hp):(hidT h H).objs.size=h.objs.size:=PySem.W.hideAll_size _ _
theorem hidT_get{h:Heap}{H:Hp}{b:Addr}{o:Obj}(e:h.get? b=some o)(n:H b=none):(hidT h H).get? b=some o :=
 PySem.W.hideAll_get _ e fun hm=>by
  have q:(H b).isSome=true:=(List.mem_filter.mp hm).2
  rw[n] at q;simp at q
theorem of_hidT{h:Heap}{H:Hp}{b:Addr}{o:Obj}(e:(hidT h H).get? b=some o):h.get? b=some o/\H b=none:=by
 have e':h.get? b=some o:=PySem.W.of_hideAll (trk h H) e
 refine⟨e',?_⟩
 cases q:H b with
 |none=>rfl
 |some x =>
  have hm:b∈trk h H:=List.mem_filter.mpr ⟨List.mem_range.mpr (Heap.lt_size e'),by simp[q]⟩
  have z:(hidT h H).get? b=none:=PySem.W.hideAll_none (trk h H) hm
  rw[z] at e;cases e
noncomputable def allNews(g h:Heap)(L:Addr):List (Addr × Obj):=(List.range h.objs.size).filterMap fun a=>if a=L\/(g.get? a).isSome=true then none else (h.get? a).map fun o=>(a,o)
noncomputable def rest(g h:Heap)(L d:Addr):List (Addr × Obj):=(allNews g h L).filter fun p=>decide (p.1≠d)
end L2
namespace L2
open PySem PySem.Spec PyProof.Rows
structure Mod(K:PySem.W.Frag)(mg:Str->Option Value)(base:Heap):Prop where
 kin:K.In base
 glob:base.Ns mainGlobals mg
 blt:∃ mb,base.Ns builtinsNs mb/\∀ x:Str,x ≠ "__name__"->mb x=bootBuiltins x
 nolimit:base.NoLimit
structure Cx where
 prog:Program
 w:World
 K:PySem.W.Frag
 mg:Str->Option Value
 base:Heap
 A:Around
 N:List Str
 s₀:Shared
 H₀:Hp
 env:Env
 outer:List Env
 stack:List Env
 ex:List Addr
 fn:Str->Bool
 calm:Bool
 pn:List (Addr × Obj)
 xe:Value->Shared->Prop
noncomputable def frs(l:List Env):List Addr:=l.filterMap (·.frame)
noncomputable abbrev Cx.fs(X:Cx):List Addr:=frs X.outer
noncomputable def Vis(sc:Scope)(x:Str):Prop:=sc.names.lookup x=some .local\/sc.names.lookup x=some .cell\/sc.names.lookup x=some .free
noncomputable def Loc(sc:Scope)(x:Str):Prop:=sc.names.lookup x=some .local\/sc.names.lookup x=some .cell
noncomputable def Look(env:Env)(h:Heap)(m:Str->Option Value)(x:Str)(u:Value):Prop :=
 (env.kindOf x=some .local/\m x=some u)\/((env.kindOf x=some .cell\/env.kindOf x=some .free)/\∃ c,env.cells.lookup x=some c/\h.IsCell c (some u))
structure Cx.Ok(X:Cx):Prop where
 mod:Mod X.K X.mg X.base
 kind:X.env.scope.kind = .function
 glob:X.env.globals=mainGlobals
 blt:X.env.builtins=builtinsNs
 above:X.s₀.heap.objs.size<=X.env.locals
 inj:∀ x y c,X.env.cells.lookup x=some c->X.env.cells.lookup y=some c->x=y
 has:∀ x,(X.env.kindOf x=some .cell\/X.env.kindOf x=some .free)->∃ c,X.env.cells.lookup x=some c
 cab:∀ x c,X.fn x=true->X.env.cells.lookup x=some c->X.s₀.heap.objs.size<=c
 hd:X.calm=true->X.A.handled=none
 frames:X.A.frames=some X.stack
 stk:X.stack=X.outer\/(X.stack=X.env::X.outer/\X.env.frame=some X.env.locals)
 exf:∀ b∈X.ex,b≠X.env.locals/\∀ x c,X.env.cells.lookup x=some c->c≠b
 bs:∀ b o,X.base.get? b=some o->X.s₀.heap.get? b=some o/\X.H₀ b=none
 bsz:X.base.objs.size<=X.s₀.heap.objs.size
 noex:∀ b o,X.base.get? b=some o->b∉X.ex
 exfs:∀ b∈X.ex,b∉X.fs
 funs:X.s₀.heap.FunFrames X.base X.outer
 frf:∀ b∈X.fs,X.H₀ b=none
structure Inv(X:Cx)(pins:List (Addr × Obj))(σ:List (Option V))(H:Hp)(s:Shared):Prop where
 ok:X.Ok
 os:s.os=X.s₀.os
 bare:AllBare s.gens
 base:Un X.fs X.ex X.H₀ H X.s₀.heap s.heap
 loc:∃ m,s.heap.Ns X.env.locals m/\∀ (i:Nat) (x:Str) (v:V),X.N[i]?=some x->σ[i]?=some (some v)->Vis X.env.scope x->∃ u,RelV v u/\Look X.env s.heap m x u
 cell:∀ x c,X.env.cells.lookup x=some c->∃ v,s.heap.IsCell c v
 free:H X.env.locals=none
 freeC:∀ x c,X.env.cells.lookup x=some c->H c=none
 pin:∀ p∈X.pn++pins,s.heap.get? p.1=some p.2/\H p.1=none/\p.1≠X.env.locals/\p.1∉X.fs/\∀ v,p.2.data ≠ .cell v
 hok:HOk X.prog X.w H s.heap
 len:σ.length=X.N.length
section
variable {X:Cx}{pins:List (Addr × Obj)}{σ:List (Option V)}{H H':Hp}{s:Shared}{h':Heap}
theorem Cx.Ok.nofr(ok:X.Ok){b:Addr}{o:Obj}(e:X.base.get? b=some o):b∉X.fs:=fun hb=>by
 have:=(ok.funs.mem hb).1
 rw[e] at this;cases this
theorem Inv.bs(I:Inv X pins σ H s):∀ b o,X.base.get? b=some o->s.heap.get? b=some o/\H b=none:=fun b o e =>
 ⟨I.base.keep b o (I.ok.bs b o e).1 (I.ok.bs b o e).2 (I.ok.nofr e) (I.ok.noex b o e),I.base.free b o (I.ok.bs b o e).1 (I.ok.bs b o e).2 (I.ok.noex b o e)⟩
theorem Inv.bk(I:Inv X pins σ H s):∀ b o,X.base.get? b=some o->s.heap.get? b=some o:=fun b o e=>(I.bs b o e).1
theorem Inv.mod(I:Inv X pins σ H s):Mod X.K X.mg X.base:=I.ok.mod
theorem Inv.kIn(I:Inv X pins σ H s):X.K.In s.heap:=I.ok.mod.kin.keeps I.bk
theorem Inv.lt(I:Inv X pins σ H s):X.env.locals<s.heap.objs.size:=let ⟨_,hn,_⟩:=I.loc;hn.lt
theorem Inv.sz(I:Inv X pins σ H s):X.s₀.heap.objs.size<=s.heap.objs.size:=Nat.le_trans I.ok.above (Nat.le_of_lt I.lt)
theorem Inv.nofs(I:Inv X pins σ H s){a:Addr}(h:s.heap.objs.size<=a):a∉X.fs:=fun hb=>by
 obtain⟨_,o,ho,_⟩:=I.ok.funs.mem hb
 exact absurd (Nat.lt_of_lt_of_le (Heap.lt_size ho) (Nat.le_trans I.sz h)) (Nat.lt_irrefl _)
theorem Inv.cne(I:Inv X pins σ H s):∀ x c,X.env.cells.lookup x=some c->c≠X.env.locals:=fun x c e z=>by
 obtain⟨v,o,ho,hd⟩:=I.cell x c e
 obtain⟨m,⟨o',es,ep,ho',hd',_⟩,_⟩:=I.loc
 rw[z,ho'] at ho;cases ho;rw[hd'] at hd;cases hd
theorem Inv.funs(I:Inv X pins σ H s):s.heap.FunFrames X.base X.outer:=by
 have all:∀ (l:List Env),(∀ b∈frs l,b∈X.fs)->X.s₀.heap.FunFrames X.base l->s.heap.FunFrames X.base l:=by
  intro l
  induction l with
  |nil=>intro _ _;trivial
  |cons env r ih =>
   intro hs hl
   obtain⟨hk,⟨L,o,hf,hn,ho,hd⟩,hr⟩:=hl
   have hL:L∈X.fs:=hs L (by unfold frs;rw[List.filterMap_cons,hf];exact List.mem_cons_self)
   obtain⟨sl,e⟩:=I.base.slot L o ho (I.ok.frf L hL) hL fun z=>I.ok.exfs L z hL
   exact⟨hk,⟨L,_,hf,hn,e,hd⟩,ih (fun b hb=>hs b (by unfold frs;rw[List.filterMap_cons,hf];exact List.mem_cons_of_mem _ hb)) hr⟩
 exact all X.outer (fun _ hb=>hb) I.ok.funs
theorem Inv.stack(I:Inv X pins σ H s):s.heap.FunFrames X.base X.stack:=by
 rcases I.ok.stk with e | ⟨e,hf⟩
 ·rw[e];exact I.funs
 ·rw[e]
  obtain⟨m,hn,_⟩:=I.loc
  refine .cons (by rw[I.ok.kind];decide) hf hn ?_ I.funs
  exact Heap.get?_none_of_le (Nat.le_trans I.ok.bsz I.ok.above)
theorem Inv.stkSub(I:Inv X pins σ H s):∀ b∈frs X.stack,b∈X.env.locals::X.fs:=fun b hb=>by
 rcases I.ok.stk with e | ⟨e,hf⟩
 ·rw[e] at hb;exact List.mem_cons_of_mem _ hb
 ·rw[e] at hb
  unfold frs at hb
  rw[List.filterMap_cons,hf] at hb
  exact hb
theorem Inv.stkFree(I:Inv X pins σ H s):∀ b∈frs X.stack,H b=none:=fun b hb=>by
 rcases List.mem_cons.mp (I.stkSub b hb) with e|hb
 ·rw[e];exact I.free
 ·obtain⟨_,o,ho,_⟩:=I.ok.funs.mem hb
  exact I.base.free b o ho (I.ok.frf b hb) fun z=>I.ok.exfs b z hb
theorem Inv.step{g':Array GenState}{t':Nat}{d':Drawn}{ch:List Addr}(I:Inv X pins σ H s)
 (hch:∀ b∈ch,(b∈X.ex\/X.s₀.heap.get? b=none)/\b≠X.env.locals/\(∀ x c,X.env.cells.lookup x=some c->c≠b)/\∀ p∈X.pn++pins,p.1≠b)
 (keep:∀ b o,b≠X.env.locals->b∉X.fs->b∉ch->s.heap.get? b=some o->H b=none->h'.get? b=some o)
 (slot:∀ b o,b≠X.env.locals->b∈X.fs->b∉ch->s.heap.get? b=some o->H b=none->∃ sl,h'.get? b=some {o with slots:=sl}) (free:∀ b o,b∉ch->s.heap.get? b=some o->H b=none->H' b=none)
 (there:∀ b o,b∉ch->s.heap.get? b=some o->∃ o',h'.get? b=some o')
 (tups:∀ b xs,H b=some (.tup xs)->H' b=some (.tup xs)) (frzs:∀ b o u,H b=some (.frz o u)->H' b=some (.frz o u)) (tbls:∀ b ps,H b=some (.tbl ps)->∃ more,H' b=some (.tbl (ps++more)))
 (ns:∀ m,s.heap.Ns X.env.locals m->h'.Ns X.env.locals m) (hok:HOk X.prog X.w H' h') (hg:AllBare g') :
 Inv X pins σ H' {s with heap:=h',gens:=g',drawn:=d',toks:=t'}:=by
 have neL:∀ b o,X.s₀.heap.get? b=some o->b≠X.env.locals:=fun b o e=>Nat.ne_of_lt (Nat.lt_of_lt_of_le (Heap.lt_size e) I.ok.above)
 have neC:∀ b o,X.s₀.heap.get? b=some o->b∉X.ex->b∉ch:=fun b o e hx hb=>by
  rcases(hch b hb).1 with z|z
  ·exact hx z
  ·rw[e] at z;cases z
 have cellK:∀ x c,X.env.cells.lookup x=some c->∀ v,s.heap.IsCell c v->h'.IsCell c v:=fun x c e v ⟨o,ho,hd⟩=>by
  have nch:c∉ch:=fun z=>(hch c z).2.2.1 x c e rfl
  by_cases hc:c∈X.fs
  ·obtain⟨sl,q⟩:=slot c o (I.cne x c e) hc nch ho (I.freeC x c e)
   exact⟨_,q,hd⟩
  ·exact⟨o,keep c o (I.cne x c e) hc nch ho (I.freeC x c e),hd⟩
 refine⟨I.ok,I.os,hg,⟨fun b o e n hb hx => ?_,fun b o e n hb hx => ?_,fun b o e n hx => ?_,fun b o e hx => ?_,fun b xs e=>tups b xs (I.base.tups b xs e),fun b o xs e=>frzs b o xs (I.base.frzs b o xs e),fun b ps e => ?_⟩,?_,fun x c e => ?_,?_,fun x c e => ?_,fun p hp => ?_,hok,I.len⟩
 ·exact keep b o (neL b o e) hb (neC b o e hx) (I.base.keep b o e n hb hx) (I.base.free b o e n hx)
 ·obtain⟨sl,e1⟩:=I.base.slot b o e n hb hx
  obtain⟨sl',e2⟩:=slot b _ (neL b o e) hb (neC b o e hx) e1 (I.base.free b o e n hx)
  exact⟨sl',e2⟩
 ·obtain⟨o',e1⟩:=I.base.there b o e hx
  exact free b o' (neC b o e hx) e1 (I.base.free b o e n hx)
 ·obtain⟨o',e1⟩:=I.base.there b o e hx
  exact there b o' (neC b o e hx) e1
 ·obtain⟨m1,e1⟩:=I.base.tbls b ps e
  obtain⟨m2,e2⟩:=tbls b _ e1
  exact⟨m1++m2,by rw[e2,Array.append_assoc]⟩
 ·obtain⟨m,hn,hl⟩:=I.loc
  refine⟨m,ns m hn,fun i x v e1 e2 e3 => ?_⟩
  obtain⟨u,r,l⟩:=hl i x v e1 e2 e3
  refine⟨u,r,?_⟩
  rcases l with l | ⟨k,c,e,z⟩
  ·exact .inl l
  ·exact .inr ⟨k,c,e,cellK x c e _ z⟩
 ·obtain⟨v,z⟩:=I.cell x c e
  exact⟨v,cellK x c e v z⟩
 ·obtain⟨m,⟨o,_,_,ho,_⟩,_⟩:=I.loc
  exact free _ o (fun z=>(hch _ z).2.1 rfl) ho I.free
 ·obtain⟨v,o,ho,hd⟩:=I.cell x c e
  exact free c o (fun z=>(hch c z).2.2.1 x c e rfl) ho (I.freeC x c e)
 ·obtain⟨e,n,ne,nf,d⟩:=I.pin p hp
  have nch:p.1∉ch:=fun z=>(hch p.1 z).2.2.2 p hp rfl
  exact⟨keep p.1 p.2 ne nf nch e n,free p.1 p.2 nch e n,ne,nf,d⟩
theorem Inv.un{t':Nat}(I:Inv X pins σ H s)(u:Un X.fs [] H H' s.heap h')(hok:HOk X.prog X.w H' h'):Inv X pins σ H' {s with heap:=h',toks:=t'}:=by
 obtain⟨m,⟨o,es,ep,ho,r⟩,_⟩:=id I.loc
 obtain⟨sl,hL⟩:=u.any ho I.free (by simp)
 exact I.step (g':=s.gens) (d':=s.drawn) (ch:=[]) (fun _ z=>nomatch z) (fun b o _ hb _ e n=>u.keep b o e n hb (by simp)) (fun b o _ hb _ e n=>u.slot b o e n hb (by simp)) (fun b o _ e n=>u.free b o e n (by simp)) (fun b o _ e=>u.there b o e (by simp)) u.tups u.frzs u.tbls (fun m' hm=>by
  obtain⟨o',es',ep',ho',r'⟩:=hm
  rw[ho] at ho';cases ho'
  exact⟨_,es',ep',hL,r'⟩) hok I.bare
theorem Inv.call{g':Array GenState}{t':Nat}{d':Drawn}{ch:List Addr}(I:Inv X pins σ H s)(u:Un (frs X.stack) ch H H' s.heap h')(hok:HOk X.prog X.w H' h')(hg:AllBare g')
 (hch:∀ b∈ch,(b∈X.ex\/X.s₀.heap.get? b=none)/\b≠X.env.locals/\(∀ x c,X.env.cells.lookup x=some c->c≠b)/\∀ p∈X.pn++pins,p.1≠b) :
 Inv X pins σ H' {s with heap:=h',gens:=g',drawn:=d',toks:=t'}:=by
 obtain⟨m,⟨o,es,ep,ho,r⟩,_⟩:=id I.loc
 obtain⟨sl,hL⟩:=u.any ho I.free fun z=>(hch _ z).2.1 rfl
 exact I.step (ch:=ch) hch (fun b o hL hb hc e n=>u.keep b o e n (fun z=>(List.mem_cons.mp (I.stkSub b z)).elim hL hb) hc) (fun b o _ _ hc e n=>u.any e n hc) (fun b o hc e n=>u.free b o e n hc) (fun b o hc e=>u.there b o e hc) u.tups u.frzs u.tbls (fun m' hm=>by
  obtain⟨o',es',ep',ho',r'⟩:=hm
  rw[ho] at ho';cases ho'
  exact⟨_,es',ep',hL,r'⟩) hok hg
theorem Inv.turned{t':Nat}{it:Addr}(I:Inv X pins σ H s)(k:∀ b o,b≠it->s.heap.get? b=some o->h'.get? b=some o)(hn:H it=none)(hL:it≠X.env.locals)
 (h1:it∈X.ex\/X.s₀.heap.objs.size<=it) (h2:∀ x c,X.env.cells.lookup x=some c->c≠it) (h3:∀ p∈X.pn++pins,p.1≠it):Inv X pins σ H {s with heap:=h',toks:=t'}:=by
 have nit:∀ b u,H b=some u->b≠it:=fun b u e z=>by rw[z,hn] at e;cases e
 refine I.step (g':=s.gens) (d':=s.drawn) (ch:=[it]) (fun b hb => ?_) (fun b o _ _ hc e _=>k b o (fun z=>hc (by simp[z])) e) (fun b o _ _ hc e _=>⟨o.slots,k b o (fun z=>hc (by simp[z])) e⟩) (fun _ _ _ _ n=>n)
  (fun b o hc e=>⟨o,k b o (fun z=>hc (by simp[z])) e⟩) (fun _ _ e=>e) (fun _ _ _ e=>e) (fun b ps e=>⟨#[],by rw[e];simp⟩) (fun m hm => ?_) (fun b u e => ?_) I.bare
 ·have e:b=it:=by simpa using hb
  subst e
  exact⟨h1.imp id Heap.get?_none_of_le,hL,h2,h3⟩
 ·obtain⟨o,es,ep,ho,r⟩:=hm
  exact⟨o,es,ep,k _ o (Ne.symm hL) ho,r⟩
 ·refine(I.hok b u e).stay (fun c v hc q=>k c v ?_ q) (fun _ q=>q) fun _ _ q=>q
  rcases hc with z|z
  ·rw[z];exact nit b u e
  ·exact nit c _ z
theorem Inv.tok(I:Inv X pins σ H s)(t:Nat):Inv X pins σ H {s with toks:=t}:=I.un (h':=s.heap) (t':=t) Un.refl I.hok
theorem Inv.kept{t':Nat}(I:Inv X pins σ H s)(k:∀ b u,s.heap.get? b=some u->h'.get? b=some u):Inv X pins σ H {s with heap:=h',toks:=t'}:=I.un (Un.kept k) (I.hok.kept k)
theorem Inv.laid{a:Addr}{o:HO}{t':Nat}(I:Inv X pins σ H s)(k:∀ b u,s.heap.get? b=some u->h'.get? b=some u)(hp:s.heap.objs.size<=a)(new:ObjOk X.prog X.w (upd H a o) h' a o) :
 Inv X pins σ (upd H a o) {s with heap:=h',toks:=t'}:=I.un (Un.laid k hp (I.hok.fresh hp)) (I.hok.laid k hp new)
theorem Inv.write{x e:Addr}{o:HO}{t':Nat}(I:Inv X pins σ H s)(mu:Mut (H x))(he:e=x\/H e=some (.own x))(k:∀ b u,b≠e->s.heap.get? b=some u->h'.get? b=some u)(heo:∃ u,h'.get? e=some u)
 (new:ObjOk X.prog X.w (upd H x o) h' x o):Inv X pins σ (upd H x o) {s with heap:=h',toks:=t'}:=I.un (Un.write mu he k heo) (I.hok.write mu he k heo new)
theorem Inv.pins_of{pins':List (Addr × Obj)}(I:Inv X pins σ H s)(h:∀ p∈pins',s.heap.get? p.1=some p.2/\H p.1=none/\p.1≠X.env.locals/\p.1∉X.fs/\∀ v,p.2.data ≠ .cell v):Inv X pins' σ H s :=
 ⟨I.ok,I.os,I.bare,I.base,I.loc,I.cell,I.free,I.freeC,fun p hp=>(List.mem_append.mp hp).elim (fun z=>I.pin p (List.mem_append_left _ z)) (h p),I.hok,I.len⟩
theorem nodup_ix{N:List Str}(hN:N.Nodup){i j:Nat}{x:Str}(a:N[i]?=some x)(b:N[j]?=some x):i=j:=by
 obtain⟨h1,e1⟩:=List.getElem?_eq_some_iff.mp a
 obtain⟨h2,e2⟩:=List.getElem?_eq_some_iff.mp b
 exact(List.getElem_inj hN).mp (e1.trans e2.symm)
theorem store_ok2{M:Model}{A:Around}{E:Value->Shared->Prop}{i:Nat}{x:Str}{v:V}{u:Value}{Q:Unit->Shared->Prop}(I:Inv X pins σ H s)(hN:X.N.Nodup)(hi:X.N[i]?=some x)(hx:Loc X.env.scope x)(r:RelV v u)
 (h:∀ s',Inv X pins (σ.set i (some v)) H s'->(∃ a,Heap.SameBut a s.heap s'.heap/\(a=X.env.locals\/X.env.cells.lookup x=some a))->Q () s') (hf:X.fn x=true\/X.env.scope.names.lookup x=some .local:=by first|exact .inl rfl|exact .inr rfl|assumption):wpAny M A (storeName X.env x u) Q E s:=by
 obtain⟨m,hn,hl⟩:=id I.loc
 have hcls:(X.env.scope.kind == .class || (X.env.scope.kind == .module && X.env.locals !=X.env.globals))=false:=by rw[I.ok.kind];rfl
 have hiσ:i<σ.length:=by rw[I.len];exact(List.getElem?_eq_some_iff.mp hi).1
 have cne:=I.cne
 have tracked:∀ {a:Addr} {h':Heap},(∃ o,s.heap.get? a=some o/\H a=none)->Heap.SameBut a s.heap h'->HOk X.prog X.w H h':=fun {a h'} ha hs b ob e=>by
  obtain⟨_,_,hfree⟩:=ha
  refine(I.hok b ob e).stay (fun c w' hc q=>(hs.2 c ?_).trans q) (fun _ q=>q) fun _ _ q=>q
  rintro rfl
  rcases hc with rfl|hc
  ·rw[hfree] at e;cases e
  ·rw[hfree] at hc;cases hc
 rcases hx with hk|hk
 ·refine wpAny_storeName_local hk hn (fun h' hn' hs => ?_) hcls
  obtain⟨oL,_,_,hoL,_⟩:=id hn
  refine h _ ⟨I.ok,I.os,I.bare,⟨fun b o e n hb hx => ?_,fun b o e n hb hx => ?_,I.base.free,fun b o e hx => ?_,I.base.tups,I.base.frzs,I.base.tbls⟩,⟨_,hn',fun j y v' e1 e2 e3 => ?_⟩,fun y c e => ?_,I.free,I.freeC,fun p hp => ?_,tracked ⟨oL,hoL,I.free⟩ hs,by simpa using I.len⟩ ⟨_,hs,.inl rfl⟩
  ·exact(hs.2 b (Nat.ne_of_lt (Nat.lt_of_lt_of_le (Heap.lt_size e) I.ok.above))).trans (I.base.keep b o e n hb hx)
  ·obtain⟨sl,e1⟩:=I.base.slot b o e n hb hx
   exact⟨sl,(hs.2 b (Nat.ne_of_lt (Nat.lt_of_lt_of_le (Heap.lt_size e) I.ok.above))).trans e1⟩
  ·obtain⟨o',e1⟩:=I.base.there b o e hx
   exact⟨o',(hs.2 b (Nat.ne_of_lt (Nat.lt_of_lt_of_le (Heap.lt_size e) I.ok.above))).trans e1⟩
  ·by_cases hj:j=i
   ·subst hj
    rw[hi] at e1;cases e1
    rw[List.getElem?_set_self hiσ] at e2
    cases e2
    exact⟨u,r,.inl ⟨hk,by simp⟩⟩
   ·rw[List.getElem?_set_ne (Ne.symm hj)] at e2
    obtain⟨u',r',q⟩:=hl j y v' e1 e2 e3
    refine⟨u',r',?_⟩
    rcases q with⟨k,e⟩ | ⟨k,c,e,z⟩
    ·refine .inl ⟨k,?_⟩
     have:y≠x:=fun e=>hj (nodup_ix hN e1 (e ▸ hi))
     simp[this,e]
    ·exact .inr ⟨k,c,e,z.sameBut hs (cne y c e)⟩
  ·obtain⟨w',z⟩:=I.cell y c e
   exact⟨w',z.sameBut hs (cne y c e)⟩
  ·obtain⟨e,n,ne,nf,d⟩:=I.pin p hp
   exact⟨(hs.2 p.1 ne).trans e,n,ne,nf,d⟩
 ·have hfn:X.fn x=true:=by
   rcases hf with z|z
   ·exact z
   ·rw[z] at hk;cases hk
  obtain⟨c,hc⟩:=I.ok.has x (.inl hk)
  obtain⟨w',z⟩:=I.cell x c hc
  refine wpAny_storeName_cell I.ok.kind hk hc z (fun h' hc' hs => ?_)
  obtain⟨oc,hoc,hocd⟩:=id z
  refine h {s with heap:=h'} ⟨I.ok,I.os,I.bare,⟨fun b o e n hb hx => ?_,fun b o e n hb hx => ?_,I.base.free,fun b o e hx => ?_,I.base.tups,I.base.frzs,I.base.tbls⟩,⟨m,hn.sameBut hs (Ne.symm (cne x c hc)),fun j y v' e1 e2 e3 => ?_⟩,fun y c' e => ?_,I.free,I.freeC,fun p hp => ?_,tracked ⟨oc,hoc,I.freeC x c hc⟩ hs,by simpa using I.len⟩ ⟨c,hs,.inr hc⟩
  ·exact(hs.2 b (Nat.ne_of_lt (Nat.lt_of_lt_of_le (Heap.lt_size e) (I.ok.cab x c hfn hc)))).trans (I.base.keep b o e n hb hx)
  ·obtain⟨sl,e1⟩:=I.base.slot b o e n hb hx
   exact⟨sl,(hs.2 b (Nat.ne_of_lt (Nat.lt_of_lt_of_le (Heap.lt_size e) (I.ok.cab x c hfn hc)))).trans e1⟩
  ·obtain⟨o',e1⟩:=I.base.there b o e hx
   exact⟨o',(hs.2 b (Nat.ne_of_lt (Nat.lt_of_lt_of_le (Heap.lt_size e) (I.ok.cab x c hfn hc)))).trans e1⟩
  ·by_cases hj:j=i
   ·subst hj
    rw[hi] at e1;cases e1
    rw[List.getElem?_set_self hiσ] at e2
    cases e2
    exact⟨u,r,.inr ⟨.inl hk,c,hc,hc'⟩⟩
   ·rw[List.getElem?_set_ne (Ne.symm hj)] at e2
    obtain⟨u',r',q⟩:=hl j y v' e1 e2 e3
    refine⟨u',r',?_⟩
    rcases q with q | ⟨k,c',e,z'⟩
    ·exact .inl q
    ·refine .inr ⟨k,c',e,z'.sameBut hs ?_⟩
     rintro rfl
     exact hj (nodup_ix hN e1 (I.ok.inj _ _ _ e hc ▸ hi))
  ·by_cases hcc:c'=c
   ·subst hcc;exact⟨_,hc'⟩
   ·obtain⟨w2,z2⟩:=I.cell y c' e
    exact⟨w2,z2.sameBut hs hcc⟩
  ·obtain⟨e,n,ne,nf,d⟩:=I.pin p hp
   refine⟨(hs.2 p.1 ?_).trans e,n,ne,nf,d⟩
   intro q
   rw[q,hoc] at e
   have q':oc=p.2:=Option.some.inj e
   exact d w' (by rw[← q'];exact hocd)
theorem store_ok{M:Model}{A:Around}{E:Value->Shared->Prop}{i:Nat}{x:Str}{v:V}{u:Value}{Q:Unit->Shared->Prop}(I:Inv X pins σ H s)(hN:X.N.Nodup)(hi:X.N[i]?=some x)(hx:Loc X.env.scope x)(r:RelV v u)
 (h:∀ s',Inv X pins (σ.set i (some v)) H s'->Q () s') (hf:X.fn x=true\/X.env.scope.names.lookup x=some .local:=by first|exact .inl rfl|exact .inr rfl|assumption):wpAny M A (storeName X.env x u) Q E s :=
 store_ok2 I hN hi hx r (fun s' I' _=>h s' I') hf
theorem Inv.call'{s':Shared}{ch:List Addr}(I:Inv X pins σ H s)(ho:s'.os=s.os)(u:Un (frs X.stack) ch H H' s.heap s'.heap)(hok:HOk X.prog X.w H' s'.heap)(hg:AllBare s'.gens)
 (hch:∀ b∈ch,(b∈X.ex\/X.s₀.heap.objs.size<=b)/\b≠X.env.locals/\(∀ x c,X.env.cells.lookup x=some c->c≠b)/\∀ p∈X.pn++pins,p.1≠b):Inv X pins σ H' s':=by
 obtain⟨h',g',d',t',o'⟩:=s'
 have e:o'=s.os:=ho
 subst e
 exact I.call (g':=g') (t':=t') (d':=d') u hok hg fun b hb=>⟨(hch b hb).1.imp id Heap.get?_none_of_le,(hch b hb).2⟩
end
noncomputable abbrev XK:=Value->Option Addr->Hp->Prop
noncomputable abbrev St:=List (Option V)
noncomputable abbrev VK:=V->Hp->Prop
noncomputable abbrev TE:=St->Hp->VK->Prop
noncomputable abbrev TT:=St->Hp->(Bool->Hp->Prop)->Prop
noncomputable abbrev TA:=St->Hp->(List V->Hp->Prop)->Prop
structure Ends where
 nx:St->Hp->Prop
 rt:VK
 bk:St->Hp->Prop:=fun _ _=>False
 ct:St->Hp->Prop:=fun _ _=>False
noncomputable abbrev TS:=Ends->St->Hp->Prop
inductive EP (X:Cx) (pins:List (Addr × Obj)) (σ:St) (Q:VK) (u:Value) (s':Shared):Prop
 |mk (v:V) (H':Hp) (i:Inv X pins σ H' s') (r:RelV v u) (q:Q v H')
inductive TP (X:Cx) (pins:List (Addr × Obj)) (σ:St) (Q:Bool->Hp->Prop) (b:Bool) (s':Shared):Prop
 |mk (H':Hp) (i:Inv X pins σ H' s') (q:Q b H')
inductive AP (X:Cx) (pins:List (Addr × Obj)) (σ:St) (Q:List V->Hp->Prop) (us:List Value) (s':Shared):Prop
 |mk (vs:List V) (H':Hp) (i:Inv X pins σ H' s') (r:Vals vs us) (q:Q vs H')
inductive SPn (X:Cx) (pins:List (Addr × Obj)) (Q:St->Hp->Prop) (s':Shared):Prop
 |mk (σ':St) (H':Hp) (i:Inv X pins σ' H' s') (q:Q σ' H')
inductive SPr (X:Cx) (pins:List (Addr × Obj)) (Q:VK) (u:Value) (s':Shared):Prop
 |mk (v:V) (σ':St) (H':Hp) (i:Inv X pins σ' H' s') (r:RelV v u) (q:Q v H')
noncomputable def SP(X:Cx)(pins:List (Addr × Obj))(D:Ends)(f:Flow)(s':Shared):Prop :=
 match f with
 | .next=>SPn X pins D.nx s'
 | .brk=>SPn X pins D.bk s'
 | .cont=>SPn X pins D.ct s'
 | .ret u=>SPr X pins D.rt u s'
noncomputable def PE(X:Cx)(e:Expr)(t:TE):Prop :=
 ∀ (pins:List (Addr × Obj)) (s:Shared) (σ:St) (H:Hp) (Q:VK),Inv X pins σ H s->t σ H Q->wpAny (model X.prog X.w) X.A (eval e X.env) (EP X pins σ Q) X.xe s
noncomputable def PT(X:Cx)(e:Expr)(t:TT):Prop :=
 ∀ (pins:List (Addr × Obj)) (s:Shared) (σ:St) (H:Hp) (Q:Bool->Hp->Prop),Inv X pins σ H s->t σ H Q->wpAny (model X.prog X.w) X.A (isTrue e X.env (eval e X.env)) (TP X pins σ Q) X.xe s
noncomputable def PW(X:Cx)(e:Expr)(t:TT):Prop :=
 ∀ (whole:Sem Value) (pins:List (Addr × Obj)) (s:Shared) (σ:St) (H:Hp) (Q:Bool->Hp->Prop),Inv X pins σ H s->t σ H Q->wpAny (model X.prog X.w) X.A (isTrue e X.env whole) (TP X pins σ Q) X.xe s
theorem PW.pt{X:Cx}{e:Expr}{t:TT}(h:PW X e t):PT X e t:=h _
noncomputable def PA(X:Cx)(es:List Expr)(t:TA):Prop :=
 ∀ (pos:Pos) (pins:List (Addr × Obj)) (s:Shared) (σ:St) (H:Hp) (Q:List V->Hp->Prop),Inv X pins σ H s->t σ H Q->wpAny (model X.prog X.w) X.A (spliced (backTo pos (starEach es X.env))) (AP X pins σ Q) X.xe s
noncomputable def PS(X:Cx)(st:Stmt)(t:TS):Prop :=
 ∀ (pins:List (Addr × Obj)) (s:Shared) (σ:St) (H:Hp) (D:Ends),Inv X pins σ H s->t D σ H->wpAny (model X.prog X.w) X.A (exec st X.env) (SP X pins D) X.xe s
noncomputable def PSs(X:Cx)(st:List Stmt)(t:TS):Prop :=
 ∀ (pins:List (Addr × Obj)) (s:Shared) (σ:St) (H:Hp) (D:Ends),Inv X pins σ H s->t D σ H->wpAny (model X.prog X.w) X.A (execs st X.env) (SP X pins D) X.xe s
theorem thn{α:Type}{t:Sem α}{Q Q':α->Shared->Prop}{M:Model}{A:Around}{E:Value->Shared->Prop}{s:Shared}(h:wpAny M A t Q E s)(hQ:∀ a s,Q a s->Q' a s):wpAny M A t Q' E s:=wpAny_mono h hQ fun _ _ x=>x
end L2
namespace L2
open PySem PySem.Spec PyProof.Rows
section
variable {X:Cx}
theorem bin{a b:Expr}{ta tb:TE}(ha:PE X a ta)(hb:PE X b tb){pins:List (Addr × Obj)}{s:Shared}{σ:St}{H:Hp}{R:V->V->Hp->Prop}(I:Inv X pins σ H s)(h:ta σ H fun x H1=>tb σ H1 fun y H2=>R x y H2)
 {α:Type} {Q:α->Shared->Prop} {f:Value->Value->Sem α}
 (hf:∀ v u s2 x y H2,Inv X pins σ H2 s2->RelV x v->RelV y u->R x y H2->wpAny (model X.prog X.w) X.A (f v u) Q X.xe s2) :
 wpAny (model X.prog X.w) X.A (eval a X.env) (fun v s₁=>wpAny (model X.prog X.w) X.A (eval b X.env) (fun u s₂=>wpAny (model X.prog X.w) X.A (f v u) Q X.xe s₂) X.xe s₁) X.xe s:=by
 refine thn (ha pins s σ H _ I h) fun v s1 ⟨x,H1,I1,r1,q1⟩ => ?_
 refine thn (hb pins s1 σ H1 _ I1 q1) fun u s2 ⟨y,H2,I2,r2,q2⟩ => ?_
 exact hf v u s2 x y H2 I2 r1 r2 q2
noncomputable def tVar(i:Nat):TE:=fun σ H Q=>∃ v,σ[i]?=some (some v)/\Q v H
noncomputable def tC(v:V):TE:=fun _ H Q=>Q v H
theorem pe_var{i:Nat}{x:Str}{pos:Pos}(hN:X.N[i]?=some x)(hv:Vis X.env.scope x)(hd:(x == ("__debug__":Str))=false:=by decide)(hcd:(x == ("__classdict__":Str))=false:=by decide):PE X (.Name x pos) (tVar i):=by
 intro pins s σ H Q I h
 obtain⟨v,e,h⟩:=h
 obtain⟨m,hn,hl⟩:=I.loc
 obtain⟨u,r,l⟩:=hl i x v hN e hv
 have fin:EP X pins σ Q u s:=⟨v,H,I,r,h⟩
 rcases l with⟨hk,hm⟩ | ⟨hk,c,hc,hcell⟩
 ·exact wpAny_Name (wpAny_loadName_local I.ok.kind hk hn hm fin) hd
 ·rcases hk with hk|hk
  ·exact wpAny_Name (wpAny_loadName_cell I.ok.kind hk hc hcell fin) hd
  ·exact wpAny_Name (wpAny_loadName_free I.ok.kind hk hc hcell fin hcd) hd
theorem pe_int{i j pos}:PE X (.Constant (.int i) j pos) (tC (.int i)):=fun _ _ _ H _ I h=>wpAny_Constant_int ⟨.int i,H,I.tok _,⟨_,rfl⟩,h⟩
theorem pe_bl{b j pos}:PE X (.Constant (.bool b) j pos) (tC (.bl b)):=fun _ _ _ H _ I h=>Constant_bool ⟨.bl b,H,I,rfl,h⟩
theorem pe_non{j pos}:PE X (.Constant .none j pos) (tC .non):=fun _ _ _ H _ I h=>Constant_none ⟨.non,H,I,rfl,h⟩
theorem pe_str{x j pos}:PE X (.Constant (.str x) j pos) (tC (.str x)):=fun _ _ _ H _ I h=>Calls.Constant_str ⟨.str x,H,I.tok _,⟨_,rfl⟩,h⟩
noncomputable def Gl(X:Cx)(x:Str):Prop:=X.env.kindOf x=some .globalImplicit
theorem ld_glob{E:Value->Shared->Prop}{pins:List (Addr × Obj)}{s:Shared}{σ:St}{H:Hp}{x:Str}{u:Value}{pos:Pos}{Q:Value->Shared->Prop}(I:Inv X pins σ H s)(hg:Gl X x)(hm:X.mg x=some u)(h:Q u s)
 (hd:(x == ("__debug__":Str))=false:=by decide):wpAny (model X.prog X.w) X.A (eval (.Name x pos) X.env) Q E s :=
 Calls.Name_function_global I.ok.kind hg (Calls.loadGlobal_global (by rw[I.ok.glob];exact I.mod.glob.keeps I.bk) hm h) hd
theorem ld_blt{E:Value->Shared->Prop}{pins:List (Addr × Obj)}{s:Shared}{σ:St}{H:Hp}{x:Str}{u:Value}{pos:Pos}{Q:Value->Shared->Prop}(I:Inv X pins σ H s)(hg:Gl X x)(hm:X.mg x=none)(hv:bootBuiltins x=some u)(h:Q u s)
 (hn:x ≠ "__name__":=by decide) (hd:(x == ("__debug__":Str))=false:=by decide):wpAny (model X.prog X.w) X.A (eval (.Name x pos) X.env) Q E s:=by
 obtain⟨mb,h1,h2⟩:=I.mod.blt
 exact Calls.Name_function_global I.ok.kind hg (Calls.loadGlobal_builtin (by rw[I.ok.glob];exact I.mod.glob.keeps I.bk) hm (by rw[I.ok.blt];exact h1.keeps I.bk) ((h2 x hn).trans hv) h) hd
theorem pe_glob{x:Str}{v:V}{u:Value}{pos:Pos}(hg:Gl X x)(hm:X.mg x=some u)(r:RelV v u)(hd:(x == ("__debug__":Str))=false:=by decide):PE X (.Name x pos) (tC v) :=
 fun _ _ _ H _ I h=>ld_glob I hg hm ⟨v,H,I,r,h⟩ hd
theorem pe_bltn{x:Str}{v:V}{u:Value}{pos:Pos}(hg:Gl X x)(hm:X.mg x=none)(hv:bootBuiltins x=some u)(r:RelV v u)(hn:x ≠ "__name__":=by decide)(hd:(x == ("__debug__":Str))=false:=by decide):PE X (.Name x pos) (tC v) :=
 fun _ _ _ H _ I h=>ld_blt I hg hm hv ⟨v,H,I,r,h⟩ hn hd
variable {a b:Expr}{ta tb:TE}{pos:Pos}
variable {tA tB':TT}{rest:List Expr}
noncomputable def tAnd(t u:TT):TT:=fun σ H Q=>t σ H fun c H1=>if c=true then u σ H1 Q else Q false H1
noncomputable def tOr(t u:TT):TT:=fun σ H Q=>t σ H fun c H1=>if c=true then Q true H1 else u σ H1 Q
noncomputable def tNot(t:TT):TT:=fun σ H Q=>t σ H fun c H1=>Q (!c) H1
theorem pw_and1(ha:PT X a tA):PW X (.BoolOp .And [a] pos) tA:=by
 intro wh pins s σ H Q I h
 refine isTrue_and (thn (ha pins s σ H Q I h) fun c s1 e => ?_)
 cases c with
 |true=>exact isTrue_and_nil e
 |false=>exact e
theorem pw_or1(ha:PT X a tA):PW X (.BoolOp .Or [a] pos) tA:=by
 intro wh pins s σ H Q I h
 refine isTrue_or (thn (ha pins s σ H Q I h) fun c s1 e => ?_)
 cases c with
 |false=>exact isTrue_or_nil e
 |true=>exact e
theorem pw_and(ha:PT X a tA)(hb:PW X (.BoolOp .And (b::rest) pos) tB'):PW X (.BoolOp .And (a::b::rest) pos) (tAnd tA tB'):=by
 intro wh pins s σ H Q I h
 refine isTrue_and (thn (ha pins s σ H _ I h) fun c s1 ⟨H1,I1,q1⟩ => ?_)
 cases c with
 |true=>exact hb wh pins s1 σ H1 Q I1 q1
 |false=>exact⟨H1,I1,q1⟩
theorem pw_or(ha:PT X a tA)(hb:PW X (.BoolOp .Or (b::rest) pos) tB'):PW X (.BoolOp .Or (a::b::rest) pos) (tOr tA tB'):=by
 intro wh pins s σ H Q I h
 refine isTrue_or (thn (ha pins s σ H _ I h) fun c s1 ⟨H1,I1,q1⟩ => ?_)
 cases c with
 |true=>exact⟨H1,I1,q1⟩
 |false=>exact hb wh pins s1 σ H1 Q I1 q1
theorem pt_not(ha:PT X a tA):PT X (.UnaryOp .Not a pos) (tNot tA):=by
 intro pins s σ H Q I h
 exact isTrue_not (thn (ha pins s σ H (fun c H1=>Q (!c) H1) I h) fun c s1 ⟨H1,I1,q1⟩=>⟨H1,I1,q1⟩)
noncomputable def tAndV(ta tb:TE):TE:=fun σ H Q=>ta σ H fun x H1=>∃ c,x = .bl c/\if c=true then tb σ H1 Q else Q (.bl false) H1
noncomputable def tOrV(ta tb:TE):TE:=fun σ H Q=>ta σ H fun x H1=>∃ c,x = .bl c/\if c=true then Q (.bl true) H1 else tb σ H1 Q
theorem pe_one{op}{t:TE}(h:PE X a t):PE X (.BoolOp op [a] pos) t:=fun pins s σ H Q I hw=>BoolOp_one (h pins s σ H Q I hw)
theorem pe_and(ha:PE X a ta)(hb:PE X (.BoolOp .And (b::rest) pos) tb):PE X (.BoolOp .And (a::b::rest) pos) (tAndV ta tb):=by
 intro pins s σ H Q I h
 refine BoolOp_and (thn (ha pins s σ H _ I h) fun v s1 ⟨x,H1,I1,r1,q1⟩ => ?_)
 obtain⟨c,rfl,q1⟩:=q1
 cases r1
 refine wpAny_truthy_bool ?_
 cases c with
 |true=>exact hb pins s1 σ H1 Q I1 q1
 |false=>exact⟨.bl false,H1,I1,rfl,q1⟩
theorem pe_or(ha:PE X a ta)(hb:PE X (.BoolOp .Or (b::rest) pos) tb):PE X (.BoolOp .Or (a::b::rest) pos) (tOrV ta tb):=by
 intro pins s σ H Q I h
 refine BoolOp_or (thn (ha pins s σ H _ I h) fun v s1 ⟨x,H1,I1,r1,q1⟩ => ?_)
 obtain⟨c,rfl,q1⟩:=q1
 cases r1
 refine wpAny_truthy_bool ?_
 cases c with
 |false=>exact hb pins s1 σ H1 Q I1 q1
 |true=>exact⟨.bl true,H1,I1,rfl,q1⟩
noncomputable def tIf(t:TT)(ta tb:TE):TE:=fun σ H Q=>t σ H fun c H1=>if c=true then ta σ H1 Q else tb σ H1 Q
theorem pe_ifExp{c:Expr}(hc:PT X c tA)(ha:PE X a ta)(hb:PE X b tb):PE X (.IfExp c a b pos) (tIf tA ta tb):=by
 intro pins s σ H Q I h
 refine wpAny_IfExp (thn (hc pins s σ H _ I h) fun d s1 ⟨H1,I1,q1⟩ => ?_)
 cases d with
 |true=>exact ha pins s1 σ H1 Q I1 q1
 |false=>exact hb pins s1 σ H1 Q I1 q1
end
end L2
namespace L2
open PySem PySem.Spec PyProof.Rows
noncomputable def SqL(K:PySem.W.Frag)(H:Hp)(a:Addr)(xs:List V):Prop :=
 Rd H a (.lst xs) ∨
  ∃ (o:Obj) (its:Array Value) (n:Nat),K.lookup a=some o/\o.cls = .type "list"/\o.dict=none/\o.data = .seq its n/\its.size<=sizeLine/\Vals xs its.toList
noncomputable def SqT(K:PySem.W.Frag)(H:Hp)(a:Addr)(xs:List V):Prop :=
 Rd H a (.tup xs) ∨
  ∃ (o:Obj) (its:Array Value) (n:Nat),K.lookup a=some o/\o.cls = .type "tuple"/\o.data = .seq its n/\its.size<=sizeLine/\Vals xs its.toList
noncomputable def absV:Value->Option V
 | .none=>some .non
 | .bool b=>some (.bl b)
 | .int i _=>some (.int i)
 | .str x _=>some (.str x)
 | .bytes b _=>some (.byt b)
 | .float b _=>some (.flt b)
 | .ref a=>some (.ref a)
 | .type n=>some (.ty n)
 |_=>none
theorem RelV.abs{x:V}{u:Value}(r:RelV x u):absV u=some x:=by
 cases x with
 |non=>cases r;rfl
 |bl _=>cases r;rfl
 |int _=>obtain⟨t,rfl⟩:=r;rfl
 |str _=>obtain⟨t,rfl⟩:=r;rfl
 |byt _=>obtain⟨t,rfl⟩:=r;rfl
 |flt _=>obtain⟨t,rfl⟩:=r;rfl
 |ref _=>cases r;rfl
 |ty _=>cases r;rfl
theorem RelV.inj{x y:V}{u:Value}(r:RelV x u)(q:RelV y u):x=y:=Option.some.inj (r.abs.symm.trans q.abs)
theorem Vals.inj:∀ {xs ys:List V} {us:List Value},Vals xs us->Vals ys us->xs=ys
 |_,_,_,.nil,.nil=>rfl
 |_,_,_,.cons r t,.cons r' t'=>by rw[r.inj r',Vals.inj t t']
section
variable {X:Cx}{pins:List (Addr × Obj)}{σ:St}{H:Hp}{s:Shared}{a:Addr}{xs ys:List V}
theorem SqL.of{K:PySem.W.Frag}(h:H a=some (.lst xs)):SqL K H a xs:=.inl (.inl h)
theorem SqT.of{K:PySem.W.Frag}(h:H a=some (.tup xs)):SqT K H a xs:=.inl (.inl h)
theorem Inv.list(I:Inv X pins σ H s)(h:SqL X.K H a xs):∃ its:List Value,Vals xs its/\PlainL s.heap a its.toArray/\xs.length<=sizeLine:=by
 rcases h with h | ⟨o,its,n,hk,hc,hd,hs,hz,r⟩
 ·obtain⟨z,its,n,r,e⟩:=h.ok I.hok
  exact⟨its,r,⟨_,n,e,rfl,rfl,rfl⟩,z⟩
 ·refine⟨its.toList,r,⟨o,n,I.kIn a o hk,hc,hd,by simpa using hs⟩,?_⟩
  have e:=r.length
  simp only[Array.length_toList] at e
  omega
theorem Inv.tuple(I:Inv X pins σ H s)(h:SqT X.K H a xs):∃ its:List Value,Vals xs its/\IsTup s.heap a its.toArray/\xs.length<=sizeLine:=by
 rcases h with h | ⟨o,its,n,hk,hc,hs,hz,r⟩
 ·obtain⟨z,its,r,p⟩:=h.ok I.hok
  exact⟨its,r,p,z⟩
 ·refine⟨its.toList,r,⟨o,I.kIn a o hk,hc,n,by simpa using hs⟩,?_⟩
  have e:=r.length
  simp only[Array.length_toList] at e
  omega
theorem Inv.list_inj(I:Inv X pins σ H s)(h:SqL X.K H a xs)(h':SqL X.K H a ys):xs=ys:=by
 obtain⟨its,r,⟨o,n,e,_,_,d⟩,_⟩:=I.list h
 obtain⟨its',r',⟨o',n',e',_,_,d'⟩,_⟩:=I.list h'
 rw[e] at e';cases e'
 rw[d] at d'
 injection d' with d1 _
 have:its=its':=by simpa using congrArg Array.toList d1
 subst this
 exact r.inj r'
theorem Inv.tuple_inj(I:Inv X pins σ H s)(h:SqT X.K H a xs)(h':SqT X.K H a ys):xs=ys:=by
 obtain⟨its,r,⟨o,e,_,n,d⟩,_⟩:=I.tuple h
 obtain⟨its',r',⟨o',e',_,n',d'⟩,_⟩:=I.tuple h'
 rw[e] at e';cases e'
 rw[d] at d'
 injection d' with d1 _
 have:its=its':=by simpa using congrArg Array.toList d1
 subst this
 exact r.inj r'
end
noncomputable abbrev Cx.wish(X:Cx)(E:Value->Shared->Prop):Cx:={X with xe:=E}
noncomputable abbrev Cx.nox(X:Cx):Cx:=X.wish fun _ _=>False
theorem Cx.Ok.wish{X:Cx}(ok:X.Ok)(E:Value->Shared->Prop):(X.wish E).Ok :=
 ⟨ok.mod,ok.kind,ok.glob,ok.blt,ok.above,ok.inj,ok.has,ok.cab,ok.hd,ok.frames,ok.stk,ok.exf,ok.bs,ok.bsz,ok.noex,ok.exfs,ok.funs,ok.frf⟩
theorem Cx.Ok.unwish{X:Cx}{E:Value->Shared->Prop}(ok:(X.wish E).Ok):X.Ok :=
 ⟨ok.mod,ok.kind,ok.glob,ok.blt,ok.above,ok.inj,ok.has,ok.cab,ok.hd,ok.frames,ok.stk,ok.exf,ok.bs,ok.bsz,ok.noex,ok.exfs,ok.funs,ok.frf⟩
section
variable {X:Cx}{pins:List (Addr × Obj)}{σ:St}{H:Hp}{s:Shared}{E:Value->Shared->Prop}
theorem Inv.wish(I:Inv X pins σ H s)(E:Value->Shared->Prop):Inv (X.wish E) pins σ H s:=⟨I.ok.wish E,I.os,I.bare,I.base,I.loc,I.cell,I.free,I.freeC,I.pin,I.hok,I.len⟩
theorem Inv.unwish(I:Inv (X.wish E) pins σ H s):Inv X pins σ H s:=⟨I.ok.unwish,I.os,I.bare,I.base,I.loc,I.cell,I.free,I.freeC,I.pin,I.hok,I.len⟩
theorem SP.unwish{D:Ends}{f:Flow}{s':Shared}(h:SP (X.wish E) pins D f s'):SP X pins D f s':=by
 cases f with
 |next=>obtain⟨σ',H',I,q⟩:=h;exact⟨σ',H',I.unwish,q⟩
 |brk=>obtain⟨σ',H',I,q⟩:=h;exact⟨σ',H',I.unwish,q⟩
 |cont=>obtain⟨σ',H',I,q⟩:=h;exact⟨σ',H',I.unwish,q⟩
 |ret u=>obtain⟨v,σ',H',I,r,q⟩:=h;exact⟨v,σ',H',I.unwish,r,q⟩
theorem PE.nox{e:Expr}{t:TE}(h:PE X.nox e t):PE X e t:=fun pins s σ H Q I hw =>
 wpAny_mono (h pins s σ H Q (I.wish _) hw) (fun _ _ ⟨v,H',I',r,q⟩=>⟨v,H',I'.unwish,r,q⟩) fun _ _ z=>False.elim z
theorem PT.nox{e:Expr}{t:TT}(h:PT X.nox e t):PT X e t:=fun pins s σ H Q I hw =>
 wpAny_mono (h pins s σ H Q (I.wish _) hw) (fun _ _ ⟨H',I',q⟩=>⟨H',I'.unwish,q⟩) fun _ _ z=>False.elim z
theorem PSs.nox{st:List Stmt}{t:TS}(h:PSs X.nox st t):PSs X st t:=fun pins s σ H D I hw =>
 wpAny_mono (h pins s σ H D (I.wish _) hw) (fun _ _ q=>q.unwish) fun _ _ z=>False.elim z
end
section
variable {X:Cx}{st:Stmt}{rest:List Stmt}{t u:TS}{e:Expr}{te:TE}{pos:Pos}
noncomputable def tNext:TS:=fun D σ H=>D.nx σ H
noncomputable def tSeq(t u:TS):TS:=fun D σ H=>t {D with nx:=u D} σ H
theorem pss_nil:PSs X [] tNext:=fun _ _ σ H _ I h=>wpAny_execs_nil ⟨σ,H,I,h⟩
theorem pss_cons(h1:PS X st t)(h2:PSs X rest u):PSs X (st::rest) (tSeq t u):=by
 intro pins s σ H D I h
 refine wpAny_execs_cons (thn (h1 pins s σ H {D with nx:=u D} I h) fun f s1 q => ?_)
 cases f with
 |next =>
  obtain⟨σ',H',I',q⟩:=q
  exact h2 pins s1 σ' H' D I' q
 |ret v=>exact q
 |brk=>exact q
 |cont=>exact q
theorem pss_one(h1:PS X st t):PSs X [st] t:=by
 intro pins s σ H D I h
 refine wpAny_execs_cons (thn (h1 pins s σ H D I h) fun f s1 q => ?_)
 cases f with
 |next=>exact wpAny_execs_nil q
 |ret v=>exact q
 |brk=>exact q
 |cont=>exact q
noncomputable def tBreak:TS:=fun D σ H=>D.bk σ H
noncomputable def tCont:TS:=fun D σ H=>D.ct σ H
theorem ps_pass:PS X (.Pass pos) tNext:=fun _ _ σ H _ I h=>wpAny_Pass ⟨σ,H,I,h⟩
theorem ps_break:PS X (.Break pos) tBreak:=fun _ _ σ H _ I h=>wpAny_Break ⟨σ,H,I,h⟩
theorem ps_continue:PS X (.Continue pos) tCont:=fun _ _ σ H _ I h=>wpAny_Continue ⟨σ,H,I,h⟩
theorem Inv.quiet{pins:List (Addr × Obj)}{σ:St}{H:Hp}{s:Shared}(I:Inv X pins σ H s):interactive X.env=false:=by simp[interactive,I.ok.kind]
noncomputable def tDrop(te:TE):TS:=fun D σ H=>te σ H fun _ H1=>D.nx σ H1
theorem ps_expr(he:PE X e te)(hs:swapsWith e none pos.line X.env=pure false:=by rfl):PS X (.Expr e pos) (tDrop te):=by
 intro pins s σ H D I h
 exact wpAny_Expr_any (thn (he pins s σ H _ I h) fun v s1 ⟨x,H1,I1,r1,q1⟩=>⟨σ,H1,I1,q1⟩) I.quiet hs
noncomputable def tRet(te:TE):TS:=fun D σ H=>te σ H D.rt
theorem ps_ret(he:PE X e te):PS X (.Return (some e) pos) (tRet te):=by
 intro pins s σ H D I h
 exact wpAny_Return_some (thn (he pins s σ H _ I h) fun v s1 ⟨x,H1,I1,r1,q1⟩=>⟨x,σ,H1,I1,r1,q1⟩)
noncomputable def tRetN:TS:=fun D _ H=>D.rt .non H
theorem ps_retN:PS X (.Return none pos) tRetN:=fun _ _ σ H _ I h=>wpAny_Return_none ⟨.non,σ,H,I,rfl,h⟩
noncomputable def tIfS(c:TT)(t u:TS):TS:=fun D σ H=>c σ H fun b H1=>if b=true then t D σ H1 else u D σ H1
theorem ps_if{c:Expr}{a b:List Stmt}{tc:TT}(hc:PT X c tc)(ha:PSs X a t)(hb:PSs X b u):PS X (.If c a b pos) (tIfS tc t u):=by
 intro pins s σ H D I h
 refine wpAny_If (thn (hc pins s σ H _ I h) fun d s1 ⟨H1,I1,q1⟩ => ?_)
 cases d with
 |true=>exact ha pins s1 σ H1 D I1 q1
 |false=>exact hb pins s1 σ H1 D I1 q1
end
noncomputable abbrev TG:=V->St->Hp->(St->Hp->Prop)->Prop
noncomputable abbrev TGs:=List V->St->Hp->(St->Hp->Prop)->Prop
noncomputable def PG(X:Cx)(target:Expr)(t:TG):Prop :=
 ∀ (pins:List (Addr × Obj)) (s:Shared) (σ:St) (H:Hp) (v:V) (u:Value) (Q:St->Hp->Prop),Inv X pins σ H s->RelV v u->t v σ H Q →
  wpAny (model X.prog X.w) X.A (assign target X.env u) (fun _ s'=>SPn X pins Q s') X.xe s
noncomputable def PGs(X:Cx)(ts:List Expr)(t:TGs):Prop :=
 ∀ (pins:List (Addr × Obj)) (s:Shared) (σ:St) (H:Hp) (vs:List V) (us:List Value) (Q:St->Hp->Prop),Inv X pins σ H s->Vals vs us->t vs σ H Q →
  wpAny (model X.prog X.w) X.A (assignInOrder ((assignEach ts X.env).map (·.2)) us) (fun _ s'=>SPn X pins Q s') X.xe s
noncomputable abbrev TSet:=V->V->V->Hp->(Hp->Prop)->Prop
noncomputable def PSet(X:Cx)(t:TSet):Prop :=
 ∀ (pins:List (Addr × Obj)) (s:Shared) (σ:St) (H:Hp) (o i v:V) (ov iv u:Value) (Q:Hp->Prop),Inv X pins σ H s->RelV o ov->RelV i iv->RelV v u->t o i v H Q →
  wpAny (model X.prog X.w) X.A (setItem ov iv u) (fun _ s'=>∃ H',Inv X pins σ H' s'/\Q H') X.xe s
noncomputable abbrev TIp:=V->V->Hp->VK->Prop
noncomputable def PIp(X:Cx)(op:Operator)(t:TIp):Prop :=
 ∀ (pins:List (Addr × Obj)) (s:Shared) (σ:St) (H:Hp) (x y:V) (v u:Value) (Q:VK),Inv X pins σ H s->RelV x v->RelV y u->t x y H Q →
  wpAny (model X.prog X.w) X.A (inplaceOp op v u) (EP X pins σ Q) X.xe s
section
variable {X:Cx}{pos:Pos}
noncomputable def gName(i:Nat):TG:=fun v σ H Q=>Q (σ.set i (some v)) H
theorem pg_name{i:Nat}{x:Str}(hN:X.N.Nodup)(hi:X.N[i]?=some x)(hx:Loc X.env.scope x)(hf:X.fn x=true\/X.env.scope.names.lookup x=some .local:=by first|exact .inl rfl|exact .inr rfl|assumption):PG X (.Name x pos) (gName i):=by
 intro pins s σ H v u Q I r h
 exact wpAny_assign_Name (store_ok I hN hi hx r (fun s' I'=>⟨_,H,I',h⟩) hf)
noncomputable def gNil:TGs:=fun vs σ H Q=>vs=[]/\Q σ H
noncomputable def gCons(t:TG)(u:TGs):TGs:=fun vs σ H Q=>∃ v r,vs=v::r/\t v σ H fun σ' H'=>u r σ' H' Q
theorem pgs_nil:PGs X [] gNil:=by
 intro pins s σ H vs us Q I r h
 obtain⟨e,h⟩:=h
 subst e
 cases r
 exact assignInOrder_nil ⟨σ,H,I,h⟩
theorem pgs_cons{e:Expr}{es:List Expr}{t:TG}{u:TGs}(h1:PG X e t)(h2:PGs X es u)
 (hs:(assignEach (e::es) X.env).map (·.2)=assign e X.env::(assignEach es X.env).map (·.2):=by rfl):PGs X (e::es) (gCons t u):=by
 intro pins s σ H vs us Q I r h
 obtain⟨v,vr,e1,h⟩:=h
 subst e1
 cases r with
 |cons r rr =>
  rw[hs]
  refine assignInOrder_cons (thn (h1 pins s σ H _ _ _ I r h) fun _ s1 ⟨σ1,H1,I1,q1⟩ => ?_)
  exact h2 pins s1 σ1 H1 _ _ Q I1 rr q1
noncomputable def gTup(K:PySem.W.Frag)(n:Nat)(t:TGs):TG:=fun v σ H Q=>∃ a xs,v = .ref a/\SqT K H a xs/\xs.length=n/\t xs σ H Q
theorem pg_tup{es:List Expr}{k:Nat}{t:TGs}{n:Nat}(hc:X.calm=true)(h:PGs X es t)
 (hn:(assignEach es X.env).length=n:=by rfl) (hst:(assignEach es X.env).findIdx? (·.1)=none:=by rfl):PG X (.Tuple es k pos) (gTup X.K n t):=by
 intro pins s σ H v u Q I r hw
 obtain⟨a,xs,e1,hq,hl,hw⟩:=hw
 subst e1
 cases r
 obtain⟨its,rv,ht,hz⟩:=I.tuple hq
 refine assign_Tuple_tuple (I.ok.hd hc) ht (by simp[hn, ← hl,rv.length]) hst fun h' hx => ?_
 have I1:Inv X pins σ H {s with heap:=h'}:=I.kept (t':=s.toks) fun b o e=>hx b o (Nat.ne_of_lt (Heap.lt_size e)) e
 exact h pins _ σ H xs _ Q I1 (by simpa using rv) hw
noncomputable def gSub(to ti:TE)(t:TSet):TG:=fun v σ H Q=>to σ H fun o H1=>ti σ H1 fun i H2=>t o i v H2 fun H3=>Q σ H3
theorem pg_sub{o i:Expr}{to ti:TE}{t:TSet}(ho:PE X o to)(hi:PE X i ti)(hs:PSet X t)
 (ha:∀ v,assign (.Subscript o i pos) X.env v=(do
   let ov ← holding [v] (eval o X.env)
   let iv ← holding [v,ov] (eval i X.env)
   standAt pos
   holding [v,ov,iv] (setItem ov iv v)
   release [v,ov,iv] []):=by intro _;rfl):PG X (.Subscript o i pos) (gSub to ti t):=by
 intro pins s σ H v u Q I r h
 rw[ha]
 refine wpAny_bind (wpAny_holding (thn (ho pins s σ H _ I h) fun ov s1 ⟨x,H1,I1,r1,q1⟩ => ?_))
 refine wpAny_bind (wpAny_holding (thn (hi pins s1 σ H1 _ I1 q1) fun iv s2 ⟨y,H2,I2,r2,q2⟩ => ?_))
 refine wpAny_bind (wpAny_standAt (wpAny_bind (wpAny_holding (thn (hs pins s2 σ H2 x y v ov iv u _ I2 r1 r2 r q2) fun _ s3 ⟨H3,I3,q3⟩ => ?_))))
 exact wpAny_release ⟨σ,H3,I3,q3⟩
noncomputable def tAsg(te:TE)(g:TG):TS:=fun D σ H=>te σ H fun x H1=>g x σ H1 D.nx
theorem ps_asg{tg e:Expr}{te:TE}{g:TG}(he:PE X e te)(hg:PG X tg g)(hs:swapsWithSole [tg] e pos.line X.env=pure false:=by rfl)(hw:swappedStores [tg] e X.env=pure none:=by rfl)
 (h1:(assignEach [tg] X.env).map (·.2)=[assign tg X.env]:=by rfl):PS X (.Assign [tg] e pos) (tAsg te g):=by
 intro pins s σ H D I h
 refine wpAny_Assign_stores (thn (he pins s σ H _ I h) fun v s1 ⟨x,H1,I1,r1,q1⟩ => ?_) hs hw
 rw[h1]
 exact thn (hg pins s1 σ H1 x v _ I1 r1 q1) fun _ s2 q=>q
theorem ps_set{i:Nat}{x:Str}{e:Expr}{te:TE}{pos':Pos}(hN:X.N.Nodup)(hi:X.N[i]?=some x)(hx:Loc X.env.scope x)(he:PE X e te)(hs:swapsWith e (some (.Name x pos')) pos.line X.env=pure false:=by rfl)(hf:X.fn x=true\/X.env.scope.names.lookup x=some .local:=by first|exact .inl rfl|exact .inr rfl|assumption) :
 PS X (.Assign [.Name x pos'] e pos) (tAsg te (gName i)):=by
 intro pins s σ H D I h
 refine wpAny_Assign_Name (thn (he pins s σ H _ I h) fun v s1 ⟨y,H1,I1,r1,q1⟩ => ?_) hs
 exact store_ok I1 hN hi hx r1 (fun s2 I2=>⟨_,H1,I2,q1⟩) hf
noncomputable def tAug(i:Nat)(te:TE)(ti:TIp):TS:=fun D σ H=>∃ x,σ[i]?=some (some x)/\te σ H fun y H1=>ti x y H1 fun z H2=>D.nx (σ.set i (some z)) H2
theorem ps_aug{i:Nat}{x:Str}{e:Expr}{te:TE}{op:Operator}{ti:TIp}{pos':Pos}(hN:X.N.Nodup)(hi:X.N[i]?=some x)(hx:Loc X.env.scope x)(he:PE X e te)(ho:PIp X op ti)(hf:X.fn x=true\/X.env.scope.names.lookup x=some .local:=by first|exact .inl rfl|exact .inr rfl|assumption) :
 PS X (.AugAssign (.Name x pos') op e pos) (tAug i te ti):=by
 intro pins s σ H D I h
 obtain⟨v,e1,h⟩:=h
 obtain⟨m,hn,hl⟩:=I.loc
 have vis:Vis X.env.scope x:=by rcases hx with k|k;exact .inl k;exact .inr (.inl k)
 obtain⟨u,r,l⟩:=hl i x v hi e1 vis
 refine wpAny_AugAssign_Name ?_
 have go:wpAny (model X.prog X.w) X.A (eval e X.env) (fun w s₂=>wpAny (model X.prog X.w) X.A (inplaceOp op u w) (fun r s₃=>wpAny (model X.prog X.w) X.A (storeName X.env x r) (fun _=>SP X pins D .next) X.xe s₃) X.xe s₂) X.xe s:=by
  refine thn (he pins s σ H _ I h) fun w s1 ⟨y,H1,I1,r1,q1⟩ => ?_
  refine thn (ho pins s1 σ H1 v y u w _ I1 r r1 q1) fun z s2 ⟨zv,H2,I2,r2,q2⟩ => ?_
  exact store_ok I2 hN hi hx r2 (fun s3 I3=>⟨_,H2,I3,q2⟩) hf
 rcases l with⟨hk,hm⟩ | ⟨hk,c,hc,hcell⟩
 ·exact wpAny_loadName_local I.ok.kind hk hn hm go
 ·rcases hk with hk|hk
  ·exact wpAny_loadName_cell I.ok.kind hk hc hcell go
  ·rcases hx with k|k
   ·have:X.env.scope.names.lookup x=some .free:=hk
    rw[k] at this;cases this
   ·have:X.env.scope.names.lookup x=some .free:=hk
    rw[k] at this;cases this
end
section
variable {X:Cx}{pos:Pos}
noncomputable def tWhile(c:TT)(tb:TS):TS:=fun D σ H=>∃ W:Nat->St->Hp->Prop,(∃ m,W m σ H)/\∀ m σ H,W m σ H →
 c σ H fun b H1=>if b=true then ∃ N:St->Hp->Prop,(∀ σ' H',N σ' H'->∃ m',m'<m/\W m' σ' H')/\tb {D with nx:=N,ct:=N,bk:=D.nx} σ H1 else D.nx σ H1
theorem ps_while{c:Expr}{body:List Stmt}{tc:TT}{tb:TS}(hp:PassesOwn (model X.prog X.w) X.A X.env X.xe)(hc:PT X c tc)(hb:PSs X body tb):PS X (.While c body [] pos) (tWhile tc tb):=by
 intro pins s σ H D I h
 obtain⟨W,⟨m0,w0⟩,turn⟩:=h
 refine wpAny_While (codeAny_whileLoop (fun n s'=>∃ σ' H',Inv X pins σ' H' s'/\W n σ' H') ?_ m0 ⟨σ,H,I,w0⟩)
 rintro n s1 ⟨σ1,H1,I1,w1⟩
 refine wpAny_passesOwn hp (thn (hc pins s1 σ1 H1 _ I1 (turn n σ1 H1 w1)) fun b s2 ⟨H2,I2,q2⟩ => ?_)
 cases b with
 |true =>
  obtain⟨N,hN,q2⟩:=q2
  rw[if_pos rfl]
  refine wpAny_passesOwn hp (thn (hb pins s2 σ1 H2 _ I2 q2) fun f s3 q3 => ?_)
  cases f with
  |next =>
   obtain⟨σ3,H3,I3,n3⟩:=q3
   obtain⟨m',hm,w3⟩:=hN σ3 H3 n3
   exact⟨m',hm,σ3,H3,I3,w3⟩
  |cont =>
   obtain⟨σ3,H3,I3,n3⟩:=q3
   obtain⟨m',hm,w3⟩:=hN σ3 H3 n3
   exact⟨m',hm,σ3,H3,I3,w3⟩
  |brk=>exact q3
  |ret v=>exact q3
 |false =>
  rw[if_neg Bool.false_ne_true]
  exact wpAny_execs_nil ⟨σ1,H2,I2,q2⟩
end
structure It where
 go:Nat->Hp->Prop
 yld:Nat->Hp->V->Hp->Prop
 stop:Nat->Hp->Prop
noncomputable def FpOk(X:Cx)(pins:List (Addr × Obj))(H:Hp)(b:Addr):Prop :=
 H b=none/\b≠X.env.locals/\b∉X.fs/\(b∈X.ex\/X.s₀.heap.objs.size<=b)/\(∀ x c,X.env.cells.lookup x=some c->c≠b)/\∀ p∈X.pn++pins,p.1≠b
theorem Inv.fpOk{X:Cx}{pins:List (Addr × Obj)}{σ:St}{H H':Hp}{s:Shared}{b:Addr}(I:Inv X pins σ H s)(hb:s.heap.objs.size<=b)(hn:H' b=none):FpOk X pins H' b:=by
 refine⟨hn,Nat.ne_of_gt (Nat.lt_of_lt_of_le I.lt hb),I.nofs hb,.inr (Nat.le_trans I.sz hb),fun x c e z => ?_,fun p hp z => ?_⟩
 ·obtain⟨v,q⟩:=I.cell x c e
  exact absurd (Nat.lt_of_lt_of_le q.lt (by rw[z];exact hb)) (Nat.lt_irrefl _)
 ·exact absurd (Nat.lt_of_lt_of_le (Heap.lt_size (I.pin p hp).1) (by rw[z];exact hb)) (Nat.lt_irrefl _)
structure Turn(P:Program)(w:World)(K:PySem.W.Frag)(tg:Expr)(J:It)(fp:List Addr)(it:Addr)(tn:Nat->Heap->Prop):Prop where
 mem:it∈fp
 obj:∀ i h,tn i h->∀ b∈fp,∃ o,h.get? b=some o/\∀ v,o.data ≠ .cell v
 keep:∀ i h h',tn i h->(∀ b∈fp,∀ o,h.get? b=some o->h'.get? b=some o)->tn i h'
 item:∀ (X:Cx),X.prog=P->X.w=w->X.K=K->X.calm=true->∀ (i:Nat) (pins:List (Addr × Obj)) (s:Shared) (σ:St) (H:Hp) (E:Value->Shared->Prop),Inv X pins σ H s->(∀ b∈fp,FpOk X pins H b)->tn i s.heap->J.go i H →
  wpAny (model P w) X.A (pyNext (.ref it)) (fun r s1=>∃ u,r=some u ∧
   wpAny (model P w) X.A (letOwnedTupleGo tg (.ref it) u) (fun _ s2=>∃ x H',Inv X pins σ H' s2/\RelV x u/\J.yld i H x H'/\tn (i+1) s2.heap/\∀ b∈fp,H' b=none) E s1) E s
 done:∀ (X:Cx),X.prog=P->X.w=w->X.K=K->X.calm=true->∀ (i:Nat) (pins:List (Addr × Obj)) (s:Shared) (σ:St) (H:Hp) (E:Value->Shared->Prop),Inv X pins σ H s->(∀ b∈fp,FpOk X pins H b)->tn i s.heap->J.stop i H →
  wpAny (model P w) X.A (pyNext (.ref it)) (fun r s1=>r=none/\Inv X pins σ H s1) E s
 self:∀ (A:Around) (i:Nat) (s:Shared) (Q:Value->Shared->Prop) (E:Value->Shared->Prop),tn i s.heap->Q (.ref it) s->wpAny (model P w) A (pyIter (.ref it)) Q E s
noncomputable abbrev TI:=St->Hp->(It->Hp->Prop)->Prop
noncomputable def PIE(X:Cx)(pins:List (Addr × Obj))(σ:St)(tg:Expr)(R:It->Hp->Prop)(itv:Value)(s2:Shared):Prop :=
 ∃ (it:Addr) (fp:List Addr) (tn:Nat->Heap->Prop) (J:It) (H':Hp),itv = .ref it/\Inv X pins σ H' s2/\Turn X.prog X.w X.K tg J fp it tn/\tn 0 s2.heap/\(∀ b∈fp,FpOk X pins H' b)/\R J H'
noncomputable def PI(X:Cx)(tg iter:Expr)(wi:TI):Prop :=
 ∀ (pins:List (Addr × Obj)) (s:Shared) (σ:St) (H:Hp) (R:It->Hp->Prop),Inv X pins σ H s->wi σ H R →
  wpAny (model X.prog X.w) X.A (eval iter X.env) (fun v s1=>wpAny (model X.prog X.w) X.A (pyIter v) (PIE X pins σ tg R) X.xe s1) X.xe s
theorem go_of{M:Model}{A:Around}{E:Value->Shared->Prop}{s:Shared}{tg:Expr}{it:Addr}{u:Value}{o:Obj}{n:String}{vs:Array Value}{Q:Unit->Shared->Prop}(ho:s.heap.get? it=some o)(hc:o.cls = .type n)(hd:o.data = .fields vs)
 (hn:["enumerate","zip","dict_itemiterator","dict_reverseitemiterator","odict_iterator","itertools.zip_longest","itertools.pairwise"].contains n=false) (hQ:Q () s):wpAny M A (letOwnedTupleGo tg (.ref it) u) Q E s:=by
 unfold letOwnedTupleGo
 cases tg<;>first
  |exact wpAny_pure hQ
  | (cases u<;>first
      |exact wpAny_pure hQ
      | (refine wpAny_bind (wpAny_load ho ?_)
         rw[hc,hd]
         show wpAny M A (if (["enumerate","zip","dict_itemiterator","dict_reverseitemiterator","odict_iterator","itertools.zip_longest","itertools.pairwise"].contains n && vs[0]? == some (rawInt _))=true then _ else _) Q E s
         rw[if_neg (by intro h;rw[hn,Bool.false_and] at h;cases h)]
         exact wpAny_pure hQ))
noncomputable def Itl(K:PySem.W.Frag)(a:Addr):It :=
 ⟨fun i H=>∃ xs x,SqL K H a xs/\xs[i]?=some x,fun i H x H'=>H'=H/\∀ xs,SqL K H a xs->xs[i]?=some x,fun i H=>∃ xs,SqL K H a xs/\xs.length<=i⟩
noncomputable def Itt(K:PySem.W.Frag)(a:Addr):It :=
 ⟨fun i H=>∃ xs x,SqT K H a xs/\xs[i]?=some x,fun i H x H'=>H'=H/\∀ xs,SqT K H a xs->xs[i]?=some x,fun i H=>∃ xs,SqT K H a xs/\xs.length<=i⟩
noncomputable def Itr(lo:Int)(n:Nat):It:=⟨fun i _=>i<n,fun i H x H'=>H'=H/\x = .int (lo+i),fun i _=>n<=i⟩
theorem turn_list{P:Program}{w:World}{K:PySem.W.Frag}{tg:Expr}(a it:Addr):Turn P w K tg (Itl K a) [it] it (fun i h=>h.IsListIter it a i) where
 mem:=by simp
 obj:=fun i h st b hb=>by
  have e:b=it:=by simpa using hb
  subst e
  obtain⟨o,e,c,d⟩:=st
  exact⟨o,e,fun v z=>by rw[d] at z;cases z⟩
 keep:=fun i h h' st k=>st.at fun o e=>k it (by simp) o e
 item:=by
  intro X hP hw hK hc i pins s σ H E I hf st hg
  subst hP hw hK
  obtain⟨xs,x,hq,hx⟩:=hg
  obtain⟨its,rv,p,hz⟩:=I.list hq
  obtain⟨u,hu,ru⟩:=rv.get hx
  obtain⟨f0,f1,f2,f3,f4,f5⟩:=hf it (by simp)
  refine wpAny_pyNext_list_item st p.isList (x:=u) (by simpa using hu) fun h' st' sb => ?_
  have I1:Inv X pins σ H {s with heap:=h'}:=I.turned (t':=s.toks) (fun b o hb e=>(sb.2 b hb).trans e) f0 f1 f3 f4 f5
  obtain⟨o,e,c,d⟩:=id st'
  exact⟨u,rfl,go_of (s:={s with heap:=h'}) e c d (by decide) ⟨x,H,I1,ru,⟨rfl,fun ys hy=>by rw[I.list_inj hy hq];exact hx⟩,st',fun b hb=>(hf b hb).1⟩⟩
 done:=by
  intro X hP hw hK hc i pins s σ H E I hf st hg
  subst hP hw hK
  obtain⟨xs,hq,hx⟩:=hg
  obtain⟨its,rv,p,hz⟩:=I.list hq
  obtain⟨f0,f1,f2,f3,f4,f5⟩:=hf it (by simp)
  have hl:=rv.length
  exact wpAny_pyNext_list_end (I.ok.hd hc) st p.isList (by simp;omega) fun h' eb=>⟨rfl,I.turned (t':=s.toks) (fun b o hb e=>eb b o hb e) f0 f1 f3 f4 f5⟩
 self:=fun _ _ _ _ _ st h=>wpAny_pyIter_listiter st h
theorem turn_tuple{P:Program}{w:World}{K:PySem.W.Frag}{tg:Expr}(a it:Addr):Turn P w K tg (Itt K a) [it] it (fun i h=>h.IsTupleIter it a i) where
 mem:=by simp
 obj:=fun i h st b hb=>by
  have e:b=it:=by simpa using hb
  subst e
  obtain⟨o,e,c,d⟩:=st
  exact⟨o,e,fun v z=>by rw[d] at z;cases z⟩
 keep:=fun i h h' st k=>st.at fun o e=>k it (by simp) o e
 item:=by
  intro X hP hw hK hc i pins s σ H E I hf st hg
  subst hP hw hK
  obtain⟨xs,x,hq,hx⟩:=hg
  obtain⟨its,rv,p,hz⟩:=I.tuple hq
  obtain⟨u,hu,ru⟩:=rv.get hx
  obtain⟨f0,f1,f2,f3,f4,f5⟩:=hf it (by simp)
  refine wpAny_pyNext_tuple_item st (show s.heap.IsTuple a its.toArray from p) (x:=u) (by simpa using hu) fun h' st' sb => ?_
  have I1:Inv X pins σ H {s with heap:=h'}:=I.turned (t':=s.toks) (fun b o hb e=>(sb.2 b hb).trans e) f0 f1 f3 f4 f5
  obtain⟨o,e,c,d⟩:=id st'
  exact⟨u,rfl,go_of (s:={s with heap:=h'}) e c d (by decide) ⟨x,H,I1,ru,⟨rfl,fun ys hy=>by rw[I.tuple_inj hy hq];exact hx⟩,st',fun b hb=>(hf b hb).1⟩⟩
 done:=by
  intro X hP hw hK hc i pins s σ H E I hf st hg
  subst hP hw hK
  obtain⟨xs,hq,hx⟩:=hg
  obtain⟨its,rv,p,hz⟩:=I.tuple hq
  obtain⟨f0,f1,f2,f3,f4,f5⟩:=hf it (by simp)
  have hl:=rv.length
  exact wpAny_pyNext_tuple_end (I.ok.hd hc) st (show s.heap.IsTuple a its.toArray from p) (by simp;omega) fun h' eb=>⟨rfl,I.turned (t':=s.toks) (fun b o hb e=>eb b o hb e) f0 f1 f3 f4 f5⟩
 self:=fun _ _ _ _ _ st h=>wpAny_pyIter_tupleiter st h
theorem turn_range{P:Program}{w:World}{K:PySem.W.Frag}{tg:Expr}(it:Addr)(lo:Int)(n:Nat):Turn P w K tg (Itr lo n) [it] it (fun i h=>IsRangeIter h it (lo+(i:Nat)*1) ((n:Int)-(i:Nat)) 1) where
 mem:=by simp
 obj:=fun i h st b hb=>by
  have e:b=it:=by simpa using hb
  subst e
  exact⟨_,st,fun v z=>by
   have z':Data.fields _=Data.cell v:=z
   cases z'⟩
 keep:=fun i h h' st k=>k it (by simp) _ st
 item:=by
  intro X hP hw hK hc i pins s σ H E I hf st hg
  subst hP hw hK
  obtain⟨f0,f1,f2,f3,f4,f5⟩:=hf it (by simp)
  have W:=Walks.range (prog:=X.prog) (w:=X.w) (I.ok.hd hc) it lo 1 n
  refine W.item i s _ _ hg st fun v h' tk hv st' kk => ?_
  obtain⟨t,rfl⟩:=hv
  have I1:Inv X pins σ H {s with heap:=h',toks:=tk}:=I.turned (fun b o hb e=>kk b o (by simpa using hb) e) f0 f1 f3 f4 f5
  refine⟨_,rfl,go_of (s:={s with heap:=h',toks:=tk}) (n:="range_iterator") st' rfl rfl (by decide) ⟨.int (lo+i),H,I1,⟨t,?_⟩,⟨rfl,rfl⟩,st',fun b hb=>(hf b hb).1⟩⟩
  rw[Int.mul_one]
 done:=by
  intro X hP hw hK hc i pins s σ H E I hf st hg
  subst hP hw hK
  obtain⟨f0,f1,f2,f3,f4,f5⟩:=hf it (by simp)
  exact wpAny_pyNext_range_end (I.ok.hd hc) st (by have:n<=i:=hg;omega) fun h' eb=>⟨rfl,I.turned (t':=s.toks) (fun b o hb e=>eb b o hb e) f0 f1 f3 f4 f5⟩
 self:=fun _ _ _ _ _ st h=>wpAny_pyIter_rangeiter st h
end L2
namespace L2
open PySem PySem.Spec PyProof.Rows
section
variable {X:Cx}{tg:Expr}
noncomputable def iList(K:PySem.W.Frag)(tl:TE):TI:=fun σ H R=>tl σ H fun x H1=>∃ a,x = .ref a/\(∃ xs,SqL K H1 a xs)/\R (Itl K a) H1
noncomputable def iTup(K:PySem.W.Frag)(tl:TE):TI:=fun σ H R=>tl σ H fun x H1=>∃ a,x = .ref a/\(∃ xs,SqT K H1 a xs)/\R (Itt K a) H1
theorem pi_list{l:Expr}{tl:TE}(hl:PE X l tl):PI X tg l (iList X.K tl):=by
 intro pins s σ H R I h
 refine thn (hl pins s σ H _ I h) fun v s1 ⟨x,H1,I1,r1,q1⟩ => ?_
 obtain⟨a,e,⟨xs,hq⟩,q⟩:=q1
 subst e
 cases r1
 obtain⟨its,rv,p,hz⟩:=I1.list hq
 refine wpAny_pyIter_list p.isList ?_
 refine⟨s1.heap.objs.size,[s1.heap.objs.size],_,_,H1,rfl,I1.kept (t':=s1.toks) fun b o e=>Heap.get?_push_of_some _ e,turn_list a _,⟨_,Heap.get?_push_size _ rfl,rfl,rfl⟩,fun b hb => ?_,q⟩
 have e:b=s1.heap.objs.size:=by simpa using hb
 subst e
 exact I1.fpOk (Nat.le_refl _) (I1.hok.fresh (Nat.le_refl _))
theorem pi_tup{l:Expr}{tl:TE}(hl:PE X l tl):PI X tg l (iTup X.K tl):=by
 intro pins s σ H R I h
 refine thn (hl pins s σ H _ I h) fun v s1 ⟨x,H1,I1,r1,q1⟩ => ?_
 obtain⟨a,e,⟨xs,hq⟩,q⟩:=q1
 subst e
 cases r1
 obtain⟨its,rv,p,hz⟩:=I1.tuple hq
 refine wpAny_pyIter_tuple (show s1.heap.IsTuple a its.toArray from p) ?_
 refine⟨s1.heap.objs.size,[s1.heap.objs.size],_,_,H1,rfl,I1.kept (t':=s1.toks) fun b o e=>Heap.get?_push_of_some _ e,turn_tuple a _,⟨_,Heap.get?_push_size _ rfl,rfl,rfl⟩,fun b hb => ?_,q⟩
 have e:b=s1.heap.objs.size:=by simpa using hb
 subst e
 exact I1.fpOk (Nat.le_refl _) (I1.hok.fresh (Nat.le_refl _))
theorem range_it{pins:List (Addr × Obj)}{σ:St}{H:Hp}{s:Shared}{R:It->Hp->Prop}{E:Value->Shared->Prop}{lo hi:Int}{t u v:Tok}{tk:Nat}(I:Inv X pins σ H s)(h1 : -(2 ^ 62)<=lo)(h2:lo<2 ^ 62)(h3 : -(2 ^ 62)<=hi)(h4:hi<2 ^ 62)
 (q:R (Itr lo (hi-lo).toNat) H):wpAny (model X.prog X.w) X.A (pyIter (.ref s.heap.objs.size)) (PIE X pins σ tg R) E {s with heap:=s.heap.push {cls:=.type "range",data:=.fields #[.int lo t,.int hi u,.int 1 v]},toks:=tk}:=by
 refine wpAny_pyIter_range (IsRange.new ..) (small_one h1 h2 h3 h4) ?_
 have I1:Inv X pins σ H {s with heap:=s.heap.push {cls:=.type "range",data:=.fields #[.int lo t,.int hi u,.int 1 v]},toks:=tk}:=I.kept fun b o e=>Heap.get?_push_of_some _ e
 refine⟨(s.heap.push {cls:=.type "range",data:=.fields #[.int lo t,.int hi u,.int 1 v]}).objs.size,[(s.heap.push {cls:=.type "range",data:=.fields #[.int lo t,.int hi u,.int 1 v]}).objs.size],_,_,H,rfl,
  I1.kept (t':=tk) fun b o e=>Heap.get?_push_of_some _ e,turn_range _ lo (hi-lo).toNat,?_,fun b hb => ?_,q⟩
 ·have e1:lo+((0:Nat):Int)*1=lo:=by simp
  have e2:(((hi-lo).toNat:Nat):Int)-((0:Nat):Int)=Builtin.Range.rangeSize lo hi 1:=by rw[rangeSize_one];split<;>omega
  show IsRangeIter _ _ (lo+((0:Nat):Int)*1) ((((hi-lo).toNat:Nat):Int)-((0:Nat):Int)) 1
  rw[e1,e2]
  exact Heap.get?_push_size _ rfl
 ·have e:b=(s.heap.push {cls:=.type "range",data:=.fields #[.int lo t,.int hi u,.int 1 v]}).objs.size:=by simpa using hb
  subst e
  exact I1.fpOk (Nat.le_refl _) (I1.hok.fresh (Nat.le_refl _))
noncomputable def iRng1(ta:TA):TI:=fun σ H R=>ta σ H fun vs H1=>∃ j:Int,vs=[.int j] ∧ -(2 ^ 62)<=j/\j<2 ^ 62/\R (Itr 0 j.toNat) H1
theorem pi_range1{a:Expr}{ta:TA}{p pos:Pos}(hg:Gl X "range")(hm:X.mg "range"=none)(ha:PA X [a] ta)(hs:starEach [a] X.env=[(false,eval a X.env)]:=by rfl):PI X tg (.Call (.Name "range" p) [a] [] pos) (iRng1 ta):=by
 intro pins s σ H R I h
 refine Call_ (ld_blt I hg hm boot_range (PyProof.Rows.callWith_type1 (thn (ha pos pins s σ H _ I h) fun us s1 ⟨vs,H1,I1,r1,q1⟩ => ?_) hs rfl))
 obtain⟨j,e,q1,q2,q⟩:=q1
 subst e
 cases r1 with
 |cons r rr =>
  cases rr
  obtain⟨t,rfl⟩:=r
  exact call_range_1 (range_it I1 (by omega) (by omega) q1 q2 (by simpa using q))
noncomputable def tFor(wi:TI)(g:TG)(tb:TS):TS:=fun D σ H=>wi σ H fun J H1=>∃ W:Nat->Nat->St->Hp->Prop,(∃ m,W 0 m σ H1)/\∀ i m σ H,W i m σ H →
 (J.stop i H/\D.nx σ H)\/(J.go i H/\∃ N:St->Hp->Prop,(∀ σ' H',N σ' H'->∃ m',m'<m/\W (i+1) m' σ' H')/\∀ x H',J.yld i H x H'->g x σ H' fun σ2 H2=>tb {D with nx:=N,ct:=N,bk:=D.nx} σ2 H2)
noncomputable def pinsAt(fp:List Addr)(h:Heap):List (Addr × Obj):=fp.filterMap fun b=>(h.get? b).map fun o=>(b,o)
theorem mem_pinsAt{fp:List Addr}{h:Heap}{b:Addr}{o:Obj}(hb:b∈fp)(e:h.get? b=some o):(b,o)∈pinsAt fp h:=List.mem_filterMap.mpr ⟨b,hb,by rw[e];rfl⟩
theorem of_pinsAt{fp:List Addr}{h:Heap}{p:Addr × Obj}(hp:p∈pinsAt fp h):p.1∈fp/\h.get? p.1=some p.2:=by
 obtain⟨b,hb,e⟩:=List.mem_filterMap.mp hp
 cases q:h.get? b with
 |none=>rw[q] at e;cases e
 |some o =>
  rw[q] at e
  have e':(b,o)=p:=Option.some.inj e
  subst e'
  exact⟨hb,q⟩
theorem Inv.pinned{pins:List (Addr × Obj)}{σ:St}{H:Hp}{s:Shared}{fp:List Addr}(I:Inv X pins σ H s)(hf:∀ b∈fp,FpOk X pins H b)(ho:∀ b∈fp,∃ o,s.heap.get? b=some o/\∀ v,o.data ≠ .cell v):Inv X (pins++pinsAt fp s.heap) σ H s :=
 I.pins_of fun p hp=>(List.mem_append.mp hp).elim (fun z=>I.pin p (List.mem_append_right _ z)) fun z=>by
  obtain⟨hb,e⟩:=of_pinsAt z
  obtain⟨f0,f1,f2,_⟩:=hf p.1 hb
  obtain⟨o,e',d⟩:=ho p.1 hb
  rw[e] at e';cases e'
  exact⟨e,f0,f1,f2,d⟩
theorem Inv.unpinned{pins pl:List (Addr × Obj)}{σ:St}{H:Hp}{s:Shared}(I:Inv X (pins++pl) σ H s):Inv X pins σ H s:=I.pins_of fun p hp=>I.pin p (List.mem_append_right _ (List.mem_append_left _ hp))
theorem ps_for{iter:Expr}{body:List Stmt}{wi:TI}{g:TG}{tb:TS}{pos:Pos}(hp:PassesOwn (model X.prog X.w) X.A X.env X.xe)(hc:X.calm=true)(hi:PI X tg iter wi)(hg:PG X tg g)(hb:PSs X body tb)
 (hs:∀ x,foldedSetIterable iter X.env x=pure x:=by intro _;rfl):PS X (.For tg iter body [] pos) (tFor wi g tb):=by
 intro pins s σ H D I h
 refine wpAny_For (thn (hi pins s σ H _ I h) fun v s1 h1=>thn h1 fun itv s2 h2 => ?_) hs
 obtain⟨it,fp,tn,J,H2,e,I2,T,st2,f2,W,⟨m0,w0⟩,turn⟩:=h2
 subst e
 have stat:∀ {H':Hp},(∀ b∈fp,H' b=none)->∀ b∈fp,FpOk X pins H' b:=fun hn b hb=>⟨hn b hb,(f2 b hb).2⟩
 refine codeAny_forLoop_any (fun n s'=>∃ i σ' H',Inv X pins σ' H' s'/\tn i s'.heap/\(∀ b∈fp,H' b=none)/\W i n σ' H') ?_ m0 ⟨0,σ,H2,I2,st2,fun b hb=>(f2 b hb).1,w0⟩
 rintro n s3 ⟨i,σ3,H3,I3,st3,fr3,w3⟩
 rcases turn i n σ3 H3 w3 with⟨stop,qn⟩ | ⟨go,N,hN,step⟩
 ·refine wpAny_passesOwn hp (thn (T.done X rfl rfl rfl hc i pins s3 σ3 H3 X.xe I3 (stat fr3) st3 stop) fun r s4 ⟨hr,I4⟩ => ?_)
  subst hr
  exact wpAny_execs_nil ⟨σ3,H3,I4,qn⟩
 ·refine wpAny_passesOwn hp (thn (T.item X rfl rfl rfl hc i pins s3 σ3 H3 X.xe I3 (stat fr3) st3 go) fun r s4 ⟨u,hr,h4⟩ => ?_)
  subst hr
  refine wpAny_passesOwn hp (thn h4 fun _ s5 ⟨x,H5,I5,r5,y5,st5,fr5⟩ => ?_)
  have I5':=I5.pinned (stat fr5) (T.obj _ _ st5)
  refine wpAny_passesOwn hp (thn (hg _ s5 σ3 H5 x u _ I5' r5 (step x H5 y5)) fun _ s6 ⟨σ6,H6,I6,q6⟩ => ?_)
  refine wpAny_passesOwn hp (thn (hb _ s6 σ6 H6 _ I6 q6) fun f s7 q7 => ?_)
  have again:∀ {σ7:St} {H7:Hp},Inv X (pins++pinsAt fp s5.heap) σ7 H7 s7->N σ7 H7->∃ m,m<n/\∃ i σ' H',Inv X pins σ' H' s7/\tn i s7.heap/\(∀ b∈fp,H' b=none)/\W i m σ' H':=fun {σ7 H7} I7 n7=>by
   obtain⟨m',hm,w7⟩:=hN σ7 H7 n7
   refine⟨m',hm,i+1,σ7,H7,I7.unpinned,T.keep _ _ _ st5 fun b hb o e=>(I7.pin (b,o) (List.mem_append_right _ (List.mem_append_right _ (mem_pinsAt hb e)))).1,fun b hb => ?_,w7⟩
   obtain⟨o,e,d⟩:=T.obj _ _ st5 b hb
   exact(I7.pin (b,o) (List.mem_append_right _ (List.mem_append_right _ (mem_pinsAt hb e)))).2.1
  cases f with
  |next=>obtain⟨σ7,H7,I7,n7⟩:=q7;exact again I7 n7
  |cont=>obtain⟨σ7,H7,I7,n7⟩:=q7;exact again I7 n7
  |brk=>obtain⟨σ7,H7,I7,q7⟩:=q7;exact⟨σ7,H7,I7.unpinned,q7⟩
  |ret v=>obtain⟨x7,σ7,H7,I7,r7,q7⟩:=q7;exact⟨x7,σ7,H7,I7.unpinned,r7,q7⟩
end
end L2
namespace L2
open PySem PySem.Spec PyProof.Rows
noncomputable abbrev R2:=V->V->Hp->VK->Prop
noncomputable def OpR(X:Cx)(f:Value->Value->Sem Value)(r:R2):Prop :=
 ∀ (pins:List (Addr × Obj)) (s:Shared) (σ:St) (H:Hp) (x y:V) (v u:Value) (Q:VK),Inv X pins σ H s->RelV x v->RelV y u->r x y H Q →
  wpAny (model X.prog X.w) X.A (f v u) (EP X pins σ Q) X.xe s
noncomputable def UnR(X:Cx)(f:Value->Sem Value)(r:V->Hp->VK->Prop):Prop :=
 ∀ (pins:List (Addr × Obj)) (s:Shared) (σ:St) (H:Hp) (x:V) (v:Value) (Q:VK),Inv X pins σ H s->RelV x v->r x H Q →
  wpAny (model X.prog X.w) X.A (f v) (EP X pins σ Q) X.xe s
noncomputable def CallR(X:Cx)(f:Value)(r:List V->Hp->VK->Prop):Prop :=
 ∀ (pins:List (Addr × Obj)) (s:Shared) (σ:St) (H:Hp) (xs:List V) (us:List Value) (Q:VK),Inv X pins σ H s->Vals xs us->r xs H Q →
  wpAny (model X.prog X.w) X.A (call f us) (EP X pins σ Q) X.xe s
noncomputable def TruR(X:Cx)(r:V->Hp->(Bool->Hp->Prop)->Prop):Prop :=
 ∀ (pins:List (Addr × Obj)) (s:Shared) (σ:St) (H:Hp) (x:V) (v:Value) (Q:Bool->Hp->Prop),Inv X pins σ H s->RelV x v->r x H Q →
  wpAny (model X.prog X.w) X.A (truthy v) (TP X pins σ Q) X.xe s
noncomputable def tOp(r:R2)(ta tb:TE):TE:=fun σ H Q=>ta σ H fun x H1=>tb σ H1 fun y H2=>r x y H2 Q
noncomputable def tUn(r:V->Hp->VK->Prop)(ta:TE):TE:=fun σ H Q=>ta σ H fun x H1=>r x H1 Q
noncomputable def rI(C:Int->Int->Prop)(g:Int->Int->V):R2:=fun x y H Q=>∃ i j,x = .int i/\y = .int j/\C i j/\Q (g i j) H
noncomputable def rI0(g:Int->Int->V):R2:=fun x y H Q=>∃ i j,x = .int i/\y = .int j/\Q (g i j) H
noncomputable def rU(g:Int->V):V->Hp->VK->Prop:=fun x H Q=>∃ i,x = .int i/\Q (g i) H
section
variable {X:Cx}{a b c:Expr}{ta tb tc:TE}{pos:Pos}
theorem binT(ha:PE X a ta)(hb:PE X b tb){pins:List (Addr × Obj)}{s:Shared}{σ:St}{H:Hp}{R:V->V->Hp->Prop}(I:Inv X pins σ H s)
 (h:ta σ H fun x H1=>tb σ H1 fun y H2=>R x y H2) {Q:Value->Shared->Prop} {f:Value->Value->Sem Value}
 (hf:∀ v u s2 x y H2,Inv X pins σ H2 s2->RelV x v->RelV y u->R x y H2->wpAny (model X.prog X.w) X.A (f v u) Q X.xe s2) :
 wpAny (model X.prog X.w) X.A (eval a X.env) (fun v s₁=>wpAny (model X.prog X.w) X.A (eval b X.env) (fun u s₂=>wpAny (model X.prog X.w) X.A (f v u) Q X.xe s₂) X.xe s₁) X.xe s:=by
 refine thn (ha pins s σ H _ I h) fun v s1 ⟨x,H1,I1,r1,q1⟩ => ?_
 refine thn (hb pins s1 σ H1 _ I1 q1) fun u s2 ⟨y,H2,I2,r2,q2⟩ => ?_
 exact hf v u s2 x y H2 I2 r1 r2 q2
theorem pe_op{op:Operator}{r:R2}(ho:OpR X (binaryOp op) r)(ha:PE X a ta)(hb:PE X b tb):PE X (.BinOp a op b pos) (tOp r ta tb):=by
 intro pins s σ H Q I h
 exact wpAny_BinOp (binT ha hb I h fun v u s2 x y H2 I2 rx ry q=>ho pins s2 σ H2 x y v u Q I2 rx ry q)
theorem pe_un{op:UnaryOp}{r:V->Hp->VK->Prop}(ho:UnR X (unaryOp op) r)(ha:PE X a ta):PE X (.UnaryOp op a pos) (tUn r ta):=by
 intro pins s σ H Q I h
 exact UnaryOp_ (thn (ha pins s σ H _ I h) fun v s1 ⟨x,H1,I1,r1,q1⟩=>ho pins s1 σ H1 x v Q I1 r1 q1)
theorem opI{f:Value->Value->Sem Value}{C:Int->Int->Prop}{g:Int->Int->Int}
 (rule:∀ (i j:Int) (t u:Tok) (s:Shared) (Q:Value->Shared->Prop) (E:Value->Shared->Prop),C i j->Q (.int (g i j) s.toks) {s with toks:=s.toks+1}->wpAny (model X.prog X.w) X.A (f (.int i t) (.int j u)) Q E s) :
 OpR X f (rI C fun i j=>.int (g i j)):=by
 intro pins s σ H x y v u Q I rx ry h
 obtain⟨i,j,rfl,rfl,hc,q⟩:=h
 obtain⟨t,rfl⟩:=rx
 obtain⟨t',rfl⟩:=ry
 exact rule i j t t' s _ _ hc ⟨.int (g i j),H,I.tok _,⟨_,rfl⟩,q⟩
theorem opI0{f:Value->Value->Sem Value}{g:Int->Int->Int}
 (rule:∀ (i j:Int) (t u:Tok) (s:Shared) (Q:Value->Shared->Prop) (E:Value->Shared->Prop),Q (.int (g i j) s.toks) {s with toks:=s.toks+1}->wpAny (model X.prog X.w) X.A (f (.int i t) (.int j u)) Q E s) :
 OpR X f (rI0 fun i j=>.int (g i j)):=by
 intro pins s σ H x y v u Q I rx ry h
 obtain⟨i,j,rfl,rfl,q⟩:=h
 obtain⟨t,rfl⟩:=rx
 obtain⟨t',rfl⟩:=ry
 exact rule i j t t' s _ _ ⟨.int (g i j),H,I.tok _,⟨_,rfl⟩,q⟩
theorem opB0{f:Value->Value->Sem Value}{g:Int->Int->Bool}
 (rule:∀ (i j:Int) (t u:Tok) (s:Shared) (Q:Value->Shared->Prop) (E:Value->Shared->Prop),Q (.bool (g i j)) s->wpAny (model X.prog X.w) X.A (f (.int i t) (.int j u)) Q E s) :
 OpR X f (rI0 fun i j=>.bl (g i j)):=by
 intro pins s σ H x y v u Q I rx ry h
 obtain⟨i,j,rfl,rfl,q⟩:=h
 obtain⟨t,rfl⟩:=rx
 obtain⟨t',rfl⟩:=ry
 exact rule i j t t' s _ _ ⟨.bl (g i j),H,I,rfl,q⟩
noncomputable def CDiv(i j:Int):Prop:=0<j/\j<1073741824
noncomputable def CMul(i j:Int):Prop:=(-(2 ^ 64)<i/\i<2 ^ 64)\/(-(2 ^ 64)<j/\j<2 ^ 64)
theorem CMul.ok{i j:Int}(h:CMul i j):IntMulOk i j:=by
 rcases h with⟨h1,h2⟩ | ⟨h1,h2⟩
 ·exact .of_left (intBits_le_64 h1 h2)
 ·exact .of_right (intBits_le_64 h1 h2)
theorem op_add:OpR X (binaryOp .Add) (rI0 fun i j=>.int (i+j)):=opI0 fun _ _ _ _ _ _ _ q=>add_int q
theorem op_sub:OpR X (binaryOp .Sub) (rI0 fun i j=>.int (i-j)):=opI0 fun _ _ _ _ _ _ _ q=>sub_int q
theorem op_mul:OpR X (binaryOp .Mult) (rI CMul fun i j=>.int (i*j)):=opI fun _ _ _ _ _ _ _ hc q=>mul_int q hc.ok
theorem op_fdiv:OpR X (binaryOp .FloorDiv) (rI CDiv fun i j=>.int (i / j)):=opI fun i j _ _ _ _ _ hc q=>by
 have h1:(0:Int)<j:=hc.1
 have h2:j<1073741824:=hc.2
 exact floordiv_int (by omega) (by rw[Int.fdiv_eq_ediv_of_nonneg i (by omega)];exact q) (.inl (PyProof.noPylong_small (by omega)))
theorem op_mod:OpR X (binaryOp .Mod) (rI (fun _ j=>0<j) fun i j=>.int (i % j)):=opI fun i j _ _ _ _ _ hc q=>by
 have h1:(0:Int)<j:=hc
 exact mod_int' (by omega) (by rw[Int.fmod_eq_emod_of_nonneg i (by omega)];exact q)
theorem iop_add:OpR X (inplaceOp .Add) (rI0 fun i j=>.int (i+j)):=opI0 fun _ _ _ _ _ _ _ q=>iadd_int q
theorem unI{f:Value->Sem Value}{g:Int->Int}
 (rule:∀ (i:Int) (t:Tok) (s:Shared) (Q:Value->Shared->Prop) (E:Value->Shared->Prop),Q (.int (g i) s.toks) {s with toks:=s.toks+1}->wpAny (model X.prog X.w) X.A (f (.int i t)) Q E s) :
 UnR X f (rU fun i=>.int (g i)):=by
 intro pins s σ H x v Q I rx h
 obtain⟨i,rfl,q⟩:=h
 obtain⟨t,rfl⟩:=rx
 exact rule i t s _ _ ⟨.int (g i),H,I.tok _,⟨_,rfl⟩,q⟩
theorem un_neg:UnR X (unaryOp .USub) (rU fun i=>.int (-i)):=unI fun _ _ _ _ _ q=>neg_int q
end
section
variable {X:Cx}{a b c:Expr}{ta tb tc:TE}{pos:Pos}
theorem fin_bl{pins:List (Addr × Obj)}{σ:St}{H:Hp}{s:Shared}{Q:VK}{k k':Bool}(I:Inv X pins σ H s)(q:Q (.bl k) H)(e:k=k'):EP X pins σ Q (.bool k') s:=by
 subst e
 exact⟨.bl k,H,I,rfl,q⟩
theorem op_lt:OpR X (compareOp .Lt) (rI0 fun i j=>.bl (decide (i<j))):=opB0 fun _ _ _ _ _ _ _ q=>lt_int q
theorem op_le:OpR X (compareOp .LtE) (rI0 fun i j=>.bl (decide (i<=j))):=opB0 fun _ _ _ _ _ _ _ q=>le_int q
theorem op_gt:OpR X (compareOp .Gt) (rI0 fun i j=>.bl (decide (j<i))):=opB0 fun _ _ _ _ _ _ _ q=>gt_int q
theorem op_ge:OpR X (compareOp .GtE) (rI0 fun i j=>.bl (decide (j<=i))):=opB0 fun _ _ _ _ _ _ _ q=>ge_int q
theorem op_in_str:OpR X (compareOp .In) (fun x y H Q=>∃ i j,x = .str i/\y = .str j/\Q (.bl (!(Builtin.Str.occurrences j i 0 j.length 1).isEmpty)) H):=by
 intro pins s σ H x y v u Q I rx ry h
 obtain⟨i,j,rfl,rfl,q⟩:=h
 obtain⟨t,rfl⟩:=rx
 obtain⟨t',rfl⟩:=ry
 exact in_str (fin_bl I q rfl)
theorem op_isN:OpR X (compareOp .Is) (fun x y H Q=>y = .non/\Q (.bl (decide (x = .non))) H):=by
 intro pins s σ H x y v u Q I rx ry h
 obtain⟨rfl,q⟩:=h
 cases ry
 refine is_none_gen (fin_bl I q ?_)
 cases x<;>first
  | (cases rx;rfl)
  | (obtain⟨t,rfl⟩:=rx;rfl)
theorem op_notN:OpR X (compareOp .IsNot) (fun x y H Q=>y = .non/\Q (.bl (!decide (x = .non))) H):=by
 intro pins s σ H x y v u Q I rx ry h
 obtain⟨rfl,q⟩:=h
 cases ry
 refine isnot_none_gen (fin_bl I q ?_)
 cases x<;>first
  | (cases rx;rfl)
  | (obtain⟨t,rfl⟩:=rx;rfl)
theorem OpR.or{f:Value->Value->Sem Value}{r r':R2}(h:OpR X f r)(h':OpR X f r'):OpR X f (fun x y H Q=>r x y H Q\/r' x y H Q):=by
 intro pins s σ H x y v u Q I rx ry q
 rcases q with q|q
 ·exact h pins s σ H x y v u Q I rx ry q
 ·exact h' pins s σ H x y v u Q I rx ry q
theorem pe_cmpR{op:CmpOp}{r:R2}(ho:OpR X (compareOp op) r)(ha:PE X a ta)(hb:PE X b tb)(hm:behindInMarks op b=false):PE X (.Compare a [op] [b] pos) (tOp r ta tb):=by
 intro pins s σ H Q I h
 exact wpAny_Compare1 (binT ha hb I h fun v u s2 x y H2 I2 rx ry q=>ho pins s2 σ H2 x y v u Q I2 rx ry q) hm
noncomputable def tTest(t:TE):TT:=fun σ H Q=>t σ H fun x H'=>∃ k,x = .bl k/\Q k H'
theorem pt_cmpR{op:CmpOp}{r:R2}(ho:OpR X (compareOp op) r)(ha:PE X a ta)(hb:PE X b tb)(hm:behindInMarks op b=false):PT X (.Compare a [op] [b] pos) (tTest (tOp r ta tb)):=by
 intro pins s σ H Q I h
 refine wpAny_isTrue_Compare1 (thn (ha pins s σ H _ I h) fun v s1 ⟨x,H1,I1,r1,q1⟩=>thn (hb pins s1 σ H1 _ I1 q1) fun u s2 ⟨y,H2,I2,r2,q2⟩ =>
  thn (ho pins s2 σ H2 x y v u _ I2 r1 r2 q2) fun c s3 ⟨z,H3,I3,r3,k,e,q3⟩ => ?_) hm
 subst e
 cases r3
 exact wpAny_truthy_bool ⟨H3,I3,q3⟩
noncomputable def tChain(r r':R2)(ta tb tc:TE):TE:=fun σ H Q=>ta σ H fun x H1=>tb σ H1 fun y H2=>r x y H2 fun z H3=>∃ k,z = .bl k ∧
 (if k=true then tc σ H3 fun w' H4=>r' y w' H4 Q else Q (.bl false) H3)
theorem pe_chain{op op':CmpOp}{r r':R2}(ho:OpR X (compareOp op) r)(ho':OpR X (compareOp op') r')(ha:PE X a ta)(hb:PE X b tb)(hc:PE X c tc)
 (hm:lastMarks [op,op'] [b,c]=false:=by with_unfolding_all rfl):PE X (.Compare a [op,op'] [b,c] pos) (tChain r r' ta tb tc):=by
 intro pins s σ H Q I h
 refine Compare_chain (thn (ha pins s σ H _ I h) fun v s1 ⟨x,H1,I1,r1,q1⟩=>chain_link (thn (hb pins s1 σ H1 _ I1 q1) fun u s2 ⟨y,H2,I2,r2,q2⟩ =>
  thn (ho pins s2 σ H2 x y v u _ I2 r1 r2 q2) fun d s3 ⟨z,H3,I3,r3,k,e,q3⟩ => ?_)) hm
 subst e
 cases r3
 refine wpAny_truthy_bool ?_
 cases k with
 |false=>exact ite_ff ⟨.bl false,H3,I3,rfl,q3⟩
 |true=>exact ite_tt (chain_last (thn (hc pins s3 σ H3 _ I3 q3) fun w' s4 ⟨z',H4,I4,r4,q4⟩=>ho' pins s4 σ H4 y z' u w' Q I4 r2 r4 q4))
theorem pt_chain{op op':CmpOp}{r r':R2}(ho:OpR X (compareOp op) r)(ho':OpR X (compareOp op') r')(ha:PE X a ta)(hb:PE X b tb)(hc:PE X c tc)
 (hm:lastMarks [op,op'] [b,c]=false:=by with_unfolding_all rfl):PT X (.Compare a [op,op'] [b,c] pos) (tTest (tChain r r' ta tb tc)):=by
 intro pins s σ H Q I h
 refine isTrue_chain (thn (ha pins s σ H _ I h) fun v s1 ⟨x,H1,I1,r1,q1⟩=>test_link (thn (hb pins s1 σ H1 _ I1 q1) fun u s2 ⟨y,H2,I2,r2,q2⟩ =>
  thn (ho pins s2 σ H2 x y v u _ I2 r1 r2 q2) fun d s3 ⟨z,H3,I3,r3,k,e,q3⟩ => ?_)) hm
 subst e
 cases r3
 refine wpAny_truthy_bool ?_
 cases k with
 |false =>
  obtain⟨k',e',q'⟩:=q3
  cases e'
  exact ite_ff ⟨H3,I3,q'⟩
 |true =>
  refine ite_tt (test_last (thn (hc pins s3 σ H3 _ I3 q3) fun w' s4 ⟨z',H4,I4,r4,q4⟩=>thn (ho' pins s4 σ H4 y z' u w' _ I4 r2 r4 q4) fun d' s5 ⟨z2,H5,I5,r5,k2,e2,q5⟩ => ?_))
  subst e2
  cases r5
  exact wpAny_truthy_bool ⟨H5,I5,q5⟩
noncomputable def TruV(K:PySem.W.Frag)(x:V)(H:Hp)(k:Bool):Prop :=
 match x with
 | .non=>k=false
 | .bl b=>k=b
 | .int i=>k=(i !=0)
 | .str y=>y.length<=sizeLine/\k=((y.length:Int) !=0)
 | .byt y=>y.size<=sizeLine/\k=((y.size:Int) !=0)
 | .ref p=>(∃ xs,SqL K H p xs/\k = !xs.isEmpty)\/(∃ xs,SqT K H p xs/\k = !xs.isEmpty)\/∃ kvs,H p=some (.dK kvs)/\k = !kvs.isEmpty
 |_=>False
theorem isEmpty_kv{κ:Type}{kvs:List (κ × V)}{vs:List (κ × Value)}(r:KV kvs vs):(!vs.isEmpty) = !kvs.isEmpty:=by
 cases r<;>rfl
theorem isEmpty_of{xs:List V}{its:List Value}(r:Vals xs its):(!its.toArray.isEmpty) = !xs.isEmpty:=by
 cases r<;>simp
theorem line63:(sizeLine:Nat)<2 ^ 63:=by rw[sizeLine_eq];decide
theorem tru_ok:TruR X (fun x H Q=>∃ k,TruV X.K x H k/\Q k H):=by
 intro pins s σ H x v Q I rx h
 obtain⟨k,e,q⟩:=h
 have hl:=line63
 have hs:sizeLine=16777216:=sizeLine_eq
 cases x with
 |non =>
  cases rx
  have e':k=false:=e
  subst e'
  exact truthy_none ⟨H,I,q⟩
 |bl b =>
  cases rx
  have e':k=b:=e
  subst e'
  exact wpAny_truthy_bool ⟨H,I,q⟩
 |int i =>
  obtain⟨t,rfl⟩:=rx
  have e':k=(i !=0):=e
  subst e'
  exact PySem.P.truthy_int ⟨H,I,q⟩
 |str y =>
  obtain⟨t,rfl⟩:=rx
  obtain⟨hy,e'⟩:y.length<=sizeLine/\k=((y.length:Int) !=0):=e
  subst e'
  exact PySem.P.truthy_str (by omega) ⟨H,I.tok _,q⟩
 |byt y =>
  obtain⟨t,rfl⟩:=rx
  obtain⟨hy,e'⟩:y.size<=sizeLine/\k=((y.size:Int) !=0):=e
  subst e'
  exact PySem.W.truthy_bytes (by omega) ⟨H,I.tok _,q⟩
 |ref p =>
  cases rx
  have e':(∃ xs,SqL X.K H p xs/\k = !xs.isEmpty)\/(∃ xs,SqT X.K H p xs/\k = !xs.isEmpty)\/∃ kvs,H p=some (.dK kvs)/\k = !kvs.isEmpty:=e
  rcases e' with⟨xs,hx,e'⟩ | ⟨xs,hx,e'⟩ | ⟨kvs,hx,e'⟩
  ·subst e'
   obtain⟨its,r,pl,hz⟩:=I.list hx
   have hlen:=r.length
   exact wpAny_truthy_list pl.isList (by simp only[List.size_toArray];omega) ⟨H,I.tok _,by rw[isEmpty_of r];exact q⟩
  ·subst e'
   obtain⟨its,r,pl,hz⟩:=I.tuple hx
   have hlen:=r.length
   exact truthy_tuple pl (by simp only[List.size_toArray];omega) ⟨H,I.tok _,by rw[isEmpty_of r];exact q⟩
  ·subst e'
   obtain⟨hz,hS,vs,r,m⟩:kvs.length<=sizeLine/\(p == sysModules)=false/\∃ vs,KV kvs vs/\s.heap.DictOf (mixKind X.prog X.w) p vs:=I.hok p _ hx
   have hlen:kvs.length=vs.length:=Paired.length r
   exact wpAny_truthy_dict hS m (by omega) ⟨H,I.tok _,by rw[isEmpty_kv r];exact q⟩
 |_=>exact(show False from e).elim
theorem pt_truth(ha:PE X a ta)(he:∀ whole,isTrue a X.env whole=(do let v ← whole;standAt a.pos;holding [v] (truthy v))) :
 PT X a (fun σ H Q=>ta σ H fun x H'=>∃ k,TruV X.K x H' k/\Q k H'):=by
 intro pins s σ H Q I h
 exact isTrue_plain (thn (ha pins s σ H _ I h) fun v s1 ⟨x,H1,I1,r1,q1⟩=>tru_ok pins s1 σ H1 x v Q I1 r1 q1) (he _)
theorem op_add_str:OpR X (binaryOp .Add) (fun x y H Q=>∃ i j,x = .str i/\y = .str j/\i.length+j.length<=sizeLine/\Q (.str (i++j)) H):=by
 intro pins s σ H x y v u Q I rx ry h
 obtain⟨i,j,rfl,rfl,hz,q⟩:=h
 obtain⟨t,rfl⟩:=rx
 obtain⟨t',rfl⟩:=ry
 exact add_str (fun t' tk=>⟨.str (i++j),H,I.tok _,⟨_,rfl⟩,q⟩) hz
theorem vals1{x:V}{us:List Value}(r:Vals [x] us):∃ u,us=[u]/\RelV x u:=by
 cases r with
 |cons r1 r2=>cases r2;exact⟨_,rfl,r1⟩
theorem vals2{x y:V}{us:List Value}(r:Vals [x,y] us):∃ u w',us=[u,w']/\RelV x u/\RelV y w':=by
 cases r with
 |cons r1 r2 =>
  cases r2 with
  |cons r3 r4=>cases r4;exact⟨_,_,rfl,r1,r3⟩
theorem call_str_int:CallR X (.type "str") (fun xs H Q=>∃ i,xs=[.int i]/\i.natAbs.log2<1920/\Q (.str (toString i)) H):=by
 intro pins s σ H xs us Q I r h
 obtain⟨i,rfl,hz,q⟩:=h
 obtain⟨u,rfl,t,rfl⟩:=vals1 r
 exact PySem.P.str_of_int hz ⟨.str _,H,I.tok _,⟨_,rfl⟩,q⟩
noncomputable def LenV(K:PySem.W.Frag)(x:V)(H:Hp)(n:Nat):Prop :=
 match x with
 | .str y=>y.length<=sizeLine/\n=y.length
 | .byt y=>y.size<=sizeLine/\n=y.size
 | .ref p=>(∃ xs,SqL K H p xs/\n=xs.length)\/∃ xs,SqT K H p xs/\n=xs.length
 |_=>False
theorem call_len:CallR X (.builtin "len") (fun xs H Q=>∃ x n,xs=[x]/\LenV X.K x H n/\Q (.int n) H):=by
 intro pins s σ H xs us Q I r h
 obtain⟨x,n,rfl,e,q⟩:=h
 obtain⟨u,rfl,rx⟩:=vals1 r
 have hl:=line63
 have hs:sizeLine=16777216:=sizeLine_eq
 cases x with
 |str y =>
  obtain⟨t,rfl⟩:=rx
  obtain⟨hy,e'⟩:y.length<=sizeLine/\n=y.length:=e
  subst e'
  exact len_str (by omega) ⟨.int _,H,I.tok _,⟨_,rfl⟩,q⟩
 |byt y =>
  obtain⟨t,rfl⟩:=rx
  obtain⟨hy,e'⟩:y.size<=sizeLine/\n=y.size:=e
  subst e'
  exact PySem.W.len_bytes (by omega) ⟨.int _,H,I.tok _,⟨_,rfl⟩,q⟩
 |ref p =>
  cases rx
  have e':(∃ xs,SqL X.K H p xs/\n=xs.length)\/∃ xs,SqT X.K H p xs/\n=xs.length:=e
  rcases e' with⟨xs,hx,e'⟩ | ⟨xs,hx,e'⟩
  ·subst e'
   obtain⟨its,r',pl,hz⟩:=I.list hx
   have hlen:=r'.length
   exact Calls.call_len_list pl.isList (by simp only[List.size_toArray];omega) ⟨.int xs.length,H,I.tok _,⟨_,by simp only[List.size_toArray];rw[hlen]⟩,q⟩
  ·subst e'
   obtain⟨its,r',pl,hz⟩:=I.tuple hx
   have hlen:=r'.length
   exact len_tuple pl (by simp only[List.size_toArray];omega) ⟨.int xs.length,H,I.tok _,⟨_,by simp only[List.size_toArray];rw[hlen]⟩,q⟩
 |_=>exact(show False from e).elim
end
end L2
namespace L2
open PySem PySem.Spec PyProof.Rows
structure ObjM(h:Heap)(x dx C:Addr)(mA:Str->Option Value):Prop where
 obj:h.get? x=some (PySem.W.instObj C dx)
 ns:h.Ns1 dx mA
 ne:dx≠x
theorem lookIn_ns{h:Heap}{dx:Addr}{mA:Str->Option Value}(n:h.Ns1 dx mA):∃ od,h.get? dx=some od/\∀ name,PySem.W.lookIn name od=some (mA name):=by
 obtain⟨o,es,ep,ho,hd,hk,_,hm⟩:=n
 refine⟨o,ho,fun name => ?_⟩
 have e:=hm name
 unfold nsFind findBy at e
 rw[← Array.find?_toList] at e
 unfold PySem.W.lookIn
 rw[hd]
 dsimp only
 split
 ·rename_i y q
  rw[q] at e
  exact congrArg some e
 ·rename_i q
  rw[q] at e
  have a:es.toList.any (·.refKey)=false:=by
   rw[List.any_eq_false]
   intro y hy
   obtain⟨z,t,hkey⟩:=hk y (Array.mem_toList_iff.mp hy)
   simp[DictEntry.refKey,hkey]
  have a':¬ es.toList.any (·.refKey)=true:=by rw[a];exact Bool.false_ne_true
  rw[if_neg a']
  exact congrArg some e
theorem ObjM.look{h:Heap}{x dx C:Addr}{mA:Str->Option Value}(I:ObjM h x dx C mA):∃ od,PySem.W.InstAt h x (PySem.W.instObj C dx) C (some od)/\∀ name,PySem.W.lookIn name od=some (mA name) :=
 let ⟨od,ho,hl⟩:=lookIn_ns I.ns
 ⟨od,⟨I.obj,rfl,rfl,ho⟩,hl⟩
section
variable {prog:Program}{w:World}{A:Around}{E:Value->Shared->Prop}{s:Shared}{K:PySem.W.Frag}{x dx C f:Addr}{mA:Str->Option Value}{name:Str}{v:Value}
end
section
variable {P:Program}{w:World}{H H':Hp}{h h':Heap}{a C dx:Addr}{fs fs':List (Str × V)}
theorem ins_get(hok:HOk P w H h)(e:H a=some (.ins C dx fs)):∃ mA,ObjM h a dx C mA/\(∀ f,RelO (fs.lookup f) (mA f))/\PySem.Within mA (fs.map (·.1))/\fs.length<=1000/\H dx=some (.own a):=by
 obtain⟨d,z,ne,ob,mA,n,r,q⟩:=(show ObjOk P w H h a (.ins C dx fs) from hok a _ e)
 exact⟨mA,⟨ob,n,ne⟩,r,q,z,d⟩
end
structure Cls(K:PySem.W.Frag)(C:Addr):Prop where
 pg:PySem.W.plainGet K C Str.empty=true
 hd:PySem.W.hasDictIn K C=true
 po:PySem.W.plainOver K C=true
 sa:PySem.W.findIn K (.ref C) "__setattr__"=some (some (.builtin "object.__setattr__"))
theorem Cls.get{K:PySem.W.Frag}{C:Addr}(c:Cls K C)(f:Str):PySem.W.plainGet K C f=true:=c.pg
structure Con(K:PySem.W.Frag)(C:Addr)(f:Str)(v:V)(u:Value):Prop where
 at_:PySem.W.findIn K (.ref C) f=some (some u)
 rel:RelV v u
 get:PySem.W.specialIn K u "__get__"=some none
 cp:PySem.W.copiedNames.contains f=false
structure Meth(K:PySem.W.Frag)(C:Addr)(m:Str)(f:Addr):Prop where
 at_:PySem.W.findIn K (.ref C) m=some (some (.ref f))
 fn:PySem.W.isFn K (.ref f)=true
 kp:PySem.W.keepIn K (.ref f)=true
section
variable {X:Cx}{pins:List (Addr × Obj)}{σ:St}{H:Hp}{s:Shared}{a C dx:Addr}{fs:List (Str × V)}{f:Str}{v:V}{A:Around}{E:Value->Shared->Prop}
theorem Inv.made(I:Inv X pins σ H s):Inv X pins σ (upd (upd H s.heap.objs.size (.own (s.heap.objs.size+1))) (s.heap.objs.size+1) (.ins C s.heap.objs.size []))
 {s with heap:=(s.heap.push PySem.W.emptyDict).push (PySem.W.instObj C s.heap.objs.size)}:=by
 have e1:(s.heap.push PySem.W.emptyDict).get? s.heap.objs.size=some PySem.W.emptyDict:=Heap.get?_push_size s.heap rfl
 have e2:((s.heap.push PySem.W.emptyDict).push (PySem.W.instObj C s.heap.objs.size)).get? (s.heap.objs.size+1)=some (PySem.W.instObj C s.heap.objs.size):=by
  have:=Heap.get?_push_size (s.heap.push PySem.W.emptyDict) (o:=PySem.W.instObj C s.heap.objs.size) rfl
  rwa [Heap.size_push] at this
 have e3:(s.heap.push PySem.W.emptyDict).Ns s.heap.objs.size (fun _=>none):=⟨PySem.W.emptyDict, #[],_,e1,rfl,(fun e he=>absurd he (by simp)),fun _=>rfl⟩
 have I1:=I.laid (a:=s.heap.objs.size) (o:=.own (s.heap.objs.size+1)) (h':=s.heap.push PySem.W.emptyDict) (t':=s.toks) (fun b u q=>Heap.get?_push_of_some _ q) (Nat.le_refl _) ⟨_,e1⟩
 refine I1.laid (a:=s.heap.objs.size+1) (o:=.ins C s.heap.objs.size []) (t':=s.toks) (fun b u q=>Heap.get?_push_of_some _ q) (Nat.le_of_eq (Heap.size_push _ _)) ?_
 have ne:s.heap.objs.size≠s.heap.objs.size+1:=Nat.ne_of_lt (Nat.lt_succ_self _)
 refine⟨by rw[upd_ne ne,upd_same],Nat.zero_le _,ne,e2,fun _=>none,(Heap.Ns1.of_empty e3).at fun o q=>Heap.get?_push_of_some _ q,fun _=>True.intro,fun y hy=>absurd rfl hy⟩
end
section
variable {X:Cx}{o e value:Expr}{f:Str}{pos pos' tpos:Pos}{ta tv:TE}
end
section
variable {X:Cx}{pins:List (Addr × Obj)}{σ:St}{H:Hp}{s:Shared}{A:Around}{E:Value->Shared->Prop}{Q:Value->Shared->Prop}{c:Value}{b:Bool}
inductive TyOf (K:PySem.W.Frag) (H:Hp):V->Value->Prop where
 |non:TyOf K H .non (.type "NoneType")
 |bl (x:Bool):TyOf K H (.bl x) (.type "bool")
 |int (i:Int):TyOf K H (.int i) (.type "int")
 |str (x:Str):TyOf K H (.str x) (.type "str")
 |flt (x:UInt64):TyOf K H (.flt x) (.type "float")
 |lst {a:Addr} {xs:List V} (e:H a=some (.lst xs)):TyOf K H (.ref a) (.type "list")
 |frz {a:Addr} {o:Obj} {xs:List V} (e:H a=some (.frz o (.lst xs))):TyOf K H (.ref a) (.type "list")
 |tup {a:Addr} {xs:List V} (e:H a=some (.tup xs)):TyOf K H (.ref a) (.type "tuple")
 |dK {a:Addr} {kvs:List (Key × V)} (e:H a=some (.dK kvs)):TyOf K H (.ref a) (.type "dict")
 |dT {a:Addr} {kvs:List (List Key × V)} (e:H a=some (.dT kvs)):TyOf K H (.ref a) (.type "dict")
 |ins {a C dx:Addr} {fs:List (Str × V)} (e:H a=some (.ins C dx fs)) (cl:Cls K C) (ha:PySem.W.findIn K (.ref C) "__class__"=some (some (.builtin "object.__class__")))
  (hn:PySem.W.specialIn K (.builtin "object.__class__") "__get__"=some (some (.builtin "getset_descriptor.__get__"))) (htk:PySem.W.takesIn K (.builtin "object.__class__")=some true)
  (hm:PySem.W.mroIn K C (.type "object")=some true):TyOf K H (.ref a) (.ref C)
theorem isinst_ok{x:V}{u t:Value}(I:Inv X pins σ H s)(rx:RelV x u)(ty:TyOf X.K H x t)(e:PySem.W.kitOne X.K t c=some b)(h:∀ tk,Q (.bool b) {s with toks:=tk}) :
 wpAny (model X.prog X.w) A (call (.builtin "isinstance") [u,c]) Q E s:=by
 cases ty with
 |non=>cases(show u=Value.none from rx);exact PySem.W.kia_one PySem.W.kitx_none I.kIn True.intro e (fun z=>nomatch z) h
 |bl y=>cases(show u=Value.bool y from rx);exact PySem.W.kia_one PySem.W.kitx_bool I.kIn True.intro e (fun z=>nomatch z) h
 |int i=>obtain⟨t,q⟩:=(show ∃ t,u=Value.int i t from rx);cases q;exact PySem.W.kia_one PySem.W.kitx_int I.kIn True.intro e (fun z=>nomatch z) h
 |str y=>obtain⟨t,q⟩:=(show ∃ t,u=Value.str y t from rx);cases q;exact PySem.W.kia_one PySem.W.kitx_str I.kIn True.intro e (fun z=>nomatch z) h
 |flt y=>obtain⟨t,q⟩:=(show ∃ t,u=Value.float y t from rx);cases q;exact PySem.W.kia_one PySem.W.kitx_float I.kIn True.intro e (fun z=>nomatch z) h
 | @lst a xs ea =>
  cases(show u=Value.ref a from rx)
  obtain⟨_,_,n,_,h1⟩:=(show ObjOk X.prog X.w H s.heap a (.lst xs) from I.hok a _ ea)
  exact PySem.W.kia_one PySem.W.kitx_list I.kIn ⟨_,h1,rfl⟩ e (fun z=>nomatch z) h
 | @frz a ob xs ea =>
  cases(show u=Value.ref a from rx)
  obtain⟨_,_,_,n,_,h1⟩:=(show ObjOk X.prog X.w H s.heap a (.frz ob (.lst xs)) from I.hok a _ ea)
  exact PySem.W.kia_one PySem.W.kitx_list I.kIn ⟨_,h1,rfl⟩ e (fun z=>nomatch z) h
 | @tup a xs ea =>
  cases(show u=Value.ref a from rx)
  obtain⟨_,_,_,p⟩:=(show ObjOk X.prog X.w H s.heap a (.tup xs) from I.hok a _ ea)
  obtain⟨o,h1,h2,_⟩:=p
  exact PySem.W.kia_one PySem.W.kitx_tuple I.kIn ⟨o,h1,h2⟩ e (fun z=>nomatch z) h
 | @dK a kvs ea =>
  cases(show u=Value.ref a from rx)
  obtain⟨_,_,vs,_,p⟩:=(show ObjOk X.prog X.w H s.heap a (.dK kvs) from I.hok a _ ea)
  obtain⟨o,es,ep,h1,h2,_⟩:=p
  exact PySem.W.kia_one PySem.W.kitx_dict I.kIn ⟨o,h1,h2.1⟩ e (fun z=>nomatch z) h
 | @dT a kvs ea =>
  cases(show u=Value.ref a from rx)
  obtain⟨_,_,xs,_,o,es,ep,h1,h2,_⟩:=(show ObjOk X.prog X.w H s.heap a (.dT kvs) from I.hok a _ ea)
  exact PySem.W.kia_one PySem.W.kitx_dict I.kIn ⟨o,h1,h2.1⟩ e (fun z=>nomatch z) h
 | @ins a C dx fs ea cl ha hn htk hm =>
  cases(show u=Value.ref a from rx)
  obtain⟨mA,O,_⟩:=ins_get I.hok ea
  obtain⟨od,J,_⟩:=O.look
  exact PySem.W.kia_one (PySem.W.kitx_own (cl.get _) cl.hd ha hn htk hm) I.kIn J e (fun z=>nomatch z) h
end
end L2
namespace L2
open PySem PySem.Spec PyProof.Rows
structure Room(k:Nat)(A:Around):Prop where
 hd:A.handled=none
 dp:A.depth+3*k+5<recursionLimit
 un:A.units+16*k+200<cLine
theorem Room.deeper{k:Nat}{A:Around}(r:Room (k+1) A)(env:Env):Room k (A.deeper env) :=
 ⟨r.hd,by have:=r.dp;show A.depth+1+3*k+5<_;omega,by have:=r.un;show A.units+3+16*k+200<_;omega⟩
theorem Room.depth{k:Nat}{A:Around}(r:Room k A):A.depth<recursionLimit:=by have:=r.dp;omega
theorem Room.units{k:Nat}{A:Around}(r:Room k A):A.units+64<cLine:=by have:=r.un;omega
noncomputable def tNil:TA:=fun _ H Q=>Q [] H
noncomputable def tCons(ta:TE)(tr:TA):TA:=fun σ H Q=>ta σ H fun x H1=>tr σ H1 fun xs H2=>Q (x::xs) H2
section
variable {X:Cx}{e:Expr}{es:List Expr}{te:TE}{t:TA}{pos:Pos}
theorem pa_nil:PA X [] tNil:=fun _ _ _ _ H Q I h=>Calls.spliced_nil ⟨[],H,I,.nil,h⟩
theorem pa_cons(ha:PE X e te)(hr:PA X es t)(hs:starEach (e::es) X.env=(false,eval e X.env)::starEach es X.env:=by rfl):PA X (e::es) (tCons te t):=by
 intro pos pins s σ H Q I h
 rw[hs]
 show wpAny _ _ (spliced ((false,eval e X.env)::backTo pos (starEach es X.env))) _ _ s
 refine Calls.spliced_cons (thn (ha pins s σ H _ I h) fun u s1 ⟨x,H1,I1,r1,q1⟩ => ?_)
 exact thn (hr pos pins s1 σ H1 _ I1 q1) fun us s2 ⟨xs,H2,I2,r2,q2⟩=>⟨x::xs,H2,I2,.cons r1 r2,q2⟩
noncomputable def tTup(t:TA):TE:=fun σ H Q=>t σ H fun xs H1=>xs.length<=sizeLine/\∀ p,H1 p=none->Q (.ref p) (upd H1 p (.tup xs))
noncomputable def tLst(t:TA):TE:=fun σ H Q=>t σ H fun xs H1=>xs.length<=sizeLine/\∀ p,H1 p=none->Q (.ref p) (upd H1 p (.lst xs))
theorem pe_tup{x1}(h:PA X es t):PE X (.Tuple es x1 pos) (tTup t):=by
 intro pins s σ H Q I hq
 refine wpAny_Tuple_spliced (thn (h pos pins s σ H _ I hq) fun us s1 ⟨xs,H1,I1,r,z,q⟩=>⟨by rw[← r.length];exact z,?_⟩)
 have hf:H1 s1.heap.objs.size=none:=I1.hok.fresh (Nat.le_refl _)
 refine⟨.ref s1.heap.objs.size,upd H1 s1.heap.objs.size (.tup xs),I1.laid (t':=s1.toks) (fun b u e=>Heap.get?_push_of_some _ e) (Nat.le_refl _) ?_,rfl,q _ hf⟩
 exact⟨z,us,r,⟨_,Heap.get?_push_size _ rfl,rfl,_,rfl⟩⟩
theorem pe_lst(h:PA X es t):PE X (.List es pos) (tLst t):=by
 intro pins s σ H Q I hq
 refine wpAny_List_spliced (thn (h pos pins s σ H _ I hq) fun us s1 ⟨xs,H1,I1,r,z,q⟩=>⟨by rw[← r.length];exact z,?_⟩)
 have hf:H1 s1.heap.objs.size=none:=I1.hok.fresh (Nat.le_refl _)
 refine⟨.ref s1.heap.objs.size,upd H1 s1.heap.objs.size (.lst xs),I1.laid (t':=s1.toks) (fun b u e=>Heap.get?_push_of_some _ e) (Nat.le_refl _) ?_,rfl,q _ hf⟩
 exact⟨z,us,0,r,Heap.get?_push_size _ rfl⟩
end
noncomputable abbrev Sp:=List V->Hp->VK->XK->Prop
noncomputable abbrev CXT:=List Env->Hp->Shared->XK->Value->Shared->Prop
structure Env0(P:Program)(w:World)(K:PySem.W.Frag)(mg:Str->Option Value)(base:Heap)(A:Around)(outer:List Env)(s:Shared)(H:Hp):Prop where
 frames:A.frames=some outer
 mod:Mod K mg base
 bs:∀ b o,base.get? b=some o->s.heap.get? b=some o/\H b=none
 bsz:base.objs.size<=s.heap.objs.size
 funs:s.heap.FunFrames base outer
 frf:∀ b∈frs outer,H b=none
 hok:HOk P w H s.heap
 bare:AllBare s.gens
inductive CE (outer:List Env) (P:Program) (w:World) (H:Hp) (s:Shared) (Q:VK) (u:Value) (s':Shared):Prop
 |mk (v:V) (H':Hp) (o:s'.os=s.os) (g:AllBare s'.gens) (un:Un (frs outer) [] H H' s.heap s'.heap) (k:HOk P w H' s'.heap) (r:RelV v u) (q:Q v H')
noncomputable def CR(CX:CXT)(outer:List Env)(P:Program)(w:World)(H:Hp)(s:Shared)(Q:VK)(E:XK)(r:Result)(s':Shared):Prop :=
 match r with
 | .ok (.ret u)=>CE outer P w H s Q u s'
 | .ok _=>False
 | .error e=>CX outer H s E e s'
structure FnOk(P:Program)(w:World)(K:PySem.W.Frag)(mg:Str->Option Value)(base:Heap)(CX:CXT)(k:Nat)(f:Addr)(fd:FuncData)(ps:List Str)(sp:Sp):Prop where
 len:∀ vs H Q E,sp vs H Q E->vs.length=ps.length
 run:∀ (A:Around) (outer:List Env) (s:Shared) (H:Hp) (args:Args) (us:List Value) (vs:List V) (Q:VK) (E:XK),Room k A->Env0 P w K mg base A outer s H->BindsTo s fd args (ps.zip us)->Vals vs us->sp vs H Q E →
  codeAny (model P w) A (.call (.ref f) args) (CR CX outer P w H s Q E) s
theorem FnOk.imp{P:Program}{w:World}{K:PySem.W.Frag}{mg:Str->Option Value}{base:Heap}{CX:CXT}{k:Nat}{f:Addr}{fd:FuncData}{ps:List Str}{sp sp':Sp}(F:FnOk P w K mg base CX k f fd ps sp)
 (h:∀ vs H Q E,sp' vs H Q E->sp vs H Q E):FnOk P w K mg base CX k f fd ps sp' :=
 ⟨fun vs H Q E q=>F.len vs H Q E (h _ _ _ _ q),fun A outer s H args us vs Q E hr he hb hv hs=>F.run A outer s H args us vs Q E hr he hb hv (h _ _ _ _ hs)⟩
section
variable {X:Cx}{pins:List (Addr × Obj)}{σ:St}{H:Hp}{s s':Shared}
theorem Inv.env0(I:Inv X pins σ H s):Env0 X.prog X.w X.K X.mg X.base X.A X.stack s H :=
 ⟨I.ok.frames,I.ok.mod,I.bs,Nat.le_trans I.ok.bsz I.sz,I.stack,I.stkFree,I.hok,I.bare⟩
theorem Inv.after{Q:VK}{u:Value}(I:Inv X pins σ H s)(h:CE X.stack X.prog X.w H s Q u s'):EP X pins σ Q u s':=by
 obtain⟨v,H',os,bare,un,hok,r,q⟩:=h
 obtain⟨hh,g,d,t,os'⟩:=s'
 obtain rfl:os'=s.os:=os
 exact⟨v,H',I.call (h':=hh) (g':=g) (d':=d) (t':=t) (ch:=[]) un hok bare (fun b z=>absurd z (by simp)),r,q⟩
end
noncomputable def tCall(sp:Sp)(dvs:List V)(E:XK)(t:TA):TE:=fun σ H Q=>t σ H fun vs H1=>sp (vs++dvs) H1 Q E
noncomputable def Binds(K:PySem.W.Frag)(fd:FuncData)(ps:List Str)(ds:List Value):Prop :=
 ∀ (s:Shared) (us:List Value),K.In s.heap->(us++ds).length=ps.length->BindsTo s fd ⟨us,[]⟩ (ps.zip (us++ds))
theorem Binds.all{K:PySem.W.Frag}{fd:FuncData}{ps:List Str}(h:∀ us:List Value,us.length=ps.length->bindArgs fd ⟨us,[]⟩=pure (ps.zip us)):Binds K fd ps []:=fun s us _ hl=>by
 rw[List.append_nil] at hl ⊢
 exact .of_eq (h us hl)
noncomputable def Passes(CX:CXT)(X:Cx)(E:XK):Prop:=∀ (pins:List (Addr × Obj)) (σ:St) (H:Hp) (s:Shared) (e:Value) (s':Shared),Inv X pins σ H s->CX X.stack H s E e s'->X.xe e s'
section
variable {X:Cx}{CX:CXT}{k:Nat}{f C:Addr}{fd:FuncData}{ps:List Str}{sp:Sp}{dvs:List V}{ds:List Value}{E:XK}{x m:Str}{p pos apos:Pos}{e o:Expr}{es:List Expr}{ta:TE}{t:TA}
theorem run_fn{pins:List (Addr × Obj)}{σ:St}{H:Hp}{s:Shared}{Q:VK}{us:List Value}{vs:List V}(F:FnOk X.prog X.w X.K X.mg X.base CX k f fd ps sp)(hr:Room k X.A)(hb:Binds X.K fd ps ds)(hd:Vals dvs ds)(hx:Passes CX X E)
 (I:Inv X pins σ H s) (r:Vals vs us) (h:sp (vs++dvs) H Q E):wpAny (model X.prog X.w) X.A (call (.ref f) us) (EP X pins σ Q) X.xe s:=by
 have r2:Vals (vs++dvs) (us++ds):=r.append hd
 have hl:(us++ds).length=ps.length:=by rw[← r2.length];exact F.len _ _ _ _ h
 refine wpAny_call (codeAny_mono (F.run X.A X.stack s H ⟨us,[]⟩ (us++ds) (vs++dvs) Q E hr I.env0 (hb s us I.kIn hl) r2 h) fun r s' hq => ?_)
 cases r with
 |error e=>exact hx pins σ H s e s' I hq
 |ok fl =>
  cases fl with
  |ret u=>exact I.after hq
  |next=>exact False.elim hq
  |brk=>exact False.elim hq
  |cont=>exact False.elim hq
theorem pe_call(F:FnOk X.prog X.w X.K X.mg X.base CX k f fd ps sp)(hr:Room k X.A)(hg:Gl X x)(hm:X.mg x=some (.ref f))(hk:PySem.W.keepIn X.K (.ref f)=true)(hb:Binds X.K fd ps ds)(hd:Vals dvs ds)(hx:Passes CX X E)
 (ha:PA X (e::es) t) (hdb:(x == ("__debug__":Str))=false:=by decide) (he:starEach (e::es) X.env=(false,eval e X.env)::starEach es X.env:=by rfl) (hpl:(backTo pos (starEach es X.env)).any (·.1)=false:=by rfl) :
 PE X (.Call (.Name x p) (e::es) [] pos) (tCall sp dvs E t):=by
 intro pins s σ H Q I h
 refine wpAny_Call_Name_kw (ld_glob I hg hm ?_ hdb)
 refine PySem.W.callWith_K (h₀:=X.base) I.ok.mod.kin hk (thn (ha pos pins s σ H _ I h) fun us s1 ⟨vs,H1,I1,r,q⟩=>⟨I1.kIn,?_⟩) he hpl
 exact run_fn F hr hb hd hx I1 r q
theorem pe_call0(F:FnOk X.prog X.w X.K X.mg X.base CX k f fd ps sp)(hr:Room k X.A)(hg:Gl X x)(hm:X.mg x=some (.ref f))(hk:PySem.W.keepIn X.K (.ref f)=true)(hb:Binds X.K fd ps ds)(hd:Vals dvs ds)(hx:Passes CX X E)
 (hdb:(x == ("__debug__":Str))=false:=by decide):PE X (.Call (.Name x p) [] [] pos) (tCall sp dvs E tNil):=by
 intro pins s σ H Q I h
 refine wpAny_Call_Name_kw (ld_glob I hg hm ?_ hdb)
 exact PySem.W.callWith_K0 I.kIn hk (run_fn (us:=[]) F hr hb hd hx I .nil h)
structure Mk(K:PySem.W.Frag)(C f:Addr):Prop where
 makes:PySem.W.makesIn K C=true
 init:PySem.W.findIn K (.ref C) "__init__"=some (some (.ref f))
 fn:PySem.W.isFn K (.ref f)=true
 kp:PySem.W.keepIn K (.ref C)=true
end
section
variable {X:Cx}{CX:CXT}{k:Nat}{f C:Addr}{fd:FuncData}{ps ks:List Str}{sp:Sp}{E:XK}{x m:Str}{p pos apos kpos:Pos}{e o:Expr}{es:List Expr}{kws:List Keyword}{te ta:TE}{t tk:TA}{nm:Option Str}
structure KBinds(K:PySem.W.Frag)(fd:FuncData)(ps ks:List Str)(g:List Value->List Value->List Value)(gV:List V->List V->List V):Prop where
 to:∀ (s:Shared) (us ws:List Value),K.In s.heap->(g us ws).length=ps.length->BindsTo s fd ⟨us,ks.zip ws⟩ (ps.zip (g us ws))
 rel:∀ {vs:List V} {us:List Value} {zs:List V} {ws:List Value},Vals vs us->Vals zs ws->Vals (gV vs zs) (g us ws)
variable {g:List Value->List Value->List Value}{gV:List V->List V->List V}
end
structure FnScope(N P:List Str)(sc:Scope):Prop where
 kind:sc.kind = .function
 co:sc.isCoroutine=false
 gen:sc.isGenerator=false
 nd:N.Nodup
 pre:N.take P.length=P
 par:∀ x∈P,sc.names.lookup x=some .local\/sc.names.lookup x=some .cell
 nofree:∀ y∈sc.names,y.2 ≠ .free
theorem bindL_out{kindOf:Str->Option NameKind}{x:Str}:∀ {binds:List (Str × Value)} {m:Str->Option Value},(∀ v,(x,v)∉binds)->bindL kindOf binds m x=m x
 | [],_,_=>rfl
 | (n,v)::r,m,h=>by
  unfold bindL
  rw[bindL_out fun w hw=>h w (List.mem_cons_of_mem _ hw)]
  split
  ·have:x≠n:=by rintro rfl;exact h v List.mem_cons_self
   simp[this]
  ·rfl
theorem bindC_out{kindOf:Str->Option NameKind}{x:Str}:∀ {binds:List (Str × Value)} {m:Str->Option Value},(∀ v,(x,v)∉binds)->bindC kindOf binds m x=m x
 | [],_,_=>rfl
 | (n,v)::r,m,h=>by
  unfold bindC
  rw[bindC_out fun w hw=>h w (List.mem_cons_of_mem _ hw)]
  split
  ·rfl
  ·have:x≠n:=by rintro rfl;exact h v List.mem_cons_self
   simp[this]
theorem bindL_get{kindOf:Str->Option NameKind}{x:Str}{v:Value}:∀ {P:List Str} {vs:List Value} {i:Nat} {m:Str->Option Value},P.Nodup->P[i]?=some x->vs[i]?=some v->kindOf x=some .local →
 bindL kindOf (P.zip vs) m x=some v
 | [],_,_,_,_,h,_,_=>by simp at h
 |_::_,[],_,_,_,_,h,_=>by simp at h
 |p::P,w::vs,0,m,nd,h1,h2,hk=>by
  simp at h1 h2;subst h1;subst h2
  show bindL kindOf ((p,w)::P.zip vs) m p=_
  unfold bindL
  rw[bindL_out fun v hv=>(List.nodup_cons.mp nd).1 (List.of_mem_zip hv).1,if_pos hk]
  simp
 |p::P,w::vs,i+1,m,nd,h1,h2,hk=>by
  show bindL kindOf ((p,w)::P.zip vs) m x=_
  unfold bindL
  exact bindL_get (i:=i) (List.nodup_cons.mp nd).2 (by simpa using h1) (by simpa using h2) hk
theorem bindC_get{kindOf:Str->Option NameKind}{x:Str}{v:Value}:∀ {P:List Str} {vs:List Value} {i:Nat} {m:Str->Option Value},P.Nodup->P[i]?=some x->vs[i]?=some v->kindOf x≠some .local →
 bindC kindOf (P.zip vs) m x=some v
 | [],_,_,_,_,h,_,_=>by simp at h
 |_::_,[],_,_,_,_,h,_=>by simp at h
 |p::P,w::vs,0,m,nd,h1,h2,hk=>by
  simp at h1 h2;subst h1;subst h2
  show bindC kindOf ((p,w)::P.zip vs) m p=_
  unfold bindC
  rw[bindC_out fun v hv=>(List.nodup_cons.mp nd).1 (List.of_mem_zip hv).1,if_neg hk]
  simp
 |p::P,w::vs,i+1,m,nd,h1,h2,hk=>by
  show bindC kindOf ((p,w)::P.zip vs) m x=_
  unfold bindC
  exact bindC_get (i:=i) (List.nodup_cons.mp nd).2 (by simpa using h1) (by simpa using h2) hk
noncomputable def start(N:List Str)(vs:List V):St:=vs.map some++List.replicate (N.length-vs.length) none
noncomputable def cxOf(CX:CXT)(P:Program)(w:World)(K:PySem.W.Frag)(mg:Str->Option Value)(base:Heap)(N:List Str)(qual:Str)(scope:Scope)(f:Addr)(cd:Value)(A:Around)(outer:List Env)(s:Shared)(H:Hp)(E:XK):Cx where
 prog:=P
 w:=w
 K:=K
 mg:=mg
 base:=base
 A:=A.deeper (envOfC qual scope s.heap.objs.size f cd)
 N:=N
 s₀:=s
 H₀:=H
 env:=envOfC qual scope s.heap.objs.size f cd
 outer:=outer
 stack:=envOfC qual scope s.heap.objs.size f cd::outer
 ex:=[]
 calm:=true
 fn:=fun _=>true
 pn:=[]
 xe:=fun e s'=>wpAny (model P w) (A.deeper (envOfC qual scope s.heap.objs.size f cd)) (leaving (envOfC qual scope s.heap.objs.size f cd) e) (fun _ s''=>CX outer H s E e s'') (fun e' s''=>CX outer H s E e' s'') s'
theorem cell_has{sc:Scope}{n:Nat}{x:Str}(h:sc.names.lookup x=some .cell):∃ c,(cellsFrom n sc.names []).lookup x=some c:=by
 have q:=PySem.W.cellsFrom_some sc.names n [] (.inl h)
 exact Option.isSome_iff_exists.mp q
theorem inv_start{CX:CXT}{P:Program}{w:World}{K:PySem.W.Frag}{mg:Str->Option Value}{base:Heap}{N ps:List Str}{qual:Str}{scope:Scope}{f:Addr}{cd:Value}{A:Around}{outer:List Env}{s s1:Shared}{H:Hp}{E:XK}{us:List Value}{vs:List V}
 (S:FnScope N ps scope) (hd:A.handled=none) (e0:Env0 P w K mg base A outer s H) (hl:vs.length=ps.length) (r:Vals vs us)
 (x:InCallC s s.heap.objs.size (bindL (envOfC qual scope s.heap.objs.size f cd).kindOf (ps.zip us) fun _=>none) (cellsFrom (s.heap.objs.size+1) scope.names []) (bindC (envOfC qual scope s.heap.objs.size f cd).kindOf (ps.zip us) fun _=>none) s1) :
 Inv (cxOf CX P w K mg base N qual scope f cd A outer s H E) [] (start N vs) H s1:=by
 have hpl:ps.length<=N.length:=by have:=congrArg List.length S.pre;rw[List.length_take] at this;omega
 obtain⟨h1,tk,rfl,hk⟩:=x.done
 have noA:∀ b:Addr,b∉(cxOf CX P w K mg base N qual scope f cd A outer s H E).ex:=fun b z=>absurd (show b∈([]:List Addr) from z) (by simp)
 refine⟨⟨e0.mod,S.kind,rfl,rfl,Nat.le_refl _,fun y z c h1 h2 => ?_,fun y hy => ?_,fun y c _ h => ?_,fun _=>hd,Around.frames_deeper e0.frames,.inr ⟨rfl,rfl⟩,fun b z=>absurd z (noA b),e0.bs,e0.bsz,fun b _ _=>noA b,fun b z=>absurd z (noA b),e0.funs,e0.frf⟩,
  rfl,e0.bare,Un.kept hk,⟨_,x.toInCall.ns,fun i y v h1 h2 h3 => ?_⟩,fun y c h=>⟨_,x.cell y c h⟩,e0.hok.fresh (Nat.le_refl _),fun y c h => ?_,fun p hp=>absurd (show p∈([]:List (Addr × Obj)) from hp) (by simp),e0.hok.kept hk,?_⟩
 ·exact name_of_addr x.apart (PySem.mem_of_lookup h1) (PySem.mem_of_lookup h2)
 ·have hy:scope.names.lookup y=some .cell\/scope.names.lookup y=some .free:=hy
  rcases hy with hy|hy
  ·exact cell_has hy
  ·exact absurd rfl (S.nofree _ (PySem.mem_of_lookup hy))
 ·exact Nat.le_of_lt (x.above y c (PySem.mem_of_lookup h))
 ·have hi:i<vs.length:=by
   unfold start at h2
   by_cases hi:i<vs.length
   ·exact hi
   ·rw[List.getElem?_append_right (by simpa using hi)] at h2
    rw[List.getElem?_replicate] at h2
    split at h2<;>cases h2
  have ha:vs[i]?=some v:=by
   unfold start at h2
   rw[List.getElem?_append_left (by simpa using hi),List.getElem?_map] at h2
   cases e:vs[i]? with
   |none=>rw[e] at h2;cases h2
   |some a=>rw[e] at h2;cases h2;rfl
  obtain⟨u,hu,rv⟩:=r.get ha
  have hp:ps[i]?=some y:=by
   rw[← S.pre,List.getElem?_take_of_lt (by omega)];exact h1
  have ndP:ps.Nodup:=by rw[← S.pre];exact S.nd.sublist (List.take_sublist _ _)
  refine⟨u,rv,?_⟩
  rcases S.par y (List.mem_of_getElem? hp) with k|k
  ·exact .inl ⟨k,bindL_get ndP hp hu k⟩
  ·obtain⟨c,e⟩:=cell_has (n:=s.heap.objs.size+1) k
   refine .inr ⟨.inl k,c,e,?_⟩
   have q:=x.cell y c e
   rw[bindC_get ndP hp hu (by show scope.names.lookup y≠_;rw[k];decide)] at q
   exact q
 ·exact e0.hok.fresh (Nat.le_of_lt (x.above y c (PySem.mem_of_lookup h)))
 ·unfold start
  show _=N.length
  rw[List.length_append,List.length_map,List.length_replicate]
  omega
theorem fn_of{CX:CXT}{P:Program}{w:World}{K:PySem.W.Frag}{mg:Str->Option Value}{base:Heap}{k:Nat}{f:Addr}{name qual:Str}{params:Arguments}{body:List Stmt}{scope:Scope}{dV kV doc pm cdv ct oc:Value}{an od:Option Addr}
 {osl:Array (Option Value)} {N ps:List Str} {sp:Sp} (lk:K.lookup f=some ⟨oc,od,.func (PySem.W.fnOf name qual params body scope dV kV doc pm an cdv ct),osl⟩) (hcd:PySem.W.codeIn K cdv qual=true) (S:FnScope N ps scope)
 (len:∀ vs H Q E,sp vs H Q E->vs.length=ps.length)
 (hbody:∀ (A:Around) (outer:List Env) (s:Shared) (H:Hp) (vs:List V) (Q:VK) (E:XK),Room k (A.deeper (envOfC qual scope s.heap.objs.size f cdv))->sp vs H Q E →
   ∃ t,PSs (cxOf CX P w K mg base N qual scope f cdv A outer s H E) body t/\t {nx:=fun _ H'=>Q .non H',rt:=Q} (start N vs) H) :
 FnOk P w K mg base CX (k+1) f (PySem.W.fnOf name qual params body scope dV kV doc pm an cdv ct) ps sp:=by
 refine⟨len,fun A outer s H args us vs Q E hr e0 hb r hsp => ?_⟩
 have hl:=len _ _ _ _ hsp
 have KX:K.In s.heap:=e0.mod.kin.keeps fun b o e=>(e0.bs b o e).1
 have lim:s.heap.NoLimit:=e0.mod.nolimit.keeps fun b o e=>(e0.bs b o e).1
 have hkind:∀ y∈ps.zip us,scope.names.lookup y.1=some .local\/(scope.names.lookup y.1=some .cell/\((cellsFrom (s.heap.objs.size+1) scope.names []).lookup y.1).isSome=true):=fun⟨n,v⟩ hy=>by
  rcases S.par n (List.of_mem_zip hy).1 with q|q
  ·exact .inl q
  ·exact .inr ⟨q,PySem.W.cellsFrom_some _ _ _ (.inl q)⟩
 refine codeAny_call_function hr.depth (KX _ _ lk) rfl S.co S.gen rfl (PySem.W.codeRec_of KX hcd) (hb _ _ _ _ ?_)
 refine wpAny_newFunctionEnv_cells S.kind hkind fun env he s1 x => ?_
 subst he
 refine⟨lim.keeps x.toInCall.keep,codeAny_func ?_⟩
 obtain⟨t,ht,hq⟩:=hbody A outer s H vs Q E (hr.deeper _) hsp
 have I:Inv (cxOf CX P w K mg base N qual scope f cdv A outer s H E) [] (start N vs) H s1:=inv_start S hr.hd e0 hl r x
 refine wpAny_mono (ht [] s1 (start N vs) H _ I hq) (fun fl s' hs => ?_) fun e s' hs=>hs
 have fin:∀ {σ':St} {H':Hp} {v:V} {u:Value},Inv (cxOf CX P w K mg base N qual scope f cdv A outer s H E) [] σ' H' s'->RelV v u->Q v H'->CE outer P w H s Q u s' :=
  fun {σ' H' v u} J rv q=>⟨v,H',J.os,J.bare,J.base,J.hok,rv,q⟩
 cases fl with
 |ret u =>
  obtain⟨v,σ',H',J,rv,q⟩:=hs
  exact fin J rv q
 |next =>
  obtain⟨σ',H',J,q⟩:=hs
  exact fin (v:=V.non) (u:=Value.none) J rfl q
 |brk =>
  obtain⟨_,_,_,q⟩:=hs
  exact False.elim q
 |cont =>
  obtain⟨_,_,_,q⟩:=hs
  exact False.elim q
end L2
namespace L2
open PySem PySem.Spec PyProof.Rows
section
variable {X:Cx}{x:Str}{p pos:Pos}{e:Expr}{es:List Expr}{t:TA}{id T:String}{r:List V->Hp->VK->Prop}
noncomputable def tCB(r:List V->Hp->VK->Prop)(t:TA):TE:=fun σ H Q=>t σ H fun vs H1=>r vs H1 Q
theorem pe_callB(hc:CallR X (.builtin id) r)(hg:Gl X x)(hm:X.mg x=none)(hv:bootBuiltins x=some (.builtin id))(ha:PA X (e::es) t)(hn:x ≠ "__name__":=by decide)(hdb:(x == ("__debug__":Str))=false:=by decide)
 (he:starEach (e::es) X.env=(false,eval e X.env)::starEach es X.env:=by rfl) (hpl:(backTo pos (starEach es X.env)).any (·.1)=false:=by rfl):PE X (.Call (.Name x p) (e::es) [] pos) (tCB r t):=by
 intro pins s σ H Q I h
 refine wpAny_Call_Name_kw (ld_blt I hg hm hv ?_ hn hdb)
 exact PyProof.Rows.callWith_builtin1 (thn (ha pos pins s σ H _ I h) fun us s1 ⟨vs,H1,I1,r1,q1⟩=>hc pins s1 σ H1 vs us Q I1 r1 q1) he hpl
theorem pe_callTy(hc:CallR X (.type T) r)(hg:Gl X x)(hm:X.mg x=none)(hv:bootBuiltins x=some (.type T))(ha:PA X (e::es) t)(hn:x ≠ "__name__":=by decide)(hdb:(x == ("__debug__":Str))=false:=by decide)
 (he:starEach (e::es) X.env=(false,eval e X.env)::starEach es X.env:=by rfl) (hpl:(backTo pos (starEach es X.env)).any (·.1)=false:=by rfl):PE X (.Call (.Name x p) (e::es) [] pos) (tCB r t):=by
 intro pins s σ H Q I h
 refine wpAny_Call_Name_kw (ld_blt I hg hm hv ?_ hn hdb)
 exact PyProof.Rows.callWith_type1 (thn (ha pos pins s σ H _ I h) fun us s1 ⟨vs,H1,I1,r1,q1⟩=>hc pins s1 σ H1 vs us Q I1 r1 q1) he hpl
end
end L2
namespace HT
open PySem PyProof.Rows
section
open PySem.SeqAt
open PySem.AutoSeq1 (wpAny_loadPart')
open PySem.MeetsSeq PySem.MeetsSeq2 PySem.MeetsSeq3
end
section
variable {prog:Program}{w:World}{A:Around}{E:Value->Shared->Prop}{s:Shared}
theorem cat_tup{t b:Addr}{vs ws:List Value}{Q:Value->Shared->Prop}(ht:IsTup s.heap t vs.toArray)(hb:IsTup s.heap b ws.toArray)(hv:vs ≠ [])
 (h1:ws=[]->Q (.ref t) s) (h2:ws ≠ []->Q (.ref s.heap.objs.size) {s with heap:=s.heap.push {cls:=.type "tuple",data:=.seq (vs++ws).toArray}})
 (hsz:vs.length+ws.length<=sizeLine):wpAny (model prog w) A (binaryOp .Add (.ref t) (.ref b)) Q E s:=by
 obtain⟨⟨cls,dd,data,sl⟩,ho,hc,n,hd⟩:=id ht
 obtain⟨⟨cls2,dd2,data2,sl2⟩,ho2,hc2,n2,hd2⟩:=id hb
 simp only at hc hd hc2 hd2
 subst hc hd hc2 hd2
 have e:vs.toArray++ws.toArray=(vs++ws).toArray:=by simp
 by_cases hw:ws=[]
 ·exact concat_meets ⟨_,ho,rfl⟩ ⟨_,ho2,rfl⟩ noFill_tuple_add seq_tuple_add PySem.F.slot_tuple_add PySem.F.entry_tuple_add (PySem.F.args_tuple_add_2 _ _)
   (tuple_addW1 t b vs.toArray ws.toArray n n2 dd dd2 sl sl2 (by simpa using hv) (by simp[hw])) ⟨ho,ho2,h1 hw⟩
 ·refine concat_meets ⟨_,ho,rfl⟩ ⟨_,ho2,rfl⟩ noFill_tuple_add seq_tuple_add PySem.F.slot_tuple_add PySem.F.entry_tuple_add (PySem.F.args_tuple_add_2 _ _)
   (tuple_addW2 t b vs.toArray ws.toArray n n2 dd dd2 sl sl2 (by simpa using hv) (by simpa using hw) (by rw[List.size_toArray,List.size_toArray];exact hsz)) ⟨ho,ho2,?_⟩
  rw[e]
  exact h2 hw
end
end HT
namespace L2
open PySem PySem.Spec PyProof.Rows
noncomputable abbrev TO:=St->Hp->(Option Int->Hp->Prop)->Prop
noncomputable def PO(X:Cx)(e:Option Expr)(t:TO):Prop :=
 ∀ (pins:List (Addr × Obj)) (s:Shared) (σ:St) (H:Hp) (Q:Option Int->Hp->Prop),Inv X pins σ H s->t σ H Q →
  wpAny (model X.prog X.w) X.A (evalPart e X.env) (fun u s'=>∃ o H',Inv X pins σ H' s'/\IsPart u o/\Q o H') X.xe s
noncomputable def tNoPart:TO:=fun _ H Q=>Q none H
noncomputable def tPart(t:TE):TO:=fun σ H Q=>t σ H fun x H1=>∃ i,x = .int i/\Q (some i) H1
section
variable {X:Cx}{e:Expr}{te:TE}{lo hi:Option Expr}{tl th:TO}{pos p2:Pos}
theorem po_none:PO X none tNoPart:=by
 intro pins s σ H Q I h
 rw[evalPart_none]
 exact wpAny_pure ⟨none,H,I,.none,h⟩
theorem po_some(h:PE X e te):PO X (some e) (tPart te):=by
 intro pins s σ H Q I hw
 rw[evalPart_some]
 refine thn (h pins s σ H _ I hw) fun u s1 ⟨x,H1,I1,r1,q1⟩ => ?_
 obtain⟨i,rfl,q⟩:=q1
 obtain⟨t,rfl⟩:=r1
 exact⟨some i,H1,I1,.int i t,q⟩
noncomputable def SlR(X:Cx)(r:V->Option Int->Option Int->Hp->VK->Prop):Prop :=
 ∀ (pins:List (Addr × Obj)) (s:Shared) (σ:St) (H:Hp) (x:V) (v vl vu:Value) (lo hi:Option Int) (sl:Addr) (Q:VK),Inv X pins σ H s->RelV x v->s.heap.IsSliceOf sl vl vu .none->IsPart vl lo->IsPart vu hi->r x lo hi H Q →
  ∃ T id,typeLookup (.type T) "__getitem__"=pure (some (.builtin id))/\s.TypeIs v T/\wpAny (model X.prog X.w) X.A (getItem v (.ref sl)) (EP X pins σ Q) X.xe s
noncomputable def tSl(r:V->Option Int->Option Int->Hp->VK->Prop)(te:TE)(tl th:TO):TE:=fun σ H Q=>te σ H fun x H1=>tl σ H1 fun l H2=>th σ H2 fun u H3=>r x l u H3 Q
theorem pe_slice{r:V->Option Int->Option Int->Hp->VK->Prop}(hr:SlR X r)(he:PE X e te)(hl:PO X lo tl)(hu:PO X hi th):PE X (.Subscript e (.Slice lo hi none p2) pos) (tSl r te tl th):=by
 intro pins s σ H Q I h
 refine Subscript_ (thn (he pins s σ H _ I h) fun v s1 ⟨x,H1,I1,r1,q1⟩ => ?_)
 refine wpAny_Slice (thn (hl pins s1 σ H1 _ I1 q1) fun vl s2 ⟨l,H2,I2,pl,q2⟩=>thn (hu pins s2 σ H2 _ I2 q2) fun vu s3 ⟨u,H3,I3,pu,q3⟩ => ?_)
 rw[evalPart_none]
 refine wpAny_pure ?_
 have I4:Inv X pins σ H3 {s3 with heap:=s3.heap.push {cls:=.type "slice",data:=.fields #[vl,vu,.none]}}:=I3.kept (t':=s3.toks) fun b ob q=>Heap.get?_push_of_some _ q
 obtain⟨T,id,hT,ht,hg⟩:=hr pins {s3 with heap:=s3.heap.push {cls:=.type "slice",data:=.fields #[vl,vu,.none]}} σ H3 x v vl vu l u s3.heap.objs.size Q I4 r1 (Heap.IsSliceOf.new ..) pl pu q3
 show wpAny (model X.prog X.w) X.A (subscriptTail e (.Slice lo hi none p2) v (.ref s3.heap.objs.size)) (EP X pins σ Q) X.xe {s3 with heap:=s3.heap.push {cls:=.type "slice",data:=.fields #[vl,vu,.none]}}
 exact tail_any (ops:=[.ref s3.heap.objs.size,v]) ht hT hg (by with_unfolding_all rfl)
noncomputable def rCatT(K:PySem.W.Frag):R2:=fun x y H Q=>∃ a b xs ys,x = .ref a/\y = .ref b/\SqT K H a xs/\SqT K H b ys/\xs ≠ []/\xs.length+ys.length<=sizeLine ∧
 (ys=[]->Q (.ref a) H)/\(ys ≠ []->∀ p,H p=none->Q (.ref p) (upd H p (.tup (xs++ys))))
theorem Vals.nil_iff{xs:List V}{us:List Value}(r:Vals xs us):us=[]↔xs=[]:=by
 cases r with
 |nil=>simp
 |cons _ _=>simp
theorem op_catT:OpR X (binaryOp .Add) (rCatT X.K):=by
 intro pins s σ H x y v u Q I rx ry h
 obtain⟨a,b,xs,ys,rfl,rfl,ha,hb,hx,hz,q1,q2⟩:=h
 cases rx
 cases ry
 obtain⟨its,r1,p1,_⟩:=I.tuple ha
 obtain⟨its2,r2,p2,_⟩:=I.tuple hb
 refine HT.cat_tup p1 p2 (fun z=>hx (r1.nil_iff.mp z)) (fun z=>⟨.ref a,H,I,rfl,q1 (r2.nil_iff.mp z)⟩) (fun z => ?_) (by rw[← r1.length, ← r2.length];exact hz)
 refine⟨.ref s.heap.objs.size,_,I.laid (t':=s.toks) (o:=.tup (xs++ys)) (fun b ob q=>Heap.get?_push_of_some _ q) (Nat.le_refl _) ?_,rfl,q2 (fun w=>z (r2.nil_iff.mpr w)) _ (I.hok.fresh (Nat.le_refl _))⟩
 exact⟨by rw[List.length_append];exact hz,_,r1.append r2,IsTup.new _ _⟩
end
end L2
namespace L2
open PySem PySem.Spec PyProof.Rows
noncomputable def ixN(n:Nat)(i:Int):Option Nat:=if 0<=i then (if i<n then some i.toNat else none) else if -(n:Int)<=i then some (i+n).toNat else none
noncomputable def atI{α:Type}(xs:List α)(i:Int):Option α:=(ixN xs.length i).bind fun j=>xs[j]?
theorem ixN_seq{n:Nat}{i:Int}{j:Nat}(h:ixN n i=some j):seqIndex? i n=some j/\j<n ∧ -(n:Int)<=i/\i<n:=by
 unfold ixN at h
 by_cases h0:0<=i
 ·rw[if_pos h0] at h
  by_cases h1:i<n
  ·rw[if_pos h1] at h
   have e:i.toNat=j:=Option.some.inj h
   exact⟨by rw[seqIndex_of h0 h1,e],by omega,by omega,h1⟩
  ·rw[if_neg h1] at h;cases h
 ·rw[if_neg h0] at h
  by_cases h1 : -(n:Int)<=i
  ·rw[if_pos h1] at h
   have e:(i+n).toNat=j:=Option.some.inj h
   exact⟨by rw[seqIndex_neg (by omega) h1,e],by omega,h1,by omega⟩
  ·rw[if_neg h1] at h;cases h
theorem atI_get{α:Type}{xs:List α}{i:Int}{v:α}(h:atI xs i=some v):∃ j,seqIndex? i xs.length=some j/\xs[j]?=some v/\j<xs.length ∧ -(xs.length:Int)<=i/\i<xs.length:=by
 unfold atI at h
 cases e:ixN xs.length i with
 |none=>rw[e] at h;cases h
 |some j =>
  rw[e] at h
  obtain⟨h1,h2,h3,h4⟩:=ixN_seq e
  exact⟨j,h1,h,h2,h3,h4⟩
noncomputable def PlainIx(b:Expr):Prop:=∀ o i,subscripted b false o i=operate [o,i] (getItem o i)
noncomputable def IxR(X:Cx)(r:R2):Prop :=
 ∀ (value slice:Expr) (pins:List (Addr × Obj)) (s:Shared) (σ:St) (H:Hp) (x y:V) (v u:Value) (Q:VK),Inv X pins σ H s->RelV x v->RelV y u->r x y H Q →
  subscripted slice false v u=operate [v,u] (getItem v u)->wpAny (model X.prog X.w) X.A (subscriptTail value slice v u) (EP X pins σ Q) X.xe s
noncomputable def MtR(X:Cx)(id:String)(r:V->List V->Hp->VK->Prop):Prop :=
 ∀ (pins:List (Addr × Obj)) (s:Shared) (σ:St) (H:Hp) (x:V) (xs:List V) (v:Value) (us:List Value) (Q:VK),Inv X pins σ H s->RelV x v->Vals xs us->r x xs H Q →
  wpAny (model X.prog X.w) X.A (call (.builtin id) (v::us)) (EP X pins σ Q) X.xe s
section
variable {X:Cx}{a b:Expr}{ta tb:TE}{pos:Pos}
theorem IxR.or{r r':R2}(h:IxR X r)(h':IxR X r'):IxR X (fun x y H Q=>r x y H Q\/r' x y H Q):=by
 intro value slice pins s σ H x y v u Q I rx ry q hs
 rcases q with q|q
 ·exact h value slice pins s σ H x y v u Q I rx ry q hs
 ·exact h' value slice pins s σ H x y v u Q I rx ry q hs
theorem pe_ix{r:R2}(hr:IxR X r)(ha:PE X a ta)(hb:PE X b tb)(hs:PlainIx b):PE X (.Subscript a b pos) (tOp r ta tb):=by
 intro pins s σ H Q I h
 exact Subscript_ (binT ha hb I h fun v u s2 x y H2 I2 rx ry q=>hr a b pins s2 σ H2 x y v u Q I2 rx ry q (hs _ _))
noncomputable def rIxL(K:PySem.W.Frag):R2:=fun x y H Q=>∃ p xs i v,x = .ref p/\y = .int i/\SqL K H p xs/\atI xs i=some v/\Q v H
noncomputable def rIxT(K:PySem.W.Frag):R2:=fun x y H Q=>∃ p xs i v,x = .ref p/\y = .int i/\SqT K H p xs/\atI xs i=some v/\Q v H
noncomputable def rIxS:R2:=fun x y H Q=>∃ z i c,x = .str z/\y = .int i/\z.length<=sizeLine/\atI z.cps.toList i=some c/\Q (.str ⟨#[c]⟩) H
theorem ix_list:IxR X (rIxL X.K):=by
 intro value slice pins s σ H x y v u Q I rx ry h hs
 obtain⟨p,xs,i,z,rfl,rfl,hq,he,q⟩:=h
 cases rx
 obtain⟨t,rfl⟩:=ry
 obtain⟨its,r,pl,hz⟩:=I.list hq
 obtain⟨j,h1,h2,h3,h4,h5⟩:=atI_get he
 obtain⟨w,ew,rw'⟩:=r.get h2
 have hl:=r.length
 have hn:=line63
 have fin:EP X pins σ Q w s:=⟨z,H,I,rw',q⟩
 by_cases h0:0<=i
 ·have hj:i.toNat=j:=by
   rw[seqIndex_of h0 h5] at h1
   exact Option.some.inj h1
  exact item_listR pl.isList h0 (by omega) (by rw[hj];simpa using ew) fin hs
 ·have hj:(i+(its.toArray.size:Int)).toNat=j:=by
   rw[seqIndex_neg (by omega) h4] at h1
   rw[List.size_toArray, ← hl]
   exact Option.some.inj h1
  exact subscriptTail_builtinR (x:=w) pl.isList.typeIs slot_list_getitem.lookup
   (wpAny_getItem_list_neg (Q:=fun r s'=>r=w/\EP X pins σ Q r s') pl.isList (by omega) (by rw[List.size_toArray]<;>omega) (by omega) (by rw[hj];simpa using ew) ⟨rfl,fin⟩) hs
theorem ix_tup:IxR X (rIxT X.K):=by
 intro value slice pins s σ H x y v u Q I rx ry h hs
 obtain⟨p,xs,i,z,rfl,rfl,hq,he,q⟩:=h
 cases rx
 obtain⟨t,rfl⟩:=ry
 obtain⟨its,r,pl,hz⟩:=I.tuple hq
 obtain⟨j,h1,h2,h3,h4,h5⟩:=atI_get he
 obtain⟨w,ew,rw'⟩:=r.get h2
 have hl:=r.length
 have hn:=line63
 have fin:EP X pins σ Q w s:=⟨z,H,I,rw',q⟩
 exact subscriptTail_builtinR (x:=w) pl.typeIs slot_tuple_getitem.lookup
  (getItem_tuple (j:=j) (Q:=fun r s'=>r=w/\EP X pins σ Q r s') pl (by omega) (by omega) (by rw[List.size_toArray, ← hl];exact h1) (by simpa using ew) ⟨rfl,fin⟩) hs
theorem ix_str:IxR X rIxS:=by
 intro value slice pins s σ H x y v u Q I rx ry h hs
 obtain⟨z,i,c,rfl,rfl,hz,he,q⟩:=h
 obtain⟨t,rfl⟩:=rx
 obtain⟨t',rfl⟩:=ry
 obtain⟨j,h1,h2,h3,h4,h5⟩:=atI_get he
 have hl:z.cps.toList.length=z.length:=by simp[Str.length]
 rw[hl] at h1 h4 h5
 have hn:=line63
 exact tail_any (typeIs_str s z t) slot_str_getitem.lookup (getItem_str (c:=c) (by
  have e1:decide (i < -(2 ^ 63:Int))=false:=decide_eq_false (by omega)
  have e2:decide (i ≥ 2 ^ 63)=false:=decide_eq_false (by omega)
  rw[e1,e2,Bool.or_false]) (by rw[h1];simpa using h2) ⟨.str ⟨#[c]⟩,H,I.tok _,⟨_,rfl⟩,q⟩) hs
noncomputable def rIx(K:PySem.W.Frag):R2:=fun x y H Q=>rIxL K x y H Q\/rIxT K x y H Q\/rIxS x y H Q
theorem ix_seq:IxR X (rIx X.K):=ix_list.or (ix_tup.or ix_str)
theorem mapSeq_set(its:List Value)(n j:Nat)(u:Value):Obj.mapSeq (·.setIfInBounds j u) {cls:=.type "list",data:=.seq its.toArray n}={cls:=.type "list",data:=.seq (its.set j u).toArray n}:=by
 simp[Obj.mapSeq]
theorem Inv.lst{pins:List (Addr × Obj)}{σ:St}{H:Hp}{s:Shared}{p:Addr}{xs:List V}(I:Inv X pins σ H s)(h:H p=some (.lst xs)) :
 ∃ (its:List Value) (n:Nat),Vals xs its/\s.heap.get? p=some {cls:=.type "list",data:=.seq its.toArray n}/\xs.length<=sizeLine:=by
 obtain⟨z,its,n,r,e⟩:=I.hok p _ h
 exact⟨its,n,r,e,z⟩
theorem Inv.lstUpd{pins:List (Addr × Obj)}{σ:St}{H:Hp}{s:Shared}{p:Addr}{xs ys:List V}{its its':List Value}{n n':Nat}{f:Obj->Obj}(I:Inv X pins σ H s)(h:H p=some (.lst xs))
 (ho:s.heap.get? p=some {cls:=.type "list",data:=.seq its.toArray n}) (hf:f {cls:=.type "list",data:=.seq its.toArray n}={cls:=.type "list",data:=.seq its'.toArray n'}) (r:Vals ys its') (hz:ys.length<=sizeLine) (t:Nat) :
 Inv X pins σ (upd H p (.lst ys)) {s with heap:=s.heap.update p f,toks:=t}:=by
 have e:(s.heap.update p f).get? p=some {cls:=.type "list",data:=.seq its'.toArray n'}:=by
  rw[Heap.get?_update_self f ho (by rw[hf]<;>rfl),hf]
 refine I.write (x:=p) (e:=p) (by rw[h];trivial) (.inl rfl) (fun b u hb q=>(Heap.get?_update_other _ _ (Ne.symm hb)).trans q) ⟨_,e⟩ ?_
 exact⟨hz,its',n',r,e⟩
noncomputable def rSetL:V->V->V->Hp->(Hp->Prop)->Prop:=fun o i v H Q=>∃ p xs k j,o = .ref p/\i = .int k/\H p=some (.lst xs)/\ixN xs.length k=some j/\Q (upd H p (.lst (xs.set j v)))
theorem set_list:PSet X rSetL:=by
 intro pins s σ H o i v ov iv u Q I ro ri rv h
 obtain⟨p,xs,k,j,rfl,rfl,hp,hj,q⟩:=h
 cases ro
 obtain⟨t,rfl⟩:=ri
 obtain⟨its,n,r,ho,hz⟩:=I.lst hp
 obtain⟨h1,h2,h3,h4⟩:=ixN_seq hj
 have hl:=r.length
 have hn:=line63
 have I':Inv X pins σ (upd H p (.lst (xs.set j v))) {s with heap:=s.heap.update p (Obj.mapSeq (·.setIfInBounds j u))} :=
  I.lstUpd hp ho (mapSeq_set its n j u) (r.set rv j) (by rw[List.length_set];exact hz) s.toks
 by_cases h0:0<=k
 ·have hk:k.toNat=j:=by
   rw[seqIndex_of h0 h4] at h1
   exact Option.some.inj h1
  exact PySem.W.ki_setAt ho h0 (by omega) (by rw[List.size_toArray, ← hl];exact h4) (by rw[hk];exact⟨_,I',q⟩)
 ·have hk:(k+(its.toArray.size:Int)).toNat=j:=by
   rw[seqIndex_neg (by omega) h3] at h1
   rw[List.size_toArray, ← hl]
   exact Option.some.inj h1
  exact PySem.W.ki_setBack ho (by omega) (by rw[List.size_toArray, ← hl];exact h3) (by omega) (by rw[hk];exact⟨_,I',q⟩)
theorem op_notIn_str:OpR X (compareOp .NotIn) (fun x y H Q=>∃ i j,x = .str i/\y = .str j/\Q (.bl (!(!(Builtin.Str.occurrences j i 0 j.length 1).isEmpty))) H):=by
 intro pins s σ H x y v u Q I rx ry h
 obtain⟨i,j,rfl,rfl,q⟩:=h
 obtain⟨t,rfl⟩:=rx
 obtain⟨t',rfl⟩:=ry
 exact notIn_str ⟨.bl _,H,I,rfl,q⟩
theorem call_tuple_of:CallR X (.type "tuple") (fun xs H Q=>∃ p ys,xs=[.ref p]/\((SqL X.K H p ys/\∀ l,H l=none->Q (.ref l) (upd H l (.tup ys)))\/(SqT X.K H p ys/\Q (.ref p) H))):=by
 intro pins s σ H xs us Q I r h
 obtain⟨p,ys,rfl,h⟩:=h
 obtain⟨u,rfl,rx⟩:=vals1 r
 cases rx
 rcases h with⟨hq,q⟩ | ⟨hq,q⟩
 ·obtain⟨its,r',pl,hz⟩:=I.list hq
  have hlen:=r'.length
  refine call_tuple_list pl.isList (fun h' kp => ?_) (by simp only[List.size_toArray]<;>omega)
  have I1:Inv X pins σ H {s with heap:=h'}:=I.kept (t':=s.toks) kp
  have I2:Inv X pins σ (upd H h'.objs.size (.tup ys)) {s with heap:=h'.push {cls:=.type "tuple",data:=.seq its.toArray}} :=
   I1.laid (t':=s.toks) (fun b o e=>Heap.get?_push_of_some _ e) (Nat.le_refl _) (show ObjOk X.prog X.w _ _ _ (.tup ys) from⟨hz,its,r',IsTup.new _ _⟩)
  exact⟨.ref h'.objs.size,_,I2,rfl,q _ (I1.hok.fresh (Nat.le_refl _))⟩
 ·obtain⟨its,r',pl,hz⟩:=I.tuple hq
  exact call_tuple_same pl ⟨.ref p,H,I,rfl,q⟩
noncomputable def tyV(K:PySem.W.Frag)(T:String)(x:V)(H:Hp):Prop:=match x with
 | .str _=>T="str"
 | .int _=>T="int"
 | .ref p=>(T="list"/\∃ xs,SqL K H p xs)\/(T="tuple"/\∃ o,K.lookup p=some o/\o.cls = .type "tuple"/\o.dict=none) ∨
  (T="dict"/\((∃ kvs,H p=some (.dK kvs))\/∃ kvs,H p=some (.dT kvs)))\/(T="set"/\∃ S n,H p=some (.set S n))
 |_=>False
theorem tyV_is{pins:List (Addr × Obj)}{σ:St}{H:Hp}{s:Shared}{T:String}{x:V}{v:Value}(I:Inv X pins σ H s)(r:RelV x v)(ty:tyV X.K T x H) :
 s.TypeIs v T/\∀ a,v = .ref a->∃ ob,s.heap.get? a=some ob/\ob.dict=none:=by
 cases x with
 |str z =>
  obtain⟨t,rfl⟩:=r
  cases(show T="str" from ty)
  exact⟨typeIs_str s z t,fun _ e=>nomatch e⟩
 |int i =>
  obtain⟨t,rfl⟩:=r
  cases(show T="int" from ty)
  exact⟨typeIs_int s i t,fun _ e=>nomatch e⟩
 |ref p =>
  cases r
  rcases ty with⟨rfl,xs,hq⟩ | ⟨rfl,o,hk,hc,hd⟩ | ⟨rfl,hk⟩ | ⟨rfl,S,n,hk⟩
  ·obtain⟨its,_,pl,_⟩:=I.list hq
   refine⟨pl.isList.typeIs,fun a e => ?_⟩
   cases e
   obtain⟨o,n,e,c,hd,_⟩:=pl
   exact⟨o,e,hd⟩
  ·refine⟨⟨o,I.kIn p o hk,hc⟩,fun a e => ?_⟩
   cases e
   exact⟨o,I.kIn _ o hk,hd⟩
  ·have z:∃ o,s.heap.get? p=some o/\o.ExactDict:=by
    rcases hk with⟨kvs,hk⟩ | ⟨kvs,hk⟩
    ·obtain⟨_,_,_,_,o,_,_,e,ex,_⟩:=I.hok p _ hk
     exact⟨o,e,ex⟩
    ·obtain⟨_,_,_,_,o,_,_,e,ex,_⟩:=I.hok p _ hk
     exact⟨o,e,ex⟩
   obtain⟨o,e,ex⟩:=z
   refine⟨⟨o,e,ex.1⟩,fun a e2 => ?_⟩
   cases e2
   exact⟨o,e,ex.2.1⟩
  ·obtain⟨o,_,_,_,e,ex,_⟩:=I.hok p _ hk
   refine⟨⟨o,e,ex.1⟩,fun a e2 => ?_⟩
   cases e2
   exact⟨o,e,ex.2.1⟩
 |_=>exact False.elim ty
noncomputable def tBM0(K:PySem.W.Frag)(T:String)(r:V->List V->Hp->VK->Prop)(to:TE):TE:=fun σ H Q=>to σ H fun x H1=>tyV K T x H1/\r x [] H1 Q
noncomputable def tBM(K:PySem.W.Frag)(T:String)(r:V->List V->Hp->VK->Prop)(to:TE)(t:TA):TE:=fun σ H Q=>to σ H fun x H1=>tyV K T x H1/\t σ H1 fun xs H2=>r x xs H2 Q
variable {o e:Expr}{es:List Expr}{to:TE}{t:TA}{name:Str}{apos cpos:Pos}{T id:String}{r:V->List V->Hp->VK->Prop}
theorem pe_bm0(pa:PlainAttrs T)(slot:Slot T name id)(hty:typeOf (.builtin id)=pure (.type "method_descriptor"))(hm:MtR X id r)(ho:PE X o to)
 (hbase:attributeBase o name X.env (eval o X.env)=eval o X.env:=by rfl) (hline:(apos.endLine == cpos.line)=true:=by rfl):PE X (.Call (.Attribute o name apos) [] [] cpos) (tBM0 X.K T r to):=by
 intro pins s σ H Q I h
 refine wpAny_Call_method0_late hbase hline (thn (ho pins s σ H _ I h) fun v s1 ⟨x,H1,I1,r1,ty,q1⟩ => ?_)
 obtain⟨h1,h2⟩:=tyV_is I1 r1 ty
 exact⟨T,id,pa,slot,hty,h1,h2,Calls.callWith_builtin rfl (PySem.evalArgs_none (hm pins s1 σ H1 x [] v [] Q I1 r1 .nil q1))⟩
theorem pe_bm(pa:PlainAttrs T)(slot:Slot T name id)(hty:typeOf (.builtin id)=pure (.type "method_descriptor"))(hm:MtR X id r)(ho:PE X o to)(ha:PA X (e::es) t)
 (hbase:attributeBase o name X.env (eval o X.env)=eval o X.env:=by rfl)
 (hfew:((backTo cpos (starEach (e::es) X.env)).all (fun x => !x.1) && (backToKw cpos (keywordEach [] X.env)).all (fun x=>x.1.isSome)
   && decide ((e::es).length+([]:List Keyword).length+(if ([]:List Keyword).isEmpty then 0 else 1)<30))=true:=by rfl)
 (hline:(apos.endLine == cpos.line)=true:=by rfl) (hs:starEach (e::es) X.env=(false,eval e X.env)::starEach es X.env:=by rfl) (hplain:(backTo cpos (starEach es X.env)).any (·.1)=false:=by rfl) :
 PE X (.Call (.Attribute o name apos) (e::es) [] cpos) (tBM X.K T r to t):=by
 intro pins s σ H Q I h
 refine wpAny_Call_method_late hbase hfew hline rfl (thn (ho pins s σ H _ I h) fun v s1 ⟨x,H1,I1,r1,ty,q1⟩ => ?_)
 obtain⟨h1,h2⟩:=tyV_is I1 r1 ty
 refine⟨T,id,pa,slot,hty,h1,h2,?_⟩
 have hA:=ha cpos pins s1 σ H1 _ I1 q1
 rw[hs] at hA ⊢
 refine Calls.callWith_builtin (by show(false || (backTo cpos (starEach es X.env)).any (·.1))=false;rw[hplain]<;>rfl) (Calls.evalArgs_plain ?_)
 exact thn hA fun us s2 ⟨vs,H2,I2,r2,q2⟩=>hm pins s2 σ H2 x vs v us Q I2 r1 r2 q2
/- xs.append(e),list.index on a module's tuple .. are MtR facts of 06m -/
end
end L2
namespace L2
open PySem PySem.Spec PyProof.Rows
noncomputable def MtM(X:Cx)(id:String)(r:V->List V->Hp->VK->Prop):Prop :=
 ∀ (pins:List (Addr × Obj)) (s:Shared) (σ:St) (H:Hp) (x:V) (xs:List V) (v:Value) (us:List Value) (Q:VK),Inv X pins σ H s->RelV x v->Vals xs us->r x xs H Q →
  wpAny (model X.prog X.w) X.A (call (.builtin id) (v::us)) (EP X pins σ Q) X.xe s
theorem Vals.one:∀ {x:V} {us:List Value},Vals [x] us->∃ u,us=[u]/\RelV x u
 |_,_,.cons r .nil=>⟨_,rfl,r⟩
theorem Vals.zero:∀ {us:List Value},Vals [] us->us=[]
 |_,.nil=>rfl
theorem Vals.dropLast{xs:List V}{us:List Value}(h:Vals xs us):Vals xs.dropLast us.dropLast:=by
 induction h with
 |nil=>exact .nil
 |cons r t ih =>
  cases t with
  |nil=>exact .nil
  |cons q t'=>exact .cons r ih
theorem Vals.reverse{xs:List V}{us:List Value}(h:Vals xs us):Vals xs.reverse us.reverse:=by
 induction h with
 |nil=>exact .nil
 |cons r t ih=>rw[List.reverse_cons,List.reverse_cons];exact Vals.append ih (.cons r .nil)
theorem erase_last{α:Type}(l:List α):l.eraseIdx (l.length-1)=l.dropLast:=by
 induction l with
 |nil=>rfl
 |cons a r ih =>
  cases r with
  |nil=>rfl
  |cons b r =>
   have e:(a::b::r).length-1=((b::r).length-1)+1:=by
    have h1:(a::b::r).length=r.length+2:=rfl
    have h2:(b::r).length=r.length+1:=rfl
    omega
   rw[e,List.eraseIdx_cons_succ,ih]
   all_goals rfl
section
variable {X:Cx}{pins:List (Addr × Obj)}{σ:St}{H:Hp}{s:Shared}{l b:Addr}{xs ys zs:List V}
theorem Inv.lset{its its':List Value}{n:Nat}{f:Array Value->Array Value}{t':Nat}(I:Inv X pins σ H s)(hH:H l=some (.lst xs))
 (e:s.heap.get? l=some {cls:=.type "list",data:=.seq its.toArray n}) (hf:f its.toArray=its'.toArray) (hv:Vals ys its') (hz:ys.length<=sizeLine) :
 Inv X pins σ (upd H l (.lst ys)) {s with heap:=s.heap.update l (Obj.mapSeq f),toks:=t'}:=by
 have q:=PySem.IsL.update e f
 rw[hf] at q
 refine I.write (x:=l) (e:=l) (by rw[hH];exact trivial) (.inl rfl) (fun b' u hb hu=>(Heap.get?_update_other s.heap (Obj.mapSeq f) (Ne.symm hb)).trans hu) ⟨_,q⟩ ?_
 exact⟨hz,its',_,hv,q⟩
theorem Inv.lnew{its:List Value}{t':Nat}(I:Inv X pins σ H s)(hv:Vals ys its)(hz:ys.length<=sizeLine) :
 Inv X pins σ (upd H s.heap.objs.size (.lst ys)) {s with heap:=s.heap.push {cls:=.type "list",data:=.seq its.toArray},toks:=t'} :=
 I.laid (fun _ _ q=>Heap.get?_push_of_some _ q) (Nat.le_refl _) ⟨hz,its,0,hv,Heap.get?_push_size _ rfl⟩
theorem Inv.fresh(I:Inv X pins σ H s):H s.heap.objs.size=none:=I.hok.fresh (Nat.le_refl _)
theorem Inv.lstM(I:Inv X pins σ H s)(hH:H l=some (.lst xs)):xs.length<=sizeLine/\∃ (its:List Value) (n:Nat),Vals xs its/\xs.length=its.length/\s.heap.get? l=some {cls:=.type "list",data:=.seq its.toArray n}:=by
 obtain⟨z,its,n,r,e⟩:=I.hok l _ hH
 exact⟨z,its,n,r,r.length,e⟩
theorem notLongL{n:Nat}(h:n<=sizeLine):Builtin.List.listTooLong n=false:=by
 unfold Builtin.List.listTooLong
 exact decide_eq_false (by omega)
end
section
variable {X:Cx}
noncomputable def rAppend:V->List V->Hp->VK->Prop:=fun x vs H Q=>∃ l xs y,x = .ref l/\vs=[y]/\H l=some (.lst xs)/\xs.length<sizeLine/\Q .non (upd H l (.lst (xs++[y])))
theorem mt_append:MtM X "list.append" rAppend:=by
 intro pins s σ H x vs v us Q I rx rv h
 obtain⟨l,xs,y,rfl,rfl,hH,hz,q⟩:=h
 cases rx
 obtain⟨u,rfl,ru⟩:=rv.one
 obtain⟨z,its,n,r,hl,e⟩:=I.lstM hH
 refine call_meets F.slot_list_append ⟨_,e,rfl⟩ F.entry_list_append (F.args_list_append_2 _ _) (PySem.list_append l its.toArray n u (by rw[List.size_toArray];omega)) ⟨e,?_⟩
 refine⟨.non,_,I.lset (its':=its++[u]) hH e (by simp) (r.append (.cons ru .nil)) ?_,rfl,q⟩
 rw[List.length_append,List.length_singleton]
 omega
noncomputable def rExtend:V->List V->Hp->VK->Prop:=fun x vs H Q=>∃ l b xs zs,x = .ref l/\vs=[.ref b]/\H l=some (.lst xs)/\H b=some (.lst zs)/\xs.length+zs.length<=sizeLine/\Q .non (upd H l (.lst (xs++zs)))
theorem mt_extend:MtM X "list.extend" rExtend:=by
 intro pins s σ H x vs v us Q I rx rv h
 obtain⟨l,b,xs,zs,rfl,rfl,hH,hB,hz,q⟩:=h
 cases rx
 obtain⟨u,rfl,ru⟩:=rv.one
 cases ru
 obtain⟨z,its,n,r,hl,e⟩:=I.lstM hH
 obtain⟨z2,its2,n2,r2,hl2,e2⟩:=I.lstM hB
 have hsz:its.toArray.size+its2.toArray.size<=sizeLine:=by rw[List.size_toArray,List.size_toArray];omega
 have hlong:¬ (!its.toArray.isEmpty && Builtin.List.listTooLong (its.toArray.size+its2.toArray.size))=true:=by
  rw[notLongL hsz,Bool.and_false]
  exact Bool.false_ne_true
 refine call_meets F.slot_list_extend ⟨_,e,rfl⟩ F.entry_list_extend (F.args_list_extend_2 _ _)
  (AutoSeq1.list_extend_list_list_0 l its.toArray n b its2.toArray n2 hlong (by rw[List.size_toArray];omega) (by omega)) ⟨e,e2,?_⟩
 refine⟨.non,_,I.lset (its':=its++its2) hH e (by simp) (r.append r2) ?_,rfl,q⟩
 rw[List.length_append]
 omega
noncomputable def rPop:V->List V->Hp->VK->Prop:=fun x vs H Q=>∃ l xs y,x = .ref l/\vs=[]/\H l=some (.lst xs)/\xs[xs.length-1]?=some y/\Q y (upd H l (.lst xs.dropLast))
theorem mt_pop:MtM X "list.pop" rPop:=by
 intro pins s σ H x vs v us Q I rx rv h
 obtain⟨l,xs,y,rfl,rfl,hH,hy,q⟩:=h
 cases rx
 have hus:=rv.zero
 subst hus
 obtain⟨z,its,n,r,hl,e⟩:=I.lstM hH
 obtain⟨u,hu,ru⟩:=r.get hy
 have hy':its.toArray[its.toArray.size-1]?=some u:=by
  show its.toArray[its.length-1]?=some u
  rw[← Array.getElem?_toList, ← hl]
  exact hu
 refine call_meets F.slot_list_pop ⟨_,e,rfl⟩ F.entry_list_pop (F.args_list_pop_1 _) (MeetsSeq.list_pop_last l its.toArray n u hy' (by rw[List.size_toArray];omega)) ⟨e,?_⟩
 refine⟨y,_,I.lset (its':=its.dropLast) hH e ?_ r.dropLast ?_,ru,q⟩
 ·show its.toArray.eraseIdxIfInBounds (its.toArray.size-1)=its.dropLast.toArray
  rw[List.size_toArray,List.eraseIdxIfInBounds_toArray,erase_last]
 ·rw[List.length_dropLast]
  omega
noncomputable def rCat:R2:=fun x y H Q=>∃ l b xs zs,x = .ref l/\y = .ref b/\H l=some (.lst xs)/\H b=some (.lst zs)/\xs.length+zs.length<=sizeLine/\∀ p,H p=none->Q (.ref p) (upd H p (.lst (xs++zs)))
theorem op_cat:OpR X (binaryOp .Add) rCat:=by
 intro pins s σ H x y v u Q I rx ry h
 obtain⟨l,b,xs,zs,rfl,rfl,hH,hB,hz,q⟩:=h
 cases rx
 cases ry
 obtain⟨z,its,n,r,hl,e⟩:=I.lstM hH
 obtain⟨z2,its2,n2,r2,hl2,e2⟩:=I.lstM hB
 refine PySem.P.add_list e e2 ?_ (by rw[List.size_toArray,List.size_toArray];omega)
 have ea:its.toArray++its2.toArray=(its++its2).toArray:=by simp
 rw[ea]
 exact⟨.ref _,_,I.lnew (t':=s.toks) (r.append r2) (by rw[List.length_append];omega),rfl,q _ I.fresh⟩
end
section
variable {prog:Program}{w:World}{A:Around}{E:Value->Shared->Prop}{s:Shared}
set_option maxRecDepth 100000 in
end
section
variable {X:Cx}
end
end L2
namespace Att
open PySem PySem.W PySem.Calls PyProof.Rows
theorem ints_of_wellAll{P:Params}{h:Heap}:∀ (ns:List Int) (vs:List Value),WellAll P h vs (ns.map WData.int)->IntsAre vs ns:=by
 intro ns
 induction ns with
 |nil =>
  intro vs w
  rw[List.map_nil] at w
  cases w
  exact .nil
 |cons n ns ih =>
  intro vs w
  rw[List.map_cons] at w
  cases w with
  |cons a b =>
   cases a
   exact .cons _ _ (ih _ b)
theorem script_of{l:OpenLaw}{n:Nat}(hn:l.most=some n){P:Params}{h:Heap}{args:List WData}{vals:List Value}
 (hpre:l.row.toRowW.claim.pre args=true) (hwl:WellAll P h vals args) :
 ∃ a vs ns,vals=[Value.ref a]/\args=[WData.list (ns.map WData.int)]/\h.get? a=some {cls:=.type "list",data:=.seq vs.toArray}/\IntsAre vs ns/\ns.length<=n:=by
 have hsh:WShape.hasAll [] args [.list .int]=true:=(pre_splitW hpre).1
 have hc:l.pre.holds [] {args:=args}=true:=(pre_splitW hpre).2
 obtain⟨d,r,rfl,h1,h2⟩:=hasAllW_cons hsh
 obtain rfl:=hasAllW_nil h2
 obtain⟨xs,rfl,h3⟩:=hasW_list h1
 obtain⟨ns,rfl⟩:=items_int h3
 have hlen:ns.length<=n:=by
  unfold OpenLaw.pre at hc
  have h4:(WTm.not (.lt (.lit (.int (n:Int))) (.len (.arg 0)))).holds [] {args:=[.list (ns.map .int)]}=true:=by
   have h4:=(holds_andW hc).1
   rw[hn] at h4
   exact h4
  have h5:=condW_of h4 (w_not (w_lt w_lit (w_len_list (w_arg rfl))))
  rw[List.length_map] at h5
  refine Nat.le_of_not_lt fun q => ?_
  have q':(n:Int)<((ns.length:Nat):Int):=by omega
  first
   | (rw[decide_eq_true q'] at h5;exact absurd h5 (by decide))
   | (simp at h5;omega)
 cases hwl with
 |cons w1 w2 =>
  cases w2
  cases w1 with
  |list ho hall=>exact⟨_,_,ns,rfl,rfl,ho,ints_of_wellAll ns _ hall,hlen⟩
theorem post_true(l:OpenLaw)(args:List WData):l.row.toRowW.claim.post args (.bool true) args=true :=
 postW_of (r:=l.row.toRowW) (X:=(true == true))
  (show WShape.has [] (.bool true) .bool=true by first|rfl|decide|simp[WShape.has,WShape.arms,WShape.armsAll])
  (show(WTm.eq .res (.lit (.bool true))).value [] {args:=args,res:=some (.bool true),after:=args}=some (.bool (true == true)) from w_eq_bool (w_res rfl) w_lit) rfl
theorem attach_call{l:OpenLaw}{n:Nat}{q:Program}{loose:List Str}{XP:(Str->Option Value)->Heap->Prop}{YP:World->Heap->Prop}{d:DefRec}
 (hn:l.most=some n) (hdf:d.params.defaults=[])
 (call:∀ (w:World) (s₀ s₁:Shared) (mg mb:Str->Option Value) (fa:Addr) (o:Obj) (pm cd doc:Value) (a:Addr) (vs:List Value) (ns:List Int),
   Ground q loose [] XP w s₀ mg mb s₁.heap->YP w s₁.heap →
   s₁.heap.get? fa=some o->o.data = .func (docDef d.name d.params d.body d.scope pm cd doc)->s₁.heap.CodeRec cd d.name->mg d.name=some (.ref fa) →
   s₁.heap.get? a=some {cls:=.type "list",data:=.seq vs.toArray}->IntsAre vs ns->ns.length<=n->s₁.gens = #[] →
   codeAny (model l.prog w) callerA (.call (.ref fa) ⟨[.ref a],[]⟩) (fun r s'=>r = .ok (.ret (.bool true))/\OldK s₁.heap s'.heap/\s'.os=s₁.os/\AllBare s'.gens) s₁) :
 WalkO q loose XP YP l.row.toRowW d [] (fun f vs=>PySem.call f vs):=by
 intro w s₀ s₁ mg mb G Y fa o pm cd doc dV kV ho hd hcd hD hmg hg args vals as hpre hlay hrd hwl hlo
 obtain rfl:dV = .none:=Dflts.none hD hdf
 obtain rfl:kV = .none:=Dflts.noKw hD
 obtain⟨a,vs,ns,rfl,rfl,hobj,hints,hlen⟩:=script_of hn hpre hwl
 refine enter_call (codeAny_mono (call w s₀ s₁ mg mb fa o pm cd doc a vs ns G Y ho (fd_plain hd) hcd hmg hobj hints hlen hg) fun r s' hq => ?_)
 obtain⟨rfl,h2,h3,h4⟩:=hq
 exact⟨.inl ⟨.bool true,.bool true,[],rfl,fun _=>rfl,.bool true,post_true l _,fun _=>⟨List.Pairwise.nil,fun _ hm=>(nomatch hm)⟩⟩,h2,h3,h4⟩
section
variable {prog:Program}{w:World}{A:Around}{E:Value->Shared->Prop}{s:Shared}{K:Frag}
noncomputable def ledger(h:Heap)(L d:Addr):List (Addr × Obj):=(List.range h.objs.size).filterMap fun a=>if a=L\/a=d then none else (h.get? a).map fun o=>(a,o)
end
end Att
namespace L2
open PySem PySem.Spec PyProof.Rows
theorem vals_ints:∀ {vs:List Value} {ns:List Int},IntsAre vs ns->Vals (ns.map V.int) vs
 |_,_,.nil=>.nil
 |_,_,.cons n t h=>.cons ⟨t,rfl⟩ (vals_ints h)
noncomputable def Only(H:Hp):Prop:=∀ b,H b=none\/∃ o xs,H b=some (.frz o (.lst xs))
theorem law_call{P:Program}{w:World}{K:PySem.W.Frag}{mg mb:Str->Option Value}{CX:CXT}{k:Nat}{fa a:Addr}{fd:FuncData}{x:Str}{sp:Sp}{s₁:Shared}{vs:List Value}{ns:List Int}
 (KX:K.In s₁.heap) (hns:s₁.heap.Ns mainGlobals mg) (hb:s₁.heap.Ns builtinsNs mb) (hbb:∀ x:Str,x ≠ "__name__"->mb x=bootBuiltins x) (hlim:s₁.heap.NoLimit) (hg:s₁.gens = #[])
 (ha:s₁.heap.get? a=some {cls:=.type "list",data:=.seq vs.toArray}) (hi:IntsAre vs ns) (hl:ns.length<=sizeLine) (hr:Room k callerA)
 (F:∀ base:Heap,K.In base->base.Ns mainGlobals mg->FnOk P w K mg base CX k fa fd [x] sp) (hbind:∀ (s:Shared) (u:Value),BindsTo s fd ⟨[u],[]⟩ [(x,u)])
 (hsp:∀ H:Hp,Only H->SqL K H a (ns.map V.int)->sp [.ref a] H (fun v _=>v = .bl true) fun _ _ _=>False)
 (hCX:∀ H e s',CX [] H s₁ (fun _ _ _=>False) e s'->False) :
 codeAny (model P w) callerA (.call (.ref fa) ⟨[.ref a],[]⟩) (fun r s'=>r = .ok (.ret (.bool true))/\OldK s₁.heap s'.heap/\s'.os=s₁.os/\AllBare s'.gens) s₁:=by
 have rv:=vals_ints hi
 have lenV:=hi.length
 have core:∀ H:Hp,Only H->SqL K H a (ns.map V.int)->HOk P w H s₁.heap->(∀ b,H b≠none->b=a)->(H a≠none->K.lookup a=none) →
  codeAny (model P w) callerA (.call (.ref fa) ⟨[.ref a],[]⟩) (fun r s'=>r = .ok (.ret (.bool true))/\OldK s₁.heap s'.heap/\s'.os=s₁.os/\AllBare s'.gens) s₁:=by
  intro H hO hS hok hA hK
  have base_of:∀ {b:Addr} {o:Obj},s₁.heap.get? b=some o->H b=none->(hidT s₁.heap H).get? b=some o:=fun e n=>hidT_get e n
  have noA:∀ {b:Addr} {o:Obj} {es:Array DictEntry} {ep:Nat},s₁.heap.get? b=some o->o.data = .dict es ep->H b=none:=fun {b o es ep} e d=>by
   cases q:H b with
   |none=>rfl
   |some u =>
    have e':b=a:=hA b (by rw[q];simp)
    subst e'
    rw[ha] at e;cases e
    have d':Data.seq vs.toArray _=Data.dict es ep:=d
    cases d'
  have nsK:∀ {b:Addr} {m:Str->Option Value},s₁.heap.Ns b m->(hidT s₁.heap H).Ns b m:=fun {b m} ⟨o,es,ep,e,d,r⟩=>⟨o,es,ep,base_of e (noA e d),d,r⟩
  have hKb:K.In (hidT s₁.heap H):=fun b o e=>base_of (KX b o e) (by
   cases q:H b with
   |none=>rfl
   |some u =>
    have e':b=a:=hA b (by rw[q];simp)
    subst e'
    rw[hK (by rw[q];simp)] at e;cases e)
  have hM:Mod K mg (hidT s₁.heap H):=⟨hKb,nsK hns,⟨mb,nsK hb,hbb⟩,let ⟨mc,h1,h2⟩:=hlim;⟨mc,nsK h1,h2⟩⟩
  have e0:Env0 P w K mg (hidT s₁.heap H) callerA [] s₁ H:=⟨rfl,hM,fun b o e=>of_hidT e,Nat.le_of_eq (hidT_size _ _),trivial,fun b hb=>absurd (show b∈([]:List Addr) from hb) (by simp),hok,.of_eq hg⟩
  refine codeAny_mono ((F _ hKb (nsK hns)).run callerA [] s₁ H ⟨[.ref a],[]⟩ [.ref a] [.ref a] _ _ hr e0 (hbind s₁ (.ref a)) (.cons rfl .nil) (hsp H hO hS)) fun r s' h => ?_
  cases r with
  |error e=>exact(hCX H e s' h).elim
  |ok fl =>
   cases fl with
   |next=>exact False.elim h
   |brk=>exact False.elim h
   |cont=>exact False.elim h
   |ret u =>
    obtain⟨v,H',os,bare,un,hok',r',q⟩:=h
    have q':v = .bl true:=q
    subst q'
    obtain rfl:u=Value.bool true:=r'
    refine⟨rfl,OldK.of_keep fun b o e => ?_,os,bare⟩
    cases q:H b with
    |none=>exact un.keep b o e q (by intro z;exact absurd (show b∈([]:List Addr) from z) (by simp)) (by simp)
    |some u =>
     rcases hO b with z | ⟨ob,xs,z⟩
     ·rw[q] at z;cases z
     ·have z2:=un.frzs b ob _ z
      obtain⟨e1,_⟩:=hok b _ z
      obtain⟨e2,_⟩:=hok' b _ z2
      rw[e] at e1;cases e1
      exact e2
 cases hk:K.lookup a with
 |some o =>
  have e:=KX a o hk
  rw[ha] at e
  cases e
  refine core (fun _=>none) (fun _=>.inl rfl) (.inr ⟨_,vs.toArray,_,hk,rfl,rfl,rfl,by rw[List.size_toArray,lenV];exact hl,by simpa using rv⟩) (fun b u z=>by have z':(none:Option HO)=some u:=z;cases z') (fun b z=>absurd rfl z) fun z=>absurd rfl z
 |none =>
  refine core (fun b=>if b=a then some (.frz {cls:=.type "list",data:=.seq vs.toArray} (.lst (ns.map V.int))) else none) (fun b => ?_) (.inl (.inr ⟨{cls:=.type "list",data:=.seq vs.toArray},if_pos rfl⟩)) (fun b u z => ?_) (fun b z => ?_) fun _=>hk
  ·by_cases hb:b=a
   ·exact .inr ⟨_,_,if_pos hb⟩
   ·exact .inl (if_neg hb)
  ·by_cases hb:b=a
   ·have z':=(if_pos hb).symm.trans z
    cases z'
    subst hb
    exact⟨ha,by rw[List.length_map];exact hl,vs,_,rv,ha⟩
   ·have z':=(if_neg hb).symm.trans z
    cases z'
  ·by_cases hb:b=a
   ·exact hb
   ·exact absurd (if_neg hb) z
end L2
namespace L2
open PySem PySem.Spec PyProof.Rows
theorem walk_of{l:PySem.W.OpenLaw}{n k:Nat}{q:Program}{loose:List Str}{XP:(Str->Option Value)->Heap->Prop}{YP:World->Heap->Prop}{d:DefRec}{K:Params->PySem.W.Frag}{CX:World->CXT}{sp:World->Sp}{x:Str}
 (hn:l.most=some n) (hn2:n<=sizeLine) (hdf:d.params.defaults=[]) (hr:Room k callerA)
 (hY:∀ (w:World) (h:Heap),YP w h->(K w.params).In h)
 (F:∀ (w:World) (mg:Str->Option Value) (fa:Addr) (h:Heap),(K w.params).In h->h.Ns mainGlobals mg->mg d.name=some (.ref fa) →
   ∃ fd:FuncData,(∀ (s:Shared) (u:Value),BindsTo s fd ⟨[u],[]⟩ [(x,u)]) ∧
    ∀ base:Heap,(K w.params).In base->base.Ns mainGlobals mg->FnOk l.prog w (K w.params) mg base (CX w) k fa fd [x] (sp w))
 (hsp:∀ (w:World) (H:Hp) (a:Addr) (ns:List Int),ns.length<=n->Only H->SqL (K w.params) H a (ns.map V.int)->sp w [.ref a] H (fun v _=>v = .bl true) fun _ _ _=>False)
 (hCX:∀ (w:World) (H:Hp) (s:Shared) (e:Value) (s':Shared),CX w [] H s (fun _ _ _=>False) e s'->False) :
 PySem.W.WalkO q loose XP YP l.row.toRowW d [] (fun f vs=>PySem.call f vs):=by
 refine Att.attach_call hn hdf fun w s₀ s₁ mg mb fa o pm cd doc a vs ns G Y ho hd hcd hmg hobj hints hlen hg => ?_
 have KX:=hY w _ Y
 obtain⟨fd,hb,hF⟩:=F w mg fa _ KX G.T.g hmg
 exact law_call KX G.T.g G.T.b G.T.builtins G.T.nolimit hg hobj hints (Nat.le_trans hlen hn2) hr hF hb (fun H hO hS=>hsp w H a ns hlen hO hS) fun H e s'=>hCX w H s₁ e s'
end L2
namespace L2
open PySem PySem.Spec PyProof.Rows
noncomputable def defArgs(s:Stmt):Arguments:=match s with
 | .FunctionDef _ a _ _ _ _ _ _ _ _=>a
 |_=>{posonlyargs:=[],args:=[],vararg:=none,kwonlyargs:=[],kw_defaults:=[],kwarg:=none,defaults:=[]}
noncomputable def defBody(s:Stmt):List Stmt:=match s with
 | .FunctionDef _ _ b _ _ _ _ _ _ _=>b
 |_=>[]
noncomputable def defScope(s:Stmt):Scope:=match s with
 | .FunctionDef _ _ _ _ _ _ sc _ _ _=>sc
 |_=>{kind:=.function,names:=[],isGenerator:=false,isCoroutine:=false}
noncomputable abbrev CX0:CXT:=fun _ _ _ _ _ _=>False
noncomputable abbrev E0:XK:=fun _ _ _=>False
structure Fun(K:PySem.W.Frag)(x qual:Str)(st:Stmt)(f:Addr)(fd:FuncData):Prop where
 ex:∃ (oc:Value) (od:Option Addr) (kV doc pm:Value) (an:Option Addr) (cdv ct:Value) (osl:Array (Option Value)),
  fd=PySem.W.fnOf x qual (defArgs st) (defBody st) (defScope st) .none kV doc pm an cdv ct/\K.lookup f=some ⟨oc,od,.func fd,osl⟩/\PySem.W.codeIn K cdv qual=true
 kp:PySem.W.keepIn K (.ref f)=true
section
variable {P:Program}{w:World}{K:PySem.W.Frag}{mg:Str->Option Value}{base:Heap}
theorem Fun.ok{x qual:Str}{st:Stmt}{f:Addr}{fd:FuncData}{N ps:List Str}{k:Nat}{sp:Sp}(F:Fun K x qual st f fd)(S:FnScope N ps (defScope st))(len:∀ vs H Q E,sp vs H Q E->vs.length=ps.length)
 (hbody:∀ (cdv:Value) (A:Around) (outer:List Env) (s:Shared) (H:Hp) (vs:List V) (Q:VK) (E:XK),Room k (A.deeper (envOfC qual (defScope st) s.heap.objs.size f cdv))->sp vs H Q E →
   ∃ t,PSs (cxOf CX0 P w K mg base N qual (defScope st) f cdv A outer s H E).nox (defBody st) t/\t {nx:=fun _ H'=>Q .non H',rt:=Q} (start N vs) H):FnOk P w K mg base CX0 (k+1) f fd ps sp:=by
 obtain⟨oc,od,kV,doc,pm,an,cdv,ct,osl,rfl,lk,hcd⟩:=F.ex
 refine fn_of lk hcd S len fun A outer s H vs Q E hr hsp => ?_
 obtain⟨t,h,q⟩:=hbody cdv A outer s H vs Q E hr hsp
 exact⟨t,h.nox,q⟩
theorem Fun.binds{x qual:Str}{st:Stmt}{f:Addr}{fd:FuncData}{ps:List Str}(F:Fun K x qual st f fd)
 (h:∀ (kV doc pm:Value) (an:Option Addr) (cdv ct:Value) (us:List Value),us.length=ps.length->bindArgs (PySem.W.fnOf x qual (defArgs st) (defBody st) (defScope st) .none kV doc pm an cdv ct) ⟨us,[]⟩=pure (ps.zip us)):Binds K fd ps []:=by
 obtain⟨oc,od,kV,doc,pm,an,cdv,ct,osl,rfl,lk,hcd⟩:=F.ex
 exact .all (h kV doc pm an cdv ct)
theorem fun_mk{x qual:Str}{st:Stmt}{f:Addr}{oc:Value}{od an:Option Addr}{osl:Array (Option Value)}{kV doc pm cdv ct:Value}(l:K.lookup f=some ⟨oc,od,.func (PySem.W.fnOf x qual (defArgs st) (defBody st) (defScope st) .none kV doc pm an cdv ct),osl⟩)
 (c:PySem.W.codeIn K cdv qual=true) (k:PySem.W.keepIn K (.ref f)=true):Fun K x qual st f (PySem.W.fnOf x qual (defArgs st) (defBody st) (defScope st) .none kV doc pm an cdv ct):=⟨⟨oc,od,kV,doc,pm,an,cdv,ct,osl,rfl,l,c⟩,k⟩
end
section
variable {X:Cx}
end
theorem iteF{A B:Prop}(h:B):if false=true then A else B:=by
 rw[if_neg Bool.false_ne_true]
 exact h
theorem iteT{A B:Prop}(h:A):if true=true then A else B:=by
 rw[if_pos rfl]
 exact h
noncomputable def Same(H H':Hp):Prop:=∀ b o,H b=some o->H' b=some o
theorem Same.refl(H:Hp):Same H H:=fun _ _ h=>h
theorem Same.trans{H H1 H2:Hp}(a:Same H H1)(b:Same H1 H2):Same H H2:=fun c o h=>b c o (a c o h)
theorem Same.free{H H':Hp}(e:Same H H'){l:Addr}(h:H' l=Option.none):H l=Option.none:=by
 cases q:H l with
 |none=>rfl
 |some o =>
  rw[e l o q] at h
  cases h
theorem Same.seq{K:PySem.W.Frag}{H H':Hp}{a:Addr}{xs:List V}(e:Same H H')(h:SqL K H a xs):SqL K H' a xs:=by
 rcases h with(h | ⟨o,h⟩)|h
 ·exact .inl (.inl (e _ _ h))
 ·exact .inl (.inr ⟨o,e _ _ h⟩)
 ·exact .inr h
end L2
namespace L2
open PySem PySem.Spec PyProof.Rows
section
variable {κ:Type}[DecidableEq κ]
noncomputable def dropK(kvs:List (κ × V))(k:κ):List (κ × V):=kvs.filter fun kv=>decide (kv.1≠k)
theorem RelO.getD{o:Option V}{u:Option Value}{d:V}{d':Value}(r:RelO o u)(rd:RelV d d'):RelV (o.getD d) (u.getD d'):=by
 cases o with
 |none=>cases u with
  |none=>exact rd
  |some _=>exact(show False from r).elim
 |some _=>cases u with
  |none=>exact(show False from r).elim
  |some _=>exact r
theorem KV.any{kvs:List (κ × V)}{vs:List (κ × Value)}(r:KV kvs vs)(k:κ):(kvs.any fun kv=>decide (kv.1=k))=vs.any fun kv=>decide (kv.1=k):=by
 unfold KV at r
 induction r with
 |nil=>rfl
 |cons h t ih=>rw[List.any_cons,List.any_cons,ih,h.1]
theorem KV.drop{kvs:List (κ × V)}{vs:List (κ × Value)}(r:KV kvs vs)(k:κ):KV (dropK kvs k) (without vs k):=by
 unfold KV at r ⊢
 unfold dropK without
 induction r with
 |nil=>exact .nil
 | @cons p q ps qs h t ih =>
  obtain⟨h1,h2⟩:=h
  rw[List.filter_cons,List.filter_cons]
  by_cases e:p.1=k
  ·have a:¬ decide (p.1≠k)=true:=by simp[e]
   have b:¬ decide (q.1≠k)=true:=by simp[h1.symm.trans e]
   rw[if_neg a,if_neg b];exact ih
  ·have e':¬ q.1=k:=fun z=>e (h1.trans z)
   have a:decide (p.1≠k)=true:=by simp[e]
   have b:decide (q.1≠k)=true:=by simp[e']
   rw[if_pos a,if_pos b];exact .cons ⟨h1,h2⟩ ih
theorem KV.keys{kvs:List (κ × V)}{vs:List (κ × Value)}(r:KV kvs vs):kvs.map (·.1)=vs.map (·.1):=by
 unfold KV at r
 induction r with
 |nil=>rfl
 |cons h t ih=>rw[List.map_cons,List.map_cons,ih,h.1]
theorem KV.length{kvs:List (κ × V)}{vs:List (κ × Value)}(r:KV kvs vs):kvs.length=vs.length:=Paired.length r
end
noncomputable abbrev KT(H:Hp):List (List Key × V)->List (List Key × Addr × Value)->Prop:=Paired fun p q=>p.1=q.1/\H q.2.1=some (.tup (p.1.map kV))/\RelV p.2 q.2.2
section
variable {P:Program}{w:World}{H:Hp}{h:Heap}{a:Addr}
end
section
variable {X:Cx}{pins:List (Addr × Obj)}{σ:St}{H:Hp}{s:Shared}{a:Addr}{y v:V}{u r:Value}{o:Option V}{A:Around}{E:Value->Shared->Prop}
end
section
variable {X:Cx}{pins:List (Addr × Obj)}{σ:St}{H:Hp}{s:Shared}{a:Addr}{kvs:List (Key × V)}{k:Key}{u:Value}{A:Around}{E:Value->Shared->Prop}
end
section
variable {X:Cx}{o i e value:Expr}{pos pos' tpos:Pos}{td ty tv:TE}
end
section
variable {X:Cx}{pos:Pos}
end
structure M1(X:Cx)(o:Expr)(m:Str)(apos:Pos)(e:Expr)(cpos:Pos):Prop where
 base:attributeBase o m X.env (eval o X.env)=eval o X.env
 few:((backTo cpos (starEach [e] X.env)).all (fun x => !x.1) && (backToKw cpos (keywordEach [] X.env)).all (fun x=>x.1.isSome)
  && decide (([e]:List Expr).length+([]:List Keyword).length+(if ([]:List Keyword).isEmpty then 0 else 1)<30))=true
 line:(apos.endLine == cpos.line)=true
 trees:backTo cpos (starEach [e] X.env)=[(false,eval e X.env)]
structure M2(X:Cx)(o:Expr)(m:Str)(apos:Pos)(e f:Expr)(cpos:Pos):Prop where
 base:attributeBase o m X.env (eval o X.env)=eval o X.env
 few:((backTo cpos (starEach [e,f] X.env)).all (fun x => !x.1) && (backToKw cpos (keywordEach [] X.env)).all (fun x=>x.1.isSome)
  && decide (([e,f]:List Expr).length+([]:List Keyword).length+(if ([]:List Keyword).isEmpty then 0 else 1)<30))=true
 line:(apos.endLine == cpos.line)=true
 trees:backTo cpos (starEach [e,f] X.env)=[(false,eval e X.env),(false,eval f X.env)]
section
variable {X:Cx}{pins:List (Addr × Obj)}{σ:St}{H:Hp}{s:Shared}{a:Addr}{y d:V}{u r:Value}{o:Option V}{A:Around}{E:Value->Shared->Prop}
end
section
variable {X:Cx}{o e f:Expr}{apos cpos:Pos}{td ty tx:TE}
end
section
variable {X:Cx}{pins:List (Addr × Obj)}{σ:St}{H:Hp}{s:Shared}{a:Addr}{kvs:List (Key × V)}{A:Around}{E:Value->Shared->Prop}
end
section
variable {X:Cx}{pins:List (Addr × Obj)}{σ:St}{H:Hp}{s:Shared}{a:Addr}{y:V}{u:Value}{A:Around}{E:Value->Shared->Prop}
end
end L2
namespace L2
open PySem PySem.Spec PyProof.Rows
section
variable {X:Cx}
end
end L2
set_option genSizeOf false
namespace MP
inductive G where
 |non|bl (b:Bool)|int (i:Int)|str (x:List Nat)|tup (xs:List G)
 deriving Inhabited
mutual
def geq:G->G->Bool
 | .non,.non=>true
 | .bl a,.bl b=>a == b
 | .int i,.int j=>i == j
 | .str x,.str y=>x == y
 | .tup xs,.tup ys=>geqs xs ys
 |_,_=>false
def geqs:List G->List G->Bool
 | [],[]=>true
 |x::xs,y::ys=>geq x y && geqs xs ys
 |_,_=>false
end
mutual
theorem geq_iff:∀ a b:G,geq a b=true↔a=b
 | .non,b=>by cases b<;>simp[geq]
 | .bl a,b=>by cases b<;>simp[geq]
 | .int a,b=>by cases b<;>simp[geq]
 | .str a,b=>by cases b<;>simp[geq]
 | .tup xs,b=>by
  cases b with
  |tup ys=>simp[geq,geqs_iff xs ys]
  |_=>simp[geq]
theorem geqs_iff:∀ xs ys:List G,geqs xs ys=true↔xs=ys
 | [],ys=>by cases ys<;>simp[geqs]
 |x::xs,ys=>by
  cases ys with
  |nil=>simp[geqs]
  |cons y ys=>simp[geqs,geq_iff x y,geqs_iff xs ys]
end
instance:DecidableEq G:=fun a b=>decidable_of_iff _ (geq_iff a b)
inductive R where
 |g (x:G)|ref (i:Nat)|tr (xs:List R)
 deriving Inhabited
mutual
def req:R->R->Bool
 | .g a,.g b=>geq a b
 | .ref i,.ref j=>i == j
 | .tr xs,.tr ys=>reqs xs ys
 |_,_=>false
def reqs:List R->List R->Bool
 | [],[]=>true
 |x::xs,y::ys=>req x y && reqs xs ys
 |_,_=>false
end
mutual
theorem req_iff:∀ a b:R,req a b=true↔a=b
 | .g a,b=>by cases b<;>simp[req,geq_iff]
 | .ref a,b=>by cases b<;>simp[req]
 | .tr xs,b=>by
  cases b with
  |tr ys=>simp[req,reqs_iff xs ys]
  |_=>simp[req]
theorem reqs_iff:∀ xs ys:List R,reqs xs ys=true↔xs=ys
 | [],ys=>by cases ys<;>simp[reqs]
 |x::xs,ys=>by
  cases ys with
  |nil=>simp[reqs]
  |cons y ys=>simp[reqs,req_iff x y,reqs_iff xs ys]
end
instance:DecidableEq R:=fun a b=>decidable_of_iff _ (req_iff a b)
inductive Cell where
 |lst (xs:List G)|rdl (xs:List G)|dct (kvs:List (G × G))|rls (xs:List R)|rdd (kvs:List (G × G))|dtg (kvs:List (G × G))|rdt (kvs:List (G × G))|stk (m:Nat) (xs:List R)
 deriving DecidableEq,Inhabited
noncomputable abbrev Store:=List Cell
noncomputable abbrev Env:=List (Option R)
inductive Res (α:Type) where
 |ok (a:α) (σ:Store)|exc (c:String) (σ:Store)|stuck
 deriving Inhabited
noncomputable def Res.bind{α β:Type}:Res α->(α->Store->Res β)->Res β
 | .ok a σ,f=>f a σ
 | .exc c σ,_=>.exc c σ
 | .stuck,_=>.stuck
@[simp] theorem bind_ok{α β:Type}(a:α)(σ:Store)(f:α->Store->Res β):(Res.ok a σ).bind f=f a σ:=rfl
@[simp] theorem bind_exc{α β:Type}(c:String)(σ:Store)(f:α->Store->Res β):(Res.exc c σ:Res α).bind f = .exc c σ:=rfl
@[simp] theorem bind_stuck{α β:Type}(f:α->Store->Res β):(Res.stuck:Res α).bind f = .stuck:=rfl
noncomputable def b2i(b:Bool):Int:=if b then 1 else 0
mutual
noncomputable def peq:G->G->Bool
 | .non,.non=>true
 | .bl a,.bl b=>a == b
 | .bl a,.int i=>b2i a == i
 | .int i,.bl a=>i == b2i a
 | .int i,.int j=>i == j
 | .str x,.str y=>x == y
 | .tup xs,.tup ys=>peqs xs ys
 |_,_=>false
noncomputable def peqs:List G->List G->Bool
 | [],[]=>true
 |x::xs,y::ys=>peq x y && peqs xs ys
 |_,_=>false
end
mutual
noncomputable def gdep:G->Nat
 | .tup xs=>gdeps xs+1
 |_=>0
noncomputable def gdeps:List G->Nat
 | []=>0
 |x::r=>max (gdep x) (gdeps r)
end
noncomputable def shal(x:G):Bool:=decide (gdep x<=150)
noncomputable def ixOf(n:Nat)(i:Int):Option Nat:=if 0<=i then (if i<n then some i.toNat else none) else if -(n:Int)<=i then some (i+n).toNat else none
noncomputable def at?{α:Type}(xs:List α)(i:Int):Option α:=(ixOf xs.length i).bind fun j=>xs[j]?
noncomputable def isKey:G->Bool
 | .int _=>true
 | .str _=>true
 |_=>false
mutual
noncomputable def keyG:G->Bool
 | .int _=>true
 | .str _=>true
 | .tup xs=>keyGs xs
 |_=>false
noncomputable def keyGs:List G->Bool
 | []=>true
 |x::r=>keyG x && keyGs r
end
noncomputable def tkey:G->Bool
 | .tup xs=>keyGs xs
 |_=>false
noncomputable def tells(kvs:List (G × G))(k:G):Bool:=(kvs.isEmpty && decide (gdep k<=100)) || (decide (gdep k<=8) && kvs.all fun p=>decide (gdep p.1<=8))
noncomputable def tell8(kvs:List (G × G))(k:G):Bool:=decide (gdep k<=8) && kvs.all fun p=>decide (gdep p.1<=8)
noncomputable def dget:List (G × G)->G->Option G
 | [],_=>none
 | (k,v)::r,j=>if k=j then some v else dget r j
noncomputable def dput:List (G × G)->G->G->List (G × G)
 | [],k,v=>[(k,v)]
 | (j,u)::r,k,v=>if j=k then (j,v)::r else (j,u)::dput r k v
noncomputable def dictEq(a b:List (G × G)):Bool:=a.length == b.length && a.all fun p=>match dget b p.1 with
 |some v=>peq p.2 v
 |none=>false
noncomputable def big:Nat:=100000
noncomputable def asG:R->Option G
 | .g x=>some x
 |_=>none
noncomputable def allG:List R->Option (List G)
 | []=>some []
 | .g x::r=>(allG r).map (x :: ·)
 |_::_=>none
inductive Ty where
 |int|bool|str|tuple|list|dict
 deriving DecidableEq
inductive Prim where
 |add|sub|mul|fdiv|mod|pow
 |eq|ne|lt|le|gt|ge|isN|notN|inn|notin
 |idx|len|tup|lst|dct0|dtg0|setdefT|lenT|innT|notinT|idxT|pop|zipL|cutF|cutT|notinS|lstR|appR|popR
 |strOf|join|cutS|starts|intOf|innS
 |tupleOf|listOf|dictOf
 |get1|get2|setdef|append|extend|clear|index
 |sum|max1|maxd|max2|min2|all
 |isInst (t:Ty)
 |slice (lo hi:Bool)
noncomputable def okG(x:G)(σ:Store):Res R:=.ok (.g x) σ
noncomputable def pAdd:List R->Store->Res R
 | [.g (.int i),.g (.int j)],σ=>okG (.int (i+j)) σ
 | [.g (.str x),.g (.str y)],σ=>if x.length+y.length<=big then okG (.str (x++y)) σ else .stuck
 | [.g (.tup x),.g (.tup y)],σ=>if x.length+y.length<=big then okG (.tup (x++y)) σ else .stuck
 | [.ref i,.ref j],σ=>match σ[i]?,σ[j]? with
  |some (.lst x),some (.lst y)=>if x.length+y.length<=big then .ok (.ref σ.length) (σ++[.lst (x++y)]) else .stuck
  |_,_=>.stuck
 |_,_=>.stuck
noncomputable def pSub:List R->Store->Res R
 | [.g (.int i),.g (.int j)],σ=>okG (.int (i-j)) σ
 |_,_=>.stuck
noncomputable def pMul:List R->Store->Res R
 | [.g (.int i),.g (.int j)],σ=>if (-(2 ^ 64)<i/\i<2 ^ 64)\/(-(2 ^ 64)<j/\j<2 ^ 64) then okG (.int (i*j)) σ else .stuck
 |_,_=>.stuck
noncomputable def pFdiv:List R->Store->Res R
 | [.g (.int i),.g (.int j)],σ=>if 0<j/\j<1073741824 then okG (.int (i / j)) σ else .stuck
 |_,_=>.stuck
noncomputable def pMod:List R->Store->Res R
 | [.g (.int i),.g (.int j)],σ=>if 0<j then okG (.int (i % j)) σ else .stuck
 |_,_=>.stuck
noncomputable def pPow:List R->Store->Res R
 | [.g (.int i),.g (.int j)],σ=>if 0<=j/\j<=1000000/\i.natAbs<2 ^ 64 then okG (.int (i ^ j.toNat)) σ else .stuck
 |_,_=>.stuck
noncomputable def cellEq:Cell->Cell->Option Bool
 | .lst x,.lst y=>if x.all shal then some (peqs x y) else none
 | .lst x,.rdl y=>if x.all shal then some (peqs x y) else none
 | .rdl x,.lst y=>if x.all shal then some (peqs x y) else none
 | .dct x,.dct y=>if x.all (fun p=>shal p.2) then some (dictEq x y) else none
 | .rdd x,.dct y=>if x.all (fun p=>shal p.2) then some (dictEq x y) else none
 | .dct x,.rdd y=>if x.all (fun p=>shal p.2) then some (dictEq x y) else none
 | .rdd x,.rdd y=>if x.all (fun p=>shal p.2) then some (dictEq x y) else none
 |_,_=>none
noncomputable def intKeys(xs:List (G × G)):Bool:=xs.all fun p=>match p.1 with
 | .int _=>true
 |_=>false
noncomputable def asD:Cell->Option (List (G × G))
 | .dct x=>some x
 | .rdd x=>some x
 |_=>none
noncomputable def dctEq(c d:Cell):Option Bool:=match asD c,asD d with
 |some x,some y=>if x.all (fun p=>shal p.2) && (intKeys x && intKeys y) then some (dictEq x y) else none
 |_,_=>none
noncomputable def refsEq(σ:Store):List R->List R->Option Bool
 | [],[]=>some true
 | .ref i::r,.ref j::t=>match σ[i]?,σ[j]? with
  |some c,some d=>match dctEq c d with
   |some b=>match refsEq σ r t with
    |some b'=>some (b && b')
    |none=>none
   |none=>none
  |_,_=>none
 |_,_=>none
noncomputable def cellsR(σ:Store):Cell->Cell->Option Bool
 |_,_=>none
noncomputable def reqv(σ:Store):R->R->Option Bool
 | .g x,.g y=>if shal x then some (peq x y) else none
 | .ref i,.ref j=>match σ[i]?,σ[j]? with
  |some c,some d=>match cellEq c d with
   |some b=>some b
   |none=>cellsR σ c d
  |_,_=>none
 |_,_=>none
noncomputable def pEq:List R->Store->Res R
 | [x,y],σ=>match reqv σ x y with
  |some b=>okG (.bl b) σ
  |none=>.stuck
 |_,_=>.stuck
noncomputable def pNe:List R->Store->Res R
 | [x,y],σ=>match reqv σ x y with
  |some b=>okG (.bl (!b)) σ
  |none=>.stuck
 |_,_=>.stuck
noncomputable def pLt:List R->Store->Res R
 | [.g (.int i),.g (.int j)],σ=>okG (.bl (decide (i<j))) σ
 |_,_=>.stuck
noncomputable def pLe:List R->Store->Res R
 | [.g (.int i),.g (.int j)],σ=>okG (.bl (decide (i<=j))) σ
 |_,_=>.stuck
noncomputable def pGt:List R->Store->Res R
 | [.g (.int i),.g (.int j)],σ=>okG (.bl (decide (j<i))) σ
 |_,_=>.stuck
noncomputable def pGe:List R->Store->Res R
 | [.g (.int i),.g (.int j)],σ=>okG (.bl (decide (j<=i))) σ
 |_,_=>.stuck
noncomputable def isNon:R->Bool
 | .g .non=>true
 |_=>false
noncomputable def pIsN:List R->Store->Res R
 | [x,.g .non],σ=>okG (.bl (isNon x)) σ
 |_,_=>.stuck
noncomputable def pNotN:List R->Store->Res R
 | [x,.g .non],σ=>okG (.bl (!isNon x)) σ
 |_,_=>.stuck
noncomputable def hasIn(σ:Store):R->R->Option Bool
 | .g x,.g (.tup ys)=>if ys.all shal then some (ys.any fun y=>peq y x) else none
 | .g x,.ref i=>match σ[i]? with
  |some (.lst ys)=>if ys.all shal then some (ys.any fun y=>peq y x) else none
  |some (.dct kvs)=>if isKey x then some (dget kvs x).isSome else none
  |some (.rdd kvs)=>if isKey x then some (dget kvs x).isSome else none
  |_=>none
 |_,_=>none
noncomputable def pIn:List R->Store->Res R
 | [x,y],σ=>match hasIn σ x y with
  |some b=>okG (.bl b) σ
  |none=>.stuck
 |_,_=>.stuck
noncomputable def pNotIn:List R->Store->Res R
 | [x,y],σ=>match hasIn σ x y with
  |some b=>okG (.bl (!b)) σ
  |none=>.stuck
 |_,_=>.stuck
noncomputable def ofO{α:Type}(o:Option α)(f:α->Res R):Res R:=match o with
 |some x=>f x
 |none=>.stuck
noncomputable def pIdx:List R->Store->Res R
 | [.g (.tup xs),.g (.int i)],σ=>ofO (at? xs i) fun x=>okG x σ
 | [.g (.str xs),.g (.int i)],σ=>ofO (at? xs i) fun c=>okG (.str [c]) σ
 | [.tr xs,.g (.int i)],σ=>ofO (at? xs i) fun r=>.ok r σ
 | [.ref k,.g i],σ=>match σ[k]?,i with
  |some (.lst xs),.int i=>ofO (at? xs i) fun x=>okG x σ
  |some (.rdl xs),.int i=>ofO (at? xs i) fun x=>okG x σ
  |some (.rls xs),.int i=>ofO (at? xs i) fun r=>.ok r σ
  |some (.stk (_+1) xs),.int i=>ofO (at? xs i) fun r=>.ok r σ
  |some (.dct kvs),i=>if isKey i then ofO (dget kvs i) fun x=>okG x σ else .stuck
  |some (.rdd kvs),i=>if isKey i then ofO (dget kvs i) fun x=>okG x σ else .stuck
  |_,_=>.stuck
 |_,_=>.stuck
noncomputable def lenOf(σ:Store):R->Option Nat
 | .g (.tup xs)=>some xs.length
 | .g (.str xs)=>some xs.length
 | .tr xs=>some xs.length
 | .ref k=>match σ[k]? with
  |some (.lst xs)=>some xs.length
  |some (.rdl xs)=>some xs.length
  |some (.rls xs)=>some xs.length
  |some (.dct xs)=>some xs.length
  |some (.rdd xs)=>some xs.length
  |some (.dtg _)=>none
  |some (.rdt _)=>none
  |some (.stk 0 _)=>none
  |some (.stk (_+1) xs)=>some xs.length
  |none=>none
 |_=>none
noncomputable def pLen:List R->Store->Res R
 | [x],σ=>ofO (lenOf σ x) fun n=>okG (.int n) σ
 |_,_=>.stuck
noncomputable def mkTup(xs:List R):R:=match allG xs with
 |some gs=>.g (.tup gs)
 |none=>.tr xs
noncomputable def mkLst(xs:List R):Cell:=match allG xs with
 |some gs=>.lst gs
 |none=>.rls xs
noncomputable def pTup(xs:List R)(σ:Store):Res R:=if xs.length<=1000 then .ok (mkTup xs) σ else .stuck
noncomputable def pLst(xs:List R)(σ:Store):Res R:=if xs.length<=1000 then .ok (.ref σ.length) (σ++[mkLst xs]) else .stuck
noncomputable def pDct0:List R->Store->Res R
 | [],σ=>.ok (.ref σ.length) (σ++[.dct []])
 |_,_=>.stuck
noncomputable def pDtg0:List R->Store->Res R
 | [],σ=>.ok (.ref σ.length) (σ++[.dtg []])
 |_,_=>.stuck
noncomputable def pSetdefT:List R->Store->Res R
 | [.ref k,.g i,.g d],σ=>match σ[k]? with
  |some (.dtg kvs)=>if tkey i && tells kvs i && decide (kvs.length<big) then (match dget kvs i with
   |some v=>okG v σ
   |none=>.ok (.g d) (σ.set k (.dtg (kvs++[(i,d)])))) else .stuck
  |_=>.stuck
 |_,_=>.stuck
noncomputable def pLenT:List R->Store->Res R
 | [.ref k],σ=>match σ[k]? with
  |some (.dtg kvs)=>okG (.int kvs.length) σ
  |_=>.stuck
 |_,_=>.stuck
noncomputable def pInnT:List R->Store->Res R
 | [.g i,.ref k],σ=>match σ[k]? with
  |some (.dtg kvs)=>if tkey i && tell8 kvs i then okG (.bl (dget kvs i).isSome) σ else .stuck
  |_=>.stuck
 |_,_=>.stuck
noncomputable def pNotInT:List R->Store->Res R
 | [.g i,.ref k],σ=>match σ[k]? with
  |some (.dtg kvs)=>if tkey i && tell8 kvs i then okG (.bl (!(dget kvs i).isSome)) σ else .stuck
  |_=>.stuck
 |_,_=>.stuck
noncomputable def pIdxT:List R->Store->Res R
 | [.ref k,.g i],σ=>match σ[k]? with
  |some (.dtg kvs)=>if tkey i && tell8 kvs i then (match dget kvs i with
   |some v=>okG v σ
   |none=>.stuck) else .stuck
  |_=>.stuck
 |_,_=>.stuck
noncomputable def pPop:List R->Store->Res R
 | [.ref k],σ=>match σ[k]? with
  |some (.lst xs)=>(match xs.getLast? with
   |some x=>.ok (.g x) (σ.set k (.lst xs.dropLast))
   |none=>.stuck)
  |_=>.stuck
 |_,_=>.stuck
noncomputable def zipG:List G->List G->List G
 |x::r,y::t=>.tup [x,y]::zipG r t
 |_,_=>[]
noncomputable def pZipL:List R->Store->Res R
 | [.g (.tup xs),.g (.tup ys)],σ=>.ok (.ref σ.length) (σ++[.lst (zipG xs ys)])
 |_,_=>.stuck
noncomputable def pTupleOf:List R->Store->Res R
 | [.g (.tup xs)],σ=>okG (.tup xs) σ
 | [.ref k],σ=>match σ[k]? with
  |some (.lst xs)=>okG (.tup xs) σ
  |some (.rdl xs)=>okG (.tup xs) σ
  |_=>.stuck
 |_,_=>.stuck
noncomputable def pListOf:List R->Store->Res R
 | [.g (.tup xs)],σ=>.ok (.ref σ.length) (σ++[.lst xs])
 | [.ref k],σ=>match σ[k]? with
  |some (.lst xs)=>.ok (.ref σ.length) (σ++[.lst xs])
  |some (.rdl xs)=>.ok (.ref σ.length) (σ++[.lst xs])
  |some (.dct kvs)=>if intKeys kvs then .ok (.ref σ.length) (σ++[.lst (kvs.map fun p=>p.1)]) else .stuck
  |_=>.stuck
 |_,_=>.stuck
noncomputable def pDictOf:List R->Store->Res R
 | [.ref k],σ=>match σ[k]? with
  |some (.dct xs)=>.ok (.ref σ.length) (σ++[.dct xs])
  |some (.rdd xs)=>.ok (.ref σ.length) (σ++[.dct xs])
  |_=>.stuck
 |_,_=>.stuck
noncomputable def pGet1:List R->Store->Res R
 | [.ref k,.g i],σ=>match σ[k]? with
  |some (.dct kvs)=>if isKey i then okG ((dget kvs i).getD .non) σ else .stuck
  |some (.rdd kvs)=>if isKey i then okG ((dget kvs i).getD .non) σ else .stuck
  |_=>.stuck
 |_,_=>.stuck
noncomputable def pGet2:List R->Store->Res R
 | [.ref k,.g i,.g d],σ=>match σ[k]? with
  |some (.dct kvs)=>if isKey i then okG ((dget kvs i).getD d) σ else .stuck
  |some (.rdd kvs)=>if isKey i then okG ((dget kvs i).getD d) σ else .stuck
  |_=>.stuck
 |_,_=>.stuck
noncomputable def pSetdef:List R->Store->Res R
 | [.ref k,.g i,.g d],σ=>match σ[k]? with
  |some (.dct kvs)=>if isKey i && decide (kvs.length<big) then (match dget kvs i with
   |some v=>okG v σ
   |none=>.ok (.g d) (σ.set k (.dct (dput kvs i d)))) else .stuck
  |_=>.stuck
 |_,_=>.stuck
noncomputable def pAppend:List R->Store->Res R
 | [.ref k,.g x],σ=>match σ[k]? with
  |some (.lst xs)=>if xs.length<big then .ok (.g .non) (σ.set k (.lst (xs++[x]))) else .stuck
  |_=>.stuck
 |_,_=>.stuck
noncomputable def pExtend:List R->Store->Res R
 | [.ref k,.ref j],σ=>match σ[k]?,σ[j]? with
  |some (.lst xs),some (.lst ys)=>if xs.length+ys.length<=big then .ok (.g .non) (σ.set k (.lst (xs++ys))) else .stuck
  |_,_=>.stuck
 |_,_=>.stuck
noncomputable def pClear:List R->Store->Res R
 | [.ref k],σ=>match σ[k]? with
  |some (.dct _)=>.ok (.g .non) (σ.set k (.dct []))
  |_=>.stuck
 |_,_=>.stuck
noncomputable def pIndex:List R->Store->Res R
 | [.ref k,.g x],σ=>match σ[k]? with
  |some (.lst xs)=>if xs.all shal then (match xs.findIdx? (fun y=>peq y x) with
   |some i=>okG (.int i) σ
   |none=>.stuck) else .stuck
  |_=>.stuck
 |_,_=>.stuck
noncomputable def intsOf:List G->Option (List Int)
 | []=>some []
 | .int i::r=>(intsOf r).map (i :: ·)
 |_::_=>none
noncomputable def bools:List G->Option (List Bool)
 | []=>some []
 | .bl i::r=>(bools r).map (i :: ·)
 |_::_=>none
noncomputable def pSum:List R->Store->Res R
 | [.ref k],σ=>match σ[k]? with
  |some (.lst xs)=>ofO (intsOf xs) fun is=>okG (.int is.sum) σ
  |_=>.stuck
 |_,_=>.stuck
noncomputable def maxL:Int->List Int->Int
 |m,[]=>m
 |m,x::r=>maxL (if x > m then x else m) r
noncomputable def pMax1:List R->Store->Res R
 | [.ref k],σ=>match σ[k]? with
  |some (.lst xs)=>match intsOf xs with
   |some (i::is)=>okG (.int (maxL i is)) σ
   |_=>.stuck
  |_=>.stuck
 |_,_=>.stuck
noncomputable def pMaxd:List R->Store->Res R
 | [.ref k,.g d],σ=>match σ[k]? with
  |some (.lst xs)=>match intsOf xs with
   |some (i::is)=>okG (.int (maxL i is)) σ
   |some []=>okG d σ
   |none=>.stuck
  |_=>.stuck
 |_,_=>.stuck
noncomputable def pMax2:List R->Store->Res R
 | [.g (.int i),.g (.int j)],σ=>okG (.int (if j > i then j else i)) σ
 |_,_=>.stuck
noncomputable def pMin2:List R->Store->Res R
 | [.g (.int i),.g (.int j)],σ=>okG (.int (if j<i then j else i)) σ
 |_,_=>.stuck
noncomputable def pAll:List R->Store->Res R
 | [.ref k],σ=>match σ[k]? with
  |some (.lst xs)=>ofO (bools xs) fun bs=>okG (.bl (bs.all id)) σ
  |_=>.stuck
 |_,_=>.stuck
noncomputable def tyOf(σ:Store):R->Option (List Ty)
 | .g (.int _)=>some [.int]
 | .g (.bl _)=>some [.bool,.int]
 | .g (.str _)=>some [.str]
 | .g (.tup _)=>some [.tuple]
 | .g .non=>some []
 | .tr _=>some [.tuple]
 | .ref k=>match σ[k]? with
  |some (.lst _)=>some [.list]
  |some (.rdl _)=>some [.list]
  |some (.rls _)=>some [.list]
  |some (.dct _)=>some [.dict]
  |some (.rdd _)=>none
  |some (.dtg _)=>none
  |some (.rdt _)=>none
  |some (.stk _ _)=>none
  |none=>none
noncomputable def pIsInst(t:Ty):List R->Store->Res R
 | [x],σ=>ofO (tyOf σ x) fun ts=>okG (.bl (ts.contains t)) σ
 |_,_=>.stuck
noncomputable def cutIx(n d:Nat):Option Int->Nat
 |none=>d
 |some v=>if v<0 then (max (v+(n:Int)) 0).toNat else (min v (n:Int)).toNat
noncomputable def cut{α:Type}(xs:List α)(lo hi:Option Int):List α:=(xs.drop (cutIx xs.length 0 lo)).take (cutIx xs.length xs.length hi-cutIx xs.length 0 lo)
noncomputable def bounds:Bool->Bool->List R->Option (Option Int × Option Int)
 |false,false,[]=>some (none,none)
 |true,false,[.g (.int i)]=>some (some i,none)
 |false,true,[.g (.int j)]=>some (none,some j)
 |true,true,[.g (.int i),.g (.int j)]=>some (some i,some j)
 |_,_,_=>none
noncomputable def pSlice(lo hi:Bool):List R->Store->Res R
 | .g (.tup xs)::r,σ=>ofO (bounds lo hi r) fun b=>if cutIx xs.length 0 b.1=0/\cutIx xs.length xs.length b.2=xs.length then .stuck else okG (.tup (cut xs b.1 b.2)) σ
 | .ref k::r,σ=>match σ[k]? with
  |some (.lst xs)=>ofO (bounds lo hi r) fun b=>.ok (.ref σ.length) (σ++[.lst (cut xs b.1 b.2)])
  |_=>.stuck
 |_,_=>.stuck
noncomputable def dec(i:Int):List Nat:=(toString i).toList.map Char.toNat
noncomputable def pStrOf:List R->Store->Res R
 | [.g (.int i)],σ=>if 0<=i/\i<1000000000 then okG (.str (dec i)) σ else .stuck
 |_,_=>.stuck
noncomputable def joinL(sep:List Nat):List (List Nat)->List Nat
 | []=>[]
 | [x]=>x
 |x::r=>x++sep++joinL sep r
noncomputable def strsOf:List G->Option (List (List Nat))
 | []=>some []
 | .str x::r=>(strsOf r).map (x :: ·)
 |_::_=>none
noncomputable def lens:List (List Nat)->Nat
 | []=>0
 |x::r=>x.length+lens r
noncomputable def pJoin:List R->Store->Res R
 | [.g (.str sep),.ref k],σ=>match σ[k]? with
  |some (.lst xs)=>ofO (strsOf xs) fun ys=>if lens ys+ys.length*sep.length<=big then okG (.str (joinL sep ys)) σ else .stuck
  |_=>.stuck
 |_,_=>.stuck
noncomputable def pCutS:List R->Store->Res R
 | [.g (.str xs),.g (.int i),.g (.int j)],σ=>if 0<=i/\i<=j then okG (.str ((xs.drop i.toNat).take (j.toNat-i.toNat))) σ else .stuck
 |_,_=>.stuck
noncomputable def pStarts:List R->Store->Res R
 | [.g (.str x),.g (.str y)],σ=>okG (.bl (y.isPrefixOf x)) σ
 |_,_=>.stuck
noncomputable def valD(x:List Nat):Int:=((x.foldl (fun a c=>a*10+(c-48)) 0:Nat):Int)
noncomputable def pIntOf:List R->Store->Res R
 | [.g (.str x)],σ=>if dec (valD x)=x/\valD x<1000000000 then okG (.int (valD x)) σ else .stuck
 |_,_=>.stuck
noncomputable def pInnS:List R->Store->Res R
 | [.g (.str [c]),.g (.str y)],σ=>okG (.bl (y.contains c)) σ
 |_,_=>.stuck
noncomputable def pCutF:List R->Store->Res R
 | [.g (.str xs),.g (.int i)],σ=>if 0<=i then okG (.str (xs.drop i.toNat)) σ else .stuck
 |_,_=>.stuck
noncomputable def pCutT:List R->Store->Res R
 | [.g (.str xs),.g (.int i)],σ=>if 0<=i then okG (.str (xs.take i.toNat)) σ else .stuck
 |_,_=>.stuck
noncomputable def pNotinS:List R->Store->Res R
 | [.g (.str [c]),.g (.str y)],σ=>okG (.bl (!y.contains c)) σ
 |_,_=>.stuck
noncomputable def pLstR:List R->Store->Res R
 | [.ref j],σ=>if j<σ.length then .ok (.ref σ.length) (σ++[.stk (σ.length+1) [.ref j]]) else .stuck
 |_,_=>.stuck
noncomputable def pAppR:List R->Store->Res R
 | [.ref k,.ref j],σ=>match σ[k]? with
  |some (.stk (_+1) xs)=>if xs.length<big/\j<σ.length then .ok (.g .non) (σ.set k (.stk σ.length (xs++[.ref j]))) else .stuck
  |_=>.stuck
 |_,_=>.stuck
noncomputable def pPopR:List R->Store->Res R
 | [.ref k],σ=>match σ[k]? with
  |some (.stk (m+1) xs)=>(match xs.getLast? with
   |some x=>.ok x (σ.set k (.stk (m+1) xs.dropLast))
   |none=>.stuck)
  |_=>.stuck
 |_,_=>.stuck
noncomputable def prim:Prim->List R->Store->Res R
 | .add=>pAdd | .sub=>pSub | .mul=>pMul | .fdiv=>pFdiv | .mod=>pMod | .pow=>pPow
 | .eq=>pEq | .ne=>pNe | .lt=>pLt | .le=>pLe | .gt=>pGt | .ge=>pGe | .isN=>pIsN | .notN=>pNotN | .inn=>pIn | .notin=>pNotIn
 | .idx=>pIdx | .len=>pLen | .tup=>pTup | .lst=>pLst | .dct0=>pDct0 | .dtg0=>pDtg0 | .setdefT=>pSetdefT | .lenT=>pLenT | .innT=>pInnT | .notinT=>pNotInT | .idxT=>pIdxT | .pop=>pPop | .zipL=>pZipL | .cutF=>pCutF | .cutT=>pCutT | .notinS=>pNotinS | .lstR=>pLstR | .appR=>pAppR | .popR=>pPopR
 | .strOf=>pStrOf | .join=>pJoin | .cutS=>pCutS | .starts=>pStarts | .intOf=>pIntOf | .innS=>pInnS
 | .tupleOf=>pTupleOf | .listOf=>pListOf | .dictOf=>pDictOf
 | .get1=>pGet1 | .get2=>pGet2 | .setdef=>pSetdef | .append=>pAppend | .extend=>pExtend | .clear=>pClear | .index=>pIndex
 | .sum=>pSum | .max1=>pMax1 | .maxd=>pMaxd | .max2=>pMax2 | .min2=>pMin2 | .all=>pAll
 | .isInst t=>pIsInst t
 | .slice lo hi=>pSlice lo hi
noncomputable def tru(σ:Store):R->Option Bool
 | .g .non=>some false
 | .g (.bl b)=>some b
 | .g (.int i)=>some (i !=0)
 | .g (.str x)=>some (!x.isEmpty)
 | .g (.tup x)=>some (!x.isEmpty)
 | .tr x=>some (!x.isEmpty)
 | .ref k=>match σ[k]? with
  |some (.lst x)=>some (!x.isEmpty)
  |some (.rdl x)=>some (!x.isEmpty)
  |some (.rls x)=>some (!x.isEmpty)
  |some (.dct x)=>some (!x.isEmpty)
  |some (.rdd _)=>none
  |some (.dtg _)=>none
  |some (.rdt _)=>none
  |some (.stk _ _)=>none
  |none=>none
mutual
inductive Tm where
 |var (i:Nat)
 |con (x:G)
 |glb (f:String) (x:G)
 |op (p:Prim) (as:Tms)
 |meth (p:Prim) (a:Tm) (as:Tms)
 |call (f:String) (as:Tms)
 |andT (a b:Tm)
 |orT (a b:Tm)
 |notT (a:Tm)
 |ifT (c a b:Tm)
 |chain (p q:Prim) (a b c:Tm)
 |comp (k:Nat) (caps:List Nat) (s:Src) (conds:Tms) (elt:Tm)
inductive Tms where
 |nil
 |cons (a:Tm) (as:Tms)
inductive Src where
 |over (e:Tm)
 |range1 (e:Tm)
 |range2 (a b:Tm)
 |items (e:Tm)
 |itemsT (e:Tm)
 |enum (e s:Tm)
 |zip (a b:Tm)
 |keys (e:Tm)
 |chars (e:Tm)
end
structure Walk where
 items:List R
 guard:Option (Nat × Cell)
noncomputable def okW(xs:List R)(σ:Store):Res Walk:=.ok ⟨xs,none⟩ σ
noncomputable def rangeL(lo n:Int):List R:=(List.range (n-lo).toNat).map fun(k:Nat)=>.g (.int (lo+(k:Int)))
noncomputable def wOver:R->Store->Res Walk
 | .g (.tup xs),σ=>okW (xs.map .g) σ
 | .ref k,σ=>match σ[k]? with
  |some (.lst xs)=>.ok ⟨xs.map .g,some (k,.lst xs)⟩ σ
  |some (.rdl xs)=>.ok ⟨xs.map .g,some (k,.rdl xs)⟩ σ
  |_=>.stuck
 |_,_=>.stuck
noncomputable def wChars:R->Store->Res Walk
 | .g (.str xs),σ=>okW (xs.map fun c=>.g (.str [c])) σ
 |_,_=>.stuck
noncomputable def wKeys:R->Store->Res Walk
 | .ref k,σ=>match σ[k]? with
  |some (.dct xs)=>if intKeys xs then .ok ⟨xs.map fun p=>.g p.1,some (k,.dct xs)⟩ σ else .stuck
  |some (.rdd xs)=>if intKeys xs then .ok ⟨xs.map fun p=>.g p.1,some (k,.rdd xs)⟩ σ else .stuck
  |_=>.stuck
 |_,_=>.stuck
noncomputable def small(i:Int):Bool:=decide (-(2 ^ 62)<=i) && decide (i<2 ^ 62)
noncomputable def wRange:R->R->Store->Res Walk
 | .g (.int i),.g (.int j),σ=>if small i && small j && decide ((j-i).toNat<=big) then okW (rangeL i j) σ else .stuck
 |_,_,_=>.stuck
noncomputable def wItems:R->Store->Res Walk
 | .ref k,σ=>match σ[k]? with
  |some (.dct xs)=>if intKeys xs then .ok ⟨xs.map fun p=>.g (.tup [p.1,p.2]),some (k,.dct xs)⟩ σ else .stuck
  |some (.rdd xs)=>if intKeys xs then .ok ⟨xs.map fun p=>.g (.tup [p.1,p.2]),some (k,.rdd xs)⟩ σ else .stuck
  |_=>.stuck
 |_,_=>.stuck
noncomputable def wItemsT:R->Store->Res Walk
 | .ref k,σ=>match σ[k]? with
  |some (.dtg xs)=>.ok ⟨xs.map fun p=>.g (.tup [p.1,p.2]),some (k,.rdt xs)⟩ (σ.set k (.rdt xs))
  |_=>.stuck
 |_,_=>.stuck
noncomputable def enumL:Int->List G->List R
 |_,[]=>[]
 |n,x::r=>.g (.tup [.int n,x])::enumL (n+1) r
noncomputable def wEnum:R->R->Store->Res Walk
 | .ref k,.g (.int n),σ=>match σ[k]? with
  |some (.lst xs)=>if small n && decide (xs.length<=big) then .ok ⟨enumL n xs,some (k,.lst xs)⟩ σ else .stuck
  |_=>.stuck
 |_,_,_=>.stuck
noncomputable def zipR:List G->List G->List R
 |x::r,y::t=>.g (.tup [x,y])::zipR r t
 |_,_=>[]
noncomputable def wZip:R->R->Store->Res Walk
 | .g (.tup xs),.g (.tup ys),σ=>okW (zipR xs ys) σ
 |_,_,_=>.stuck
noncomputable def intact(w:Option (Nat × Cell))(σ:Store):Bool:=match w with
 |none=>true
 |some (_,.dct _)=>false
 |some (k,c)=>decide (σ[k]?=some c)
noncomputable abbrev CallH:=String->List R->Store->Res R
noncomputable def compL(f:R->Store->Res (Option R))(w:Option (Nat × Cell)):List R->Store->Res (List R)
 | [],σ=>if intact w σ then .ok [] σ else .stuck
 |x::r,σ=>if intact w σ then (f x σ).bind fun o σ1=>(compL f w r σ1).bind fun ys σ2=>.ok (match o with|some y=>y::ys|none=>ys) σ2 else .stuck
noncomputable def truR(t:Bool)(r:R)(σ:Store):Res R:=if t then ofO (tru σ r) fun b=>okG (.bl b) σ else .ok r σ
noncomputable def parts:R->Option (List R)
 | .g (.tup xs)=>some (xs.map .g)
 | .tr xs=>some xs
 |_=>none
noncomputable def bindC(k:Nat)(x:R):Option (List (Option R)):=if k=1 then some [some x] else match parts x with
 |some rs=>if rs.length=k then some (rs.map some) else none
 |none=>none
noncomputable def turnC(k:Nat)(ce:Env)(fc:Env->Store->Res Bool)(fe:Env->Store->Res R)(x:R)(σ:Store):Res (Option R):=match bindC k x with
 |some bs=>(fc (bs++ce) σ).bind fun b σ1=>if b then (fe (bs++ce) σ1).bind fun y σ2=>.ok (some y) σ2 else .ok none σ1
 |none=>.stuck
noncomputable def capsE(ε:Env)(caps:List Nat):Env:=caps.map fun i=>(ε[i]?).getD none
noncomputable def recvOk(p:Prim)(r:R)(σ:Store):Bool:=match r with
 | .g (.str _)=>(match p with
  | .join=>true
  | .starts=>true
  |_=>false)
 | .ref k=>(match p,σ[k]? with
  | .append,some (.lst _)=>true
  | .extend,some (.lst _)=>true
  | .index,some (.lst _)=>true
  | .clear,some (.dct _)=>true
  | .get1,some (.dct _)=>true
  | .get2,some (.dct _)=>true
  | .setdef,some (.dct _)=>true
  | .setdefT,some (.dtg _)=>true
  | .pop,some (.lst _)=>true
  | .appR,some (.stk _ _)=>true
  | .popR,some (.stk _ _)=>true
  |_,_=>false)
 |_=>false
mutual
noncomputable def ev(cl:CallH):Bool->Tm->Env->Store->Res R
 |t,.var i,ε,σ=>match ε[i]? with
  |some (some r)=>truR t r σ
  |_=>.stuck
 |t,.con x,_,σ=>truR t (.g x) σ
 |t,.glb _ x,_,σ=>truR t (.g x) σ
 |t,.op p as,ε,σ=>(evs cl as ε σ).bind fun xs σ1=>(prim p xs σ1).bind fun r σ2=>truR t r σ2
 |t,.meth p a as,ε,σ=>(ev cl false a ε σ).bind fun x σ1=>if recvOk p x σ1 then (evs cl as ε σ1).bind fun xs σ2=>(prim p (x::xs) σ2).bind fun r σ3=>truR t r σ3 else .stuck
 |t,.call f as,ε,σ=>(evs cl as ε σ).bind fun xs σ1=>(cl f xs σ1).bind fun r σ2=>truR t r σ2
 |t,.andT a b,ε,σ=>(ev cl t a ε σ).bind fun r σ1=>match r with
  | .g (.bl true)=>ev cl t b ε σ1
  | .g (.bl false)=>okG (.bl false) σ1
  |_=>.stuck
 |t,.orT a b,ε,σ=>(ev cl t a ε σ).bind fun r σ1=>match r with
  | .g (.bl false)=>ev cl t b ε σ1
  | .g (.bl true)=>okG (.bl true) σ1
  |_=>.stuck
 |t,.notT a,ε,σ=>(ev cl t a ε σ).bind fun r σ1=>ofO (tru σ1 r) fun b=>okG (.bl (!b)) σ1
 |t,.ifT c a b,ε,σ=>(ev cl true c ε σ).bind fun r σ1=>match r with
  | .g (.bl true)=>ev cl t a ε σ1
  | .g (.bl false)=>ev cl t b ε σ1
  |_=>.stuck
 |t,.chain p q a b c,ε,σ=>(ev cl false a ε σ).bind fun x σ1=>(ev cl false b ε σ1).bind fun y σ2=>(prim p [x,y] σ2).bind fun r σ3=>match r with
  | .g (.bl true)=>(ev cl false c ε σ3).bind fun z σ4=>(prim q [y,z] σ4).bind fun r σ5=>truR t r σ5
  | .g (.bl false)=>okG (.bl false) σ3
  |_=>.stuck
 |t,.comp k caps s conds elt,ε,σ=>(evW cl s ε σ).bind fun w σ1 =>
  (compL (turnC k (capsE ε caps) (evC cl conds) (ev cl false elt)) w.guard w.items σ1).bind fun ys σ2 =>
  truR t (.ref σ2.length) (σ2++[mkLst ys])
noncomputable def evs(cl:CallH):Tms->Env->Store->Res (List R)
 | .nil,_,σ=>.ok [] σ
 | .cons a as,ε,σ=>(ev cl false a ε σ).bind fun x σ1=>(evs cl as ε σ1).bind fun xs σ2=>.ok (x::xs) σ2
noncomputable def evC(cl:CallH):Tms->Env->Store->Res Bool
 | .nil,_,σ=>.ok true σ
 | .cons a as,ε,σ=>(ev cl true a ε σ).bind fun r σ1=>match r with
  | .g (.bl true)=>evC cl as ε σ1
  | .g (.bl false)=>.ok false σ1
  |_=>.stuck
noncomputable def evW(cl:CallH):Src->Env->Store->Res Walk
 | .over e,ε,σ=>(ev cl false e ε σ).bind wOver
 | .range1 e,ε,σ=>(ev cl false e ε σ).bind fun r σ1=>wRange (.g (.int 0)) r σ1
 | .range2 a b,ε,σ=>(ev cl false a ε σ).bind fun x σ1=>(ev cl false b ε σ1).bind fun y σ2=>wRange x y σ2
 | .items e,ε,σ=>(ev cl false e ε σ).bind wItems
 | .itemsT e,ε,σ=>(ev cl false e ε σ).bind wItemsT
 | .enum e s,ε,σ=>(ev cl false e ε σ).bind fun x σ1=>(ev cl false s ε σ1).bind fun y σ2=>wEnum x y σ2
 | .zip a b,ε,σ=>(ev cl false a ε σ).bind fun x σ1=>(ev cl false b ε σ1).bind fun y σ2=>wZip x y σ2
 | .keys e,ε,σ=>(ev cl false e ε σ).bind wKeys
 | .chars e,ε,σ=>(ev cl false e ε σ).bind wChars
end
mutual
inductive Stm where
 |set (i:Nat) (e:Tm)
 |unpack (is:List Nat) (e:Tm)
 |setIdx (a i v:Tm)
 |expr (e:Tm)
 |ret (e:Tm)
 |retN
 |ite (c:Tm) (a b:Blk)
 |forS (tg:List Nat) (s:Src) (b:Blk)
 |whileS (c:Tm) (b:Blk)
 |brk
 |cont
 |pass
 |raise (c:String) (a:Tm)
 |callX (tg:Option (Option Nat)) (f:String) (as:Tms)
 |tryM (tg:Option Nat) (f:String) (as:Tms) (c:String) (e i:Nat) (cs:List String)
 |tryR (f:String) (as:Tms) (c d:String) (a:Tm)
inductive Blk where
 |nil
 |cons (s:Stm) (b:Blk)
end
inductive Out where
 |next (ε:Env)|ret (r:R)|brk (ε:Env)|cont (ε:Env)|exc (c:String)
 deriving Inhabited
noncomputable def ncx(c:String):Bool := !(c == "BadNote")
noncomputable def isA(c d:String):Bool:=c == d || (["FormError","NoForm","TooMany","NoForms","BadNote"].contains c && (d == "ValueError" || d == "FormError"))
noncomputable def setSlot(ε:Env)(i:Nat)(r:R):Option Env:=if i<ε.length then some (ε.set i (some r)) else none
noncomputable def setSlots:List Nat->List R->Env->Option Env
 | [],[],ε=>some ε
 |i::is,r::rs,ε=>(setSlot ε i r).bind (setSlots is rs)
 |_,_,_=>none
noncomputable def bindTg:List Nat->R->Env->Option Env
 | [i],r,ε=>setSlot ε i r
 |is,r,ε=>(parts r).bind fun rs=>setSlots is rs ε
noncomputable def ofE(o:Option Env)(f:Env->Res Out):Res Out:=match o with
 |some ε=>f ε
 |none=>.stuck
noncomputable def forL(tg:List Nat)(body:Env->Store->Res Out)(w:Option (Nat × Cell)):List R->Env->Store->Res Out
 | [],ε,σ=>if intact w σ then .ok (.next ε) σ else .stuck
 |x::r,ε,σ=>if intact w σ then ofE (bindTg tg x ε) fun ε1=>(body ε1 σ).bind fun o σ1=>match o with
  | .next ε2=>forL tg body w r ε2 σ1
  | .cont ε2=>forL tg body w r ε2 σ1
  | .brk ε2=>.ok (.next ε2) σ1
  | .ret v=>.ok (.ret v) σ1
  | .exc c=>.ok (.exc c) σ1
  else .stuck
noncomputable def thaw(k:Nat)(kvs:List (G × G)):Res Out->Res Out
 | .ok (.exc _) _=>.stuck
 | .ok o σ=>if σ[k]?=some (.rdd kvs) then .ok o (σ.set k (.dct kvs)) else .stuck
 | .exc _ _=>.stuck
 | .stuck=>.stuck
noncomputable def forW(tg:List Nat)(body:Env->Store->Res Out)(w:Walk)(ε:Env)(σ:Store):Res Out:=match w.guard with
 |some (k,.dct kvs)=>thaw k kvs (forL tg body (some (k,.rdd kvs)) w.items ε (σ.set k (.rdd kvs)))
 |g=>forL tg body g w.items ε σ
noncomputable def whileL(test:Env->Store->Res R)(body:Env->Store->Res Out):Nat->Env->Store->Res Out
 |0,_,_=>.stuck
 |n+1,ε,σ=>(test ε σ).bind fun r σ1=>match r with
  | .g (.bl false)=>.ok (.next ε) σ1
  | .g (.bl true)=>(body ε σ1).bind fun o σ2=>match o with
   | .next ε2=>whileL test body n ε2 σ2
   | .cont ε2=>whileL test body n ε2 σ2
   | .brk ε2=>.ok (.next ε2) σ2
   | .ret v=>.ok (.ret v) σ2
   | .exc c=>.ok (.exc c) σ2
  |_=>.stuck
noncomputable def putAt:R->R->R->Store->Option Store
 | .ref k,.g i,.g v,σ=>match σ[k]?,i with
  |some (.lst xs),.int i=>(ixOf xs.length i).map fun j=>σ.set k (.lst (xs.set j v))
  |some (.dct kvs),i=>if isKey i && decide (kvs.length<big) then some (σ.set k (.dct (dput kvs i v))) else none
  |_,_=>none
 |_,_,_,_=>none
noncomputable def kX(tg:Option (Option Nat))(ε:Env):Res R->Res Out
 | .ok r σ=>(match tg with
  |none=>.ok (.next ε) σ
  |some none=>.ok (.ret r) σ
  |some (some i)=>ofE (setSlot ε i r) fun ε1=>.ok (.next ε1) σ)
 | .exc c σ=>.ok (.exc c) σ
 | .stuck=>.stuck
noncomputable def kTM(tg:Option Nat)(c:String)(e i:Nat)(cs:List String)(ε:Env):Res R->Res Out
 | .ok r σ=>(match tg with
  |none=>.ok (.next ε) σ
  |some j=>ofE (setSlot ε j r) fun ε1=>.ok (.next ε1) σ)
 | .exc x σ=>if isA x c then ofE (setSlot ε i (.ref σ.length)) fun ε1=>.ok (.next (ε1.set e none)) (σ++[.lst (cs.map fun d=>.bl (isA x d))]) else .stuck
 | .stuck=>.stuck
mutual
noncomputable def evS(cl:CallH)(W:Nat):Stm->Env->Store->Res Out
 | .set i e,ε,σ=>(ev cl false e ε σ).bind fun r σ1=>ofE (setSlot ε i r) fun ε1=>.ok (.next ε1) σ1
 | .unpack is e,ε,σ=>(ev cl false e ε σ).bind fun r σ1=>match parts r with
  |some rs=>ofE (setSlots is rs ε) fun ε1=>.ok (.next ε1) σ1
  |none=>.stuck
 | .setIdx a i v,ε,σ=>(ev cl false v ε σ).bind fun z σ1=>(ev cl false a ε σ1).bind fun x σ2=>(ev cl false i ε σ2).bind fun y σ3=>match putAt x y z σ3 with
  |some σ4=>.ok (.next ε) σ4
  |none=>.stuck
 | .expr e,ε,σ=>(ev cl false e ε σ).bind fun _ σ1=>.ok (.next ε) σ1
 | .ret e,ε,σ=>(ev cl false e ε σ).bind fun r σ1=>.ok (.ret r) σ1
 | .retN,_,σ=>.ok (.ret (.g .non)) σ
 | .ite c a b,ε,σ=>(ev cl true c ε σ).bind fun r σ1=>match r with
  | .g (.bl true)=>evB cl W a ε σ1
  | .g (.bl false)=>evB cl W b ε σ1
  |_=>.stuck
 | .forS tg s b,ε,σ=>(evW cl s ε σ).bind fun w σ1=>forW tg (fun ε σ=>evB cl W b ε σ) w ε σ1
 | .whileS c b,ε,σ=>whileL (fun ε σ=>ev cl true c ε σ) (fun ε σ=>evB cl W b ε σ) W ε σ
 | .brk,ε,σ=>.ok (.brk ε) σ
 | .cont,ε,σ=>.ok (.cont ε) σ
 | .pass,ε,σ=>.ok (.next ε) σ
 | .raise c a,ε,σ=>(ev cl false a ε σ).bind fun _ σ1=>.ok (.exc c) σ1
 | .callX tg f as,ε,σ=>(evs cl as ε σ).bind fun xs σ1=>kX tg ε (cl f xs σ1)
 | .tryM tg f as c e i cs,ε,σ=>(evs cl as ε σ).bind fun xs σ1=>kTM tg c e i cs ε (cl f xs σ1)
 | .tryR f as c d a,ε,σ=>(evs cl as ε σ).bind fun xs σ1=>match cl f xs σ1 with
  | .ok _ σ2=>.ok (.next ε) σ2
  | .exc x σ2=>if isA x c && ncx x then (ev cl false a ε σ2).bind fun _ σ3=>.ok (.exc d) σ3 else .stuck
  | .stuck=>.stuck
noncomputable def evB(cl:CallH)(W:Nat):Blk->Env->Store->Res Out
 | .nil,ε,σ=>.ok (.next ε) σ
 | .cons s b,ε,σ=>(evS cl W s ε σ).bind fun o σ1=>match o with
  | .next ε1=>evB cl W b ε1 σ1
  |o=>.ok o σ1
end
structure Fn where
 name:String
 np:Nat
 nl:Nat
 body:Blk
noncomputable def look:List Fn->String->Option Fn
 | [],_=>none
 |d::r,f=>if d.name=f then some d else look r f
mutual
noncomputable def refsGe(n:Nat):R->List Nat->List Nat
 | .g _,acc=>acc
 | .ref i,acc=>if i<n then acc else if acc.contains i then acc else acc++[i]
 | .tr xs,acc=>refsGes n xs acc
noncomputable def refsGes(n:Nat):List R->List Nat->List Nat
 | [],acc=>acc
 |x::r,acc=>refsGes n r (refsGe n x acc)
end
mutual
noncomputable def ren(n:Nat)(ks:List Nat):R->R
 | .g x=>.g x
 | .ref i=>if i<n then .ref i else .ref (n+ks.idxOf i)
 | .tr xs=>.tr (rens n ks xs)
noncomputable def rens(n:Nat)(ks:List Nat):List R->List R
 | []=>[]
 |x::r=>ren n ks x::rens n ks r
end
noncomputable def flatCell:Cell->Bool
 | .rls _=>false
 | .stk _ _=>false
 |_=>true
noncomputable def cellsAt(σ:Store):List Nat->Option (List Cell)
 | []=>some []
 |k::r=>match σ[k]? with
  |some c=>if flatCell c then (cellsAt σ r).map (c :: ·) else none
  |none=>none
noncomputable def fin(n:Nat):Res Out->Res R
 | .ok (.ret r) σ=>match cellsAt σ (refsGe n r []) with
  |some cs=>.ok (ren n (refsGe n r []) r) (σ.take n++cs)
  |none=>.stuck
 | .ok (.next _) σ=>okG .non (σ.take n)
 | .ok (.exc c) σ=>.exc c (σ.take n)
 | .ok _ _=>.stuck
 | .exc _ _=>.stuck
 | .stuck=>.stuck
noncomputable def isStk:Cell->Bool
 | .stk _ _=>true
 |_=>false
noncomputable def kept:Store->Store->Bool
 | [],_=>true
 |_::_,[]=>false
 |c::σ,d::τ=>(decide (c=d) || !isStk d) && kept σ τ
noncomputable def kill:Cell->Cell
 | .stk _ _=>.stk 0 []
 |c=>c
noncomputable def gd(σ:Store):Res Out->Res Out
 | .ok o σ'=>.ok o (if kept σ σ' then σ' else σ'.map kill)
 | .exc c σ'=>.exc c σ'
 | .stuck=>.stuck
noncomputable def run(P:List Fn)(W:Nat):Nat->CallH
 |0,_,_,_=>.stuck
 |n+1,f,as,σ=>match look P f with
  |none=>.stuck
  |some d=>if as.length=d.np then fin σ.length (gd σ (evB (run P W n) W d.body (as.map some++List.replicate (d.nl-d.np) none) σ)) else .stuck
end MP
namespace MP
variable {cl:CallH}{W:Nat}{ε:Env}{σ:Store}
noncomputable def kB(cl:CallH)(W:Nat)(b:Blk):Res Out->Res Out
 | .ok (.next ε) σ=>evB cl W b ε σ
 | .ok o σ=>.ok o σ
 | .exc c σ=>.exc c σ
 | .stuck=>.stuck
@[simp] theorem evB_cons(s:Stm)(b:Blk):evB cl W (.cons s b) ε σ=kB cl W b (evS cl W s ε σ):=by
 rw[evB];cases evS cl W s ε σ with
 |ok o σ=>cases o<;>rfl
 |exc c σ=>rfl
 |stuck=>rfl
@[simp] theorem evB_nil:evB cl W .nil ε σ = .ok (.next ε) σ:=by rw[evB]
@[simp] theorem kB_next(b:Blk):kB cl W b (.ok (.next ε) σ)=evB cl W b ε σ:=rfl
@[simp] theorem kB_ret(b:Blk)(r:R):kB cl W b (.ok (.ret r) σ) = .ok (.ret r) σ:=rfl
@[simp] theorem kB_brk(b:Blk):kB cl W b (.ok (.brk ε) σ) = .ok (.brk ε) σ:=rfl
@[simp] theorem kB_cont(b:Blk):kB cl W b (.ok (.cont ε) σ) = .ok (.cont ε) σ:=rfl
@[simp] theorem kB_raise(b:Blk)(c:String):kB cl W b (.ok (.exc c) σ) = .ok (.exc c) σ:=rfl
@[simp] theorem kB_exc(b:Blk)(c:String):kB cl W b (.exc c σ) = .exc c σ:=rfl
noncomputable def kT(t:Bool):Res R->Res R
 | .ok r σ=>truR t r σ
 |x=>x
@[simp] theorem kT_f(x:Res R):kT false x=x:=by cases x<;>rfl
@[simp] theorem kT_bl(b:Bool):kT true (.ok (.g (.bl b)) σ) = .ok (.g (.bl b)) σ:=rfl
theorem kT_ok(r:R):kT true (.ok r σ)=ofO (tru σ r) fun b=>.ok (.g (.bl b)) σ:=rfl
@[simp] theorem truR_f(r:R):truR false r σ = .ok r σ:=rfl
@[simp] theorem truR_t(r:R):truR true r σ=ofO (tru σ r) fun b=>.ok (.g (.bl b)) σ:=rfl
@[simp] theorem ofO_some{α:Type}(a:α)(f:α->Res R):ofO (some a) f=f a:=rfl
noncomputable def kOp(t:Bool)(p:Prim):Res (List R)->Res R
 | .ok xs σ=>kT t (prim p xs σ)
 | .exc c σ=>.exc c σ
 | .stuck=>.stuck
@[simp] theorem ev_op(t:Bool)(p:Prim)(as:Tms):ev cl t (.op p as) ε σ=kOp t p (evs cl as ε σ):=by
 rw[ev];cases evs cl as ε σ with
 |ok xs σ=>show(prim p xs σ).bind _=kT t (prim p xs σ);cases prim p xs σ<;>rfl
 |exc c σ=>rfl
 |stuck=>rfl
@[simp] theorem kOp_ok(t:Bool)(p:Prim)(xs:List R):kOp t p (.ok xs σ)=kT t (prim p xs σ):=rfl
noncomputable def kM2(t:Bool)(p:Prim)(r:R):Res (List R)->Res R
 | .ok xs σ=>kT t (prim p (r::xs) σ)
 | .exc c σ=>.exc c σ
 | .stuck=>.stuck
noncomputable def kM1(cl:CallH)(t:Bool)(p:Prim)(as:Tms)(ε:Env):Res R->Res R
 | .ok x σ=>if recvOk p x σ then kM2 t p x (evs cl as ε σ) else .stuck
 | .exc c σ=>.exc c σ
 | .stuck=>.stuck
@[simp] theorem ev_meth(t:Bool)(p:Prim)(a:Tm)(as:Tms):ev cl t (.meth p a as) ε σ=kM1 cl t p as ε (ev cl false a ε σ):=by
 rw[ev];cases ev cl false a ε σ with
 |ok x σ =>
  show(if recvOk p x σ then _ else _)=if recvOk p x σ then _ else _
  cases recvOk p x σ with
  |false=>rfl
  |true =>
   simp only[if_true]
   cases evs cl as ε σ with
   |ok xs σ=>show(prim p (x::xs) σ).bind _=kT t (prim p (x::xs) σ);cases prim p (x::xs) σ<;>rfl
   |exc c σ=>rfl
   |stuck=>rfl
 |exc c σ=>rfl
 |stuck=>rfl
@[simp] theorem kM1_ok(t:Bool){p:Prim}(as:Tms){x:R}(h:recvOk p x σ=true):kM1 cl t p as ε (.ok x σ)=kM2 t p x (evs cl as ε σ):=by simp[kM1,h]
@[simp] theorem kM2_ok(t:Bool)(p:Prim)(x:R)(xs:List R):kM2 t p x (.ok xs σ)=kT t (prim p (x::xs) σ):=rfl
theorem recv_append{k:Nat}{xs:List G}(h:σ[k]?=some (.lst xs)):recvOk .append (.ref k) σ=true:=by simp[recvOk,h]
theorem recv_extend{k:Nat}{xs:List G}(h:σ[k]?=some (.lst xs)):recvOk .extend (.ref k) σ=true:=by simp[recvOk,h]
theorem recv_index{k:Nat}{xs:List G}(h:σ[k]?=some (.lst xs)):recvOk .index (.ref k) σ=true:=by simp[recvOk,h]
noncomputable def kCall(cl:CallH)(t:Bool)(f:String):Res (List R)->Res R
 | .ok xs σ=>kT t (cl f xs σ)
 | .exc c σ=>.exc c σ
 | .stuck=>.stuck
@[simp] theorem ev_call(t:Bool)(f:String)(as:Tms):ev cl t (.call f as) ε σ=kCall cl t f (evs cl as ε σ):=by
 rw[ev];cases evs cl as ε σ with
 |ok xs σ=>show(cl f xs σ).bind _=kT t (cl f xs σ);cases cl f xs σ<;>rfl
 |exc c σ=>rfl
 |stuck=>rfl
@[simp] theorem kCall_ok(t:Bool)(f:String)(xs:List R):kCall cl t f (.ok xs σ)=kT t (cl f xs σ):=rfl
noncomputable def kCons(x:R):Res (List R)->Res (List R)
 | .ok xs σ=>.ok (x::xs) σ
 |y=>y
noncomputable def kArg(cl:CallH)(as:Tms)(ε:Env):Res R->Res (List R)
 | .ok x σ=>kCons x (evs cl as ε σ)
 | .exc c σ=>.exc c σ
 | .stuck=>.stuck
@[simp] theorem evs_nil:evs cl .nil ε σ = .ok [] σ:=by rw[evs]
@[simp] theorem evs_cons(a:Tm)(as:Tms):evs cl (.cons a as) ε σ=kArg cl as ε (ev cl false a ε σ):=by
 rw[evs];cases ev cl false a ε σ with
 |ok x σ=>show(evs cl as ε σ).bind _=kCons x (evs cl as ε σ);cases evs cl as ε σ<;>rfl
 |exc c σ=>rfl
 |stuck=>rfl
@[simp] theorem kArg_ok(as:Tms)(x:R):kArg cl as ε (.ok x σ)=kCons x (evs cl as ε σ):=rfl
@[simp] theorem kCons_ok(x:R)(xs:List R):kCons x (.ok xs σ) = .ok (x::xs) σ:=rfl
noncomputable def kVar(t:Bool)(σ:Store):Option (Option R)->Res R
 |some (some r)=>truR t r σ
 |_=>.stuck
@[simp] theorem ev_var(t:Bool)(i:Nat):ev cl t (.var i) ε σ=kVar t σ (ε[i]?):=by
 rw[ev]
 cases ε[i]? with
 |none=>rfl
 |some o=>cases o<;>rfl
@[simp] theorem kVar_some(t:Bool)(r:R):kVar t σ (some (some r))=truR t r σ:=rfl
@[simp] theorem ev_con(t:Bool)(x:G):ev cl t (.con x) ε σ=truR t (.g x) σ:=by rw[ev]
@[simp] theorem ev_glb(t:Bool)(f:String)(x:G):ev cl t (.glb f x) ε σ=truR t (.g x) σ:=by rw[ev]
noncomputable def kAnd(cl:CallH)(t:Bool)(b:Tm)(ε:Env):Res R->Res R
 | .ok (.g (.bl true)) σ=>ev cl t b ε σ
 | .ok (.g (.bl false)) σ=>okG (.bl false) σ
 | .ok _ _=>.stuck
 | .exc c σ=>.exc c σ
 | .stuck=>.stuck
@[simp] theorem ev_and(t:Bool)(a b:Tm):ev cl t (.andT a b) ε σ=kAnd cl t b ε (ev cl t a ε σ):=by
 rw[ev];cases ev cl t a ε σ with
 |ok r σ=>cases r with
  |g x=>cases x with
   |bl c=>cases c<;>rfl
   |_=>rfl
  |_=>rfl
 |exc c σ=>rfl
 |stuck=>rfl
@[simp] theorem kAnd_t(t:Bool)(b:Tm):kAnd cl t b ε (.ok (.g (.bl true)) σ)=ev cl t b ε σ:=rfl
@[simp] theorem kAnd_f(t:Bool)(b:Tm):kAnd cl t b ε (.ok (.g (.bl false)) σ) = .ok (.g (.bl false)) σ:=rfl
noncomputable def kOr(cl:CallH)(t:Bool)(b:Tm)(ε:Env):Res R->Res R
 | .ok (.g (.bl false)) σ=>ev cl t b ε σ
 | .ok (.g (.bl true)) σ=>okG (.bl true) σ
 | .ok _ _=>.stuck
 | .exc c σ=>.exc c σ
 | .stuck=>.stuck
@[simp] theorem ev_or(t:Bool)(a b:Tm):ev cl t (.orT a b) ε σ=kOr cl t b ε (ev cl t a ε σ):=by
 rw[ev];cases ev cl t a ε σ with
 |ok r σ=>cases r with
  |g x=>cases x with
   |bl c=>cases c<;>rfl
   |_=>rfl
  |_=>rfl
 |exc c σ=>rfl
 |stuck=>rfl
@[simp] theorem kOr_f(t:Bool)(b:Tm):kOr cl t b ε (.ok (.g (.bl false)) σ)=ev cl t b ε σ:=rfl
@[simp] theorem kOr_t(t:Bool)(b:Tm):kOr cl t b ε (.ok (.g (.bl true)) σ) = .ok (.g (.bl true)) σ:=rfl
noncomputable def kNot:Res R->Res R
 | .ok r σ=>ofO (tru σ r) fun b=>okG (.bl (!b)) σ
 |x=>x
@[simp] theorem ev_not(t:Bool)(a:Tm):ev cl t (.notT a) ε σ=kNot (ev cl t a ε σ):=by
 rw[ev];cases ev cl t a ε σ<;>rfl
@[simp] theorem kNot_bl(b:Bool):kNot (.ok (.g (.bl b)) σ) = .ok (.g (.bl (!b))) σ:=rfl
theorem kNot_ok(r:R):kNot (.ok r σ)=ofO (tru σ r) fun b=>.ok (.g (.bl (!b))) σ:=rfl
noncomputable def kIf(cl:CallH)(t:Bool)(a b:Tm)(ε:Env):Res R->Res R
 | .ok (.g (.bl true)) σ=>ev cl t a ε σ
 | .ok (.g (.bl false)) σ=>ev cl t b ε σ
 | .ok _ _=>.stuck
 | .exc c σ=>.exc c σ
 | .stuck=>.stuck
@[simp] theorem ev_if(t:Bool)(c a b:Tm):ev cl t (.ifT c a b) ε σ=kIf cl t a b ε (ev cl true c ε σ):=by
 rw[ev];cases ev cl true c ε σ with
 |ok r σ=>cases r with
  |g x=>cases x with
   |bl c=>cases c<;>rfl
   |_=>rfl
  |_=>rfl
 |exc c σ=>rfl
 |stuck=>rfl
@[simp] theorem kIf_t(t:Bool)(a b:Tm):kIf cl t a b ε (.ok (.g (.bl true)) σ)=ev cl t a ε σ:=rfl
@[simp] theorem kIf_f(t:Bool)(a b:Tm):kIf cl t a b ε (.ok (.g (.bl false)) σ)=ev cl t b ε σ:=rfl
noncomputable def kCh4(t:Bool)(q:Prim)(y:R):Res R->Res R
 | .ok z σ=>kT t (prim q [y,z] σ)
 |x=>x
noncomputable def kCh3(cl:CallH)(t:Bool)(q:Prim)(c:Tm)(ε:Env)(y:R):Res R->Res R
 | .ok (.g (.bl true)) σ=>kCh4 t q y (ev cl false c ε σ)
 | .ok (.g (.bl false)) σ=>okG (.bl false) σ
 | .ok _ _=>.stuck
 |x=>x
noncomputable def kCh2(cl:CallH)(t:Bool)(p q:Prim)(c:Tm)(ε:Env)(x:R):Res R->Res R
 | .ok y σ=>kCh3 cl t q c ε y (prim p [x,y] σ)
 |r=>r
noncomputable def kCh1(cl:CallH)(t:Bool)(p q:Prim)(b c:Tm)(ε:Env):Res R->Res R
 | .ok x σ=>kCh2 cl t p q c ε x (ev cl false b ε σ)
 |r=>r
@[simp] theorem ev_chain(t:Bool)(p q:Prim)(a b c:Tm):ev cl t (.chain p q a b c) ε σ=kCh1 cl t p q b c ε (ev cl false a ε σ):=by
 rw[ev];cases ev cl false a ε σ with
 |ok x σ =>
  show(ev cl false b ε σ).bind _=kCh2 cl t p q c ε x (ev cl false b ε σ)
  cases ev cl false b ε σ with
  |ok y σ =>
   show(prim p [x,y] σ).bind _=kCh3 cl t q c ε y (prim p [x,y] σ)
   cases prim p [x,y] σ with
   |ok r σ=>cases r with
    |g z=>cases z with
     |bl d=>cases d with
      |true =>
       show(ev cl false c ε σ).bind _=kCh4 t q y (ev cl false c ε σ)
       cases ev cl false c ε σ with
       |ok z σ=>show(prim q [y,z] σ).bind _=kT t (prim q [y,z] σ);cases prim q [y,z] σ<;>rfl
       |exc c σ=>rfl
       |stuck=>rfl
      |false=>rfl
     |_=>rfl
    |_=>rfl
   |exc c σ=>rfl
   |stuck=>rfl
  |exc c σ=>rfl
  |stuck=>rfl
 |exc c σ=>rfl
 |stuck=>rfl
@[simp] theorem kCh1_ok(t:Bool)(p q:Prim)(b c:Tm)(x:R):kCh1 cl t p q b c ε (.ok x σ)=kCh2 cl t p q c ε x (ev cl false b ε σ):=rfl
@[simp] theorem kCh2_ok(t:Bool)(p q:Prim)(c:Tm)(x y:R):kCh2 cl t p q c ε x (.ok y σ)=kCh3 cl t q c ε y (prim p [x,y] σ):=rfl
@[simp] theorem kCh3_t(t:Bool)(q:Prim)(c:Tm)(y:R):kCh3 cl t q c ε y (.ok (.g (.bl true)) σ)=kCh4 t q y (ev cl false c ε σ):=rfl
@[simp] theorem kCh3_f(t:Bool)(q:Prim)(c:Tm)(y:R):kCh3 cl t q c ε y (.ok (.g (.bl false)) σ) = .ok (.g (.bl false)) σ:=rfl
@[simp] theorem kCh4_ok(t:Bool)(q:Prim)(y z:R):kCh4 t q y (.ok z σ)=kT t (prim q [y,z] σ):=rfl
noncomputable def kW(f:R->Store->Res Walk):Res R->Res Walk
 | .ok r σ=>f r σ
 | .exc c σ=>.exc c σ
 | .stuck=>.stuck
@[simp] theorem evW_over(e:Tm):evW cl (.over e) ε σ=kW wOver (ev cl false e ε σ):=by rw[evW];cases ev cl false e ε σ<;>rfl
@[simp] theorem evW_range1(e:Tm):evW cl (.range1 e) ε σ=kW (wRange (.g (.int 0))) (ev cl false e ε σ):=by rw[evW];cases ev cl false e ε σ<;>rfl
@[simp] theorem evW_chars(e:Tm):evW cl (.chars e) ε σ=kW wChars (ev cl false e ε σ):=by rw[evW];cases ev cl false e ε σ<;>rfl
noncomputable def kW2(cl:CallH)(f:R->R->Store->Res Walk)(b:Tm)(ε:Env):Res R->Res Walk
 | .ok x σ=>kW (f x) (ev cl false b ε σ)
 | .exc c σ=>.exc c σ
 | .stuck=>.stuck
@[simp] theorem evW_range2(a b:Tm):evW cl (.range2 a b) ε σ=kW2 cl wRange b ε (ev cl false a ε σ):=by
 rw[evW];cases ev cl false a ε σ with
 |ok x σ=>show(ev cl false b ε σ).bind _=kW (wRange x) (ev cl false b ε σ);cases ev cl false b ε σ<;>rfl
 |exc c σ=>rfl
 |stuck=>rfl
@[simp] theorem evW_enum(a b:Tm):evW cl (.enum a b) ε σ=kW2 cl wEnum b ε (ev cl false a ε σ):=by
 rw[evW];cases ev cl false a ε σ with
 |ok x σ=>show(ev cl false b ε σ).bind _=kW (wEnum x) (ev cl false b ε σ);cases ev cl false b ε σ<;>rfl
 |exc c σ=>rfl
 |stuck=>rfl
@[simp] theorem evW_zip(a b:Tm):evW cl (.zip a b) ε σ=kW2 cl wZip b ε (ev cl false a ε σ):=by
 rw[evW];cases ev cl false a ε σ with
 |ok x σ=>show(ev cl false b ε σ).bind _=kW (wZip x) (ev cl false b ε σ);cases ev cl false b ε σ<;>rfl
 |exc c σ=>rfl
 |stuck=>rfl
@[simp] theorem kW_ok(f:R->Store->Res Walk)(r:R):kW f (.ok r σ)=f r σ:=by rw[kW]
@[simp] theorem wOver_tup(xs:List G):wOver (.g (.tup xs)) σ = .ok ⟨xs.map .g,none⟩ σ:=rfl
@[simp] theorem wChars_str(xs:List Nat):wChars (.g (.str xs)) σ = .ok ⟨xs.map fun c=>.g (.str [c]),none⟩ σ:=rfl
theorem wOver_lst{k:Nat}{xs:List G}(h:σ[k]?=some (.lst xs)):wOver (.ref k) σ = .ok ⟨xs.map .g,some (k,.lst xs)⟩ σ:=by simp only[wOver,h]
@[simp] theorem wZip_tup(xs ys:List G):wZip (.g (.tup xs)) (.g (.tup ys)) σ = .ok ⟨zipR xs ys,none⟩ σ:=rfl
theorem wRange_ok{i j:Int}(h:(small i && small j && decide ((j-i).toNat<=big))=true):wRange (.g (.int i)) (.g (.int j)) σ = .ok ⟨rangeL i j,none⟩ σ:=by simp only[wRange,h,if_true,okW]
noncomputable def compF(cl:CallH)(k:Nat)(caps:List Nat)(conds:Tms)(elt:Tm)(ε:Env)(x:R)(σ:Store):Res (Option R):=turnC k (capsE ε caps) (evC cl conds) (ev cl false elt) x σ
noncomputable def kC2(t:Bool):Res (List R)->Res R
 | .ok ys σ=>truR t (.ref σ.length) (σ++[mkLst ys])
 | .exc c σ=>.exc c σ
 | .stuck=>.stuck
noncomputable def kC1(cl:CallH)(t:Bool)(k:Nat)(caps:List Nat)(conds:Tms)(elt:Tm)(ε:Env):Res Walk->Res R
 | .ok w σ=>kC2 t (compL (compF cl k caps conds elt ε) w.guard w.items σ)
 | .exc c σ=>.exc c σ
 | .stuck=>.stuck
@[simp] theorem ev_comp(t:Bool)(k:Nat)(caps:List Nat)(s:Src)(conds:Tms)(elt:Tm):ev cl t (.comp k caps s conds elt) ε σ=kC1 cl t k caps conds elt ε (evW cl s ε σ):=by
 rw[ev];cases evW cl s ε σ with
 |ok w σ =>
  show(compL (compF cl k caps conds elt ε) w.guard w.items σ).bind _=kC2 t (compL (compF cl k caps conds elt ε) w.guard w.items σ)
  cases compL (compF cl k caps conds elt ε) w.guard w.items σ<;>rfl
 |exc c σ=>rfl
 |stuck=>rfl
@[simp] theorem kC1_ok(t:Bool)(k:Nat)(caps:List Nat)(conds:Tms)(elt:Tm)(w:Walk):kC1 cl t k caps conds elt ε (.ok w σ)=kC2 t (compL (compF cl k caps conds elt ε) w.guard w.items σ):=rfl
@[simp] theorem kC2_ok(t:Bool)(ys:List R):kC2 t (.ok ys σ)=truR t (.ref σ.length) (σ++[mkLst ys]):=rfl
noncomputable def kSome:Res R->Res (Option R)
 | .ok y σ=>.ok (some y) σ
 | .exc c σ=>.exc c σ
 | .stuck=>.stuck
@[simp] theorem kSome_ok(y:R):kSome (.ok y σ) = .ok (some y) σ:=rfl
noncomputable def turnN(cl:CallH)(caps:List Nat)(elt:Tm)(ε:Env)(σ:Store):Option (List (Option R))->Res (Option R)
 |some bs=>kSome (ev cl false elt (bs++capsE ε caps) σ)
 |none=>.stuck
@[simp] theorem compF_nil(k:Nat)(caps:List Nat)(elt:Tm)(x:R):compF cl k caps .nil elt ε x σ=turnN cl caps elt ε σ (bindC k x):=by
 unfold compF turnC
 cases bindC k x with
 |none=>rfl
 |some bs =>
  simp only[evC,bind_ok,if_true,turnN]
  cases ev cl false elt (bs++capsE ε caps) σ<;>rfl
@[simp] theorem turnN_some(caps:List Nat)(elt:Tm)(bs:List (Option R)):turnN cl caps elt ε σ (some bs)=kSome (ev cl false elt (bs++capsE ε caps) σ):=rfl
@[simp] theorem capsE_nil:capsE ε []=[]:=rfl
@[simp] theorem capsE_cons(i:Nat)(r:List Nat):capsE ε (i::r)=(ε[i]?).getD none::capsE ε r:=rfl
@[simp] theorem bindC_one(x:R):bindC 1 x=some [some x]:=rfl
@[simp] theorem bindC_two(x y:G):bindC 2 (.g (.tup [x,y]))=some [some (.g x),some (.g y)]:=rfl
noncomputable def kCond(cl:CallH)(elt:Tm)(ε:Env):Res R->Res (Option R)
 | .ok (.g (.bl true)) σ=>kSome (ev cl false elt ε σ)
 | .ok (.g (.bl false)) σ=>.ok none σ
 | .ok _ _=>.stuck
 | .exc c σ=>.exc c σ
 | .stuck=>.stuck
noncomputable def turnO(cl:CallH)(caps:List Nat)(c elt:Tm)(ε:Env)(σ:Store):Option (List (Option R))->Res (Option R)
 |some bs=>kCond cl elt (bs++capsE ε caps) (ev cl true c (bs++capsE ε caps) σ)
 |none=>.stuck
@[simp] theorem turnO_some(caps:List Nat)(c elt:Tm)(bs:List (Option R)):turnO cl caps c elt ε σ (some bs)=kCond cl elt (bs++capsE ε caps) (ev cl true c (bs++capsE ε caps) σ):=rfl
@[simp] theorem compF_one(k:Nat)(caps:List Nat)(c elt:Tm)(x:R):compF cl k caps (.cons c .nil) elt ε x σ=turnO cl caps c elt ε σ (bindC k x):=by
 unfold compF turnC
 cases bindC k x with
 |none=>rfl
 |some bs =>
  simp only[turnO]
  rw[evC]
  cases ev cl true c (bs++capsE ε caps) σ with
  |ok r σ=>cases r with
   |g z=>cases z with
    |bl d=>cases d with
     |true =>
      simp only[bind_ok,evC,if_true]
      show _=kSome (ev cl false elt (bs++capsE ε caps) σ)
      cases ev cl false elt (bs++capsE ε caps) σ<;>rfl
     |false=>rfl
    |_=>rfl
   |_=>rfl
  |exc c σ=>rfl
  |stuck=>rfl
@[simp] theorem kCond_t(elt:Tm):kCond cl elt ε (.ok (.g (.bl true)) σ)=kSome (ev cl false elt ε σ):=rfl
@[simp] theorem kCond_f(elt:Tm):kCond cl elt ε (.ok (.g (.bl false)) σ) = .ok none σ:=rfl
theorem compL_map{α:Type}{f:R->Store->Res (Option R)}{w:Option (Nat × Cell)}(a b:α->R){σ:Store}(hw:intact w σ=true):∀ (xs:List α),(∀ x∈xs,f (a x) σ = .ok (some (b x)) σ)->compL f w (xs.map a) σ = .ok (xs.map b) σ
 | [],_=>by simp[compL,hw]
 |x::r,h=>by
  simp only[List.map_cons,compL,hw,if_true]
  rw[h x List.mem_cons_self,bind_ok,compL_map a b hw r fun y hy=>h y (List.mem_cons_of_mem _ hy)]
  rfl
theorem compL_filter{α:Type}{f:R->Store->Res (Option R)}{w:Option (Nat × Cell)}(a b:α->R)(p:α->Bool){σ:Store}(hw:intact w σ=true):∀ (xs:List α),(∀ x∈xs,f (a x) σ = .ok (if p x then some (b x) else none) σ)->compL f w (xs.map a) σ = .ok ((xs.filter p).map b) σ
 | [],_=>by simp[compL,hw]
 |x::r,h=>by
  simp only[List.map_cons,compL,hw,if_true]
  rw[h x List.mem_cons_self,bind_ok,compL_filter a b p hw r fun y hy=>h y (List.mem_cons_of_mem _ hy)]
  cases hp:p x<;>simp[hp]
theorem allG_map(l:List G):allG (l.map R.g)=some l:=by
 induction l with
 |nil=>rfl
 |cons x r ih=>simp[allG,ih]
theorem mkLst_map{α:Type}(f:α->G)(l:List α):mkLst (l.map fun x=>R.g (f x)) = .lst (l.map f):=by
 have:=allG_map (l.map f)
 rw[List.map_map] at this
 simp only[mkLst]
 rw[show(l.map fun x=>R.g (f x))=l.map (R.g ∘ f) from rfl,this]
theorem mkLst_nil:mkLst [] = .lst []:=rfl
noncomputable def kSet(ε:Env)(i:Nat):Res R->Res Out
 | .ok r σ=>ofE (setSlot ε i r) fun ε1=>.ok (.next ε1) σ
 | .exc c σ=>.exc c σ
 | .stuck=>.stuck
@[simp] theorem evS_set(i:Nat)(e:Tm):evS cl W (.set i e) ε σ=kSet ε i (ev cl false e ε σ):=by rw[evS];cases ev cl false e ε σ<;>rfl
@[simp] theorem kSet_ok(i:Nat)(r:R):kSet ε i (.ok r σ)=ofE (setSlot ε i r) fun ε1=>.ok (.next ε1) σ:=rfl
noncomputable def kUnp(ε:Env)(is:List Nat):Res R->Res Out
 | .ok r σ=>(match parts r with
  |some rs=>ofE (setSlots is rs ε) fun ε1=>.ok (.next ε1) σ
  |none=>.stuck)
 | .exc c σ=>.exc c σ
 | .stuck=>.stuck
@[simp] theorem evS_unpack(is:List Nat)(e:Tm):evS cl W (.unpack is e) ε σ=kUnp ε is (ev cl false e ε σ):=by rw[evS];cases ev cl false e ε σ<;>rfl
@[simp] theorem kUnp_tup(is:List Nat)(xs:List G):kUnp ε is (.ok (.g (.tup xs)) σ)=ofE (setSlots is (xs.map .g) ε) fun ε1=>.ok (.next ε1) σ:=rfl
@[simp] theorem kUnp_tr(is:List Nat)(xs:List R):kUnp ε is (.ok (.tr xs) σ)=ofE (setSlots is xs ε) fun ε1=>.ok (.next ε1) σ:=rfl
@[simp] theorem ofE_some(ε1:Env)(f:Env->Res Out):ofE (some ε1) f=f ε1:=rfl
noncomputable def kPut3(x z:R)(ε:Env):Res R->Res Out
 | .ok y σ=>(match putAt x y z σ with
  |some σ4=>.ok (.next ε) σ4
  |none=>.stuck)
 | .exc c σ=>.exc c σ
 | .stuck=>.stuck
noncomputable def kPut2(cl:CallH)(i:Tm)(z:R)(ε:Env):Res R->Res Out
 | .ok x σ=>kPut3 x z ε (ev cl false i ε σ)
 | .exc c σ=>.exc c σ
 | .stuck=>.stuck
noncomputable def kPut1(cl:CallH)(a i:Tm)(ε:Env):Res R->Res Out
 | .ok z σ=>kPut2 cl i z ε (ev cl false a ε σ)
 | .exc c σ=>.exc c σ
 | .stuck=>.stuck
@[simp] theorem evS_setIdx(a i v:Tm):evS cl W (.setIdx a i v) ε σ=kPut1 cl a i ε (ev cl false v ε σ):=by
 rw[evS];cases ev cl false v ε σ with
 |ok z σ =>
  show(ev cl false a ε σ).bind _=kPut2 cl i z ε (ev cl false a ε σ)
  cases ev cl false a ε σ with
  |ok x σ=>show(ev cl false i ε σ).bind _=kPut3 x z ε (ev cl false i ε σ);cases ev cl false i ε σ<;>rfl
  |exc c σ=>rfl
  |stuck=>rfl
 |exc c σ=>rfl
 |stuck=>rfl
@[simp] theorem kPut1_ok(a i:Tm)(z:R):kPut1 cl a i ε (.ok z σ)=kPut2 cl i z ε (ev cl false a ε σ):=rfl
@[simp] theorem kPut2_ok(i:Tm)(z x:R):kPut2 cl i z ε (.ok x σ)=kPut3 x z ε (ev cl false i ε σ):=rfl
theorem kPut3_lst{k:Nat}{xs:List G}{i:Int}{v:G}{j:Nat}(h:σ[k]?=some (.lst xs))(hi:ixOf xs.length i=some j):kPut3 (.ref k) (.g v) ε (.ok (.g (.int i)) σ) = .ok (.next ε) (σ.set k (.lst (xs.set j v))):=by
 simp[kPut3,putAt,h,hi]
noncomputable def kExpr(ε:Env):Res R->Res Out
 | .ok _ σ=>.ok (.next ε) σ
 | .exc c σ=>.exc c σ
 | .stuck=>.stuck
@[simp] theorem evS_expr(e:Tm):evS cl W (.expr e) ε σ=kExpr ε (ev cl false e ε σ):=by rw[evS];cases ev cl false e ε σ<;>rfl
@[simp] theorem kExpr_ok(r:R):kExpr ε (.ok r σ) = .ok (.next ε) σ:=rfl
noncomputable def kRet:Res R->Res Out
 | .ok r σ=>.ok (.ret r) σ
 | .exc c σ=>.exc c σ
 | .stuck=>.stuck
@[simp] theorem evS_ret(e:Tm):evS cl W (.ret e) ε σ=kRet (ev cl false e ε σ):=by rw[evS];cases ev cl false e ε σ<;>rfl
@[simp] theorem kRet_ok(r:R):kRet (.ok r σ) = .ok (.ret r) σ:=rfl
noncomputable def kIte(cl:CallH)(W:Nat)(a b:Blk)(ε:Env):Res R->Res Out
 | .ok (.g (.bl true)) σ=>evB cl W a ε σ
 | .ok (.g (.bl false)) σ=>evB cl W b ε σ
 | .ok _ _=>.stuck
 | .exc c σ=>.exc c σ
 | .stuck=>.stuck
@[simp] theorem evS_ite(c:Tm)(a b:Blk):evS cl W (.ite c a b) ε σ=kIte cl W a b ε (ev cl true c ε σ):=by
 rw[evS];cases ev cl true c ε σ with
 |ok r σ=>cases r with
  |g x=>cases x with
   |bl c=>cases c<;>rfl
   |_=>rfl
  |_=>rfl
 |exc c σ=>rfl
 |stuck=>rfl
@[simp] theorem kIte_t(a b:Blk):kIte cl W a b ε (.ok (.g (.bl true)) σ)=evB cl W a ε σ:=rfl
@[simp] theorem kIte_f(a b:Blk):kIte cl W a b ε (.ok (.g (.bl false)) σ)=evB cl W b ε σ:=rfl
noncomputable def kFor(cl:CallH)(W:Nat)(tg:List Nat)(b:Blk)(ε:Env):Res Walk->Res Out
 | .ok w σ=>forW tg (evB cl W b) w ε σ
 | .exc c σ=>.exc c σ
 | .stuck=>.stuck
@[simp] theorem evS_for(tg:List Nat)(s:Src)(b:Blk):evS cl W (.forS tg s b) ε σ=kFor cl W tg b ε (evW cl s ε σ):=by rw[evS];cases evW cl s ε σ<;>rfl
@[simp] theorem kFor_ok(tg:List Nat)(b:Blk)(w:Walk):kFor cl W tg b ε (.ok w σ)=forW tg (evB cl W b) w ε σ:=rfl
@[simp] theorem forW_none(tg:List Nat)(body:Env->Store->Res Out)(xs:List R):forW tg body ⟨xs,none⟩ ε σ=forL tg body none xs ε σ:=rfl
@[simp] theorem forW_lst(tg:List Nat)(body:Env->Store->Res Out)(xs:List R)(k:Nat)(l:List G):forW tg body ⟨xs,some (k,.lst l)⟩ ε σ=forL tg body (some (k,.lst l)) xs ε σ:=rfl
@[simp] theorem forW_rdl(tg:List Nat)(body:Env->Store->Res Out)(xs:List R)(k:Nat)(l:List G):forW tg body ⟨xs,some (k,.rdl l)⟩ ε σ=forL tg body (some (k,.rdl l)) xs ε σ:=rfl
@[simp] theorem forW_rdd(tg:List Nat)(body:Env->Store->Res Out)(xs:List R)(k:Nat)(l:List (G × G)):forW tg body ⟨xs,some (k,.rdd l)⟩ ε σ=forL tg body (some (k,.rdd l)) xs ε σ:=rfl
@[simp] theorem forW_dct(tg:List Nat)(body:Env->Store->Res Out)(xs:List R)(k:Nat)(l:List (G × G)):forW tg body ⟨xs,some (k,.dct l)⟩ ε σ=thaw k l (forL tg body (some (k,.rdd l)) xs ε (σ.set k (.rdd l))):=rfl
theorem evS_while(c:Tm)(b:Blk):evS cl W (.whileS c b) ε σ=whileL (ev cl true c) (evB cl W b) W ε σ:=by rw[evS]
noncomputable def kFT(tg:List Nat)(body:Env->Store->Res Out)(w:Option (Nat × Cell))(r:List R):Res Out->Res Out
 | .ok (.next ε) σ=>forL tg body w r ε σ
 | .ok (.cont ε) σ=>forL tg body w r ε σ
 | .ok (.brk ε) σ=>.ok (.next ε) σ
 | .ok (.ret v) σ=>.ok (.ret v) σ
 | .ok (.exc c) σ=>.ok (.exc c) σ
 | .exc c σ=>.exc c σ
 | .stuck=>.stuck
noncomputable def kFB(tg:List Nat)(body:Env->Store->Res Out)(w:Option (Nat × Cell))(r:List R)(σ:Store):Option Env->Res Out
 |some ε=>kFT tg body w r (body ε σ)
 |none=>.stuck
theorem forL_nil(tg:List Nat)(body:Env->Store->Res Out)(w:Option (Nat × Cell))(h:intact w σ=true):forL tg body w [] ε σ = .ok (.next ε) σ:=by simp only[forL,h,if_true]
theorem forL_cons(tg:List Nat)(body:Env->Store->Res Out)(w:Option (Nat × Cell))(x:R)(r:List R)(h:intact w σ=true):forL tg body w (x::r) ε σ=kFB tg body w r σ (bindTg tg x ε):=by
 simp only[forL,h,if_true]
 cases bindTg tg x ε with
 |none=>rfl
 |some ε1 =>
  show(body ε1 σ).bind _=kFT tg body w r (body ε1 σ)
  cases body ε1 σ with
  |ok o σ=>cases o<;>rfl
  |exc c σ=>rfl
  |stuck=>rfl
@[simp] theorem kFB_some(tg:List Nat)(body:Env->Store->Res Out)(w:Option (Nat × Cell))(r:List R)(ε1:Env):kFB tg body w r σ (some ε1)=kFT tg body w r (body ε1 σ):=rfl
@[simp] theorem kFT_next(tg:List Nat)(body:Env->Store->Res Out)(w:Option (Nat × Cell))(r:List R):kFT tg body w r (.ok (.next ε) σ)=forL tg body w r ε σ:=rfl
@[simp] theorem kFT_cont(tg:List Nat)(body:Env->Store->Res Out)(w:Option (Nat × Cell))(r:List R):kFT tg body w r (.ok (.cont ε) σ)=forL tg body w r ε σ:=rfl
@[simp] theorem kFT_brk(tg:List Nat)(body:Env->Store->Res Out)(w:Option (Nat × Cell))(r:List R):kFT tg body w r (.ok (.brk ε) σ) = .ok (.next ε) σ:=rfl
@[simp] theorem kFT_ret(tg:List Nat)(body:Env->Store->Res Out)(w:Option (Nat × Cell))(r:List R)(v:R):kFT tg body w r (.ok (.ret v) σ) = .ok (.ret v) σ:=rfl
@[simp] theorem kFT_exc(tg:List Nat)(body:Env->Store->Res Out)(w:Option (Nat × Cell))(r:List R)(c:String):kFT tg body w r (.ok (.exc c) σ) = .ok (.exc c) σ:=rfl
noncomputable def kRs(c:String):Res R->Res Out
 | .ok _ σ=>.ok (.exc c) σ
 | .exc c σ=>.exc c σ
 | .stuck=>.stuck
@[simp] theorem evS_raise(c:String)(a:Tm):evS cl W (.raise c a) ε σ=kRs c (ev cl false a ε σ):=by rw[evS];cases ev cl false a ε σ<;>rfl
@[simp] theorem kRs_ok(c:String)(r:R):kRs c (.ok r σ) = .ok (.exc c) σ:=rfl
noncomputable def kXa(cl:CallH)(tg:Option (Option Nat))(ε:Env)(f:String):Res (List R)->Res Out
 | .ok xs σ=>kX tg ε (cl f xs σ)
 | .exc c σ=>.exc c σ
 | .stuck=>.stuck
@[simp] theorem evS_callX(tg:Option (Option Nat))(f:String)(as:Tms):evS cl W (.callX tg f as) ε σ=kXa cl tg ε f (evs cl as ε σ):=by rw[evS];cases evs cl as ε σ<;>rfl
@[simp] theorem kXa_ok(tg:Option (Option Nat))(f:String)(xs:List R):kXa cl tg ε f (.ok xs σ)=kX tg ε (cl f xs σ):=rfl
@[simp] theorem kX_none(r:R):kX none ε (.ok r σ) = .ok (.next ε) σ:=rfl
@[simp] theorem kX_ret(r:R):kX (some none) ε (.ok r σ) = .ok (.ret r) σ:=rfl
@[simp] theorem kX_set(i:Nat)(r:R):kX (some (some i)) ε (.ok r σ)=ofE (setSlot ε i r) fun ε1=>.ok (.next ε1) σ:=rfl
@[simp] theorem kX_exc(tg:Option (Option Nat))(c:String):kX tg ε (.exc c σ) = .ok (.exc c) σ:=rfl
noncomputable def kTa(cl:CallH)(tg:Option Nat)(c:String)(e i:Nat)(cs:List String)(ε:Env)(f:String):Res (List R)->Res Out
 | .ok xs σ=>kTM tg c e i cs ε (cl f xs σ)
 | .exc c σ=>.exc c σ
 | .stuck=>.stuck
@[simp] theorem evS_tryM(tg:Option Nat)(f:String)(as:Tms)(c:String)(e i:Nat)(cs:List String):evS cl W (.tryM tg f as c e i cs) ε σ=kTa cl tg c e i cs ε f (evs cl as ε σ):=by rw[evS];cases evs cl as ε σ<;>rfl
@[simp] theorem kTa_ok(tg:Option Nat)(c:String)(e i:Nat)(cs:List String)(f:String)(xs:List R):kTa cl tg c e i cs ε f (.ok xs σ)=kTM tg c e i cs ε (cl f xs σ):=rfl
@[simp] theorem kTM_none(c:String)(e i:Nat)(cs:List String)(r:R):kTM none c e i cs ε (.ok r σ) = .ok (.next ε) σ:=rfl
@[simp] theorem kTM_set(j:Nat)(c:String)(e i:Nat)(cs:List String)(r:R):kTM (some j) c e i cs ε (.ok r σ)=ofE (setSlot ε j r) fun ε1=>.ok (.next ε1) σ:=rfl
theorem kTM_exc(tg:Option Nat){c x:String}(e i:Nat)(cs:List String)(h:isA x c=true):kTM tg c e i cs ε (.exc x σ)=ofE (setSlot ε i (.ref σ.length)) fun ε1=>.ok (.next (ε1.set e none)) (σ++[.lst (cs.map fun d=>.bl (isA x d))]):=by simp[kTM,h]
noncomputable def kTR(cl:CallH)(c d:String)(a:Tm)(ε:Env):Res R->Res Out
 | .ok _ σ=>.ok (.next ε) σ
 | .exc x σ=>if isA x c && ncx x then (ev cl false a ε σ).bind fun _ σ3=>.ok (.exc d) σ3 else .stuck
 | .stuck=>.stuck
noncomputable def kTb(cl:CallH)(c d:String)(a:Tm)(ε:Env)(f:String):Res (List R)->Res Out
 | .ok xs σ=>kTR cl c d a ε (cl f xs σ)
 | .exc c σ=>.exc c σ
 | .stuck=>.stuck
@[simp] theorem evS_tryR(f:String)(as:Tms)(c d:String)(a:Tm):evS cl W (.tryR f as c d a) ε σ=kTb cl c d a ε f (evs cl as ε σ):=by
 rw[evS];cases evs cl as ε σ with
 |ok xs σ =>
  show _=kTR cl c d a ε (cl f xs σ)
  rw[bind_ok]
  cases cl f xs σ with
  |ok r σ=>rfl
  |exc x σ=>rfl
  |stuck=>rfl
 |exc c σ=>rfl
 |stuck=>rfl
@[simp] theorem kTb_ok(c d:String)(a:Tm)(f:String)(xs:List R):kTb cl c d a ε f (.ok xs σ)=kTR cl c d a ε (cl f xs σ):=rfl
theorem kTR_exc{c x:String}(d:String)(g:G)(h:isA x c=true)(h2:ncx x=true:=by decide):kTR cl c d (.con g) ε (.exc x σ) = .ok (.exc d) σ:=by simp[kTR,h,h2,ev,truR]
@[simp] theorem kTR_ok(c d:String)(a:Tm)(r:R):kTR cl c d a ε (.ok r σ) = .ok (.next ε) σ:=rfl
variable {P:List Fn}
@[simp] theorem kept_self:∀ σ:Store,kept σ σ=true
 | []=>rfl
 |c::σ=>by simp[kept,kept_self σ]
theorem kept_more0{τ:Store}(J:Store):∀ {σ:Store},kept σ τ=true->kept σ (τ++J)=true:=by
 induction τ with
 |nil =>
  intro σ h
  cases σ with
  |nil=>rfl
  |cons c σ=>simp[kept] at h
 |cons d τ ih =>
  intro σ h
  cases σ with
  |nil=>rfl
  |cons c σ =>
   simp only[kept,Bool.and_eq_true,List.cons_append] at h ⊢
   exact⟨h.1,ih h.2⟩
@[simp] theorem kept_more{σ τ J:Store}(h:kept σ τ=true):kept σ (τ++J)=true:=kept_more0 J h
theorem kept_set0{τ:Store}{c:Cell}(hc:isStk c=false):∀ {σ:Store} (i:Nat),kept σ τ=true->kept σ (τ.set i c)=true:=by
 induction τ with
 |nil=>intro σ i h;exact h
 |cons d τ ih =>
  intro σ i h
  cases σ with
  |nil=>rfl
  |cons e σ =>
   simp only[kept,Bool.and_eq_true] at h
   cases i with
   |zero=>simp[kept,hc,h.2]
   |succ i =>
    simp only[List.set_cons_succ,kept,Bool.and_eq_true]
    exact⟨h.1,ih i h.2⟩
@[simp] theorem kept_set_lst{σ τ:Store}{i:Nat}{xs:List G}(h:kept σ τ=true):kept σ (τ.set i (.lst xs))=true:=kept_set0 rfl i h
@[simp] theorem kept_set_lst_more{σ τ J:Store}{i:Nat}{xs:List G}(h:kept σ τ=true):kept σ (τ.set i (.lst xs)++J)=true:=kept_more (kept_set0 rfl i h)
theorem kept_take{σ τ:Store}(h:τ.take σ.length=σ):kept σ τ=true:=by
 have e:τ=σ++τ.drop σ.length:=by
  conv=>lhs;rw[← List.take_append_drop σ.length τ,h]
 rw[e]
 exact kept_more (kept_self σ)
@[simp] theorem kept_take'{σ τ:Store}(h:τ.take σ.length=σ):kept σ τ=true:=kept_take h
@[simp] theorem gd_ok{o:Out}{τ:Store}(h:kept σ τ=true):gd σ (.ok o τ) = .ok o τ:=by simp[gd,h]
@[simp] theorem gd_exc(c:String)(τ:Store):gd σ (.exc c τ) = .exc c τ:=rfl
theorem run_call{f:String}{d:Fn}(h:look P f=some d)(n:Nat)(as:List R)(σ:Store)(hl:as.length=d.np) :
 run P W (n+1) f as σ=fin σ.length (gd σ (evB (run P W n) W d.body (as.map some++List.replicate (d.nl-d.np) none) σ)):=by
 simp only[run,h,hl,if_true]
@[simp] theorem fin_g(n:Nat)(x:G):fin n (.ok (.ret (.g x)) σ) = .ok (.g x) (σ.take n):=by
 simp[fin,refsGe,cellsAt,ren]
@[simp] theorem fin_exc(n:Nat)(c:String):fin n (.ok (.exc c) σ) = .exc c (σ.take n):=rfl
@[simp] theorem fin_next(n:Nat):fin n (.ok (.next ε) σ) = .ok (.g .non) (σ.take n):=rfl
theorem fin_new{n k:Nat}{c:Cell}(hk:n<=k)(h:σ[k]?=some c)(hf:flatCell c=true):fin n (.ok (.ret (.ref k)) σ) = .ok (.ref n) (σ.take n++[c]):=by
 have:¬ k<n:=by omega
 simp[fin,refsGe,cellsAt,ren,this,h,hf]
@[simp] theorem p_add(i j:Int):prim .add [.g (.int i),.g (.int j)] σ = .ok (.g (.int (i+j))) σ:=rfl
theorem p_addS(x y:List Nat)(h:x.length+y.length<=big):prim .add [.g (.str x),.g (.str y)] σ = .ok (.g (.str (x++y))) σ:=by simp[prim,pAdd,h,okG]
theorem p_addL{i j:Nat}{x y:List G}(hi:σ[i]?=some (.lst x))(hj:σ[j]?=some (.lst y))(h:x.length+y.length<=big):prim .add [.ref i,.ref j] σ = .ok (.ref σ.length) (σ++[.lst (x++y)]):=by simp[prim,pAdd,hi,hj,h]
@[simp] theorem p_sub(i j:Int):prim .sub [.g (.int i),.g (.int j)] σ = .ok (.g (.int (i-j))) σ:=rfl
theorem p_mul{i j:Int}(h:(-(2 ^ 64)<i/\i<2 ^ 64)\/(-(2 ^ 64)<j/\j<2 ^ 64)):prim .mul [.g (.int i),.g (.int j)] σ = .ok (.g (.int (i*j))) σ:=by
 simp only[prim,pMul,if_pos h,okG]
theorem p_fdiv{i j:Int}(h:0<j/\j<1073741824):prim .fdiv [.g (.int i),.g (.int j)] σ = .ok (.g (.int (i / j))) σ:=by
 simp only[prim,pFdiv,if_pos h,okG]
theorem p_mod{i j:Int}(h:0<j):prim .mod [.g (.int i),.g (.int j)] σ = .ok (.g (.int (i % j))) σ:=by
 simp only[prim,pMod,if_pos h,okG]
@[simp] theorem p_eq{x:G}(y:G)(h:shal x=true):prim .eq [.g x,.g y] σ = .ok (.g (.bl (peq x y))) σ:=by simp[prim,pEq,reqv,h,okG]
@[simp] theorem p_ne{x:G}(y:G)(h:shal x=true):prim .ne [.g x,.g y] σ = .ok (.g (.bl (!peq x y))) σ:=by simp[prim,pNe,reqv,h,okG]
@[simp] theorem p_lt(i j:Int):prim .lt [.g (.int i),.g (.int j)] σ = .ok (.g (.bl (decide (i<j)))) σ:=rfl
@[simp] theorem p_le(i j:Int):prim .le [.g (.int i),.g (.int j)] σ = .ok (.g (.bl (decide (i<=j)))) σ:=rfl
@[simp] theorem p_gt(i j:Int):prim .gt [.g (.int i),.g (.int j)] σ = .ok (.g (.bl (decide (j<i)))) σ:=rfl
@[simp] theorem p_ge(i j:Int):prim .ge [.g (.int i),.g (.int j)] σ = .ok (.g (.bl (decide (j<=i)))) σ:=rfl
@[simp] theorem p_isN(x:R):prim .isN [x,.g .non] σ = .ok (.g (.bl (isNon x))) σ:=rfl
@[simp] theorem p_notN(x:R):prim .notN [x,.g .non] σ = .ok (.g (.bl (!isNon x))) σ:=rfl
@[simp] theorem p_idxT(xs:List G)(i:Int):prim .idx [.g (.tup xs),.g (.int i)] σ=ofO (at? xs i) fun x=>.ok (.g x) σ:=rfl
@[simp] theorem p_idxS(xs:List Nat)(i:Int):prim .idx [.g (.str xs),.g (.int i)] σ=ofO (at? xs i) fun x=>.ok (.g (.str [x])) σ:=rfl
@[simp] theorem p_idxR(xs:List R)(i:Int):prim .idx [.tr xs,.g (.int i)] σ=ofO (at? xs i) fun x=>.ok x σ:=rfl
theorem p_idxL{k:Nat}{xs:List G}(h:σ[k]?=some (.lst xs))(i:Int):prim .idx [.ref k,.g (.int i)] σ=ofO (at? xs i) fun x=>.ok (.g x) σ:=by simp[prim,pIdx,h,okG]
theorem p_idxB{k:Nat}{xs:List G}(h:σ[k]?=some (.rdl xs))(i:Int):prim .idx [.ref k,.g (.int i)] σ=ofO (at? xs i) fun x=>.ok (.g x) σ:=by simp[prim,pIdx,h,okG]
theorem p_len{x:R}{n:Nat}(h:lenOf σ x=some n):prim .len [x] σ = .ok (.g (.int n)) σ:=by simp[prim,pLen,h,ofO,okG]
theorem p_tup{xs:List R}(h:xs.length<=1000):prim .tup xs σ = .ok (mkTup xs) σ:=by
 show pTup xs σ=_
 unfold pTup
 rw[if_pos h]
theorem p_lst{xs:List R}(h:xs.length<=1000):prim .lst xs σ = .ok (.ref σ.length) (σ++[mkLst xs]):=by
 show pLst xs σ=_
 unfold pLst
 rw[if_pos h]
@[simp] theorem p_dct0:prim .dct0 [] σ = .ok (.ref σ.length) (σ++[.dct []]):=rfl
theorem p_tupleL{k:Nat}{xs:List G}(h:σ[k]?=some (.lst xs)):prim .tupleOf [.ref k] σ = .ok (.g (.tup xs)) σ:=by simp[prim,pTupleOf,h,okG]
@[simp] theorem p_tupleT(xs:List G):prim .tupleOf [.g (.tup xs)] σ = .ok (.g (.tup xs)) σ:=rfl
@[simp] theorem p_listT(xs:List G):prim .listOf [.g (.tup xs)] σ = .ok (.ref σ.length) (σ++[.lst xs]):=rfl
theorem p_all{k:Nat}{xs:List G}{bs:List Bool}(h:σ[k]?=some (.lst xs))(hb:bools xs=some bs):prim .all [.ref k] σ = .ok (.g (.bl (bs.all id))) σ:=by simp[prim,pAll,h,hb,ofO,okG]
theorem p_append{k:Nat}{xs:List G}{x:G}(h:σ[k]?=some (.lst xs))(hl:xs.length<big):prim .append [.ref k,.g x] σ = .ok (.g .non) (σ.set k (.lst (xs++[x]))):=by simp[prim,pAppend,h,hl]
theorem p_extend{k j:Nat}{xs ys:List G}(h:σ[k]?=some (.lst xs))(h2:σ[j]?=some (.lst ys))(hl:xs.length+ys.length<=big):prim .extend [.ref k,.ref j] σ = .ok (.g .non) (σ.set k (.lst (xs++ys))):=by simp[prim,pExtend,h,h2,hl]
theorem p_sum{k:Nat}{xs:List G}{is:List Int}(h:σ[k]?=some (.lst xs))(hi:intsOf xs=some is):prim .sum [.ref k] σ = .ok (.g (.int is.sum)) σ:=by simp[prim,pSum,h,hi,ofO,okG]
theorem p_isInst{x:R}{ts:List Ty}(t:Ty)(h:tyOf σ x=some ts):prim (.isInst t) [x] σ = .ok (.g (.bl (ts.contains t))) σ:=by simp[prim,pIsInst,h,ofO,okG]
@[simp] theorem shal_int(i:Int):shal (.int i)=true:=(show shal (.int i)=true from rfl).trans (Eq.symm (Eq.refl true))
@[simp] theorem shal_str(x:List Nat):shal (.str x)=true:=(show shal (.str x)=true from rfl).trans (Eq.symm (Eq.refl true))
end MP
namespace MP
inductive F where
 |gap (n:Int)|tie (w:List Nat) (ps:List F)
 deriving Inhabited
noncomputable abbrev sGap:List Nat:=[103,97,112]
noncomputable abbrev sTie:List Nat:=[116,105,101]
mutual
noncomputable def enc:F->G
 | .gap n=>.tup [.str sGap,.int n]
 | .tie w ps=>.tup [.str sTie,.str w,.tup (encs ps)]
noncomputable def encs:List F->List G
 | []=>[]
 |x::r=>enc x::encs r
end
theorem encs_map:∀ l,encs l=l.map enc
 | []=>rfl
 |x::r=>by simp[encs,encs_map r]
mutual
theorem enc_inj:∀ {a b:F},enc a=enc b->a=b
 | .gap n,.gap m,h=>by simp[enc] at h;rw[h]
 | .gap n,.tie w ps,h=>by simp[enc] at h
 | .tie w ps,.gap n,h=>by simp[enc] at h
 | .tie w ps,.tie v qs,h=>by
  simp[enc] at h
  rw[h.1,encs_inj h.2]
theorem encs_inj:∀ {a b:List F},encs a=encs b->a=b
 | [],[],_=>rfl
 | [],_::_,h=>by simp[encs] at h
 |_::_,[],h=>by simp[encs] at h
 |x::r,y::t,h=>by
  simp[encs] at h
  rw[enc_inj h.1,encs_inj h.2]
end
mutual
theorem peq_enc:∀ (a b:F),peq (enc a) (enc b)=decide (enc a=enc b)
 | .gap n,.gap m=>by by_cases h:n=m<;>simp[enc,peq,peqs,h]
 | .gap n,.tie w ps=>by simp[enc,peq,peqs]
 | .tie w ps,.gap n=>by simp[enc,peq,peqs]
 | .tie w ps,.tie v qs=>by
  have ih:=peqs_enc ps qs
  by_cases h:w=v<;>simp[enc,peq,peqs,h,ih]
theorem peqs_enc:∀ (a b:List F),peqs (encs a) (encs b)=decide (encs a=encs b)
 | [],[]=>by simp[encs,peqs]
 | [],_::_=>by simp[encs,peqs]
 |_::_,[]=>by simp[encs,peqs]
 |x::r,y::t=>by
  have h1:=peq_enc x y
  have h2:=peqs_enc r t
  simp[encs,peqs,h1,h2]
end
theorem peq_self(a:F):peq (enc a) (enc a)=true:=by rw[peq_enc];simp
noncomputable abbrev Fg:=List (Int × F)
noncomputable def dval(m:Fg)(n:Int):Option F:=match m with
 | []=>none
 | (k,f)::r=>if k=n then some f else dval r n
noncomputable def dset:Fg->Int->F->Fg
 | [],n,f=>[(n,f)]
 | (k,g)::r,n,f=>if k=n then (k,f)::r else (k,g)::dset r n f
mutual
noncomputable def fill(m:Fg):F->F
 | .gap n=>(dval m n).getD (.gap n)
 | .tie w ps=>.tie w (fills m ps)
noncomputable def fills(m:Fg):List F->List F
 | []=>[]
 |x::r=>fill m x::fills m r
end
mutual
noncomputable def dep:F->Nat
 | .gap _=>1
 | .tie _ ps=>deps ps+1
noncomputable def deps:List F->Nat
 | []=>0
 |x::r=>max (dep x) (deps r)
end
theorem dep_pos:∀ f:F,1<=dep f
 | .gap _=>by simp[dep]
 | .tie _ _=>by simp[dep]
theorem dep_le{f:F}:∀ {ps:List F},f∈ps->dep f<=deps ps
 |x::r,h=>by
  rcases List.mem_cons.mp h with e|h
  ·subst e;simp only[deps];omega
  ·have:=dep_le h;simp only[deps];omega
theorem deps_le{n:Nat}:∀ {ps:List F},(∀ f∈ps,dep f<=n)->deps ps<=n
 | [],_=>by simp[deps]
 |x::r,h=>by
  have h1:=h x List.mem_cons_self
  have h2:=deps_le fun f hf=>h f (List.mem_cons_of_mem _ hf)
  simp only[deps];omega
mutual
theorem gdep_enc:∀ f:F,gdep (enc f)<=2*dep f
 | .gap n=>by simp[enc,gdep,gdeps,dep]
 | .tie w ps=>by
  have:=gdeps_encs ps
  simp only[enc,gdep,gdeps,dep];omega
theorem gdeps_encs:∀ ps:List F,gdeps (encs ps)<=2*deps ps
 | []=>by simp[encs,gdeps]
 |x::r=>by
  have h1:=gdep_enc x
  have h2:=gdeps_encs r
  simp only[encs,gdeps,deps];omega
end
theorem shal_enc{f:F}(h:dep f<=75):shal (enc f)=true:=by
 have:=gdep_enc f
 unfold shal
 exact decide_eq_true (by omega)
noncomputable def keys(m:Fg):List Int:=m.map (·.1)
theorem dset_mem{m:Fg}{n k:Int}{f g:F}(h:(k,g)∈dset m n f):(k,g)∈m\/(k=n/\g=f):=by
 induction m with
 |nil=>simp[dset] at h;exact .inr h
 |cons p r ih =>
  obtain⟨j,e⟩:=p
  simp only[dset] at h
  split at h
  ·rcases List.mem_cons.mp h with q|q
   ·cases q;rename_i z;exact .inr ⟨z,rfl⟩
   ·exact .inl (List.mem_cons_of_mem _ q)
  ·rcases List.mem_cons.mp h with q|q
   ·cases q;exact .inl List.mem_cons_self
   ·rcases ih q with z|z
    ·exact .inl (List.mem_cons_of_mem _ z)
    ·exact .inr z
theorem dset_keys_mem{m:Fg}{n k:Int}{f:F}(h:k∈keys (dset m n f)):k∈keys m\/k=n:=by
 obtain⟨p,hp,e⟩:=List.mem_map.mp h
 obtain⟨a,b⟩:=p
 rcases dset_mem hp with z|z
 ·exact .inl (List.mem_map.mpr ⟨_,z,e⟩)
 ·exact .inr (by rw[← e];exact z.1)
theorem dset_nodup{m:Fg}{n:Int}{f:F}(nd:(keys m).Nodup):(keys (dset m n f)).Nodup:=by
 induction m with
 |nil=>simp[dset,keys]
 |cons p r ih =>
  obtain⟨j,e⟩:=p
  simp only[keys,List.map_cons,List.nodup_cons] at nd
  simp only[dset]
  split
  ·simp only[keys,List.map_cons,List.nodup_cons];exact nd
  ·rename_i hj
   simp only[keys,List.map_cons,List.nodup_cons]
   refine⟨fun h => ?_,ih nd.2⟩
   rcases dset_keys_mem h with z|z
   ·exact nd.1 z
   ·exact hj z
theorem dval_dset(m:Fg)(n k:Int)(f:F):dval (dset m n f) k=if n=k then some f else dval m k:=by
 induction m with
 |nil=>simp[dset,dval]
 |cons p r ih =>
  obtain⟨j,e⟩:=p
  by_cases h:j=n
  ·subst h
   by_cases h2:j=k<;>simp[dset,dval,h2]
  ·by_cases h2:j=k
   ·subst h2
    simp[dset,dval,h,Ne.symm h]
   ·simp[dset,dval,h,h2,ih]
variable {P:List Fn}{W:Nat}
noncomputable def fn_is_gap:Fn:=⟨"is_gap",1,1,
 (.cons (.ret (.op .eq (.cons (.op .idx (.cons (.var 0) (.cons (.con (.int 0)) .nil))) (.cons (.con (.str [103,97,112])) .nil))))
 .nil)⟩
noncomputable def fn_filled:Fn:=⟨"filled",2,3,
 (.cons (.ite (.call "is_gap" (.cons (.var 0) .nil)) (.cons (.ret (.meth .get2 (.var 1) (.cons (.op .idx (.cons (.var 0) (.cons (.con (.int 1)) .nil))) (.cons (.var 0) .nil))))
 .nil) .nil)
 (.cons (.set 2 (.comp 1 [1] (.over (.op .idx (.cons (.var 0) (.cons (.con (.int 2)) .nil)))) .nil (.call "filled" (.cons (.var 0) (.cons (.var 1) .nil)))))
 (.cons (.ret (.op .tup (.cons (.con (.str [116,105,101])) (.cons (.op .idx (.cons (.var 0) (.cons (.con (.int 1)) .nil))) (.cons (.op .tupleOf (.cons (.var 2) .nil)) .nil)))))
 .nil)))⟩
theorem run_is_gap(h1:look P "is_gap"=some fn_is_gap){n:Nat}(f:F)(σ:Store) :
 run P W (n+1) "is_gap" [.g (enc f)] σ = .ok (.g (.bl (match f with | .gap _=>true|_=>false))) σ:=by
 rw[run_call h1 n _ _ rfl]
 cases f with
 |gap k=>simp[fn_is_gap,enc,at?,ixOf,peq]
 |tie w ps=>simp[fn_is_gap,enc,at?,ixOf,peq]
end MP
namespace MP
variable {P:List Fn}{W:Nat}
noncomputable def fn__law_cell_at:Fn:=⟨"_law_cell_at",2,2,
 (.cons (.ite (.op .lt (.cons (.var 1) (.cons (.op .len (.cons (.var 0) .nil)) .nil))) (.cons (.ret (.op .idx (.cons (.var 0) (.cons (.var 1) .nil))))
 .nil) .nil)
 (.cons (.ret (.con (.int 0)))
 .nil))⟩
noncomputable def fn__law_whole:Fn:=⟨"_law_whole",1,1,
 (.cons (.ret (.andT (.op (.isInst .int) (.cons (.var 0) .nil)) (.notT (.op (.isInst .bool) (.cons (.var 0) .nil)))))
 .nil)⟩
noncomputable def fn__law_form:Fn:=⟨"_law_form",3,8,
 (.cons (.setIdx (.var 0) (.con (.int 0)) (.op .mod (.cons (.op .add (.cons (.op .mul (.cons (.op .idx (.cons (.var 0) (.cons (.con (.int 0)) .nil))) (.cons (.con (.int 48271)) .nil))) (.cons (.con (.int 29)) .nil))) (.cons (.con (.int 2147483647)) .nil))))
 (.cons (.set 3 (.op .fdiv (.cons (.op .idx (.cons (.var 0) (.cons (.con (.int 0)) .nil))) (.cons (.con (.int 7)) .nil))))
 (.cons (.setIdx (.var 0) (.con (.int 1)) (.op .sub (.cons (.op .idx (.cons (.var 0) (.cons (.con (.int 1)) .nil))) (.cons (.con (.int 1)) .nil))))
 (.cons (.ite (.andT (.op .eq (.cons (.op .mod (.cons (.var 3) (.cons (.con (.int 3)) .nil))) (.cons (.con (.int 0)) .nil))) (.op .gt (.cons (.var 1) (.cons (.con (.int 0)) .nil)))) (.cons (.ret (.op .tup (.cons (.con (.str [103,97,112])) (.cons (.op .mod (.cons (.op .fdiv (.cons (.var 3) (.cons (.con (.int 3)) .nil))) (.cons (.var 1) .nil))) .nil))))
 .nil) .nil)
 (.cons (.set 4 (.op .lst (.cons (.con (.str [97])) (.cons (.con (.str [97,98])) (.cons (.con (.str [102])) (.cons (.con (.str [102,103])) .nil))))))
 (.cons (.set 5 (.op .mod (.cons (.op .fdiv (.cons (.var 3) (.cons (.con (.int 3)) .nil))) (.cons (.con (.int 5)) .nil))))
 (.cons (.ite (.orT (.op .lt (.cons (.var 2) (.cons (.con (.int 2)) .nil))) (.op .lt (.cons (.op .idx (.cons (.var 0) (.cons (.con (.int 1)) .nil))) (.cons (.con (.int 4)) .nil)))) (.cons (.ret (.op .tup (.cons (.con (.str [116,105,101])) (.cons (.op .idx (.cons (.var 4) (.cons (.op .mod (.cons (.op .fdiv (.cons (.var 3) (.cons (.con (.int 15)) .nil))) (.cons (.con (.int 2)) .nil))) .nil))) (.cons (.op .tup .nil) .nil)))))
 .nil) .nil)
 (.cons (.set 6 (.op .lst .nil))
 (.cons (.forS [7] (.range1 (.var 5)) (.cons (.expr (.meth .append (.var 6) (.cons (.call "_law_form" (.cons (.var 0) (.cons (.var 1) (.cons (.op .sub (.cons (.var 2) (.cons (.con (.int 1)) .nil))) .nil)))) .nil)))
 .nil))
 (.cons (.ret (.op .tup (.cons (.con (.str [116,105,101])) (.cons (.op .idx (.cons (.var 4) (.cons (.op .mod (.cons (.op .fdiv (.cons (.var 3) (.cons (.con (.int 15)) .nil))) (.cons (.con (.int 4)) .nil))) .nil))) (.cons (.op .tupleOf (.cons (.var 6) .nil)) .nil)))))
 .nil))))))))))⟩
noncomputable def fn__law_drawn:Fn:=⟨"_law_drawn",3,3,
 (.cons (.ret (.call "_law_form" (.cons (.op .lst (.cons (.op .mod (.cons (.var 0) (.cons (.con (.int 2147483647)) .nil))) (.cons (.con (.int 24)) .nil))) (.cons (.var 1) (.cons (.var 2) .nil)))))
 .nil)⟩
noncomputable def fn__law_is_form:Fn:=⟨"_law_is_form",1,1,
 (.cons (.ite (.orT (.notT (.op (.isInst .tuple) (.cons (.var 0) .nil))) (.orT (.op .lt (.cons (.op .len (.cons (.var 0) .nil)) (.cons (.con (.int 2)) .nil))) (.notT (.op (.isInst .str) (.cons (.op .idx (.cons (.var 0) (.cons (.con (.int 0)) .nil))) .nil))))) (.cons (.ret (.con (.bl false)))
 .nil) .nil)
 (.cons (.ite (.op .eq (.cons (.op .idx (.cons (.var 0) (.cons (.con (.int 0)) .nil))) (.cons (.con (.str [103,97,112])) .nil))) (.cons (.ret (.andT (.op .eq (.cons (.op .len (.cons (.var 0) .nil)) (.cons (.con (.int 2)) .nil))) (.call "_law_whole" (.cons (.op .idx (.cons (.var 0) (.cons (.con (.int 1)) .nil))) .nil))))
 .nil) .nil)
 (.cons (.ite (.orT (.op .ne (.cons (.op .idx (.cons (.var 0) (.cons (.con (.int 0)) .nil))) (.cons (.con (.str [116,105,101])) .nil))) (.orT (.op .ne (.cons (.op .len (.cons (.var 0) .nil)) (.cons (.con (.int 3)) .nil))) (.orT (.notT (.op (.isInst .str) (.cons (.op .idx (.cons (.var 0) (.cons (.con (.int 1)) .nil))) .nil))) (.notT (.op (.isInst .tuple) (.cons (.op .idx (.cons (.var 0) (.cons (.con (.int 2)) .nil))) .nil)))))) (.cons (.ret (.con (.bl false)))
 .nil) .nil)
 (.cons (.ret (.op .eq (.cons (.op .len (.cons (.comp 1 [] (.over (.op .idx (.cons (.var 0) (.cons (.con (.int 2)) .nil)))) (.cons (.notT (.call "_law_is_form" (.cons (.var 0) .nil))) .nil) (.var 0)) .nil)) (.cons (.con (.int 0)) .nil))))
 .nil))))⟩
theorem at_nat{α:Type}{xs:List α}{j:Nat}{v:α}(h:xs[j]?=some v):at? xs (j:Int)=some v:=by
 have hl:j<xs.length:=(List.getElem?_eq_some_iff.mp h).1
 have:(j:Int)<xs.length:=by omega
 simp[at?,ixOf,this,h]
noncomputable def cellAt(ns:List Int)(k:Nat):Int:=ns.getD k 0
theorem run_cell_at(h1:look P "_law_cell_at"=some fn__law_cell_at){n:Nat}{s:Nat}{ns:List Int}(k:Nat)(σ:Store)(hs:σ[s]?=some (.rdl (ns.map .int))) :
 run P W (n+1) "_law_cell_at" [.ref s,.g (.int k)] σ = .ok (.g (.int (cellAt ns k))) σ:=by
 rw[run_call h1 n _ _ rfl]
 generalize run P W n=cl
 have hl:prim .len [.ref s] σ = .ok (.g (.int (ns.length:Nat))) σ:=p_len (by simp[lenOf,hs])
 by_cases h:k<ns.length
 ·have hi:(k:Int)<ns.length:=by omega
  have ha:at? (ns.map G.int) (k:Int)=some (.int (cellAt ns k)):=at_nat (by simp[cellAt,h])
  simp[fn__law_cell_at,hl,hi,p_idxB hs,ha]
 ·have hi:¬ (k:Int)<ns.length:=by omega
  have hc:cellAt ns k=0:=by simp[cellAt,h]
  simp[fn__law_cell_at,hl,hi,hc]
theorem run_whole_int(h1:look P "_law_whole"=some fn__law_whole){n:Nat}(i:Int)(σ:Store) :
 run P W (n+1) "_law_whole" [.g (.int i)] σ = .ok (.g (.bl true)) σ:=by
 rw[run_call h1 n _ _ rfl]
 simp[fn__law_whole,p_isInst,tyOf]
noncomputable def w4:List (List Nat):=[[97],[97,98],[102],[102,103]]
mutual
noncomputable def okF(many:Int):F->Prop
 | .gap n=>0<=n/\n<many
 | .tie w ps=>w∈w4/\ps.length<=4/\okFs many ps
noncomputable def okFs(many:Int):List F->Prop
 | []=>True
 |x::r=>okF many x/\okFs many r
end
theorem okFs_iff{many:Int}:∀ {ps:List F},okFs many ps↔∀ f∈ps,okF many f
 | []=>by simp[okFs]
 |x::r=>by simp[okFs,okFs_iff (ps:=r)]
theorem okFs_snoc{many:Int}{ps:List F}{f:F}(h:okFs many ps)(hf:okF many f):okFs many (ps++[f]):=by
 rw[okFs_iff] at h ⊢
 intro g hg
 rcases List.mem_append.mp hg with z|z
 ·exact h g z
 ·simp at z;subst z;exact hf
theorem words_at{x:Int}(k:Nat)(hk:k=2\/k=4)(h0:0<=x)(h1:x<k):∃ w,at? (w4.map G.str) x=some (.str w)/\w∈w4:=by
 have:x=0\/x=1\/x=2\/x=3:=by omega
 rcases this with e|e|e|e<;>subst e<;>simp[at?,ixOf,w4]
theorem set_len(σ:Store)(i:Nat)(c:Cell):(σ.set i c).length=σ.length:=List.length_set
theorem get_app{σ:Store}{i:Nat}{c:Cell}(g:Store)(h:σ[i]?=some c):(σ++g)[i]?=some c:=by
 rw[List.getElem?_append_left (List.getElem?_eq_some_iff.mp h).1];exact h
theorem get_set{σ:Store}{i:Nat}{c d:Cell}(h:σ[i]?=some d):(σ.set i c)[i]?=some c:=by
 rw[List.getElem?_set_self (List.getElem?_eq_some_iff.mp h).1]
theorem take_set(σ:Store)(i:Nat)(c:Cell):(σ.set i c).take σ.length=σ.set i c:=List.take_of_length_le (by simp)
theorem take_set_app(σ:Store)(i:Nat)(c:Cell)(g:Store):(σ.set i c++g).take σ.length=σ.set i c:=by
 have:=List.take_left (l₁:=σ.set i c) (l₂:=g)
 rwa [List.length_set] at this
theorem lt_of_get{σ:Store}{i:Nat}{c:Cell}(h:σ[i]?=some c):i<σ.length:=(List.getElem?_eq_some_iff.mp h).1
mutual
noncomputable def sz:F->Nat
 | .gap _=>1
 | .tie _ ps=>szs ps+1
noncomputable def szs:List F->Nat
 | []=>0
 |x::r=>sz x+szs r
end
noncomputable def Bud(d:Nat)(c:Int)(f:F)(c':Int):Prop:=(sz f:Int)=c-c'/\(c<=4->c'=c-1)/\(1<=d->5<=c->4-4*((d:Int)-1)<=c')
noncomputable def Buds(d:Nat)(c:Int)(j:Nat)(c':Int):Prop:=1<=d->4<=c->4-4*((d:Int)-1)-(j:Int)<=c'
theorem szs_app:∀ (a b:List F),szs (a++b)=szs a+szs b
 | [],b=>by simp[szs]
 |x::r,b=>by simp[szs,szs_app r b];omega
noncomputable def spotC(s c:Int):Cell:=.lst [.int s,.int c]
@[simp] theorem kept_spot_more{σ τ J:Store}{i:Nat}{s c:Int}(h:kept σ τ=true):kept σ (τ.set i (spotC s c)++J)=true:=kept_set_lst_more h
noncomputable abbrev formLoop:Blk:=(.cons (.expr (.meth .append (.var 6) (.cons (.call "_law_form" (.cons (.var 0) (.cons (.var 1) (.cons (.op .sub (.cons (.var 2) (.cons (.con (.int 1)) .nil))) .nil)))) .nil))) .nil)
theorem form_loop{cl:CallH}{i:Nat}{many:Int}{d:Nat}{τ:Store}{wd:Cell}{x3 x5:R}{D:Int}(hD:D-1=(d:Int))
 (hc:∀ (σ:Store) (s c:Int),σ[i]?=some (spotC s c)->∃ f s' c',cl "_law_form" [.ref i,.g (.int many),.g (.int d)] σ = .ok (.g (enc f)) (σ.set i (spotC s' c'))/\dep f<=max d 1/\okF many f/\Bud d c f c') {c0:Int} :
 ∀ (xs:List R) (fs:List F) (s c:Int) (o:Option R),i<τ.length->fs.length+xs.length<=4->(∀ f∈fs,dep f<=max d 1)->okFs many fs->((szs fs:Int)=c0-c/\Buds d c0 fs.length c) →
  ∃ gs s' c' o',forL [7] (evB cl W formLoop) none xs [some (.ref i),some (.g (.int many)),some (.g (.int D)),some x3,some (.ref τ.length),some x5,some (.ref (τ.length+1)),o] (τ.set i (spotC s c)++[wd,.lst (encs fs)])
   = .ok (.next [some (.ref i),some (.g (.int many)),some (.g (.int D)),some x3,some (.ref τ.length),some x5,some (.ref (τ.length+1)),o']) (τ.set i (spotC s' c')++[wd,.lst (encs gs)])
   ∧ gs.length<=4/\(∀ f∈gs,dep f<=max d 1)/\okFs many gs/\((szs gs:Int)=c0-c'/\Buds d c0 gs.length c')
 | [],fs,s,c,o,hi,hl,hd,hk,hq=>⟨fs,s,c,o,by rw[forL_nil];rfl,by simpa using hl,hd,hk,hq⟩
 |x::r,fs,s,c,o,hi,hl,hd,hk,hq=>by
  have hg:(τ.set i (spotC s c)++[wd,.lst (encs fs)])[i]?=some (spotC s c):=get_app _ (by simp[hi])
  obtain⟨f,s',c',e,e1,e2,e3⟩:=hc _ s c hg
  have hq':(szs (fs++[f]):Int)=c0-c'/\Buds d c0 (fs++[f]).length c':=by
   obtain⟨q1,q2⟩:=hq
   obtain⟨b1,b2,b3⟩:=e3
   refine⟨by rw[szs_app];simp only[szs];omega,fun h1 h2 => ?_⟩
   have:=q2 h1 h2
   simp only[List.length_append,List.length_cons,List.length_nil]
   by_cases h5:5<=c
   ·have:=b3 h1 h5;omega
   ·have:=b2 (by omega);omega
  have hs:(τ.set i (spotC s c)++[wd,.lst (encs fs)]).set i (spotC s' c')=τ.set i (spotC s' c')++[wd,.lst (encs fs)]:=by
   rw[List.set_append_left _ _ (by simpa using hi),List.set_set]
  rw[hs] at e
  have hp:(τ.set i (spotC s' c')++[wd,.lst (encs fs)])[τ.length+1]?=some (.lst (encs fs)):=by
   rw[List.getElem?_append_right (by simp)];simp
  have hp2:(τ.set i (spotC s' c')++[wd,.lst (encs fs)]).set (τ.length+1) (.lst (encs fs++[enc f]))=τ.set i (spotC s' c')++[wd,.lst (encs (fs++[f]))]:=by
   rw[List.set_append_right _ _ (by simp)];simp[encs_map]
  have hp0:(τ.set i (spotC s c)++[wd,.lst (encs fs)])[τ.length+1]?=some (.lst (encs fs)):=by
   rw[List.getElem?_append_right (by simp)];simp
  have hlen:(encs fs).length<big:=by simp[encs_map,big];simp at hl;omega
  obtain⟨gs,s2,c2,o2,ih,h1,h2,h3⟩:=form_loop hD hc (c0:=c0) (wd:=wd) (x3:=x3) (x5:=x5) r (fs++[f]) s' c' (some x) hi (by simp at hl ⊢;omega)
   (fun g hg=>by rcases List.mem_append.mp hg with z|z;exact hd g z;simp at z;subst z;exact e1) (okFs_snoc hk e2) hq'
  refine⟨gs,s2,c2,o2,?_,h1,h2,h3⟩
  rw[forL_cons _ _ _ _ _ rfl]
  simp only[bindTg,setSlot,List.length_cons,List.length_nil]
  simp[kFB_some,recv_append hp0,hD,e,p_append hp hlen,hp2]
  simpa using ih
theorem run_formB(h1:look P "_law_form"=some fn__law_form):∀ (n d:Nat) (many:Int) (i:Nat) (σ:Store) (s c:Int),d+1<=n->σ[i]?=some (spotC s c) →
 ∃ f s' c',run P W n "_law_form" [.ref i,.g (.int many),.g (.int d)] σ = .ok (.g (enc f)) (σ.set i (spotC s' c'))/\dep f<=max d 1/\okF many f/\Bud d c f c'
 |0,d,_,_,_,_,_,h,_=>by omega
 |n+1,d,many,i,σ,s,c,h,hs=>by
  have hi:=lt_of_get hs
  rw[run_call h1 n _ _ rfl]
  have ih:∀ d',d=d'+1->∀ (σ:Store) (s c:Int),σ[i]?=some (spotC s c)->∃ f s' c',run P W n "_law_form" [.ref i,.g (.int many),.g (.int d')] σ = .ok (.g (enc f)) (σ.set i (spotC s' c'))/\dep f<=max d' 1/\okF many f/\Bud d' c f c' :=
   fun d' e σ s c hs=>run_formB h1 n d' many i σ s c (by omega) hs
  generalize run P W n=cl at ih
  generalize hs1:(s*48271+29) % 2147483647=s1
  have hS1:(σ.set i (.lst [.int s1,.int c]))[i]?=some (.lst [.int s1,.int c]):=get_set hs
  have hS2:(σ.set i (.lst [.int s1,.int (c-1)]))[i]?=some (.lst [.int s1,.int (c-1)]):=get_set hs
  have hs':σ[i]?=some (.lst [.int s,.int c]):=hs
  have m1:prim .mul [.g (.int s),.g (.int 48271)] σ = .ok (.g (.int (s*48271))) σ:=p_mul (by omega)
  have m2:prim .mod [.g (.int (s*48271+29)),.g (.int 2147483647)] σ = .ok (.g (.int s1)) σ:=by rw[p_mod (by omega),hs1]
  have i0:∀ (a b:Int),at? [G.int a,G.int b] 0=some (.int a):=fun a b=>rfl
  have i1:∀ (a b:Int),at? [G.int a,G.int b] 1=some (.int b):=fun a b=>rfl
  have k0:∀ (a b:Int),ixOf [G.int a,G.int b].length 0=some 0:=fun a b=>rfl
  have k1:∀ (a b:Int),ixOf [G.int a,G.int b].length 1=some 1:=fun a b=>rfl
  have dv:∀ (σ:Store) (a b:Int),0<b->b<1073741824->prim .fdiv [.g (.int a),.g (.int b)] σ = .ok (.g (.int (a / b))) σ:=fun σ a b h1 h2=>p_fdiv ⟨h1,h2⟩
  have md:∀ (σ:Store) (a b:Int),0<b->prim .mod [.g (.int a),.g (.int b)] σ = .ok (.g (.int (a % b))) σ:=fun σ a b h=>p_mod h
  by_cases hg:s1 / 7 % 3=0/\0<many
  ·refine⟨.gap (s1 / 7 / 3 % many),s1,c-1,?_,by simp[dep];omega,⟨Int.emod_nonneg _ (by omega),Int.emod_lt_of_pos _ hg.2⟩,⟨by simp only[sz];omega,fun _=>rfl,fun h1 h2=>by omega⟩⟩
   simp[fn__law_form,p_idxL hs',i0,i1,m1,m2,kPut3_lst hs' (k0 _ _),p_idxL hS1,kPut3_lst hS1 (k1 _ _),p_idxL hS2,dv,md,setSlot,peq,hg.1,hg.2,p_tup,mkTup,allG,enc,spotC,take_set]
  ·have hb:kAnd cl true (.op .gt (.cons (.var 1) (.cons (.con (.int 0)) .nil))) [some (.ref i),some (.g (.int many)),some (.g (.int d)),some (.g (.int (s1 / 7))),none,none,none,none] (.ok (.g (.bl (s1 / 7 % 3 == 0))) (σ.set i (.lst [.int s1,.int (c-1)]))) = .ok (.g (.bl false)) (σ.set i (.lst [.int s1,.int (c-1)])):=by
    by_cases h0:s1 / 7 % 3=0
    ·have:¬ 0<many:=fun z=>hg ⟨h0,z⟩
     rw[h0]
     simp[this]
    ·rw[beq_eq_false_iff_ne.mpr h0]
     rfl
   have hw:mkLst [R.g (.str [97]),R.g (.str [97,98]),R.g (.str [102]),R.g (.str [102,103])] = .lst (w4.map G.str):=rfl
   have hW:∀ (τ:Store),τ.length=σ.length->(τ++[Cell.lst (w4.map G.str)])[σ.length]?=some (.lst (w4.map G.str)):=fun τ e=>by rw[← e];simp
   have hS3:(σ.set i (.lst [.int s1,.int (c-1)])++[Cell.lst (w4.map G.str)])[i]?=some (.lst [.int s1,.int (c-1)]):=get_app _ hS2
   by_cases hl:d<2\/c-1<4
   ·obtain⟨w,e1,e2⟩:=words_at (x:=s1 / 7 / 15 % 2) 2 (.inl rfl) (Int.emod_nonneg _ (by omega)) (Int.emod_lt_of_pos _ (by omega))
    refine⟨.tie w [],s1,c-1,?_,by simp[dep,deps];omega,⟨e2,by simp,by simp[okFs]⟩,⟨by simp only[sz,szs];omega,fun _=>rfl,fun h1 h2=>by omega⟩⟩
    have hb2:kOr cl true (.op .lt (.cons (.op .idx (.cons (.var 0) (.cons (.con (.int 1)) .nil))) (.cons (.con (.int 4)) .nil))) [some (.ref i),some (.g (.int many)),some (.g (.int d)),some (.g (.int (s1 / 7))),some (.ref σ.length),some (.g (.int (s1 / 7 / 3 % 5))),none,none] (.ok (.g (.bl (decide ((d:Int)<2)))) (σ.set i (.lst [.int s1,.int (c-1)])++[Cell.lst (w4.map G.str)])) = .ok (.g (.bl true)) (σ.set i (.lst [.int s1,.int (c-1)])++[Cell.lst (w4.map G.str)]):=by
     by_cases h2:(d:Int)<2
     ·simp[h2]
     ·have:c-1<4:=by omega
      simp[h2,p_idxL hS3,i1,this]
    simp[fn__law_form,p_idxL hs',i0,i1,m1,m2,kPut3_lst hs' (k0 _ _),p_idxL hS1,kPut3_lst hS1 (k1 _ _),p_idxL hS2,dv,md,setSlot,peq,hb,p_lst,hw,hb2,p_idxL (hW _ (set_len _ _ _)),e1,p_tup,mkTup,allG,enc,encs,spotC,take_set_app]
   ·obtain⟨d',rfl⟩:∃ d',d=d'+1:=⟨d-1,by omega⟩
    have hDD:((d'+1:Nat):Int)-1=d':=by omega
    have hD2:¬ ((d'+1:Nat):Int)<2:=by omega
    generalize ((d'+1:Nat):Int)=D at *
    have hb2:kOr cl true (.op .lt (.cons (.op .idx (.cons (.var 0) (.cons (.con (.int 1)) .nil))) (.cons (.con (.int 4)) .nil))) [some (.ref i),some (.g (.int many)),some (.g (.int D)),some (.g (.int (s1 / 7))),some (.ref σ.length),some (.g (.int (s1 / 7 / 3 % 5))),none,none] (.ok (.g (.bl (decide (D<2)))) (σ.set i (.lst [.int s1,.int (c-1)])++[Cell.lst (w4.map G.str)])) = .ok (.g (.bl false)) (σ.set i (.lst [.int s1,.int (c-1)])++[Cell.lst (w4.map G.str)]):=by
     have h3:¬ c-1<4:=by omega
     rw[decide_eq_false hD2]
     simp[p_idxL hS3,i1,h3]
    obtain⟨w,e1,e2⟩:=words_at (x:=s1 / 7 / 15 % 4) 4 (.inr rfl) (Int.emod_nonneg _ (by omega)) (Int.emod_lt_of_pos _ (by omega))
    have hz0:0<=s1 / 7 / 3 % 5:=Int.emod_nonneg _ (by omega)
    have hz5:s1 / 7 / 3 % 5<5:=Int.emod_lt_of_pos _ (by omega)
    generalize hz:s1 / 7 / 3 % 5=z at *
    have hr:wRange (.g (.int 0)) (.g (.int z)) (σ.set i (.lst [.int s1,.int (c-1)])++[Cell.lst (w4.map G.str),.lst []]) = .ok ⟨rangeL 0 z,none⟩ (σ.set i (.lst [.int s1,.int (c-1)])++[Cell.lst (w4.map G.str),.lst []]) :=
     wRange_ok (by simp[small,big];omega)
    obtain⟨gs,s2,c2,o2,lp,g1,g2,g3,g4,g5⟩:=form_loop (W:=W) (c0:=c-1) (D:=D) (τ:=σ) (i:=i) (many:=many) (d:=d') (wd:=.lst (w4.map G.str)) (x3:=.g (.int (s1 / 7))) (x5:=.g (.int z)) hDD (ih d' rfl) (rangeL 0 z) [] s1 (c-1) none hi (by simp[rangeL];omega) (by simp) (by simp[okFs]) ⟨by simp[szs],fun h1 h2=>by simp only[List.length_nil];omega⟩
    have lp':forL [7] (evB cl W formLoop) none (rangeL 0 z) [some (.ref i),some (.g (.int many)),some (.g (.int D)),some (.g (.int (s1 / 7))),some (.ref σ.length),some (.g (.int z)),some (.ref (σ.length+1)),none] (σ.set i (.lst [.int s1,.int (c-1)])++[Cell.lst (w4.map G.str),.lst []])=_:=lp
    have hp:(σ.set i (spotC s2 c2)++[Cell.lst (w4.map G.str),.lst (encs gs)])[σ.length+1]?=some (.lst (encs gs)):=by
     rw[List.getElem?_append_right (by simp)];simp
    have hq:(σ.set i (spotC s2 c2)++[Cell.lst (w4.map G.str),.lst (encs gs)])[σ.length]?=some (.lst (w4.map G.str)):=by
     rw[List.getElem?_append_right (by simp)];simp
    refine⟨.tie w gs,s2,c2,?_,?_,⟨e2,g1,g3⟩,?_⟩
    ·simp[fn__law_form,p_idxL hs',i0,i1,m1,m2,kPut3_lst hs' (k0 _ _),p_idxL hS1,kPut3_lst hS1 (k1 _ _),p_idxL hS2,dv,md,setSlot,peq,hb,p_lst,hw,hz,mkLst_nil,hb2,hr,lp',p_tupleL hp,p_idxL hq,e1,p_tup,mkTup,allG,enc,take_set_app]
    ·have:=deps_le g2
     simp only[dep];omega
    ·refine⟨by simp only[sz];omega,fun z=>by omega,fun h1 h2 => ?_⟩
     have:=g5 (by omega) (by omega)
     omega
theorem run_drawnB(h1:look P "_law_form"=some fn__law_form)(h2:look P "_law_drawn"=some fn__law_drawn){n d:Nat}(hn:d+2<=n)(hd:1<=d)(x many:Int)(σ:Store) :
 ∃ f,run P W n "_law_drawn" [.g (.int x),.g (.int many),.g (.int d)] σ = .ok (.g (enc f)) σ/\dep f<=max d 1/\okF many f/\(sz f:Int)<=20+4*((d:Int)-1):=by
 obtain⟨n,rfl⟩:∃ k,n=k+1:=⟨n-1,by omega⟩
 have hs:(σ++[spotC (x % 2147483647) 24])[σ.length]?=some (spotC (x % 2147483647) 24):=by simp
 obtain⟨f,s',c',e,e1,e2,e3⟩:=run_formB (W:=W) h1 n d many σ.length (σ++[spotC (x % 2147483647) 24]) _ _ (by omega) hs
 refine⟨f,?_,e1,e2,by obtain⟨b1,_,b3⟩:=e3;have:=b3 hd (by omega);omega⟩
 rw[run_call h2 n _ _ rfl]
 generalize run P W n=cl at e
 have m2:prim .mod [.g (.int x),.g (.int 2147483647)] σ = .ok (.g (.int (x % 2147483647))) σ:=p_mod (by omega)
 have hl:mkLst [R.g (.int (x % 2147483647)),R.g (.int 24)]=spotC (x % 2147483647) 24:=rfl
 simp[fn__law_drawn,m2,p_lst,hl,e]
structure OkFg(many:Int)(d:Nat)(ns:List Int)(m:Fg):Prop where
 nd:(keys m).Nodup
 sub:∀ k∈keys m,k∈ns
 form:∀ p∈m,dep p.2<=max d 1/\okF many p.2
theorem OkFg.set{many:Int}{d:Nat}{ns:List Int}{m:Fg}(h:OkFg many d ns m){k:Int}{f:F}(hk:k∈ns)(h1:dep f<=max d 1)(h2:okF many f):OkFg many d ns (dset m k f):=by
 refine⟨dset_nodup h.nd,fun j hj => ?_,fun p hp => ?_⟩
 ·rcases dset_keys_mem hj with z|z
  ·exact h.sub j z
  ·subst z;exact hk
 ·obtain⟨a,b⟩:=p
  rcases dset_mem hp with z | ⟨_,z⟩
  ·exact h.form _ z
  ·subst z;exact⟨h1,h2⟩
theorem run_is_form(h1:look P "_law_whole"=some fn__law_whole)(h2:look P "_law_is_form"=some fn__law_is_form):∀ (n:Nat) (f:F) (σ:Store),dep f+1<=n →
 run P W n "_law_is_form" [.g (enc f)] σ = .ok (.g (.bl true)) σ
 |0,f,_,h=>by omega
 |n+1,f,σ,h=>by
  obtain⟨n,rfl⟩:∃ k,n=k+1:=⟨n-1,by have:=dep_pos f;omega⟩
  have ih:=run_is_form h1 h2 (n+1)
  have hw:=fun(i:Int)=>run_whole_int (W:=W) h1 (n:=n) i σ
  rw[run_call h2 _ _ _ rfl]
  generalize run P W (n+1)=cl at ih hw
  cases f with
  |gap j=>simp[fn__law_is_form,enc,at?,ixOf,peq,p_isInst,tyOf,p_len,lenOf,hw]
  |tie w ps =>
   simp only[dep] at h
   have hc:∀ x∈ps,cl "_law_is_form" [.g (enc x)] σ = .ok (.g (.bl true)) σ:=fun x hx=>ih x σ (by have:=dep_le hx;omega)
   have q:=compL_filter (α:=F) (f:=compF cl 1 [] (.cons (.notT (.call "_law_is_form" (.cons (.var 0) .nil))) .nil) (.var 0) [some (R.g (G.tup [G.str sTie,G.str w,G.tup (List.map enc ps)]))]) (w:=none)
    (fun x=>R.g (enc x)) (fun x=>R.g (enc x)) (fun _=>false) (σ:=σ) rfl ps (fun x hx=>by simp[hc x hx])
   rw[show(ps.filter fun _=>false)=[] by simp] at q
   have hl:prim .len [.ref σ.length] (σ++[.lst []]) = .ok (.g (.int (0:Nat))) (σ++[.lst []]):=p_len (by simp[lenOf])
   simp[fn__law_is_form,enc,at?,ixOf,peq,encs_map,p_isInst,tyOf,p_len,lenOf,Function.comp_def,q,mkLst_nil,hl]
end MP
namespace MP
variable {P:List Fn}{W:Nat}
end MP
namespace MP
theorem nodup_len:∀ {xs ys:List Int},xs.Nodup->(∀ x∈xs,x∈ys)->xs.length<=ys.length
 | [],_,_,_=>Nat.zero_le _
 |x::r,ys,nd,h=>by
  have hx:=h x List.mem_cons_self
  obtain⟨h1,h2⟩:=List.nodup_cons.mp nd
  have:=nodup_len (ys:=ys.erase x) h2 fun y hy=>(List.mem_erase_of_ne fun z=>h1 (by rw[← z];exact hy)).mpr (h y (List.mem_cons_of_mem _ hy))
  rw[List.length_erase_of_mem hx] at this
  have:=List.length_pos_of_mem hx
  simp
  omega
variable {P:List Fn}{W:Nat}
end MP
namespace MP
variable {P:List Fn}{W:Nat}
theorem OkFg.len{many:Int}{d:Nat}{ns:List Int}{m:Fg}(h:OkFg many d ns m):m.length<=ns.length:=by
 have:=nodup_len h.nd h.sub
 simpa[keys] using this
end MP
namespace MP
variable {P:List Fn}{W:Nat}
mutual
noncomputable def fit:F->F->Fg->Bool × Fg
 | .gap n,g,m=>match dval m n with
  |some f=>(decide (enc f=enc g),m)
  |none=>(true,dset m n g)
 | .tie _ _,.gap _,m=>(false,m)
 | .tie w ps,.tie v qs,m=>if w=v/\ps.length=qs.length then (fits ps qs m) else (false,m)
noncomputable def fits:List F->List F->Fg->Bool × Fg
 |x::r,y::t,m=>((fit x y m).1 && (fits r t (fit x y m).2).1,(fits r t (fit x y m).2).2)
 |_,_,m=>(true,m)
end
noncomputable def fn_of_one_kind:Fn:=⟨"of_one_kind",2,2,
 (.cons (.ite (.orT (.call "is_gap" (.cons (.var 0) .nil)) (.call "is_gap" (.cons (.var 1) .nil))) (.cons (.ret (.con (.bl false)))
 .nil) .nil)
 (.cons (.ret (.andT (.op .eq (.cons (.op .idx (.cons (.var 0) (.cons (.con (.int 1)) .nil))) (.cons (.op .idx (.cons (.var 1) (.cons (.con (.int 1)) .nil))) .nil))) (.op .eq (.cons (.op .len (.cons (.op .idx (.cons (.var 0) (.cons (.con (.int 2)) .nil))) .nil)) (.cons (.op .len (.cons (.op .idx (.cons (.var 1) (.cons (.con (.int 2)) .nil))) .nil)) .nil)))))
 .nil))⟩
noncomputable def kin:F->F->Bool
 | .tie w ps,.tie v qs=>decide (w=v) && decide (ps.length=qs.length)
 |_,_=>false
theorem encs_len(ps:List F):(encs ps).length=ps.length:=by rw[encs_map,List.length_map]
theorem bools_map:∀ bs:List Bool,bools (bs.map G.bl)=some bs
 | []=>rfl
 |b::r=>by simp[bools,bools_map r]
end MP
namespace MP
variable {P:List Fn}{W:Nat}
noncomputable def addN(acc:List Int)(n:Int):List Int:=if n∈acc then acc else acc++[n]
mutual
noncomputable def lgaps:F->List Int
 | .gap n=>[n]
 | .tie _ ps=>lgapsL ps []
noncomputable def lgapsL:List F->List Int->List Int
 | [],acc=>acc
 |x::r,acc=>lgapsL r ((lgaps x).foldl addN acc)
end
theorem szs_mem(ps:List F):∀ x∈ps,sz x<=szs ps:=by
 intro x hx
 induction ps with
 |nil=>simp at hx
 |cons y r ih =>
  rcases List.mem_cons.mp hx with z|z
  ·subst z;simp[szs]
  ·have:=ih z;simp only[szs];omega
theorem rangeL_cons{i j:Int}(h:i<j):rangeL i j = .g (.int i)::rangeL (i+1) j:=by
 unfold rangeL
 obtain⟨k,hk⟩:∃ k:Nat,(j-i).toNat=k+1:=⟨(j-i).toNat-1,by omega⟩
 have h2:(j-(i+1)).toNat=k:=by omega
 rw[hk,h2,List.range_succ_eq_map,List.map_cons,List.map_map]
 have e:List.map (fun(k:Nat)=>R.g (.int (i+(k:Int)))) (List.range k |>.map Nat.succ)=List.map (fun(k:Nat)=>R.g (.int (i+1+(k:Int)))) (List.range k):=by
  rw[List.map_map]
  refine List.map_congr_left fun x _ => ?_
  simp;omega
 rw[List.map_map] at e
 rw[e]
 simp
theorem rangeL_nil{i j:Int}(h:j<=i):rangeL i j=[]:=by
 unfold rangeL
 rw[show(j-i).toNat=0 by omega];rfl
theorem drop_cons{α:Type}{ps r:List α}{x:α}{i:Nat}(h:ps.drop i=x::r):ps[i]?=some x/\ps.drop (i+1)=r/\i<ps.length:=by
 have hi:i<ps.length:=by
  by_cases hi:i<ps.length
  ·exact hi
  ·rw[List.drop_eq_nil_of_le (by omega)] at h;cases h
 rw[List.drop_eq_getElem_cons hi] at h
 cases h
 exact⟨List.getElem?_eq_getElem hi,rfl,hi⟩
theorem drop_nil{α:Type}{ps:List α}{i:Nat}(h:ps.drop i=[]):ps.length<=i:=by simpa using h
mutual
noncomputable def spots:F->List Int->List (List Int × F)
 | .gap n,p=>[(p,.gap n)]
 | .tie w ps,p=>(p,.tie w ps)::spotsL ps p 0
noncomputable def spotsL:List F->List Int->Nat->List (List Int × F)
 | [],_,_=>[]
 |x::r,p,i=>spots x (p++[(i:Int)])++spotsL r p (i+1)
end
end MP
namespace MP
variable {P:List Fn}{W:Nat}
noncomputable def inP:F->List Int->Prop
 |_,[]=>True
 | .tie _ ps,i::p=>∃ (k:Nat) (x:F),i=(k:Int)/\ps[k]?=some x/\inP x p
 | .gap _,_::_=>False
noncomputable def openF(n:Int):F->List Int->F
 |_,[]=>.gap n
 | .tie w ps,i::p=>.tie w (ps.set i.toNat (openF n (ps.getD i.toNat (.gap 0)) p))
 | .gap k,_::_=>.gap k
inductive LoosN (base:Int):Nat->F->F->Prop where
 |refl (f:F):LoosN base 0 f f
 |step {k:Nat} {f g:F} {p:List Int}:LoosN base k f g->inP g p->LoosN base (k+1) f (openF (base+k) g p)
end MP
namespace MP
variable {P:List Fn}{W:Nat}
end MP
namespace MP
mutual
noncomputable def sub(s:Int->F):F->F
 | .gap n=>s n
 | .tie w ps=>.tie w (subs s ps)
noncomputable def subs(s:Int->F):List F->List F
 | []=>[]
 |x::r=>sub s x::subs s r
end
noncomputable def asS(m:Fg)(n:Int):F:=(dval m n).getD (.gap n)
mutual
theorem fill_sub(m:Fg):∀ f:F,fill m f=sub (asS m) f
 | .gap n=>rfl
 | .tie w ps=>by simp only[fill,sub,fills_subs m ps]
theorem fills_subs(m:Fg):∀ ps:List F,fills m ps=subs (asS m) ps
 | []=>rfl
 |x::r=>by simp only[fills,subs,fill_sub m x,fills_subs m r]
end
mutual
noncomputable def gn:F->List Int
 | .gap n=>[n]
 | .tie _ ps=>gns ps
noncomputable def gns:List F->List Int
 | []=>[]
 |x::r=>gn x++gns r
end
mutual
theorem sub_congr{s t:Int->F}:∀ {f:F},(∀ n∈gn f,s n=t n)->sub s f=sub t f
 | .gap n,h=>h n (by simp[gn])
 | .tie w ps,h=>by simp only[sub];rw[subs_congr (ps:=ps) h]
theorem subs_congr{s t:Int->F}:∀ {ps:List F},(∀ n∈gns ps,s n=t n)->subs s ps=subs t ps
 | [],_=>rfl
 |x::r,h=>by
  simp only[gns,List.mem_append] at h
  simp only[subs]
  rw[sub_congr (f:=x) fun n hn=>h n (.inl hn),subs_congr (ps:=r) fun n hn=>h n (.inr hn)]
end
mutual
theorem sub_sub(s t:Int->F):∀ f:F,sub t (sub s f)=sub (fun n=>sub t (s n)) f
 | .gap n=>rfl
 | .tie w ps=>by simp only[sub,subs_subs s t ps]
theorem subs_subs(s t:Int->F):∀ ps:List F,subs t (subs s ps)=subs (fun n=>sub t (s n)) ps
 | []=>rfl
 |x::r=>by simp only[subs,sub_sub s t x,subs_subs s t r]
end
noncomputable def Agr(m:Fg)(s:Int->F):Prop:=∀ n v,dval m n=some v->v=s n
theorem Agr.nil(s:Int->F):Agr [] s:=fun n v h=>by simp[dval] at h
theorem mem_addN{acc:List Int}{n k:Int}:k∈addN acc n↔k∈acc\/k=n:=by
 unfold addN
 split
 ·rename_i h;constructor
  ·exact .inl
  ·rintro(z|z)
   ·exact z
   ·rw[z];exact h
 ·simp
theorem mem_foldN:∀ {l acc:List Int} {k:Int},k∈l.foldl addN acc↔k∈acc\/k∈l
 | [],acc,k=>by simp
 |x::r,acc,k=>by
  simp only[List.foldl_cons,List.mem_cons]
  rw[mem_foldN,mem_addN,or_assoc]
theorem nd_addN{acc:List Int}(n:Int)(h:acc.Nodup):(addN acc n).Nodup:=by
 unfold addN
 split
 ·exact h
 ·rename_i z
  rw[List.nodup_append]
  exact⟨h,by simp,fun a ha b hb e=>by simp at hb;subst hb e;exact z ha⟩
theorem nd_foldN:∀ (l:List Int) {acc:List Int},acc.Nodup->(l.foldl addN acc).Nodup
 | [],_,h=>h
 |x::r,_,h=>nd_foldN r (nd_addN x h)
theorem fold_there:∀ {l acc:List Int},(∀ k∈l,k∈acc)->l.foldl addN acc=acc
 | [],_,_=>rfl
 |x::r,acc,h=>by
  have hx:x∈acc:=h x List.mem_cons_self
  simp only[List.foldl_cons]
  rw[show addN acc x=acc by simp[addN,hx]]
  exact fold_there fun k hk=>h k (List.mem_cons_of_mem _ hk)
theorem addN_comm_aux{acc:List Int}{n:Int}(h:n∈acc):addN acc n=acc:=by simp[addN,h]
theorem fold_ded:∀ (l pre acc:List Int),(∀ k∈pre,k∈acc)->(l.foldl addN pre).foldl addN acc=l.foldl addN acc
 | [],pre,acc,h=>fold_there h
 |x::r,pre,acc,h=>by
  simp only[List.foldl_cons]
  by_cases hx:x∈pre
  ·rw[addN_comm_aux hx,addN_comm_aux (h x hx)]
   exact fold_ded r pre acc h
  ·have e:addN pre x=pre++[x]:=by simp[addN,hx]
   rw[e]
   have gen:∀ (r pre:List Int),∃ t,r.foldl addN pre=pre++t:=fun r=>by
    induction r with
    |nil=>exact fun pre=>⟨[],by simp⟩
    |cons y r ih =>
     intro pre
     simp only[List.foldl_cons]
     by_cases hy:y∈pre
     ·rw[addN_comm_aux hy];exact ih pre
     ·have e:addN pre y=pre++[y]:=by simp[addN,hy]
      rw[e]
      obtain⟨t,ht⟩:=ih (pre++[y])
      exact⟨y::t,by rw[ht];simp⟩
   obtain⟨t,ht⟩:=gen r (pre++[x])
   have e2:=fold_ded r (pre++[x]) (addN acc x) fun k hk=>by
    rw[mem_addN]
    rcases List.mem_append.mp hk with z|z
    ·exact .inl (h k z)
    ·simp at z;exact .inr z
   rw[← e2,ht]
   simp only[List.foldl_append,List.foldl_cons,List.foldl_nil]
   rw[fold_there h,fold_there (l:=pre) (acc:=addN acc x) fun k hk=>mem_addN.mpr (.inl (h k hk)),addN_comm_aux (acc:=addN acc x) (n:=x) (mem_addN.mpr (.inr rfl))]
mutual
theorem lgaps_gn:∀ f:F,lgaps f=(gn f).foldl addN []
 | .gap n=>by simp[lgaps,gn,addN]
 | .tie w ps=>by simp only[lgaps,gn];exact lgapsL_gns ps []
theorem lgapsL_gns:∀ (ps:List F) (acc:List Int),lgapsL ps acc=(gns ps).foldl addN acc
 | [],acc=>rfl
 |x::r,acc=>by
  simp only[lgapsL,gns,List.foldl_append]
  rw[lgapsL_gns r,lgaps_gn x,fold_ded (gn x) [] acc (by simp)]
end
theorem lgaps_nd(f:F):(lgaps f).Nodup:=by rw[lgaps_gn];exact nd_foldN _ List.nodup_nil
theorem mem_lgaps{f:F}{n:Int}:n∈lgaps f↔n∈gn f:=by rw[lgaps_gn,mem_foldN];simp
mutual
noncomputable def tn:F->Nat
 | .gap _=>0
 | .tie _ ps=>tns ps+1
noncomputable def tns:List F->Nat
 | []=>0
 |x::r=>tn x+tns r
end
end MP
namespace MP
variable {P:List Fn}{W:Nat}
mutual
noncomputable def sgn:F->List F
 | .gap n=>[.gap n]
 | .tie w ps=>.tie w ps::sgns ps
noncomputable def sgns:List F->List F
 | []=>[]
 |x::r=>sgn x++sgns r
end
mutual
theorem sgn_len:∀ f:F,(sgn f).length=sz f
 | .gap _=>rfl
 | .tie _ ps=>by simp[sgn,sz,sgns_len ps]
theorem sgns_len:∀ ps:List F,(sgns ps).length=szs ps
 | []=>rfl
 |x::r=>by simp[sgns,szs,sgn_len x,sgns_len r]
end
noncomputable def prt:F->List F
 | .gap _=>[]
 | .tie _ ps=>ps
theorem sgn_prt(f:F):sgn f=f::sgns (prt f):=by cases f<;>rfl
theorem sz_prt(f:F):sz f=szs (prt f)+1:=by cases f<;>rfl
noncomputable def fn_parts_of:Fn:=⟨"parts_of",1,1,
 (.cons (.ret (.ifT (.call "is_gap" (.cons (.var 0) .nil)) (.op .tup .nil) (.op .idx (.cons (.var 0) (.cons (.con (.int 2)) .nil)))))
 .nil)⟩
theorem run_parts(h1:look P "is_gap"=some fn_is_gap)(h2:look P "parts_of"=some fn_parts_of){n:Nat}(f:F)(σ:Store) :
 run P W (n+2) "parts_of" [.g (enc f)] σ = .ok (.g (.tup (encs (prt f)))) σ:=by
 have e1:=run_is_gap (W:=W) h1 (n:=n) f σ
 rw[run_call h2 (n+1) _ _ rfl]
 generalize run P W (n+1)=cl at e1
 have ht:∀ τ,prim .tup [] τ = .ok (.g (.tup [])) τ:=fun τ=>rfl
 cases f with
 |gap a=>simp[fn_parts_of,e1,ht,prt,encs]
 |tie w ps =>
  simp only[enc] at e1
  simp[fn_parts_of,e1,enc,at?,ixOf,prt]
noncomputable abbrev signsB:Blk:=(.cons (.expr (.meth .extend (.var 1) (.cons (.call "signs_of" (.cons (.var 2) .nil)) .nil)))
 .nil)
noncomputable def fn_signs_of:Fn:=⟨"signs_of",1,3,
 (.cons (.set 1 (.op .lst (.cons (.var 0) .nil)))
 (.cons (.forS [2] (.over (.call "parts_of" (.cons (.var 0) .nil))) signsB)
 (.cons (.ret (.var 1))
 .nil)))⟩
theorem signs_loop{cl:CallH}{τ:Store}{e0:Option R}:∀ (ps:List F) (acc:List F) (o:Option R) (J:Store),acc.length+szs ps<=big →
 (∀ x∈ps,∀ σ,cl "signs_of" [.g (enc x)] σ = .ok (.ref σ.length) (σ++[.lst (encs (sgn x))])) →
 ∃ o' J',forL [2] (evB cl W signsB) none (ps.map fun x=>.g (enc x)) [e0,some (.ref τ.length),o] (τ ++ .lst (encs acc)::J)
  = .ok (.next [e0,some (.ref τ.length),o']) (τ ++ .lst (encs (acc++sgns ps))::J')
 | [],acc,o,J,h,hc=>⟨o,J,by rw[List.map_nil,forL_nil _ _ _ rfl];simp[sgns]⟩
 |x::r,acc,o,J,h,hc=>by
  simp only[szs] at h
  have hlx:=sgn_len x
  obtain⟨o',J',ih⟩:=signs_loop (cl:=cl) (τ:=τ) (e0:=e0) r (acc++sgn x) (some (.g (enc x))) (J++[.lst (encs (sgn x))]) (by simp[hlx];omega) fun y hy=>hc y (List.mem_cons_of_mem _ hy)
  refine⟨o',J',?_⟩
  have e:=hc x List.mem_cons_self (τ ++ .lst (encs acc)::J)
  have hl:(τ++Cell.lst (encs acc)::J).length=τ.length+1+J.length:=by simp;omega
  have ha:(τ++Cell.lst (encs acc)::J)++[.lst (encs (sgn x))]=τ++Cell.lst (encs acc)::(J++[.lst (encs (sgn x))]):=by simp
  rw[hl,ha] at e
  have g0:(τ++Cell.lst (encs acc)::J)[τ.length]?=some (.lst (encs acc)):=by simp
  have g1:(τ++Cell.lst (encs acc)::(J++[.lst (encs (sgn x))]))[τ.length]?=some (.lst (encs acc)):=by simp
  have g2:(τ++Cell.lst (encs acc)::(J++[.lst (encs (sgn x))]))[τ.length+1+J.length]?=some (.lst (encs (sgn x))):=by
   rw[List.getElem?_append_right (by omega)]
   rw[show τ.length+1+J.length-τ.length=J.length+1 by omega]
   simp
  have s1:(τ++Cell.lst (encs acc)::(J++[.lst (encs (sgn x))])).set τ.length (.lst (encs acc++encs (sgn x)))=τ++Cell.lst (encs (acc++sgn x))::(J++[.lst (encs (sgn x))]):=by
   rw[List.set_append_right _ _ (Nat.le_refl _)];simp[encs_map]
  rw[List.map_cons,forL_cons _ _ _ _ _ rfl]
  simp[bindTg,setSlot,recv_extend g0,e,p_extend g1 g2 (by rw[encs_len,encs_len,hlx];omega),s1,sgns]
  rw[List.append_assoc] at ih
  exact ih
theorem run_signs(h1:look P "is_gap"=some fn_is_gap)(h2:look P "parts_of"=some fn_parts_of)(h3:look P "signs_of"=some fn_signs_of):∀ (n:Nat) (f:F) (σ:Store),dep f+2<=n->sz f<=big →
 run P W n "signs_of" [.g (enc f)] σ = .ok (.ref σ.length) (σ++[.lst (encs (sgn f))])
 |0,f,_,h,_=>by omega
 |n+1,f,σ,h,hs=>by
  obtain⟨k,rfl⟩:∃ k,n=k+2:=⟨n-2,by have:=dep_pos f;omega⟩
  have ih:=run_signs h1 h2 h3 (k+2)
  have e:=run_parts (W:=W) h1 h2 (n:=k) f (σ++[.lst [enc f]])
  rw[run_call h3 _ _ _ rfl]
  generalize run P W (k+2)=cl at ih e
  have hz:∀ x∈prt f,sz x<=szs (prt f):=szs_mem (prt f)
  have hd:∀ x∈prt f,dep x+1<=dep f:=fun x hx=>by
   cases f with
   |gap _=>simp[prt] at hx
   |tie w ps=>have:=dep_le (show x∈ps from hx);simp only[dep];omega
  have hsp:=sz_prt f
  obtain⟨o',J',lp⟩:=signs_loop (W:=W) (cl:=cl) (τ:=σ) (e0:=some (.g (enc f))) (prt f) [f] none [] (by simp;omega) fun x hx τ=>ih x τ (by have:=hd x hx;omega) (by have:=hz x hx;omega)
  have hm:mkLst [R.g (enc f)] = .lst [enc f]:=rfl
  simp only[encs] at lp
  simp[fn_signs_of,p_lst,hm,setSlot,e,encs_map,Function.comp_def,lp]
  rw[fin_new (c:=.lst (encs (f::sgns (prt f)))) (Nat.le_refl _) (by simp[encs_map]) rfl]
  simp[sgn_prt f,encs_map]
noncomputable abbrev gapsP:Blk:=(.cons (.ite (.call "is_gap" (.cons (.var 2) .nil)) (.cons (.setIdx (.var 1) (.op .idx (.cons (.var 2) (.cons (.con (.int 1)) .nil))) (.con (.bl true)))
 .nil) .nil)
 .nil)
noncomputable def fn_gaps:Fn:=⟨"gaps",1,3,
 (.cons (.set 1 (.op .dct0 .nil))
 (.cons (.forS [2] (.over (.call "signs_of" (.cons (.var 0) .nil))) gapsP)
 (.cons (.ret (.op .listOf (.cons (.var 1) .nil)))
 .nil)))⟩
noncomputable def seenD(l:List Int):List (G × G):=l.map fun n=>(.int n,.bl true)
end MP
namespace MP
variable {P:List Fn}{W:Nat}
end MP
namespace MP
variable {P:List Fn}{W:Nat}
noncomputable def nums:Int->List Int->Fg->Fg
 |_,[],acc=>acc
 |k,n::r,acc=>nums (k+1) r (dset acc n (.gap k))
theorem dval_nums:∀ (l:List Int) (k:Int) (acc:Fg) (n:Int),l.Nodup->dval (nums k l acc) n=if n∈l then some (.gap (k+l.idxOf n)) else dval acc n
 | [],_,_,n,_=>by simp[nums]
 |x::r,k,acc,n,h=>by
  rw[List.nodup_cons] at h
  rw[nums,dval_nums r _ _ n h.2,dval_dset]
  by_cases hx:x=n
  ·subst hx
   simp[h.1,List.idxOf_cons]
  ·have hx':¬ n=x:=fun z=>hx z.symm
   have hb:(x == n)=false:=beq_eq_false_iff_ne.mpr hx
   by_cases hr:n∈r
   ·simp[hr,List.idxOf_cons,hb];omega
   ·simp[hr,hx,hx']
noncomputable def plF(k:Int)(f:F):F:=fill (nums k (lgaps f) []) f
theorem plF_sub(k:Int)(f:F):plF k f=sub (fun n=>.gap (k+(lgaps f).idxOf n)) f:=by
 unfold plF
 rw[fill_sub]
 refine sub_congr fun n hn => ?_
 unfold asS
 rw[dval_nums _ _ _ _ (lgaps_nd f),if_pos (mem_lgaps.mpr hn)]
 rfl
noncomputable abbrev numB:Blk:=(.cons (.setIdx (.var 2) (.var 4) (.op .tup (.cons (.con (.str [103,97,112])) (.cons (.var 3) .nil))))
 .nil)
noncomputable def fn_numbered_from:Fn:=⟨"numbered_from",2,5,
 (.cons (.set 2 (.op .dct0 .nil))
 (.cons (.forS [3,4] (.enum (.call "gaps" (.cons (.var 0) .nil)) (.var 1)) numB)
 (.cons (.ret (.call "filled" (.cons (.var 0) (.cons (.var 2) .nil))))
 .nil)))⟩
noncomputable def fn_plain:Fn:=⟨"plain",1,1,
 (.cons (.ret (.call "numbered_from" (.cons (.var 0) (.cons (.con (.int 0)) .nil))))
 .nil)⟩
end MP
namespace MP
variable {P:List Fn}{W:Nat}
noncomputable def fn__law_signs:Fn:=⟨"_law_signs",1,1,
 (.cons (.ite (.op .eq (.cons (.op .idx (.cons (.var 0) (.cons (.con (.int 0)) .nil))) (.cons (.con (.str [103,97,112])) .nil))) (.cons (.ret (.con (.int 1)))
 .nil) .nil)
 (.cons (.ret (.op .add (.cons (.con (.int 1)) (.cons (.op .sum (.cons (.comp 1 [] (.over (.op .idx (.cons (.var 0) (.cons (.con (.int 2)) .nil)))) .nil (.call "_law_signs" (.cons (.var 0) .nil))) .nil)) .nil))))
 .nil))⟩
theorem intsOf_map{α:Type}(f:α->Int):∀ l:List α,intsOf (l.map fun x=>G.int (f x))=some (l.map f)
 | []=>rfl
 |x::r=>by simp[intsOf,intsOf_map f r]
theorem szs_sum:∀ ps:List F,(ps.map fun x=>(sz x:Int)).sum=(szs ps:Int)
 | []=>rfl
 |x::r=>by simp[szs,szs_sum r]
theorem run_lsigns(h1:look P "_law_signs"=some fn__law_signs):∀ (n:Nat) (f:F) (σ:Store),dep f<=n->run P W n "_law_signs" [.g (enc f)] σ = .ok (.g (.int (sz f))) σ
 |0,f,_,h=>by have:=dep_pos f;omega
 |n+1,f,σ,h=>by
  have ih:=run_lsigns h1 n
  rw[run_call h1 _ _ _ rfl]
  generalize run P W n=cl at ih
  cases f with
  |gap j=>simp[fn__law_signs,enc,at?,ixOf,peq,sz]
  |tie w ps =>
   simp only[dep] at h
   have hc:∀ x∈ps,cl "_law_signs" [.g (enc x)] σ = .ok (.g (.int (sz x))) σ:=fun x hx=>ih x σ (by have:=dep_le hx;omega)
   have q:=compL_map (α:=F) (f:=compF cl 1 [] .nil (.call "_law_signs" (.cons (.var 0) .nil)) [some (R.g (G.tup [G.str sTie,G.str w,G.tup (List.map enc ps)]))]) (w:=none)
    (fun x=>R.g (enc x)) (fun x=>R.g (.int (sz x))) (σ:=σ) rfl ps (fun x hx=>by simp[hc x hx])
   have hp:(σ++[Cell.lst (ps.map fun x=>G.int (sz x:Int))])[σ.length]?=some (.lst (ps.map fun x=>G.int (sz x:Int))):=by simp
   have hsum:=p_sum hp (intsOf_map (fun x:F=>(sz x:Int)) ps)
   rw[szs_sum] at hsum
   have hadd:(1:Int)+(szs ps:Int)=(sz (.tie w ps):Int):=by simp[sz];omega
   simp[fn__law_signs,enc,at?,ixOf,peq,encs_map,Function.comp_def,q,mkLst_map,hsum,hadd]
end MP
namespace MP
variable {P:List Fn}{W:Nat}
noncomputable abbrev Pr:=List (F × F)
noncomputable def encK(p:F × F):G:=.tup [enc p.1,enc p.2]
noncomputable def pidx:Pr->F × F->Option Nat
 | [],_=>none
 |p::r,q=>if encK p=encK q then some 0 else (pidx r q).map (· + 1)
noncomputable def gapP(f g:F)(m:Pr):F × Pr:=match pidx m (f,g) with
 |some i=>(.gap (i:Int),m)
 |none=>(.gap (m.length:Int),m++[(f,g)])
mutual
noncomputable def cm:F->F->Pr->F × Pr
 | .tie w ps,.tie v qs,m=>if w=v/\ps.length=qs.length then (.tie w (cms ps qs m).1,(cms ps qs m).2) else gapP (.tie w ps) (.tie v qs) m
 | .gap a,g,m=>gapP (.gap a) g m
 | .tie w ps,.gap b,m=>gapP (.tie w ps) (.gap b) m
noncomputable def cms:List F->List F->Pr->List F × Pr
 |x::r,y::t,m=>((cm x y m).1::(cms r t (cm x y m).2).1,(cms r t (cm x y m).2).2)
 |_,_,m=>([],m)
end
end MP
namespace MP
variable {P:List Fn}{W:Nat}
noncomputable def lf:Nat->Pr->Fg
 |_,[]=>[]
 |i,p::r=>((i:Int),p.1)::lf (i+1) r
noncomputable def rt:Nat->Pr->Fg
 |_,[]=>[]
 |i,p::r=>((i:Int),p.2)::rt (i+1) r
@[simp] theorem forW_rdt{ε:Env}{σ:Store}(tg:List Nat)(body:Env->Store->Res Out)(xs:List R)(k:Nat)(l:List (G × G)):forW tg body ⟨xs,some (k,.rdt l)⟩ ε σ=forL tg body (some (k,.rdt l)) xs ε σ:=rfl
@[simp] theorem p_dtg0{σ:Store}:prim .dtg0 [] σ = .ok (.ref σ.length) (σ++[.dtg []]):=rfl
end MP
namespace MP
variable {P:List Fn}{W:Nat}
theorem p_index{σ:Store}{k:Nat}{xs:List G}{x:G}{i:Nat}(h:σ[k]?=some (.lst xs))(hs:xs.all shal=true)(hi:xs.findIdx? (fun y=>peq y x)=some i):prim .index [.ref k,.g x] σ = .ok (.g (.int i)) σ:=by simp[prim,pIndex,h,hs,hi,okG]
end MP
namespace MP
noncomputable def ix(M:Pr)(q:F × F):Int:=match pidx M q with
 |some i=>(i:Int)
 |none=>0
mutual
noncomputable def rd(M:Pr):F->F->F
 | .tie w ps,.tie v qs=>if w=v/\ps.length=qs.length then .tie w (rds M ps qs) else .gap (ix M (.tie w ps,.tie v qs))
 | .gap a,g=>.gap (ix M (.gap a,g))
 | .tie w ps,.gap b=>.gap (ix M (.tie w ps,.gap b))
noncomputable def rds(M:Pr):List F->List F->List F
 |x::r,y::t=>rd M x y::rds M r t
 |_,_=>[]
end
end MP
namespace MP
variable {P:List Fn}{W:Nat}
end MP
namespace MP
noncomputable def Abv(f g:F):Prop:=∃ s,sub s f=g
theorem Abv.trans{f g h:F}(a:Abv f g)(b:Abv g h):Abv f h:=by
 obtain⟨s,rfl⟩:=a
 obtain⟨t,rfl⟩:=b
 exact⟨_,(sub_sub s t f).symm⟩
end MP
namespace MP
variable {P:List Fn}{W:Nat}
noncomputable abbrev az:List Nat:=[97,98,99,100,101,102,103,104,105,106,107,108,109,110,111,112,113,114,115,116,117,118,119,120,121,122]
noncomputable abbrev d09:List Nat:=[48,49,50,51,52,53,54,55,56,57]
theorem dec_nat{i:Int}(h:0<=i):dec i=(Nat.toDigits 10 i.toNat).map Char.toNat:=by
 obtain⟨n,rfl⟩:∃ n:Nat,i=n:=⟨i.toNat,by omega⟩
 show(Int.repr (n:Int)).toList.map Char.toNat=_
 have:Int.repr (n:Int)=Nat.repr n:=rfl
 rw[this,Nat.repr]
 simp
noncomputable def digs(x:List Nat):Bool := !x.isEmpty && x.all (fun c=>d09.contains c) && (!([48]:List Nat).isPrefixOf x || decide (x=[48])) && decide (x.length<=3)
theorem dec_all:∀ n:Nat,n<1000->digs ((Nat.toDigits 10 n).map Char.toNat)=true/\((Nat.toDigits 10 n).map Char.toNat).foldl (fun a c=>a*10+(c-48)) 0=n:=by decide +kernel
theorem dec_digs{i:Int}(h0:0<=i)(h1:i<1000):digs (dec i)=true/\valD (dec i)=i:=by
 rw[dec_nat h0]
 obtain⟨a,b⟩:=dec_all i.toNat (by omega)
 exact⟨a,by unfold valD;rw[b];omega⟩
mutual
noncomputable def shw:F->List Nat
 | .gap n=>63::dec n
 | .tie w ps=>if ps.isEmpty then w else w++[40]++joinL [44] (shws ps)++[41]
noncomputable def shws:List F->List (List Nat)
 | []=>[]
 |x::r=>shw x::shws r
end
theorem shws_map:∀ l,shws l=l.map shw
 | []=>rfl
 |x::r=>by simp[shws,shws_map r]
noncomputable def word(w:List Nat):Prop:=w ≠ []/\w.length<=8/\∀ c∈w,az.contains c=true
mutual
noncomputable def Wf:F->Prop
 | .gap n=>0<=n/\n<1000
 | .tie w ps=>word w/\ps.length<=4/\Wfs ps
noncomputable def Wfs:List F->Prop
 | []=>True
 |x::r=>Wf x/\Wfs r
end
theorem Wfs_iff:∀ {ps:List F},Wfs ps↔∀ f∈ps,Wf f
 | []=>by simp[Wfs]
 |x::r=>by simp[Wfs,Wfs_iff (ps:=r)]
theorem joinL_len:∀ l:List (List Nat),(joinL [44] l).length<=lens l+l.length
 | []=>by simp[joinL]
 | [x]=>by simp[joinL,lens]
 |x::y::r=>by
  have:=joinL_len (y::r)
  simp only[joinL,lens,List.length_append,List.length_cons,List.length_nil] at this ⊢
  omega
mutual
theorem shw_len:∀ {f:F},Wf f->(shw f).length+1<=12*sz f
 | .gap n,h=>by
  obtain⟨a,_⟩:=dec_digs h.1 h.2
  simp only[digs,Bool.and_eq_true,decide_eq_true_eq] at a
  simp only[shw,sz,List.length_cons];omega
 | .tie w ps,h=>by
  obtain⟨⟨_,hw,_⟩,hl,hp⟩:=h
  have h1:=shws_len hp
  have h2:=joinL_len (shws ps)
  have h3:(shws ps).length=ps.length:=by rw[shws_map];simp
  simp only[shw,sz]
  split
  ·omega
  ·simp only[List.length_append,List.length_cons,List.length_nil];omega
theorem shws_len:∀ {ps:List F},Wfs ps->lens (shws ps)+ps.length<=12*szs ps
 | [],_=>by simp[shws,lens]
 |x::r,h=>by
  have h1:=shw_len h.1
  have h2:=shws_len h.2
  simp only[shws,lens,szs,List.length_cons];omega
end
theorem strsOf_map:∀ l:List (List Nat),strsOf (l.map G.str)=some l
 | []=>rfl
 |x::r=>by simp[strsOf,strsOf_map r]
theorem recv_join{σ:Store}(x:List Nat):recvOk .join (.g (.str x)) σ=true:=rfl
theorem recv_starts{σ:Store}(x:List Nat):recvOk .starts (.g (.str x)) σ=true:=rfl
theorem p_join{σ:Store}{k:Nat}{sep:List Nat}{l:List (List Nat)}(h:σ[k]?=some (.lst (l.map .str)))(hl:lens l+l.length*sep.length<=big):prim .join [.g (.str sep),.ref k] σ = .ok (.g (.str (joinL sep l))) σ:=by
 simp[prim,pJoin,h,strsOf_map,ofO,hl,okG]
theorem p_strOf{σ:Store}{i:Int}(h0:0<=i)(h1:i<1000000000):prim .strOf [.g (.int i)] σ = .ok (.g (.str (dec i))) σ:=by simp[prim,pStrOf,h0,h1,okG]
noncomputable def fn__law_text:Fn:=⟨"_law_text",1,1,
 (.cons (.ite (.op .eq (.cons (.op .idx (.cons (.var 0) (.cons (.con (.int 0)) .nil))) (.cons (.con (.str [103,97,112])) .nil))) (.cons (.ret (.op .add (.cons (.con (.str [63])) (.cons (.op .strOf (.cons (.op .idx (.cons (.var 0) (.cons (.con (.int 1)) .nil))) .nil)) .nil))))
 .nil) .nil)
 (.cons (.ite (.op .eq (.cons (.op .idx (.cons (.var 0) (.cons (.con (.int 2)) .nil))) (.cons (.op .tup .nil) .nil))) (.cons (.ret (.op .idx (.cons (.var 0) (.cons (.con (.int 1)) .nil))))
 .nil) .nil)
 (.cons (.ret (.op .add (.cons (.op .add (.cons (.op .add (.cons (.op .idx (.cons (.var 0) (.cons (.con (.int 1)) .nil))) (.cons (.con (.str [40])) .nil))) (.cons (.meth .join (.con (.str [44])) (.cons (.comp 1 [] (.over (.op .idx (.cons (.var 0) (.cons (.con (.int 2)) .nil)))) .nil (.call "_law_text" (.cons (.var 0) .nil))) .nil)) .nil))) (.cons (.con (.str [41])) .nil))))
 .nil)))⟩
theorem run_ltext(h1:look P "_law_text"=some fn__law_text):∀ (n:Nat) (f:F) (σ:Store),dep f<=n->dep f<=70->Wf f->sz f<=1000->run P W n "_law_text" [.g (enc f)] σ = .ok (.g (.str (shw f))) σ
 |0,f,_,h,_,_,_=>by have:=dep_pos f;omega
 |n+1,f,σ,h,h70,wf,hz=>by
  have ih:=run_ltext h1 n
  rw[run_call h1 _ _ _ rfl]
  generalize run P W n=cl at ih
  have hb:(1000000:Nat)<=1000000:=Nat.le_refl _
  cases f with
  |gap j =>
   have hs:=p_strOf (σ:=σ) wf.1 (by have:=wf.2;omega)
   have hl:=shw_len (f:=.gap j) wf
   simp only[shw,List.length_cons,sz] at hl
   have ha:prim .add [.g (.str [63]),.g (.str (dec j))] σ = .ok (.g (.str (63::dec j))) σ:=p_addS _ _ (by simp[big];omega)
   simp[fn__law_text,enc,at?,ixOf,peq,hs,ha,shw]
  |tie w ps =>
   simp only[dep] at h h70
   simp only[sz] at hz
   have hl:=shws_len (ps:=ps) wf.2.2
   have hw:=wf.1.2.1
   cases ps with
   |nil=>simp[fn__law_text,enc,encs,at?,ixOf,p_tup,mkTup,allG,peq,peqs,shw,shal,gdep,gdeps]
   |cons x r =>
    have hc:∀ y∈x::r,cl "_law_text" [.g (enc y)] σ = .ok (.g (.str (shw y))) σ:=fun y hy=>ih y σ (by have:=dep_le hy;omega) (by have:=dep_le hy;omega) (Wfs_iff.mp wf.2.2 y hy) (by have:=szs_mem (x::r) y hy;omega)
    have q:=compL_map (α:=F) (f:=compF cl 1 [] .nil (.call "_law_text" (.cons (.var 0) .nil)) [some (R.g (G.tup [G.str sTie,G.str w,G.tup (List.map enc (x::r))]))]) (w:=none)
     (fun y=>R.g (enc y)) (fun y=>R.g (.str (shw y))) (σ:=σ) rfl (x::r) (fun y hy=>by simp[hc y hy])
    have en:¬ peqs (encs (x::r)) []=true:=by simp[encs,peqs]
    have hsh:shal (.tup (encs (x::r)))=true:=by
     have:=gdeps_encs (x::r)
     unfold shal
     refine decide_eq_true ?_
     simp only[gdep]
     omega
    have e2:prim .eq [.g (.tup (encs (x::r))),.g (.tup [])] σ = .ok (.g (.bl false)) σ:=by rw[p_eq _ hsh];simp[peq,encs,peqs]
    have hL:lens (shws (x::r))+(shws (x::r)).length*1<=big:=by
     have:(shws (x::r)).length=(x::r).length:=by rw[shws_map];simp
     rw[this];simp[big];simp only[List.length_cons] at hl;omega
    have hJ:=joinL_len (shws (x::r))
    have hj:=p_join (σ:=σ++[.lst ((shws (x::r)).map .str)]) (k:=σ.length) (sep:=[44]) (l:=shws (x::r)) (by simp) hL
    have hln:(shws (x::r)).length=(x::r).length:=by rw[shws_map];simp
    have a1:∀ τ,prim .add [.g (.str w),.g (.str [40])] τ = .ok (.g (.str (w++[40]))) τ:=fun τ=>p_addS _ _ (by simp[big];omega)
    have a2:∀ τ,prim .add [.g (.str (w++[40])),.g (.str (joinL [44] (shws (x::r))))] τ = .ok (.g (.str (w++[40]++joinL [44] (shws (x::r))))) τ:=fun τ=>p_addS _ _ (by simp[big];simp only[List.length_cons] at hl hln;omega)
    have a3:∀ τ,prim .add [.g (.str (w++[40]++joinL [44] (shws (x::r)))),.g (.str [41])] τ = .ok (.g (.str (w++[40]++joinL [44] (shws (x::r))++[41]))) τ:=fun τ=>p_addS _ _ (by simp[big];simp only[List.length_cons] at hl hln;omega)
    have hm:mkLst ((x::r).map fun y=>R.g (.str (shw y))) = .lst ((shws (x::r)).map .str):=by rw[mkLst_map,shws_map,List.map_map];rfl
    generalize hE:encs (x::r)=es at *
    generalize hS:shws (x::r)=ss at *
    rw[← encs_map,hE] at q
    have hg:(x::r).map (fun y=>R.g (enc y))=es.map R.g:=by rw[← hE,encs_map,List.map_map];rfl
    rw[hg] at q
    generalize hR:((x::r).map fun y=>R.g (.str (shw y)))=rr at *
    have i1:∀ a b c:G,at? [a,b,c] 1=some b:=fun _ _ _=>rfl
    have i0:∀ a b c:G,at? [a,b,c] 0=some a:=fun _ _ _=>rfl
    have i2:∀ a b c:G,at? [a,b,c] 2=some c:=fun _ _ _=>rfl
    have sf:shw (.tie w (x::r))=w++[40]++joinL [44] ss++[41]:=by simp only[shw,hS];rfl
    rw[sf]
    simp only[enc,hE]
    simp[fn__law_text,i0,i1,i2,peq,p_tup,mkTup,allG,e2,kM1_ok _ _ (recv_join _),q,hm,hj,a1,a2,a3, -List.append_assoc]
end MP
namespace MP
variable {P:List Fn}{W:Nat}
noncomputable def fn_sign_at:Fn:=⟨"sign_at",2,2,
 (.cons (.ret (.op .cutS (.cons (.var 0) (.cons (.var 1) (.cons (.op .add (.cons (.var 1) (.cons (.con (.int 1)) .nil))) .nil)))))
 .nil)⟩
noncomputable abbrev reT:Tm:=(.andT (.op .lt (.cons (.var 3) (.cons (.op .len (.cons (.var 0) .nil)) .nil))) (.op .innS (.cons (.op .idx (.cons (.var 0) (.cons (.var 3) .nil))) (.cons (.var 2) .nil))))
noncomputable abbrev reB:Blk:=(.cons (.set 3 (.op .add (.cons (.var 3) (.cons (.con (.int 1)) .nil))))
 .nil)
noncomputable def fn_run_end:Fn:=⟨"run_end",3,4,
 (.cons (.set 3 (.var 1))
 (.cons (.whileS reT reB)
 (.cons (.ret (.var 3))
 .nil)))⟩
noncomputable def fn_read_gap:Fn:=⟨"read_gap",2,4,
 (.cons (.set 2 (.call "run_end" (.cons (.var 0) (.cons (.var 1) (.cons (.glb "FIGURES" (.str d09)) .nil)))))
 (.cons (.set 3 (.op .cutS (.cons (.var 0) (.cons (.var 1) (.cons (.var 2) .nil)))))
 (.cons (.ite (.op .eq (.cons (.var 3) (.cons (.con (.str [])) .nil))) (.cons (.raise "BadNote" (.con (.str [97,32,103,97,112,32,119,105,116,104,111,117,116,32,97,32,110,117,109,98,101,114])))
 .nil) .nil)
 (.cons (.ite (.andT (.meth .starts (.var 3) (.cons (.con (.str [48])) .nil)) (.op .ne (.cons (.var 3) (.cons (.con (.str [48])) .nil)))) (.cons (.raise "BadNote" (.con (.str [97,32,110,117,109,98,101,114,32,119,105,116,104,32,97,32,110,101,101,100,108,101,115,115,32,110,111,117,103,104,116])))
 .nil) .nil)
 (.cons (.ret (.op .tup (.cons (.op .tup (.cons (.con (.str [103,97,112])) (.cons (.op .intOf (.cons (.var 3) .nil)) .nil))) (.cons (.var 2) .nil))))
 .nil)))))⟩
noncomputable def fn_read_tie:Fn:=⟨"read_tie",2,5,
 (.cons (.set 2 (.call "run_end" (.cons (.var 0) (.cons (.var 1) (.cons (.glb "LETTERS" (.str az)) .nil)))))
 (.cons (.set 3 (.op .cutS (.cons (.var 0) (.cons (.var 1) (.cons (.var 2) .nil)))))
 (.cons (.ite (.op .eq (.cons (.var 3) (.cons (.con (.str [])) .nil))) (.cons (.raise "BadNote" (.con (.str [110,101,105,116,104,101,114,32,97,32,103,97,112,32,110,111,114,32,97,32,119,111,114,100,32,119,104,101,114,101,32,97,32,102,111,114,109,32,115,104,111,117,108,100,32,98,101,103,105,110])))
 .nil) .nil)
 (.cons (.ite (.op .ne (.cons (.call "sign_at" (.cons (.var 0) (.cons (.var 2) .nil))) (.cons (.con (.str [40])) .nil))) (.cons (.ret (.op .tup (.cons (.op .tup (.cons (.con (.str [116,105,101])) (.cons (.var 3) (.cons (.op .tup .nil) .nil)))) (.cons (.var 2) .nil))))
 .nil) .nil)
 (.cons (.callX (some (some 4)) "read_parts" (.cons (.var 0) (.cons (.op .add (.cons (.var 2) (.cons (.con (.int 1)) .nil))) .nil)))
 (.cons (.ret (.op .tup (.cons (.op .tup (.cons (.con (.str [116,105,101])) (.cons (.var 3) (.cons (.op .idx (.cons (.var 4) (.cons (.con (.int 0)) .nil))) .nil)))) (.cons (.op .idx (.cons (.var 4) (.cons (.con (.int 1)) .nil))) .nil))))
 .nil))))))⟩
noncomputable abbrev rpB:Blk:=(.cons (.callX (some (some 4)) "read_form" (.cons (.var 0) (.cons (.var 3) .nil)))
 (.cons (.expr (.meth .append (.var 2) (.cons (.op .idx (.cons (.var 4) (.cons (.con (.int 0)) .nil))) .nil)))
 (.cons (.set 5 (.call "sign_at" (.cons (.var 0) (.cons (.op .idx (.cons (.var 4) (.cons (.con (.int 1)) .nil))) .nil))))
 (.cons (.set 3 (.op .add (.cons (.op .idx (.cons (.var 4) (.cons (.con (.int 1)) .nil))) (.cons (.con (.int 1)) .nil))))
 (.cons (.ite (.op .eq (.cons (.var 5) (.cons (.con (.str [41])) .nil))) (.cons (.ret (.op .tup (.cons (.op .tupleOf (.cons (.var 2) .nil)) (.cons (.var 3) .nil))))
 .nil) .nil)
 (.cons (.ite (.op .ne (.cons (.var 5) (.cons (.con (.str [44])) .nil))) (.cons (.raise "BadNote" (.con (.str [110,101,105,116,104,101,114,32,97,32,99,111,109,109,97,32,110,111,114,32,97,32,99,108,111,115,105,110,103,32,98,114,97,99,107,101,116,32,98,101,104,105,110,100,32,97,32,112,97,114,116])))
 .nil) .nil)
 .nil))))))
noncomputable def fn_read_parts:Fn:=⟨"read_parts",2,6,
 (.cons (.set 2 (.op .lst .nil))
 (.cons (.set 3 (.var 1))
 (.cons (.whileS (.con (.bl true)) rpB)
 .nil)))⟩
noncomputable def fn_read_form:Fn:=⟨"read_form",2,2,
 (.cons (.ite (.op .eq (.cons (.call "sign_at" (.cons (.var 0) (.cons (.var 1) .nil))) (.cons (.con (.str [63])) .nil))) (.cons (.callX (some none) "read_gap" (.cons (.var 0) (.cons (.op .add (.cons (.var 1) (.cons (.con (.int 1)) .nil))) .nil)))
 .nil) .nil)
 (.cons (.callX (some none) "read_tie" (.cons (.var 0) (.cons (.var 1) .nil)))
 .nil))⟩
theorem p_cutS{σ:Store}{x:List Nat}{i j:Nat}(h:i<=j):prim .cutS [.g (.str x),.g (.int i),.g (.int j)] σ = .ok (.g (.str ((x.drop i).take (j-i)))) σ:=by
 have h1:(0:Int)<=i:=by omega
 have h2:(i:Int)<=j:=by omega
 simp[prim,pCutS,h1,h2,okG]
theorem run_sign_at(h:look P "sign_at"=some fn_sign_at){n:Nat}{x:List Nat}{i:Nat}(σ:Store):run P W (n+1) "sign_at" [.g (.str x),.g (.int i)] σ = .ok (.g (.str ((x.drop i).take 1))) σ:=by
 have e:prim .cutS [.g (.str x),.g (.int i),.g (.int ((i:Int)+1))] σ = .ok (.g (.str ((x.drop i).take 1))) σ:=by
  have:=p_cutS (σ:=σ) (x:=x) (i:=i) (j:=i+1) (by omega)
  rw[show i+1-i=1 by omega] at this
  exact this
 rw[run_call h _ _ _ rfl]
 simp[fn_sign_at,e]
theorem p_innS{σ:Store}{c:Nat}{y:List Nat}:prim .innS [.g (.str [c]),.g (.str y)] σ = .ok (.g (.bl (y.contains c))) σ:=rfl
theorem whileL_end{test:Env->Store->Res R}{body:Env->Store->Res Out}{n:Nat}{ε:Env}{σ σ1:Store}(h:test ε σ = .ok (.g (.bl false)) σ1):whileL test body (n+1) ε σ = .ok (.next ε) σ1:=by simp[whileL,h]
theorem whileL_next{test:Env->Store->Res R}{body:Env->Store->Res Out}{n:Nat}{ε ε2:Env}{σ σ1 σ2:Store}(h:test ε σ = .ok (.g (.bl true)) σ1)(hb:body ε σ1 = .ok (.next ε2) σ2):whileL test body (n+1) ε σ=whileL test body n ε2 σ2:=by simp[whileL,h,hb]
theorem whileL_ret{test:Env->Store->Res R}{body:Env->Store->Res Out}{n:Nat}{ε:Env}{σ σ1 σ2:Store}{v:R}(h:test ε σ = .ok (.g (.bl true)) σ1)(hb:body ε σ1 = .ok (.ret v) σ2):whileL test body (n+1) ε σ = .ok (.ret v) σ2:=by simp[whileL,h,hb]
theorem drop_head{α:Type}{x r:List α}{c:α}{j:Nat}(h:x.drop j=c::r):x[j]?=some c/\j<x.length/\x.drop (j+1)=r:=by
 obtain⟨a,b,c⟩:=drop_cons h
 exact⟨a,c,b⟩
theorem end_loop{cl:CallH}{x y post:List Nat}{σ:Store}{e1:Option R}(hp:∀ c r,post=c::r->y.contains c=false) :
 ∀ (rn:List Nat) (j n:Nat),x.drop j=rn++post->(∀ c∈rn,y.contains c=true)->rn.length<n →
  whileL (ev cl true reT) (evB cl W reB) n [some (.g (.str x)),e1,some (.g (.str y)),some (.g (.int j))] σ = .ok (.next [some (.g (.str x)),e1,some (.g (.str y)),some (.g (.int ((j+rn.length:Nat):Int)))]) σ
 | [],j,n,hd,_,hn=>by
  obtain⟨m,rfl⟩:∃ m,n=m+1:=⟨n-1,by simp at hn;omega⟩
  have ln:prim .len [.g (.str x)] σ = .ok (.g (.int x.length)) σ:=p_len rfl
  refine whileL_end ?_
  cases post with
  |nil =>
   have:¬ ((j:Int)<x.length):=by have:=drop_nil (by simpa using hd);omega
   simp[ln,this]
  |cons c r =>
   obtain⟨h1,h2,_⟩:=drop_head (by simpa using hd)
   have h3:(j:Int)<x.length:=by omega
   have ix:prim .idx [.g (.str x),.g (.int j)] σ = .ok (.g (.str [c])) σ:=by simp[prim,pIdx,at_nat h1,ofO,okG]
   have:¬ c∈y:=by simpa using hp c r rfl
   simp[ln,h3,ix,p_innS,this]
 |c::r,j,n,hd,hc,hn=>by
  obtain⟨m,rfl⟩:∃ m,n=m+1:=⟨n-1,by simp at hn;omega⟩
  have ln:prim .len [.g (.str x)] σ = .ok (.g (.int x.length)) σ:=p_len rfl
  obtain⟨h1,h2,h4⟩:=drop_head (by simpa using hd)
  have h3:(j:Int)<x.length:=by omega
  have ix:prim .idx [.g (.str x),.g (.int j)] σ = .ok (.g (.str [c])) σ:=by simp[prim,pIdx,at_nat h1,ofO,okG]
  have hy:c∈y:=by simpa using hc c List.mem_cons_self
  have ih:=end_loop (cl:=cl) (e1:=e1) (σ:=σ) hp r (j+1) m h4 (fun d hd=>hc d (List.mem_cons_of_mem _ hd)) (by simp at hn;omega)
  have hj:(((j+1:Nat)):Int)=(j:Int)+1:=by omega
  have hk:((j+(c::r).length:Nat):Int)=((j+1+r.length:Nat):Int):=by simp only[List.length_cons];omega
  rw[whileL_next (σ1:=σ) (σ2:=σ) (ε2:=[some (.g (.str x)),e1,some (.g (.str y)),some (.g (.int ((j+1:Nat):Int)))]) (by simp[ln,h3,ix,p_innS,hy]) (by simp[setSlot,hj]),ih,hk]
theorem run_run_end(h:look P "run_end"=some fn_run_end){k:Nat}{x y rn post:List Nat}{j:Nat}(σ:Store)(hd:x.drop j=rn++post)(hr:∀ c∈rn,y.contains c=true)(hp:∀ c r,post=c::r->y.contains c=false)(hW:rn.length<W) :
 run P W (k+1) "run_end" [.g (.str x),.g (.int j),.g (.str y)] σ = .ok (.g (.int ((j+rn.length:Nat):Int))) σ:=by
 rw[run_call h _ _ _ rfl]
 have lp:=end_loop (W:=W) (cl:=run P W k) (σ:=σ) (x:=x) (y:=y) (e1:=some (.g (.int j))) hp rn j W hd hr hW
 simp[fn_run_end,setSlot,evS_while,lp]
noncomputable def stop(post:List Nat):Prop:=∀ c r,post=c::r->c=44\/c=41
theorem take_drop_run{x rn post:List Nat}{j:Nat}(hd:x.drop j=rn++post):(x.drop j).take (j+rn.length-j)=rn:=by
 rw[hd,show j+rn.length-j=rn.length by omega];simp
theorem run_read_gap(h1:look P "run_end"=some fn_run_end)(h2:look P "read_gap"=some fn_read_gap){k:Nat}{x post:List Nat}{j:Nat}{i:Int}(σ:Store)(h0:0<=i)(h9:i<1000)(hd:x.drop j=dec i++post)(hp:stop post)(hW:4<=W) :
 run P W (k+2) "read_gap" [.g (.str x),.g (.int j)] σ = .ok (.g (.tup [.tup [.str sGap,.int i],.int ((j+(dec i).length:Nat):Int)])) σ:=by
 obtain⟨g1,g2⟩:=dec_digs h0 h9
 simp only[digs,Bool.and_eq_true,decide_eq_true_eq,List.all_eq_true,Bool.not_eq_true',Bool.or_eq_true] at g1
 obtain⟨⟨⟨q1,q2⟩,q3⟩,q4⟩:=g1
 have e:=run_run_end (W:=W) (k:=k) h1 (y:=d09) σ hd q2 (fun c r z=>by rcases hp c r z with rfl|rfl<;>rfl) (by omega)
 rw[run_call h2 _ _ _ rfl]
 generalize run P W (k+1)=cl at e
 have c1:=p_cutS (σ:=σ) (x:=x) (i:=j) (j:=j+(dec i).length) (by omega)
 rw[take_drop_run hd] at c1
 have t1:prim .eq [.g (.str (dec i)),.g (.str [])] σ = .ok (.g (.bl false)) σ:=by
  rw[p_eq _ rfl]
  cases hx:dec i with
  |nil=>rw[hx] at q1;simp at q1
  |cons c r=>rfl
 have s1:prim .starts [.g (.str (dec i)),.g (.str [48])] σ = .ok (.g (.bl (([48]:List Nat).isPrefixOf (dec i)))) σ:=rfl
 have n1:prim .ne [.g (.str (dec i)),.g (.str [48])] σ = .ok (.g (.bl (!(dec i == [48])))) σ:=by rw[p_ne _ rfl];simp[peq]
 have i1:prim .intOf [.g (.str (dec i))] σ = .ok (.g (.int i)) σ:=by
  have:i<1000000000:=by omega
  simp[prim,pIntOf,g2,this,okG]
 generalize dec i=D at *
 generalize ((j+D.length:Nat):Int)=E at *
 by_cases hz:D=[48]
 ·subst hz
  have s1:prim .starts [.g (.str [48]),.g (.str [48])] σ = .ok (.g (.bl true)) σ:=rfl
  have n1:prim .ne [.g (.str [48]),.g (.str [48])] σ = .ok (.g (.bl false)) σ:=by rw[p_ne _ rfl];simp[peq]
  simp[fn_read_gap,setSlot,e,c1,t1,kM1_ok _ _ (recv_starts _),s1,n1,i1,p_tup,mkTup,allG]
 ·have:([48]:List Nat).isPrefixOf D=false:=by rcases q3 with z|z;exact z;exact absurd z hz
  rw[this] at s1
  simp[fn_read_gap,setSlot,e,c1,t1,kM1_ok _ _ (recv_starts _),s1,i1,p_tup,mkTup,allG]
theorem word_head{w:List Nat}(h:word w):∃ c r,w=c::r/\c≠63:=by
 cases w with
 |nil=>exact absurd rfl h.1
 |cons c r =>
  refine⟨c,r,rfl,fun z => ?_⟩
  have:=h.2.2 c List.mem_cons_self
  subst z
  simp at this
theorem drop_app{x a b:List Nat}{j:Nat}(h:x.drop j=a++b):x.drop (j+a.length)=b:=by
 rw[← List.drop_drop,h];simp
theorem at_three{α:Type}(a b:α):at? [a,b] 0=some a/\at? [a,b] 1=some b:=⟨rfl,rfl⟩
theorem read_loop{cl:CallH}{x post:List Nat}{σ:Store}{e1:Option R}(hs:∀ (i:Nat) (τ:Store),cl "sign_at" [.g (.str x),.g (.int i)] τ = .ok (.g (.str ((x.drop i).take 1))) τ) :
 ∀ (qs acc:List F) (q:F) (j n:Nat) (o4 o5:Option R),x.drop j=joinL [44] (shws (q::qs))++[41]++post->acc.length+qs.length<100->qs.length<n →
  (∀ f∈q::qs,∀ (j:Nat) (post:List Nat) (τ:Store),x.drop j=shw f++post->stop post->cl "read_form" [.g (.str x),.g (.int j)] τ = .ok (.g (.tup [enc f,.int ((j+(shw f).length:Nat):Int)])) τ) →
  ∃ σ',whileL (ev cl true (.con (.bl true))) (evB cl W rpB) n [some (.g (.str x)),e1,some (.ref σ.length),some (.g (.int j)),o4,o5] (σ++[.lst (acc.map enc)])
   = .ok (.ret (.g (.tup [.tup ((acc++q::qs).map enc),.int ((j+(joinL [44] (shws (q::qs))).length+1:Nat):Int)]))) (σ++σ'):=by
 intro qs
 induction qs with
 |nil =>
  intro acc q j n o4 o5 hd ha hn hf
  obtain⟨m,rfl⟩:∃ m,n=m+1:=⟨n-1,by simp at hn;omega⟩
  simp only[shws,joinL] at hd ⊢
  rw[List.append_assoc] at hd
  have e:=hf q List.mem_cons_self j ([41]++post) (σ++[.lst (acc.map enc)]) hd (fun c r z=>by simp at z;exact .inr z.1.symm)
  have d2:=drop_app hd
  have s:=hs (j+(shw q).length) (σ++[.lst ((acc++[q]).map enc)])
  rw[d2] at s
  have s':cl "sign_at" [.g (.str x),.g (.int ((j+(shw q).length:Nat):Int))] (σ++[.lst ((acc++[q]).map enc)]) = .ok (.g (.str [41])) (σ++[.lst ((acc++[q]).map enc)]):=s
  have hg:(σ++[Cell.lst (acc.map enc)])[σ.length]?=some (.lst (acc.map enc)):=by simp
  have ap:prim .append [.ref σ.length,.g (enc q)] (σ++[.lst (acc.map enc)]) = .ok (.g .non) (σ++[.lst ((acc++[q]).map enc)]):=by
   rw[p_append hg (by simp[big];omega)];simp
  have t1:∀ τ,prim .eq [.g (.str [41]),.g (.str [41])] τ = .ok (.g (.bl true)) τ:=fun τ=>by rw[p_eq _ rfl];rfl
  have tl:prim .tupleOf [.ref σ.length] (σ++[.lst ((acc++[q]).map enc)]) = .ok (.g (.tup ((acc++[q]).map enc))) (σ++[.lst ((acc++[q]).map enc)]):=p_tupleL (by simp)
  have hE:((j+(shw q).length+1:Nat):Int)=((j+(shw q).length:Nat):Int)+1:=by omega
  rw[hE]
  generalize ((j+(shw q).length:Nat):Int)=E at *
  generalize hA:Cell.lst ((acc++[q]).map enc)=A at *
  refine⟨[A],?_⟩
  refine whileL_ret (σ1:=σ++[.lst (acc.map enc)]) (by rw[ev_con];rfl) ?_
  have rc:=recv_append hg
  generalize Cell.lst (acc.map enc)=B at *
  generalize (acc++[q]).map enc=ag at *
  simp[setSlot,e,at_three,kM1_ok _ _ rc,ap,s',t1,tl,p_tup,mkTup,allG]
 |cons q2 qs ih =>
  intro acc q j n o4 o5 hd ha hn hf
  obtain⟨m,rfl⟩:∃ m,n=m+1:=⟨n-1,by simp at hn;omega⟩
  have hj:joinL [44] (shws (q::q2::qs))=shw q++([44]++joinL [44] (shws (q2::qs))):=by simp[shws,joinL]
  rw[hj,List.append_assoc,List.append_assoc] at hd
  have e:=hf q List.mem_cons_self j _ (σ++[.lst (acc.map enc)]) hd (fun c r z=>by simp at z;exact .inl z.1.symm)
  have d2:=drop_app hd
  have s:=hs (j+(shw q).length) (σ++[.lst ((acc++[q]).map enc)])
  rw[d2] at s
  have s':cl "sign_at" [.g (.str x),.g (.int ((j+(shw q).length:Nat):Int))] (σ++[.lst ((acc++[q]).map enc)]) = .ok (.g (.str [44])) (σ++[.lst ((acc++[q]).map enc)]):=s
  have d3:x.drop (j+(shw q).length+1)=joinL [44] (shws (q2::qs))++[41]++post:=by
   rw[show([44]++joinL [44] (shws (q2::qs))++([41]++post))=[44]++(joinL [44] (shws (q2::qs))++[41]++post) by simp] at d2
   exact drop_app d2
  have hg:(σ++[Cell.lst (acc.map enc)])[σ.length]?=some (.lst (acc.map enc)):=by simp
  have ap:prim .append [.ref σ.length,.g (enc q)] (σ++[.lst (acc.map enc)]) = .ok (.g .non) (σ++[.lst ((acc++[q]).map enc)]):=by
   rw[p_append hg (by simp[big];omega)];simp
  have t1:∀ τ,prim .eq [.g (.str [44]),.g (.str [41])] τ = .ok (.g (.bl false)) τ:=fun τ=>by rw[p_eq _ rfl];rfl
  have t2:∀ τ,prim .ne [.g (.str [44]),.g (.str [44])] τ = .ok (.g (.bl false)) τ:=fun τ=>by rw[p_ne _ rfl];rfl
  obtain⟨σ',w⟩:=ih (acc++[q]) q2 (j+(shw q).length+1) m (some (.g (.tup [enc q,.int ((j+(shw q).length:Nat):Int)]))) (some (.g (.str [44]))) d3 (by simp at ha ⊢;omega) (by simp at hn;omega) fun f hf'=>hf f (List.mem_cons_of_mem _ hf')
  have hE:((j+(shw q).length+1:Nat):Int)=((j+(shw q).length:Nat):Int)+1:=by omega
  have hF:j+(joinL [44] (shws (q::q2::qs))).length+1=j+(shw q).length+1+(joinL [44] (shws (q2::qs))).length+1:=by rw[hj];simp;omega
  refine⟨σ',?_⟩
  rw[hF,show acc++q::q2::qs=acc++[q]++q2::qs by simp, ← w,hE]
  have rc:=recv_append hg
  generalize ((j+(shw q).length:Nat):Int)=E at *
  generalize hA:Cell.lst ((acc++[q]).map enc)=A at *
  generalize Cell.lst (acc.map enc)=B at *
  refine whileL_next (σ1:=σ++[B]) (by rw[ev_con];rfl) ?_
  simp[setSlot,e,at_three,kM1_ok _ _ rc,ap,s',t1,t2]
structure Rd(P:List Fn):Prop where
 a:look P "sign_at"=some fn_sign_at
 b:look P "run_end"=some fn_run_end
 c:look P "read_gap"=some fn_read_gap
 d:look P "read_tie"=some fn_read_tie
 e:look P "read_parts"=some fn_read_parts
 f:look P "read_form"=some fn_read_form
theorem run_read_form(L:Rd P)(hW:9<=W){d:Nat}:∀ (k:Nat) (f:F) (x post:List Nat) (j:Nat) (σ:Store),dep f<=k->Wf f->x.drop j=shw f++post->stop post →
 run P W (d+3*k+2) "read_form" [.g (.str x),.g (.int j)] σ = .ok (.g (.tup [enc f,.int ((j+(shw f).length:Nat):Int)])) σ
 |0,f,_,_,_,_,h,_,_,_=>by have:=dep_pos f;omega
 |k+1,f,x,post,j,σ,hk,wf,hd,hp=>by
  have ih:=run_read_form L hW (d:=d) k
  have e0:=run_sign_at (W:=W) (P:=P) L.a (n:=d+3*k+3) (x:=x) (i:=j) σ
  cases f with
  |gap i =>
   simp only[shw] at hd
   have d1:x.drop (j+1)=dec i++post:=by
    have:=drop_app (a:=[63]) (b:=dec i++post) (j:=j) (x:=x) (by simpa using hd)
    simpa using this
   have e1:=run_read_gap (W:=W) L.b L.c (k:=d+3*k+2) σ wf.1 wf.2 d1 hp (by omega)
   rw[hd] at e0
   have e0':run P W (d+3*k+4) "sign_at" [.g (.str x),.g (.int j)] σ = .ok (.g (.str [63])) σ:=e0
   rw[show d+3*(k+1)+2=d+3*k+4+1 by omega,run_call L.f _ _ _ rfl]
   have t1:prim .eq [.g (.str [63]),.g (.str [63])] σ = .ok (.g (.bl true)) σ:=by rw[p_eq _ rfl];rfl
   have hj:((j+1:Nat):Int)=(j:Int)+1:=by omega
   rw[hj] at e1
   have hl:((j+(shw (.gap i)).length:Nat):Int)=((j+1+(dec i).length:Nat):Int):=by simp only[shw,List.length_cons];omega
   rw[hl]
   generalize run P W (d+3*k+4)=cl at e0' e1
   generalize ((j+1+(dec i).length:Nat):Int)=E at *
   simp[fn_read_form,e0',t1,e1,enc]
  |tie w ps =>
   obtain⟨c,r,hw,hc⟩:=word_head wf.1
   have hs:∃ rest,shw (.tie w ps)=w++rest/\(ps=[]/\rest=[]\/∃ q qs,ps=q::qs/\rest=[40]++(joinL [44] (shws (q::qs))++[41])):=by
    cases ps with
    |nil=>exact⟨[],by simp[shw],.inl ⟨rfl,rfl⟩⟩
    |cons q qs=>exact⟨[40]++(joinL [44] (shws (q::qs))++[41]),by simp[shw],.inr ⟨q,qs,rfl,rfl⟩⟩
   obtain⟨rest,hsh,hrest⟩:=hs
   rw[hsh] at hd ⊢
   rw[List.append_assoc] at hd
   have h63:(x.drop j).take 1=[c]:=by rw[hd,hw];rfl
   rw[h63] at e0
   have t1:prim .eq [.g (.str [c]),.g (.str [63])] σ = .ok (.g (.bl false)) σ:=by
    rw[p_eq _ rfl]
    have:¬ ([c]:List Nat)=[63]:=by simpa using hc
    simp[peq,hc]
   have eE:=run_run_end (W:=W) (P:=P) L.b (k:=d+3*k+2) (y:=az) (post:=rest++post) σ hd wf.1.2.2 (fun d t z=>by
    rcases hrest with⟨_,rfl⟩ | ⟨q,qs,_,rfl⟩
    ·rcases hp d t (by simpa using z) with rfl|rfl<;>rfl
    ·simp at z;rw[← z.1];rfl) (by have:=wf.1.2.1;omega)
   have c1:=p_cutS (σ:=σ) (x:=x) (i:=j) (j:=j+w.length) (by omega)
   rw[take_drop_run hd] at c1
   have t2:prim .eq [.g (.str w),.g (.str [])] σ = .ok (.g (.bl false)) σ:=by rw[p_eq _ rfl,hw];rfl
   have d1:=drop_app hd
   have eS:=run_sign_at (W:=W) (P:=P) L.a (n:=d+3*k+2) (x:=x) (i:=j+w.length) σ
   rw[d1] at eS
   have eT:run P W (d+3*k+4) "read_tie" [.g (.str x),.g (.int j)] σ = .ok (.g (.tup [enc (.tie w ps),.int ((j+(w++rest).length:Nat):Int)])) σ:=by
    rcases hrest with⟨rfl,rfl⟩ | ⟨q,qs,rfl,rfl⟩
    ·have t3:prim .ne [.g (.str (post.take 1)),.g (.str [40])] σ = .ok (.g (.bl true)) σ:=by
      rw[p_ne _ rfl]
      cases post with
      |nil=>rfl
      |cons d t=>rcases hp d t rfl with rfl|rfl<;>rfl
     have eS':run P W (d+3*k+3) "sign_at" [.g (.str x),.g (.int ((j+w.length:Nat):Int))] σ = .ok (.g (.str (post.take 1))) σ:=by simpa using eS
     rw[run_call L.d _ _ _ rfl]
     generalize run P W (d+3*k+3)=cl at eE eS'
     rw[List.append_nil]
     generalize ((j+w.length:Nat):Int)=E at *
     generalize post.take 1=p1 at *
     simp[fn_read_tie,setSlot,eE,c1,t2,eS',t3,p_tup,mkTup,allG,enc,encs]
    ·have t3:prim .ne [.g (.str [40]),.g (.str [40])] σ = .ok (.g (.bl false)) σ:=by rw[p_ne _ rfl];rfl
     have eS':run P W (d+3*k+3) "sign_at" [.g (.str x),.g (.int ((j+w.length:Nat):Int))] σ = .ok (.g (.str [40])) σ:=by simpa using eS
     have d2:x.drop (j+w.length+1)=joinL [44] (shws (q::qs))++[41]++post:=by
      have:=drop_app (a:=[40]) (b:=joinL [44] (shws (q::qs))++[41]++post) (x:=x) (j:=j+w.length) (by simpa using d1)
      simpa using this
     have ePP:run P W (d+3*k+3) "read_parts" [.g (.str x),.g (.int ((j+w.length+1:Nat):Int))] σ = .ok (.g (.tup [.tup (encs (q::qs)),.int ((j+w.length+1+(joinL [44] (shws (q::qs))).length+1:Nat):Int)])) σ:=by
      have hdp:∀ f∈q::qs,dep f<=k:=fun f hf=>by have:=dep_le hf;simp only[dep] at hk;omega
      have hln:=wf.2.1
      obtain⟨σ',lp⟩:=read_loop (W:=W) (cl:=run P W (d+3*k+2)) (x:=x) (post:=post) (σ:=σ) (e1:=some (.g (.int ((j+w.length+1:Nat):Int)))) (fun i τ=>run_sign_at L.a τ) qs [] q (j+w.length+1) W none none d2 (by simp only[List.length_nil,List.length_cons] at hln ⊢;omega) (by simp only[List.length_cons] at hln;omega)
       fun f hf i p τ h1 h2=>ih f x p i τ (hdp f hf) (Wfs_iff.mp wf.2.2 f hf) h1 h2
      rw[run_call L.e _ _ _ rfl]
      generalize run P W (d+3*k+2)=cl at lp
      rw[encs_map]
      simp only[List.map_nil,List.nil_append] at lp
      have m0:mkLst [] = .lst []:=rfl
      generalize ((j+w.length+1:Nat):Int)=E at *
      generalize ((j+w.length+1+(joinL [44] (shws (q::qs))).length+1:Nat):Int)=E' at *
      generalize (q::qs).map enc=ee at *
      simp[fn_read_parts,setSlot,p_lst,m0,evS_while,lp]
     have hj:((j+w.length+1:Nat):Int)=((j+w.length:Nat):Int)+1:=by omega
     rw[hj] at ePP
     rw[run_call L.d _ _ _ rfl]
     generalize run P W (d+3*k+3)=cl at eE eS' ePP
     have hl:((j+(w++([40]++(joinL [44] (shws (q::qs))++[41]))).length:Nat):Int)=((j+w.length+1+(joinL [44] (shws (q::qs))).length+1:Nat):Int):=by
      simp only[List.length_append,List.length_cons,List.length_nil];omega
     rw[hl]
     simp only[enc]
     generalize ((j+w.length+1+(joinL [44] (shws (q::qs))).length+1:Nat):Int)=E' at *
     generalize ((j+w.length:Nat):Int)=E at *
     generalize encs (q::qs)=ee at *
     simp[fn_read_tie,setSlot,eE,c1,t2,eS',t3,ePP,at_three,p_tup,mkTup,allG]
   rw[show d+3*(k+1)+2=d+3*k+4+1 by omega,run_call L.f _ _ _ rfl]
   have e0':run P W (d+3*k+4) "sign_at" [.g (.str x),.g (.int j)] σ = .ok (.g (.str [c])) σ:=e0
   generalize run P W (d+3*k+4)=cl at e0' eT
   generalize ((j+(w++rest).length:Nat):Int)=E at *
   generalize enc (.tie w ps)=ee at *
   simp[fn_read_form,e0',t1,eT]
end MP
namespace MP
variable {P:List Fn}{W:Nat}
noncomputable def wordB(w:List Nat):Bool:=decide (1<=w.length) && decide (w.length<=8) && w.all fun c=>az.contains c
noncomputable def rightB:F->Bool
 | .gap n=>decide (0<=n) && decide (n<=999)
 | .tie w ps=>wordB w && decide (ps.length<=4)
noncomputable def fn_depth_of:Fn:=⟨"depth_of",1,1,
 (.cons (.ret (.op .add (.cons (.con (.int 1)) (.cons (.op .maxd (.cons (.comp 1 [] (.over (.call "parts_of" (.cons (.var 0) .nil))) .nil (.call "depth_of" (.cons (.var 0) .nil))) (.cons (.con (.int 0)) .nil))) .nil))))
 .nil)⟩
noncomputable def fn_is_word:Fn:=⟨"is_word",1,1,
 (.cons (.ret (.andT (.chain .le .le (.con (.int 1)) (.op .len (.cons (.var 0) .nil)) (.glb "MOST_LETTERS" (.int 8))) (.op .all (.cons (.comp 1 [] (.chars (.var 0)) .nil (.op .innS (.cons (.var 0) (.cons (.glb "LETTERS" (.str az)) .nil)))) .nil))))
 .nil)⟩
noncomputable def fn_is_right:Fn:=⟨"is_right",1,1,
 (.cons (.ite (.call "is_gap" (.cons (.var 0) .nil)) (.cons (.ret (.chain .le .le (.con (.int 0)) (.op .idx (.cons (.var 0) (.cons (.con (.int 1)) .nil))) (.glb "HIGHEST_NUMBER" (.int 999))))
 .nil) .nil)
 (.cons (.ret (.andT (.call "is_word" (.cons (.op .idx (.cons (.var 0) (.cons (.con (.int 1)) .nil))) .nil)) (.op .le (.cons (.op .len (.cons (.op .idx (.cons (.var 0) (.cons (.con (.int 2)) .nil))) .nil)) (.cons (.glb "MOST_PARTS" (.int 4)) .nil)))))
 .nil))⟩
noncomputable abbrev lkB:Blk:=(.cons (.ite (.notT (.call "is_right" (.cons (.var 2) .nil))) (.cons (.raise "NoForm" (.con (.str [97,32,103,97,112,39,115,32,110,117,109,98,101,114,44,32,97,32,116,105,101,39,115,32,119,111,114,100,32,111,114,32,105,116,115,32,110,117,109,98,101,114,32,111,102,32,112,97,114,116,115,32,105,115,32,111,117,116,32,111,102,32,98,111,117,110,100,115])))
 .nil) .nil)
 .nil)
noncomputable def fn_looked:Fn:=⟨"looked",1,3,
 (.cons (.set 1 (.call "signs_of" (.cons (.var 0) .nil)))
 (.cons (.forS [2] (.over (.var 1)) lkB)
 (.cons (.ite (.op .gt (.cons (.op .len (.cons (.var 1) .nil)) (.cons (.glb "MOST_SIGNS" (.int 200)) .nil))) (.cons (.raise "TooMany" (.con (.str [109,111,114,101,32,116,104,97,110,32,50,48,48,32,115,105,103,110,115])))
 .nil) .nil)
 (.cons (.ite (.op .gt (.cons (.call "depth_of" (.cons (.var 0) .nil)) (.cons (.glb "MOST_DEPTH" (.int 40)) .nil))) (.cons (.raise "TooMany" (.con (.str [97,32,100,101,112,116,104,32,97,98,111,118,101,32,52,48])))
 .nil) .nil)
 (.cons (.ret (.op .len (.cons (.var 1) .nil)))
 .nil)))))⟩
noncomputable def fn_read:Fn:=⟨"read",1,2,
 (.cons (.callX (some (some 1)) "read_form" (.cons (.var 0) (.cons (.con (.int 0)) .nil)))
 (.cons (.ite (.op .lt (.cons (.op .idx (.cons (.var 1) (.cons (.con (.int 1)) .nil))) (.cons (.op .len (.cons (.var 0) .nil)) .nil))) (.cons (.raise "BadNote" (.con (.str [115,111,109,101,116,104,105,110,103,32,115,116,97,110,100,115,32,98,101,104,105,110,100,32,116,104,101,32,102,111,114,109])))
 .nil) .nil)
 (.cons (.tryR "looked" (.cons (.op .idx (.cons (.var 1) (.cons (.con (.int 0)) .nil))) .nil) "FormError" "BadNote" (.con (.str [119,104,97,116,32,105,115,32,119,114,105,116,116,101,110,32,105,115,32,111,117,116,32,111,102,32,97,32,102,111,114,109,39,115,32,98,111,117,110,100,115])))
 (.cons (.ret (.op .idx (.cons (.var 1) (.cons (.con (.int 0)) .nil))))
 .nil))))⟩
theorem maxL_deps:∀ (ps:List F) (m:Nat),maxL (m:Int) (ps.map fun x=>(dep x:Int))=((max m (deps ps):Nat):Int)
 | [],m=>by simp[maxL,deps]
 |x::r,m=>by
  simp only[List.map_cons,maxL,deps]
  split
  ·rename_i h
   rw[maxL_deps r (dep x)];omega
  ·rename_i h
   rw[maxL_deps r m];omega
theorem intsOf_mapF(f:F->Int):∀ l:List F,intsOf (l.map fun x=>G.int (f x))=some (l.map f)
 | []=>rfl
 |x::r=>by simp[intsOf,intsOf_mapF f r]
theorem run_depth(h1:look P "is_gap"=some fn_is_gap)(h2:look P "parts_of"=some fn_parts_of)(h3:look P "depth_of"=some fn_depth_of):∀ (n:Nat) (f:F) (σ:Store),dep f+2<=n->run P W n "depth_of" [.g (enc f)] σ = .ok (.g (.int (dep f))) σ
 |0,f,_,h=>by omega
 |n+1,f,σ,h=>by
  obtain⟨k,rfl⟩:∃ k,n=k+2:=⟨n-2,by have:=dep_pos f;omega⟩
  have ih:=run_depth h1 h2 h3 (k+2)
  have e:=run_parts (W:=W) h1 h2 (n:=k) f σ
  rw[run_call h3 _ _ _ rfl]
  generalize run P W (k+2)=cl at ih e
  have hd:∀ x∈prt f,dep x+1<=dep f:=fun x hx=>by
   cases f with
   |gap _=>simp[prt] at hx
   |tie w ps=>have:=dep_le (show x∈ps from hx);simp only[dep];omega
  have hdep:dep f=deps (prt f)+1:=by cases f<;>simp[prt,dep,deps]
  have q:=compL_map (α:=F) (f:=compF cl 1 [] .nil (.call "depth_of" (.cons (.var 0) .nil)) [some (R.g (enc f))]) (w:=none)
   (fun y=>R.g (enc y)) (fun y=>R.g (.int (dep y))) (σ:=σ) rfl (prt f) (fun y hy=>by simp[ih y σ (by have:=hd y hy;omega)])
  have hm:mkLst ((prt f).map fun y=>R.g (.int (dep y))) = .lst ((prt f).map fun y=>.int (dep y)):=mkLst_map (fun y:F=>G.int (dep y)) (prt f)
  have hx:prim .maxd [.ref σ.length,.g (.int 0)] (σ++[.lst ((prt f).map fun y=>.int (dep y))]) = .ok (.g (.int (deps (prt f)))) (σ++[.lst ((prt f).map fun y=>.int (dep y))]):=by
   have g0:(σ++[Cell.lst ((prt f).map fun y=>.int (dep y))])[σ.length]?=some (.lst ((prt f).map fun y=>.int (dep y))):=by simp
   simp only[prim,pMaxd,g0,intsOf_mapF]
   cases hp:prt f with
   |nil=>simp[deps,okG]
   |cons x r =>
    simp only[List.map_cons,okG]
    rw[maxL_deps r (dep x)]
    simp[deps]
  have he:(encs (prt f)).map R.g=(prt f).map fun y=>R.g (enc y):=by rw[encs_map,List.map_map];rfl
  have hD:(1:Int)+(deps (prt f):Int)=(dep f:Int):=by omega
  simp[fn_depth_of,e,he,q,hm,hx,hD]
theorem run_is_word(h:look P "is_word"=some fn_is_word){n:Nat}(w:List Nat)(σ:Store):run P W (n+1) "is_word" [.g (.str w)] σ = .ok (.g (.bl (wordB w))) σ:=by
 rw[run_call h _ _ _ rfl]
 generalize run P W n=cl
 have ln:∀ τ,prim .len [.g (.str w)] τ = .ok (.g (.int w.length)) τ:=fun τ=>p_len rfl
 have q:=compL_map (α:=Nat) (f:=compF cl 1 [] .nil (.op .innS (.cons (.var 0) (.cons (.glb "LETTERS" (.str az)) .nil))) [some (R.g (.str w))]) (w:=none)
  (fun c=>R.g (.str [c])) (fun c=>R.g (.bl (az.contains c))) (σ:=σ) rfl w (fun c hc=>by rw[compF_nil,bindC_one,turnN_some,capsE_nil,ev_op,evs_cons,ev_var];simp only[List.cons_append,List.nil_append,List.getElem?_cons_zero,kVar_some,truR_f,kArg_ok,evs_cons,ev_glb,evs_nil,kCons_ok,kOp_ok,p_innS,kT_f,kSome_ok])
 have hm:mkLst (w.map fun c=>R.g (.bl (az.contains c))) = .lst (w.map fun c=>.bl (az.contains c)):=mkLst_map (fun c:Nat=>G.bl (az.contains c)) w
 have hb:bools (w.map fun c=>G.bl (az.contains c))=some (w.map fun c=>az.contains c):=by
  have:=bools_map (w.map fun c=>az.contains c)
  rwa [List.map_map] at this
 have ha:prim .all [.ref σ.length] (σ++[.lst (w.map fun c=>.bl (az.contains c))]) = .ok (.g (.bl (w.all fun c=>az.contains c))) (σ++[.lst (w.map fun c=>.bl (az.contains c))]):=by
  rw[p_all (by simp) hb,List.all_map];rfl
 generalize w.map (fun c=>R.g (.bl (az.contains c)))=rr at *
 generalize Cell.lst (w.map fun c=>.bl (az.contains c))=cc at *
 generalize hA:(w.all fun c=>az.contains c)=A at *
 have hw:wordB w=(decide (1<=w.length) && decide (w.length<=8) && A):=by unfold wordB;rw[hA]
 rw[hw]
 by_cases h1:1<=w.length
 ·have h1':(1:Int)<=w.length:=by omega
  by_cases h2:w.length<=8
  ·have h2':(w.length:Int)<=8:=by omega
   simp[fn_is_word,ln,h1,h1',h2,h2',q,hm,ha]
  ·have h2':¬ (w.length:Int)<=8:=by omega
   simp[fn_is_word,ln,h1,h1',h2,h2']
 ·have h1':¬ (1:Int)<=w.length:=by omega
  simp[fn_is_word,ln,h1,h1']
theorem run_is_right(h1:look P "is_gap"=some fn_is_gap)(h2:look P "is_word"=some fn_is_word)(h3:look P "is_right"=some fn_is_right){n:Nat}(f:F)(σ:Store):run P W (n+2) "is_right" [.g (enc f)] σ = .ok (.g (.bl (rightB f))) σ:=by
 have e1:=run_is_gap (W:=W) h1 (n:=n) f σ
 have e2:=fun w=>run_is_word (W:=W) h2 (n:=n) w σ
 rw[run_call h3 _ _ _ rfl]
 generalize run P W (n+1)=cl at e1 e2
 cases f with
 |gap i =>
  simp only[enc] at e1
  by_cases h0:0<=i
  ·by_cases h9:i<=999
   ·simp[fn_is_right,enc,e1,at?,ixOf,rightB,h0,h9]
   ·simp[fn_is_right,enc,e1,at?,ixOf,rightB,h0,h9]
  ·simp[fn_is_right,enc,e1,at?,ixOf,rightB,h0]
 |tie w ps =>
  simp only[enc] at e1
  have ln:prim .len [.g (.tup (encs ps))] σ = .ok (.g (.int ps.length)) σ:=by rw[p_len (n:=(encs ps).length) rfl,encs_len]
  cases hw:wordB w with
  |false=>simp[fn_is_right,enc,e1,e2,at?,ixOf,rightB,hw]
  |true =>
   have:decide ((ps.length:Int)<=4)=decide (ps.length<=4):=by
    by_cases h:ps.length<=4
    ·have h':(ps.length:Int)<=4:=by omega
     simp[h,h']
    ·have h':¬ (ps.length:Int)<=4:=by omega
     simp[h,h']
   simp[fn_is_right,enc,e1,e2,at?,ixOf,rightB,hw,ln,this]
theorem looked_loop{cl:CallH}{τ:Store}{k:Nat}{ys:List F}{e0 e1:Option R}(hk:τ[k]?=some (.lst (encs ys)))(hc:∀ x,cl "is_right" [.g (enc x)] τ = .ok (.g (.bl (rightB x))) τ) :
 ∀ (xs:List F) (o:Option R),(∀ x∈xs,rightB x=true)->∃ o',forL [2] (evB cl W lkB) (some (k,.lst (encs ys))) (xs.map fun x=>.g (enc x)) [e0,e1,o] τ = .ok (.next [e0,e1,o']) τ
 | [],o,_=>⟨o,by rw[List.map_nil,forL_nil _ _ _ (by simp[intact,hk])]⟩
 |x::r,o,h=>by
  obtain⟨o',ih⟩:=looked_loop (e0:=e0) (e1:=e1) hk hc r (some (.g (enc x))) fun y hy=>h y (List.mem_cons_of_mem _ hy)
  have e:=hc x
  rw[h x List.mem_cons_self] at e
  refine⟨o',?_⟩
  rw[List.map_cons,forL_cons _ _ _ _ _ (by simp[intact,hk])]
  simp[bindTg,setSlot,e]
  exact ih
structure Lk(P:List Fn):Prop where
 a:look P "is_gap"=some fn_is_gap
 b:look P "parts_of"=some fn_parts_of
 c:look P "signs_of"=some fn_signs_of
 d:look P "depth_of"=some fn_depth_of
 e:look P "is_word"=some fn_is_word
 f:look P "is_right"=some fn_is_right
 g:look P "looked"=some fn_looked
theorem run_looked(L:Lk P){n:Nat}(f:F)(σ:Store)(hn:dep f+3<=n)(hr:∀ x∈sgn f,rightB x=true)(hz:sz f<=200)(hd:dep f<=40):run P W n "looked" [.g (enc f)] σ = .ok (.g (.int (sz f))) σ:=by
 obtain⟨k,rfl⟩:∃ k,n=k+3:=⟨n-3,by omega⟩
 have e1:=run_signs (W:=W) L.a L.b L.c (k+2) f σ (by omega) (by unfold big;omega)
 have e2:=fun τ x=>run_is_right (W:=W) L.a L.e L.f (n:=k) x τ
 have e3:=fun τ=>run_depth (W:=W) L.a L.b L.d (k+2) f τ (by omega)
 rw[run_call L.g _ _ _ rfl]
 generalize run P W (k+2)=cl at e1 e2 e3
 have g0:(σ++[Cell.lst (encs (sgn f))])[σ.length]?=some (.lst (encs (sgn f))):=by simp
 obtain⟨o',lp⟩:=looked_loop (W:=W) (e0:=some (.g (enc f))) (e1:=some (.ref σ.length)) g0 (e2 _) (sgn f) none hr
 have hw:wOver (.ref σ.length) (σ++[.lst (encs (sgn f))]) = .ok ⟨(sgn f).map fun x=>.g (enc x),some (σ.length,.lst (encs (sgn f)))⟩ (σ++[.lst (encs (sgn f))]):=by
  rw[wOver_lst g0,encs_map,List.map_map];rfl
 have ln:prim .len [.ref σ.length] (σ++[.lst (encs (sgn f))]) = .ok (.g (.int (sz f))) (σ++[.lst (encs (sgn f))]):=by rw[p_len (n:=(encs (sgn f)).length) (by simp[lenOf]),encs_len,sgn_len]
 have h1:¬ (200:Int)<sz f:=by omega
 have h2:¬ (40:Int)<dep f:=by omega
 simp[fn_looked,setSlot,e1,hw,lp,ln,h1,e3,h2]
theorem right_of{f:F}(h:Wf f):rightB f=true:=by
 cases f with
 |gap n=>have h1:=h.1;have h2:=h.2;simp only[rightB,Bool.and_eq_true,decide_eq_true_eq];omega
 |tie w ps =>
  obtain⟨⟨a,b,c⟩,d,_⟩:=h
  have:1<=w.length:=by cases w with
   |nil=>exact absurd rfl a
   |cons _ _=>simp
  simp only[rightB,wordB,Bool.and_eq_true,decide_eq_true_eq,List.all_eq_true]
  exact⟨⟨⟨this,b⟩,c⟩,d⟩
mutual
theorem Wf_sgn:∀ {f:F},Wf f->∀ x∈sgn f,Wf x
 | .gap n,h,x,hx=>by simp[sgn] at hx;subst hx;exact h
 | .tie w ps,h,x,hx=>by
  simp only[sgn,List.mem_cons] at hx
  rcases hx with rfl|hx
  ·exact h
  ·exact Wfs_sgns h.2.2 x hx
theorem Wfs_sgns:∀ {ps:List F},Wfs ps->∀ x∈sgns ps,Wf x
 | [],_,x,hx=>by simp[sgns] at hx
 |y::r,h,x,hx=>by
  simp only[sgns,List.mem_append] at hx
  rcases hx with hx|hx
  ·exact Wf_sgn h.1 x hx
  ·exact Wfs_sgns h.2 x hx
end
theorem run_read(L:Lk P)(R:Rd P)(h:look P "read"=some fn_read)(hW:9<=W){n k d:Nat}(f:F)(σ:Store)(hn:n=d+3*k+3)(hk:dep f<=k)(wf:Wf f)(hz:sz f<=200)(hd:dep f<=40) :
 run P W n "read" [.g (.str (shw f))] σ = .ok (.g (enc f)) σ:=by
 have hp:=dep_pos f
 obtain⟨m,rfl⟩:∃ m,n=m+1:=⟨n-1,by omega⟩
 have e1:=run_read_form (P:=P) (W:=W) R hW (d:=d) k f (shw f) [] 0 σ hk wf (by simp) (fun c r z=>by cases z)
 rw[show d+3*k+2=m by omega] at e1
 have e2:=run_looked (W:=W) L (n:=m) f σ (by omega) (fun x hx=>right_of (Wf_sgn wf x hx)) hz hd
 rw[run_call h _ _ _ rfl]
 generalize run P W m=cl at e1 e2
 have ln:prim .len [.g (.str (shw f))] σ = .ok (.g (.int (shw f).length)) σ:=p_len rfl
 have l0:((0+(shw f).length:Nat):Int)=((shw f).length:Int):=by omega
 rw[l0] at e1
 have e1':cl "read_form" [.g (.str (shw f)),.g (.int 0)] σ = .ok (.g (.tup [enc f,.int ((shw f).length:Int)])) σ:=e1
 generalize ((shw f).length:Int)=E at *
 simp[fn_read,setSlot,e1',at_three,ln,e2]
end MP
namespace MP
variable {P:List Fn}{W:Nat}
noncomputable abbrev wdE:Tm:=(.op .idx (.cons (.var 1) (.cons (.op .mod (.cons (.op .add (.cons (.op .add (.cons (.var 2) (.cons (.op .mul (.cons (.con (.int 5)) (.cons (.var 3) .nil))) .nil))) (.cons (.op .mul (.cons (.con (.int 3)) (.cons (.var 0) .nil))) .nil))) (.cons (.con (.int 26)) .nil))) .nil)))
noncomputable def fn__law_worded:Fn:=⟨"_law_worded",2,5,
 (.cons (.ite (.op .eq (.cons (.op .idx (.cons (.var 0) (.cons (.con (.int 0)) .nil))) (.cons (.con (.str [103,97,112])) .nil))) (.cons (.ret (.var 0))
 .nil) .nil)
 (.cons (.set 2 (.con (.str az)))
 (.cons (.set 3 (.meth .index (.op .lst (.cons (.con (.str [97])) (.cons (.con (.str [97,98])) (.cons (.con (.str [102])) (.cons (.con (.str [102,103])) .nil))))) (.cons (.op .idx (.cons (.var 0) (.cons (.con (.int 1)) .nil))) .nil)))
 (.cons (.set 4 (.meth .join (.con (.str [])) (.cons (.comp 1 [2,1,3] (.range1 (.op .add (.cons (.con (.int 1)) (.cons (.op .mod (.cons (.op .fdiv (.cons (.var 1) (.cons (.con (.int 26)) .nil))) (.cons (.con (.int 8)) .nil))) .nil)))) .nil wdE) .nil)))
 (.cons (.ret (.op .tup (.cons (.con (.str [116,105,101])) (.cons (.var 4) (.cons (.op .tupleOf (.cons (.comp 1 [1] (.over (.op .idx (.cons (.var 0) (.cons (.con (.int 2)) .nil)))) .nil (.call "_law_worded" (.cons (.var 0) (.cons (.var 1) .nil)))) .nil)) .nil)))))
 .nil)))))⟩
theorem az_at{m:Int}(h0:0<=m)(h1:m<26):∃ c,at? az m=some c/\az.contains c=true:=by
 obtain⟨k,rfl⟩:∃ k:Nat,m=k:=⟨m.toNat,by omega⟩
 have hk:k<az.length:=by simp;omega
 refine⟨az[k],at_nat (by rw[List.getElem?_eq_getElem hk]),?_⟩
 rw[List.contains_iff_mem]
 exact List.getElem_mem hk
theorem joinE:∀ l:List Nat,joinL [] (l.map fun c=>[c])=l
 | []=>rfl
 | [c]=>rfl
 |c::d::r=>by
  have:=joinE (d::r)
  simp only[List.map_cons] at this ⊢
  simp only[joinL,this]
  rfl
theorem lens1:∀ l:List Nat,lens (l.map fun c=>[c])=l.length
 | []=>rfl
 |c::r=>by simp[lens,lens1 r];omega
theorem word_loop{cl:CallH}{c:Int}{p:Nat} :
 ∀ (m i:Nat),∃ l:List Nat,l.length=m/\(∀ x∈l,az.contains x=true)/\∀ (ε:Env) (σ:Store),capsE ε [2,1,3]=[some (.g (.str az)),some (.g (.int c)),some (.g (.int p))]->compL (compF cl 1 [2,1,3] .nil wdE ε) none (rangeL i (i+m:Nat)) σ = .ok (l.map fun x=>R.g (.str [x])) σ
 |0,i=>⟨[],rfl,by simp,fun ε σ _=>by rw[rangeL_nil (by omega)];simp[compL,intact]⟩
 |m+1,i=>by
  obtain⟨l,h1,h2,h3⟩:=word_loop (cl:=cl) (c:=c) (p:=p) m (i+1)
  obtain⟨x,a1,a2⟩:=az_at (m:=(c+5*(p:Int)+3*(i:Int)) % 26) (Int.emod_nonneg _ (by omega)) (Int.emod_lt_of_pos _ (by omega))
  refine⟨x::l,by simp[h1],fun y hy => ?_,fun ε σ hc => ?_⟩
  ·rcases List.mem_cons.mp hy with z|z
   ·subst z;exact a2
   ·exact h2 y z
  ·rw[rangeL_cons (by omega)]
   have hi:((i:Int)+1)=((i+1:Nat):Int):=by omega
   rw[hi,show i+(m+1)=i+1+m by omega]
   have m1:prim .mul [.g (.int 5),.g (.int p)] σ = .ok (.g (.int (5*p))) σ:=p_mul (by omega)
   have m2:prim .mul [.g (.int 3),.g (.int i)] σ = .ok (.g (.int (3*i))) σ:=p_mul (by omega)
   have m3:prim .mod [.g (.int (c+5*p+3*i)),.g (.int 26)] σ = .ok (.g (.int ((c+5*p+3*i) % 26))) σ:=p_mod (by omega)
   have e:compF cl 1 [2,1,3] .nil wdE ε (.g (.int i)) σ = .ok (some (.g (.str [x]))) σ:=by
    rw[compF_nil,bindC_one,turnN_some,hc]
    simp[m1,m2,m3,p_idxS,a1,ofO]
   simp only[compL,intact,if_true,e,bind_ok,h3 ε σ hc,List.map_cons]
theorem place_of{w:List Nat}(h:w∈w4):∃ p:Nat,(w4.map G.str).findIdx? (fun y=>peq y (.str w))=some p:=by
 simp only[w4,List.mem_cons,List.not_mem_nil,or_false] at h
 rcases h with rfl|rfl|rfl|rfl
 ·exact⟨0,rfl⟩
 ·exact⟨1,rfl⟩
 ·exact⟨2,rfl⟩
 ·exact⟨3,rfl⟩
theorem run_wordedG(h1:look P "_law_worded"=some fn__law_worded)(c:Int){many:Int}(hm:many<=1000):∀ (n:Nat) (f:F),dep f<=n->okF many f->∃ g,(∀ σ,run P W n "_law_worded" [.g (enc f),.g (.int c)] σ = .ok (.g (enc g)) σ)/\dep g=dep f/\sz g=sz f/\Wf g/\gn g=gn f
 |0,f,h,_=>by have:=dep_pos f;omega
 |n+1,f,h,ok=>by
  have ih:=run_wordedG h1 c hm n
  have rc0:∀ σ:Store,run P W (n+1) "_law_worded" [.g (enc f),.g (.int c)] σ=_:=fun σ=>run_call h1 _ _ _ rfl
  simp only[rc0]
  generalize run P W n=cl at ih
  cases f with
  |gap i =>
   refine⟨.gap i,fun σ => ?_,rfl,rfl,⟨ok.1,Int.lt_of_lt_of_le ok.2 hm⟩,rfl⟩
   simp[fn__law_worded,enc,at?,ixOf,peq]
  |tie w ps =>
   simp only[dep] at h
   obtain⟨hw,hl,hp⟩:=ok
   have hq:∃ gs:List F,gs.length=ps.length/\deps gs=deps ps/\szs gs=szs ps/\Wfs gs/\gns gs=gns ps/\∀ (ε:Env) (τ:Store),capsE ε [1]=[some (.g (.int c))]->compL (compF cl 1 [1] .nil (.call "_law_worded" (.cons (.var 0) (.cons (.var 1) .nil))) ε) none (ps.map fun x=>R.g (enc x)) τ = .ok (gs.map fun x=>R.g (enc x)) τ:=by
    have hd:∀ x∈ps,dep x<=n:=fun x hx=>by have:=dep_le hx;omega
    clear h hl rc0
    induction ps with
    |nil=>exact⟨[],rfl,rfl,rfl,trivial,rfl,fun ε τ _=>by simp[compL,intact]⟩
    |cons x r ihp =>
     obtain⟨gs,g1,g2,g3,g4,g6,g5⟩:=ihp hp.2 fun y hy=>hd y (List.mem_cons_of_mem _ hy)
     obtain⟨g,qq,q2,q3,q4,q5⟩:=ih x (hd x List.mem_cons_self) hp.1
     refine⟨g::gs,by simp[g1],by simp[deps,q2,g2],by simp[szs,q3,g3],⟨q4,g4⟩,by simp[gns,q5,g6],fun ε τ hc => ?_⟩
     have e:compF cl 1 [1] .nil (.call "_law_worded" (.cons (.var 0) (.cons (.var 1) .nil))) ε (.g (enc x)) τ = .ok (some (.g (enc g))) τ:=by
      rw[compF_nil,bindC_one,turnN_some,hc]
      simp[qq]
     simp only[List.map_cons,compL,intact,if_true,e,bind_ok,g5 ε τ hc]
   obtain⟨gs,g1,g2,g3,g4,g6,g5⟩:=hq
   obtain⟨p,hp4⟩:=place_of hw
   have r0:0<=c / 26 % 8:=Int.emod_nonneg _ (by omega)
   have r8:c / 26 % 8<8:=Int.emod_lt_of_pos _ (by omega)
   obtain⟨wd,w1,w2,w3⟩:=word_loop (cl:=cl) (c:=c) (p:=p) (1+c / 26 % 8).toNat 0
   have z0:rangeL ((0:Nat):Int) ((0+(1+c / 26 % 8).toNat:Nat):Int)=rangeL 0 (1+c / 26 % 8):=by
    congr 1;omega
   rw[z0] at w3
   refine⟨.tie wd gs,fun σ => ?_,by simp only[dep];omega,by simp only[sz];omega,⟨⟨fun z => ?_,by omega,w2⟩,by omega,g4⟩,by simp only[gn,g6]⟩
   ·have m0:mkLst [R.g (.str [97]),R.g (.str [97,98]),R.g (.str [102]),R.g (.str [102,103])] = .lst (w4.map G.str):=rfl
    have s4:(w4.map G.str).all shal=true:=rfl
    have rc:recvOk .index (.ref σ.length) (σ++[.lst (w4.map G.str)])=true:=recv_index (xs:=w4.map G.str) (by simp)
    have ix:prim .index [.ref σ.length,.g (.str w)] (σ++[.lst (w4.map G.str)]) = .ok (.g (.int p)) (σ++[.lst (w4.map G.str)]):=p_index (by simp) s4 hp4
    generalize Cell.lst (w4.map G.str)=C4 at *
    have d1:∀ τ,prim .fdiv [.g (.int c),.g (.int 26)] τ = .ok (.g (.int (c / 26))) τ:=fun τ=>p_fdiv (by omega)
    have d2:∀ τ,prim .mod [.g (.int (c / 26)),.g (.int 8)] τ = .ok (.g (.int (c / 26 % 8))) τ:=fun τ=>p_mod (by omega)
    have hr:∀ τ,wRange (.g (.int 0)) (.g (.int (1+c / 26 % 8))) τ = .ok ⟨rangeL 0 (1+c / 26 % 8),none⟩ τ:=fun τ=>wRange_ok (by simp[small,big];omega)
    have hm1:mkLst (wd.map fun x=>R.g (.str [x])) = .lst ((wd.map fun x=>[x]).map .str):=by rw[mkLst_map (fun x:Nat=>G.str [x]) wd,List.map_map];rfl
    have hj:=p_join (σ:=σ++[C4,.lst ((wd.map fun x=>[x]).map .str)]) (k:=σ.length+1) (sep:=[]) (l:=wd.map fun x=>[x]) (by simp) (by rw[lens1];simp[big];omega)
    rw[joinE] at hj
    generalize Cell.lst ((wd.map fun x=>[x]).map .str)=C5 at *
    generalize hrr:(wd.map fun x=>R.g (.str [x]))=rr at *
    have hps:(encs ps).map R.g=ps.map fun x=>R.g (enc x):=by rw[encs_map,List.map_map];rfl
    have hm2:mkLst (gs.map fun x=>R.g (enc x)) = .lst (encs gs):=by rw[mkLst_map,encs_map]
    have htl:prim .tupleOf [.ref (σ.length+1+1)] (σ++[C4,C5,.lst (encs gs)]) = .ok (.g (.tup (encs gs))) (σ++[C4,C5,.lst (encs gs)]):=p_tupleL (xs:=encs gs) (by rw[List.getElem?_append_right (by omega),show σ.length+1+1-σ.length=2 by omega];rfl)
    generalize (gs.map fun x=>R.g (enc x))=r2 at *
    generalize hpm:(ps.map fun x=>R.g (enc x))=r3 at *
    have i0:∀ a b c:G,at? [a,b,c] 0=some a:=fun _ _ _=>rfl
    have i1:∀ a b c:G,at? [a,b,c] 1=some b:=fun _ _ _=>rfl
    have i2:∀ a b c:G,at? [a,b,c] 2=some c:=fun _ _ _=>rfl
    have cw3:=fun ε τ h=>w3 ε τ h
    simp[fn__law_worded,setSlot,enc,i0,i1,i2,peq,p_lst,m0,kM1_ok _ _ rc,ix,kM1_ok _ _ (recv_join _),d1,d2,hr,w3,capsE,hm1,hj,hps,g5,hm2,htl,p_tup,mkTup,allG]
   ·rw[z] at w1;simp at w1;omega
end MP
namespace MP
variable {P:List Fn}{W:Nat}
noncomputable abbrev grB:Blk:=(.cons (.set 1 (.op .tup (.cons (.con (.str [116,105,101])) (.cons (.con (.str [102])) (.cons (.op .tup (.cons (.var 1) .nil)) .nil)))))
 .nil)
theorem looked_bad{cl:CallH}{τ:Store}{k:Nat}{ys:List F}{e0 e1:Option R}(hk:τ[k]?=some (.lst (encs ys)))(hc:∀ x,cl "is_right" [.g (enc x)] τ = .ok (.g (.bl (rightB x))) τ) :
 ∀ (xs:List F) (o:Option R),(∃ x∈xs,rightB x=false)->forL [2] (evB cl W lkB) (some (k,.lst (encs ys))) (xs.map fun x=>.g (enc x)) [e0,e1,o] τ = .ok (.exc "NoForm") τ
 | [],o,h=>by simp at h
 |x::r,o,h=>by
  have e:=hc x
  rw[List.map_cons,forL_cons _ _ _ _ _ (by simp[intact,hk])]
  cases hx:rightB x with
  |false =>
   rw[hx] at e
   simp[bindTg,setSlot,e]
  |true =>
   rw[hx] at e
   have ih:=looked_bad (e0:=e0) (e1:=e1) hk hc r (some (.g (enc x))) (by
    obtain⟨y,hy,q⟩:=h
    rcases List.mem_cons.mp hy with z|z
    ·subst z;rw[hx] at q;cases q
    ·exact⟨y,z,q⟩)
   simp[bindTg,setSlot,e]
   exact ih
theorem run_looked_bad(L:Lk P){n:Nat}(f:F)(σ:Store)(hn:dep f+3<=n)(hz:sz f<=big)(hr:∃ x∈sgn f,rightB x=false):run P W n "looked" [.g (enc f)] σ = .exc "NoForm" σ:=by
 obtain⟨k,rfl⟩:∃ k,n=k+3:=⟨n-3,by omega⟩
 have e1:=run_signs (W:=W) L.a L.b L.c (k+2) f σ (by omega) hz
 have e2:=fun τ x=>run_is_right (W:=W) L.a L.e L.f (n:=k) x τ
 rw[run_call L.g _ _ _ rfl]
 generalize run P W (k+2)=cl at e1 e2
 have g0:(σ++[Cell.lst (encs (sgn f))])[σ.length]?=some (.lst (encs (sgn f))):=by simp
 have lp:=looked_bad (W:=W) (e0:=some (.g (enc f))) (e1:=some (.ref σ.length)) g0 (e2 _) (sgn f) none hr
 have hw:wOver (.ref σ.length) (σ++[.lst (encs (sgn f))]) = .ok ⟨(sgn f).map fun x=>.g (enc x),some (σ.length,.lst (encs (sgn f)))⟩ (σ++[.lst (encs (sgn f))]):=by
  rw[wOver_lst g0,encs_map,List.map_map];rfl
 simp[fn_looked,setSlot,e1,hw,lp]
theorem run_looked_many(L:Lk P){n:Nat}(f:F)(σ:Store)(hn:dep f+3<=n)(hb:sz f<=big)(hr:∀ x∈sgn f,rightB x=true)(hz:200<sz f\/40<dep f):run P W n "looked" [.g (enc f)] σ = .exc "TooMany" σ:=by
 obtain⟨k,rfl⟩:∃ k,n=k+3:=⟨n-3,by omega⟩
 have e1:=run_signs (W:=W) L.a L.b L.c (k+2) f σ (by omega) hb
 have e2:=fun τ x=>run_is_right (W:=W) L.a L.e L.f (n:=k) x τ
 have e3:=fun τ=>run_depth (W:=W) L.a L.b L.d (k+2) f τ (by omega)
 rw[run_call L.g _ _ _ rfl]
 generalize run P W (k+2)=cl at e1 e2 e3
 have g0:(σ++[Cell.lst (encs (sgn f))])[σ.length]?=some (.lst (encs (sgn f))):=by simp
 obtain⟨o',lp⟩:=looked_loop (W:=W) (e0:=some (.g (enc f))) (e1:=some (.ref σ.length)) g0 (e2 _) (sgn f) none hr
 have hw:wOver (.ref σ.length) (σ++[.lst (encs (sgn f))]) = .ok ⟨(sgn f).map fun x=>.g (enc x),some (σ.length,.lst (encs (sgn f)))⟩ (σ++[.lst (encs (sgn f))]):=by
  rw[wOver_lst g0,encs_map,List.map_map];rfl
 have ln:prim .len [.ref σ.length] (σ++[.lst (encs (sgn f))]) = .ok (.g (.int (sz f))) (σ++[.lst (encs (sgn f))]):=by rw[p_len (n:=(encs (sgn f)).length) (by simp[lenOf]),encs_len,sgn_len]
 by_cases h1:200<sz f
 ·have h1':(200:Int)<sz f:=by omega
  simp[fn_looked,setSlot,e1,hw,lp,ln,h1']
 ·have h1':¬ (200:Int)<sz f:=by omega
  have h2':(40:Int)<dep f:=by omega
  simp[fn_looked,setSlot,e1,hw,lp,ln,h1',e3,h2']
noncomputable def wrap:Nat->F->F
 |0,f=>f
 |k+1,f=>wrap k (.tie [102] [f])
theorem wrap_dep:∀ (k:Nat) (f:F),dep (wrap k f)=dep f+k/\sz (wrap k f)=sz f+k/\(Wf f->Wf (wrap k f))
 |0,f=>⟨rfl,rfl,fun h=>h⟩
 |k+1,f=>by
  obtain⟨a,b,c⟩:=wrap_dep k (.tie [102] [f])
  refine⟨by rw[wrap,a];simp[dep,deps];omega,by rw[wrap,b];simp[sz,szs];omega,fun h=>c ⟨⟨by simp,by simp,by simp⟩,by simp,h,trivial⟩⟩
end MP
namespace MP
noncomputable instance:DecidableEq F:=fun a b=>decidable_of_iff (enc a=enc b) ⟨enc_inj,congrArg enc⟩
noncomputable abbrev Hs:=List (F × F)
noncomputable def rep:Hs->F->F
 | [],f=>f
 |p::h,f=>if rep h f=p.1 then p.2 else rep h f
noncomputable def Vd:Hs->Prop
 | []=>True
 |p::h=>Vd h/\rep h p.1=p.1/\rep h p.2=p.2/\p.1≠p.2
noncomputable def hval:Hs->F->Option F
 | [],_=>none
 |p::h,f=>if p.1=f then some p.2 else hval h f
theorem root_none:∀ {h:Hs},Vd h->∀ {f:F},rep h f=f->hval h f=none
 | [],_,f,_=>rfl
 | (x,y)::h,⟨v,h1,h2,h3⟩,f,e=>by
  simp only at h1 h2 h3
  simp only[rep] at e
  simp only[hval]
  by_cases z:x=f
  ·subst z
   rw[h1,if_pos rfl] at e
   exact absurd e.symm h3
  ·rw[if_neg z]
   by_cases q:rep h f=x
   ·rw[if_pos q] at e
    subst e
    rw[h2] at q
    exact absurd q.symm z
   ·rw[if_neg q] at e
    exact root_none v e
inductive Path (h:Hs):F->F->Nat->Prop
 |stop {f:F}:hval h f=none->Path h f f 0
 |step {f g r:F} {k:Nat}:hval h f=some g->Path h g r k->Path h f r (k+1)
noncomputable def zp:List F->List F->List (F × F)
 |x::r,y::t=>(x,y)::zp r t
 |_,_=>[]
noncomputable abbrev Ls:=List (F × F)
structure UI(U:List F)(f g:F)(h:Hs)(ls:Ls):Prop where
 vd:Vd h
 inH:∀ p∈h,p.1∈U/\p.2∈U
 inL:∀ p∈ls,p.1∈U/\p.2∈U
 same:∀ θ,sub θ f=sub θ g->(∀ p∈h,sub θ p.1=sub θ p.2)/\∀ p∈ls,sub θ p.1=sub θ p.2
 top:rep h f=rep h g\/(f,g)∈ls
 cls:∀ p∈h,(∃ n,p.1 = .gap n)\/∃ (w:List Nat) (ps qs:List F),p.1 = .tie w ps/\p.2 = .tie w qs/\ps.length=qs.length/\∀ (i:Nat) (x y:F),ps[i]?=some x->qs[i]?=some y->rep h x=rep h y\/(y,x)∈ls
noncomputable def Clo(U:List F):Prop:=∀ w ps,F.tie w ps∈U->ps.length<=4/\∀ p∈ps,p∈U
theorem keys_nd:∀ {h:Hs},Vd h->(h.map (·.1)).Nodup
 | [],_=>List.nodup_nil
 | (x,y)::h,⟨v,h1,_,_⟩=>by
  simp only[List.map_cons,List.nodup_cons]
  refine⟨fun m => ?_,keys_nd v⟩
  have h0:=root_none v h1
  simp only at h0
  clear h1 v
  rename_i z _
  clear z
  induction h with
  |nil=>simp at m
  |cons p t ih =>
   simp only[hval] at h0
   simp only[List.map_cons,List.mem_cons] at m
   split at h0
   ·cases h0
   ·rename_i ne
    rcases m with m|m
    ·exact ne m.symm
    ·exact ih m h0
theorem nd_len{α:Type}[DecidableEq α]:∀ {xs ys:List α},xs.Nodup->(∀ x∈xs,x∈ys)->xs.length<=ys.length
 | [],_,_,_=>by simp
 |x::r,ys,nd,h=>by
  rw[List.nodup_cons] at nd
  have h1:x∈ys:=h x List.mem_cons_self
  have h2:=nd_len (xs:=r) (ys:=ys.erase x) nd.2 fun z m=>(List.mem_erase_of_ne fun e=>nd.1 (by rw[← e];exact m)).mpr (h z (List.mem_cons_of_mem _ m))
  rw[List.length_erase_of_mem h1] at h2
  have:0<ys.length:=List.length_pos_of_mem h1
  simp only[List.length_cons]
  omega
theorem UI.len{U:List F}{f g:F}{h:Hs}{ls:Ls}(I:UI U f g h ls):h.length<=U.length:=by
 have:=nd_len (keys_nd I.vd) (ys:=U) fun x m=>by
  obtain⟨p,h1,rfl⟩:=List.mem_map.mp m
  exact(I.inH p h1).1
 simpa using this
theorem UI.drop{U:List F}{f g:F}{h:Hs}{a b:F}{ls:Ls}(I:UI U f g h ((a,b)::ls))(e:rep h a=rep h b):UI U f g h ls:=by
 have step:∀ u v:F,rep h u=rep h v\/(u,v)∈(a,b)::ls->rep h u=rep h v\/(u,v)∈ls:=fun u v z=>by
  rcases z with z|z
  ·exact .inl z
  ·rcases List.mem_cons.mp z with z|z
   ·cases z;exact .inl e
   ·exact .inr z
 refine⟨I.vd,I.inH,fun p m=>I.inL p (List.mem_cons_of_mem _ m),fun θ e=>⟨(I.same θ e).1,fun p m=>(I.same θ e).2 p (List.mem_cons_of_mem _ m)⟩,step f g I.top,fun p m => ?_⟩
 rcases I.cls p m with hc | ⟨w,ps,qs,h1,h2,h3,h4⟩
 ·exact .inl hc
 ·exact .inr ⟨w,ps,qs,h1,h2,h3,fun i u v g1 g2=>by
   rcases h4 i u v g1 g2 with z|z
   ·exact .inl z
   ·exact(step v u (.inr z)).imp (fun q=>q.symm) fun q=>q⟩
section
variable {U:List F}{f g:F}{h:Hs}{θ:Int->F}
end
end MP
namespace MP
variable {P:List Fn}{W:Nat}
noncomputable abbrev ldT:Tm:=(.op .innT (.cons (.var 2) (.cons (.var 1) .nil)))
noncomputable abbrev ldB:Blk:=(.cons (.set 2 (.op .idxT (.cons (.var 1) (.cons (.var 2) .nil)))) .nil)
noncomputable def fn_leader_of:Fn:=⟨"leader_of",2,3,
 (.cons (.set 2 (.var 0))
 (.cons (.whileS ldT ldB)
 (.cons (.ret (.var 2))
 .nil)))⟩
noncomputable abbrev lsT:Tm:=(.op .gt (.cons (.op .len (.cons (.var 3) .nil)) (.cons (.con (.int 0)) .nil)))
noncomputable abbrev lsB:Blk:=(.cons (.set 4 (.meth .pop (.var 3) .nil))
 (.cons (.set 5 (.call "leader_of" (.cons (.op .idx (.cons (.var 4) (.cons (.con (.int 0)) .nil))) (.cons (.var 2) .nil))))
 (.cons (.set 6 (.call "leader_of" (.cons (.op .idx (.cons (.var 4) (.cons (.con (.int 1)) .nil))) (.cons (.var 2) .nil))))
 (.cons (.ite (.op .eq (.cons (.var 5) (.cons (.var 6) .nil))) (.cons .cont
 .nil) .nil)
 (.cons (.ite (.call "is_gap" (.cons (.var 5) .nil)) (.cons (.setIdx (.var 2) (.var 5) (.var 6))
 .nil) (.cons (.ite (.call "is_gap" (.cons (.var 6) .nil)) (.cons (.setIdx (.var 2) (.var 6) (.var 5))
 .nil) (.cons (.ite (.call "of_one_kind" (.cons (.var 5) (.cons (.var 6) .nil))) (.cons (.setIdx (.var 2) (.var 6) (.var 5))
 (.cons (.expr (.meth .extend (.var 3) (.cons (.op .zipL (.cons (.op .idx (.cons (.var 5) (.cons (.con (.int 2)) .nil))) (.cons (.op .idx (.cons (.var 6) (.cons (.con (.int 2)) .nil))) .nil))) .nil)))
 .nil)) (.cons (.ret (.con .non))
 .nil))
 .nil))
 .nil))
 .nil)))))
noncomputable def fn_leaders_of:Fn:=⟨"leaders_of",2,7,
 (.cons (.set 2 (.op .dtg0 .nil))
 (.cons (.set 3 (.op .lst (.cons (.op .tup (.cons (.var 0) (.cons (.var 1) .nil))) .nil)))
 (.cons (.whileS lsT lsB)
 (.cons (.ret (.var 2))
 .nil))))⟩
section
variable {cl:CallH}{U:List F}{f g:F}{θ:Int->F}{σ:Store}{e0 e1:Option R}
end
end MP
namespace MP
variable {P:List Fn}{W:Nat}
noncomputable abbrev mdE:Tm:=(.call "made_whole" (.cons (.var 0) (.cons (.var 1) (.cons (.var 2) (.cons (.var 3) .nil)))))
noncomputable def fn_made_whole:Fn:=⟨"made_whole",4,6,
 (.cons (.set 4 (.call "leader_of" (.cons (.var 0) (.cons (.var 1) .nil))))
 (.cons (.ite (.call "is_gap" (.cons (.var 4) .nil)) (.cons (.ret (.op .tup (.cons (.con (.str [103,97,112])) (.cons (.meth .setdef (.var 3) (.cons (.op .idx (.cons (.var 4) (.cons (.con (.int 1)) .nil))) (.cons (.op .len (.cons (.var 3) .nil)) .nil))) .nil))))
 .nil) .nil)
 (.cons (.ite (.op .notinT (.cons (.var 4) (.cons (.var 2) .nil))) (.cons (.setIdx (.var 2) (.var 4) (.con .non))
 (.cons (.set 5 (.comp 1 [1,2,3] (.over (.op .idx (.cons (.var 4) (.cons (.con (.int 2)) .nil)))) .nil mdE))
 (.cons (.ite (.op .notin (.cons (.con .non) (.cons (.var 5) .nil))) (.cons (.setIdx (.var 2) (.var 4) (.op .tup (.cons (.con (.str [116,105,101])) (.cons (.op .idx (.cons (.var 4) (.cons (.con (.int 1)) .nil))) (.cons (.op .tupleOf (.cons (.var 5) .nil)) .nil)))))
 .nil) .nil)
 .nil))) .nil)
 (.cons (.ret (.op .idxT (.cons (.var 2) (.cons (.var 4) .nil))))
 .nil))))⟩
noncomputable def numS(l:List Int)(n:Int):F:=.gap (l.idxOf n)
noncomputable abbrev Md:=List (F × Option F)
noncomputable def mval:Md->F->Option (Option F)
 | [],_=>none
 |p::m,f=>if p.1=f then some p.2 else mval m f
noncomputable def mkeys(m:Md):List F:=m.map (·.1)
section
variable {U:List F}{h:Hs}{R:F->F}{δ:F->Nat}
structure Cs(U:List F)(h:Hs)(R:F->F)(δ:F->Nat):Prop where
 vd:Vd h
 inU:∀ p∈h,p.1∈U/\p.2∈U
 clo:Clo U
 low:∀ x∈U,dep x<=4
 few:U.length<200
 gapR:∀ t n,rep h t = .gap n->R t = .gap n
 tieR:∀ t w ps,t∈U->rep h t = .tie w ps->R t = .tie w (ps.map R)
 same:∀ t,δ (rep h t)=δ t
 part:∀ w ps p,p∈ps->δ p<δ (.tie w ps)
 pos:∀ t,1<=δ t
structure MI(U:List F)(h:Hs)(R:F->F)(M:Md)(l:List Int):Prop where
 nd:(mkeys M).Nodup
 inU:∀ x∈mkeys M,x∈U/\rep h x=x
 made:∀ x v,mval M x=some (some v)->v=sub (numS l) (R x)/\∀ n∈gn (R x),n∈l
 lnd:l.Nodup
 lU:∀ n∈l,F.gap n∈U
theorem MI.len{M:Md}{l:List Int}(I:MI U h R M l):M.length<=U.length/\l.length<=U.length:=by
 constructor
 ·have:=nd_len I.nd (ys:=U) fun x m=>(I.inU x m).1
  simpa[mkeys] using this
 ·have:=nd_len (xs:=l.map F.gap) (ys:=U) (by
   rw[List.Nodup,List.pairwise_map]
   exact I.lnd.imp fun a b=>a (by simpa using b)) fun x m=>by
    obtain⟨n,h1,rfl⟩:=List.mem_map.mp m
    exact I.lU n h1
  simpa using this
end
end MP
namespace MP
variable {P:List Fn}{W:Nat}
mutual
theorem okF_gn{many:Int}:∀ {f:F},okF many f->∀ n∈gn f,0<=n/\n<many
 | .gap n,h,m,hm=>by
  simp only[gn,List.mem_singleton] at hm
  subst hm
  exact h
 | .tie w ps,h,m,hm=>okFs_gn h.2.2 m hm
theorem okFs_gn{many:Int}:∀ {ps:List F},okFs many ps->∀ n∈gns ps,0<=n/\n<many
 | [],_,m,hm=>by simp[gns] at hm
 |x::r,h,m,hm=>by
  simp only[gns,List.mem_append] at hm
  rcases hm with hm|hm
  ·exact okF_gn h.1 m hm
  ·exact okFs_gn h.2 m hm
end
theorem getD_idx:∀ {l:List Int} {n:Int},n∈l->l.getD (l.idxOf n) 0=n
 | [],n,h=>by simp at h
 |x::r,n,h=>by
  by_cases z:x=n
  ·subst z
   simp
  ·have zb:(x == n)=false:=by simpa using z
   have:n∈r:=by
    rcases List.mem_cons.mp h with q|q
    ·exact absurd q.symm z
    ·exact q
   have ih:=getD_idx this
   rw[List.idxOf_cons,zb]
   simpa using ih
theorem idx_lt:∀ {l:List Int} {n:Int},n∈l->l.idxOf n<l.length:=fun h=>List.idxOf_lt_length_of_mem h
theorem apart{a b g:F}(ha:Abv a g)(hb:Abv b g):∃ θ,sub θ (plF 0 a)=g/\sub θ (plF (lgaps a).length b)=g:=by
 obtain⟨s,es⟩:=ha
 obtain⟨t,et⟩:=hb
 refine⟨fun m=>if m<((lgaps a).length:Int) then s ((lgaps a).getD m.toNat 0) else t ((lgaps b).getD (m-(lgaps a).length).toNat 0),?_,?_⟩
 ·rw[plF_sub,sub_sub, ← es]
  refine sub_congr fun n hn => ?_
  have m:=mem_lgaps.mpr hn
  have hl:=idx_lt m
  have h1:(0:Int)+((lgaps a).idxOf n:Int)<((lgaps a).length:Int):=by omega
  have h2:((0:Int)+((lgaps a).idxOf n:Int)).toNat=(lgaps a).idxOf n:=by omega
  simp only[sub,h1,if_true,h2,getD_idx m]
 ·rw[plF_sub,sub_sub, ← et]
  refine sub_congr fun n hn => ?_
  have m:=mem_lgaps.mpr hn
  have h1:¬ (((lgaps a).length:Int)+((lgaps b).idxOf n:Int)<((lgaps a).length:Int)):=by omega
  have h2:(((lgaps a).length:Int)+((lgaps b).idxOf n:Int)-((lgaps a).length:Int)).toNat=(lgaps b).idxOf n:=by omega
  simp only[sub,h1,if_false,h2,getD_idx m]
noncomputable def fn_nearest:Fn:=⟨"nearest",2,5,
 (.cons (.set 2 (.call "plain" (.cons (.var 0) .nil)))
 (.cons (.set 3 (.call "numbered_from" (.cons (.var 1) (.cons (.op .len (.cons (.call "gaps" (.cons (.var 0) .nil)) .nil)) .nil))))
 (.cons (.set 4 (.call "leaders_of" (.cons (.var 2) (.cons (.var 3) .nil))))
 (.cons (.ite (.op .isN (.cons (.var 4) (.cons (.con .non) .nil))) (.cons (.ret (.con .non))
 .nil) .nil)
 (.cons (.ret (.call "made_whole" (.cons (.var 2) (.cons (.var 4) (.cons (.op .dtg0 .nil) (.cons (.op .dct0 .nil) .nil))))))
 .nil)))))⟩
section
variable (h1:look P "is_gap"=some fn_is_gap)(h2:look P "parts_of"=some fn_parts_of)(h3:look P "signs_of"=some fn_signs_of)(h4:look P "gaps"=some fn_gaps)(h5:look P "filled"=some fn_filled)(h6:look P "numbered_from"=some fn_numbered_from)(h7:look P "plain"=some fn_plain)
 (h8:look P "of_one_kind"=some fn_of_one_kind) (h9:look P "leader_of"=some fn_leader_of) (h10:look P "leaders_of"=some fn_leaders_of) (h11:look P "made_whole"=some fn_made_whole) (h12:look P "nearest"=some fn_nearest)
include h1 h2 h3 h4 h5 h6 h7 h8 h9 h10 h11 h12
end
end MP
namespace MP
noncomputable def leafF:List Nat->Option F
 |63::ds=>if digs ds then some (.gap (valD ds)) else none
 |w=>if wordB w then some (.tie w []) else none
structure DS where
 pile:List (List Nat × List F)
 word:List Nat
 done:Option F
noncomputable def pendF(s:DS):Option F:=match s.done with
 |some f=>some f
 |none=>leafF s.word
noncomputable def dstep(s:DS)(c:Nat):Option DS :=
 if c=40 then (if s.done.isSome || !wordB s.word then none else some ⟨(s.word,[])::s.pile,[],none⟩)
 else if c=44\/c=41 then (match pendF s,s.pile with
  |some f,(w,ps)::r=>if r=[]/\c=44 then none else if c=44 then some ⟨(w,ps++[f])::r,[],none⟩
   else if 4<ps.length+1 then none else if r=[] then some ⟨[],[],(ps++[f]).head?⟩ else some ⟨r,[],some (.tie w (ps++[f]))⟩
  |_,_=>none)
 else if s.done.isSome then none else some ⟨s.pile,s.word++[c],none⟩
noncomputable def drun:DS->List Nat->Option DS
 |s,[]=>some s
 |s,c::r=>match dstep s c with
  |some s'=>drun s' r
  |none=>none
noncomputable def ds0:DS:=⟨[([],[])],[],none⟩
noncomputable def dueT(x:List Nat):Option F:=match drun ds0 (x++[41]) with
 |some s=>if s.pile=[] then s.done else none
 |none=>none
theorem drun_app:∀ (u:List Nat) (s:DS) (r:List Nat),drun s (u++r)=match drun s u with|some s'=>drun s' r|none=>none
 | [],s,r=>rfl
 |c::u,s,r=>by
  simp only[List.cons_append,drun]
  cases dstep s c with
  |none=>rfl
  |some s'=>exact drun_app u s' r
theorem wordB_iff{w:List Nat}:wordB w=true↔MP.word w:=by
 unfold wordB MP.word
 simp only[Bool.and_eq_true,decide_eq_true_eq,List.all_eq_true]
 constructor
 ·rintro⟨⟨h1,h2⟩,h3⟩
  exact⟨fun z=>by simp[z] at h1,h2,h3⟩
 ·rintro⟨h1,h2,h3⟩
  refine⟨⟨?_,h2⟩,h3⟩
  cases w with
  |nil=>exact absurd rfl h1
  |cons _ _=>simp
theorem digs_in{ds:List Nat}(h:digs ds=true):ds ≠ []/\(∀ c∈ds,c∈d09)/\ds.length<=3:=by
 simp only[digs,Bool.and_eq_true,Bool.not_eq_true',List.isEmpty_eq_false_iff,List.all_eq_true,decide_eq_true_eq] at h
 obtain⟨⟨⟨h1,h2⟩,_⟩,h3⟩:=h
 exact⟨h1,fun c m=>by simpa using h2 c m,h3⟩
theorem digs1:∀ a∈d09,digs [a]=true->dec (valD [a])=[a]/\0<=valD [a]/\valD [a]<1000:=by decide +kernel
theorem digs2:∀ a∈d09,∀ b∈d09,digs [a,b]=true->dec (valD [a,b])=[a,b]/\0<=valD [a,b]/\valD [a,b]<1000:=by decide +kernel
theorem digs3:∀ a∈d09,∀ b∈d09,∀ c∈d09,digs [a,b,c]=true->dec (valD [a,b,c])=[a,b,c]/\0<=valD [a,b,c]/\valD [a,b,c]<1000:=by decide +kernel
theorem digs_dec{ds:List Nat}(h:digs ds=true):dec (valD ds)=ds/\0<=valD ds/\valD ds<1000:=by
 obtain⟨h1,h2,h3⟩:=digs_in h
 match ds,h,h1,h2,h3 with
 | [a],h,_,h2,_=>exact digs1 a (h2 a (by simp)) h
 | [a,b],h,_,h2,_=>exact digs2 a (h2 a (by simp)) b (h2 b (by simp)) h
 | [a,b,c],h,_,h2,_=>exact digs3 a (h2 a (by simp)) b (h2 b (by simp)) c (h2 c (by simp)) h
 |_::_::_::_::_,_,_,_,h3=>simp at h3
theorem leaf_shw{w:List Nat}{f:F}(h:leafF w=some f):Wf f/\shw f=w:=by
 unfold leafF at h
 split at h
 ·rename_i ds
  split at h
  ·rename_i hd
   cases h
   obtain⟨a,b,c⟩:=digs_dec hd
   exact⟨⟨b,c⟩,by simp[shw,a]⟩
  ·cases h
 ·rename_i hn
  split at h
  ·rename_i hw
   cases h
   exact⟨⟨wordB_iff.mp hw,by simp,trivial⟩,by simp[shw]⟩
  ·cases h
noncomputable def preT:List F->List Nat
 | []=>[]
 |p::r=>shw p++44::preT r
theorem preT_snoc:∀ (ps:List F) (f:F),preT (ps++[f])=preT ps++shw f++[44]
 | [],f=>by simp[preT]
 |p::r,f=>by simp[preT,preT_snoc r f]
theorem join_pre:∀ (ps:List F) (f:F),joinL [44] (shws (ps++[f]))=preT ps++shw f
 | [],f=>by simp[shws,joinL,preT]
 | [p],f=>by simp[shws,joinL,preT]
 |p::q::r,f=>by
  have ih:=join_pre (q::r) f
  simp only[List.cons_append,shws] at ih ⊢
  simp[joinL,preT,ih]
theorem shw_tie(w:List Nat)(ps:List F)(f:F):shw (.tie w (ps++[f]))=w++40::(preT ps++shw f++[41]):=by
 have h:=join_pre ps f
 cases ps with
 |nil=>simp[shw,shws,joinL,preT] at h ⊢
 |cons p r =>
  simp only[List.cons_append] at h ⊢
  simp[shw,h]
noncomputable def pileT:List (List Nat × List F)->List Nat
 | []=>[]
 |e::r=>if r=[] then [] else pileT r++e.1++40::preT e.2
noncomputable def pileOk:List (List Nat × List F)->Prop
 | []=>True
 |e::r=>if r=[] then e=([],[]) else MP.word e.1/\Wfs e.2/\pileOk r
structure DI(s:DS)(u:List Nat):Prop where
 up:s.pile ≠ []->u=pileT s.pile++(match s.done with|some f=>shw f|none=>s.word)
 ok:pileOk s.pile
 dn:∀ f,s.done=some f->Wf f/\s.word=[]
 em:s.pile=[]->s.done.isSome=true
theorem pend_shw{s:DS}{u:List Nat}{f:F}(I:DI s u)(h:pendF s=some f):Wf f/\(match s.done with|some f=>shw f|none=>s.word)=shw f:=by
 unfold pendF at h
 cases hd:s.done with
 |some g =>
  rw[hd] at h
  cases h
  exact⟨(I.dn f hd).1,rfl⟩
 |none =>
  rw[hd] at h
  obtain⟨a,b⟩:=leaf_shw h
  exact⟨a,b.symm⟩
theorem Wfs_snoc{ps:List F}{f:F}(h:Wfs ps)(hf:Wf f):Wfs (ps++[f]):=Wfs_iff.mpr fun x m=>by
 rcases List.mem_append.mp m with m|m
 ·exact Wfs_iff.mp h x m
 ·rw[List.mem_singleton.mp m];exact hf
theorem dstep_inv{s s':DS}{u:List Nat}{c:Nat}(I:DI s u)(h:dstep s c=some s'):s.pile ≠ []/\DI s' (u++[c]):=by
 unfold dstep at h
 by_cases c1:c=40
 ·subst c1
  simp only[if_true] at h
  split at h
  ·cases h
  ·rename_i hc
   cases h
   simp only[Bool.or_eq_true,Bool.not_eq_true',not_or,Bool.not_eq_false,Bool.not_eq_true,Option.isSome_eq_false_iff,Option.isNone_iff_eq_none] at hc
   have hp:s.pile ≠ []:=fun z=>by
    have:=I.em z
    rw[hc.1] at this
    cases this
   have hu:=I.up hp
   rw[hc.1] at hu
   refine⟨hp,⟨fun _ => ?_,?_,fun f z=>(by cases z),fun z=>(by cases z)⟩⟩
   ·rw[hu]
    simp[pileT,hp,preT]
   ·simp only[pileOk,hp,if_false]
    exact⟨wordB_iff.mp hc.2,trivial,I.ok⟩
 ·rw[if_neg c1] at h
  by_cases c2:c=44\/c=41
  ·rw[if_pos c2] at h
   cases hf:pendF s with
   |none=>rw[hf] at h;cases h
   |some f =>
    rw[hf] at h
    obtain⟨wf,et⟩:=pend_shw I hf
    obtain⟨pile,word,done⟩:=s
    cases pile with
    |nil=>cases h
    |cons e r =>
     obtain⟨w,ps⟩:=e
     have hu:=I.up (by simp)
     simp only at hu et
     rw[et] at hu
     have ok:=I.ok
     simp only at h
     refine⟨by simp,?_⟩
     by_cases hr:r=[]
     ·subst hr
      simp only[pileOk,if_true] at ok
      cases ok
      simp only[true_and] at h
      by_cases c3:c=44
      ·rw[if_pos c3] at h;cases h
      ·rw[if_neg c3,if_neg c3] at h
       simp at h
       cases h
       exact⟨fun z=>absurd rfl z,trivial,fun g z=>(by cases z;exact⟨wf,rfl⟩),fun _=>rfl⟩
     ·simp only[pileOk,hr,if_false] at ok
      simp only[hr,false_and,if_false] at h
      simp only[pileT,hr,if_false] at hu
      by_cases c3:c=44
      ·rw[if_pos c3] at h
       cases h
       subst c3
       refine⟨fun _ => ?_,?_,fun g z=>(by cases z),fun z=>(by cases z)⟩
       ·rw[hu]
        simp[pileT,hr,preT_snoc]
       ·simp only[pileOk,hr,if_false]
        exact⟨ok.1,Wfs_snoc ok.2.1 wf,ok.2.2⟩
      ·rw[if_neg c3] at h
       have c4:c=41:=c2.resolve_left c3
       subst c4
       split at h
       ·cases h
       ·rename_i hl
        cases h
        refine⟨fun _ => ?_,ok.2.2,fun g z => ?_,fun z=>absurd z hr⟩
        ·rw[hu]
         simp[shw_tie]
        ·cases z
         exact⟨⟨ok.1,by simp;omega,Wfs_snoc ok.2.1 wf⟩,rfl⟩
  ·rw[if_neg c2] at h
   split at h
   ·cases h
   ·rename_i hc
    cases h
    have hd:s.done=none:=by simpa using hc
    have hp:s.pile ≠ []:=fun z=>by
     have:=I.em z
     rw[hd] at this
     cases this
    have hu:=I.up hp
    rw[hd] at hu
    refine⟨hp,⟨fun _ => ?_,I.ok,fun f z=>(by cases z),fun z=>absurd z hp⟩⟩
    rw[hu]
    simp
theorem drun_inv:∀ (r:List Nat) {s s':DS} {u:List Nat},DI s u->drun s r=some s'->DI s' (u++r)
 | [],s,s',u,I,h=>by cases h;simpa using I
 |c::r,s,s',u,I,h=>by
  simp only[drun] at h
  cases e:dstep s c with
  |none=>rw[e] at h;cases h
  |some s1 =>
   rw[e] at h
   have:=drun_inv r (dstep_inv I e).2 h
   simpa using this
theorem di0:DI ds0 []:=⟨fun _=>by simp[ds0,pileT],by simp[ds0,pileOk],fun f z=>(by cases z),fun z=>(by cases z)⟩
theorem due_is{x:List Nat}{f:F}(h:dueT x=some f):Wf f/\x=shw f:=by
 unfold dueT at h
 rw[drun_app] at h
 cases e:drun ds0 x with
 |none=>rw[e] at h;cases h
 |some s =>
  rw[e] at h
  have I:=drun_inv x di0 e
  rw[List.nil_append] at I
  simp only[drun] at h
  cases e2:dstep s 41 with
  |none=>rw[e2] at h;cases h
  |some s2 =>
   rw[e2] at h
   simp only at h
   split at h
   ·rename_i hp
    unfold dstep at e2
    rw[if_neg (by decide),if_pos (.inr rfl)] at e2
    cases hf:pendF s with
    |none=>rw[hf] at e2;cases e2
    |some g =>
     rw[hf] at e2
     obtain⟨wf,et⟩:=pend_shw I hf
     obtain⟨pile,word,done⟩:=s
     cases pile with
     |nil=>cases e2
     |cons e0 r =>
      obtain⟨w,ps⟩:=e0
      have hu:=I.up (by simp)
      simp only at hu et
      rw[et] at hu
      have ok:=I.ok
      simp only at e2
      by_cases hr:r=[]
      ·subst hr
       simp only[pileOk,if_true] at ok
       cases ok
       simp at e2
       cases e2
       cases h
       exact⟨wf,by simpa[pileT] using hu⟩
      ·simp only[hr,false_and,if_false] at e2
       rw[if_neg (by decide)] at e2
       split at e2
       ·cases e2
       ·cases e2
        exact absurd hp hr
   ·cases h
theorem word_run{pile:List (List Nat × List F)}:∀ (u:List Nat) (w r:List Nat),(∀ c∈u,c≠40/\c≠44/\c≠41)->drun ⟨pile,w,none⟩ (u++r)=drun ⟨pile,w++u,none⟩ r
 | [],w,r,_=>by simp
 |c::u,w,r,h=>by
  obtain⟨h1,h2,h3⟩:=h c List.mem_cons_self
  have e:dstep ⟨pile,w,none⟩ c=some ⟨pile,w++[c],none⟩:=by
   unfold dstep
   rw[if_neg h1,if_neg (by simp[h2,h3])]
   rfl
  have ih:=word_run (pile:=pile) u (w++[c]) r fun d m=>h d (List.mem_cons_of_mem _ m)
  simp only[List.cons_append,drun,e,ih,List.append_assoc,List.nil_append]
theorem word_chars{w:List Nat}(h:MP.word w):∀ c∈w,c≠40/\c≠44/\c≠41:=fun c m=>by
 have:=h.2.2 c m
 refine⟨fun z => ?_,fun z => ?_,fun z => ?_⟩<;>(subst z;revert this;decide)
theorem dec_chars{n:Int}(h0:0<=n)(h1:n<1000):∀ c∈dec n,c≠40/\c≠44/\c≠41:=fun c m=>by
 have:=(digs_in (dec_digs h0 h1).1).2.1 c m
 refine⟨fun z => ?_,fun z => ?_,fun z => ?_⟩<;>(subst z;revert this;decide)
theorem leaf_word{w:List Nat}(h:MP.word w):leafF w=some (.tie w []):=by
 obtain⟨c,r,rfl,hc⟩:=word_head h
 unfold leafF
 split
 ·rename_i ds e
  cases e
  exact absurd rfl hc
 ·rw[if_pos (wordB_iff.mpr h)]
theorem leaf_gap{n:Int}(h0:0<=n)(h1:n<1000):leafF (63::dec n)=some (.gap n):=by
 obtain⟨a,b⟩:=dec_digs h0 h1
 simp[leafF,a,b]
mutual
theorem due_run:∀ (f:F),Wf f->∀ (pile:List (List Nat × List F)) (r:List Nat),pile ≠ []->∃ s,s.pile=pile/\pendF s=some f/\drun ⟨pile,[],none⟩ (shw f++r)=drun s r
 | .gap n,h,pile,r,_=>by
  refine⟨⟨pile,63::dec n,none⟩,rfl,leaf_gap h.1 h.2,?_⟩
  have:=word_run (pile:=pile) (63::dec n) [] r (fun c m=>by
   rcases List.mem_cons.mp m with z|z
   ·subst z;decide
   ·exact dec_chars h.1 h.2 c z)
  simpa[shw] using this
 | .tie w [],h,pile,r,_=>by
  refine⟨⟨pile,w,none⟩,rfl,leaf_word h.1,?_⟩
  have:=word_run (pile:=pile) w [] r (word_chars h.1)
  simpa[shw] using this
 | .tie w (p::ps),h,pile,r,hp=>by
  refine⟨⟨pile,[],some (.tie w (p::ps))⟩,rfl,rfl,?_⟩
  have e1:=word_run (pile:=pile) w [] (40::(joinL [44] (shws (p::ps))++41::r)) (word_chars h.1)
  have e2:dstep ⟨pile,w,none⟩ 40=some ⟨(w,[])::pile,[],none⟩:=by
   unfold dstep
   simp[wordB_iff.mpr h.1]
  have e4:shw (.tie w (p::ps))++r=w++40::(joinL [44] (shws (p::ps))++41::r):=by simp[shw]
  rw[e4,e1]
  simp only[List.nil_append,drun,e2]
  have:=due_runs (p::ps) h.2.2 (by simp) w [] pile r hp (by simpa using h.2.1)
  simpa using this
theorem due_runs:∀ (ps:List F),Wfs ps->ps ≠ []->∀ (w:List Nat) (acc:List F) (pile:List (List Nat × List F)) (r:List Nat),pile ≠ []->acc.length+ps.length<=4 →
 drun ⟨(w,acc)::pile,[],none⟩ (joinL [44] (shws ps)++41::r)=drun ⟨pile,[],some (.tie w (acc++ps))⟩ r
 | [],_,h,_,_,_,_,_,_=>absurd rfl h
 | [p],hw,_,w,acc,pile,r,hp,hl=>by
  obtain⟨s,h1,h2,h3⟩:=due_run p hw.1 ((w,acc)::pile) (41::r) (by simp)
  have e:dstep s 41=some ⟨pile,[],some (.tie w (acc++[p]))⟩:=by
   unfold dstep
   simp only[List.length_singleton] at hl
   rw[if_neg (by decide),if_pos (.inr rfl),h2,h1]
   simp[hp]
   omega
  simp only[shws,joinL,h3,drun,e]
 |p::q::ps,hw,_,w,acc,pile,r,hp,hl=>by
  obtain⟨s,h1,h2,h3⟩:=due_run p hw.1 ((w,acc)::pile) (44::(joinL [44] (shws (q::ps))++41::r)) (by simp)
  have e:dstep s 44=some ⟨(w,acc++[p])::pile,[],none⟩:=by
   unfold dstep
   rw[if_neg (by decide),if_pos (.inl rfl),h2,h1]
   simp[hp]
  have ih:=due_runs (q::ps) hw.2 (by simp) w (acc++[p]) pile r hp (by simp at hl ⊢;omega)
  have ej:joinL [44] (shws (p::q::ps))++41::r=shw p++44::(joinL [44] (shws (q::ps))++41::r):=by simp[shws,joinL]
  rw[ej,h3]
  simp only[drun,e,ih,List.append_assoc,List.singleton_append]
end
theorem due_shw{f:F}(h:Wf f):dueT (shw f)=some f:=by
 obtain⟨s,h1,h2,h3⟩:=due_run f h [([],[])] [41] (by simp)
 have e:dstep s 41=some ⟨[],[],some f⟩:=by
  unfold dstep
  rw[if_neg (by decide),if_pos (.inr rfl),h2,h1]
  simp
 unfold dueT ds0
 rw[h3]
 simp[drun,e]
theorem due_iff{x:List Nat}{f:F}:dueT x=some f↔Wf f/\x=shw f:=⟨due_is,fun⟨a,b⟩=>by rw[b];exact due_shw a⟩
end MP
namespace MP
variable {P:List Fn}{W:Nat}
noncomputable def isD(c:Nat):Bool:=d09.contains c
noncomputable def isL(c:Nat):Bool:=az.contains c
noncomputable def canon(ds:List Nat):Prop:=ds ≠ []/\(∀ c∈ds,isD c=true)/\(([48]:List Nat).isPrefixOf ds=true->ds=[48])
theorem isD_iff{c:Nat}:isD c=true↔48<=c/\c<=57:=by
 simp only[isD,d09,List.contains_iff_mem,List.mem_cons,List.not_mem_nil,or_false]
 omega
noncomputable def vN(ds:List Nat):Nat:=ds.foldl (fun a c=>a*10+(c-48)) 0
theorem vN_snoc(ds:List Nat)(c:Nat):vN (ds++[c])=vN ds*10+(c-48):=by simp[vN,List.foldl_append]
theorem valD_vN(ds:List Nat):valD ds=(vN ds:Int):=rfl
theorem vN_pos:∀ {ds:List Nat} {c:Nat},48<c->(∀ d∈ds,isD d=true)->0<vN (c::ds):=by
 intro ds c hc
 have:∀ (l:List Nat) (a:Nat),0<a->0<l.foldl (fun a c=>a*10+(c-48)) a:=fun l=>by
  induction l with
  |nil=>intro a h;exact h
  |cons x r ih=>intro a h;exact ih _ (by show 0<a*10+(x-48);omega)
 intro _
 exact this ds _ (by show 0<0*10+(c-48);omega)
theorem dig_one{c:Nat}(h:isD c=true):(Nat.toDigits 10 (c-48)).map Char.toNat=[c]:=by
 rw[isD_iff] at h
 rw[Nat.toDigits_of_lt_base (by omega)]
 simp only[List.map_cons,List.map_nil,List.cons.injEq,and_true]
 rw[Nat.toNat_digitChar_of_lt_ten (by omega)]
 omega
theorem dig_all:∀ (n:Nat) (ds:List Nat),ds.length=n->canon ds->(Nat.toDigits 10 (vN ds)).map Char.toNat=ds/\vN ds<10 ^ ds.length
 |0,ds,hl,h=>absurd (List.length_eq_zero_iff.mp hl) h.1
 |n+1,ds,hl,h=>by
  obtain⟨h1,h2,h3⟩:=h
  have e:=List.dropLast_concat_getLast h1
  generalize hi:ds.dropLast=is at e
  generalize hc:ds.getLast h1=c at e
  have dc:isD c=true:=h2 c (by rw[← e];simp)
  have dc':=isD_iff.mp dc
  cases is with
  |nil =>
   rw[List.nil_append] at e
   rw[← e]
   have:vN [c]=c-48:=by simp[vN]
   rw[this]
   exact⟨dig_one dc,by simp;omega⟩
  |cons b r =>
   have hb:isD b=true:=h2 b (by rw[← e];simp)
   have hb':=isD_iff.mp hb
   have hb8:b≠48:=fun z=>by
    have:=h3 (by rw[← e,z];rfl)
    rw[← e] at this
    simp at this
   have cn:canon (b::r):=⟨by simp,fun d m=>h2 d (by rw[← e];exact List.mem_append_left _ m),fun z=>by
    simp[List.isPrefixOf] at z
    exact absurd z.symm hb8⟩
   have ln:(b::r).length=n:=by
    have:=congrArg List.length e
    simp at this hl ⊢
    omega
   obtain⟨i1,i2⟩:=dig_all n (b::r) ln cn
   have pos:=vN_pos (ds:=r) (c:=b) (by omega) fun d m=>cn.2.1 d (List.mem_cons_of_mem _ m)
   rw[← e,vN_snoc]
   have ta:=Nat.toDigits_append_toDigits (b:=10) (n:=vN (b::r)) (d:=c-48) (by omega) pos (by omega)
   rw[show vN (b::r)*10+(c-48)=10*vN (b::r)+(c-48) by omega, ← ta,List.map_append,i1,dig_one dc]
   refine⟨rfl,?_⟩
   simp only[List.length_append,List.length_singleton,Nat.pow_succ]
   omega
theorem canon_dec{ds:List Nat}(h:canon ds)(hl:ds.length<=9):dec (valD ds)=ds/\0<=valD ds/\valD ds<1000000000:=by
 obtain⟨a,b⟩:=dig_all ds.length ds rfl h
 have hp:10 ^ ds.length<=10 ^ 9:=Nat.pow_le_pow_right (by omega) hl
 refine⟨?_,by rw[valD_vN];omega,by rw[valD_vN];omega⟩
 rw[dec_nat (by rw[valD_vN];omega),valD_vN]
 exact a
mutual
noncomputable def Gf:F->Prop
 | .gap n=>0<=n
 | .tie w ps=>w ≠ []/\(∀ c∈w,isL c=true)/\Gfs ps
noncomputable def Gfs:List F->Prop
 | []=>True
 |x::r=>Gf x/\Gfs r
end
theorem span_split(p:Nat->Bool)(x:List Nat):x=x.takeWhile p++x.dropWhile p:=(List.takeWhile_append_dropWhile).symm
theorem tw_all(p:Nat->Bool)(x:List Nat):∀ c∈x.takeWhile p,p c=true:=fun c m=>by
 have:=List.all_takeWhile (p:=p) (l:=x)
 exact List.all_eq_true.mp this c m
theorem dw_head(p:Nat->Bool):∀ (x:List Nat) (c:Nat) (r:List Nat),x.dropWhile p=c::r->p c=false
 | [],c,r,h=>by simp at h
 |y::t,c,r,h=>by
  rw[List.dropWhile_cons] at h
  split at h
  ·exact dw_head p t c r h
  ·rename_i hp
   cases h
   simpa using hp
noncomputable def DR(k:Nat)(x:List Nat):Prop:=∀ j,((x.drop j).takeWhile isD).length<=k
theorem tw_len(p:Nat->Bool)(x:List Nat):(x.takeWhile p).length<=x.length:=by
 exact(List.takeWhile_prefix p).length_le
noncomputable def Told(x:List Nat)(j:Nat)(σ:Store)(r:Res R):Prop :=
 (∃ f e,r = .ok (.g (.tup [enc f,.int (e:Nat)])) σ/\x.drop j=shw f++x.drop e/\j<e/\e<=x.length/\Gf f)\/r = .exc "BadNote" σ
theorem read_gap_any(h1:look P "run_end"=some fn_run_end)(h2:look P "read_gap"=some fn_read_gap){k:Nat}{x:List Nat}{j:Nat}(σ:Store)(hx:x[j]?=some 63)(hr:DR 9 x)(hW:x.length<W) :
 Told x j σ (run P W (k+2) "read_gap" [.g (.str x),.g (.int ((j+1:Nat):Int))] σ):=by
 have hj:j<x.length:=(List.getElem?_eq_some_iff.mp hx).1
 have hd0:x.drop j=63::x.drop (j+1):=by
  rw[List.drop_eq_getElem_cons hj]
  have:=List.getElem?_eq_getElem hj
  rw[hx] at this
  rw[← Option.some.inj this]
 have hsp:=span_split isD (x.drop (j+1))
 have hl9:=hr (j+1)
 have hln:=tw_len isD (x.drop (j+1))
 generalize hds:(x.drop (j+1)).takeWhile isD=ds at hsp hl9 hln
 generalize hpo:(x.drop (j+1)).dropWhile isD=post at hsp
 have hdl:(x.drop (j+1)).length=x.length-(j+1):=List.length_drop
 have dgs:∀ c∈ds,isD c=true:=by rw[← hds];exact tw_all isD _
 have e1:=run_run_end (W:=W) (P:=P) h1 (k:=k) (x:=x) (y:=d09) (rn:=ds) (post:=post) (j:=j+1) σ hsp dgs (fun c r z=>by rw[← hpo] at z;exact dw_head isD _ c r z) (by omega)
 have cu:prim .cutS [.g (.str x),.g (.int ((j+1:Nat):Int)),.g (.int ((j+1+ds.length:Nat):Int))] σ = .ok (.g (.str ds)) σ:=by
  rw[p_cutS (by omega),take_drop_run hsp]
 rw[run_call h2 _ _ _ rfl]
 generalize run P W (k+1)=cl at e1
 have ee:∀ τ,prim .eq [.g (.str ds),.g (.str [])] τ = .ok (.g (.bl (decide (ds=[])))) τ:=fun τ=>by rw[p_eq _ rfl];cases ds<;>rfl
 have es:∀ τ,prim .starts [.g (.str ds),.g (.str [48])] τ = .ok (.g (.bl (([48]:List Nat).isPrefixOf ds))) τ:=fun τ=>rfl
 have en:∀ τ,prim .ne [.g (.str ds),.g (.str [48])] τ = .ok (.g (.bl (!(ds == [48])))) τ:=fun τ=>by rw[p_ne _ rfl];rfl
 by_cases c1:ds=[]
 ·right
  rw[c1] at ee cu e1
  generalize ((j+1+([]:List Nat).length:Nat):Int)=E at *
  generalize ((j+1:Nat):Int)=J at *
  simp[fn_read_gap,setSlot,e1,cu,ee]
 ·by_cases c2:([48]:List Nat).isPrefixOf ds=true/\ds ≠ [48]
  ·right
   have c5:(ds == [48])=false:=by simpa using c2.2
   rw[c5] at en
   rw[c2.1] at es
   generalize ((j+1+ds.length:Nat):Int)=E at *
   generalize ((j+1:Nat):Int)=J at *
   simp[fn_read_gap,setSlot,e1,cu,ee,c1,kM1_ok _ _ (recv_starts _),es,en]
  ·left
   have cn:canon ds:=⟨c1,dgs,fun z=>by
    by_cases q:ds=[48]
    ·exact q
    ·exact absurd ⟨z,q⟩ c2⟩
   obtain⟨d1,d2,d3⟩:=canon_dec cn hl9
   have io:∀ τ,prim .intOf [.g (.str ds)] τ = .ok (.g (.int (valD ds))) τ:=fun τ=>by simp[prim,pIntOf,d1,d3,okG]
   have hdr:x.drop (j+1+ds.length)=post:=drop_app hsp
   refine⟨.gap (valD ds),j+1+ds.length,?_,?_,by omega,by omega,d2⟩
   ·by_cases c3:([48]:List Nat).isPrefixOf ds=true
    ·have c4:ds=[48]:=cn.2.2 c3
     clear es en
     rw[c4] at e1 cu io ee ⊢
     have es:∀ τ,prim .starts [.g (.str [48]),.g (.str [48])] τ = .ok (.g (.bl true)) τ:=fun τ=>rfl
     have en:∀ τ,prim .ne [.g (.str [48]),.g (.str [48])] τ = .ok (.g (.bl false)) τ:=fun τ=>rfl
     generalize ((j+1+([48]:List Nat).length:Nat):Int)=E at *
     generalize ((j+1:Nat):Int)=J at *
     simp[fn_read_gap,setSlot,e1,cu,ee,kM1_ok _ _ (recv_starts _),es,en,io,p_tup,mkTup,allG,enc]
    ·have c3':([48]:List Nat).isPrefixOf ds=false:=Bool.eq_false_iff.mpr c3
     rw[c3'] at es
     generalize ((j+1+ds.length:Nat):Int)=E at *
     generalize ((j+1:Nat):Int)=J at *
     simp[fn_read_gap,setSlot,e1,cu,ee,c1,kM1_ok _ _ (recv_starts _),es,io,p_tup,mkTup,allG,enc]
   ·rw[hd0,hsp,hdr]
    simp[shw,d1]
theorem count_drop{x:List Nat}{i j:Nat}(h:i<=j):(x.drop j).count 40<=(x.drop i).count 40:=by
 have e:x.drop j=(x.drop i).drop (j-i):=by rw[List.drop_drop];congr 1;omega
 rw[e]
 exact(List.drop_sublist _ _).count_le 40
noncomputable def ToldP(x:List Nat)(j:Nat)(σ:Store)(acc:List F)(r:Res Out):Prop :=
 (∃ ps e τ,r = .ok (.ret (.g (.tup [.tup ((acc++ps).map enc),.int (e:Nat)]))) (σ++τ)/\ps ≠ []/\x.drop j=joinL [44] (shws ps)++41::x.drop e/\j<e/\e<=x.length/\Gfs ps)\/∃ τ,r = .ok (.exc "BadNote") (σ++τ)
theorem parts_any{cl:CallH}{x:List Nat}{σ:Store}{e1:Option R}{c:Nat}(hb:x.length<1000)(hs:∀ (i:Nat) (τ:Store),cl "sign_at" [.g (.str x),.g (.int i)] τ = .ok (.g (.str ((x.drop i).take 1))) τ)
 (hf:∀ (j:Nat) (τ:Store),j<=x.length->(x.drop j).count 40<=c->Told x j τ (cl "read_form" [.g (.str x),.g (.int j)] τ)) :
 ∀ (n j:Nat) (acc:List F) (o4 o5:Option R),j<=x.length->x.length-j<n->(x.drop j).count 40<=c->acc.length+n<=3000 →
  ToldP x j σ acc (whileL (ev cl true (.con (.bl true))) (evB cl W rpB) n [some (.g (.str x)),e1,some (.ref σ.length),some (.g (.int j)),o4,o5] (σ++[.lst (acc.map enc)]))
 |0,j,acc,o4,o5,hj,hn,hc,ha=>by omega
 |n+1,j,acc,o4,o5,hj,hn,hc,ha=>by
  have tt:ev cl true (.con (.bl true)) [some (.g (.str x)),e1,some (.ref σ.length),some (.g (.int j)),o4,o5] (σ++[.lst (acc.map enc)]) = .ok (.g (.bl true)) (σ++[.lst (acc.map enc)]):=by rw[ev_con];rfl
  rcases hf j (σ++[.lst (acc.map enc)]) hj hc with⟨f,e,h1,h2,h3,h4,h5⟩|h1
  ·have hg:(σ++[Cell.lst (acc.map enc)])[σ.length]?=some (.lst (acc.map enc)):=by simp
   have ap:prim .append [.ref σ.length,.g (enc f)] (σ++[.lst (acc.map enc)]) = .ok (.g .non) (σ++[.lst ((acc++[f]).map enc)]):=by
    rw[p_append hg (by simp[big];omega)];simp
   have rc:=recv_append hg
   have s:=hs e (σ++[.lst ((acc++[f]).map enc)])
   have tl:prim .tupleOf [.ref σ.length] (σ++[.lst ((acc++[f]).map enc)]) = .ok (.g (.tup ((acc++[f]).map enc))) (σ++[.lst ((acc++[f]).map enc)]):=p_tupleL (by simp)
   cases hx:x.drop e with
   |nil =>
    rw[hx] at s
    right
    refine⟨[.lst ((acc++[f]).map enc)],?_⟩
    have s':cl "sign_at" [.g (.str x),.g (.int (e:Nat))] (σ++[.lst ((acc++[f]).map enc)]) = .ok (.g (.str [])) (σ++[.lst ((acc++[f]).map enc)]):=s
    have t1:∀ τ,prim .eq [.g (.str []),.g (.str [41])] τ = .ok (.g (.bl false)) τ:=fun τ=>by rw[p_eq _ rfl];rfl
    have t2:∀ τ,prim .ne [.g (.str []),.g (.str [44])] τ = .ok (.g (.bl true)) τ:=fun τ=>by rw[p_ne _ rfl];rfl
    generalize ((e:Nat):Int)=E at *
    generalize Cell.lst ((acc++[f]).map enc)=A at *
    generalize Cell.lst (acc.map enc)=B at *
    rw[whileL,tt]
    simp[setSlot,h1,at_three,kM1_ok _ _ rc,ap,s',t1,t2]
   |cons d r =>
    rw[hx] at s
    have he:e<x.length:=by
     have:=congrArg List.length hx
     simp at this
     omega
    have hr:x.drop (e+1)=r:=(drop_cons hx).2.1
    have s':cl "sign_at" [.g (.str x),.g (.int (e:Nat))] (σ++[.lst ((acc++[f]).map enc)]) = .ok (.g (.str [d])) (σ++[.lst ((acc++[f]).map enc)]):=s
    have hE:((e+1:Nat):Int)=(e:Int)+1:=by omega
    by_cases d1:d=41
    ·left
     subst d1
     refine⟨[f],e+1,[.lst ((acc++[f]).map enc)],?_,by simp,?_,by omega,by omega,⟨h5,trivial⟩⟩
     ·have t1:∀ τ,prim .eq [.g (.str [41]),.g (.str [41])] τ = .ok (.g (.bl true)) τ:=fun τ=>by rw[p_eq _ rfl];rfl
      rw[hE]
      generalize ((e:Nat):Int)=E at *
      generalize hA:Cell.lst ((acc++[f]).map enc)=A at *
      generalize Cell.lst (acc.map enc)=B at *
      generalize (acc++[f]).map enc=ag at *
      rw[whileL,tt]
      simp[setSlot,h1,at_three,kM1_ok _ _ rc,ap,s',t1,tl,p_tup,mkTup,allG]
     ·rw[h2,hx,hr]
      simp[shws,joinL]
    ·have t1:∀ τ,prim .eq [.g (.str [d]),.g (.str [41])] τ = .ok (.g (.bl false)) τ:=fun τ=>by rw[p_eq _ rfl];simp[peq,d1]
     by_cases d2:d=44
     ·subst d2
      have t2:∀ τ,prim .ne [.g (.str [44]),.g (.str [44])] τ = .ok (.g (.bl false)) τ:=fun τ=>by rw[p_ne _ rfl];rfl
      have ih:=parts_any (σ:=σ) (e1:=e1) hb hs hf n (e+1) (acc++[f]) (some (.g (.tup [enc f,.int (e:Nat)]))) (some (.g (.str [44]))) (by omega) (by omega) (Nat.le_trans (count_drop (by omega)) hc) (by simp;omega)
      have step:whileL (ev cl true (.con (.bl true))) (evB cl W rpB) (n+1) [some (.g (.str x)),e1,some (.ref σ.length),some (.g (.int j)),o4,o5] (σ++[.lst (acc.map enc)])
       = whileL (ev cl true (.con (.bl true))) (evB cl W rpB) n [some (.g (.str x)),e1,some (.ref σ.length),some (.g (.int ((e+1:Nat):Int))),some (.g (.tup [enc f,.int (e:Nat)])),some (.g (.str [44]))] (σ++[.lst ((acc++[f]).map enc)]):=by
       refine whileL_next tt ?_
       rw[hE]
       generalize ((e:Nat):Int)=E at *
       generalize Cell.lst ((acc++[f]).map enc)=A at *
       generalize Cell.lst (acc.map enc)=B at *
       simp[setSlot,h1,at_three,kM1_ok _ _ rc,ap,s',t1,t2]
      rw[step]
      rcases ih with⟨ps,e',τ,q1,q2,q3,q4,q5,q6⟩ | ⟨τ,q1⟩
      ·left
       refine⟨f::ps,e',τ,by rw[q1];simp,by simp,?_,by omega,q5,⟨h5,q6⟩⟩
       rw[h2,hx, ← hr,q3]
       cases ps with
       |nil=>exact absurd rfl q2
       |cons p ps=>simp[shws,joinL]
      ·exact .inr ⟨τ,q1⟩
     ·right
      refine⟨[.lst ((acc++[f]).map enc)],?_⟩
      have t2:∀ τ,prim .ne [.g (.str [d]),.g (.str [44])] τ = .ok (.g (.bl true)) τ:=fun τ=>by rw[p_ne _ rfl];simp[peq,d2]
      generalize ((e:Nat):Int)=E at *
      generalize Cell.lst ((acc++[f]).map enc)=A at *
      generalize Cell.lst (acc.map enc)=B at *
      rw[whileL,tt]
      simp[setSlot,h1,at_three,kM1_ok _ _ rc,ap,s',t1,t2]
  ·right
   refine⟨[.lst (acc.map enc)],?_⟩
   rw[whileL,tt]
   simp[setSlot,h1]
theorem read_any(L:Rd P){x:List Nat}(hr:DR 9 x)(hb:x.length<1000)(hW:1000<=W)(hW2:W<=2000){d:Nat}:∀ (k j:Nat) (σ:Store),j<=x.length->(x.drop j).count 40<k->Told x j σ (run P W (d+3*k+2) "read_form" [.g (.str x),.g (.int j)] σ)
 |0,j,σ,hj,hc=>by omega
 |k+1,j,σ,hj,hc=>by
  have e0:=run_sign_at (W:=W) (P:=P) L.a (n:=d+3*k+3) (x:=x) (i:=j) σ
  rw[show d+3*(k+1)+2=d+3*k+4+1 by omega,run_call L.f _ _ _ rfl]
  by_cases c1:x[j]?=some 63
  ·have hjl:j<x.length:=(List.getElem?_eq_some_iff.mp c1).1
   have hd0:x.drop j=63::x.drop (j+1):=by
    rw[List.drop_eq_getElem_cons hjl]
    have:=List.getElem?_eq_getElem hjl
    rw[c1] at this
    rw[← Option.some.inj this]
   rw[hd0] at e0
   have e0':run P W (d+3*k+4) "sign_at" [.g (.str x),.g (.int j)] σ = .ok (.g (.str [63])) σ:=e0
   have t1:prim .eq [.g (.str [63]),.g (.str [63])] σ = .ok (.g (.bl true)) σ:=by rw[p_eq _ rfl];rfl
   have g:=read_gap_any (W:=W) L.b L.c (k:=d+3*k+2) σ c1 hr (by omega)
   have hE:((j+1:Nat):Int)=(j:Int)+1:=by omega
   rw[hE] at g
   rcases g with⟨f,e,h1,h2,h3,h4,h5⟩|h1
   ·refine .inl ⟨f,e,?_,h2,h3,h4,h5⟩
    generalize run P W (d+3*k+4)=cl at e0' h1
    generalize ((e:Nat):Int)=E at *
    simp[fn_read_form,e0',t1,h1]
   ·refine .inr ?_
    generalize run P W (d+3*k+4)=cl at e0' h1
    simp[fn_read_form,e0',t1,h1]
  ·have t1:prim .eq [.g (.str ((x.drop j).take 1)),.g (.str [63])] σ = .ok (.g (.bl false)) σ:=by
    rw[p_eq _ rfl]
    cases hx:x.drop j with
    |nil=>rfl
    |cons d r =>
     have:x[j]?=some d:=(drop_cons hx).1
     have:d≠63:=fun z=>c1 (by rw[this,z])
     simp[peq,this]
   have T:Told x j σ (run P W (d+3*k+4) "read_tie" [.g (.str x),.g (.int j)] σ):=by
    have hsp:=span_split isL (x.drop j)
    have hln:=tw_len isL (x.drop j)
    generalize hds:(x.drop j).takeWhile isL=w at hsp hln
    generalize hpo:(x.drop j).dropWhile isL=post at hsp
    have hdl:(x.drop j).length=x.length-j:=List.length_drop
    have lts:∀ c∈w,isL c=true:=by rw[← hds];exact tw_all isL _
    have eE:=run_run_end (W:=W) (P:=P) L.b (k:=d+3*k+2) (x:=x) (y:=az) (rn:=w) (post:=post) (j:=j) σ hsp lts (fun c r z=>by rw[← hpo] at z;exact dw_head isL _ c r z) (by omega)
    have cu:prim .cutS [.g (.str x),.g (.int (j:Nat)),.g (.int ((j+w.length:Nat):Int))] σ = .ok (.g (.str w)) σ:=by
     rw[p_cutS (by omega),take_drop_run hsp]
    have d1:=drop_app hsp
    have eS:=run_sign_at (W:=W) (P:=P) L.a (n:=d+3*k+2) (x:=x) (i:=j+w.length) σ
    rw[d1] at eS
    have ee:∀ τ,prim .eq [.g (.str w),.g (.str [])] τ = .ok (.g (.bl (decide (w=[])))) τ:=fun τ=>by rw[p_eq _ rfl];cases w<;>rfl
    rw[run_call L.d _ _ _ rfl]
    by_cases c2:w=[]
    ·right
     rw[c2] at ee cu eE
     generalize run P W (d+3*k+3)=cl at eE
     generalize ((j+([]:List Nat).length:Nat):Int)=E at *
     simp[fn_read_tie,setSlot,eE,cu,ee]
    ·by_cases c3:∃ r,post=40::r
     ·obtain⟨r,rfl⟩:=c3
      have eS':run P W (d+3*k+3) "sign_at" [.g (.str x),.g (.int ((j+w.length:Nat):Int))] σ = .ok (.g (.str [40])) σ:=eS
      have t3:prim .ne [.g (.str [40]),.g (.str [40])] σ = .ok (.g (.bl false)) σ:=by rw[p_ne _ rfl];rfl
      have hl2:j+w.length<x.length:=(drop_cons d1).2.2
      have d2:x.drop (j+w.length+1)=r:=(drop_cons d1).2.1
      have cnt:(x.drop (j+w.length+1)).count 40+1<=(x.drop j).count 40:=by
       have q:=count_drop (x:=x) (i:=j) (j:=j+w.length) (by omega)
       rw[d1] at q
       rw[d2]
       simpa using q
      have pa:=parts_any (W:=W) (cl:=run P W (d+3*k+2)) (σ:=σ) (e1:=some (.g (.int ((j+w.length+1:Nat):Int)))) (c:=k-1) hb (fun i τ=>run_sign_at L.a τ) (fun i τ hi hq=>by
       have:=cnt
       exact read_any L hr hb hW hW2 (d:=d) k i τ hi (by omega)) W (j+w.length+1) [] none none (by omega) (by omega) (by omega) (by simp;omega)
      have hj:((j+w.length+1:Nat):Int)=((j+w.length:Nat):Int)+1:=by omega
      have m0:mkLst [] = .lst []:=rfl
      simp only[List.map_nil,List.nil_append] at pa
      rcases pa with⟨ps,e,τ,q1,q2,q3,q4,q5,q6⟩ | ⟨τ,q1⟩
      ·have ePP:run P W (d+3*k+3) "read_parts" [.g (.str x),.g (.int ((j+w.length+1:Nat):Int))] σ = .ok (.g (.tup [.tup (ps.map enc),.int (e:Nat)])) σ:=by
        rw[run_call L.e _ _ _ rfl]
        generalize run P W (d+3*k+2)=cl at q1
        simp only[List.nil_append] at q1
        generalize ((j+w.length+1:Nat):Int)=E at *
        generalize ((e:Nat):Int)=E' at *
        generalize ps.map enc=pe at *
        simp[fn_read_parts,setSlot,p_lst,m0,evS_while,q1]
       refine .inl ⟨.tie w ps,e,?_,?_,by omega,q5,⟨c2,lts,q6⟩⟩
       ·rw[hj] at ePP
        generalize run P W (d+3*k+3)=cl at eE eS' ePP
        rw[enc,encs_map]
        generalize ((j+w.length:Nat):Int)=E at *
        generalize ((e:Nat):Int)=E' at *
        generalize ps.map enc=pe at *
        simp[fn_read_tie,setSlot,eE,cu,ee,c2,eS',t3,ePP,at_three,p_tup,mkTup,allG]
       ·rw[hsp, ← d2,q3]
        cases ps with
        |nil=>exact absurd rfl q2
        |cons p ps=>simp[shw]
      ·right
       have ePP:run P W (d+3*k+3) "read_parts" [.g (.str x),.g (.int ((j+w.length+1:Nat):Int))] σ = .exc "BadNote" σ:=by
        rw[run_call L.e _ _ _ rfl]
        generalize run P W (d+3*k+2)=cl at q1
        generalize ((j+w.length+1:Nat):Int)=E at *
        simp[fn_read_parts,setSlot,p_lst,m0,evS_while,q1]
       rw[hj] at ePP
       generalize run P W (d+3*k+3)=cl at eE eS' ePP
       generalize ((j+w.length:Nat):Int)=E at *
       simp[fn_read_tie,setSlot,eE,cu,ee,c2,eS',t3,ePP]
     ·left
      have t3:prim .ne [.g (.str (post.take 1)),.g (.str [40])] σ = .ok (.g (.bl true)) σ:=by
       rw[p_ne _ rfl]
       cases post with
       |nil=>rfl
       |cons d t =>
        have:d≠40:=fun z=>c3 ⟨t,by rw[z]⟩
        simp[peq,this]
      have hwl:0<w.length:=List.length_pos_iff.mpr c2
      refine⟨.tie w [],j+w.length,?_,?_,by omega,by omega,⟨c2,lts,trivial⟩⟩
      ·have eS':run P W (d+3*k+3) "sign_at" [.g (.str x),.g (.int ((j+w.length:Nat):Int))] σ = .ok (.g (.str (post.take 1))) σ:=eS
       generalize run P W (d+3*k+3)=cl at eE eS'
       generalize ((j+w.length:Nat):Int)=E at *
       generalize post.take 1=p1 at *
       simp[fn_read_tie,setSlot,eE,cu,ee,c2,eS',t3,p_tup,mkTup,allG,enc,encs]
      ·rw[hsp,d1]
       simp[shw]
   have e0':run P W (d+3*k+4) "sign_at" [.g (.str x),.g (.int j)] σ = .ok (.g (.str ((x.drop j).take 1))) σ:=e0
   rcases T with⟨f,e,h1,h2,h3,h4,h5⟩|h1
   ·refine .inl ⟨f,e,?_,h2,h3,h4,h5⟩
    generalize run P W (d+3*k+4)=cl at e0' h1
    generalize ((e:Nat):Int)=E at *
    simp[fn_read_form,e0',t1,h1]
   ·refine .inr ?_
    generalize run P W (d+3*k+4)=cl at e0' h1
    simp[fn_read_form,e0',t1,h1]
end MP
namespace MP
variable {P:List Fn}{W:Nat}
theorem join_count{c:Nat}{p:F}:∀ {ps:List F},p∈ps->(shw p).count c<=(joinL [44] (shws ps)).count c
 | [],h=>by simp at h
 | [q],h=>by
  rw[List.mem_singleton.mp h]
  simp[shws,joinL]
 |q::r::t,h=>by
  have e:joinL [44] (shws (q::r::t))=shw q++[44]++joinL [44] (shws (r::t)):=by simp[shws,joinL]
  rw[e]
  simp only[List.count_append]
  rcases List.mem_cons.mp h with rfl|h
  ·omega
  ·have:=join_count (c:=c) h
   omega
theorem join_len:∀ (ps:List F),lens (shws ps)<=(joinL [44] (shws ps)).length
 | []=>by simp[shws,lens,joinL]
 | [q]=>by simp[shws,lens,joinL]
 |q::r::t=>by
  have e:joinL [44] (shws (q::r::t))=shw q++[44]++joinL [44] (shws (r::t)):=by simp[shws,joinL]
  have ih:=join_len (r::t)
  rw[e]
  simp only[shws,lens,List.length_append] at ih ⊢
  omega
mutual
theorem dep_count:∀ {f:F},Gf f->dep f<=(shw f).count 40+1
 | .gap n,_=>by simp[dep]
 | .tie w [],_=>by simp[dep,deps]
 | .tie w (p::ps),h=>by
  have hd:=deps_count h.2.2
  have e:shw (.tie w (p::ps))=w++[40]++joinL [44] (shws (p::ps))++[41]:=by simp[shw]
  rw[e]
  simp only[dep,List.count_append]
  have:deps (p::ps)<=(joinL [44] (shws (p::ps))).count 40+1:=deps_le fun f m=>by
   have h1:=hd f m
   have h2:=join_count (c:=40) m
   omega
  have e1:List.count 40 [40]=1:=by decide
  omega
theorem deps_count:∀ {ps:List F},Gfs ps->∀ f∈ps,dep f<=(shw f).count 40+1
 | [],_,f,m=>by simp at m
 |x::r,h,f,m=>by
  have h1:=dep_count h.1
  have h2:=deps_count h.2
  rcases List.mem_cons.mp m with e|m
  ·rw[e];exact h1
  ·exact h2 f m
end
mutual
theorem sz_len:∀ {f:F},Gf f->sz f<=(shw f).length
 | .gap n,_=>by simp[sz,shw]
 | .tie w [],h=>by
  have:=List.length_pos_iff.mpr h.1
  simp only[sz,szs,shw,List.isEmpty_nil,if_true]
  omega
 | .tie w (p::ps),h=>by
  have hd:=szs_len' h.2.2
  have hj:=join_len (p::ps)
  have e:shw (.tie w (p::ps))=w++[40]++joinL [44] (shws (p::ps))++[41]:=by simp[shw]
  rw[e]
  simp only[sz,List.length_append,List.length_singleton]
  omega
theorem szs_len':∀ {ps:List F},Gfs ps->szs ps<=lens (shws ps)
 | [],_=>by simp[szs]
 |x::r,h=>by
  have h1:=sz_len h.1
  have h2:=szs_len' h.2
  simp only[szs,shws,lens]
  omega
end
mutual
theorem right_Wf:∀ {f:F},(∀ x∈sgn f,rightB x=true)->Wf f
 | .gap n,h=>by
  have:=h (.gap n) (by simp[sgn])
  simp only[rightB,Bool.and_eq_true,decide_eq_true_eq] at this
  exact⟨this.1,by omega⟩
 | .tie w ps,h=>by
  have:=h (.tie w ps) (by simp[sgn])
  simp only[rightB,Bool.and_eq_true,decide_eq_true_eq] at this
  exact⟨wordB_iff.mp this.1,this.2,rights_Wf fun x m=>h x (by simp only[sgn];exact List.mem_cons_of_mem _ m)⟩
theorem rights_Wf:∀ {ps:List F},(∀ x∈sgns ps,rightB x=true)->Wfs ps
 | [],_=>trivial
 |y::r,h=>⟨right_Wf fun x m=>h x (by simp only[sgns];exact List.mem_append_left _ m),rights_Wf fun x m=>h x (by simp only[sgns];exact List.mem_append_right _ m)⟩
end
theorem read_told(L:Lk P)(R:Rd P)(h:look P "read"=some fn_read){x:List Nat}(hr:DR 9 x)(hb:x.length<1000)(hW:1000<=W)(hW2:W<=2000){k d:Nat}(hc:x.count 40<k)(σ:Store) :
 (∃ f,run P W (d+3*k+3) "read" [.g (.str x)] σ = .ok (.g (enc f)) σ/\Wf f/\x=shw f)\/run P W (d+3*k+3) "read" [.g (.str x)] σ = .exc "BadNote" σ:=by
 have T:=read_any (P:=P) R hr hb hW hW2 (d:=d) k 0 σ (Nat.zero_le _) (by simpa using hc)
 have ln:prim .len [.g (.str x)] σ = .ok (.g (.int x.length)) σ:=p_len rfl
 rw[run_call h _ _ _ rfl]
 rcases T with⟨f,e,h1,h2,h3,h4,h5⟩|h1
 ·by_cases c1:e<x.length
  ·right
   have lt:((e:Nat):Int)<(x.length:Int):=by omega
   have h1':run P W (d+3*k+2) "read_form" [.g (.str x),.g (.int 0)] σ = .ok (.g (.tup [enc f,.int (e:Nat)])) σ:=h1
   generalize run P W (d+3*k+2)=cl at h1'
   generalize ((e:Nat):Int)=E at *
   simp[fn_read,setSlot,h1',at_three,ln,lt]
  ·have he:e=x.length:=by omega
   have hx:x=shw f:=by
    rw[he] at h2
    simpa using h2
   have hz:=sz_len h5
   have hd:=dep_count h5
   rw[← hx] at hz hd
   have nlt:¬ ((e:Nat):Int)<(x.length:Int):=by omega
   have h1':run P W (d+3*k+2) "read_form" [.g (.str x),.g (.int 0)] σ = .ok (.g (.tup [enc f,.int (e:Nat)])) σ:=h1
   by_cases c2:∀ y∈sgn f,rightB y=true
   ·by_cases c3:sz f<=200/\dep f<=40
    ·left
     have e2:=run_looked (W:=W) L (n:=d+3*k+2) f σ (by omega) c2 c3.1 c3.2
     refine⟨f,?_,right_Wf c2,hx⟩
     generalize run P W (d+3*k+2)=cl at h1' e2
     generalize ((e:Nat):Int)=E at *
     simp[fn_read,setSlot,h1',at_three,ln,nlt,e2]
    ·right
     have e2:=run_looked_many (W:=W) L (n:=d+3*k+2) f σ (by omega) (by unfold big;omega) c2 (by omega)
     generalize run P W (d+3*k+2)=cl at h1' e2
     generalize ((e:Nat):Int)=E at *
     simp[fn_read,setSlot,h1',at_three,ln,nlt,e2,kTR_exc (x:="TooMany") (c:="FormError") "BadNote" _ rfl]
   ·right
    have c2':∃ y∈sgn f,rightB y=false:=by
     simp only[Classical.not_forall] at c2
     obtain⟨y,m,z⟩:=c2
     exact⟨y,m,by simpa using z⟩
    have e2:=run_looked_bad (W:=W) L (n:=d+3*k+2) f σ (by omega) (by unfold big;omega) c2'
    generalize run P W (d+3*k+2)=cl at h1' e2
    generalize ((e:Nat):Int)=E at *
    simp[fn_read,setSlot,h1',at_three,ln,nlt,e2,kTR_exc (x:="NoForm") (c:="FormError") "BadNote" _ rfl]
 ·right
  have h1':run P W (d+3*k+2) "read_form" [.g (.str x),.g (.int 0)] σ = .exc "BadNote" σ:=h1
  generalize run P W (d+3*k+2)=cl at h1'
  simp[fn_read,setSlot,h1']
theorem read_bad(L:Lk P)(R:Rd P)(h:look P "read"=some fn_read){x:List Nat}(hr:DR 9 x)(hb:x.length<1000)(hW:1000<=W)(hW2:W<=2000){k d:Nat}(hc:x.count 40<k)(hd:dueT x=none)(σ:Store):run P W (d+3*k+3) "read" [.g (.str x)] σ = .exc "BadNote" σ:=by
 rcases read_told (W:=W) L R h hr hb hW hW2 hc σ with⟨f,_,wf,e⟩|e
 ·rw[due_iff.mpr ⟨wf,e⟩] at hd
  cases hd
 ·exact e
end MP
namespace MP
variable {P:List Fn}{W:Nat}
noncomputable def fn__law_name:Fn:=⟨"_law_name",1,1,
 (.cons (.ret (.andT (.chain .le .le (.con (.int 1)) (.op .len (.cons (.var 0) .nil)) (.con (.int 8))) (.op .eq (.cons (.op .len (.cons (.comp 1 [] (.chars (.var 0)) (.cons (.op .notinS (.cons (.var 0) (.cons (.con (.str az)) .nil))) .nil) (.var 0)) .nil)) (.cons (.con (.int 0)) .nil)))))
 .nil)⟩
noncomputable def fn__law_leaf:Fn:=⟨"_law_leaf",1,2,
 (.cons (.ite (.op .ne (.cons (.op .cutT (.cons (.var 0) (.cons (.con (.int 1)) .nil))) (.cons (.con (.str [63])) .nil))) (.cons (.ret (.ifT (.call "_law_name" (.cons (.var 0) .nil)) (.op .tup (.cons (.con (.str [116,105,101])) (.cons (.var 0) (.cons (.op .tup .nil) .nil)))) (.con .non)))
 .nil) .nil)
 (.cons (.set 1 (.op .cutF (.cons (.var 0) (.cons (.con (.int 1)) .nil))))
 (.cons (.ite (.orT (.op .eq (.cons (.var 1) (.cons (.con (.str [])) .nil))) (.orT (.op .gt (.cons (.op .len (.cons (.var 1) .nil)) (.cons (.con (.int 3)) .nil))) (.andT (.op .eq (.cons (.op .idx (.cons (.var 1) (.cons (.con (.int 0)) .nil))) (.cons (.con (.str [48])) .nil))) (.op .ne (.cons (.var 1) (.cons (.con (.str [48])) .nil)))))) (.cons (.ret (.con .non))
 .nil) .nil)
 (.cons (.ite (.op .gt (.cons (.op .len (.cons (.comp 1 [] (.chars (.var 1)) (.cons (.op .notinS (.cons (.var 0) (.cons (.con (.str d09)) .nil))) .nil) (.var 0)) .nil)) (.cons (.con (.int 0)) .nil))) (.cons (.ret (.con .non))
 .nil) .nil)
 (.cons (.ret (.op .tup (.cons (.con (.str [103,97,112])) (.cons (.op .intOf (.cons (.var 1) .nil)) .nil))))
 .nil)))))⟩
theorem p_notinS{σ:Store}{c:Nat}{y:List Nat}:prim .notinS [.g (.str [c]),.g (.str y)] σ = .ok (.g (.bl (!y.contains c))) σ:=rfl
theorem comp_chars{cl:CallH}{y:List Nat}{ε:Env}{σ:Store}(w:List Nat) :
 compL (compF cl 1 [] (.cons (.op .notinS (.cons (.var 0) (.cons (.con (.str y)) .nil))) .nil) (.var 0) ε) none (w.map fun c=>R.g (.str [c])) σ = .ok ((w.filter fun c => !y.contains c).map fun c=>R.g (.str [c])) σ:=by
 refine compL_filter (fun c=>R.g (.str [c])) (fun c=>R.g (.str [c])) (fun c => !y.contains c) rfl w fun c _ => ?_
 by_cases h:c∈y
 ·have e:prim .notinS [.g (.str [c]),.g (.str y)] σ = .ok (.g (.bl false)) σ:=by rw[p_notinS];simp[h]
  simp[e,h]
 ·have e:prim .notinS [.g (.str [c]),.g (.str y)] σ = .ok (.g (.bl true)) σ:=by rw[p_notinS];simp[h]
  simp[e,h]
theorem filter_len(y w:List Nat):(w.filter fun c => !y.contains c).length=0↔(w.all fun c=>y.contains c)=true:=by
 rw[List.length_eq_zero_iff,List.filter_eq_nil_iff]
 simp
theorem mk_strs(l:List Nat):mkLst (l.map fun c=>R.g (.str [c])) = .lst (l.map fun c=>G.str [c]):=mkLst_map (fun c=>G.str [c]) l
theorem run_lname(h:look P "_law_name"=some fn__law_name){n:Nat}(w:List Nat)(σ:Store):run P W (n+1) "_law_name" [.g (.str w)] σ = .ok (.g (.bl (wordB w))) σ:=by
 rw[run_call h _ _ _ rfl]
 generalize run P W n=cl
 have ln:prim .len [.g (.str w)] σ = .ok (.g (.int w.length)) σ:=p_len rfl
 have cc:=comp_chars (cl:=cl) (y:=az) (ε:=[some (.g (.str w))]) (σ:=σ) w
 have fl:=filter_len az w
 generalize hfs:(w.filter fun c => !az.contains c)=fs at cc fl
 have l2:prim .len [.ref σ.length] (σ++[.lst (fs.map fun c=>G.str [c])]) = .ok (.g (.int fs.length)) (σ++[.lst (fs.map fun c=>G.str [c])]):=p_len (by simp[lenOf])
 have mk:=mk_strs fs
 by_cases c1:1<=w.length
 ·by_cases c2:w.length<=8
  ·have i1:(1:Int)<=(w.length:Int):=by omega
   have i2:(w.length:Int)<=8:=by omega
   by_cases c3:(w.all fun c=>az.contains c)=true
   ·have:fs.length=0:=fl.mpr c3
    have hw:wordB w=true:=by unfold wordB;simp only[c1,c2,c3,decide_true,Bool.and_self]
    rw[hw]
    have e0:prim .eq [.g (.int fs.length),.g (.int 0)] (σ++[.lst (fs.map fun c=>G.str [c])]) = .ok (.g (.bl true)) (σ++[.lst (fs.map fun c=>G.str [c])]):=by rw[p_eq _ rfl,this];rfl
    simp[fn__law_name,ln,i1,i2,wChars_str,cc,mk,l2,e0]
   ·have:fs.length≠0:=fun z=>c3 (fl.mp z)
    have hw:wordB w=false:=by unfold wordB;simp only[Bool.eq_false_iff.mpr c3,Bool.and_false]
    rw[hw]
    have e0:prim .eq [.g (.int fs.length),.g (.int 0)] (σ++[.lst (fs.map fun c=>G.str [c])]) = .ok (.g (.bl false)) (σ++[.lst (fs.map fun c=>G.str [c])]):=by
     rw[p_eq _ rfl]
     have:((fs.length:Int) == 0)=false:=by rw[beq_eq_false_iff_ne];omega
     simp[peq,this]
    simp[fn__law_name,ln,i1,i2,wChars_str,cc,mk,l2,e0]
  ·have hw:wordB w=false:=by unfold wordB;simp[c2]
   have i1:(1:Int)<=(w.length:Int):=by omega
   have i2:¬ (w.length:Int)<=8:=by omega
   rw[hw]
   simp[fn__law_name,ln,i1,i2]
 ·have hw:wordB w=false:=by unfold wordB;simp[c1]
  have i1:¬ (1:Int)<=(w.length:Int):=by omega
  rw[hw]
  simp[fn__law_name,ln,i1]
noncomputable def encO2:Option F->G
 |none=>.non
 |some f=>enc f
theorem p_cutT{σ:Store}{x:List Nat}{i:Nat}:prim .cutT [.g (.str x),.g (.int i)] σ = .ok (.g (.str (x.take i))) σ:=by
 have:(0:Int)<=i:=by omega
 simp[prim,pCutT,this,okG]
theorem p_cutF{σ:Store}{x:List Nat}{i:Nat}:prim .cutF [.g (.str x),.g (.int i)] σ = .ok (.g (.str (x.drop i))) σ:=by
 have:(0:Int)<=i:=by omega
 simp[prim,pCutF,this,okG]
theorem run_leaf(h1:look P "_law_name"=some fn__law_name)(h2:look P "_law_leaf"=some fn__law_leaf){n:Nat}(w:List Nat)(σ:Store):run P W (n+2) "_law_leaf" [.g (.str w)] σ = .ok (.g (encO2 (leafF w))) σ:=by
 have en:=run_lname (W:=W) h1 (n:=n) w σ
 rw[run_call h2 _ _ _ rfl]
 generalize run P W (n+1)=cl at en
 have ct:prim .cutT [.g (.str w),.g (.int 1)] σ = .ok (.g (.str (w.take 1))) σ:=p_cutT (i:=1)
 have cf:prim .cutF [.g (.str w),.g (.int 1)] σ = .ok (.g (.str (w.drop 1))) σ:=p_cutF (i:=1)
 by_cases c1:∃ ds,w=63::ds
 ·obtain⟨ds,rfl⟩:=c1
  have ct':prim .cutT [.g (.str (63::ds)),.g (.int 1)] σ = .ok (.g (.str [63])) σ:=ct
  have cf':prim .cutF [.g (.str (63::ds)),.g (.int 1)] σ = .ok (.g (.str ds)) σ:=cf
  have n1:prim .ne [.g (.str [63]),.g (.str [63])] σ = .ok (.g (.bl false)) σ:=by rw[p_ne _ rfl];rfl
  have e1:prim .eq [.g (.str ds),.g (.str [])] σ = .ok (.g (.bl (ds == []))) σ:=by rw[p_eq _ rfl];rfl
  have ln:prim .len [.g (.str ds)] σ = .ok (.g (.int ds.length)) σ:=p_len rfl
  have cc:=comp_chars (cl:=cl) (y:=d09) (ε:=[some (.g (.str (63::ds))),some (.g (.str ds))]) (σ:=σ) ds
  have fl:=filter_len d09 ds
  generalize hfs:(ds.filter fun c => !d09.contains c)=fs at cc fl
  have l2:prim .len [.ref σ.length] (σ++[.lst (fs.map fun c=>G.str [c])]) = .ok (.g (.int fs.length)) (σ++[.lst (fs.map fun c=>G.str [c])]):=p_len (by simp[lenOf])
  have mk:=mk_strs fs
  show _=Res.ok (R.g (encO2 (if digs ds then some (.gap (valD ds)) else none))) σ
  cases ds with
  |nil =>
   have:digs []=false:=rfl
   rw[this]
   simp[fn__law_leaf,setSlot,ct',n1,cf',e1,encO2]
  |cons d r =>
   have e1':prim .eq [.g (.str (d::r)),.g (.str [])] σ = .ok (.g (.bl false)) σ:=e1
   by_cases c2:(d::r).length<=3
   ·have g1:¬ ((3:Int)<((d::r).length:Int)):=by omega
    have ix:prim .idx [.g (.str (d::r)),.g (.int 0)] σ = .ok (.g (.str [d])) σ:=by
     have:at? (d::r) ((0:Nat):Int)=some d:=at_nat rfl
     simp only[prim,pIdx]
     rw[show(0:Int)=((0:Nat):Int) from rfl,this]
     rfl
    have e2:prim .eq [.g (.str [d]),.g (.str [48])] σ = .ok (.g (.bl (decide (d=48)))) σ:=by rw[p_eq _ rfl];by_cases z:d=48<;>simp[peq,z]
    have n2:prim .ne [.g (.str (d::r)),.g (.str [48])] σ = .ok (.g (.bl (!decide (d::r=[48])))) σ:=by
     rw[p_ne _ rfl]
     have:(d::r == [48])=decide (d::r=[48]):=by rw[Bool.eq_iff_iff];simp
     rw[← this]
     rfl
    generalize hL:((d::r).length:Int)=L at *
    by_cases c3:d=48/\d::r ≠ [48]
    ·have:digs (d::r)=false:=by
      unfold digs
      have:decide (d::r=[48])=false:=by simp[c3.2]
      rw[this]
      simp[c3.1]
     rw[this]
     have hd:decide (d=48)=true:=by simp[c3.1]
     have hd2:decide (d::r=[48])=false:=by simp[c3.2]
     rw[hd] at e2
     rw[hd2] at n2
     simp[fn__law_leaf,setSlot,ct',n1,cf',e1',ln,g1,ix,e2,n2,encO2]
    ·have c3':d≠48\/d::r=[48]:=by
      by_cases z:d=48
      ·right
       by_cases q:d::r=[48]
       ·exact q
       ·exact absurd ⟨z,q⟩ c3
      ·exact .inl z
     have go:∀ b:Bool,(b=false->(0:Int)<fs.length)->(b=true->fs.length=0)->digs (d::r)=b->(b=true->dec (valD (d::r))=d::r/\valD (d::r)<1000000000) →
      fin σ.length (gd σ (evB cl W fn__law_leaf.body [some (.g (.str (63::d::r))),none] σ)) = .ok (.g (encO2 (if b then some (.gap (valD (d::r))) else none))) σ:=fun b q1 q2 q3 q4=>by
      rcases c3' with z|z
      ·have hd:decide (d=48)=false:=by simp[z]
       rw[hd] at e2
       generalize hDS:d::r=DS at *
       cases b with
       |false =>
        have q5:0<fs.length:=by have:=q1 rfl;omega
        simp[fn__law_leaf,setSlot,ct',n1,cf',e1',ln,g1,ix,e2,wChars_str,cc,mk,l2,q5,encO2]
       |true =>
        have io:∀ τ,prim .intOf [.g (.str DS)] τ = .ok (.g (.int (valD DS))) τ:=fun τ=>by simp[prim,pIntOf,(q4 rfl).1,(q4 rfl).2,okG]
        simp[fn__law_leaf,setSlot,ct',n1,cf',e1',ln,g1,ix,e2,wChars_str,cc,mk,l2,q2 rfl,io,p_tup,mkTup,allG,encO2,enc]
      ·have hd2:decide (d::r=[48])=true:=by simp[z]
       have hd:d=48:=by simp at z;exact z.1
       have hdd:decide (d=48)=true:=by simp[hd]
       rw[hdd] at e2
       rw[hd2] at n2
       generalize hDS:d::r=DS at *
       cases b with
       |false =>
        have q5:0<fs.length:=by have:=q1 rfl;omega
        simp[fn__law_leaf,setSlot,ct',n1,cf',e1',ln,g1,ix,e2,n2,wChars_str,cc,mk,l2,q5,encO2]
       |true =>
        have io:∀ τ,prim .intOf [.g (.str DS)] τ = .ok (.g (.int (valD DS))) τ:=fun τ=>by simp[prim,pIntOf,(q4 rfl).1,(q4 rfl).2,okG]
        simp[fn__law_leaf,setSlot,ct',n1,cf',e1',ln,g1,ix,e2,n2,wChars_str,cc,mk,l2,q2 rfl,io,p_tup,mkTup,allG,encO2,enc]
     by_cases c4:((d::r).all fun c=>d09.contains c)=true
     ·have hdg:digs (d::r)=true:=by
       unfold digs
       rw[c4]
       simp only[List.isEmpty_cons,Bool.not_false,Bool.true_and,Bool.and_eq_true,Bool.or_eq_true,decide_eq_true_eq,c2,and_true]
       rcases c3' with z|z
       ·left
        simp[List.isPrefixOf]
        exact fun q=>z q.symm
       ·exact .inr z
      rw[hdg]
      obtain⟨q1,q2,q3⟩:=digs_dec hdg
      exact go true (fun z=>by cases z) (fun _=>fl.mpr c4) hdg fun _=>⟨q1,by omega⟩
     ·have hdg:digs (d::r)=false:=by
       unfold digs
       rw[Bool.eq_false_iff.mpr c4]
       simp
      rw[hdg]
      exact go false (fun _=>by
       have:fs.length≠0:=fun z=>c4 (fl.mp z)
       omega) (fun z=>by cases z) hdg fun z=>by cases z
   ·have g1:(3:Int)<((d::r).length:Int):=by omega
    have:digs (d::r)=false:=by
     unfold digs
     have:decide ((d::r).length<=3)=false:=by simpa using c2
     rw[this]
     simp
    rw[this]
    generalize hL:((d::r).length:Int)=L at *
    simp[fn__law_leaf,setSlot,ct',n1,cf',e1',ln,g1,encO2]
 ·have n1:prim .ne [.g (.str (w.take 1)),.g (.str [63])] σ = .ok (.g (.bl true)) σ:=by
   rw[p_ne _ rfl]
   cases w with
   |nil=>rfl
   |cons d r =>
    have:d≠63:=fun z=>c1 ⟨r,by rw[z]⟩
    simp[peq,this]
  have el:leafF w=if wordB w then some (.tie w []) else none:=by
   unfold leafF
   split
   ·rename_i ds
    exact absurd ⟨ds,rfl⟩ c1
   ·rfl
  rw[el]
  generalize w.take 1=w1 at *
  cases hw:wordB w with
  |true =>
   rw[hw] at en
   simp[fn__law_leaf,ct,n1,en,p_tup,mkTup,allG,encO2,enc,encs]
  |false =>
   rw[hw] at en
   simp[fn__law_leaf,ct,n1,en,encO2]
end MP
namespace MP
variable {P:List Fn}{W:Nat}
noncomputable abbrev isC(c:Nat):Tm:=(.op .eq (.cons (.var 4) (.cons (.con (.str [c])) .nil)))
noncomputable abbrev lenP(k:Int):Tm:=(.op .eq (.cons (.op .len (.cons (.var 1) .nil)) (.cons (.con (.int k)) .nil)))
noncomputable abbrev ov(k:Int):Tm:=(.op .idx (.cons (.var 6) (.cons (.con (.int k)) .nil)))
noncomputable abbrev duC:Blk:=(.cons (.set 6 (.meth .popR (.var 1) .nil))
 (.cons (.ite (.op .gt (.cons (.op .len (.cons (ov 1) .nil)) (.cons (.con (.int 4)) .nil))) (.cons (.ret (.con .non))
 .nil) .nil)
 (.cons (.ite (lenP 0) (.cons (.set 3 (.op .idx (.cons (ov 1) (.cons (.con (.int 0)) .nil))))
 .nil) (.cons (.set 3 (.op .tup (.cons (.con (.str [116,105,101])) (.cons (ov 0) (.cons (.op .tupleOf (.cons (ov 1) .nil)) .nil)))))
 .nil))
 .nil)))
noncomputable abbrev duQ:Blk:=(.cons (.ite (.orT (.op .isN (.cons (.var 5) (.cons (.con .non) .nil))) (.orT (.andT (lenP 1) (isC 44)) (lenP 0))) (.cons (.ret (.con .non))
 .nil) .nil)
 (.cons (.expr (.meth .append (.op .idx (.cons (.op .idx (.cons (.var 1) (.cons (.con (.int (-1))) .nil))) (.cons (.con (.int 1)) .nil))) (.cons (.var 5) .nil)))
 (.cons (.set 3 (.con .non))
 (.cons (.set 2 (.con (.str [])))
 (.cons (.ite (isC 41) duC .nil)
 .nil)))))
noncomputable abbrev duP:Blk:=(.cons (.set 5 (.var 3))
 (.cons (.ite (.op .isN (.cons (.var 5) (.cons (.con .non) .nil))) (.cons (.set 5 (.call "_law_leaf" (.cons (.var 2) .nil)))
 .nil) .nil)
 duQ))
noncomputable abbrev duO:Blk:=(.cons (.ite (.orT (.op .notN (.cons (.var 3) (.cons (.con .non) .nil))) (.notT (.call "_law_name" (.cons (.var 2) .nil)))) (.cons (.ret (.con .non))
 .nil) .nil)
 (.cons (.expr (.meth .appR (.var 1) (.cons (.op .lst (.cons (.var 2) (.cons (.op .lst .nil) .nil))) .nil)))
 (.cons (.set 2 (.con (.str [])))
 .nil)))
noncomputable abbrev duB:Blk:=(.cons (.ite (isC 40) duO (.cons (.ite (.orT (isC 44) (isC 41)) duP (.cons (.ite (.op .notN (.cons (.var 3) (.cons (.con .non) .nil))) (.cons (.ret (.con .non))
 .nil) (.cons (.set 2 (.op .add (.cons (.var 2) (.cons (.var 4) .nil))))
 .nil))
 .nil))
 .nil))
 .nil)
noncomputable def fn__law_due:Fn:=⟨"_law_due",1,7,
 (.cons (.set 1 (.op .lstR (.cons (.op .lst (.cons (.con (.str [])) (.cons (.op .lst .nil) .nil))) .nil)))
 (.cons (.set 2 (.con (.str [])))
 (.cons (.set 3 (.con .non))
 (.cons (.forS [4] (.chars (.op .add (.cons (.var 0) (.cons (.con (.str [41])) .nil)))) duB)
 (.cons (.ite (.op .gt (.cons (.op .len (.cons (.var 1) .nil)) (.cons (.con (.int 0)) .nil))) (.cons (.ret (.con .non))
 .nil) .nil)
 (.cons (.ret (.var 3))
 .nil))))))⟩
noncomputable def PR(τ:Store):List (List Nat × List F)->List (Nat × Nat)->Prop
 | [],es=>es=[]
 |p::ps,es=>∃ e r,es=e::r/\τ[e.1]?=some (.rls [.g (.str p.1),.ref e.2])/\τ[e.2]?=some (.lst (p.2.map enc))/\(∀ q∈r,q.2≠e.2)/\PR τ ps r
theorem PR.keep{τ τ':Store}:∀ {ps:List (List Nat × List F)} {es:List (Nat × Nat)},PR τ ps es->(∀ e∈es,(∀ c,τ[e.1]?=some c->τ'[e.1]?=some c)/\∀ c,τ[e.2]?=some c->τ'[e.2]?=some c)->PR τ' ps es
 | [],es,h,_=>h
 |p::ps,es,h,k=>by
  obtain⟨e,r,rfl,h1,h2,h3,h4⟩:=h
  have k0:=k e List.mem_cons_self
  exact⟨e,r,rfl,k0.1 _ h1,k0.2 _ h2,h3,h4.keep fun q m=>k q (List.mem_cons_of_mem _ m)⟩
theorem PR.len{τ:Store}:∀ {ps:List (List Nat × List F)} {es:List (Nat × Nat)},PR τ ps es->es.length=ps.length
 | [],es,h=>by cases h;rfl
 |p::ps,es,h=>by
  obtain⟨e,r,rfl,h1,h2,h3,h4⟩:=h
  simp[h4.len]
theorem PR.kinds{τ:Store}:∀ {ps:List (List Nat × List F)} {es:List (Nat × Nat)},PR τ ps es->∀ e∈es,(∃ xs,τ[e.1]?=some (.rls xs))/\∃ xs,τ[e.2]?=some (.lst xs)
 | [],es,h,e,m=>by cases h;simp at m
 |p::ps,es,h,e,m=>by
  obtain⟨e0,r,rfl,h1,h2,h3,h4⟩:=h
  rcases List.mem_cons.mp m with rfl|m
  ·exact⟨⟨_,h1⟩,⟨_,h2⟩⟩
  ·exact h4.kinds e m
structure PL(σ τ:Store)(pr:Nat)(pile:List (List Nat × List F))(es:List (Nat × Nat)):Prop where
 at_:∃ m,τ[pr]?=some (.stk (m+1) (es.map (fun e=>R.ref e.1)).reverse)
 rp:PR τ pile es
 ne:∀ e∈es,e.1≠pr
 ge:σ.length<=pr/\∀ e∈es,σ.length<=e.1/\σ.length<=e.2
 tk:τ.take σ.length=σ
theorem take_keep{σ τ:Store}{k:Nat}{c:Cell}(h:τ.take σ.length=σ)(hk:σ.length<=k):(τ.set k c).take σ.length=σ:=by
 rw[List.take_set_of_le hk]
 exact h
theorem take_more{σ τ:Store}(J:Store)(h:τ.take σ.length=σ):(τ++J).take σ.length=σ:=by
 have hl:σ.length<=τ.length:=by
  have:=congrArg List.length h
  simp at this
  omega
 rw[List.take_append_of_le_length hl]
 exact h
theorem last_at{es:List (Nat × Nat)}{e:Nat × Nat}:at? ((e::es).map (fun e=>R.ref e.1)).reverse (-1)=some (.ref e.1):=by
 simp only[List.map_cons,List.reverse_cons]
 have hl:((es.map fun e=>R.ref e.1).reverse++[R.ref e.1]).length=es.length+1:=by simp
 have h1:ixOf ((es.map fun e=>R.ref e.1).reverse++[R.ref e.1]).length (-1)=some es.length:=by
  rw[hl]
  unfold ixOf
  rw[if_neg (by omega),if_pos (by omega)]
  congr 1
  omega
 simp only[at?,h1,Option.bind_some]
 rw[List.getElem?_append_right (by simp)]
 simp
noncomputable abbrev duE(x:List Nat)(pr:Nat)(s:DS)(o4 o5 o6:Option R):Env:=[some (.g (.str x)),some (.ref pr),some (.g (.str s.word)),some (.g (encO2 s.done)),o4,o5,o6]
theorem isN_enc(o:Option F)(τ:Store):prim .isN [.g (encO2 o),.g .non] τ = .ok (.g (.bl o.isNone)) τ:=by
 cases o with
 |none=>rfl
 |some f=>cases f<;>rfl
theorem notN_enc(o:Option F)(τ:Store):prim .notN [.g (encO2 o),.g .non] τ = .ok (.g (.bl o.isSome)) τ:=by
 cases o with
 |none=>rfl
 |some f=>cases f<;>rfl
theorem eqC(c d:Nat)(τ:Store):prim .eq [.g (.str [c]),.g (.str [d])] τ = .ok (.g (.bl (decide (c=d)))) τ:=by
 rw[p_eq _ rfl]
 by_cases h:c=d<;>simp[peq,h]
theorem p_appR{σ:Store}{k j m:Nat}{xs:List R}(h:σ[k]?=some (.stk (m+1) xs))(hl:xs.length<big)(hj:j<σ.length):prim .appR [.ref k,.ref j] σ = .ok (.g .non) (σ.set k (.stk σ.length (xs++[.ref j]))):=by simp[prim,pAppR,h,hl,hj]
theorem p_popR{σ:Store}{k m:Nat}{xs:List R}{x:R}(h:σ[k]?=some (.stk (m+1) (xs++[x]))):prim .popR [.ref k] σ = .ok x (σ.set k (.stk (m+1) xs)):=by simp[prim,pPopR,h]
theorem recv_appR{σ:Store}{k m:Nat}{xs:List R}(h:σ[k]?=some (.stk m xs)):recvOk .appR (.ref k) σ=true:=by simp[recvOk,h]
theorem recv_popR{σ:Store}{k m:Nat}{xs:List R}(h:σ[k]?=some (.stk m xs)):recvOk .popR (.ref k) σ=true:=by simp[recvOk,h]
theorem kB_nil{cl:CallH}(r:Res Out):kB cl W .nil r=r:=by
 cases r with
 |ok o σ=>cases o<;>simp[kB,evB]
 |exc c σ=>rfl
 |stuck=>rfl
theorem due_mid{cl:CallH}{x:List Nat}{τ:Store}{pr:Nat}{s:DS}{o5 o6:Option R}{c:Nat}(h:c=44\/c=41)(dp dz:Blk) :
 evB cl W (.cons (.ite (isC 40) duO (.cons (.ite (.orT (isC 44) (isC 41)) dp dz) .nil)) .nil) (duE x pr s (some (.g (.str [c]))) o5 o6) τ=evB cl W dp (duE x pr s (some (.g (.str [c]))) o5 o6) τ:=by
 have q40:=eqC c 40 τ
 have q44:=eqC c 44 τ
 have q41:=eqC c 41 τ
 have e40:decide (c=40)=false:=by simp;omega
 rw[e40] at q40
 by_cases z:c=44
 ·have:decide (c=44)=true:=by simp[z]
  rw[this] at q44
  simp[q40,q44,kB_nil]
 ·have e1:decide (c=44)=false:=by simp[z]
  have e2:decide (c=41)=true:=by simp[h.resolve_left z]
  rw[e1] at q44
  rw[e2] at q41
  simp[q40,q44,q41,kB_nil]
theorem due_pre{cl:CallH}{x:List Nat}{τ:Store}{pr:Nat}{pile:List (List Nat × List F)}{word:List Nat}{done:Option F}{o4 o5 o6:Option R}(hl:∀ w τ,cl "_law_leaf" [.g (.str w)] τ = .ok (.g (encO2 (leafF w))) τ)(rest:Blk) :
 evB cl W (.cons (.set 5 (.var 3)) (.cons (.ite (.op .isN (.cons (.var 5) (.cons (.con .non) .nil))) (.cons (.set 5 (.call "_law_leaf" (.cons (.var 2) .nil))) .nil) .nil) rest)) (duE x pr ⟨pile,word,done⟩ o4 o5 o6) τ
  = evB cl W rest (duE x pr ⟨pile,word,done⟩ o4 (some (.g (encO2 (pendF ⟨pile,word,done⟩)))) o6) τ:=by
 have iN:=isN_enc done τ
 have lf:=hl word τ
 cases done with
 |none =>
  simp only[Option.isNone_none] at iN
  simp[setSlot,iN,lf,pendF]
 |some f =>
  simp only[Option.isNone_some] at iN
  simp[setSlot,iN,pendF]
theorem ite_no{cl:CallH}{t:Tm}{a rest:Blk}{ε:Env}{σ σ1:Store}(h:ev cl true t ε σ = .ok (.g (.bl false)) σ1):evB cl W (.cons (.ite t a .nil) rest) ε σ=evB cl W rest ε σ1:=by
 simp[evB,evS,h]
theorem due_step{cl:CallH}{x:List Nat}{σ τ:Store}{pr:Nat}{s:DS}{es:List (Nat × Nat)}{o5 o6:Option R}{c:Nat}(hn:∀ w τ,cl "_law_name" [.g (.str w)] τ = .ok (.g (.bl (wordB w))) τ)(hl:∀ w τ,cl "_law_leaf" [.g (.str w)] τ = .ok (.g (encO2 (leafF w))) τ)
 (I:PL σ τ pr s.pile es) (b1:s.word.length<=5000) (b2:s.pile.length<=5000) (b3:∀ p∈s.pile,p.2.length<=5000) :
 match dstep s c with
 |some s'=>∃ τ' es' o5' o6',PL σ τ' pr s'.pile es'/\evB cl W duB (duE x pr s (some (.g (.str [c]))) o5 o6) τ = .ok (.next (duE x pr s' (some (.g (.str [c]))) o5' o6')) τ'
 |none=>∃ τ',τ'.take σ.length=σ/\evB cl W duB (duE x pr s (some (.g (.str [c]))) o5 o6) τ = .ok (.ret (.g .non)) τ':=by
 obtain⟨pile,word,done⟩:=s
 have q40:=eqC c 40 τ
 have q44:=eqC c 44 τ
 have q41:=eqC c 41 τ
 have nN:=notN_enc done τ
 obtain⟨pm,Iat⟩:=I.at_
 have prl:=lt_of_get Iat
 unfold dstep
 by_cases c1:c=40
 ·have e40:decide (c=40)=true:=by simp[c1]
  rw[e40] at q40
  rw[if_pos c1]
  have nm:=hn word τ
  simp only at b1 b2 b3
  cases hd:done.isSome with
  |true =>
   rw[hd] at nN
   simp only[hd,Bool.true_or,if_true]
   exact⟨τ,I.tk,by simp[q40,nN]⟩
  |false =>
   rw[hd] at nN
   cases hw:wordB word with
   |false =>
    rw[hw] at nm
    simp only[hd,hw,Bool.not_false,Bool.or_true,if_true]
    exact⟨τ,I.tk,by simp[q40,nN,nm]⟩
   |true =>
    rw[hw] at nm
    have hdn:done=none:=by simpa using hd
    simp only[hd,hw,Bool.not_true,Bool.or_self,Bool.false_eq_true,if_false]
    have l1:prim .lst [] τ = .ok (.ref τ.length) (τ++[.lst []]):=rfl
    have l2:prim .lst [.g (.str word),.ref τ.length] (τ++[.lst []]) = .ok (.ref (τ.length+1)) (τ++[.lst [],.rls [.g (.str word),.ref τ.length]]):=by
     simp[prim,pLst,mkLst,allG]
    have g1:(τ++[Cell.lst [],.rls [.g (.str word),.ref τ.length]])[pr]?=some (.stk (pm+1) (es.map (fun e=>R.ref e.1)).reverse):=get_app _ Iat
    have ap:=p_appR (j:=τ.length+1) g1 (by
     have:=I.rp.len
     simp only[List.length_reverse,List.length_map,this]
     unfold big;omega) (by simp)
    have rc:=recv_appR Iat
    subst hdn
    refine⟨(τ++[Cell.lst [],.rls [.g (.str word),.ref τ.length]]).set pr (.stk (τ++[Cell.lst [],.rls [.g (.str word),.ref τ.length]]).length ((es.map (fun e=>R.ref e.1)).reverse++[.ref (τ.length+1)])),(τ.length+1,τ.length)::es,o5,o6,⟨?_,?_,?_,?_,?_⟩,?_⟩
    rotate_right
    ·simp[q40,nN,nm,setSlot,l1,l2,kM1_ok _ _ rc,ap]
    ·refine⟨τ.length+1,?_⟩
     rw[List.getElem?_set_self (by simp;omega)]
     simp
    ·refine⟨_,es,rfl,?_,?_,?_,?_⟩
     ·rw[List.getElem?_set_ne (by show pr≠τ.length+1;omega)]
      simp[List.getElem?_append_right]
     ·rw[List.getElem?_set_ne (by show pr≠τ.length;omega)]
      simp
     ·intro q m
      obtain⟨_,⟨xs,h⟩⟩:=I.rp.kinds q m
      have:=lt_of_get h
      show q.2≠τ.length
      omega
     ·refine I.rp.keep fun q m => ?_
      obtain⟨_,⟨ys,k2⟩⟩:=I.rp.kinds q m
      refine⟨fun d h => ?_,fun d h => ?_⟩
      ·rw[List.getElem?_set_ne (Ne.symm (I.ne q m))]
       exact get_app _ h
      ·rw[List.getElem?_set_ne fun z=>by rw[← z,Iat] at k2;cases k2]
       exact get_app _ h
    ·intro q m
     rcases List.mem_cons.mp m with rfl|m
     ·show τ.length+1≠pr
      omega
     ·exact I.ne q m
    ·refine⟨I.ge.1,fun q m => ?_⟩
     rcases List.mem_cons.mp m with rfl|m
     ·have:=I.ge.1
      show σ.length<=τ.length+1/\σ.length<=τ.length
      omega
     ·exact I.ge.2 q m
    ·exact take_keep (take_more _ I.tk) I.ge.1
 ·have e40:decide (c=40)=false:=by simp[c1]
  rw[e40] at q40
  rw[if_neg c1]
  by_cases c2:c=44\/c=41
  ·rw[if_pos c2]
   have hlen:prim .len [.ref pr] τ = .ok (.g (.int pile.length)) τ:=p_len (by simp[lenOf,Iat,I.rp.len])
   have hd:evB cl W duB (duE x pr ⟨pile,word,done⟩ (some (.g (.str [c]))) o5 o6) τ=evB cl W duQ (duE x pr ⟨pile,word,done⟩ (some (.g (.str [c]))) (some (.g (encO2 (pendF ⟨pile,word,done⟩)))) o6) τ:=(due_mid c2 duP _).trans (due_pre hl duQ)
   rw[hd]
   have iP:=isN_enc (pendF ⟨pile,word,done⟩) τ
   cases hp:pendF ⟨pile,word,done⟩ with
   |none =>
    rw[hp] at iP
    simp only[Option.isNone_none] at iP
    exact⟨τ,I.tk,by simp[iP]⟩
   |some f =>
    rw[hp] at iP
    simp only[Option.isNone_some] at iP
    cases pile with
    |nil =>
     have z1:prim .eq [.g (.int 0),.g (.int 1)] τ = .ok (.g (.bl false)) τ:=by rw[p_eq _ rfl];rfl
     have z0:prim .eq [.g (.int 0),.g (.int 0)] τ = .ok (.g (.bl true)) τ:=by rw[p_eq _ rfl];rfl
     have hlen0:prim .len [.ref pr] τ = .ok (.g (.int 0)) τ:=hlen
     exact⟨τ,I.tk,by simp[iP,hlen0,z1,z0]⟩
    |cons p r =>
     obtain⟨w,ps⟩:=p
     obtain⟨e,er,rfl,h1,h2,h3,h4⟩:=I.rp
     have hln:prim .len [.ref pr] τ = .ok (.g (.int ((r.length+1:Nat):Int))) τ:=hlen
     have z0:prim .eq [.g (.int ((r.length+1:Nat):Int)),.g (.int 0)] τ = .ok (.g (.bl false)) τ:=by
      rw[p_eq _ rfl]
      have:(((r.length+1:Nat):Int) == 0)=false:=by rw[beq_eq_false_iff_ne];omega
      simp only[peq,this]
     have z1:prim .eq [.g (.int ((r.length+1:Nat):Int)),.g (.int 1)] τ = .ok (.g (.bl (decide (r=[])))) τ:=by
      rw[p_eq _ rfl]
      have:(((r.length+1:Nat):Int) == 1)=decide (r=[]):=by
       rw[Bool.eq_iff_iff]
       simp only[beq_iff_eq,decide_eq_true_eq]
       rw[← List.length_eq_zero_iff]
       omega
      simp only[peq,this]
     have q44':=q44
     by_cases c3:r=[]/\c=44
     ·have d1:decide (r=[])=true:=by simp[c3.1]
      have d2:decide (c=44)=true:=by simp[c3.2]
      rw[d1] at z1
      rw[d2] at q44
      simp only[c3,and_self,if_true]
      generalize ((r.length+1:Nat):Int)=L at *
      refine⟨τ,I.tk,?_⟩
      have h44:=c3.2
      subst h44
      simp[iP,hln,z1,q44]
     ·dsimp only
      rw[if_neg c3]
      have i1:prim .idx [.ref pr,.g (.int (-1))] τ = .ok (.ref e.1) τ:=by
       have:=last_at (es:=er) (e:=e)
       simp only[prim,pIdx,Iat,this,ofO]
      have i2:prim .idx [.ref e.1,.g (.int 1)] τ = .ok (.ref e.2) τ:=by
       simp only[prim,pIdx,h1]
       rfl
      have rc:=recv_append h2
      have ap:=p_append (x:=enc f) h2 (by
       have:=b3 (w,ps) (by simp)
       simp only at this
       simp only[List.length_map]
       unfold big;omega)
      have hm:ps.map enc++[enc f]=(ps++[f]).map enc:=by simp
      rw[hm] at ap
      generalize hT:τ.set e.2 (.lst ((ps++[f]).map enc))=T at ap
      have ne12:e.1≠e.2:=fun z=>by rw[z,h2] at h1;cases h1
      have nep:pr≠e.2:=fun z=>by
       have:=Iat
       rw[z,h2] at this
       cases this
      have ge:=I.ge.2 e List.mem_cons_self
      have T0:T[pr]?=some (.stk (pm+1) ((e::er).map (fun e=>R.ref e.1)).reverse):=by rw[← hT,List.getElem?_set_ne (Ne.symm nep)];exact Iat
      have T1:T[e.1]?=some (.rls [.g (.str w),.ref e.2]):=by rw[← hT,List.getElem?_set_ne (Ne.symm ne12)];exact h1
      have T2:T[e.2]?=some (.lst ((ps++[f]).map enc)):=by rw[← hT];exact List.getElem?_set_self (lt_of_get h2)
      have T3:PR T r er:=h4.keep fun q m=>by
       obtain⟨⟨xs,k1⟩,_⟩:=h4.kinds q m
       refine⟨fun d hd => ?_,fun d hd => ?_⟩
       ·rw[← hT,List.getElem?_set_ne fun z=>by rw[← z,h2] at k1;cases k1];exact hd
       ·rw[← hT,List.getElem?_set_ne (Ne.symm (h3 q m))];exact hd
      have T4:T.take σ.length=σ:=by rw[← hT];exact take_keep I.tk ge.2
      have tst:ev cl true (.orT (.op .isN (.cons (.var 5) (.cons (.con .non) .nil))) (.orT (.andT (lenP 1) (isC 44)) (lenP 0))) (duE x pr ⟨(w,ps)::r,word,done⟩ (some (.g (.str [c]))) (some (.g (encO2 (some f)))) o6) τ = .ok (.g (.bl false)) τ:=by
       by_cases hr:r=[]
       ·have d1:decide (r=[])=true:=by simp[hr]
        have d2:decide (c=44)=false:=by simp;exact fun z=>c3 ⟨hr,z⟩
        rw[d1] at z1
        rw[d2] at q44
        generalize ((r.length+1:Nat):Int)=L at *
        simp[iP,hln,z1,q44,z0]
       ·have d1:decide (r=[])=false:=by simp[hr]
        rw[d1] at z1
        generalize ((r.length+1:Nat):Int)=L at *
        simp[iP,hln,z1,z0]
      have q41T:=eqC c 41 T
      by_cases c4:c=44
      ·rw[if_pos c4]
       have d2:decide (c=41)=false:=by simp;omega
       rw[d2] at q41T
       refine⟨T,e::er,some (.g (encO2 (some f))),o6,⟨⟨pm,T0⟩,⟨e,er,rfl,T1,T2,h3,T3⟩,I.ne,I.ge,T4⟩,?_⟩
       refine(ite_no tst).trans ?_
       simp[setSlot,i1,i2,kM1_ok _ _ rc,encO2,ap,q41T]
      ·rw[if_neg c4]
       have c5:c=41:=c2.resolve_left c4
       have d2:decide (c=41)=true:=by simp[c5]
       rw[d2] at q41T
       have nee:=I.ne e List.mem_cons_self
       have T0':T[pr]?=some (.stk (pm+1) ((er.map (fun e=>R.ref e.1)).reverse++[.ref e.1])):=by rw[T0];simp
       have pp:=p_popR T0'
       have rp:=recv_popR T0'
       generalize hU:T.set pr (.stk (pm+1) (er.map (fun e=>R.ref e.1)).reverse)=U at pp
       have U0:U[pr]?=some (.stk (pm+1) (er.map (fun e=>R.ref e.1)).reverse):=by rw[← hU];exact List.getElem?_set_self (lt_of_get T0)
       have U1:U[e.1]?=some (.rls [.g (.str w),.ref e.2]):=by rw[← hU,List.getElem?_set_ne (Ne.symm nee)];exact T1
       have U2:U[e.2]?=some (.lst ((ps++[f]).map enc)):=by rw[← hU,List.getElem?_set_ne nep];exact T2
       have U3:PR U r er:=T3.keep fun q m=>by
        obtain⟨_,⟨ys,k2⟩⟩:=T3.kinds q m
        refine⟨fun d hd => ?_,fun d hd => ?_⟩
        ·rw[← hU,List.getElem?_set_ne (Ne.symm (I.ne q (List.mem_cons_of_mem _ m)))];exact hd
        ·rw[← hU,List.getElem?_set_ne fun z=>by rw[← z,T0] at k2;cases k2];exact hd
       have U4:U.take σ.length=σ:=by rw[← hU];exact take_keep T4 I.ge.1
       have j1:prim .idx [.ref e.1,.g (.int 1)] U = .ok (.ref e.2) U:=by
        simp only[prim,pIdx,U1]
        rfl
       have j0:prim .idx [.ref e.1,.g (.int 0)] U = .ok (.g (.str w)) U:=by
        simp only[prim,pIdx,U1]
        rfl
       have lo:prim .len [.ref e.2] U = .ok (.g (.int ((ps.length+1:Nat):Int))) U:=p_len (by simp[lenOf,U2])
       have lp:prim .len [.ref pr] U = .ok (.g (.int er.length)) U:=p_len (by simp[lenOf,U0])
       have erl:er.length=r.length:=h4.len
       have zz:prim .eq [.g (.int er.length),.g (.int 0)] U = .ok (.g (.bl (decide (r=[])))) U:=by
        rw[p_eq _ rfl]
        have:((er.length:Int) == 0)=decide (r=[]):=by
         rw[Bool.eq_iff_iff]
         simp only[beq_iff_eq,decide_eq_true_eq]
         rw[← List.length_eq_zero_iff]
         omega
        simp only[peq,this]
       have tl:prim .tupleOf [.ref e.2] U = .ok (.g (.tup ((ps++[f]).map enc))) U:=p_tupleL U2
       have plU:PL σ U pr r er:=⟨⟨pm,U0⟩,U3,fun q m=>I.ne q (List.mem_cons_of_mem _ m),⟨I.ge.1,fun q m=>I.ge.2 q (List.mem_cons_of_mem _ m)⟩,U4⟩
       by_cases c6:4<ps.length+1
       ·rw[if_pos c6]
        refine⟨U,U4,?_⟩
        refine(ite_no tst).trans ?_
        have gt:(4:Int)<((ps.length+1:Nat):Int):=by omega
        generalize ((ps.length+1:Nat):Int)=L at *
        simp only[encO2]
        simp[setSlot,i1,i2,kM1_ok _ _ rc,ap,q41T,kM1_ok _ _ rp,pp,j1,lo,gt]
       ·rw[if_neg c6]
        have gt:¬ (4:Int)<((ps.length+1:Nat):Int):=by omega
        by_cases c7:r=[]
        ·rw[if_pos c7]
         have d7:decide (r=[])=true:=by simp[c7]
         rw[d7] at zz
         obtain⟨g,gs,hg⟩:∃ g gs,ps++[f]=g::gs:=by
          cases ps with
          |nil=>exact⟨f,[],rfl⟩
          |cons a as=>exact⟨a,as++[f],rfl⟩
         have j2:prim .idx [.ref e.2,.g (.int 0)] U = .ok (.g (enc g)) U:=by
          rw[hg] at U2
          have:at? ((g::gs).map enc) ((0:Nat):Int)=some (enc g):=at_nat rfl
          simp only[prim,pIdx,U2]
          rw[show(0:Int)=((0:Nat):Int) from rfl,this]
          rfl
         have plN:PL σ U pr [] er:=by rw[c7] at plU;exact plU
         refine⟨U,er,some (.g (encO2 (some f))),some (.ref e.1),plN,?_⟩
         refine(ite_no tst).trans ?_
         have hh:encO2 (some (ps.head?.getD f))=enc g:=by
          have:(ps++[f]).head?=some (ps.head?.getD f):=by simp
          rw[← this,hg]
          rfl
         generalize ((ps.length+1:Nat):Int)=L at *
         generalize (er.length:Int)=L2 at *
         simp[setSlot,i1,i2,kM1_ok _ _ rc,show encO2 (some f)=enc f from rfl,show encO2 none=G.non from rfl,ap,q41T,kM1_ok _ _ rp,pp,j1,lo,gt,lp,zz,j2,hh]
        ·rw[if_neg c7]
         have d7:decide (r=[])=false:=by simp[c7]
         rw[d7] at zz
         refine⟨U,er,some (.g (encO2 (some f))),some (.ref e.1),plU,?_⟩
         refine(ite_no tst).trans ?_
         have hh:encO2 (some (F.tie w (ps++[f]))) = .tup [.str sTie,.str w,.tup ((ps++[f]).map enc)]:=by simp only[encO2,enc,encs_map]
         generalize ((ps.length+1:Nat):Int)=L at *
         generalize (er.length:Int)=L2 at *
         generalize (ps++[f]).map enc=M at *
         simp[setSlot,i1,i2,kM1_ok _ _ rc,show encO2 (some f)=enc f from rfl,show encO2 none=G.non from rfl,ap,q41T,kM1_ok _ _ rp,pp,j1,j0,lo,gt,lp,zz,tl,p_tup,mkTup,allG,hh]
  ·rw[if_neg c2]
   have e44:decide (c=44)=false:=by simp;exact fun z=>c2 (.inl z)
   have e41:decide (c=41)=false:=by simp;exact fun z=>c2 (.inr z)
   rw[e44] at q44
   rw[e41] at q41
   cases hd:done.isSome with
   |true =>
    rw[hd] at nN
    simp only[hd,if_true]
    exact⟨τ,I.tk,by simp[q40,q44,q41,nN]⟩
   |false =>
    rw[hd] at nN
    have hdn:done=none:=by simpa using hd
    simp only[hd,Bool.false_eq_true,if_false]
    subst hdn
    have ad:prim .add [.g (.str word),.g (.str [c])] τ = .ok (.g (.str (word++[c]))) τ:=by
     simp only at b1
     simp[prim,pAdd,okG]
     unfold big;omega
    exact⟨τ,es,o5,o6,I,by simp[q40,q44,q41,nN,setSlot,ad]⟩
theorem dstep_grow{s s':DS}{c:Nat}(h:dstep s c=some s'):s'.word.length<=s.word.length+1/\s'.pile.length<=s.pile.length+1/\∀ b,(∀ p∈s.pile,p.2.length<=b)->∀ p∈s'.pile,p.2.length<=b+1:=by
 unfold dstep at h
 split at h
 ·split at h
  ·cases h
  ·cases h
   refine⟨by simp,by simp,fun b hb p m => ?_⟩
   rcases List.mem_cons.mp m with rfl|m
   ·simp
   ·have:=hb p m
    omega
 ·split at h
  ·cases hp:pendF s with
   |none=>rw[hp] at h;cases h
   |some f =>
    rw[hp] at h
    obtain⟨pile,word,done⟩:=s
    cases pile with
    |nil=>cases h
    |cons e r =>
     obtain⟨w,ps⟩:=e
     dsimp only at h
     split at h
     ·cases h
     ·split at h
      ·cases h
       refine⟨by simp,by simp,fun b hb p m => ?_⟩
       rcases List.mem_cons.mp m with rfl|m
       ·have:=hb (w,ps) List.mem_cons_self
        simp at this ⊢
        exact this
       ·have:=hb p (List.mem_cons_of_mem _ m)
        omega
      ·split at h
       ·cases h
       ·split at h
        ·cases h
         exact⟨by simp,by simp,fun b hb p m=>by simp at m⟩
        ·cases h
         refine⟨by simp,by simp;omega,fun b hb p m => ?_⟩
         have:=hb p (List.mem_cons_of_mem _ m)
         omega
  ·split at h
   ·cases h
   ·cases h
    refine⟨by simp,by simp,fun b hb p m => ?_⟩
    have:=hb p m
    omega
theorem due_loop{cl:CallH}{x:List Nat}{σ:Store}{pr:Nat}(hn:∀ w τ,cl "_law_name" [.g (.str w)] τ = .ok (.g (.bl (wordB w))) τ)(hl:∀ w τ,cl "_law_leaf" [.g (.str w)] τ = .ok (.g (encO2 (leafF w))) τ) :
 ∀ (u:List Nat) (s:DS) (es:List (Nat × Nat)) (τ:Store) (o4 o5 o6:Option R),PL σ τ pr s.pile es->s.word.length+u.length<=5000->s.pile.length+u.length<=5000->(∃ b,b+u.length<=5000/\∀ p∈s.pile,p.2.length<=b) →
 (match drun s u with
 |some s'=>∃ τ' es' o4' o5' o6',PL σ τ' pr s'.pile es'/\forL [4] (evB cl W duB) none (u.map fun c=>R.g (.str [c])) (duE x pr s o4 o5 o6) τ = .ok (.next (duE x pr s' o4' o5' o6')) τ'
 |none=>∃ τ',τ'.take σ.length=σ/\forL [4] (evB cl W duB) none (u.map fun c=>R.g (.str [c])) (duE x pr s o4 o5 o6) τ = .ok (.ret (.g .non)) τ')
 | [],s,es,τ,o4,o5,o6,I,_,_,_=>⟨τ,es,o4,o5,o6,I,by rw[List.map_nil,forL_nil _ _ _ rfl]⟩
 |c::u,s,es,τ,o4,o5,o6,I,b1,b2,⟨b,b3,b4⟩=>by
  simp only[List.length_cons] at b1 b2 b3
  have st:=due_step (W:=W) (x:=x) (o5:=o5) (o6:=o6) (c:=c) hn hl I (by omega) (by omega) fun p m=>by have:=b4 p m;omega
  have bt:bindTg [4] (R.g (.str [c])) (duE x pr s o4 o5 o6)=some (duE x pr s (some (.g (.str [c]))) o5 o6):=rfl
  simp only[drun]
  cases hd:dstep s c with
  |none =>
   rw[hd] at st
   obtain⟨τ',h1,h2⟩:=st
   refine⟨τ',h1,?_⟩
   rw[List.map_cons,forL_cons _ _ _ _ _ rfl,bt]
   rw[kFB_some,h2,kFT_ret]
  |some s1 =>
   rw[hd] at st
   obtain⟨τ1,es1,o51,o61,I1,h2⟩:=st
   obtain⟨g1,g2,g3⟩:=dstep_grow hd
   have ih:=due_loop (x:=x) hn hl u s1 es1 τ1 (some (.g (.str [c]))) o51 o61 I1 (by omega) (by omega) ⟨b+1,by omega,g3 b b4⟩
   have step:forL [4] (evB cl W duB) none ((c::u).map fun c=>R.g (.str [c])) (duE x pr s o4 o5 o6) τ=forL [4] (evB cl W duB) none (u.map fun c=>R.g (.str [c])) (duE x pr s1 (some (.g (.str [c]))) o51 o61) τ1:=by
    rw[List.map_cons,forL_cons _ _ _ _ _ rfl,bt]
    rw[kFB_some,h2,kFT_next]
   simp only[step]
   exact ih
theorem run_due(h1:look P "_law_name"=some fn__law_name)(h2:look P "_law_leaf"=some fn__law_leaf)(h3:look P "_law_due"=some fn__law_due){n:Nat}(x:List Nat)(hx:x.length<=4000)(σ:Store):run P W (n+3) "_law_due" [.g (.str x)] σ = .ok (.g (encO2 (dueT x))) σ:=by
 rw[run_call h3 _ _ _ rfl]
 have hn:∀ w τ,run P W (n+2) "_law_name" [.g (.str w)] τ = .ok (.g (.bl (wordB w))) τ:=fun w τ=>run_lname h1 w τ
 have hl:∀ w τ,run P W (n+2) "_law_leaf" [.g (.str w)] τ = .ok (.g (encO2 (leafF w))) τ:=fun w τ=>run_leaf h1 h2 w τ
 generalize run P W (n+2)=cl at hn hl
 generalize hτ:σ++[Cell.lst [],.rls [.g (.str []),.ref σ.length],.stk (σ.length+3) [.ref (σ.length+1)]]=τ
 have I:PL σ τ (σ.length+2) [([],[])] [(σ.length+1,σ.length)]:=by
  rw[← hτ]
  refine⟨⟨σ.length+2,by simp[List.getElem?_append_right]⟩,⟨_,[],rfl,by simp[List.getElem?_append_right],by simp,by simp,rfl⟩,fun e m => ?_,⟨by omega,fun e m => ?_⟩,by simp⟩
  ·rw[List.mem_singleton.mp m]
   show σ.length+1≠σ.length+2
   omega
  ·rw[List.mem_singleton.mp m]
   exact⟨Nat.le_succ _,Nat.le_refl _⟩
 have lp:=due_loop (W:=W) (x:=x) hn hl (x++[41]) ds0 _ τ none none none I (by simp[ds0];omega) (by simp[ds0];omega) ⟨0,by simp;omega,fun p m=>by
  simp only[ds0,List.mem_singleton] at m
  rw[m]
  simp⟩
 have l1:prim .lst [] σ = .ok (.ref σ.length) (σ++[.lst []]):=rfl
 have l2:prim .lst [.g (.str []),.ref σ.length] (σ++[.lst []]) = .ok (.ref (σ.length+1)) (σ++[.lst [],.rls [.g (.str []),.ref σ.length]]):=by simp[prim,pLst,mkLst,allG]
 have l3:prim .lstR [.ref (σ.length+1)] (σ++[.lst [],.rls [.g (.str []),.ref σ.length]]) = .ok (.ref (σ.length+2)) τ:=by rw[← hτ];simp[prim,pLstR]
 have ad:prim .add [.g (.str x),.g (.str [41])] τ = .ok (.g (.str (x++[41]))) τ:=by
  simp[prim,pAdd,okG]
  unfold big;omega
 have wc:wChars (.g (.str (x++[41]))) τ = .ok ⟨(x++[41]).map fun c=>R.g (.str [c]),none⟩ τ:=rfl
 generalize hy:x++[41]=y at *
 have e0:duE x (σ.length+2) ds0 none none none=[some (.g (.str x)),some (.ref (σ.length+2)),some (.g (.str [])),some (.g .non),none,none,none]:=rfl
 rw[e0] at lp
 unfold dueT
 rw[hy]
 cases hd:drun ds0 y with
 |none =>
  rw[hd] at lp
  obtain⟨τ',q1,q2⟩:=lp
  simp[fn__law_due,setSlot,l1,l2,l3,ad,wc,q2,q1,encO2]
 |some s =>
  rw[hd] at lp
  obtain⟨τ',es',o4',o5',o6',I',q2⟩:=lp
  obtain⟨pm,Iat⟩:=I'.at_
  have ln:prim .len [.ref (σ.length+2)] τ' = .ok (.g (.int s.pile.length)) τ':=p_len (by simp[lenOf,Iat,I'.rp.len])
  dsimp only
  by_cases hp:s.pile=[]
  ·rw[if_pos hp]
   have gt:¬ (0:Int)<(s.pile.length:Int):=by rw[hp];simp
   generalize (s.pile.length:Int)=L at *
   simp[fn__law_due,setSlot,l1,l2,l3,ad,wc,q2,ln,gt,I'.tk]
  ·rw[if_neg hp]
   have gt:(0:Int)<(s.pile.length:Int):=by
    have:=List.length_pos_iff.mpr hp
    omega
   generalize (s.pile.length:Int)=L at *
   simp[fn__law_due,setSlot,l1,l2,l3,ad,wc,q2,ln,gt,I'.tk,encO2]
end MP
namespace MP
variable {P:List Fn}{W:Nat}
noncomputable def lead(x:List Nat):Nat:=(x.takeWhile isD).length
theorem lead_app(u v:List Nat):lead (u++v)<=lead u+lead v:=by
 unfold lead
 rw[List.takeWhile_append]
 split
 ·rename_i h
  rw[List.length_append,h]
  exact Nat.le_refl _
 ·omega
theorem lead_app0{u v:List Nat}(h:lead v=0):lead (u++v)=lead u:=by
 have h1:=lead_app u v
 have:lead u<=lead (u++v):=by
  unfold lead
  rw[List.takeWhile_append]
  split
  ·rename_i e
   rw[List.length_append]
   omega
  ·exact Nat.le_refl _
 omega
theorem dr_app{p q:Nat}{u v:List Nat}(h1:DR p u)(h2:DR q v):DR (p+q) (u++v):=fun j=>by
 by_cases c:j<=u.length
 ·rw[List.drop_append_of_le_length c]
  have a:=lead_app (u.drop j) v
  have b:=h1 j
  have d:=h2 0
  unfold lead at a
  simp only[List.drop_zero] at d
  omega
 ·have:(u++v).drop j=v.drop (j-u.length):=by rw[List.drop_append,List.drop_eq_nil_of_le (by omega),List.nil_append]
  rw[this]
  have:=h2 (j-u.length)
  omega
theorem dr_app0{k:Nat}{u v:List Nat}(h1:DR k u)(h2:DR k v)(h:lead v=0):DR k (u++v):=fun j=>by
 by_cases c:j<=u.length
 ·rw[List.drop_append_of_le_length c]
  have a:=lead_app0 (u:=u.drop j) h
  have b:=h1 j
  unfold lead at a
  omega
 ·have:(u++v).drop j=v.drop (j-u.length):=by rw[List.drop_append,List.drop_eq_nil_of_le (by omega),List.nil_append]
  rw[this]
  exact h2 _
theorem dr_drop{k:Nat}{x:List Nat}(i:Nat)(h:DR k x):DR k (x.drop i):=fun j=>by
 rw[List.drop_drop]
 exact h _
theorem tw_prefix{u v:List Nat}:lead u<=lead (u++v):=by
 unfold lead
 rw[List.takeWhile_append]
 split
 ·rename_i e
  rw[List.length_append]
  omega
 ·exact Nat.le_refl _
theorem dr_take{k:Nat}{x:List Nat}(i:Nat)(h:DR k x):DR k (x.take i):=fun j=>by
 have e:x.drop j=(x.take i).drop j++(x.drop i).drop (j-(x.take i).length):=by
  have:=congrArg (List.drop j) (List.take_append_drop i x)
  rw[List.drop_append] at this
  exact this.symm
 have a:=h j
 rw[e] at a
 have b:=tw_prefix (u:=(x.take i).drop j) (v:=(x.drop i).drop (j-(x.take i).length))
 unfold lead at b
 omega
theorem dr_mono{k l:Nat}{x:List Nat}(h:DR k x)(hl:k<=l):DR l x:=fun j=>Nat.le_trans (h j) hl
theorem lead_filter:∀ x:List Nat,lead x<=(x.filter isD).length
 | []=>by simp[lead]
 |c::r=>by
  have ih:=lead_filter r
  unfold lead at ih ⊢
  by_cases h:isD c=true
  ·simp[List.takeWhile_cons,h,ih]
  ·have:isD c=false:=by simpa using h
   simp[List.takeWhile_cons,this]
theorem dr_few{k:Nat}{x:List Nat}(h:(x.filter isD).length<=k):DR k x:=fun j=>by
 have a:=lead_filter (x.drop j)
 have b:((x.drop j).filter isD).length<=(x.filter isD).length:=((List.drop_sublist j x).filter isD).length_le
 unfold lead at a
 omega
theorem dr_one(c:Nat):DR 1 [c]:=fun j=>by
 have:((List.drop j [c]).takeWhile isD).length<=(List.drop j [c]).length:=tw_len isD _
 simp only[List.length_drop,List.length_singleton] at this
 omega
theorem digit1:∀ n:Nat,n<10->(dec (n:Int)).length=1:=by decide +kernel
theorem lead_letters{w:List Nat}(h:MP.word w):lead w=0:=by
 obtain⟨c,r,rfl,_⟩:=word_head h
 have:isD c=false:=by
  have hc:=h.2.2 c List.mem_cons_self
  cases hd:isD c with
  |false=>rfl
  |true =>
   rw[isD_iff] at hd
   simp only[az,List.contains_iff_mem,List.mem_cons,List.not_mem_nil,or_false] at hc
   omega
 simp[lead,List.takeWhile_cons,this]
theorem dr_letters{w:List Nat}(h:∀ c∈w,az.contains c=true)(k:Nat):DR k w:=dr_few (by
 have:w.filter isD=[]:=by
  rw[List.filter_eq_nil_iff]
  intro c m hd
  have hc:=h c m
  rw[isD_iff] at hd
  simp only[az,List.contains_iff_mem,List.mem_cons,List.not_mem_nil,or_false] at hc
  omega
 rw[this]
 simp)
theorem lead_shw:∀ {f:F},Wf f->lead (shw f)=0
 | .gap n,_=>by simp[shw,lead,List.takeWhile_cons,isD]
 | .tie w [],h=>by
  simp only[shw,List.isEmpty_nil,if_true]
  exact lead_letters h.1
 | .tie w (p::ps),h=>by
  have e:shw (.tie w (p::ps))=w++([40]++joinL [44] (shws (p::ps))++[41]):=by simp[shw]
  rw[e,lead_app0 (by simp[lead,List.takeWhile_cons,isD])]
  exact lead_letters h.1
mutual
theorem dr_shw:∀ {f:F},Wf f->(∀ n∈gn f,n<10)->DR 1 (shw f)
 | .gap n,h,hn=>by
  have h10:=hn n (by simp[gn])
  obtain⟨m,rfl⟩:∃ m:Nat,n=m:=⟨n.toNat,by have:=h.1;omega⟩
  have hl:=digit1 m (by omega)
  refine dr_few ?_
  simp only[shw]
  have a:((dec (m:Int)).filter isD).length<=1:=Nat.le_trans (List.length_filter_le _ _) (by omega)
  have b:isD 63=false:=rfl
  simp only[List.filter_cons,b,Bool.false_eq_true,if_false]
  exact a
 | .tie w [],h,_=>by
  simp only[shw,List.isEmpty_nil,if_true]
  exact dr_letters h.1.2.2 1
 | .tie w (p::ps),h,hn=>by
  have e:shw (.tie w (p::ps))=w++([40]++(joinL [44] (shws (p::ps))++[41])):=by simp[shw]
  have hj:=dr_join (p::ps) h.2.2 fun n m=>hn n (by simpa[gn] using m)
  rw[e]
  refine dr_app0 (dr_letters h.1.2.2 1) (dr_app0 (dr_few (by decide)) (dr_app0 hj.1 (dr_few (by decide)) rfl) ?_) rfl
  rw[lead_app0 rfl]
  exact hj.2
theorem dr_join:∀ (ps:List F),Wfs ps->(∀ n∈gns ps,n<10)->DR 1 (joinL [44] (shws ps))/\lead (joinL [44] (shws ps))=0
 | [],_,_=>⟨dr_few (by decide),rfl⟩
 | [p],h,hn=>by
  simp only[shws,joinL]
  exact⟨dr_shw h.1 fun n m=>hn n (by simpa[gns] using m),lead_shw h.1⟩
 |p::q::r,h,hn=>by
  have e:joinL [44] (shws (p::q::r))=shw p++([44]++joinL [44] (shws (q::r))):=by simp[shws,joinL]
  have ih:=dr_join (q::r) h.2 fun n m=>hn n (by simp only[gns] at m ⊢;exact List.mem_append_right _ m)
  rw[e]
  refine⟨dr_app0 (dr_shw h.1 fun n m=>hn n (by simp only[gns];exact List.mem_append_left _ m)) (dr_app0 (dr_few (by decide)) ih.1 ih.2) rfl,?_⟩
  rw[lead_app0 rfl]
  exact lead_shw h.1
end
noncomputable def cm2(x:List Nat):Nat:=x.count 40+x.count 44
theorem cm2_app(u v:List Nat):cm2 (u++v)=cm2 u+cm2 v:=by simp only[cm2,List.count_append];omega
theorem cm2_none{w:List Nat}(h:∀ c∈w,c≠40/\c≠44/\c≠41):cm2 w=0:=by
 unfold cm2
 rw[List.count_eq_zero.mpr fun m=>(h 40 m).1 rfl,List.count_eq_zero.mpr fun m=>(h 44 m).2.1 rfl]
mutual
theorem cm2_shw:∀ {f:F},Wf f->cm2 (shw f)+1=sz f
 | .gap n,h=>by
  have:cm2 (63::dec n)=cm2 (dec n):=by
   rw[show(63::dec n)=[63]++dec n from rfl,cm2_app]
   simp[cm2]
  simp only[shw,this,cm2_none (dec_chars h.1 h.2),sz]
 | .tie w [],h=>by
  simp only[shw,List.isEmpty_nil,if_true,cm2_none (word_chars h.1),sz,szs]
 | .tie w (p::ps),h=>by
  have e:shw (.tie w (p::ps))=w++([40]++(joinL [44] (shws (p::ps))++[41])):=by simp[shw]
  have hj:=cm2_join (p::ps) h.2.2 (by simp)
  rw[e,cm2_app,cm2_app,cm2_app,cm2_none (word_chars h.1)]
  have a:cm2 [40]=1:=by decide
  have b:cm2 [41]=0:=by decide
  simp only[sz]
  omega
theorem cm2_join:∀ (ps:List F),Wfs ps->ps ≠ []->cm2 (joinL [44] (shws ps))+1=szs ps
 | [],_,h=>absurd rfl h
 | [p],h,_=>by
  have:=cm2_shw h.1
  simp only[shws,joinL,szs]
  omega
 |p::q::r,h,_=>by
  have e:joinL [44] (shws (p::q::r))=shw p++([44]++joinL [44] (shws (q::r))):=by simp[shws,joinL]
  have ih:=cm2_join (q::r) h.2 (by simp)
  have h1:=cm2_shw h.1
  rw[e,cm2_app,cm2_app]
  have a:cm2 [44]=1:=by decide
  simp only[szs] at ih ⊢
  omega
end
structure Tx(x:List Nat):Prop where
 dr:DR 9 x
 len:x.length<=900
 few:cm2 x<=38
theorem cm2_sub{x y:List Nat}(h:x.Sublist y):cm2 x<=cm2 y:=by
 have:=h.count_le 40
 have:=h.count_le 44
 unfold cm2
 omega
theorem tx_ins{x:List Nat}(h1:DR 1 x)(h2:x.length<=800)(h3:cm2 x<=36)(i j c:Nat)(hij:i<=j):Tx (x.take i++[c]++x.drop j)/\Tx (x.take i++x.drop j):=by
 have a:=dr_app (dr_take i h1) (dr_one c)
 have s:(x.take i++x.drop j).Sublist x:=by
  have e:x.drop j=(x.drop i).drop (j-i):=by rw[List.drop_drop];congr 1;omega
  have:(x.take i++x.drop j).Sublist (x.take i++x.drop i):=by rw[e];exact List.Sublist.append_left (List.drop_sublist _ _) _
  rwa [List.take_append_drop] at this
 have hc:=cm2_sub s
 have hl:=s.length_le
 simp only[List.length_append] at hl
 rw[cm2_app] at hc
 have h1c:cm2 [c]<=1:=by
  unfold cm2
  simp only[List.count_singleton]
  split<;>split<;>simp_all
 refine⟨⟨dr_mono (dr_app a (dr_drop j h1)) (by omega),?_,?_⟩,⟨dr_mono (dr_app (dr_take i h1) (dr_drop j h1)) (by omega),?_,?_⟩⟩
 ·simp only[List.length_append,List.length_singleton];omega
 ·rw[cm2_app,cm2_app];omega
 ·simp only[List.length_append];omega
 ·rw[cm2_app];omega
end MP
namespace MP
variable {P:List Fn}{W:Nat}
noncomputable abbrev gr14T:Tm:=(.op .lt (.cons (.call "_law_signs" (.cons (.var 1) .nil)) (.cons (.op .add (.cons (.con (.int 198)) (.cons (.op .mod (.cons (.op .fdiv (.cons (.var 0) (.cons (.con (.int 2)) .nil))) (.cons (.con (.int 6)) .nil))) .nil))) .nil)))
noncomputable abbrev l14B:Blk:=(.cons (.set 3 (.call "_law_spoiled" (.cons (.var 1) (.cons (.call "_law_cell_at" (.cons (.var 0) (.cons (.op .add (.cons (.con (.int 1)) (.cons (.var 2) .nil))) .nil))) .nil))))
 (.cons (.set 4 (.call "_law_due" (.cons (.var 3) .nil)))
 (.cons (.set 5 (.call "_law_told" (.cons (.var 3) .nil)))
 (.cons (.ite (.op .isN (.cons (.var 4) (.cons (.con .non) .nil))) (.cons (.ite (.op .ne (.cons (.var 5) (.cons (.op .lst (.cons (.con (.bl true)) (.cons (.con (.bl true)) (.cons (.con (.bl false)) (.cons (.con (.bl false)) .nil))))) .nil))) (.cons (.ret (.con (.bl false)))
 .nil) .nil)
 .nil) (.cons (.ite (.orT (.notT (.call "_law_is_form" (.cons (.var 5) .nil))) (.op .ne (.cons (.var 5) (.cons (.var 4) .nil)))) (.cons (.ret (.con (.bl false)))
 .nil) .nil)
 .nil))
 .nil))))
noncomputable def fn__law_odd:Fn:=⟨"_law_odd",1,2,
 (.cons (.set 1 (.op .lst (.cons (.con (.str [])) (.cons (.con (.str [63])) (.cons (.con (.str [63,48,48])) (.cons (.con (.str [63,48,49])) (.cons (.con (.str [63,49,48,48,48])) (.cons (.con (.str [63,45,49])) (.cons (.con (.str [63,49,32])) (.cons (.con (.str [32,97])) (.cons (.con (.str [65])) (.cons (.con (.str [97,49])) (.cons (.con (.str [97,98,99,100,101,102,103,104,105])) (.cons (.con (.str [97,40])) (.cons (.con (.str [97,41])) (.cons (.con (.str [97,40,41])) .nil))))))))))))))))
 (.cons (.set 1 (.op .add (.cons (.var 1) (.cons (.op .lst (.cons (.con (.str [97,40,98])) (.cons (.con (.str [97,40,98,44,41])) (.cons (.con (.str [97,40,44,98,41])) (.cons (.con (.str [97,40,98,41,41])) (.cons (.con (.str [40,97,41])) (.cons (.con (.str [97,44,98])) (.cons (.con (.str [97,40,98,41,99])) (.cons (.con (.str [63,49,40,97,41])) (.cons (.con (.str [97,40,98,44,99,44,100,44,63,49,44,63,50,41])) .nil)))))))))) .nil))))
 (.cons (.set 1 (.op .add (.cons (.var 1) (.cons (.op .lst (.cons (.con (.str [97,40,40,98,41,41])) (.cons (.con (.str [63,97])) (.cons (.con (.str [97,63,49])) (.cons (.con (.str [97,40,98,32,99,41])) (.cons (.con (.str [97,10])) (.cons (.con (.str [120,121,122,40,63,48,41])) (.cons (.con (.str [105,106,107,108,109,110,111,112])) (.cons (.con (.str [113,114,115,116,117,118,119,120,40,122,41])) .nil))))))))) .nil))))
 (.cons (.set 1 (.op .add (.cons (.var 1) (.cons (.op .lst (.cons (.con (.str [63,57,57,57])) (.cons (.con (.str [97,98,99,100,101,102,103,104,40,63,48,41])) (.cons (.con (.str [63,49,95,48])) (.cons (.con (.str [63,43,49])) (.cons (.con (.str [97,40,63,41])) (.cons (.con (.str [40,41])) .nil))))))) .nil))))
 (.cons (.ret (.op .idx (.cons (.var 1) (.cons (.op .mod (.cons (.var 0) (.cons (.op .len (.cons (.var 1) .nil)) .nil))) .nil))))
 .nil)))))⟩
noncomputable def fn__law_spoiled:Fn:=⟨"_law_spoiled",2,5,
 (.cons (.set 2 (.op .mod (.cons (.op .fdiv (.cons (.var 1) (.cons (.con (.int 5)) .nil))) (.cons (.op .add (.cons (.op .len (.cons (.var 0) .nil)) (.cons (.con (.int 1)) .nil))) .nil))))
 (.cons (.set 3 (.op .idx (.cons (.con (.str [63,40,41,44,97,122,48,49,57,32,90,45,95,46,126,96,123,9,10])) (.cons (.op .mod (.cons (.op .fdiv (.cons (.var 1) (.cons (.con (.int 500)) .nil))) (.cons (.con (.int 19)) .nil))) .nil))))
 (.cons (.set 4 (.op .mod (.cons (.var 1) (.cons (.con (.int 5)) .nil))))
 (.cons (.ite (.op .lt (.cons (.var 4) (.cons (.con (.int 2)) .nil))) (.cons (.ret (.op .add (.cons (.op .add (.cons (.op .cutT (.cons (.var 0) (.cons (.var 2) .nil))) (.cons (.var 3) .nil))) (.cons (.op .cutF (.cons (.var 0) (.cons (.var 2) .nil))) .nil))))
 .nil) .nil)
 (.cons (.ite (.op .eq (.cons (.var 4) (.cons (.con (.int 2)) .nil))) (.cons (.ret (.op .add (.cons (.op .add (.cons (.op .cutT (.cons (.var 0) (.cons (.var 2) .nil))) (.cons (.var 3) .nil))) (.cons (.op .cutF (.cons (.var 0) (.cons (.op .add (.cons (.var 2) (.cons (.con (.int 1)) .nil))) .nil))) .nil))))
 .nil) .nil)
 (.cons (.ite (.op .eq (.cons (.var 4) (.cons (.con (.int 3)) .nil))) (.cons (.ret (.op .add (.cons (.op .cutT (.cons (.var 0) (.cons (.var 2) .nil))) (.cons (.op .cutF (.cons (.var 0) (.cons (.op .add (.cons (.var 2) (.cons (.con (.int 1)) .nil))) .nil))) .nil))))
 .nil) .nil)
 (.cons (.ret (.call "_law_odd" (.cons (.op .fdiv (.cons (.var 1) (.cons (.con (.int 5)) .nil))) .nil)))
 .nil)))))))⟩
noncomputable def fn__law_told14:Fn:=⟨"_law_told",1,3,
 (.cons (.set 1 (.con .non))
 (.cons (.tryM (some 1) "read" (.cons (.var 0) .nil) "FormError" 2 1 ["BadNote","ValueError","NoForm","TooMany"])
 (.cons (.ret (.var 1))
 .nil)))⟩
noncomputable def fn__law_great14:Fn:=⟨"_law_great",1,5,
 (.cons (.set 1 (.op .tup (.cons (.con (.str [103,97,112])) (.cons (.con (.int 3)) .nil))))
 (.cons (.forS [2] (.range1 (.op .add (.cons (.con (.int 38)) (.cons (.op .mod (.cons (.op .fdiv (.cons (.var 0) (.cons (.con (.int 2)) .nil))) (.cons (.con (.int 4)) .nil))) .nil)))) grB)
 (.cons (.ite (.op .eq (.cons (.op .mod (.cons (.var 0) (.cons (.con (.int 2)) .nil))) (.cons (.con (.int 0)) .nil))) (.cons (.ret (.op .tup (.cons (.var 1) (.cons (.op .lt (.cons (.op .mod (.cons (.op .fdiv (.cons (.var 0) (.cons (.con (.int 2)) .nil))) (.cons (.con (.int 4)) .nil))) (.cons (.con (.int 2)) .nil))) .nil))))
 .nil) .nil)
 (.cons (.set 3 (.op .tup (.cons (.con (.str [116,105,101])) (.cons (.con (.str [97])) (.cons (.op .tup .nil) .nil)))))
 (.cons (.set 4 (.op .tup (.cons (.con (.str [116,105,101])) (.cons (.con (.str [102])) (.cons (.op .tup (.cons (.var 3) (.cons (.var 3) (.cons (.var 3) (.cons (.var 3) .nil))))) .nil)))))
 (.cons (.set 1 (.op .tup (.cons (.con (.str [116,105,101])) (.cons (.con (.str [103])) (.cons (.op .tup (.cons (.var 4) (.cons (.var 4) (.cons (.var 4) (.cons (.var 4) .nil))))) .nil)))))
 (.cons (.set 1 (.op .tup (.cons (.con (.str [116,105,101])) (.cons (.con (.str [104])) (.cons (.op .tup (.cons (.var 1) (.cons (.var 1) (.cons (.var 1) (.cons (.var 1) .nil))))) .nil)))))
 (.cons (.set 1 (.op .tup (.cons (.con (.str [116,105,101])) (.cons (.con (.str [104])) (.cons (.op .tup (.cons (.var 1) (.cons (.op .tup (.cons (.con (.str [116,105,101])) (.cons (.con (.str [102])) (.cons (.op .tup (.cons (.var 1) (.cons (.op .tup (.cons (.con (.str [116,105,101])) (.cons (.con (.str [102])) (.cons (.op .tup (.cons (.var 4) (.cons (.var 3) (.cons (.var 4) .nil)))) .nil)))) .nil))) .nil)))) .nil))) .nil)))))
 (.cons (.whileS gr14T grB)
 (.cons (.ret (.op .tup (.cons (.var 1) (.cons (.op .lt (.cons (.call "_law_signs" (.cons (.var 1) .nil)) (.cons (.con (.int 201)) .nil))) .nil))))
 .nil))))))))))⟩
noncomputable def fn__law_read_great:Fn:=⟨"_law_read_great",1,4,
 (.cons (.unpack [1,2] (.call "_law_great" (.cons (.var 0) .nil)))
 (.cons (.set 3 (.call "_law_told" (.cons (.call "_law_text" (.cons (.var 1) .nil)) .nil)))
 (.cons (.ite (.var 2) (.cons (.ret (.andT (.call "_law_is_form" (.cons (.var 3) .nil)) (.op .eq (.cons (.var 3) (.cons (.var 1) .nil)))))
 .nil) .nil)
 (.cons (.ret (.op .eq (.cons (.var 3) (.cons (.op .lst (.cons (.con (.bl true)) (.cons (.con (.bl true)) (.cons (.con (.bl false)) (.cons (.con (.bl false)) .nil))))) .nil))))
 .nil))))⟩
noncomputable def fn_law14:Fn:=⟨"law",1,6,
 (.cons (.ite (.op .eq (.cons (.op .mod (.cons (.call "_law_cell_at" (.cons (.var 0) (.cons (.con (.int 7)) .nil))) (.cons (.con (.int 16)) .nil))) (.cons (.con (.int 1)) .nil))) (.cons (.ret (.call "_law_read_great" (.cons (.op .fdiv (.cons (.call "_law_cell_at" (.cons (.var 0) (.cons (.con (.int 7)) .nil))) (.cons (.con (.int 16)) .nil))) .nil)))
 .nil) .nil)
 (.cons (.set 1 (.call "_law_text" (.cons (.call "_law_worded" (.cons (.call "_law_drawn" (.cons (.call "_law_cell_at" (.cons (.var 0) (.cons (.con (.int 0)) .nil))) (.cons (.con (.int 6)) (.cons (.con (.int 5)) .nil)))) (.cons (.call "_law_cell_at" (.cons (.var 0) (.cons (.con (.int 8)) .nil))) .nil))) .nil)))
 (.cons (.forS [2] (.range1 (.con (.int 6))) l14B)
 (.cons (.ret (.con (.bl true)))
 .nil))))⟩
noncomputable def odd1:List (List Nat):=[[],[63],[63,48,48],[63,48,49],[63,49,48,48,48],[63,45,49],[63,49,32],[32,97],[65],[97,49],[97,98,99,100,101,102,103,104,105],[97,40],[97,41],[97,40,41]]
theorem mo1:mkLst [R.g (.str []),R.g (.str [63]),R.g (.str [63,48,48]),R.g (.str [63,48,49]),R.g (.str [63,49,48,48,48]),R.g (.str [63,45,49]),R.g (.str [63,49,32]),R.g (.str [32,97]),R.g (.str [65]),R.g (.str [97,49]),R.g (.str [97,98,99,100,101,102,103,104,105]),R.g (.str [97,40]),R.g (.str [97,41]),R.g (.str [97,40,41])] = .lst (odd1.map G.str):=rfl
noncomputable def odd2:List (List Nat):=[[97,40,98],[97,40,98,44,41],[97,40,44,98,41],[97,40,98,41,41],[40,97,41],[97,44,98],[97,40,98,41,99],[63,49,40,97,41],[97,40,98,44,99,44,100,44,63,49,44,63,50,41]]
theorem mo2:mkLst [R.g (.str [97,40,98]),R.g (.str [97,40,98,44,41]),R.g (.str [97,40,44,98,41]),R.g (.str [97,40,98,41,41]),R.g (.str [40,97,41]),R.g (.str [97,44,98]),R.g (.str [97,40,98,41,99]),R.g (.str [63,49,40,97,41]),R.g (.str [97,40,98,44,99,44,100,44,63,49,44,63,50,41])] = .lst (odd2.map G.str):=rfl
noncomputable def odd3:List (List Nat):=[[97,40,40,98,41,41],[63,97],[97,63,49],[97,40,98,32,99,41],[97,10],[120,121,122,40,63,48,41],[105,106,107,108,109,110,111,112],[113,114,115,116,117,118,119,120,40,122,41]]
theorem mo3:mkLst [R.g (.str [97,40,40,98,41,41]),R.g (.str [63,97]),R.g (.str [97,63,49]),R.g (.str [97,40,98,32,99,41]),R.g (.str [97,10]),R.g (.str [120,121,122,40,63,48,41]),R.g (.str [105,106,107,108,109,110,111,112]),R.g (.str [113,114,115,116,117,118,119,120,40,122,41])] = .lst (odd3.map G.str):=rfl
noncomputable def odd4:List (List Nat):=[[63,57,57,57],[97,98,99,100,101,102,103,104,40,63,48,41],[63,49,95,48],[63,43,49],[97,40,63,41],[40,41]]
theorem mo4:mkLst [R.g (.str [63,57,57,57]),R.g (.str [97,98,99,100,101,102,103,104,40,63,48,41]),R.g (.str [63,49,95,48]),R.g (.str [63,43,49]),R.g (.str [97,40,63,41]),R.g (.str [40,41])] = .lst (odd4.map G.str):=rfl
noncomputable def oddA:List (List Nat):=odd1++odd2++odd3++odd4
theorem odd_tx:∀ x∈oddA,(x.filter isD).length<=9/\x.length<=900/\cm2 x<=38:=by decide +kernel
theorem run_odd(h:look P "_law_odd"=some fn__law_odd){n:Nat}(c:Int)(σ:Store):∃ x,run P W (n+1) "_law_odd" [.g (.int c)] σ = .ok (.g (.str x)) σ/\Tx x:=by
 obtain⟨m,hm⟩:∃ m:Nat,c % 37=m:=⟨(c % 37).toNat,by have:=Int.emod_nonneg c (b:=37) (by omega);omega⟩
 have hl:m<oddA.length:=by
  have:=Int.emod_lt_of_pos c (b:=37) (by omega)
  show m<37
  omega
 obtain⟨x,hx⟩:∃ x,oddA[m]?=some x:=⟨_,List.getElem?_eq_getElem hl⟩
 obtain⟨t1,t2,t3⟩:=odd_tx x (List.mem_of_getElem? hx)
 refine⟨x,?_,⟨dr_few t1,t2,t3⟩⟩
 rw[run_call h _ _ _ rfl]
 generalize run P W n=cl
 have a1:prim .add [.ref σ.length,.ref (σ.length+1)] (σ++[.lst (odd1.map .str),.lst (odd2.map .str)]) = .ok (.ref (σ.length+2)) (σ++[.lst (odd1.map .str),.lst (odd2.map .str),.lst ((odd1++odd2).map .str)]):=by
  rw[p_addL (x:=odd1.map .str) (y:=odd2.map .str) (by simp) (by simp) (by decide)];simp
 have a2:prim .add [.ref (σ.length+2),.ref (σ.length+3)] (σ++[.lst (odd1.map .str),.lst (odd2.map .str),.lst ((odd1++odd2).map .str),.lst (odd3.map .str)]) = .ok (.ref (σ.length+4)) (σ++[.lst (odd1.map .str),.lst (odd2.map .str),.lst ((odd1++odd2).map .str),.lst (odd3.map .str),.lst ((odd1++odd2++odd3).map .str)]):=by
  rw[p_addL (x:=(odd1++odd2).map .str) (y:=odd3.map .str) (by simp[List.getElem?_append_right]) (by simp[List.getElem?_append_right]) (by decide)];simp
 have a3:prim .add [.ref (σ.length+4),.ref (σ.length+5)] (σ++[.lst (odd1.map .str),.lst (odd2.map .str),.lst ((odd1++odd2).map .str),.lst (odd3.map .str),.lst ((odd1++odd2++odd3).map .str),.lst (odd4.map .str)])
  = .ok (.ref (σ.length+6)) (σ++[.lst (odd1.map .str),.lst (odd2.map .str),.lst ((odd1++odd2).map .str),.lst (odd3.map .str),.lst ((odd1++odd2++odd3).map .str),.lst (odd4.map .str),.lst (oddA.map .str)]):=by
  rw[p_addL (x:=(odd1++odd2++odd3).map .str) (y:=odd4.map .str) (by simp[List.getElem?_append_right]) (by simp[List.getElem?_append_right]) (by decide)];simp[oddA]
 generalize hC:[Cell.lst (odd1.map .str),.lst (odd2.map .str),.lst ((odd1++odd2).map .str),.lst (odd3.map .str),.lst ((odd1++odd2++odd3).map .str),.lst (odd4.map .str),.lst (oddA.map .str)]=J at a3
 have gJ:(σ++J)[σ.length+6]?=some (.lst (oddA.map .str)):=by rw[← hC];simp[List.getElem?_append_right]
 have ln:prim .len [.ref (σ.length+6)] (σ++J) = .ok (.g (.int 37)) (σ++J):=p_len (by simp only[lenOf,gJ];rfl)
 have md:prim .mod [.g (.int c),.g (.int 37)] (σ++J) = .ok (.g (.int m)) (σ++J):=by rw[p_mod (by omega),hm]
 have ix:prim .idx [.ref (σ.length+6),.g (.int m)] (σ++J) = .ok (.g (.str x)) (σ++J):=by
  rw[p_idxL gJ,at_nat (v:=G.str x) (by rw[List.getElem?_map,hx];rfl)]
  rfl
 have l1:∀ τ:Store,prim .lst [R.g (.str []),R.g (.str [63]),R.g (.str [63,48,48]),R.g (.str [63,48,49]),R.g (.str [63,49,48,48,48]),R.g (.str [63,45,49]),R.g (.str [63,49,32]),R.g (.str [32,97]),R.g (.str [65]),R.g (.str [97,49]),R.g (.str [97,98,99,100,101,102,103,104,105]),R.g (.str [97,40]),R.g (.str [97,41]),R.g (.str [97,40,41])] τ = .ok (.ref τ.length) (τ++[.lst (odd1.map .str)]):=fun τ=>by rw[p_lst (by decide),mo1]
 have l2:∀ τ:Store,prim .lst [R.g (.str [97,40,98]),R.g (.str [97,40,98,44,41]),R.g (.str [97,40,44,98,41]),R.g (.str [97,40,98,41,41]),R.g (.str [40,97,41]),R.g (.str [97,44,98]),R.g (.str [97,40,98,41,99]),R.g (.str [63,49,40,97,41]),R.g (.str [97,40,98,44,99,44,100,44,63,49,44,63,50,41])] τ = .ok (.ref τ.length) (τ++[.lst (odd2.map .str)]):=fun τ=>by rw[p_lst (by decide),mo2]
 have l3:∀ τ:Store,prim .lst [R.g (.str [97,40,40,98,41,41]),R.g (.str [63,97]),R.g (.str [97,63,49]),R.g (.str [97,40,98,32,99,41]),R.g (.str [97,10]),R.g (.str [120,121,122,40,63,48,41]),R.g (.str [105,106,107,108,109,110,111,112]),R.g (.str [113,114,115,116,117,118,119,120,40,122,41])] τ = .ok (.ref τ.length) (τ++[.lst (odd3.map .str)]):=fun τ=>by rw[p_lst (by decide),mo3]
 have l4:∀ τ:Store,prim .lst [R.g (.str [63,57,57,57]),R.g (.str [97,98,99,100,101,102,103,104,40,63,48,41]),R.g (.str [63,49,95,48]),R.g (.str [63,43,49]),R.g (.str [97,40,63,41]),R.g (.str [40,41])] τ = .ok (.ref τ.length) (τ++[.lst (odd4.map .str)]):=fun τ=>by rw[p_lst (by decide),mo4]
 generalize odd1.map G.str=A1 at *
 generalize odd2.map G.str=A2 at *
 generalize (odd1++odd2).map G.str=A3 at *
 generalize odd3.map G.str=A4 at *
 generalize (odd1++odd2++odd3).map G.str=A5 at *
 generalize odd4.map G.str=A6 at *
 simp[fn__law_odd,setSlot,l1,l2,l3,l4,a1,a2,a3,ln,md,ix]
noncomputable abbrev spC:List Nat:=[63,40,41,44,97,122,48,49,57,32,90,45,95,46,126,96,123,9,10]
theorem run_spoiled(h1:look P "_law_odd"=some fn__law_odd)(h2:look P "_law_spoiled"=some fn__law_spoiled){n:Nat}{x:List Nat}(d1:DR 1 x)(d2:x.length<=800)(d3:cm2 x<=36)(c:Int)(σ:Store):∃ y,run P W (n+2) "_law_spoiled" [.g (.str x),.g (.int c)] σ = .ok (.g (.str y)) σ/\Tx y:=by
 obtain⟨yo,eo,to⟩:=run_odd (W:=W) h1 (n:=n) (c / 5) σ
 rw[run_call h2 _ _ _ rfl]
 generalize run P W (n+1)=cl at eo
 have hp:(0:Int)<(x.length:Int)+1:=by omega
 obtain⟨i,hi⟩:∃ i:Nat,c / 5 % ((x.length:Int)+1)=i:=⟨(c / 5 % ((x.length:Int)+1)).toNat,by have:=Int.emod_nonneg (c / 5) (b:=(x.length:Int)+1) (by omega);omega⟩
 obtain⟨s,hs⟩:∃ s,at? spC (c / 500 % 19)=some s:=by
  obtain⟨j,hj⟩:∃ j:Nat,c / 500 % 19=j:=⟨(c / 500 % 19).toNat,by have:=Int.emod_nonneg (c / 500) (b:=19) (by omega);omega⟩
  have hl:j<spC.length:=by
   have:=Int.emod_lt_of_pos (c / 500) (b:=19) (by omega)
   show j<19
   omega
  exact⟨_,by rw[hj];exact at_nat (List.getElem?_eq_getElem hl)⟩
 have f5:prim .fdiv [.g (.int c),.g (.int 5)] σ = .ok (.g (.int (c / 5))) σ:=p_fdiv (by omega)
 have f500:prim .fdiv [.g (.int c),.g (.int 500)] σ = .ok (.g (.int (c / 500))) σ:=p_fdiv (by omega)
 have ln:prim .len [.g (.str x)] σ = .ok (.g (.int x.length)) σ:=p_len rfl
 have m1:prim .mod [.g (.int (c / 5)),.g (.int ((x.length:Int)+1))] σ = .ok (.g (.int i)) σ:=by rw[p_mod hp,hi]
 have m19:prim .mod [.g (.int (c / 500)),.g (.int 19)] σ = .ok (.g (.int (c / 500 % 19))) σ:=p_mod (by omega)
 have m5:prim .mod [.g (.int c),.g (.int 5)] σ = .ok (.g (.int (c % 5))) σ:=p_mod (by omega)
 have ix:prim .idx [.g (.str spC),.g (.int (c / 500 % 19))] σ = .ok (.g (.str [s])) σ:=by
  simp only[prim,pIdx,hs]
  rfl
 have ct:prim .cutT [.g (.str x),.g (.int i)] σ = .ok (.g (.str (x.take i))) σ:=p_cutT
 have cf:prim .cutF [.g (.str x),.g (.int i)] σ = .ok (.g (.str (x.drop i))) σ:=p_cutF
 have cf1:prim .cutF [.g (.str x),.g (.int ((i:Int)+1))] σ = .ok (.g (.str (x.drop (i+1)))) σ:=by
  have:=p_cutF (σ:=σ) (x:=x) (i:=i+1)
  rwa [show((i+1:Nat):Int)=(i:Int)+1 by omega] at this
 have lt:=List.length_take_le i x
 have ld:(x.drop i).length<=x.length:=by rw[List.length_drop];omega
 have ld1:(x.drop (i+1)).length<=x.length:=by rw[List.length_drop];omega
 have lt2:(x.take i).length<=x.length:=by rw[List.length_take];omega
 have ad1:prim .add [.g (.str (x.take i)),.g (.str [s])] σ = .ok (.g (.str (x.take i++[s]))) σ:=p_addS _ _ (by simp only[List.length_singleton];unfold big;omega)
 have ad2:prim .add [.g (.str (x.take i++[s])),.g (.str (x.drop i))] σ = .ok (.g (.str (x.take i++[s]++x.drop i))) σ:=p_addS _ _ (by simp only[List.length_append,List.length_singleton];unfold big;omega)
 have ad3:prim .add [.g (.str (x.take i++[s])),.g (.str (x.drop (i+1)))] σ = .ok (.g (.str (x.take i++[s]++x.drop (i+1)))) σ:=p_addS _ _ (by simp only[List.length_append,List.length_singleton];unfold big;omega)
 have ad4:prim .add [.g (.str (x.take i)),.g (.str (x.drop (i+1)))] σ = .ok (.g (.str (x.take i++x.drop (i+1)))) σ:=p_addS _ _ (by unfold big;omega)
 have t1:=tx_ins d1 d2 d3 i i s (Nat.le_refl _)
 have t2:=tx_ins d1 d2 d3 i (i+1) s (by omega)
 generalize x.take i=xt at *
 generalize x.drop i=xd at *
 generalize x.drop (i+1)=xe at *
 have e2:prim .eq [.g (.int (c % 5)),.g (.int 2)] σ = .ok (.g (.bl (decide (c % 5=2)))) σ:=by rw[p_eq _ rfl];by_cases z:c % 5=2<;>simp[peq,z]
 have e3:prim .eq [.g (.int (c % 5)),.g (.int 3)] σ = .ok (.g (.bl (decide (c % 5=3)))) σ:=by rw[p_eq _ rfl];by_cases z:c % 5=3<;>simp[peq,z]
 generalize c % 5=w at *
 generalize c / 5=c5 at *
 generalize c / 500=c500 at *
 generalize c500 % 19=c19 at *
 generalize ((i:Nat):Int)=I at *
 by_cases w1:w<2
 ·refine⟨xt++[s]++xd,?_,t1.1⟩
  simp[fn__law_spoiled,setSlot,f5,f500,ln,m1,m19,m5,ix,w1,ct,ad1,cf,ad2]
 ·by_cases w2:w=2
  ·have:decide (w=2)=true:=by simp[w2]
   rw[this] at e2
   refine⟨xt++[s]++xe,?_,t2.1⟩
   simp[fn__law_spoiled,setSlot,f5,f500,ln,m1,m19,m5,ix,w1,e2,ct,ad1,cf1,ad3]
  ·have:decide (w=2)=false:=by simp[w2]
   rw[this] at e2
   by_cases w3:w=3
   ·have:decide (w=3)=true:=by simp[w3]
    rw[this] at e3
    refine⟨xt++xe,?_,t2.2⟩
    simp[fn__law_spoiled,setSlot,f5,f500,ln,m1,m19,m5,ix,w1,e2,e3,ct,cf1,ad4]
   ·have:decide (w=3)=false:=by simp[w3]
    rw[this] at e3
    refine⟨yo,?_,to⟩
    simp[fn__law_spoiled,setSlot,f5,f500,ln,m1,m19,m5,ix,w1,e2,e3,eo]
noncomputable abbrev bad4:Cell:=.lst [.bl true,.bl true,.bl false,.bl false]
theorem told_ok{n:Nat}(h:look P "_law_told"=some fn__law_told14){x:List Nat}{f:F}{σ:Store}(e:run P W n "read" [.g (.str x)] σ = .ok (.g (enc f)) σ):run P W (n+1) "_law_told" [.g (.str x)] σ = .ok (.g (enc f)) σ:=by
 rw[run_call h _ _ _ rfl]
 generalize run P W n=cl at e
 simp[fn__law_told14,setSlot,evS_tryM,e]
theorem told_bad{n:Nat}(h:look P "_law_told"=some fn__law_told14){x:List Nat}{σ:Store}(e:run P W n "read" [.g (.str x)] σ = .exc "BadNote" σ):run P W (n+1) "_law_told" [.g (.str x)] σ = .ok (.ref σ.length) (σ++[bad4]):=by
 rw[run_call h _ _ _ rfl]
 generalize run P W n=cl at e
 have ia:isA "BadNote" "FormError"=true:=rfl
 have hm:(["BadNote","ValueError","NoForm","TooMany"].map fun d=>G.bl (isA "BadNote" d))=[.bl true,.bl true,.bl false,.bl false]:=rfl
 have fn:=fin_new (n:=σ.length) (k:=σ.length) (σ:=σ++[bad4]) (c:=bad4) (Nat.le_refl _) (by simp) rfl
 simp[fn__law_told14,setSlot,evS_tryM,e,kTM_exc _ _ _ _ ia,hm,fn]
mutual
theorem dep_le_sz:∀ f:F,dep f<=sz f
 | .gap n=>by simp[dep,sz]
 | .tie w ps=>by
  have:=deps_le_szs ps
  simp only[dep,sz]
  omega
theorem deps_le_szs:∀ ps:List F,deps ps<=szs ps
 | []=>by simp[deps]
 |x::r=>by
  have:=dep_le_sz x
  have:=deps_le_szs r
  simp only[deps,szs]
  omega
end
theorem p_neL{σ:Store}{i j:Nat}(hi:σ[i]?=some bad4)(hj:σ[j]?=some bad4):prim .ne [.ref i,.ref j] σ = .ok (.g (.bl false)) σ:=by
 simp only[prim,pNe,reqv,hi,hj]
 rfl
theorem p_eqL{σ:Store}{i j:Nat}(hi:σ[i]?=some bad4)(hj:σ[j]?=some bad4):prim .eq [.ref i,.ref j] σ = .ok (.g (.bl true)) σ:=by
 simp only[prim,pEq,reqv,hi,hj]
 rfl
theorem mk_bad4:mkLst [R.g (.bl true),R.g (.bl true),R.g (.bl false),R.g (.bl false)]=bad4:=rfl
theorem l14_loop{cl:CallH}{ns:List Int}{x:List Nat}{C0:Cell}(hca:∀ (k:Nat) (τ:Store),cl "_law_cell_at" [.ref 0,.g (.int k)] (C0::τ) = .ok (.g (.int (cellAt ns k))) (C0::τ))
 (hsp:∀ (c:Int) (τ:Store),∃ y,cl "_law_spoiled" [.g (.str x),.g (.int c)] τ = .ok (.g (.str y)) τ/\Tx y)
 (hdu:∀ (y:List Nat) (τ:Store),Tx y->cl "_law_due" [.g (.str y)] τ = .ok (.g (encO2 (dueT y))) τ)
 (hto:∀ (y:List Nat) (τ:Store),Tx y->∀ f,dueT y=some f->cl "_law_told" [.g (.str y)] τ = .ok (.g (enc f)) τ)
 (htb:∀ (y:List Nat) (τ:Store),Tx y->dueT y=none->cl "_law_told" [.g (.str y)] τ = .ok (.ref τ.length) (τ++[bad4]))
 (hif:∀ (f:F) (τ:Store),dep f<=50->cl "_law_is_form" [.g (enc f)] τ = .ok (.g (.bl true)) τ) :
 ∀ (i k:Nat) (τ:Store) (o2 o3 o4 o5:Option R),∃ o2' o3' o4' o5' τ',forL [2] (evB cl W l14B) none (rangeL (i:Int) ((i+k:Nat):Int)) [some (.ref 0),some (.g (.str x)),o2,o3,o4,o5] (C0::τ) = .ok (.next [some (.ref 0),some (.g (.str x)),o2',o3',o4',o5']) (C0::τ')
 |i,0,τ,o2,o3,o4,o5=>⟨o2,o3,o4,o5,τ,by rw[rangeL_nil (by omega),forL_nil _ _ _ rfl]⟩
 |i,k+1,τ,o2,o3,o4,o5=>by
  have e1:=hca (1+i) τ
  have hi:((1+i:Nat):Int)=1+(i:Int):=by omega
  rw[hi] at e1
  obtain⟨y,e2,ty⟩:=hsp (cellAt ns (1+i)) (C0::τ)
  have e3:=hdu y (C0::τ) ty
  have iN:=isN_enc (dueT y) (C0::τ)
  have hii:((i+1:Nat):Int)=(i:Int)+1:=by omega
  have hik:((i+1+k:Nat):Int)=((i+(k+1):Nat):Int):=by omega
  cases hd:dueT y with
  |none =>
   rw[hd] at e3 iN
   simp only[Option.isNone_none] at iN
   have e4:=htb y (C0::τ) ty hd
   have e5:prim .ne [.ref (C0::τ).length,.ref ((C0::τ).length+1)] (C0::τ++[bad4,bad4]) = .ok (.g (.bl false)) (C0::τ++[bad4,bad4]):=p_neL (by simp) (by simp)
   have iN2:=isN_enc none (C0::τ++[bad4])
   simp only[Option.isNone_none] at iN2
   obtain⟨o2',o3',o4',o5',τ',ih⟩:=l14_loop (cl:=cl) hca hsp hdu hto htb hif (i+1) k (τ++[bad4,bad4]) (some (.g (.int i))) (some (.g (.str y))) (some (.g (encO2 none))) (some (.ref (C0::τ).length))
   rw[hii,hik] at ih
   refine⟨o2',o3',o4',o5',τ',?_⟩
   rw[← ih,rangeL_cons (by omega),forL_cons _ _ _ _ _ rfl]
   generalize rangeL ((i:Int)+1) ((i+(k+1):Nat):Int)=rr
   have ls:prim .lst [R.g (.bl true),R.g (.bl true),R.g (.bl false),R.g (.bl false)] (C0::τ++[bad4]) = .ok (.ref ((C0::τ).length+1)) (C0::τ++[bad4,bad4]):=by rw[p_lst (by decide),mk_bad4];simp
   generalize hT:C0::τ=T at *
   generalize hU:T++[bad4,bad4]=U at *
   have hU':C0::(τ++[bad4,bad4])=U:=by rw[← hU, ← hT];rfl
   rw[hU']
   generalize hV:T++[bad4]=V at *
   generalize cellAt ns (1+i)=cc at *
   simp[bindTg,setSlot,e1,e2,e3,e4,iN2,ls,e5]
  |some f =>
   rw[hd] at e3 iN
   simp only[Option.isNone_some] at iN
   have e4:=hto y (C0::τ) ty f hd
   obtain⟨wf,ey⟩:=due_iff.mp hd
   have zf:=cm2_shw wf
   have df:=dep_le_sz f
   have fw:=ty.few
   rw[ey] at fw
   have e5:=hif f (C0::τ) (by omega)
   have e6:prim .ne [.g (enc f),.g (enc f)] (C0::τ) = .ok (.g (.bl false)) (C0::τ):=by
    rw[p_ne _ (shal_enc (by omega)),peq_self]
    rfl
   obtain⟨o2',o3',o4',o5',τ',ih⟩:=l14_loop (cl:=cl) hca hsp hdu hto htb hif (i+1) k τ (some (.g (.int i))) (some (.g (.str y))) (some (.g (enc f))) (some (.g (enc f)))
   rw[hii,hik] at ih
   refine⟨o2',o3',o4',o5',τ',?_⟩
   rw[← ih,rangeL_cons (by omega),forL_cons _ _ _ _ _ rfl]
   generalize rangeL ((i:Int)+1) ((i+(k+1):Nat):Int)=rr
   simp only[encO2] at e3 iN
   generalize C0::τ=T at *
   generalize cellAt ns (1+i)=cc at *
   generalize enc f=ef at *
   simp[bindTg,setSlot,e1,e2,e3,e4,iN,e5,e6]
noncomputable def leafA:F:=.tie [97] []
noncomputable def rowF:F:=.tie [102] [leafA,leafA,leafA,leafA]
noncomputable def gF:F:=.tie [103] [rowF,rowF,rowF,rowF]
noncomputable def hF:F:=.tie [104] [gF,gF,gF,gF]
noncomputable def g0:F:=.tie [104] [hF,.tie [102] [hF,.tie [102] [rowF,leafA,rowF]]]
theorem word1{c:Nat}(h:az.contains c=true):MP.word [c]:=⟨by simp,by simp,fun d m=>by rw[List.mem_singleton.mp m];exact h⟩
theorem wf_leaf:Wf leafA:=⟨word1 rfl,by simp,trivial⟩
theorem wf_row:Wf rowF:=⟨word1 rfl,by simp,wf_leaf,wf_leaf,wf_leaf,wf_leaf,trivial⟩
theorem wf_g:Wf gF:=⟨word1 rfl,by simp,wf_row,wf_row,wf_row,wf_row,trivial⟩
theorem wf_h:Wf hF:=⟨word1 rfl,by simp,wf_g,wf_g,wf_g,wf_g,trivial⟩
theorem wf_g0:Wf g0:=⟨word1 rfl,by simp,wf_h,⟨word1 rfl,by simp,wf_h,⟨word1 rfl,by simp,wf_row,wf_leaf,wf_row,trivial⟩,trivial⟩,trivial⟩
theorem sz_g0:sz g0=184:=rfl
theorem dep_g0:dep g0=6:=rfl
theorem wrap_for{cl:CallH}{e0 e3 e4:Option R}{σ:Store}:∀ (i k:Nat) (f:F) (o:Option R),∃ o',forL [2] (evB cl W grB) none (rangeL (i:Int) ((i+k:Nat):Int)) [e0,some (.g (enc f)),o,e3,e4] σ = .ok (.next [e0,some (.g (enc (wrap k f))),o',e3,e4]) σ
 |i,0,f,o=>⟨o,by rw[rangeL_nil (by omega),forL_nil _ _ _ rfl];rfl⟩
 |i,k+1,f,o=>by
  obtain⟨o',ih⟩:=wrap_for (cl:=cl) (e0:=e0) (e3:=e3) (e4:=e4) (σ:=σ) (i+1) k (.tie [102] [f]) (some (.g (.int i)))
  have hii:((i+1:Nat):Int)=(i:Int)+1:=by omega
  have hik:((i+1+k:Nat):Int)=((i+(k+1):Nat):Int):=by omega
  rw[hii,hik] at ih
  refine⟨o',?_⟩
  rw[rangeL_cons (by omega),forL_cons _ _ _ _ _ rfl]
  have ee:enc (.tie [102] [f]) = .tup [.str sTie,.str [102],.tup [enc f]]:=rfl
  rw[ee] at ih
  simp only[wrap]
  rw[← ih]
  generalize rangeL ((i:Int)+1) ((i+(k+1):Nat):Int)=rr
  simp[bindTg,setSlot,p_tup,mkTup,allG]
theorem great14_loop{cl:CallH}{c:Int}{σ:Store}{T:Nat}{e2 e3 e4:Option R}(hT:(198:Int)+c / 2 % 6=T)(hs:∀ f:F,dep f<=50->cl "_law_signs" [.g (enc f)] σ = .ok (.g (.int (sz f))) σ) :
 ∀ (k n:Nat) (f:F),T-sz f=k->k<n->dep f+k<=50->whileL (ev cl true gr14T) (evB cl W grB) n [some (.g (.int c)),some (.g (enc f)),e2,e3,e4] σ = .ok (.next [some (.g (.int c)),some (.g (enc (wrap k f))),e2,e3,e4]) σ
 |0,n,f,hk,hn,hd=>by
  obtain⟨n,rfl⟩:∃ i,n=i+1:=⟨n-1,by omega⟩
  have d1:prim .fdiv [.g (.int c),.g (.int 2)] σ = .ok (.g (.int (c / 2))) σ:=p_fdiv (by omega)
  have d2:prim .mod [.g (.int (c / 2)),.g (.int 6)] σ = .ok (.g (.int (c / 2 % 6))) σ:=p_mod (by omega)
  have:¬ ((sz f:Int)<(T:Int)):=by omega
  refine whileL_end ?_
  simp[hs f (by omega),d1,d2,hT,this]
 |k+1,n,f,hk,hn,hd=>by
  obtain⟨n,rfl⟩:∃ i,n=i+1:=⟨n-1,by omega⟩
  have d1:prim .fdiv [.g (.int c),.g (.int 2)] σ = .ok (.g (.int (c / 2))) σ:=p_fdiv (by omega)
  have d2:prim .mod [.g (.int (c / 2)),.g (.int 6)] σ = .ok (.g (.int (c / 2 % 6))) σ:=p_mod (by omega)
  have:((sz f:Int)<(T:Int)):=by omega
  have ih:=great14_loop (cl:=cl) (e2:=e2) (e3:=e3) (e4:=e4) hT hs k n (.tie [102] [f]) (by simp only[sz,szs];omega) (by omega) (by simp only[dep,deps];omega)
  rw[whileL_next (σ1:=σ) (σ2:=σ) (ε2:=[some (.g (.int c)),some (.g (enc (.tie [102] [f]))),e2,e3,e4]) (by simp[hs f (by omega),d1,d2,hT,this]) (by simp[setSlot,p_tup,mkTup,allG,enc,encs]),ih]
  rfl
theorem run_great14(h3:look P "_law_signs"=some fn__law_signs)(h4:look P "_law_great"=some fn__law_great14)(hW:200<=W){n:Nat}(hn:52<=n)(c:Int)(σ:Store) :
 ∃ (f:F) (b:Bool),run P W n "_law_great" [.g (.int c)] σ = .ok (.g (.tup [enc f,.bl b])) σ/\Wf f/\dep f<=42/\sz f<=210/\(b=true↔sz f<=200/\dep f<=40):=by
 obtain⟨k,rfl⟩:∃ k,n=k+1:=⟨n-1,by omega⟩
 have r0:0<=c / 2 % 4:=Int.emod_nonneg _ (by omega)
 have r4:c / 2 % 4<4:=Int.emod_lt_of_pos _ (by omega)
 have s0:0<=c / 2 % 6:=Int.emod_nonneg _ (by omega)
 have s6:c / 2 % 6<6:=Int.emod_lt_of_pos _ (by omega)
 have es:∀ f:F,dep f<=50->run P W k "_law_signs" [.g (enc f)] σ = .ok (.g (.int (sz f))) σ:=fun f hf=>run_lsigns h3 k f σ (by omega)
 rw[run_call h4 _ _ _ rfl]
 generalize run P W k=cl at es
 have c0:prim .mod [.g (.int c),.g (.int 2)] σ = .ok (.g (.int (c % 2))) σ:=p_mod (by omega)
 have d1:prim .fdiv [.g (.int c),.g (.int 2)] σ = .ok (.g (.int (c / 2))) σ:=p_fdiv (by omega)
 have d2:prim .mod [.g (.int (c / 2)),.g (.int 4)] σ = .ok (.g (.int (c / 2 % 4))) σ:=p_mod (by omega)
 obtain⟨m,hm⟩:∃ m:Nat,38+c / 2 % 4=m:=⟨(38+c / 2 % 4).toNat,by omega⟩
 have hr:wRange (.g (.int 0)) (.g (.int (38+c / 2 % 4))) σ = .ok ⟨rangeL 0 (38+c / 2 % 4),none⟩ σ:=wRange_ok (by simp[small,big];omega)
 obtain⟨o',lf⟩:=wrap_for (W:=W) (cl:=cl) (e0:=some (.g (.int c))) (e3:=none) (e4:=none) (σ:=σ) 0 m (.gap 3) none
 have hz:((0:Nat):Int)=0:=rfl
 rw[Nat.zero_add,hz, ← hm] at lf
 have eg:enc (.gap 3) = .tup [.str sGap,.int 3]:=rfl
 rw[eg] at lf
 obtain⟨a,b,d⟩:=wrap_dep m (.gap 3)
 have b1:dep (.gap 3)=1:=rfl
 have b2:sz (.gap 3)=1:=rfl
 generalize hfm:wrap m (.gap 3)=fm at *
 by_cases h:c % 2=0
 ·have t:prim .eq [.g (.int (c % 2)),.g (.int 0)] σ = .ok (.g (.bl true)) σ:=by rw[p_eq _ rfl,h];rfl
  refine⟨fm,decide (c / 2 % 4<2),?_,d ⟨by omega,by omega⟩,by omega,by omega,?_⟩
  ·generalize enc fm=ef at *
   simp[fn__law_great14,setSlot,p_tup,mkTup,allG,d1,d2,hr,lf,c0,t]
  ·rw[decide_eq_true_iff]
   omega
 ·have t:prim .eq [.g (.int (c % 2)),.g (.int 0)] σ = .ok (.g (.bl false)) σ:=by rw[p_eq _ rfl];simp[peq,h]
  obtain⟨T,hT⟩:∃ T:Nat,(198:Int)+c / 2 % 6=T:=⟨(198+c / 2 % 6).toNat,by omega⟩
  have lp:=great14_loop (W:=W) (cl:=cl) (σ:=σ) (e2:=o') (e3:=some (.g (enc leafA))) (e4:=some (.g (enc rowF))) hT es (T-sz g0) W g0 rfl (by rw[sz_g0];omega) (by rw[sz_g0,dep_g0];omega)
  obtain⟨a',b',d'⟩:=wrap_dep (T-sz g0) g0
  have z0:=sz_g0
  have y0:=dep_g0
  generalize hgm:wrap (T-sz g0) g0=gm at *
  have eS:=es gm (by omega)
  refine⟨gm,decide (sz gm<201),?_,d' wf_g0,by omega,by omega,?_⟩
  ·have q1:G.tup [.str [116,105,101],.str [97],.tup []]=enc leafA:=rfl
   have q2:G.tup [.str [116,105,101],.str [102],.tup [enc leafA,enc leafA,enc leafA,enc leafA]]=enc rowF:=rfl
   have q3:G.tup [.str [116,105,101],.str [103],.tup [enc rowF,enc rowF,enc rowF,enc rowF]]=enc gF:=rfl
   have q4:G.tup [.str [116,105,101],.str [104],.tup [enc gF,enc gF,enc gF,enc gF]]=enc hF:=rfl
   have q5:G.tup [.str [116,105,101],.str [104],.tup [enc hF,.tup [.str [116,105,101],.str [102],.tup [enc hF,.tup [.str [116,105,101],.str [102],.tup [enc rowF,enc leafA,enc rowF]]]]]]=enc g0:=rfl
   have lt:((sz gm:Int)<201)↔sz gm<201:=by omega
   generalize enc leafA=A at *
   generalize enc rowF=B at *
   generalize enc gF=C at *
   generalize enc hF=D at *
   generalize enc g0=E at *
   generalize enc gm=G' at *
   generalize enc fm=ef at *
   simp[fn__law_great14,setSlot,p_tup,mkTup,allG,d1,d2,hr,lf,c0,t,q1,q2,q3,q4,q5,evS_while,lp,eS,lt]
  ·rw[decide_eq_true_iff]
   omega
theorem read_many(L:Lk P)(R:Rd P)(h:look P "read"=some fn_read)(hW:9<=W){k d:Nat}(f:F)(σ:Store)(hk:dep f<=k)(wf:Wf f)(hz:200<sz f\/40<dep f)(hb:sz f<=big):run P W (d+3*k+3) "read" [.g (.str (shw f))] σ = .exc "BadNote" σ:=by
 have hp:=dep_pos f
 have e1:=run_read_form (P:=P) (W:=W) R hW (d:=d) k f (shw f) [] 0 σ hk wf (by simp) (fun c r z=>by cases z)
 have e2:=run_looked_many (W:=W) L (n:=d+3*k+2) f σ (by omega) hb (fun x hx=>right_of (Wf_sgn wf x hx)) hz
 rw[run_call h _ _ _ rfl]
 generalize run P W (d+3*k+2)=cl at e1 e2
 have ln:prim .len [.g (.str (shw f))] σ = .ok (.g (.int (shw f).length)) σ:=p_len rfl
 have l0:((0+(shw f).length:Nat):Int)=((shw f).length:Int):=by omega
 rw[l0] at e1
 have e1':cl "read_form" [.g (.str (shw f)),.g (.int 0)] σ = .ok (.g (.tup [enc f,.int ((shw f).length:Int)])) σ:=e1
 generalize ((shw f).length:Int)=E at *
 simp[fn_read,setSlot,e1',at_three,ln,e2,kTR_exc (x:="TooMany") (c:="FormError") "BadNote" _ rfl]
theorem run_read_great(L:Lk P)(D:Rd P)(h1:look P "read"=some fn_read)(h2:look P "_law_told"=some fn__law_told14)(h3:look P "_law_signs"=some fn__law_signs)(h4:look P "_law_great"=some fn__law_great14)(h5:look P "_law_text"=some fn__law_text)(h6:look P "_law_whole"=some fn__law_whole)(h7:look P "_law_is_form"=some fn__law_is_form)
 (h8:look P "_law_read_great"=some fn__law_read_great) (hW:1000<=W) (c:Int) (σ:Store):∃ σ',run P W 134 "_law_read_great" [.g (.int c)] σ = .ok (.g (.bl true)) (σ++σ'):=by
 obtain⟨f,b,e1,wf,df,zf,hb⟩:=run_great14 (P:=P) (W:=W) h3 h4 (by omega) (n:=133) (by omega) c σ
 have e2:=run_ltext (W:=W) h5 133 f σ (by omega) (by omega) wf (by omega)
 rw[run_call h8 _ _ _ rfl]
 cases b with
 |true =>
  have bd:=hb.mp rfl
  have e3:=told_ok (P:=P) (W:=W) h2 (run_read (W:=W) L D h1 (by omega) (n:=132) (k:=43) (d:=0) f σ rfl (by omega) wf bd.1 bd.2)
  have e4:=run_is_form (W:=W) h6 h7 133 f σ (by omega)
  have e5:prim .eq [.g (enc f),.g (enc f)] σ = .ok (.g (.bl true)) σ:=by
   rw[p_eq _ (shal_enc (by omega)),peq_self]
  generalize run P W 133=cl at *
  generalize enc f=ef at *
  refine⟨[],?_⟩
  simp[fn__law_read_great,setSlot,e1,e2,e3,e4,e5,parts,setSlots,tru,ofO,okG]
 |false =>
  have bd:¬ (sz f<=200/\dep f<=40):=fun z=>by have:=hb.mpr z;cases this
  have e3:=told_bad (P:=P) (W:=W) h2 (read_many (W:=W) L D h1 (by omega) (k:=43) (d:=0) f σ (by omega) wf (by omega) (by unfold big;omega))
  have e3':run P W 133 "_law_told" [.g (.str (shw f))] σ = .ok (.ref σ.length) (σ++[bad4]):=e3
  have ls:prim .lst [R.g (.bl true),R.g (.bl true),R.g (.bl false),R.g (.bl false)] (σ++[bad4]) = .ok (.ref (σ.length+1)) (σ++[bad4,bad4]):=by rw[p_lst (by decide),mk_bad4];simp
  have e5:prim .eq [.ref σ.length,.ref (σ.length+1)] (σ++[bad4,bad4]) = .ok (.g (.bl true)) (σ++[bad4,bad4]):=p_eqL (by simp) (by simp[List.getElem?_append_right])
  generalize run P W 133=cl at *
  generalize enc f=ef at *
  refine⟨[],?_⟩
  generalize hU:σ++[bad4,bad4]=U at *
  have hk:U.take σ.length=σ:=by rw[← hU];simp
  simp[fn__law_read_great,setSlot,e1,e2,e3',ls,e5,parts,setSlots,hk,tru,ofO,okG]
noncomputable def P14:List Fn:=[fn_is_gap,fn_parts_of,fn_signs_of,fn_depth_of,fn_is_word,fn_is_right,fn_looked,fn_sign_at,fn_run_end,fn_read_gap,fn_read_tie,fn_read_parts,fn_read_form,fn_read,fn__law_cell_at,fn__law_whole,fn__law_form,fn__law_drawn,fn__law_is_form,fn__law_text,fn__law_name,fn__law_leaf,fn__law_due,fn__law_odd,fn__law_told14,fn__law_spoiled,fn__law_signs,fn__law_great14,fn__law_read_great,fn__law_worded,fn_law14]
theorem law14(hW:1000<=W)(hW2:W<=2000)(ns:List Int):∃ σ',run P14 W 135 "law" [.ref 0] [.rdl (ns.map .int)] = .ok (.g (.bl true)) σ':=by
 have lL:look P14 "law"=some fn_law14:=rfl
 have LK:Lk P14:=⟨rfl,rfl,rfl,rfl,rfl,rfl,rfl⟩
 have RD:Rd P14:=⟨rfl,rfl,rfl,rfl,rfl,rfl⟩
 have h1:look P14 "read"=some fn_read:=rfl
 have h2:look P14 "_law_told"=some fn__law_told14:=rfl
 have h3:look P14 "_law_signs"=some fn__law_signs:=rfl
 have h4:look P14 "_law_great"=some fn__law_great14:=rfl
 have h5:look P14 "_law_text"=some fn__law_text:=rfl
 have h6:look P14 "_law_whole"=some fn__law_whole:=rfl
 have h7:look P14 "_law_is_form"=some fn__law_is_form:=rfl
 have h8:look P14 "_law_read_great"=some fn__law_read_great:=rfl
 have h9:look P14 "_law_cell_at"=some fn__law_cell_at:=rfl
 have h10:look P14 "_law_form"=some fn__law_form:=rfl
 have h11:look P14 "_law_drawn"=some fn__law_drawn:=rfl
 have h12:look P14 "_law_worded"=some fn__law_worded:=rfl
 have h13:look P14 "_law_odd"=some fn__law_odd:=rfl
 have h14:look P14 "_law_spoiled"=some fn__law_spoiled:=rfl
 have h15:look P14 "_law_name"=some fn__law_name:=rfl
 have h16:look P14 "_law_leaf"=some fn__law_leaf:=rfl
 have h17:look P14 "_law_due"=some fn__law_due:=rfl
 rw[run_call lL 134 _ _ rfl]
 have c7:run P14 W 134 "_law_cell_at" [.ref 0,.g (.int 7)] [.rdl (ns.map .int)]=_:=run_cell_at (W:=W) h9 (n:=133) (s:=0) (ns:=ns) 7 [.rdl (ns.map .int)] rfl
 have c0:run P14 W 134 "_law_cell_at" [.ref 0,.g (.int 0)] [.rdl (ns.map .int)]=_:=run_cell_at (W:=W) h9 (n:=133) (s:=0) (ns:=ns) 0 [.rdl (ns.map .int)] rfl
 have c8:run P14 W 134 "_law_cell_at" [.ref 0,.g (.int 8)] [.rdl (ns.map .int)]=_:=run_cell_at (W:=W) h9 (n:=133) (s:=0) (ns:=ns) 8 [.rdl (ns.map .int)] rfl
 obtain⟨f0,e0,g1,g2,g3⟩:=run_drawnB (W:=W) h10 h11 (n:=134) (d:=5) (by omega) (by omega) (cellAt ns 0) 6 [.rdl (ns.map .int)]
 obtain⟨f1,e1,d1,z1,w1,n1⟩:=run_wordedG (W:=W) h12 (cellAt ns 8) (many:=6) (by omega) 134 f0 (by omega) g2
 have e1:=e1 [.rdl (ns.map .int)]
 have zf:sz f1<=36:=by omega
 have e2:=run_ltext (W:=W) h5 134 f1 [.rdl (ns.map .int)] (by omega) (by omega) w1 (by omega)
 have sl:=shw_len w1
 have cm:=cm2_shw w1
 have dr:=dr_shw w1 fun n m=>by
  rw[n1] at m
  have:=okF_gn g2 n m
  omega
 obtain⟨σg,eg⟩:=run_read_great (P:=P14) (W:=W) LK RD h1 h2 h3 h4 h5 h6 h7 h8 hW (cellAt ns 7 / 16) [.rdl (ns.map .int)]
 obtain⟨o2,o3,o4,o5,τ',lp⟩:=l14_loop (W:=W) (cl:=run P14 W 134) (ns:=ns) (x:=shw f1) (C0:=.rdl (ns.map .int)) (fun k τ=>run_cell_at (W:=W) h9 (n:=133) (s:=0) (ns:=ns) k _ rfl)
  (fun c τ=>run_spoiled (W:=W) h13 h14 (n:=132) dr (by omega) (by omega) c τ)
  (fun y τ ty=>run_due (W:=W) h15 h16 h17 (n:=131) y (by have:=ty.len;omega) τ)
  (fun y τ ty f hd=>by
    obtain⟨wf,ey⟩:=due_iff.mp hd
    have zz:=cm2_shw wf
    have fw:=ty.few
    rw[ey] at fw ⊢
    have df:=dep_le_sz f
    exact told_ok (P:=P14) (W:=W) h2 (run_read (W:=W) LK RD h1 (by omega) (n:=133) (k:=43) (d:=1) f τ rfl (by omega) wf (by omega) (by omega)))
  (fun y τ ty hd=>told_bad (P:=P14) (W:=W) h2 (read_bad (W:=W) LK RD h1 ty.dr (by have:=ty.len;omega) hW hW2 (k:=43) (d:=1) (by have:=ty.few;unfold cm2 at this;omega) hd τ))
  (fun f τ hf=>run_is_form (W:=W) h6 h7 134 f τ (by omega)) 0 6 [] none none none none
 generalize run P14 W 134=cl at *
 generalize hσ:[Cell.rdl (ns.map .int)]=σ at *
 have m16:prim .mod [.g (.int (cellAt ns 7)),.g (.int 16)] σ = .ok (.g (.int (cellAt ns 7 % 16))) σ:=p_mod (by omega)
 have f16:prim .fdiv [.g (.int (cellAt ns 7)),.g (.int 16)] σ = .ok (.g (.int (cellAt ns 7 / 16))) σ:=p_fdiv (by omega)
 by_cases c:cellAt ns 7 % 16=1
 ·have t:prim .eq [.g (.int (cellAt ns 7 % 16)),.g (.int 1)] σ = .ok (.g (.bl true)) σ:=by rw[p_eq _ rfl,c];rfl
  exact⟨σ,by simp[fn_law14,c7,m16,t,f16,eg]⟩
 ·have t:prim .eq [.g (.int (cellAt ns 7 % 16)),.g (.int 1)] σ = .ok (.g (.bl false)) σ:=by rw[p_eq _ rfl];simp[peq,c]
  have hr:wRange (.g (.int 0)) (.g (.int 6)) σ = .ok ⟨rangeL 0 6,none⟩ σ:=wRange_ok (by simp[small,big])
  have hl:rangeL ((0:Nat):Int) ((0+6:Nat):Int)=rangeL 0 6:=rfl
  rw[hl] at lp
  have lp':forL [2] (evB cl W l14B) none (rangeL 0 6) [some (.ref 0),some (.g (.str (shw f1))),none,none,none,none] σ = .ok (.next [some (.ref 0),some (.g (.str (shw f1))),o2,o3,o4,o5]) (.rdl (ns.map .int)::τ'):=lp
  have e0':cl "_law_drawn" [.g (.int (cellAt ns 0)),.g (.int 6),.g (.int 5)] σ = .ok (.g (enc f0)) σ:=e0
  generalize enc f0=ef0 at *
  generalize enc f1=ef1 at *
  have hl1:σ.length=1:=by rw[← hσ];rfl
  exact⟨σ,by simp[fn_law14,setSlot,c7,m16,t,c0,c8,e0',e1,e2,hr,lp',hl1,hσ]⟩
end MP
namespace SN
open PySem PySem.Spec PyProof.Rows L2 MP
noncomputable def sOf(x:List Nat):Str:=⟨x.toArray⟩
theorem sOf_inj{x y:List Nat}(h:sOf x=sOf y):x=y:=by
 unfold sOf at h
 have:=congrArg (fun z=>z.cps.toList) h
 simpa using this
theorem sOf_len(x:List Nat):(sOf x).length=x.length:=by
 unfold sOf Str.length
 simp
noncomputable def okS(x:List Nat):Bool:=decide (x.length<=16777216) && x.all fun c=>decide (c<1114112)
theorem okS_len{x:List Nat}(h:okS x=true):x.length<=16777216:=by
 simp only[okS,Bool.and_eq_true,decide_eq_true_eq] at h
 exact h.1
theorem okS_all{x:List Nat}(h:okS x=true):(x.all fun c=>decide (c<1114112))=true:=by
 simp only[okS,Bool.and_eq_true] at h
 exact h.2
theorem okS_of{x:List Nat}(h1:x.length<=16777216)(h2:(x.all fun c=>decide (c<1114112))=true):okS x=true:=by
 simp only[okS,Bool.and_eq_true,decide_eq_true_eq]
 exact⟨h1,h2⟩
inductive TupAt (H:Hp) (v:V) (P:List V->Prop):Prop
 |mk (a:Addr) (vs:List V) (e:v = .ref a) (h:H a=some (.tup vs)) (p:P vs)
inductive ConsAt (vs:List V) (P:V->Prop) (Q:List V->Prop):Prop
 |mk (v:V) (r:List V) (e:vs=v::r) (p:P v) (q:Q r)
mutual
noncomputable def RG(H:Hp):G->V->Prop
 | .non,v=>v = .non
 | .bl b,v=>v = .bl b
 | .int i,v=>v = .int i
 | .str x,v=>v = .str (sOf x)/\okS x=true
 | .tup xs,v=>TupAt H v fun vs=>RGs H xs vs
noncomputable def RGs(H:Hp):List G->List V->Prop
 | [],vs=>vs=[]
 |x::xs,vs=>ConsAt vs (fun v=>RG H x v) fun r=>RGs H xs r
end
noncomputable def TPk(H H':Hp):Prop:=∀ a vs,H a=some (.tup vs)->H' a=some (.tup vs)
mutual
theorem RG.mono{H H':Hp}(t:TPk H H'):∀ (x:G) {v:V},RG H x v->RG H' x v
 | .non,_,h=>h
 | .bl _,_,h=>h
 | .int _,_,h=>h
 | .str _,_,h=>h
 | .tup xs,_,h=>by
  obtain⟨a,vs,e,ha,r⟩:=h
  exact⟨a,vs,e,t a vs ha,RGs.mono t xs r⟩
theorem RGs.mono{H H':Hp}(t:TPk H H'):∀ (xs:List G) {vs:List V},RGs H xs vs->RGs H' xs vs
 | [],_,h=>h
 |x::xs,_,h=>by
  obtain⟨v,r,e,h1,h2⟩:=h
  exact⟨v,r,e,RG.mono t x h1,RGs.mono t xs h2⟩
end
theorem RGs.length{H:Hp}:∀ {xs:List G} {vs:List V},RGs H xs vs->vs.length=xs.length
 | [],_,h=>by cases h;rfl
 |x::xs,_,h=>by
  obtain⟨v,r,rfl,_,h2⟩:=h
  rw[List.length_cons,List.length_cons,RGs.length h2]
theorem RGs.get{H:Hp}:∀ {xs:List G} {vs:List V} {i:Nat} {x:G},RGs H xs vs->xs[i]?=some x->∃ v,vs[i]?=some v/\RG H x v
 | [],_,_,_,_,e=>by simp at e
 |y::xs,_,0,x,h,e=>by
  obtain⟨v,r,rfl,h1,h2⟩:=h
  simp at e;subst e
  exact⟨v,rfl,h1⟩
 |y::xs,_,i+1,x,h,e=>by
  obtain⟨v,r,rfl,h1,h2⟩:=h
  obtain⟨u,h3,h4⟩:=RGs.get (i:=i) (x:=x) h2 (by simpa using e)
  exact⟨u,by simpa using h3,h4⟩
theorem RGs.append{H:Hp}:∀ {xs ys:List G} {vs us:List V},RGs H xs vs->RGs H ys us->RGs H (xs++ys) (vs++us)
 | [],_,_,_,h,k=>by cases h;exact k
 |x::xs,_,_,_,h,k=>by
  obtain⟨v,r,rfl,h1,h2⟩:=h
  exact⟨v,r++_,rfl,h1,RGs.append h2 k⟩
theorem RGs.drop{H:Hp}:∀ {xs:List G} {vs:List V} (n:Nat),RGs H xs vs->RGs H (xs.drop n) (vs.drop n)
 |_,_,0,h=>h
 | [],_,n+1,h=>by cases h;rfl
 |x::xs,_,n+1,h=>by
  obtain⟨v,r,rfl,h1,h2⟩:=h
  exact RGs.drop n h2
theorem RGs.take{H:Hp}:∀ {xs:List G} {vs:List V} (n:Nat),RGs H xs vs->RGs H (xs.take n) (vs.take n)
 |_,_,0,_=>by simp[RGs]
 | [],_,n+1,h=>by cases h;simp[RGs]
 |x::xs,_,n+1,h=>by
  obtain⟨v,r,rfl,h1,h2⟩:=h
  exact⟨v,r.take n,rfl,h1,RGs.take n h2⟩
theorem RGs.set{H:Hp}{y:G}{u:V}(hy:RG H y u):∀ {xs:List G} {vs:List V} (n:Nat),RGs H xs vs->RGs H (xs.set n y) (vs.set n u)
 | [],_,_,h=>by cases h;rfl
 |x::xs,_,0,h=>by
  obtain⟨v,r,rfl,h1,h2⟩:=h
  exact⟨u,r,rfl,hy,h2⟩
 |x::xs,_,n+1,h=>by
  obtain⟨v,r,rfl,h1,h2⟩:=h
  exact⟨v,r.set n u,rfl,h1,RGs.set hy n h2⟩
mutual
noncomputable def RR(H:Hp)(ρ:Nat->Addr)(n:Nat):R->V->Prop
 | .g x,v=>RG H x v
 | .ref i,v=>i<n/\v = .ref (ρ i)
 | .tr xs,v=>TupAt H v fun vs=>RRs H ρ n xs vs
noncomputable def RRs(H:Hp)(ρ:Nat->Addr)(n:Nat):List R->List V->Prop
 | [],vs=>vs=[]
 |x::xs,vs=>ConsAt vs (fun v=>RR H ρ n x v) fun r=>RRs H ρ n xs r
end
mutual
theorem RR.mono{H H':Hp}{ρ ρ':Nat->Addr}{n n':Nat}(t:TPk H H')(hn:n<=n')(ag:∀ i,i<n->ρ' i=ρ i):∀ (x:R) {v:V},RR H ρ n x v->RR H' ρ' n' x v
 | .g x,_,h=>RG.mono t x h
 | .ref i,_,h=>⟨Nat.lt_of_lt_of_le h.1 hn,by rw[ag i h.1];exact h.2⟩
 | .tr xs,_,h=>by
  obtain⟨a,vs,e,ha,r⟩:=h
  exact⟨a,vs,e,t a vs ha,RRs.mono t hn ag xs r⟩
theorem RRs.mono{H H':Hp}{ρ ρ':Nat->Addr}{n n':Nat}(t:TPk H H')(hn:n<=n')(ag:∀ i,i<n->ρ' i=ρ i):∀ (xs:List R) {vs:List V},RRs H ρ n xs vs->RRs H' ρ' n' xs vs
 | [],_,h=>h
 |x::xs,_,h=>by
  obtain⟨v,r,e,h1,h2⟩:=h
  exact⟨v,r,e,RR.mono t hn ag x h1,RRs.mono t hn ag xs h2⟩
end
theorem RRs.length{H:Hp}{ρ:Nat->Addr}{n:Nat}:∀ {xs:List R} {vs:List V},RRs H ρ n xs vs->vs.length=xs.length
 | [],_,h=>by cases h;rfl
 |x::xs,_,h=>by
  obtain⟨v,r,rfl,_,h2⟩:=h
  rw[List.length_cons,List.length_cons,RRs.length h2]
theorem RRs.get{H:Hp}{ρ:Nat->Addr}{n:Nat}:∀ {xs:List R} {vs:List V} {i:Nat} {x:R},RRs H ρ n xs vs->xs[i]?=some x->∃ v,vs[i]?=some v/\RR H ρ n x v
 | [],_,_,_,_,e=>by simp at e
 |y::xs,_,0,x,h,e=>by
  obtain⟨v,r,rfl,h1,h2⟩:=h
  simp at e;subst e
  exact⟨v,rfl,h1⟩
 |y::xs,_,i+1,x,h,e=>by
  obtain⟨v,r,rfl,h1,h2⟩:=h
  obtain⟨u,h3,h4⟩:=RRs.get (i:=i) (x:=x) h2 (by simpa using e)
  exact⟨u,by simpa using h3,h4⟩
theorem RRs.ofG{H:Hp}{ρ:Nat->Addr}{n:Nat}:∀ {xs:List R} {gs:List G} {vs:List V},allG xs=some gs->RRs H ρ n xs vs->RGs H gs vs
 | [],_,_,e,h=>by simp[allG] at e;subst e;exact h
 | .g x::r,gs,_,e,h=>by
  obtain⟨v,us,rfl,h1,h2⟩:=h
  simp only[allG,Option.map_eq_some_iff] at e
  obtain⟨t,e1,rfl⟩:=e
  exact⟨v,us,rfl,h1,RRs.ofG e1 h2⟩
 | .ref _::_,_,_,e,_=>by simp[allG] at e
 | .tr _::_,_,_,e,_=>by simp[allG] at e
theorem RRs.toG{H:Hp}{ρ:Nat->Addr}{n:Nat}:∀ {gs:List G} {vs:List V},RGs H gs vs->RRs H ρ n (gs.map .g) vs
 | [],_,h=>h
 |x::xs,_,h=>by
  obtain⟨v,r,e,h1,h2⟩:=h
  exact⟨v,r,e,h1,RRs.toG h2⟩
noncomputable def keyOf:G->Option Key
 | .int i=>some (.inl i)
 | .str x=>some (.inr (sOf x))
 |_=>none
inductive KvAt (ws:List (Key × V)) (g:Option Key) (P:V->Prop) (Q:List (Key × V)->Prop):Prop
 |mk (k:Key) (v:V) (r:List (Key × V)) (e:ws=(k,v)::r) (h:g=some k) (p:P v) (q:Q r)
noncomputable def RKs(H:Hp):List (G × G)->List (Key × V)->Prop
 | [],ws=>ws=[]
 |p::kvs,ws=>KvAt ws (keyOf p.1) (fun v=>RG H p.2 v) fun r=>RKs H kvs r
theorem RKs.length{H:Hp}:∀ {kvs:List (G × G)} {ws:List (Key × V)},RKs H kvs ws->ws.length=kvs.length
 | [],_,h=>by cases h;rfl
 |p::kvs,_,h=>by
  obtain⟨k,v,r,rfl,_,_,h3⟩:=h
  rw[List.length_cons,List.length_cons,RKs.length h3]
class Wd where
 w:World
variable [Wd]
inductive NAt (g:G) (xs:List (G × Addr × Value)) (P:V->Prop) (P':V->Prop) (Q:List (G × Addr × Value)->Prop):Prop
 |mk (a:Addr) (v:V) (u:Value) (r:List (G × Addr × Value)) (e:xs=(g,a,u)::r) (p:P (.ref a)) (p':P' v) (h:RelV v u) (q:Q r)
noncomputable def RN(H:Hp):List (G × G)->List (G × Addr × Value)->Prop
 | [],xs=>xs=[]
 |p::kvs,xs=>NAt p.1 xs (fun v=>RG H p.1 v) (fun v=>RG H p.2 v) fun r=>RN H kvs r
inductive HAt {α:Type} (P Q:α->Prop):Prop
 |mk (x:α) (p:P x) (q:Q x)
inductive HAt2 {α β:Type} (P Q:α->β->Prop):Prop
 |mk (x:α) (y:β) (p:P x y) (q:Q x y)
noncomputable def RC(H:Hp)(ρ:Nat->Addr)(i:Nat):Cell->Prop
 | .lst xs=>HAt (fun vs=>H (ρ i)=some (.lst vs)) fun vs=>RGs H xs vs
 | .rdl xs=>HAt (fun vs=>Rd H (ρ i) (.lst vs)) fun vs=>RGs H xs vs
 | .rls xs=>HAt (fun vs=>H (ρ i)=some (.lst vs)) fun vs=>RRs H ρ i xs vs
 | .stk m xs=>HAt (fun vs=>H (ρ i)=some (.lst vs)) fun vs=>m=0\/RRs H ρ m xs vs
 |_=>(fun _:World=>False) Wd.w
structure SR(H:Hp)(ρ:Nat->Addr)(σ:Store):Prop where
 cell:∀ i c,σ[i]?=some c->RC H ρ i c
 inj:∀ i j,i<σ.length->j<σ.length->ρ i=ρ j->i=j
 bd:∀ (i m:Nat) (xs:List R),σ[i]?=some (Cell.stk m xs)->m<=σ.length
theorem RC.at{H:Hp}{ρ:Nat->Addr}{i:Nat}{c:Cell}(h:RC H ρ i c):∃ o,H (ρ i)=some o/\∀ vs,o ≠ .tup vs:=by
 cases c with
 |lst xs=>obtain⟨vs,e,_⟩:=h;exact⟨_,e,fun _ z=>by cases z⟩
 |rdl xs =>
  obtain⟨vs,e,_⟩:=h
  rcases e with e | ⟨o,e⟩
  ·exact⟨_,e,fun _ z=>by cases z⟩
  ·exact⟨_,e,fun _ z=>by cases z⟩
 |rls xs=>obtain⟨vs,e,_⟩:=h;exact⟨_,e,fun _ z=>by cases z⟩
 |stk m xs=>obtain⟨vs,e,_⟩:=h;exact⟨_,e,fun _ z=>by cases z⟩
 |_=>exact(show False from h).elim
theorem SR.at{H:Hp}{ρ:Nat->Addr}{σ:Store}(S:SR H ρ σ){i:Nat}(hi:i<σ.length):∃ o,H (ρ i)=some o/\∀ vs,o ≠ .tup vs :=
 (S.cell i σ[i] (by simp[hi])).at
theorem SR.lt{σ:Store}{i:Nat}{c:Cell}(e:σ[i]?=some c):i<σ.length:=by
 have:=List.getElem?_eq_some_iff.mp e
 exact this.1
structure Ext(ρ:Nat->Addr)(n:Nat)(H:Hp)(ρ':Nat->Addr)(n':Nat)(H':Hp):Prop where
 le:n<=n'
 ag:∀ i,i<n->ρ' i=ρ i
 fr:∀ i,n<=i->i<n'->H (ρ' i)=none
 kp:∀ a o,H a=some o->(∀ i,i<n->ρ i≠a)->H' a=some o
 fz:∀ a o u,H a=some (.frz o u)->H' a=some (.frz o u)
theorem Ext.refl(ρ:Nat->Addr)(n:Nat)(H:Hp):Ext ρ n H ρ n H:=⟨Nat.le_refl _,fun _ _=>rfl,fun i h1 h2=>absurd h2 (Nat.not_lt.mpr h1),fun _ _ e _=>e,fun _ _ _ e=>e⟩
theorem Ext.trans{ρ ρ1 ρ2:Nat->Addr}{n n2:Nat}{σ1:Store}{H H1 H2:Hp}(a:Ext ρ n H ρ1 σ1.length H1)(S:SR H1 ρ1 σ1)(b:Ext ρ1 σ1.length H1 ρ2 n2 H2):Ext ρ n H ρ2 n2 H2 where
 le:=Nat.le_trans a.le b.le
 ag:=fun i h=>by rw[b.ag i (Nat.lt_of_lt_of_le h a.le),a.ag i h]
 fr:=fun i h1 h2=>by
  by_cases h:i<σ1.length
  ·rw[b.ag i h];exact a.fr i h1 h
  ·have q:=b.fr i (Nat.not_lt.mp h) h2
   cases e:H (ρ2 i) with
   |none=>rfl
   |some o =>
    exfalso
    by_cases z:∃ j,j<n/\ρ j=ρ2 i
    ·obtain⟨j,hj,ej⟩:=z
     obtain⟨o',e',_⟩:=S.at (Nat.lt_of_lt_of_le hj a.le)
     rw[a.ag j hj,ej,q] at e'
     cases e'
    ·have:=a.kp (ρ2 i) o e fun j hj ej=>z ⟨j,hj,ej⟩
     rw[q] at this
     cases this
 kp:=fun x o e h=>by
  refine b.kp x o (a.kp x o e h) fun i hi ei => ?_
  by_cases hn:i<n
  ·exact h i hn (by rw[← a.ag i hn];exact ei)
  ·have q:=a.fr i (Nat.not_lt.mp hn) hi
   rw[ei,e] at q
   cases q
 fz:=fun x o u e=>b.fz x o u (a.fz x o u e)
theorem Ext.tp{ρ ρ':Nat->Addr}{n':Nat}{σ:Store}{H H':Hp}(e:Ext ρ σ.length H ρ' n' H')(S:SR H ρ σ):TPk H H':=fun a vs h =>
 e.kp a _ h fun i hi ei=>by
  obtain⟨o,e',ne⟩:=S.at hi
  rw[ei,h] at e'
  cases e'
  exact ne vs rfl
structure RE(H:Hp)(ρ:Nat->Addr)(n:Nat)(ε:MP.Env)(st:L2.St):Prop where
 len:ε.length=st.length
 val:∀ (i:Nat) (r:R),ε[i]?=some (some r)->∃ v,st[i]?=some (some v)/\RR H ρ n r v
theorem RE.mono{H H':Hp}{ρ ρ':Nat->Addr}{n':Nat}{σ:Store}{ε:MP.Env}{st:L2.St}(h:RE H ρ σ.length ε st)(S:SR H ρ σ)(e:Ext ρ σ.length H ρ' n' H'):RE H' ρ' n' ε st :=
 ⟨h.len,fun i r q=>by
  obtain⟨v,h1,h2⟩:=h.val i r q
  exact⟨v,h1,RR.mono (e.tp S) e.le e.ag r h2⟩⟩
theorem RE.set{H:Hp}{ρ:Nat->Addr}{n:Nat}{ε:MP.Env}{st:L2.St}{i:Nat}{r:R}{v:V}(h:RE H ρ n ε st)(q:RR H ρ n r v):RE H ρ n (ε.set i (some r)) (st.set i (some v)):=by
 refine⟨by rw[List.length_set,List.length_set,h.len],fun j s e => ?_⟩
 rw[List.getElem?_set] at e ⊢
 by_cases hij:i=j
 ·subst hij
  rw[if_pos rfl] at e ⊢
  by_cases hl:i<ε.length
  ·rw[if_pos hl] at e
   rw[if_pos (by rw[← h.len];exact hl)]
   cases e
   exact⟨v,rfl,q⟩
  ·rw[if_neg hl] at e
   cases e
 ·rw[if_neg hij] at e ⊢
  exact h.val j s e
noncomputable def Fin(ρ:Nat->Addr)(n:Nat)(H:Hp)(r:R)(σ':Store)(Q:VK):Prop :=
 ∀ ρ' v H',Ext ρ n H ρ' σ'.length H'->SR H' ρ' σ'->RR H' ρ' σ'.length r v->Q v H'
inductive TEv (f:MP.Env->Store->Res R) (st:L2.St) (H:Hp) (Q:VK):Prop
 |mk (ρ:Nat->Addr) (ε:MP.Env) (σ:Store) (r:R) (σ':Store) (hE:RE H ρ σ.length ε st) (hS:SR H ρ σ) (e:f ε σ = .ok r σ') (q:Fin ρ σ.length H r σ' Q)
inductive TTv (f:MP.Env->Store->Res R) (st:L2.St) (H:Hp) (Q:Bool->Hp->Prop):Prop
 |mk (ρ:Nat->Addr) (ε:MP.Env) (σ:Store) (b:Bool) (σ':Store) (hE:RE H ρ σ.length ε st) (hS:SR H ρ σ) (e:f ε σ = .ok (.g (.bl b)) σ') (q:∀ ρ' H',Ext ρ σ.length H ρ' σ'.length H'->SR H' ρ' σ'->Q b H')
inductive TAv (f:MP.Env->Store->Res (List R)) (st:L2.St) (H:Hp) (Q:List V->Hp->Prop):Prop
 |mk (ρ:Nat->Addr) (ε:MP.Env) (σ:Store) (rs:List R) (σ':Store) (hE:RE H ρ σ.length ε st) (hS:SR H ρ σ) (e:f ε σ = .ok rs σ') (q:∀ ρ' vs H',Ext ρ σ.length H ρ' σ'.length H'->SR H' ρ' σ'->RRs H' ρ' σ'.length rs vs->Q vs H')
theorem PE.imp{X:Cx}{e:Expr}{t t':TE}(h:PE X e t)(w:∀ σ H Q,t' σ H Q->t σ H Q):PE X e t':=fun pins s σ H Q I q=>h pins s σ H Q I (w σ H Q q)
theorem PT.imp{X:Cx}{e:Expr}{t t':TT}(h:PT X e t)(w:∀ σ H Q,t' σ H Q->t σ H Q):PT X e t':=fun pins s σ H Q I q=>h pins s σ H Q I (w σ H Q q)
theorem PA.imp{X:Cx}{e:List Expr}{t t':TA}(h:PA X e t)(w:∀ σ H Q,t' σ H Q->t σ H Q):PA X e t':=fun p pins s σ H Q I q=>h p pins s σ H Q I (w σ H Q q)
theorem PS.imp{X:Cx}{e:Stmt}{t t':TS}(h:PS X e t)(w:∀ D σ H,t' D σ H->t D σ H):PS X e t':=fun pins s σ H D I q=>h pins s σ H D I (w D σ H q)
theorem PSs.imp{X:Cx}{e:List Stmt}{t t':TS}(h:PSs X e t)(w:∀ D σ H,t' D σ H->t D σ H):PSs X e t':=fun pins s σ H D I q=>h pins s σ H D I (w D σ H q)
theorem bind_inv{α β:Type}{x:Res α}{f:α->Store->Res β}{b:β}{σ':Store}(h:x.bind f = .ok b σ'):∃ a σ1,x = .ok a σ1/\f a σ1 = .ok b σ':=by
 cases x with
 |ok a σ=>exact⟨a,σ,rfl,h⟩
 |exc c σ=>cases h
 |stuck=>cases h
theorem ofO_inv{α:Type}{o:Option α}{f:α->Res R}{r:R}{σ:Store}(h:ofO o f = .ok r σ):∃ a,o=some a/\f a = .ok r σ:=by
 cases o with
 |none=>cases h
 |some a=>exact⟨a,rfl,h⟩
theorem SR.push{H:Hp}{ρ:Nat->Addr}{σ:Store}(S:SR H ρ σ){p:Addr}(hp:H p=none){o:HO}{c:Cell}(ht:∀ vs,o ≠ .tup vs)
 (hc:∀ H' ρ',TPk H H'->H' p=some o->ρ' σ.length=p->(∀ i,i<σ.length->ρ' i=ρ i)->RC H' ρ' σ.length c)
 (hb:∀ (m:Nat) (xs:List R),c=Cell.stk m xs->m<=σ.length+1:=by intro _ _ z;cases z) :
 ∃ ρ',Ext ρ σ.length H ρ' (σ++[c]).length (upd H p o)/\SR (upd H p o) ρ' (σ++[c])/\ρ' σ.length=p:=by
 have tp:TPk H (upd H p o):=fun a vs e=>by rw[upd_ne (ne_of_none e hp)];exact e
 refine⟨fun i=>if i=σ.length then p else ρ i,⟨by simp,fun i hi=>by simp[Nat.ne_of_lt hi],fun i h1 h2 => ?_,fun a b e _=>by rw[upd_ne (ne_of_none e hp)];exact e,fun a _ _ e=>by rw[upd_ne (ne_of_none e hp)];exact e⟩,⟨fun i d e => ?_,fun i j hi hj e => ?_,fun i m xs e => ?_⟩,by simp⟩
 ·have:i=σ.length:=by simp at h2;omega
  simp[this,hp]
 ·by_cases hi:i<σ.length
  ·have e':σ[i]?=some d:=by rw[List.getElem?_append_left hi] at e;exact e
   have q:=S.cell i d e'
   have ni:i≠σ.length:=Nat.ne_of_lt hi
   obtain⟨o',eo,_⟩:=S.at hi
   have hne:ρ i≠p:=ne_of_none eo hp
   cases d with
   |lst xs=>obtain⟨vs,h1,h2⟩:=q;exact⟨vs,by simp only[ni,if_false];rw[upd_ne hne];exact h1,RGs.mono tp xs h2⟩
   |rdl xs =>
    obtain⟨vs,h1,h2⟩:=q
    refine⟨vs,?_,RGs.mono tp xs h2⟩
    simp only[ni,if_false]
    rcases h1 with h1 | ⟨ob,h1⟩
    ·exact .inl (by rw[upd_ne hne];exact h1)
    ·exact .inr ⟨ob,by rw[upd_ne hne];exact h1⟩
   |rls xs =>
    obtain⟨vs,h1,h2⟩:=q
    exact⟨vs,by simp only[ni,if_false];rw[upd_ne hne];exact h1,RRs.mono tp (Nat.le_refl _) (fun j hj=>by simp[Nat.ne_of_lt (Nat.lt_trans hj hi)]) xs h2⟩
   |stk m xs =>
    obtain⟨vs,h1,h2⟩:=q
    have hm:=S.bd i m xs e'
    exact⟨vs,by simp only[ni,if_false];rw[upd_ne hne];exact h1,h2.imp id fun h2=>RRs.mono tp (Nat.le_refl _) (fun j hj=>by simp[Nat.ne_of_lt (Nat.lt_of_lt_of_le hj hm)]) xs h2⟩
   |_=>exact(show False from q).elim
  ·have hil:=SR.lt e
   have ei:i=σ.length:=by simp at hil;omega
   subst ei
   rw[List.getElem?_append_right (Nat.le_refl _)] at e
   simp at e
   subst e
   exact hc _ _ tp upd_same (by simp) fun j hj=>by simp[Nat.ne_of_lt hj]
 ·simp at hi hj
  by_cases h1:i=σ.length
  ·by_cases h2:j=σ.length
   ·omega
   ·obtain⟨o',eo,_⟩:=S.at (show j<σ.length by omega)
    simp[h1,h2] at e
    rw[← e,hp] at eo
    cases eo
  ·by_cases h2:j=σ.length
   ·obtain⟨o',eo,_⟩:=S.at (show i<σ.length by omega)
    simp[h1,h2] at e
    rw[e,hp] at eo
    cases eo
   ·simp[h1,h2] at e
    exact S.inj i j (by omega) (by omega) e
 ·simp only[List.length_append,List.length_singleton]
  by_cases hi:i<σ.length
  ·rw[List.getElem?_append_left hi] at e
   exact Nat.le_succ_of_le (S.bd i m xs e)
  ·have hil:=SR.lt e
   have ei:i=σ.length:=by simp at hil;omega
   subst ei
   rw[List.getElem?_append_right (Nat.le_refl _)] at e
   simp at e
   exact hb m xs e
theorem nfz_l{H:Hp}{a:Addr}{vs:List V}(h:H a=some (.lst vs)):∀ ob u,H a≠some (.frz ob u):=fun _ _ z=>by rw[h] at z;cases z
theorem SR.write{H:Hp}{ρ:Nat->Addr}{σ:Store}(S:SR H ρ σ){k:Nat}(hk:k<σ.length){o:HO}{c:Cell}(hz:∀ ob u,H (ρ k)≠some (.frz ob u))
 (hc:∀ H',TPk H H'->H' (ρ k)=some o->RC H' ρ k c) (hb:∀ (m:Nat) (xs:List R),c=Cell.stk m xs->m<=σ.length:=by intro _ _ z;cases z) :
 Ext ρ σ.length H ρ (σ.set k c).length (upd H (ρ k) o)/\SR (upd H (ρ k) o) ρ (σ.set k c):=by
 obtain⟨ok,ek,nk⟩:=S.at hk
 have tp:TPk H (upd H (ρ k) o):=fun a vs e=>by
  rw[upd_ne fun z => ?_]
  ·exact e
  ·rw[z,ek] at e;cases e;exact nk vs rfl
 refine⟨⟨by simp,fun _ _=>rfl,fun i h1 h2=>by simp at h2;omega,fun a b e h => ?_,fun a ob u e=>by rw[upd_ne fun z=>hz ob u (by rw[← z];exact e)];exact e⟩,⟨fun i d e => ?_,fun i j hi hj e=>S.inj i j (by simpa using hi) (by simpa using hj) e,fun i m xs e => ?_⟩⟩
 ·rw[upd_ne fun z=>h k hk z.symm];exact e
 ·by_cases hik:k=i
  ·subst hik
   rw[List.getElem?_set_self hk] at e
   cases e
   exact hc _ tp upd_same
  ·rw[List.getElem?_set_ne hik] at e
   have hi:=SR.lt e
   have hne:ρ i≠ρ k:=fun z=>hik (S.inj i k hi hk z).symm
   have q:=S.cell i d e
   cases d with
   |lst xs=>obtain⟨vs,h1,h2⟩:=q;exact⟨vs,by rw[upd_ne hne];exact h1,RGs.mono tp xs h2⟩
   |rdl xs =>
    obtain⟨vs,h1,h2⟩:=q
    refine⟨vs,?_,RGs.mono tp xs h2⟩
    rcases h1 with h1 | ⟨ob,h1⟩
    ·exact .inl (by rw[upd_ne hne];exact h1)
    ·exact .inr ⟨ob,by rw[upd_ne hne];exact h1⟩
   |rls xs=>obtain⟨vs,h1,h2⟩:=q;exact⟨vs,by rw[upd_ne hne];exact h1,RRs.mono tp (Nat.le_refl _) (fun _ _=>rfl) xs h2⟩
   |stk m xs=>obtain⟨vs,h1,h2⟩:=q;exact⟨vs,by rw[upd_ne hne];exact h1,h2.imp id fun h2=>RRs.mono tp (Nat.le_refl _) (fun _ _=>rfl) xs h2⟩
   |_=>exact(show False from q).elim
 ·rw[List.length_set]
  by_cases hik:k=i
  ·subst hik
   rw[List.getElem?_set_self hk] at e
   cases e
   exact hb m xs rfl
  ·rw[List.getElem?_set_ne hik] at e
   exact S.bd i m xs e
theorem SR.tup{H:Hp}{ρ:Nat->Addr}{σ:Store}(S:SR H ρ σ){p:Addr}(hp:H p=none)(o:HO):Ext ρ σ.length H ρ σ.length (upd H p o)/\SR (upd H p o) ρ σ/\TPk H (upd H p o):=by
 have tp:TPk H (upd H p o):=fun a vs e=>by rw[upd_ne (ne_of_none e hp)];exact e
 refine⟨⟨Nat.le_refl _,fun _ _=>rfl,fun i h1 h2=>absurd h2 (Nat.not_lt.mpr h1),fun a b e _=>by rw[upd_ne (ne_of_none e hp)];exact e,fun a _ _ e=>by rw[upd_ne (ne_of_none e hp)];exact e⟩,⟨fun i d e => ?_,S.inj,S.bd⟩,tp⟩
 obtain⟨o',eo,_⟩:=S.at (SR.lt e)
 have hne:ρ i≠p:=ne_of_none eo hp
 have q:=S.cell i d e
 cases d with
 |lst xs=>obtain⟨vs,h1,h2⟩:=q;exact⟨vs,by rw[upd_ne hne];exact h1,RGs.mono tp xs h2⟩
 |rdl xs =>
  obtain⟨vs,h1,h2⟩:=q
  refine⟨vs,?_,RGs.mono tp xs h2⟩
  rcases h1 with h1 | ⟨ob,h1⟩
  ·exact .inl (by rw[upd_ne hne];exact h1)
  ·exact .inr ⟨ob,by rw[upd_ne hne];exact h1⟩
 |rls xs=>obtain⟨vs,h1,h2⟩:=q;exact⟨vs,by rw[upd_ne hne];exact h1,RRs.mono tp (Nat.le_refl _) (fun _ _=>rfl) xs h2⟩
 |stk m xs=>obtain⟨vs,h1,h2⟩:=q;exact⟨vs,by rw[upd_ne hne];exact h1,h2.imp id fun h2=>RRs.mono tp (Nat.le_refl _) (fun _ _=>rfl) xs h2⟩
 |_=>exact(show False from q).elim
end SN
namespace SN
open PySem PySem.Spec PyProof.Rows L2 MP
variable [Wd]
noncomputable def frees(cells:List (Str × Addr)):List (Str × NameKind)->List (Str × Addr)->List (Str × Addr)
 | [],acc=>acc
 | (n,k)::r,acc=>if (k == NameKind.free)=true then frees cells r ((n,(cells.lookup n).getD 0)::acc) else frees cells r acc
theorem closure_go{env:PySem.Env}:∀ (names:List (Str × NameKind)) (acc:List (Str × Addr)),(∀ y∈names,y.2 = .free->∃ c,env.cells.lookup y.1=some c) →
 (forIn names acc fun(x:Str × NameKind) (r:List (Str × Addr))=>(match x with
   | (name,kind)=>if (kind == NameKind.free)=true then do let y ← cellOf env name;pure (ForInStep.yield ((name,y)::r)) else pure (ForInStep.yield r):Sem (ForInStep (List (Str × Addr)))))=(pure (frees env.cells names acc):Sem _)
 | [],acc,_=>by simp[frees]
 | (n,k)::r,acc,h=>by
  rw[List.forIn_cons]
  cases hk:(k == NameKind.free) with
  |true =>
   have hk':k = .free:=by simpa using hk
   obtain⟨c,e⟩:=h (n,k) List.mem_cons_self hk'
   have ec:cellOf env n=pure c:=by unfold cellOf;rw[e]
   simp only[hk,if_true,ec,pure_bind,frees,e,Option.getD_some]
   exact closure_go r _ fun y hy=>h y (List.mem_cons_of_mem _ hy)
  |false =>
   simp only[hk,Bool.false_eq_true,if_false,pure_bind,frees]
   exact closure_go r _ fun y hy=>h y (List.mem_cons_of_mem _ hy)
theorem closure_is{scope:Scope}{env:PySem.Env}(h:∀ y∈scope.names,y.2 = .free->∃ c,env.cells.lookup y.1=some c):closureFor scope env=pure (frees env.cells scope.names []):=by
 unfold closureFor
 have q:=closure_go (env:=env) scope.names [] h
 first
  | (rw[q];rfl)
  | (simp only[q];rfl)
  | (erw [q];rfl)
theorem frees_lookup{cells:List (Str × Addr)}:∀ (names:List (Str × NameKind)) (acc:List (Str × Addr)),(∀ y∈names,y.2 = .free->∃ c,cells.lookup y.1=some c)->(∀ x c,acc.lookup x=some c->cells.lookup x=some c) →
 (∀ x c,(frees cells names acc).lookup x=some c->cells.lookup x=some c)
 | [],acc,_,h,x,c,e=>h x c e
 | (n,k)::r,acc,hf,h,x,c,e=>by
  unfold frees at e
  split at e
  ·rename_i hk
   have hk':k = .free:=by simpa using hk
   obtain⟨d,ed⟩:=hf (n,k) List.mem_cons_self hk'
   refine frees_lookup r _ (fun y hy=>hf y (List.mem_cons_of_mem _ hy)) (fun y c' e' => ?_) x c e
   rw[List.lookup_cons] at e'
   cases hy:y == n with
   |true =>
    rw[hy] at e'
    have:y=n:=by simpa using hy
    subst this
    simp only[ed,Option.getD_some] at e'
    rw[ed];exact e'
   |false=>rw[hy] at e';exact h y c' e'
  ·exact frees_lookup r _ (fun y hy=>hf y (List.mem_cons_of_mem _ hy)) h x c e
theorem frees_keep{cells:List (Str × Addr)}:∀ (names:List (Str × NameKind)) (acc:List (Str × Addr)) (x:Str),(∃ c,acc.lookup x=some c)->∃ c,(frees cells names acc).lookup x=some c
 | [],_,_,h=>h
 | (n,k)::r,acc,x,h=>by
  unfold frees
  split
  ·refine frees_keep r _ x ?_
   rw[List.lookup_cons]
   cases x == n with
   |true=>exact⟨_,rfl⟩
   |false=>exact h
  ·exact frees_keep r _ x h
theorem frees_has{cells:List (Str × Addr)}:∀ (names:List (Str × NameKind)) (acc:List (Str × Addr)) (x:Str),(x,NameKind.free)∈names->∃ c,(frees cells names acc).lookup x=some c
 | (n,k)::r,acc,x,h=>by
  unfold frees
  rcases List.mem_cons.mp h with e|h
  ·have e1:x=n:=congrArg Prod.fst e
   have e2:NameKind.free=k:=congrArg Prod.snd e
   subst e1
   subst e2
   rw[if_pos (by simp)]
   refine frees_keep r _ x ?_
   rw[List.lookup_cons]
   simp
  ·split
   ·exact frees_has r _ x h
   ·exact frees_has r _ x h
noncomputable def cxC(X:Cx)(N':List Str)(scope:Scope)(cl:List (Str × Addr))(C:Addr)(fp:List Addr)(s:Shared)(H:Hp):Cx :=
 {X with N:=N',s₀:=s,H₀:=H,env:=compEnvC scope cl C X.env,outer:=X.stack,ex:=fp,fn:=fun _=>false,pn:=[],xe:=fun _ _=>False}
noncomputable def PCs(X:Cx)(ifs:List Expr)(t:TT):Prop :=
 ∀ (pins:List (Addr × Obj)) (s:Shared) (σ:L2.St) (H:Hp) (Q:Bool->Hp->Prop),Inv X pins σ H s->t σ H Q →
  wpAny (model X.prog X.w) X.A (forIn ifs true fun c r=>if r=true then do let ok ← isTrue c X.env (eval c X.env);pure (ForInStep.yield ok) else pure (ForInStep.yield r)) (TP X pins σ Q) X.xe s
theorem conds_false{env:PySem.Env}:∀ ifs:List Expr,(forIn ifs false fun c r=>if r=true then do let ok ← isTrue c env (eval c env);pure (ForInStep.yield ok) else pure (ForInStep.yield r):Sem Bool)=pure false
 | []=>by simp
 |c::r=>by
  rw[List.forIn_cons]
  simp only[Bool.false_eq_true,if_false,pure_bind]
  exact conds_false r
noncomputable def tTrue:TT:=fun _ H Q=>Q true H
theorem pcs_nil{X:Cx}:PCs X [] tTrue:=fun pins s σ H Q I h=>by
 simp only[List.forIn_nil]
 exact wpAny_pure ⟨H,I,h⟩
theorem pcs_cons{X:Cx}{c:Expr}{cs:List Expr}{t u:TT}(h1:PT X c t)(h2:PCs X cs u):PCs X (c::cs) (tAnd t u):=fun pins s σ H Q I h=>by
 rw[List.forIn_cons]
 simp only[if_true,bind_assoc,pure_bind]
 refine wpAny_bind (thn (h1 pins s σ H _ I h) fun b s1 ⟨H1,I1,q1⟩ => ?_)
 cases b with
 |true=>exact h2 pins s1 σ H1 Q I1 q1
 |false =>
  rw[conds_false cs]
  exact wpAny_pure ⟨H1,I1,q1⟩
noncomputable def blockW(B:V->Hp->L2.St->Prop)(J:It)(vals:List (Option V))(tc:TT)(te:TE)(D:Addr)(H1:Hp)(Q:VK):Prop :=
 ∃ W:Nat->Nat->List V->Hp->Prop,(∃ m,W 0 m [] (upd H1 D (.lst [])))/\∀ i m acc H,W i m acc H->H D=some (.lst acc) ∧
  ((J.stop i H/\Q (.ref D) H)\/(J.go i H/\∀ x H',J.yld i H x H'->∃ bs,B x H' bs/\tc (bs++vals) H' fun b H2 =>
    if b=true then te (bs++vals) H2 fun y H3=>H3 D=some (.lst acc)/\acc.length<=i/\∃ m',m'<m/\W (i+1) m' (acc++[y]) (upd H3 D (.lst (acc++[y])))
    else ∃ m',m'<m/\W (i+1) m' acc H2))
noncomputable def BJ(K:PySem.W.Frag)(J:It):Prop:=∀ (X:Cx) (pins:List (Addr × Obj)) (σ:L2.St) (H:Hp) (s:Shared) (i:Nat),X.K=K->Inv X pins σ H s->J.go i H->i<sizeLine
noncomputable def tLC(K:PySem.W.Frag)(B:V->Hp->L2.St->Prop)(wi:TI)(caps:List Nat)(tc:TT)(te:TE):TE:=fun σ H Q=>wi σ H fun J H1=>BJ K J/\∀ D,H1 D=none->blockW B J (caps.map fun j=>(σ[j]?).getD none) tc te D H1 Q
theorem comp_turns{prog:Program}{w:World}{A:Around}{R:Result->Shared->Prop}{s:Shared}{elt target iter:Expr}{ifs:List Expr}{scope:Scope}{pos:Pos}{it acc:Value}{env:PySem.Env}(I:Nat->Shared->Prop)
 (step:∀ n s,I n s->wpAny (model prog w) A (pyNext it) (fun r s₁=>match r with
   |none=>R (.ok .next) s₁
   |some v=>wpAny (model prog w) A (letOwnedTupleGo target it v) (fun _ s₂=>wpAny (model prog w) A (assign target env v) (fun _ s₃ =>
    wpAny (model prog w) A (forIn ifs true fun c r=>if r=true then do let ok ← isTrue c env (eval c env);pure (ForInStep.yield ok) else pure (ForInStep.yield r)) (fun ok s₄ =>
     if ok=true then wpAny (model prog w) A (eval elt env) (fun x s₅=>wpAny (model prog w) A (call (.builtin "list.append") [acc,x]) (fun _ s₆=>∃ m,m<n/\I m s₆) (notedBy (model prog w) A env fun e s'=>R (.error e) s') s₅) (notedBy (model prog w) A env fun e s'=>R (.error e) s') s₄
     else ∃ m,m<n/\I m s₄) (notedBy (model prog w) A env fun e s'=>R (.error e) s') s₃) (notedBy (model prog w) A env fun e s'=>R (.error e) s') s₂) (notedBy (model prog w) A env fun e s'=>R (.error e) s') s₁) (notedBy (model prog w) A env fun e s'=>R (.error e) s') s)
 (n:Nat) (h:I n s):codeAny (model prog w) A (.compLoop (.ListComp elt [⟨target,iter,ifs,0⟩] scope pos) 0 it acc env) R s:=by
 refine codeAny_loop rfl I (fun n s hn => ?_) n h
 show wpAny _ A ((compTurn (.ListComp elt [⟨target,iter,ifs,0⟩] scope pos) 0 it acc env).onRaise fun x=>do noteFrame x env;theTreesLotGoes x) _ _ s
 refine wpAny_noted ?_
 rw[compTurn_list]
 refine wpAny_bind (wpAny_standAt (wpAny_bind (wpAny_mono (step n s hn) (fun r s₁ q => ?_) fun _ _ z=>z)))
 cases r with
 |none=>exact wpAny_pure q
 |some v =>
  refine wpAny_bind (wpAny_mono q (fun _ s₂ q2=>wpAny_bind (wpAny_mono q2 (fun _ s₃ q3=>wpAny_bind (wpAny_mono q3 (fun ok s₄ q4 => ?_) fun _ _ z=>z)) fun _ _ z=>z)) fun _ _ z=>z)
  cases ok with
  |true=>exact wpAny_bind (wpAny_bind (wpAny_mono q4 (fun x s₅ q5=>wpAny_bind (wpAny_mono q5 (fun _ s₆ q6=>wpAny_pure (wpAny_pure ⟨rfl,q6⟩)) fun _ _ z=>z)) fun _ _ z=>z))
  |false=>exact wpAny_pure ⟨rfl,q4⟩
structure CompOk(X:Cx)(xs:List Str)(caps:List Nat)(names:List Str)(scope:Scope):Prop where
 kind:scope.kind = .function
 cell:∀ y∈scope.names,y.2 ≠ .cell
 loc:∀ y∈scope.names,y.2 = .local->scope.names.lookup y.1=some .local
 tgt:∀ x∈xs,scope.names.lookup x=some .local
 fre:∀ y∈scope.names,y.2 = .free->X.env.kindOf y.1=some .cell\/X.env.kindOf y.1=some .free
 nod:(xs++names).Nodup
 lenC:names.length=caps.length
 capN:∀ (j:Nat) (y:Str),names[j]?=some y->∃ i:Nat,caps[j]?=some i/\X.N[i]?=some y/\scope.names.lookup y=some .free
theorem lookup_map_kind{f:Str × NameKind->Str × NameKind}(hf:∀ p,(f p).1=p.1):∀ (l:List (Str × NameKind)) (x:Str),(l.map f).lookup x=((l.find? fun p=>x == p.1).map fun p=>(f p).2)
 | [],_=>rfl
 | (n,k)::r,x=>by
  have ih:=lookup_map_kind hf r x
  rw[List.map_cons]
  have e1:f (n,k)=(n,(f (n,k)).2):=by
   have:=hf (n,k)
   cases q:f (n,k) with
   |mk a b=>rw[q] at this;cases this;rfl
  rw[e1,List.lookup_cons,List.find?_cons]
  cases hx:x == n with
  |true=>rfl
  |false=>exact ih
theorem lookup_find:∀ (l:List (Str × NameKind)) (x:Str),l.lookup x=((l.find? fun p=>x == p.1).map (·.2))
 | [],_=>rfl
 | (n,k)::r,x=>by
  rw[List.lookup_cons,List.find?_cons]
  cases hx:x == n with
  |true=>rfl
  |false=>exact lookup_find r x
theorem relabel_lookup(scope:Scope)(env:PySem.Env)(x:Str):(relabel scope env).names.lookup x=(scope.names.lookup x).map fun k=>if (k == .free && env.scope.kind == .function && env.kindOf x == some .cell)=true then .cell else k:=by
 unfold relabel
 show(scope.names.map _).lookup x=_
 rw[lookup_map_kind (f:=fun p=>if (p.2 == NameKind.free && env.scope.kind == .function && env.kindOf p.1 == some .cell)=true then (p.1,.cell) else (p.1,p.2)) (fun p=>by split<;>rfl),lookup_find,Option.map_map]
 cases e:scope.names.find? (fun p=>x == p.1) with
 |none=>rfl
 |some p =>
  have hx:x=p.1:=by
   have:=List.find?_some e
   simpa using this
  subst hx
  simp only[Option.map_some,Function.comp]
  split<;>rfl
section
variable {X:Cx}{pins:List (Addr × Obj)}{σ:L2.St}{elt iter tg:Expr}{xs:List Str}{pos:Pos}{B:V->Hp->L2.St->Prop}{g:TG}{ifs:List Expr}{scope:Scope}{caps:List Nat}{names:List Str}{tc:TT}{te:TE}
theorem comp_core(hc:X.calm=true)(ok:CompOk X xs caps names scope){cl:List (Str × Addr)}(ecl:cl=frees X.env.cells scope.names [])
 (hC:∀ C fp s H,PCs (cxC X (xs++names) scope cl C fp s H) ifs tc) (hE:∀ C fp s H,PE (cxC X (xs++names) scope cl C fp s H) elt te)
 (hG:∀ C fp s H,PG (cxC X (xs++names) scope cl C fp s H) tg g) (hBl:∀ y H bs,B y H bs->bs.length=xs.length) (hBg:∀ y H bs os vals,B y H bs->os.length=xs.length->g y (os++vals) H fun σ' H'=>σ'=bs++vals/\H'=H)
 {J:It} {fp:List Addr} {it:Addr} {tn:Nat->Heap->Prop} {H2:Hp} {s2:Shared} {Q:VK} {E:Value->Shared->Prop} {RR:Value->Addr->Result->Shared->Prop}
 (I2:Inv X pins σ H2 s2) (T:Turn X.prog X.w X.K tg J fp it tn) (t0:tn 0 s2.heap) (f2:∀ b∈fp,FpOk X pins H2 b) (hB:BJ X.K J)
 (hq:∀ D,H2 D=none->blockW B J (caps.map fun j=>(σ[j]?).getD none) tc te D H2 Q)
 (hRR:∀ D C H' s1 m oC,Inv X pins σ H' s1->s1.heap.Ns C m->s1.heap.get? C=some oC->(∀ v,oC.data ≠ .cell v)->H' C=none->s2.heap.objs.size<=C->Q (.ref D) H'->RR (.ref D) C (.ok .next) s1) :
 wpAny (model X.prog X.w) X.A (newList []) (fun acc s₃=>wpAny (model X.prog X.w) X.A (newFunctionEnv scope X.env.globals cl [] X.env.qual none .none (some X.env)) (fun cenv s₄ =>
  codeAny (model X.prog X.w) X.A (.compStart (.ListComp elt [⟨tg,iter,ifs,0⟩] scope pos) 0 (.ref it) acc {cenv with scope:=relabel scope X.env}) (RR acc cenv.locals) s₄) E s₃) E s2:=by
 refine wpAny_newObj_type (wpAny_newFunctionEnv ok.cell (by intro y hy;simp at hy) (fun h₁ hns hsb => ?_) ok.kind)
 have fD:H2 s2.heap.objs.size=none:=I2.fresh
 obtain⟨W,⟨m0,w0⟩,turn⟩:=hq _ fD
 let D:=s2.heap.objs.size
 let s3:Shared:={s2 with heap:=s2.heap.push {cls:=.type "list",dict:=none,data:=.seq ([]:List Value).toArray}}
 let H3:Hp:=upd H2 D (.lst [])
 have I3:Inv X pins σ H3 s3:=I2.lnew (ys:=[]) (its:=[]) (t':=s2.toks) .nil (Nat.zero_le _)
 let C:=s3.heap.objs.size
 have sz3:C=D+1:=Heap.size_push ..
 let s4:Shared:={s3 with heap:=h₁,toks:=s3.toks+([]:List (Str × Value)).length}
 have old:∀ b o,s3.heap.get? b=some o->h₁.get? b=some o:=fun b o e=>hsb.extBut b o (Nat.ne_of_lt (Heap.lt_size e)) (Heap.get?_push_of_some _ e)
 have I4:Inv X pins σ H3 s4:=I3.kept (h':=h₁) (t':=s3.toks+([]:List (Str × Value)).length) old
 have u23:Un (frs X.stack) fp H2 H3 s2.heap s3.heap:=Un.laid (fun b u e=>Heap.get?_push_of_some _ e) (Nat.le_refl _) fD
 have hfr:∀ y∈scope.names,y.2 = .free->∃ c,X.env.cells.lookup y.1=some c:=fun y hy e=>I2.ok.has y.1 (ok.fre y hy e)
 have hcl:∀ y c,cl.lookup y=some c->X.env.cells.lookup y=some c:=fun y c e=>by
  rw[ecl] at e
  exact frees_lookup scope.names [] hfr (fun _ _ z=>by simp at z) y c e
 have hcf:∀ y,(y,NameKind.free)∈scope.names->∃ c,cl.lookup y=some c:=fun y hy=>by
  rw[ecl];exact frees_has scope.names [] y hy
 let X':Cx:=cxC X (xs++names) scope cl C fp s3 H3
 have fpC:∀ b∈fp,b≠C/\b∉frs X.stack/\(∀ y c,cl.lookup y=some c->c≠b):=fun b hb=>by
  obtain⟨f0,f1,f2',f3,f4,f5⟩:=f2 b hb
  obtain⟨o,e,_⟩:=T.obj _ _ t0 b hb
  refine⟨?_,fun z => ?_,fun y c e=>f4 y c (hcl y c e)⟩
  ·have:=Heap.lt_size e
   rw[sz3]
   exact Nat.ne_of_lt (Nat.lt_succ_of_lt this)
  ·rcases List.mem_cons.mp (I2.stkSub b z) with z|z
   ·exact f1 z
   ·exact f2' z
 have ok':X'.Ok:={
  mod:=I2.ok.mod
  kind:=ok.kind
  glob:=I2.ok.glob
  blt:=I2.ok.blt
  above:=Nat.le_refl _
  inj:=fun y z c e1 e2=>I2.ok.inj y z c (hcl y c e1) (hcl z c e2)
  has:=fun y hy=>by
   have hy:(relabel scope X.env).names.lookup y=some .cell\/(relabel scope X.env).names.lookup y=some .free:=hy
   rw[relabel_lookup] at hy
   have hm:scope.names.lookup y=some .free:=by
    cases e:scope.names.lookup y with
    |none=>rw[e] at hy;rcases hy with z|z<;>cases z
    |some k =>
     rw[e] at hy
     cases k with
     |free=>rfl
     |cell=>exact absurd rfl (ok.cell _ (PySem.mem_of_lookup e))
     | «local» => rcases hy with z|z<;>simp at z
     |globalExplicit=>rcases hy with z|z<;>simp at z
     |globalImplicit=>rcases hy with z|z<;>simp at z
   exact hcf y (PySem.mem_of_lookup hm)
  cab:=fun _ _ z=>absurd (show(false:Bool)=true from z) Bool.false_ne_true
  hd:=I2.ok.hd
  frames:=I2.ok.frames
  stk:=.inl rfl
  exf:=fun b hb=>⟨(fpC b hb).1,(fpC b hb).2.2⟩
  bs:=fun b o e=>⟨(I3.bs b o e).1,(I3.bs b o e).2⟩
  bsz:=Nat.le_trans I3.ok.bsz I3.sz
  noex:=fun b o e z=>by
   obtain⟨_,_,_,f3,_⟩:=f2 b z
   rcases f3 with q|q
   ·exact I2.ok.noex b o e q
   ·exact absurd (Heap.lt_size (I2.ok.bs b o e).1) (Nat.not_lt.mpr q)
  exfs:=fun b hb=>(fpC b hb).2.1
  funs:=I3.stack
  frf:=I3.stkFree}
 let vals:List (Option V):=caps.map fun j=>(σ[j]?).getD none
 have I5:Inv X' [] (List.replicate xs.length none++vals) H3 s4:={
  ok:=ok'
  os:=rfl
  bare:=I4.bare
  base:=Un.kept old
  loc:=by
   refine⟨_,hns,fun i y v e1 e2 e3 => ?_⟩
   by_cases hi:i<xs.length
   ·rw[List.getElem?_append_left (by simpa using hi),List.getElem?_replicate] at e2
    rw[if_pos hi] at e2
    cases e2
   ·obtain⟨j,rfl⟩:∃ j,i=xs.length+j:=⟨i-xs.length,by omega⟩
    have e1:(xs++names)[xs.length+j]?=some y:=e1
    rw[List.getElem?_append_right (by omega),Nat.add_sub_cancel_left] at e1
    rw[List.getElem?_append_right (by simp),List.length_replicate,Nat.add_sub_cancel_left] at e2
    obtain⟨k,ek,eN,ef⟩:=ok.capN j y e1
    have e2:σ[k]?=some (some v):=by
     simp only[vals,List.getElem?_map,ek,Option.map_some] at e2
     cases q:σ[k]? with
     |none=>rw[q] at e2;simp at e2
     |some o=>rw[q] at e2;simp at e2;rw[e2]
    obtain⟨m,hn,hl⟩:=I4.loc
    have hk:=ok.fre _ (PySem.mem_of_lookup ef) rfl
    have hvis:Vis X.env.scope y:=.inr hk
    obtain⟨u,r,l⟩:=hl k y v eN e2 hvis
    refine⟨u,r,.inr ?_⟩
    obtain⟨c,ec,hc4⟩:∃ c,X.env.cells.lookup y=some c/\s4.heap.IsCell c (some u):=by
     rcases l with⟨z,_⟩ | ⟨_,c,ec,hc⟩
     ·rcases hk with q|q<;>(rw[show X.env.kindOf y=_ from z] at q;cases q)
     ·exact⟨c,ec,hc⟩
    obtain⟨c',ec'⟩:=hcf y (PySem.mem_of_lookup ef)
    have:=hcl y c' ec'
    rw[ec] at this
    cases this
    refine⟨?_,c,ec',hc4⟩
    show(relabel scope X.env).names.lookup y=_\/(relabel scope X.env).names.lookup y=_
    rw[relabel_lookup,ef]
    simp only[Option.map_some]
    split
    ·exact .inl rfl
    ·exact .inr rfl
  cell:=fun y c e=>I4.cell y c (hcl y c e)
  free:=I3.fresh
  freeC:=fun y c e=>I4.freeC y c (hcl y c e)
  pin:=fun p hp=>absurd (show p∈([]:List (Addr × Obj)) from hp) (by simp)
  hok:=I4.hok
  len:=by show(List.replicate xs.length none++vals).length=(xs++names).length;simp[vals,ok.lenC]}
 have fpok:∀ {H':Hp},(∀ b∈fp,H' b=none)->∀ b∈fp,FpOk X' [] H' b:=fun hn b hb=>⟨hn b hb,(fpC b hb).1,(fpC b hb).2.1,.inl hb,(fpC b hb).2.2,fun p hp=>absurd (show p∈([]:List (Addr × Obj)) from hp) (by simp)⟩
 have leave:∀ {σ':L2.St} {H':Hp} {s1:Shared},Inv X' [] σ' H' s1->Inv X pins σ H' s1:=fun I'=>I2.call' (ch:=fp) I'.os (u23.trans I'.base) I'.hok I'.bare fun b hb=>by
  obtain⟨f0,f1,f2',f3,f4,f5⟩:=f2 b hb
  exact⟨f3,f1,f4,f5⟩
 have fp3:∀ b∈fp,H3 b=none:=fun b hb=>by
  obtain⟨o,e,_⟩:=T.obj _ _ t0 b hb
  show upd H2 D _ b=none
  rw[upd_ne (Nat.ne_of_lt (Heap.lt_size e))]
  exact(f2 b hb).1
 have tn4:tn 0 s4.heap:=T.keep _ _ _ t0 fun b hb o e=>old b o (Heap.get?_push_of_some _ e)
 have loop:codeAny (model X.prog X.w) X.A (.compLoop (.ListComp elt [⟨tg,iter,ifs,0⟩] scope pos) 0 (.ref it) (.ref D) X'.env) (RR (.ref D) C) s4:=by
  refine comp_turns (fun n s=>∃ i acc os H',os.length=xs.length/\Inv X' [] (os++vals) H' s/\tn i s.heap/\(∀ b∈fp,H' b=none)/\W i n acc H') ?_ m0 ⟨0,[],List.replicate xs.length none,H3,by simp,I5,tn4,fp3,w0⟩
  rintro n s ⟨i,acc,os,H6,ho6,I6,t6,fr6,w6⟩
  obtain⟨hD6,st⟩:=turn i n acc H6 w6
  rcases st with⟨stop,q⟩ | ⟨go,step⟩
  ·refine thn (T.done X' rfl rfl rfl hc i [] s (os++vals) H6 _ I6 (fpok fr6) t6 stop) fun r s1 ⟨hr,I7⟩ => ?_
   subst hr
   obtain⟨m,hn,_⟩:=id I7.loc
   obtain⟨oC,es,ep,ho,hdat,_⟩:=id hn
   exact hRR D C H6 s1 m oC (leave I7) hn ho (fun v z=>by rw[hdat] at z;cases z) I7.free (by show D<=C;omega) q
  ·refine thn (T.item X' rfl rfl rfl hc i [] s (os++vals) H6 _ I6 (fpok fr6) t6 go) fun r s1 ⟨u,hr,h1⟩ => ?_
   subst hr
   refine thn h1 fun _ s2' ⟨y,H7,I7,r7,y7,t7,fr7⟩ => ?_
   have I7p:=I7.pinned (fpok fr7) (T.obj _ _ t7)
   obtain⟨bs,hbs,stp⟩:=step y H7 y7
   refine wpAny_mono (hG C fp s3 H3 _ s2' (os++vals) H7 y u (fun σ' H'=>σ'=bs++vals/\H'=H7) I7p r7 (hBg y H7 bs os vals hbs ho6)) (fun _ s8 ⟨σ8,H8,I8,e8,e8'⟩ => ?_) fun _ _ z=>z.elim
   subst e8 e8'
   have hbl:=hBl y H8 bs hbs
   have back:∀ {H':Hp} {s':Shared},Inv X' ([]++pinsAt fp s2'.heap) (bs++vals) H' s'->Inv X' [] (bs++vals) H' s'/\tn (i+1) s'.heap/\∀ b∈fp,H' b=none:=fun {H' s'} I'=>by
    refine⟨I'.unpinned,T.keep _ _ _ t7 fun b hb o e=>(I'.pin (b,o) (List.mem_append_right _ (List.mem_append_right _ (mem_pinsAt hb e)))).1,fun b hb => ?_⟩
    obtain⟨o,e,d⟩:=T.obj _ _ t7 b hb
    exact(I'.pin (b,o) (List.mem_append_right _ (List.mem_append_right _ (mem_pinsAt hb e)))).2.1
   refine wpAny_mono (hC C fp s3 H3 _ s8 (bs++vals) H8 _ I8 stp) (fun okb s9 ⟨H9,I9,q9⟩ => ?_) fun _ _ z=>z.elim
   cases okb with
   |false =>
    rw[if_neg Bool.false_ne_true] at q9 ⊢
    obtain⟨m',hm,w'⟩:=q9
    obtain⟨b1,b2,b3⟩:=back I9
    exact⟨m',hm,i+1,acc,bs,H9,hbl,b1,b2,b3,w'⟩
   |true =>
    rw[if_pos rfl] at q9 ⊢
    refine wpAny_mono (hE C fp s3 H3 _ s9 (bs++vals) H9 _ I9 q9) (fun v s10 ⟨z,H10,I10,rz,hD10,hlen,m',hm,w'⟩ => ?_) fun _ _ z=>z.elim
    refine wpAny_mono (mt_append (X:=X') _ s10 (bs++vals) H10 (.ref D) [z] (.ref D) [v] (fun _ H'=>H'=upd H10 D (.lst (acc++[z]))) I10 rfl (.cons rz .nil) ⟨D,acc,z,rfl,rfl,hD10,Nat.lt_of_le_of_lt hlen (hB X' _ _ _ _ i rfl I6 go),rfl⟩) (fun _ s11 ⟨_,H11,I11,_,e11⟩ => ?_) fun _ _ z=>z.elim
    subst e11
    obtain⟨b1,b2,b3⟩:=back I11
    exact⟨m',hm,i+1,acc++[z],bs,_,hbl,b1,b2,b3,w'⟩
 exact codeAny_compStart_list loop (T.self X.A 0 s4 _ _ tn4 loop)
theorem pe_comp{wi:TI}(hc:X.calm=true)(ok:CompOk X xs caps names scope)
 (hI:PI X tg iter wi)
 (hG:∀ C fp s H,PG (cxC X (xs++names) scope (frees X.env.cells scope.names []) C fp s H) tg g) (hBl:∀ y H bs,B y H bs->bs.length=xs.length) (hBg:∀ y H bs os vals,B y H bs->os.length=xs.length->g y (os++vals) H fun σ' H'=>σ'=bs++vals/\H'=H)
 (hC:∀ C fp s H,PCs (cxC X (xs++names) scope (frees X.env.cells scope.names []) C fp s H) ifs tc) (hE:∀ C fp s H,PE (cxC X (xs++names) scope (frees X.env.cells scope.names []) C fp s H) elt te)
 (hs:∀ x,foldedSetIterable iter X.env x=pure x):PE X (.ListComp elt [⟨tg,iter,ifs,0⟩] scope pos) (tLC X.K B wi caps tc te):=by
 intro pins s σ H Q I h
 rw[eval_ListComp]
 have hfr:∀ y∈scope.names,y.2 = .free->∃ c,X.env.cells.lookup y.1=some c:=fun y hy e=>I.ok.has y.1 (ok.fre y hy e)
 refine wpAny_comprehension_free (use:=none) rfl hs (closure_is hfr) ok.kind ok.loc (thn (hI pins s σ H _ I h) fun v s1 h1=>thn h1 fun itv s2 h2 => ?_)
 obtain⟨it,fp,tn,J,H2,e,I2,T,t0,f2,hB,q⟩:=h2
 subst e
 refine comp_core (RR:=fun acc C=>compPost (model X.prog X.w) X.A X.xe none (EP X pins σ Q) acc C) hc ok rfl hC hE hG hBl hBg I2 T t0 f2 hB q fun D C H' s1 m oC I' hn hC' hcell hfree hle q' => ?_
 refine⟨m,hn,fun h' hsb=>⟨.ref D,H',?_,rfl,q'⟩⟩
 have hL:C≠X.env.locals:=Nat.ne_of_gt (Nat.lt_of_lt_of_le I2.lt hle)
 exact I'.turned (t':=s1.toks) (fun b o hb e=>hsb.extBut b o hb e) hfree hL (.inr (Nat.le_trans I2.sz hle)) (fun y c e z=>by
  obtain⟨v,qq⟩:=I2.cell y c e
  exact absurd (Nat.lt_of_lt_of_le qq.lt (by rw[z];exact hle)) (Nat.lt_irrefl _)) fun p hp z=>absurd (Nat.lt_of_lt_of_le (Heap.lt_size (I2.pin p hp).1) (by rw[z];exact hle)) (Nat.lt_irrefl _)
theorem ps_comp{wi:TI}{y:Str}{py spos:Pos}{i:Nat}(hc:X.calm=true)(ok:CompOk X xs caps names scope)
 (hI:PI X tg iter wi)
 (hG:∀ C fp s H,PG (cxC X (xs++names) scope (frees X.env.cells scope.names []) C fp s H) tg g) (hBl:∀ y H bs,B y H bs->bs.length=xs.length) (hBg:∀ y H bs os vals,B y H bs->os.length=xs.length->g y (os++vals) H fun σ' H'=>σ'=bs++vals/\H'=H)
 (hC:∀ C fp s H,PCs (cxC X (xs++names) scope (frees X.env.cells scope.names []) C fp s H) ifs tc) (hE:∀ C fp s H,PE (cxC X (xs++names) scope (frees X.env.cells scope.names []) C fp s H) elt te)
 (hs:∀ x,foldedSetIterable iter X.env x=pure x) (hsw:swapsWith (.ListComp elt [⟨tg,iter,ifs,0⟩] scope pos) (some (.Name y py)) spos.line X.env=pure true)
 (hN:X.N.Nodup) (hi:X.N[i]?=some y) (hy:Loc X.env.scope y) (hf:X.fn y=true\/X.env.scope.names.lookup y=some .local) :
 PS X (.Assign [.Name y py] (.ListComp elt [⟨tg,iter,ifs,0⟩] scope pos) spos) (fun D σ H=>tLC X.K B wi caps tc te σ H fun v H'=>D.nx (σ.set i (some v)) H'):=by
 intro pins s σ H D I h
 rw[exec_Assign_Name_used _ _ _ _ hsw]
 refine wpAny_bind (wpAny_standAt (wpAny_bind ?_))
 show wpAny _ X.A (do let _ ← comprehension (.ListComp elt [⟨tg,iter,ifs,0⟩] scope pos) scope X.env _ (newList []) false (eval iter X.env) (some (assign (.Name y py) X.env))) _ _ s
 have hfr:∀ y∈scope.names,y.2 = .free->∃ c,X.env.cells.lookup y.1=some c:=fun y hy e=>I.ok.has y.1 (ok.fre y hy e)
 refine wpAny_bind (thn (wpAny_comprehension_free (use:=some (assign (.Name y py) X.env)) (Q:=fun _ s'=>SP X pins D .next s') rfl hs (closure_is hfr) ok.kind ok.loc
  (thn (hI pins s σ H _ I h) fun v s1 h1=>thn h1 fun itv s2 h2 => ?_)) fun _ s' hq=>wpAny_pure (wpAny_pure hq))
 obtain⟨it,fp,tn,J,H2,e,I2,T,t0,f2,hB,q⟩:=h2
 subst e
 refine comp_core (RR:=fun acc C=>compPost (model X.prog X.w) X.A X.xe (some (assign (.Name y py) X.env)) (fun _ s'=>SP X pins D .next s') acc C) hc ok rfl hC hE hG hBl hBg I2 T t0 f2 hB q fun Da C H' s1 m oC I' hn hC' hcell hfree hle q' => ?_
 have hL:C≠X.env.locals:=Nat.ne_of_gt (Nat.lt_of_lt_of_le I2.lt hle)
 have I1:Inv X (pins++[(C,oC)]) σ H' s1:=I'.pins_of fun p hp=>by
  rcases List.mem_append.mp hp with z|z
  ·exact I'.pin p (List.mem_append_right _ z)
  ·simp at z
   subst z
   exact⟨hC',hfree,hL,I2.nofs hle,hcell⟩
 show wpAny _ X.A (assign (.Name y py) X.env (.ref Da)) _ _ s1
 refine thn (pg_name hN hi hy hf _ s1 σ H' (.ref Da) (.ref Da) (fun σ' H''=>σ'=σ.set i (some (.ref Da))/\H''=H') I1 rfl ⟨rfl,rfl⟩) fun _ s2' ⟨σ2,H2',I2',e1,e2⟩ => ?_
 subst e1 e2
 obtain⟨p1,p2,p3,p4,p5⟩:=I2'.pin (C,oC) (List.mem_append_right _ (List.mem_append_right _ (by simp)))
 have hn2:s2'.heap.Ns C m:=hn.at' fun o e=>by rw[hC'] at e;cases e;exact p1
 refine⟨m,hn2,fun h' hsb=>⟨_,_,?_,q'⟩⟩
 have I3:Inv X pins (σ.set i (some (.ref Da))) H2' s2':=I2'.unpinned
 exact I3.turned (t':=s2'.toks) (fun b o hb e=>hsb.extBut b o hb e) p2 hL (.inr (Nat.le_trans I2.sz hle)) (fun y c e z=>by
  obtain⟨v,qq⟩:=I2.cell y c e
  exact absurd (Nat.lt_of_lt_of_le qq.lt (by rw[z];exact hle)) (Nat.lt_irrefl _)) fun p hp z=>absurd (Nat.lt_of_lt_of_le (Heap.lt_size (I2.pin p hp).1) (by rw[z];exact hle)) (Nat.lt_irrefl _)
end
end SN
namespace SN
open PySem PySem.Spec PyProof.Rows L2 MP
variable [Wd]
mutual
noncomputable def dOf:G->PyData
 | .non=>.none
 | .bl b=>.bool b
 | .int i=>.int i
 | .str x=>.str (sOf x)
 | .tup xs=>.tuple (dOfs xs)
noncomputable def dOfs:List G->List PyData
 | []=>[]
 |x::r=>dOf x::dOfs r
end
mutual
theorem dOf_depth:∀ x:G,(dOf x).depth=gdep x
 | .non=>by simp[dOf,PyData.depth,gdep]
 | .bl _=>by simp[dOf,PyData.depth,gdep]
 | .int _=>by simp[dOf,PyData.depth,gdep]
 | .str _=>by simp[dOf,PyData.depth,gdep]
 | .tup xs=>by simp[dOf,PyData.depth,gdep,dOfs_depth xs]
theorem dOfs_depth:∀ xs:List G,PyData.depthAll (dOfs xs)=gdeps xs
 | []=>by simp[dOfs,PyData.depthAll,gdeps]
 |x::r=>by simp[dOfs,PyData.depthAll,gdeps,dOf_depth x,dOfs_depth r]
end
theorem sOf_beq(x y:List Nat):(sOf x == sOf y)=(x == y):=by
 by_cases h:x=y
 ·subst h;simp
 ·have:sOf x≠sOf y:=fun e=>h (sOf_inj e)
  rw[beq_eq_false_iff_ne.mpr this,beq_eq_false_iff_ne.mpr h]
mutual
theorem dOf_eqv:∀ x y:G,PyData.eqv (dOf x) (dOf y)=peq x y
 | .non,y=>by cases y<;>simp[dOf,PyData.eqv,peq]
 | .bl a,y=>by cases y<;>simp[dOf,PyData.eqv,peq,MP.b2i]
 | .int a,y=>by cases y<;>simp[dOf,PyData.eqv,peq,MP.b2i]
 | .str a,y=>by cases y<;>simp[dOf,PyData.eqv,peq,sOf_beq]
 | .tup xs,y=>by
  cases y with
  |tup ys=>simp[dOf,PyData.eqv,peq,dOfs_eqv xs ys]
  |_=>simp[dOf,PyData.eqv,peq]
theorem dOfs_eqv:∀ xs ys:List G,PyData.eqvAll (dOfs xs) (dOfs ys)=peqs xs ys
 | [],ys=>by cases ys<;>simp[dOfs,PyData.eqvAll,peqs]
 |x::r,ys=>by
  cases ys with
  |nil=>simp[dOfs,PyData.eqvAll,peqs]
  |cons y t=>simp[dOfs,PyData.eqvAll,peqs,dOf_eqv x y,dOfs_eqv r t]
end
section
variable {X:Cx}{pins:List (Addr × Obj)}{σ:L2.St}{H:Hp}{s:Shared}
mutual
theorem RG.reads(I:Inv X pins σ H s):∀ (x:G) {v:V} {u:Value},RG H x v->RelV v u->(∃ as,Reads s.heap u (dOf x) as)/\(dOf x).canLay0=true
 | .non,_,_,h,r=>by cases h;cases r;exact⟨⟨_,.none⟩,rfl⟩
 | .bl b,_,_,h,r=>by cases h;cases r;exact⟨⟨_,.bool _⟩,rfl⟩
 | .int i,_,_,h,r=>by cases h;obtain⟨t,rfl⟩:=r;exact⟨⟨_,.int _ _⟩,rfl⟩
 | .str x,_,_,h,r=>by
  obtain⟨rfl,hx⟩:=h
  obtain⟨t,rfl⟩:=r
  refine⟨⟨_,.str _ _⟩,?_⟩
  show PyData.strOk (sOf x)=true
  unfold PyData.strOk sOf
  simpa using okS_all hx
 | .tup xs,_,_,h,r=>by
  obtain⟨a,vs,rfl,ha,hs⟩:=h
  cases r
  obtain⟨_,its,rv,o,ho,hc,n,hd⟩:=I.hok a _ ha
  obtain⟨⟨as,ra⟩,hk⟩:=RGs.reads I xs hs rv
  exact⟨⟨_,.tuple ho hc hd (by simpa using ra)⟩,hk⟩
theorem RGs.reads(I:Inv X pins σ H s):∀ (xs:List G) {vs:List V} {us:List Value},RGs H xs vs->Vals vs us->(∃ as,ReadsAll s.heap us (dOfs xs) as)/\PyData.canLayAll0 (dOfs xs)=true
 | [],_,_,h,r=>by cases h;cases r;exact⟨⟨_,.nil⟩,rfl⟩
 |x::xs,_,_,h,r=>by
  obtain⟨v,vs,rfl,h1,h2⟩:=h
  cases r with
  |cons r1 r2 =>
   obtain⟨⟨as,ra⟩,k1⟩:=RG.reads I x h1 r1
   obtain⟨⟨bs,rb⟩,k2⟩:=RGs.reads I xs h2 r2
   exact⟨⟨_,.cons ra rb⟩,by simp[dOfs,PyData.canLayAll0,k1,k2]⟩
end
theorem shal_le{x:G}(h:shal x=true):gdep x<=150:=of_decide_eq_true h
theorem RG.eqAt(I:Inv X pins σ H s){A:Around}(hu:A.units+160<cLine){x y:G}{v w:V}{u z:Value}(hx:RG H x v)(hy:RG H y w)(hs:shal x=true)(rv:RelV v u)(rw':RelV w z):SeqAt.EqAt A s u z (peq x y):=by
 obtain⟨⟨as,ra⟩,ka⟩:=RG.reads I x hx rv
 obtain⟨⟨bs,rb⟩,kb⟩:=RG.reads I y hy rw'
 have:=SeqAt.eqAt_reads (dOf x) (dOf y) A s u z as bs ra rb ka kb (by rw[dOf_depth];have:=shal_le hs;have h2:=Nat.min_le_left (gdep x) (dOf y).depth;omega)
 rwa [dOf_eqv] at this
noncomputable def rEqG(neg:Bool):R2:=fun x y H Q=>∃ gx gy,RG H gx x/\RG H gy y/\shal gx=true/\Q (.bl (if neg then !peq gx gy else peq gx gy)) H
theorem op_eqG(hu:X.A.units+160<cLine):OpR X (compareOp .Eq) (rEqG false):=by
 intro pins s σ H x y v u Q I rx ry h
 obtain⟨gx,gy,hx,hy,hs,q⟩:=h
 obtain⟨⟨as,ra⟩,ka⟩:=RG.reads I gx hx rx
 obtain⟨⟨bs,rb⟩,kb⟩:=RG.reads I gy hy ry
 refine SeqAt.compareEq_reads ra rb ka kb (by rw[dOf_depth];have:=shal_le hs;have h2:=Nat.min_le_left (gdep gx) (dOf gy).depth;omega) ?_
 rw[dOf_eqv]
 exact⟨.bl _,H,I,rfl,q⟩
theorem op_neG(hu:X.A.units+160<cLine):OpR X (compareOp .NotEq) (rEqG true):=by
 intro pins s σ H x y v u Q I rx ry h
 obtain⟨gx,gy,hx,hy,hs,q⟩:=h
 obtain⟨⟨as,ra⟩,ka⟩:=RG.reads I gx hx rx
 obtain⟨⟨bs,rb⟩,kb⟩:=RG.reads I gy hy ry
 refine SeqAt.compareNe_reads ra rb ka kb (by rw[dOf_depth];have:=shal_le hs;have h2:=Nat.min_le_left (gdep gx) (dOf gy).depth;omega) ?_
 rw[dOf_eqv]
 exact⟨.bl _,H,I,rfl,q⟩
noncomputable def rEqL(neg:Bool):R2:=fun x y H Q=>∃ a b xs ys vs ws,x = .ref a/\y = .ref b/\Rd H a (.lst vs)/\Rd H b (.lst ws)/\RGs H xs vs/\RGs H ys ws/\xs.all shal=true/\Q (.bl (if neg then !peqs xs ys else peqs xs ys)) H
theorem gdeps_le{xs:List G}(h:xs.all shal=true):gdeps xs<=150:=by
 induction xs with
 |nil=>simp[gdeps]
 |cons x r ih =>
  simp only[List.all_cons,Bool.and_eq_true] at h
  have h1:=shal_le h.1
  have h2:=ih h.2
  simp only[gdeps];omega
theorem RL.reads(I:Inv X pins σ H s){a:Addr}{xs:List G}{vs:List V}(ha:Rd H a (.lst vs))(hs:RGs H xs vs):(∃ as,Reads s.heap (.ref a) (.list (dOfs xs)) as)/\(PyData.list (dOfs xs)).canLay0=true:=by
 obtain⟨_,its,n,rv,e⟩:=ha.ok I.hok
 obtain⟨⟨as,ra⟩,hk⟩:=RGs.reads I xs hs rv
 exact⟨⟨_,.list e rfl rfl (by simpa using ra)⟩,by simpa[PyData.canLay0] using hk⟩
theorem op_eqL(hu:X.A.units+160<cLine):OpR X (compareOp .Eq) (rEqL false):=by
 intro pins s σ H x y v u Q I rx ry h
 obtain⟨a,b,xs,ys,vs,ws,rfl,rfl,ha,hb,hx,hy,hs,q⟩:=h
 cases rx
 cases ry
 obtain⟨⟨as,ra⟩,ka⟩:=RL.reads I ha hx
 obtain⟨⟨bs,rb⟩,kb⟩:=RL.reads I hb hy
 refine SeqAt.compareEq_reads ra rb ka kb (by
  have h1:=gdeps_le hs
  have h2:=Nat.min_le_left (PyData.list (dOfs xs)).depth (PyData.list (dOfs ys)).depth
  have h3:(PyData.list (dOfs xs)).depth=gdeps xs+1:=by simp[PyData.depth,dOfs_depth]
  omega) ?_
 rw[show PyData.eqv (.list (dOfs xs)) (.list (dOfs ys))=peqs xs ys by simp[PyData.eqv,dOfs_eqv]]
 exact⟨.bl _,H,I,rfl,q⟩
theorem op_neL(hu:X.A.units+160<cLine):OpR X (compareOp .NotEq) (rEqL true):=by
 intro pins s σ H x y v u Q I rx ry h
 obtain⟨a,b,xs,ys,vs,ws,rfl,rfl,ha,hb,hx,hy,hs,q⟩:=h
 cases rx
 cases ry
 obtain⟨⟨as,ra⟩,ka⟩:=RL.reads I ha hx
 obtain⟨⟨bs,rb⟩,kb⟩:=RL.reads I hb hy
 refine SeqAt.compareNe_reads ra rb ka kb (by
  have h1:=gdeps_le hs
  have h2:=Nat.min_le_left (PyData.list (dOfs xs)).depth (PyData.list (dOfs ys)).depth
  have h3:(PyData.list (dOfs xs)).depth=gdeps xs+1:=by simp[PyData.depth,dOfs_depth]
  omega) ?_
 rw[show PyData.eqv (.list (dOfs xs)) (.list (dOfs ys))=peqs xs ys by simp[PyData.eqv,dOfs_eqv]]
 exact⟨.bl _,H,I,rfl,q⟩
theorem keyOf_inj{k j:G}{a:Key}(h1:keyOf k=some a)(h2:keyOf j=some a):k=j:=by
 cases k<;>cases j<;>simp[keyOf] at h1 h2
 ·subst h1;cases h2;rfl
 ·subst h1;cases h2
 ·subst h1;cases h2
 ·subst h1
  have:sOf _=sOf _:=Sum.inr.inj h2
  rw[sOf_inj this]
noncomputable def rEqD(_:Bool):R2:=fun _ _ _ _=>False
theorem op_eqD(_:X.A.units+170<cLine):OpR X (compareOp .Eq) (rEqD false):=fun _ _ _ _ _ _ _ _ _ _ _ _ h=>h.elim
theorem op_neD(_:X.A.units+170<cLine):OpR X (compareOp .NotEq) (rEqD true):=fun _ _ _ _ _ _ _ _ _ _ _ _ h=>h.elim
mutual
theorem RG.inj{H:Hp}:∀ {x y:G} {v:V},RG H x v->RG H y v->x=y
 | .non,y,_,h,k=>by
  cases h
  cases y with
  |non=>cases k;rfl
  |bl _=>cases k
  |int _=>cases k
  |str _=>obtain⟨e,_⟩:=k;cases e
  |tup _=>obtain⟨_,_,e,_⟩:=k;cases e
 | .bl _,y,_,h,k=>by
  cases h
  cases y with
  |non=>cases k
  |bl _=>cases k;rfl
  |int _=>cases k
  |str _=>obtain⟨e,_⟩:=k;cases e
  |tup _=>obtain⟨_,_,e,_⟩:=k;cases e
 | .int _,y,_,h,k=>by
  cases h
  cases y with
  |non=>cases k
  |bl _=>cases k
  |int _=>cases k;rfl
  |str _=>obtain⟨e,_⟩:=k;cases e
  |tup _=>obtain⟨_,_,e,_⟩:=k;cases e
 | .str x,y,_,h,k=>by
  obtain⟨rfl,_⟩:=h
  cases y with
  |str z=>rw[sOf_inj (V.str.inj k.1)]
  |tup z=>obtain⟨_,_,e,_⟩:=k;cases e
  |non=>cases k
  |bl _=>cases k
  |int _=>cases k
 | .tup xs,y,_,h,k=>by
  obtain⟨a,vs,rfl,ha,hs⟩:=h
  cases y with
  |tup z =>
   obtain⟨b,ws,e,hb,hz⟩:=k
   cases e
   rw[ha] at hb
   cases hb
   rw[RGs.inj hs hz]
  |str z=>obtain⟨e,_⟩:=k;cases e
  |non=>cases k
  |bl _=>cases k
  |int _=>cases k
theorem RGs.inj{H:Hp}:∀ {xs ys:List G} {vs:List V},RGs H xs vs->RGs H ys vs->xs=ys
 | [],ys,_,h,k=>by
  cases h
  cases ys with
  |nil=>rfl
  |cons y t=>obtain⟨_,_,e,_⟩:=k;cases e
 |x::r,ys,_,h,k=>by
  obtain⟨v,vs,rfl,h1,h2⟩:=h
  cases ys with
  |nil=>cases k
  |cons y t =>
   obtain⟨_,_,e,k1,k2⟩:=k
   cases e
   rw[RG.inj h1 k1,RGs.inj h2 k2]
end
theorem RKs.inj{H:Hp}:∀ {xs ys:List (G × G)} {vs:List (Key × V)},RKs H xs vs->RKs H ys vs->xs=ys
 | [],ys,_,h,k=>by
  cases h
  cases ys with
  |nil=>rfl
  |cons y t=>obtain⟨_,_,_,e,_⟩:=k;cases e
 | (a,x)::r,ys,_,h,k=>by
  obtain⟨b,v,vs,rfl,h1,h2,h3⟩:=h
  cases ys with
  |nil=>cases k
  |cons y t =>
   obtain⟨c,y⟩:=y
   obtain⟨_,_,_,e,k1,k2,k3⟩:=k
   cases e
   have e1:a=c:=keyOf_inj h1 k1
   have e2:x=y:=RG.inj h2 k2
   rw[e1,e2,RKs.inj h3 k3]
theorem RKs.keys{H:Hp}{xs:List (G × G)}{vs:List (Key × V)}(h:RKs H xs vs)(nd:(vs.map (·.1)).Nodup):(xs.map (·.1)).Nodup:=by
 induction xs generalizing vs with
 |nil=>simp
 |cons p r ih =>
  obtain⟨a,x⟩:=p
  obtain⟨b,v,t,rfl,h1,h2,h3⟩:=h
  simp only[List.map_cons,List.nodup_cons] at nd ⊢
  refine⟨fun hm=>nd.1 ?_,ih h3 nd.2⟩
  clear ih nd
  induction r generalizing t with
  |nil=>simp at hm
  |cons q r ih =>
   obtain⟨c,y⟩:=q
   obtain⟨d,w,t',rfl,k1,k2,k3⟩:=h3
   simp only[List.map_cons,List.mem_cons] at hm ⊢
   rcases hm with rfl|hm
   ·left
    have h1:keyOf a=some b:=h1
    have k1:keyOf a=some d:=k1
    rw[h1] at k1
    exact Option.some.inj k1
   ·right
    exact ih t' k3 hm
end
end SN
namespace SN
open PySem PySem.Spec PyProof.Rows L2 MP
variable [Wd]
end SN
namespace SN
open PySem PySem.Spec PyProof.Rows L2 MP
variable [Wd]
theorem at_atI{α:Type}(xs:List α)(i:Int):at? xs i=atI xs i:=rfl
theorem big_le:big<=sizeLine:=by rw[sizeLine_eq];decide
theorem thousand_le{n:Nat}(h:n<=1000):n<=sizeLine:=Nat.le_trans h (by rw[sizeLine_eq];decide)
theorem RGs.atI{H:Hp}{xs:List G}{vs:List V}{i:Int}{x:G}(h:RGs H xs vs)(e:L2.atI xs i=some x):∃ v,L2.atI vs i=some v/\RG H x v:=by
 unfold L2.atI at e ⊢
 rw[h.length]
 cases q:ixN xs.length i with
 |none=>rw[q] at e;cases e
 |some j =>
  rw[q] at e
  exact h.get e
theorem RRs.atI{H:Hp}{ρ:Nat->Addr}{n:Nat}{xs:List R}{vs:List V}{i:Int}{x:R}(h:RRs H ρ n xs vs)(e:L2.atI xs i=some x):∃ v,L2.atI vs i=some v/\RR H ρ n x v:=by
 unfold L2.atI at e ⊢
 rw[h.length]
 cases q:ixN xs.length i with
 |none=>rw[q] at e;cases e
 |some j =>
  rw[q] at e
  exact h.get e
theorem Fin.same{ρ:Nat->Addr}{σ:Store}{H:Hp}{r:R}{Q:VK}{v:V}(f:Fin ρ σ.length H r σ Q)(S:SR H ρ σ)(h:RR H ρ σ.length r v):Q v H:=f ρ v H (Ext.refl _ _ _) S h
theorem Fin.new{ρ:Nat->Addr}{σ:Store}{H:Hp}{Q:VK}{c:Cell}{o:HO}{p:Addr}(f:Fin ρ σ.length H (.ref σ.length) (σ++[c]) Q)(S:SR H ρ σ)(hp:H p=none)(ht:∀ vs,o ≠ .tup vs)
 (hc:∀ H' ρ',TPk H H'->H' p=some o->ρ' σ.length=p->(∀ i,i<σ.length->ρ' i=ρ i)->RC H' ρ' σ.length c) (hb:∀ (m:Nat) (xs:List R),c=Cell.stk m xs->m<=σ.length+1:=by intro _ _ z;cases z):Q (.ref p) (upd H p o):=by
 obtain⟨ρ',e1,e2,e3⟩:=S.push hp ht hc hb
 exact f ρ' (.ref p) _ e1 e2 ⟨by simp,by rw[e3]⟩
section
variable {X:Cx}
noncomputable def Ok2(p:Prim)(rr:R2):Prop:=∀ (ρ:Nat->Addr) (σ:Store) (H:Hp) (x y:R) (vx vy:V) (r:R) (σ':Store) (Q:VK),SR H ρ σ->RR H ρ σ.length x vx->RR H ρ σ.length y vy->prim p [x,y] σ = .ok r σ'->Fin ρ σ.length H r σ' Q->rr vx vy H Q
noncomputable def OkN(p:Prim)(rr:List V->Hp->VK->Prop):Prop:=∀ (ρ:Nat->Addr) (σ:Store) (H:Hp) (xs:List R) (vs:List V) (r:R) (σ':Store) (Q:VK),SR H ρ σ->RRs H ρ σ.length xs vs->prim p xs σ = .ok r σ'->Fin ρ σ.length H r σ' Q->rr vs H Q
theorem two_int{p:Prim}{f:List R->Store->Res R}(hp:prim p=f){rr:R2}(h:∀ (ρ:Nat->Addr) (σ:Store) (H:Hp) (i j:Int) (r:R) (σ':Store) (Q:VK),SR H ρ σ->f [.g (.int i),.g (.int j)] σ = .ok r σ'->Fin ρ σ.length H r σ' Q->rr (.int i) (.int j) H Q)
 (hs:∀ x y σ,(∀ i j,x=R.g (.int i)->y=R.g (.int j)->False)->f [x,y] σ = .stuck):Ok2 p rr:=by
 intro ρ σ H x y vx vy r σ' Q S hx hy e q
 rw[hp] at e
 by_cases hi:∃ i j,x=R.g (.int i)/\y=R.g (.int j)
 ·obtain⟨i,j,rfl,rfl⟩:=hi
  cases(show vx = .int i from hx)
  cases(show vy = .int j from hy)
  exact h ρ σ H i j r σ' Q S e q
 ·rw[hs x y σ fun i j a b=>hi ⟨i,j,a,b⟩] at e
  cases e
theorem ok_sub:Ok2 .sub (rI0 fun i j=>.int (i-j)):=two_int (f:=pSub) rfl (fun ρ σ H i j r σ' Q S e q=>by cases e;exact⟨i,j,rfl,rfl,q.same S rfl⟩) (fun x y σ h=>by
 unfold pSub;split
 ·rename_i e;simp at e;exact(h _ _ e.1 e.2).elim
 ·rfl)
theorem ok_lt:Ok2 .lt (rI0 fun i j=>.bl (decide (i<j))):=two_int (f:=pLt) rfl (fun ρ σ H i j r σ' Q S e q=>by cases e;exact⟨i,j,rfl,rfl,q.same S rfl⟩) (fun x y σ h=>by
 unfold pLt;split
 ·rename_i e;simp at e;exact(h _ _ e.1 e.2).elim
 ·rfl)
theorem ok_le:Ok2 .le (rI0 fun i j=>.bl (decide (i<=j))):=two_int (f:=pLe) rfl (fun ρ σ H i j r σ' Q S e q=>by cases e;exact⟨i,j,rfl,rfl,q.same S rfl⟩) (fun x y σ h=>by
 unfold pLe;split
 ·rename_i e;simp at e;exact(h _ _ e.1 e.2).elim
 ·rfl)
theorem ok_gt:Ok2 .gt (rI0 fun i j=>.bl (decide (j<i))):=two_int (f:=pGt) rfl (fun ρ σ H i j r σ' Q S e q=>by cases e;exact⟨i,j,rfl,rfl,q.same S rfl⟩) (fun x y σ h=>by
 unfold pGt;split
 ·rename_i e;simp at e;exact(h _ _ e.1 e.2).elim
 ·rfl)
theorem ok_ge:Ok2 .ge (rI0 fun i j=>.bl (decide (j<=i))):=two_int (f:=pGe) rfl (fun ρ σ H i j r σ' Q S e q=>by cases e;exact⟨i,j,rfl,rfl,q.same S rfl⟩) (fun x y σ h=>by
 unfold pGe;split
 ·rename_i e;simp at e;exact(h _ _ e.1 e.2).elim
 ·rfl)
theorem ok_mul:Ok2 .mul (rI CMul fun i j=>.int (i*j)):=two_int (f:=pMul) rfl (fun ρ σ H i j r σ' Q S e q=>by
 unfold pMul at e
 simp only at e
 split at e
 ·rename_i c;cases e;exact⟨i,j,rfl,rfl,c,q.same S rfl⟩
 ·cases e) (fun x y σ h=>by
 unfold pMul;split
 ·rename_i e;simp at e;exact(h _ _ e.1 e.2).elim
 ·rfl)
theorem ok_fdiv:Ok2 .fdiv (rI CDiv fun i j=>.int (i / j)):=two_int (f:=pFdiv) rfl (fun ρ σ H i j r σ' Q S e q=>by
 unfold pFdiv at e
 simp only at e
 split at e
 ·rename_i c;cases e;exact⟨i,j,rfl,rfl,c,q.same S rfl⟩
 ·cases e) (fun x y σ h=>by
 unfold pFdiv;split
 ·rename_i e;simp at e;exact(h _ _ e.1 e.2).elim
 ·rfl)
theorem ok_mod:Ok2 .mod (rI (fun _ j=>0<j) fun i j=>.int (i % j)):=two_int (f:=pMod) rfl (fun ρ σ H i j r σ' Q S e q=>by
 unfold pMod at e
 simp only at e
 split at e
 ·rename_i c;cases e;exact⟨i,j,rfl,rfl,c,q.same S rfl⟩
 ·cases e) (fun x y σ h=>by
 unfold pMod;split
 ·rename_i e;simp at e;exact(h _ _ e.1 e.2).elim
 ·rfl)
noncomputable def rAddS:R2:=fun x y H Q=>∃ i j,x = .str i/\y = .str j/\i.length+j.length<=sizeLine/\Q (.str (i++j)) H
noncomputable def rCatT0(K:PySem.W.Frag):R2:=fun x y H Q=>∃ a b ys,x = .ref a/\y = .ref b/\SqT K H a []/\SqT K H b ys/\Q (.ref b) H
theorem op_catT0:OpR X (binaryOp .Add) (rCatT0 X.K):=by
 intro pins s σ H x y v u Q I rx ry h
 obtain⟨a,b,ys,rfl,rfl,ha,hb,q⟩:=h
 cases rx
 cases ry
 obtain⟨its,r1,p1,_⟩:=I.tuple ha
 obtain⟨its2,r2,p2,_⟩:=I.tuple hb
 cases r1
 obtain⟨⟨c1,d1,da1,sl1⟩,ho1,hc1,n1,hd1⟩:=id p1
 obtain⟨⟨c2,d2,da2,sl2⟩,ho2,hc2,n2,hd2⟩:=id p2
 simp only at hc1 hd1 hc2 hd2
 subst hc1 hd1 hc2 hd2
 exact concat_meets ⟨_,ho1,rfl⟩ ⟨_,ho2,rfl⟩ noFill_tuple_add seq_tuple_add PySem.F.slot_tuple_add PySem.F.entry_tuple_add (PySem.F.args_tuple_add_2 _ _)
  (tuple_addW0 a b _ _ n1 n2 d1 d2 sl1 sl2 (by rfl)) ⟨ho1,ho2,⟨.ref b,H,I,rfl,q⟩⟩
noncomputable def rAddAll(K:PySem.W.Frag):R2:=fun x y H Q=>(rI0 fun i j=>.int (i+j)) x y H Q\/rAddS x y H Q\/rCatT K x y H Q\/rCat x y H Q\/rCatT0 K x y H Q
theorem op_addAll:OpR X (binaryOp .Add) (rAddAll X.K):=op_add.or (op_add_str.or (op_catT.or (op_cat.or op_catT0)))
theorem sOf_app(xs ys:List Nat):sOf xs++sOf ys=sOf (xs++ys):=by
 unfold sOf
 show(⟨_++_⟩:Str)=_
 simp
theorem ok_add{K:PySem.W.Frag}:Ok2 .add (rAddAll K):=by
 intro ρ σ H x y vx vy r σ' Q S hx hy e q
 change pAdd [x,y] σ=_ at e
 cases x with
 |tr _=>simp[pAdd] at e
 |ref i =>
  cases y with
  |tr _=>simp[pAdd] at e
  |g _=>simp[pAdd] at e
  |ref j =>
   simp only[pAdd] at e
   split at e
   ·rename_i xs ys e1 e2
    split at e
    ·rename_i hl
     cases e
     obtain⟨hi,rfl⟩:=hx
     obtain⟨hj,rfl⟩:=hy
     obtain⟨vs,h1,h2⟩:=S.cell i _ e1
     obtain⟨ws,h3,h4⟩:=S.cell j _ e2
     refine .inr (.inr (.inr (.inl ⟨_,_,vs,ws,rfl,rfl,h1,h3,by rw[h2.length,h4.length];exact Nat.le_trans hl big_le,fun p hp => ?_⟩)))
     exact q.new S hp (fun _ z=>by cases z) fun H' ρ' tp e ep _=>⟨_,by rw[ep];exact e,(RGs.mono tp _ h2).append (RGs.mono tp _ h4)⟩
    ·cases e
   ·cases e
 |g gx =>
  cases y with
  |tr _=>cases gx<;>simp[pAdd] at e
  |ref _=>cases gx<;>simp[pAdd] at e
  |g gy =>
   cases gx with
   |non=>simp[pAdd] at e
   |bl _=>simp[pAdd] at e
   |int i =>
    cases gy with
    |int j =>
     cases e
     cases(show vx = .int _ from hx)
     cases(show vy = .int _ from hy)
     exact .inl ⟨_,_,rfl,rfl,q.same S rfl⟩
    |_=>simp[pAdd] at e
   |str xs =>
    cases gy with
    |str ys =>
     simp only[pAdd] at e
     split at e
     ·rename_i hl
      cases e
      obtain⟨rfl,h1⟩:=hx
      obtain⟨rfl,h2⟩:=hy
      refine .inr (.inl ⟨_,_,rfl,rfl,by rw[sOf_len,sOf_len];exact Nat.le_trans hl big_le,?_⟩)
      rw[sOf_app]
      exact q.same S ⟨rfl,okS_of (by rw[List.length_append];exact Nat.le_trans hl (by decide)) (by rw[List.all_append,okS_all h1,okS_all h2];rfl)⟩
     ·cases e
    |_=>simp[pAdd] at e
   |tup xs =>
    cases gy with
    |tup ys =>
     simp only[pAdd] at e
     split at e
     ·rename_i hl
      cases e
      obtain⟨a,vs,rfl,ha,h1⟩:=hx
      obtain⟨b,ws,rfl,hb,h2⟩:=hy
      have l1:=h1.length
      have l2:=h2.length
      by_cases he:vs=[]
      ·subst he
       have:xs=[]:=List.length_eq_zero_iff.mp (by simpa using l1.symm)
       subst this
       exact .inr (.inr (.inr (.inr ⟨a,b,ws,rfl,rfl,.of ha,.of hb,q.same S ⟨b,ws,rfl,hb,h2⟩⟩)))
      refine .inr (.inr (.inl ⟨a,b,vs,ws,rfl,rfl,.of ha,.of hb,he,by rw[l1,l2];exact Nat.le_trans hl big_le,fun z => ?_,fun z p hp => ?_⟩))
      ·subst z
       have:ys=[]:=List.length_eq_zero_iff.mp (by simpa using l2.symm)
       subst this
       rw[List.append_nil] at q
       exact q.same S ⟨a,vs,rfl,ha,h1⟩
      ·obtain⟨e1,e2,tp⟩:=S.tup hp (.tup (vs++ws))
       exact q ρ (.ref p) _ e1 e2 ⟨p,vs++ws,rfl,upd_same,(RGs.mono tp _ h1).append (RGs.mono tp _ h2)⟩
     ·cases e
    |_=>simp[pAdd] at e
noncomputable def rEqAll(neg:Bool):R2:=fun x y H Q=>rEqG neg x y H Q\/rEqL neg x y H Q\/rEqD neg x y H Q
theorem op_eqAll(hu:X.A.units+170<cLine):OpR X (compareOp .Eq) (rEqAll false):=(op_eqG (by omega)).or ((op_eqL (by omega)).or (op_eqD hu))
theorem op_neAll(hu:X.A.units+170<cLine):OpR X (compareOp .NotEq) (rEqAll true):=(op_neG (by omega)).or ((op_neL (by omega)).or (op_neD hu))
theorem SR.lst{H:Hp}{ρ:Nat->Addr}{σ:Store}(S:SR H ρ σ){k:Nat}{xs:List G}(e:σ[k]?=some (.lst xs)):RC H ρ k (.lst xs):=S.cell k _ e
theorem SR.rdl{H:Hp}{ρ:Nat->Addr}{σ:Store}(S:SR H ρ σ){k:Nat}{xs:List G}(e:σ[k]?=some (.rdl xs)):RC H ρ k (.rdl xs):=S.cell k _ e
theorem SR.rls{H:Hp}{ρ:Nat->Addr}{σ:Store}(S:SR H ρ σ){k:Nat}{xs:List R}(e:σ[k]?=some (.rls xs)):RC H ρ k (.rls xs):=S.cell k _ e
theorem SR.stk{H:Hp}{ρ:Nat->Addr}{σ:Store}(S:SR H ρ σ){k m:Nat}{xs:List R}(e:σ[k]?=some (.stk (m+1) xs)):∃ vs,H (ρ k)=some (.lst vs)/\RRs H ρ σ.length xs vs:=by
 obtain⟨vs,h1,h2⟩:=S.cell k _ e
 rcases h2 with h2|h2
 ·cases h2
 ·exact⟨vs,h1,RRs.mono (fun _ _ h=>h) (S.bd k _ xs e) (fun _ _=>rfl) _ h2⟩
theorem SR.lR{H:Hp}{ρ:Nat->Addr}{σ:Store}(S:SR H ρ σ){k:Nat}{xs:List G}(e:σ[k]?=some (.lst xs)\/σ[k]?=some (.rdl xs)):RC H ρ k (.rdl xs):=by
 rcases e with e|e
 ·obtain⟨ws,h1,h2⟩:=S.lst e
  exact⟨ws,.inl h1,h2⟩
 ·exact S.rdl e
theorem cellEq_inv{c d:Cell}{b:Bool}(h:cellEq c d=some b) :
 (∃ xs ys,(c = .lst xs\/c = .rdl xs)/\(d = .lst ys\/d = .rdl ys)/\xs.all shal=true/\b=peqs xs ys) ∨
 (∃ xs ys,(c = .dct xs\/c = .rdd xs)/\(d = .dct ys\/d = .rdd ys)/\(xs.all fun p=>shal p.2)=true/\b=dictEq xs ys):=by
 cases c<;>cases d<;>simp only[cellEq] at h<;>first
  | (cases h;done)
  | (split at h
     ·rename_i c1
      cases h
      first
       |exact .inl ⟨_,_,by simp,by simp,c1,rfl⟩
       |exact .inr ⟨_,_,by simp,by simp,c1,rfl⟩
     ·cases h)
theorem reqv_ok{ρ:Nat->Addr}{σ:Store}{H:Hp}{x y:R}{vx vy:V}{b:Bool}{neg:Bool}{Q:VK}(S:SR H ρ σ)(hx:RR H ρ σ.length x vx)(hy:RR H ρ σ.length y vy)(e:reqv σ x y=some b)
 (q:Q (.bl (if neg then !b else b)) H):rEqAll neg vx vy H Q:=by
 cases x with
 |tr _=>simp[reqv] at e
 |g gx =>
  cases y with
  |tr _=>simp[reqv] at e
  |ref _=>simp[reqv] at e
  |g gy =>
   simp only[reqv] at e
   split at e
   ·rename_i c
    cases e
    exact .inl ⟨gx,gy,hx,hy,c,q⟩
   ·cases e
 |ref i =>
  cases y with
  |tr _=>simp[reqv] at e
  |g _=>simp[reqv] at e
  |ref j =>
   obtain⟨hi,rfl⟩:=hx
   obtain⟨hj,rfl⟩:=hy
   simp only[reqv] at e
   split at e
   ·rename_i c d e1 e2
    split at e
    ·rename_i b' ec
     cases e
     rcases cellEq_inv ec with⟨xs,ys,hc,hd,hs,rfl⟩ | ⟨xs,ys,hc,hd,hs,rfl⟩
     ·obtain⟨vs,h1,h2⟩:=S.lR (k:=i) (xs:=xs) (by rcases hc with z|z<;>subst z<;>first|exact .inl e1|exact .inr e1)
      obtain⟨ws,h3,h4⟩:=S.lR (k:=j) (xs:=ys) (by rcases hd with z|z<;>subst z<;>first|exact .inl e2|exact .inr e2)
      exact .inr (.inl ⟨_,_,xs,ys,vs,ws,rfl,rfl,h1,h3,h2,h4,hs,q⟩)
     ·rcases hc with z|z<;>subst z<;>exact False.elim (S.cell _ _ e1)
    ·cases e
   ·cases e
end
end SN
namespace SN
open PySem PySem.Spec PyProof.Rows L2 MP
variable [Wd]
noncomputable abbrev E1(cl:CallH)(t:MP.Tm):TE:=TEv (ev cl false t)
noncomputable abbrev T1(cl:CallH)(t:MP.Tm):TT:=TTv (ev cl true t)
noncomputable abbrev A1(cl:CallH)(as:Tms):TA:=TAv (evs cl as)
theorem truR_f_inv{r r':R}{σ σ':Store}(h:truR false r σ = .ok r' σ'):r=r'/\σ=σ':=by cases h;exact⟨rfl,rfl⟩
theorem op_inv{cl:CallH}{p:Prim}{as:Tms}{ε:MP.Env}{σ σ':Store}{r:R}(h:ev cl false (.op p as) ε σ = .ok r σ'):∃ xs σ1,evs cl as ε σ = .ok xs σ1/\prim p xs σ1 = .ok r σ':=by
 rw[ev] at h
 obtain⟨xs,σ1,e1,h⟩:=bind_inv h
 obtain⟨r',σ2,e2,h⟩:=bind_inv h
 obtain⟨rfl,rfl⟩:=truR_f_inv h
 exact⟨xs,σ1,e1,e2⟩
theorem call_inv{cl:CallH}{f:String}{as:Tms}{ε:MP.Env}{σ σ':Store}{r:R}(h:ev cl false (.call f as) ε σ = .ok r σ'):∃ xs σ1,evs cl as ε σ = .ok xs σ1/\cl f xs σ1 = .ok r σ':=by
 rw[ev] at h
 obtain⟨xs,σ1,e1,h⟩:=bind_inv h
 obtain⟨r',σ2,e2,h⟩:=bind_inv h
 obtain⟨rfl,rfl⟩:=truR_f_inv h
 exact⟨xs,σ1,e1,e2⟩
theorem meth_inv{cl:CallH}{p:Prim}{a:MP.Tm}{as:Tms}{ε:MP.Env}{σ σ':Store}{r:R}(h:ev cl false (.meth p a as) ε σ = .ok r σ') :
 ∃ x σ1 xs σ2,ev cl false a ε σ = .ok x σ1/\recvOk p x σ1=true/\evs cl as ε σ1 = .ok xs σ2/\prim p (x::xs) σ2 = .ok r σ':=by
 rw[ev] at h
 obtain⟨x,σ1,e1,h⟩:=bind_inv h
 split at h
 ·rename_i hr
  obtain⟨xs,σ2,e2,h⟩:=bind_inv h
  obtain⟨r',σ3,e3,h⟩:=bind_inv h
  obtain⟨rfl,rfl⟩:=truR_f_inv h
  exact⟨x,σ1,xs,σ2,e1,hr,e2,e3⟩
 ·cases h
theorem evs_cons_inv{cl:CallH}{a:MP.Tm}{as:Tms}{ε:MP.Env}{σ σ':Store}{xs:List R}(h:evs cl (.cons a as) ε σ = .ok xs σ'):∃ x ys σ1,ev cl false a ε σ = .ok x σ1/\evs cl as ε σ1 = .ok ys σ'/\xs=x::ys:=by
 rw[evs] at h
 obtain⟨x,σ1,e1,h⟩:=bind_inv h
 obtain⟨ys,σ2,e2,h⟩:=bind_inv h
 cases h
 exact⟨x,ys,σ1,e1,e2,rfl⟩
theorem evs_nil_inv{cl:CallH}{ε:MP.Env}{σ σ':Store}{xs:List R}(h:evs cl .nil ε σ = .ok xs σ'):xs=[]/\σ'=σ:=by
 rw[evs] at h;cases h;exact⟨rfl,rfl⟩
theorem Fin.after{ρ ρ2:Nat->Addr}{n:Nat}{σ2:Store}{H H2:Hp}{r:R}{σ':Store}{Q:VK}(q:Fin ρ n H r σ' Q)(ex:Ext ρ n H ρ2 σ2.length H2)(S:SR H2 ρ2 σ2):Fin ρ2 σ2.length H2 r σ' Q :=
 fun ρ' v H' e S' rr=>q ρ' v H' (ex.trans S e) S' rr
section
variable {cl:CallH}
theorem lift2{a b:MP.Tm}{p:Prim}{rr:R2}(h:Ok2 p rr)(st:L2.St)(H:Hp)(Q:VK)(t:E1 cl (.op p (.cons a (.cons b .nil))) st H Q):tOp rr (E1 cl a) (E1 cl b) st H Q:=by
 obtain⟨ρ,ε,σ,r,σ',hE,hS,e,q⟩:=t
 obtain⟨xs,σ1,e1,e2⟩:=op_inv e
 obtain⟨x,ys,σ2,e3,e4,rfl⟩:=evs_cons_inv e1
 obtain⟨y,zs,σ3,e5,e6,rfl⟩:=evs_cons_inv e4
 obtain⟨rfl,rfl⟩:=evs_nil_inv e6
 refine⟨ρ,ε,σ,x,σ2,hE,hS,e3,fun ρ1 v1 H1 ex1 S1 r1 => ?_⟩
 refine⟨ρ1,ε,σ2,y,σ1,hE.mono hS ex1,S1,e5,fun ρ2 v2 H2 ex2 S2 r2 => ?_⟩
 exact h ρ2 σ1 H2 x y v1 v2 r σ' Q S2 (RR.mono (ex2.tp S1) ex2.le ex2.ag x r1) r2 e2 (q.after (ex1.trans S1 ex2) S2)
theorem liftN{as:Tms}{p:Prim}{rr:List V->Hp->VK->Prop}(h:OkN p rr)(st:L2.St)(H:Hp)(Q:VK)(t:E1 cl (.op p as) st H Q):tCB rr (A1 cl as) st H Q:=by
 obtain⟨ρ,ε,σ,r,σ',hE,hS,e,q⟩:=t
 obtain⟨xs,σ1,e1,e2⟩:=op_inv e
 exact⟨ρ,ε,σ,xs,σ1,hE,hS,e1,fun ρ1 vs H1 ex1 S1 r1=>h ρ1 σ1 H1 xs vs r σ' Q S1 r1 e2 (q.after ex1 S1)⟩
noncomputable def OkM(K:PySem.W.Frag)(T:String)(p:Prim)(rr:V->List V->Hp->VK->Prop):Prop :=
 (∀ (ρ:Nat->Addr) (σ:Store) (H:Hp) (x:R) (v:V),SR H ρ σ->RR H ρ σ.length x v->recvOk p x σ=true->tyV K T v H) ∧
 ∀ (ρ:Nat->Addr) (σ:Store) (H:Hp) (x:R) (xs:List R) (v:V) (vs:List V) (r:R) (σ':Store) (Q:VK),SR H ρ σ->RR H ρ σ.length x v->RRs H ρ σ.length xs vs->prim p (x::xs) σ = .ok r σ'->Fin ρ σ.length H r σ' Q->rr v vs H Q
theorem liftM{K:PySem.W.Frag}{T:String}{a:MP.Tm}{as:Tms}{p:Prim}{rr:V->List V->Hp->VK->Prop}(h:OkM K T p rr)(st:L2.St)(H:Hp)(Q:VK)(t:E1 cl (.meth p a as) st H Q):tBM K T rr (E1 cl a) (A1 cl as) st H Q:=by
 obtain⟨ρ,ε,σ,r,σ',hE,hS,e,q⟩:=t
 obtain⟨x,σ1,xs,σ2,e1,hr,e2,e3⟩:=meth_inv e
 refine⟨ρ,ε,σ,x,σ1,hE,hS,e1,fun ρ1 v1 H1 ex1 S1 r1=>⟨h.1 ρ1 σ1 H1 x v1 S1 r1 hr,?_⟩⟩
 refine⟨ρ1,ε,σ1,xs,σ2,hE.mono hS ex1,S1,e2,fun ρ2 vs H2 ex2 S2 r2 => ?_⟩
 exact h.2 ρ2 σ2 H2 x xs v1 vs r σ' Q S2 (RR.mono (ex2.tp S1) ex2.le ex2.ag x r1) r2 e3 (q.after (ex1.trans S1 ex2) S2)
theorem liftM0{K:PySem.W.Frag}{T:String}{a:MP.Tm}{p:Prim}{rr:V->List V->Hp->VK->Prop}(h:OkM K T p rr)(st:L2.St)(H:Hp)(Q:VK)(t:E1 cl (.meth p a .nil) st H Q):tBM0 K T rr (E1 cl a) st H Q:=by
 obtain⟨ρ,ε,σ,r,σ',hE,hS,e,q⟩:=t
 obtain⟨x,σ1,xs,σ2,e1,hr,e2,e3⟩:=meth_inv e
 obtain⟨rfl,rfl⟩:=evs_nil_inv e2
 exact⟨ρ,ε,σ,x,σ2,hE,hS,e1,fun ρ1 v1 H1 ex1 S1 r1=>⟨h.1 ρ1 σ2 H1 x v1 S1 r1 hr,h.2 ρ1 σ2 H1 x [] v1 [] r σ' Q S1 r1 rfl e3 (q.after ex1 S1)⟩⟩
end
noncomputable def notStar:Expr->Bool
 | .Starred .. => false
 |_=>true
theorem starEach_cons{e:Expr}{es:List Expr}{env:PySem.Env}(h:notStar e=true):starEach (e::es) env=(false,eval e env)::starEach es env:=by
 cases e<;>first|rfl|(simp[notStar] at h)
theorem backTo_plain{pos:Pos}{env:PySem.Env}:∀ {es:List Expr},(es.all notStar)=true->(backTo pos (starEach es env)).any (·.1)=false
 | [],_=>rfl
 |e::es,h=>by
  simp only[List.all_cons,Bool.and_eq_true] at h
  rw[starEach_cons h.1]
  show(false || (backTo pos (starEach es env)).any (·.1))=false
  rw[backTo_plain h.2];rfl
inductive PEl (X:Cx) (cl:CallH):List Expr->Tms->Prop where
 |nil:PEl X cl [] .nil
 |cons {e:Expr} {es:List Expr} {a:MP.Tm} {as:Tms}:notStar e=true->PE X e (E1 cl a)->PEl X cl es as->PEl X cl (e::es) (.cons a as)
theorem PEl.stars{X:Cx}{cl:CallH}{es:List Expr}{as:Tms}(h:PEl X cl es as):es.all notStar=true:=by
 induction h with
 |nil=>rfl
 |cons h1 _ _ ih=>simp[h1,ih]
theorem PEl.pa{X:Cx}{cl:CallH}{es:List Expr}{as:Tms}(h:PEl X cl es as):PA X es (A1 cl as):=by
 induction h with
 |nil =>
  refine PA.imp pa_nil fun st H Q ⟨ρ,ε,σ,rs,σ',hE,hS,e,q⟩ => ?_
  obtain⟨rfl,rfl⟩:=evs_nil_inv e
  exact q ρ [] H (Ext.refl _ _ _) hS rfl
 | @cons e es a as h1 h2 h3 ih =>
  refine PA.imp (pa_cons h2 ih (starEach_cons h1)) fun st H Q ⟨ρ,ε,σ,rs,σ',hE,hS,e,q⟩ => ?_
  obtain⟨x,ys,σ1,e1,e2,rfl⟩:=evs_cons_inv e
  refine⟨ρ,ε,σ,x,σ1,hE,hS,e1,fun ρ1 v1 H1 ex1 S1 r1 => ?_⟩
  refine⟨ρ1,ε,σ1,ys,σ',hE.mono hS ex1,S1,e2,fun ρ2 vs H2 ex2 S2 r2 => ?_⟩
  exact q ρ2 (v1::vs) H2 (ex1.trans S1 ex2) S2 ⟨v1,vs,rfl,RR.mono (ex2.tp S1) ex2.le ex2.ag x r1,r2⟩
end SN
namespace SN
open PySem PySem.Spec PyProof.Rows L2 MP
variable [Wd]
section
variable {X:Cx}
theorem ok_eq:Ok2 .eq (fun x y H Q=>rEqAll false x y H Q):=by
 intro ρ σ H x y vx vy r σ' Q S hx hy e q
 change pEq [x,y] σ=_ at e
 simp only[pEq] at e
 cases c:reqv σ x y with
 |none=>rw[c] at e;cases e
 |some b =>
  rw[c] at e
  cases e
  exact reqv_ok (neg:=false) S hx hy c (q.same S rfl)
theorem ok_ne:Ok2 .ne (fun x y H Q=>rEqAll true x y H Q):=by
 intro ρ σ H x y vx vy r σ' Q S hx hy e q
 change pNe [x,y] σ=_ at e
 simp only[pNe] at e
 cases c:reqv σ x y with
 |none=>rw[c] at e;cases e
 |some b =>
  rw[c] at e
  cases e
  exact reqv_ok (neg:=true) S hx hy c (q.same S rfl)
open Classical in
noncomputable def eqW(H:Hp)(gx:G)(u:Value):Bool:=if h:∃ g v,RelV v u/\RG H g v then peq (Classical.choose h) gx else false
theorem eqW_is{H:Hp}{gx g:G}{v:V}{u:Value}(r:RelV v u)(h:RG H g v):eqW H gx u=peq g gx:=by
 have ex:∃ g v,RelV v u/\RG H g v:=⟨g,v,r,h⟩
 unfold eqW
 rw[dif_pos ex]
 obtain⟨v',r',h'⟩:=Classical.choose_spec ex
 have:v'=v:=r'.inj r
 subst this
 rw[RG.inj h' h]
theorem eqW_at{pins:List (Addr × Obj)}{σ:L2.St}{H:Hp}{s:Shared}(I:Inv X pins σ H s){A:Around}(hu:A.units+160<cLine){gx:G}{vx:V}{ux:Value}(hx:RG H gx vx)(rx:RelV vx ux) :
 ∀ {xs:List G} {vs:List V} {us:List Value},RGs H xs vs->Vals vs us->xs.all shal=true->∀ u∈us,SeqAt.EqAt A s u ux (eqW H gx u)
 | [],_,_,h,r,_,u,hm=>by cases h;cases r;simp at hm
 |x::xs,_,_,h,r,hs,u,hm=>by
  obtain⟨v,vs,rfl,h1,h2⟩:=h
  simp only[List.all_cons,Bool.and_eq_true] at hs
  cases r with
  |cons r1 r2 =>
   rcases List.mem_cons.mp hm with rfl|hm
   ·rw[eqW_is r1 h1]
    exact RG.eqAt I hu h1 hx hs.1 r1 rx
   ·exact eqW_at I hu hx rx h2 r2 hs.2 u hm
noncomputable def rIxD:R2:=fun _ _ _ _=>False
theorem ix_dict(_:X.A.units+1<cLine):IxR X rIxD:=fun _ _ _ _ _ _ _ _ _ _ _ _ _ _ h _=>h.elim
noncomputable def rIxAll(K:PySem.W.Frag):R2:=fun x y H Q=>rIx K x y H Q\/rIxD x y H Q
theorem ix_all(hu:X.A.units+1<cLine):IxR X (rIxAll X.K):=ix_seq.or (ix_dict hu)
theorem sOf_cps(x:List Nat):(sOf x).cps.toList=x:=by unfold sOf;simp
theorem ok_idx{K:PySem.W.Frag}:Ok2 .idx (rIxAll K):=by
 intro ρ σ H x y vx vy r σ' Q S hx hy e q
 change pIdx [x,y] σ=_ at e
 cases y with
 |ref _=>cases x with
  |g gx=>cases gx<;>simp[pIdx] at e
  |_=>simp[pIdx] at e
 |tr _=>cases x with
  |g gx=>cases gx<;>simp[pIdx] at e
  |_=>simp[pIdx] at e
 |g gy =>
  cases x with
  |g gx =>
   cases gx with
   |tup xs =>
    cases gy with
    |int i =>
     simp only[pIdx] at e
     obtain⟨z,e1,e2⟩:=ofO_inv e
     cases e2
     obtain⟨a,vs,rfl,ha,h1⟩:=hx
     cases(show vy = .int i from hy)
     obtain⟨v,e3,e4⟩:=h1.atI e1
     exact .inl (.inr (.inl ⟨a,vs,i,v,rfl,rfl,.of ha,e3,q.same S e4⟩))
    |_=>simp[pIdx] at e
   |str xs =>
    cases gy with
    |int i =>
     simp only[pIdx] at e
     obtain⟨c,e1,e2⟩:=ofO_inv e
     cases e2
     obtain⟨rfl,h1⟩:=hx
     cases(show vy = .int i from hy)
     have hm:c<1114112:=by
      have:=okS_all h1
      rw[List.all_eq_true] at this
      have hc:c∈xs:=by
       rw[at_atI] at e1
       obtain⟨j,_,hj,_⟩:=atI_get e1
       exact List.mem_of_getElem? hj
      simpa using this c hc
     refine .inl (.inr (.inr ⟨_,i,c,rfl,rfl,by rw[sOf_len,sizeLine_eq];exact okS_len h1,by rw[sOf_cps];exact e1,?_⟩))
     exact q.same S (v:=.str ⟨#[c]⟩) ⟨rfl,okS_of (by simp) (by simpa using hm)⟩
    |_=>simp[pIdx] at e
   |_=>simp[pIdx] at e
  |tr xs =>
   cases gy with
   |int i =>
    simp only[pIdx] at e
    obtain⟨z,e1,e2⟩:=ofO_inv e
    cases e2
    obtain⟨a,vs,rfl,ha,h1⟩:=hx
    cases(show vy = .int i from hy)
    obtain⟨v,e3,e4⟩:=h1.atI e1
    exact .inl (.inr (.inl ⟨a,vs,i,v,rfl,rfl,.of ha,e3,q.same S e4⟩))
   |_=>simp[pIdx] at e
  |ref k =>
   obtain⟨hk,rfl⟩:=hx
   simp only[pIdx] at e
   split at e
   ·rename_i xs i e1
    obtain⟨z,e2,e3⟩:=ofO_inv e
    cases e3
    cases(show vy = .int i from hy)
    obtain⟨vs,h1,h2⟩:=S.lst e1
    obtain⟨v,e4,e5⟩:=h2.atI e2
    exact .inl (.inl ⟨_,vs,i,v,rfl,rfl,.of h1,e4,q.same S e5⟩)
   ·rename_i xs i e1
    obtain⟨z,e2,e3⟩:=ofO_inv e
    cases e3
    cases(show vy = .int i from hy)
    obtain⟨vs,h1,h2⟩:=S.rdl e1
    obtain⟨v,e4,e5⟩:=h2.atI e2
    exact .inl (.inl ⟨_,vs,i,v,rfl,rfl,.inl h1,e4,q.same S e5⟩)
   ·rename_i xs i e1
    obtain⟨z,e2,e3⟩:=ofO_inv e
    cases e3
    cases(show vy = .int i from hy)
    obtain⟨vs,h1,h2⟩:=S.rls e1
    obtain⟨v,e4,e5⟩:=h2.atI e2
    exact .inl (.inl ⟨_,vs,i,v,rfl,rfl,.of h1,e4,q.same S (RR.mono (fun _ _ h=>h) (Nat.le_of_lt hk) (fun _ _=>rfl) _ e5)⟩)
   ·rename_i xs i e1
    obtain⟨z,e2,e3⟩:=ofO_inv e
    cases e3
    cases(show vy = .int i from hy)
    obtain⟨vs,h1,h2⟩:=S.stk e1
    obtain⟨v,e4,e5⟩:=h2.atI e2
    exact .inl (.inl ⟨_,vs,i,v,rfl,rfl,.of h1,e4,q.same S e5⟩)
   ·rename_i kvs i e1;exact False.elim (S.cell _ _ e1)
   ·rename_i kvs i e1;exact False.elim (S.cell _ _ e1)
   ·cases e
end
end SN
namespace SN
open PySem PySem.Spec PyProof.Rows L2 MP
variable [Wd]
section
variable {X:Cx}
noncomputable abbrev rLen(K:PySem.W.Frag):List V->Hp->VK->Prop:=fun xs H Q=>(∃ x n,xs=[x]/\LenV K x H n/\Q (.int n) H)\/False
theorem call_lenAll:CallR X (.builtin "len") (rLen X.K):=fun pins s σ H xs us Q I r h=>call_len pins s σ H xs us Q I r (h.resolve_right id)
theorem rrs1{H:Hp}{ρ:Nat->Addr}{n:Nat}{x:R}{vs:List V}(h:RRs H ρ n [x] vs):∃ v,vs=[v]/\RR H ρ n x v:=by
 obtain⟨v,r,rfl,h1,h2⟩:=h
 cases h2
 exact⟨v,rfl,h1⟩
theorem ok_len{K:PySem.W.Frag}:OkN .len (rLen K):=by
 intro ρ σ H xs vs r σ' Q S hx e q
 change pLen xs σ=_ at e
 match xs,hx,e with
 | [],_,e=>simp[pLen] at e
 |_::_::_,_,e=>simp[pLen] at e
 | [x],hx,e =>
  obtain⟨v,rfl,hv⟩:=rrs1 hx
  simp only[pLen] at e
  obtain⟨n,e1,e2⟩:=ofO_inv e
  cases e2
  have q':Q (.int n) H:=q.same S rfl
  cases x with
  |g gx =>
   cases gx with
   |tup ys =>
    cases e1
    obtain⟨a,ws,rfl,ha,h1⟩:=hv
    exact .inl ⟨_,_,rfl,.inr ⟨ws,.of ha,rfl⟩,by rw[h1.length];exact q'⟩
   |str ys =>
    cases e1
    obtain⟨rfl,h1⟩:=hv
    exact .inl ⟨_,_,rfl,⟨by rw[sOf_len,sizeLine_eq];exact okS_len h1,rfl⟩,by rw[sOf_len];exact q'⟩
   |_=>simp[lenOf] at e1
  |tr ys =>
   cases e1
   obtain⟨a,ws,rfl,ha,h1⟩:=hv
   exact .inl ⟨_,_,rfl,.inr ⟨ws,.of ha,rfl⟩,by rw[h1.length];exact q'⟩
  |ref k =>
   obtain⟨hk,rfl⟩:=hv
   simp only[lenOf] at e1
   split at e1
   ·rename_i ys e3
    cases e1
    obtain⟨ws,h1,h2⟩:=S.lst e3
    exact .inl ⟨_,_,rfl,.inl ⟨ws,.of h1,rfl⟩,by rw[h2.length];exact q'⟩
   ·rename_i ys e3
    cases e1
    obtain⟨ws,h1,h2⟩:=S.rdl e3
    exact .inl ⟨_,_,rfl,.inl ⟨ws,.inl h1,rfl⟩,by rw[h2.length];exact q'⟩
   ·rename_i ys e3
    cases e1
    obtain⟨ws,h1,h2⟩:=S.rls e3
    exact .inl ⟨_,_,rfl,.inl ⟨ws,.of h1,rfl⟩,by rw[h2.length];exact q'⟩
   ·rename_i e3;exact False.elim (S.cell _ _ e3)
   ·rename_i e3;exact False.elim (S.cell _ _ e3)
   ·cases e1
   ·cases e1
   ·cases e1
   ·rename_i ys e3
    cases e1
    obtain⟨ws,h1,h2⟩:=S.stk e3
    exact .inl ⟨_,_,rfl,.inl ⟨ws,.of h1,rfl⟩,by rw[h2.length];exact q'⟩
   ·cases e1
theorem RR_mkTup{H:Hp}{ρ:Nat->Addr}{n:Nat}{xs:List R}{vs:List V}{a:Addr}(ha:H a=some (.tup vs))(h:RRs H ρ n xs vs):RR H ρ n (mkTup xs) (.ref a):=by
 unfold mkTup
 cases e:allG xs with
 |some gs=>exact⟨a,vs,rfl,ha,RRs.ofG e h⟩
 |none=>exact⟨a,vs,rfl,ha,h⟩
theorem ok_tup:OkN .tup (fun xs H Q=>xs.length<=sizeLine/\∀ p,H p=none->Q (.ref p) (upd H p (.tup xs))):=by
 intro ρ σ H xs vs r σ' Q S hx e q
 change pTup xs σ=_ at e
 unfold pTup at e
 split at e
 ·rename_i hl
  cases e
  refine⟨by rw[hx.length];exact thousand_le hl,fun p hp => ?_⟩
  obtain⟨e1,e2,tp⟩:=S.tup hp (.tup vs)
  exact q ρ (.ref p) _ e1 e2 (RR_mkTup upd_same (RRs.mono tp (Nat.le_refl _) (fun _ _=>rfl) _ hx))
 ·cases e
theorem ok_lst:OkN .lst (fun xs H Q=>xs.length<=sizeLine/\∀ p,H p=none->Q (.ref p) (upd H p (.lst xs))):=by
 intro ρ σ H xs vs r σ' Q S hx e q
 change pLst xs σ=_ at e
 unfold pLst at e
 split at e
 ·rename_i hl
  cases e
  refine⟨by rw[hx.length];exact thousand_le hl,fun p hp => ?_⟩
  refine q.new S hp (fun _ z=>by cases z) (fun H' ρ' tp e ep ag => ?_) (fun m ys z=>by
   unfold mkLst at z
   split at z<;>cases z)
  unfold mkLst
  cases c:allG xs with
  |some gs=>exact⟨vs,by rw[ep];exact e,RGs.mono tp _ (RRs.ofG c hx)⟩
  |none=>exact⟨vs,by rw[ep];exact e,RRs.mono tp (Nat.le_refl _) ag _ hx⟩
 ·cases e
noncomputable abbrev rTupleOf(K:PySem.W.Frag):List V->Hp->VK->Prop:=fun xs H Q=>∃ p ys,xs=[.ref p]/\((SqL K H p ys/\∀ l,H l=none->Q (.ref l) (upd H l (.tup ys)))\/(SqT K H p ys/\Q (.ref p) H))
theorem ok_tupleOf{K:PySem.W.Frag}:OkN .tupleOf (rTupleOf K):=by
 intro ρ σ H xs vs r σ' Q S hx e q
 change pTupleOf xs σ=_ at e
 match xs,hx,e with
 | [],_,e=>simp[pTupleOf] at e
 |_::_::_,_,e=>simp[pTupleOf] at e
 | [x],hx,e =>
  obtain⟨v,rfl,hv⟩:=rrs1 hx
  cases x with
  |tr _=>simp[pTupleOf] at e
  |g gx =>
   cases gx with
   |tup ys =>
    cases e
    obtain⟨a,ws,rfl,ha,h1⟩:=hv
    exact⟨a,ws,rfl,.inr ⟨.of ha,q.same S ⟨a,ws,rfl,ha,h1⟩⟩⟩
   |_=>simp[pTupleOf] at e
  |ref k =>
   obtain⟨hk,rfl⟩:=hv
   simp only[pTupleOf] at e
   have go:∀ ys ws,Rd H (ρ k) (.lst ws)->RGs H ys ws->Fin ρ σ.length H (.g (.tup ys)) σ Q->rTupleOf K [.ref (ρ k)] H Q:=fun ys ws h1 h2 q=>by
    refine⟨_,ws,rfl,.inl ⟨.inl h1,fun p hp => ?_⟩⟩
    obtain⟨e1,e2,tp⟩:=S.tup hp (.tup ws)
    exact q ρ (.ref p) _ e1 e2 ⟨p,ws,rfl,upd_same,RGs.mono tp _ h2⟩
   split at e
   ·rename_i ys e3
    cases e
    obtain⟨ws,h1,h2⟩:=S.lR (.inl e3)
    exact go ys ws h1 h2 q
   ·rename_i ys e3
    cases e
    obtain⟨ws,h1,h2⟩:=S.lR (.inr e3)
    exact go ys ws h1 h2 q
   ·cases e
noncomputable def tyN:Ty->String
 | .int=>"int" | .bool=>"bool" | .str=>"str" | .tuple=>"tuple" | .list=>"list" | .dict=>"dict"
noncomputable def rIsInst(K:PySem.W.Frag):List V->Hp->VK->Prop:=fun xs H Q=>∃ x T t b,xs=[x,.ty T]/\TyOf K H x t/\PySem.W.kitOne K t (.type T)=some b/\Q (.bl b) H
theorem call_isinst:CallR X (.builtin "isinstance") (rIsInst X.K):=by
 intro pins s σ H xs us Q I r h
 obtain⟨x,T,t,b,rfl,ty,e,q⟩:=h
 obtain⟨u,w,rfl,ru,rw'⟩:=vals2 r
 cases rw'
 exact isinst_ok I ru ty e fun tk=>⟨.bl b,H,I.tok tk,rfl,q⟩
theorem kit_ty{K:PySem.W.Frag}(T:Ty) :
 PySem.W.kitOne K (.type "NoneType") (.type (tyN T))=some (([]:List Ty).contains T)/\PySem.W.kitOne K (.type "bool") (.type (tyN T))=some ([Ty.bool,.int].contains T)/\PySem.W.kitOne K (.type "int") (.type (tyN T))=some ([Ty.int].contains T) ∧
 PySem.W.kitOne K (.type "str") (.type (tyN T))=some ([Ty.str].contains T)/\PySem.W.kitOne K (.type "tuple") (.type (tyN T))=some ([Ty.tuple].contains T)/\PySem.W.kitOne K (.type "list") (.type (tyN T))=some ([Ty.list].contains T) ∧
 PySem.W.kitOne K (.type "dict") (.type (tyN T))=some ([Ty.dict].contains T):=by
 cases T<;>exact⟨rfl,rfl,rfl,rfl,rfl,rfl,rfl⟩
theorem ok_isInst{K:PySem.W.Frag}(T:Ty){ρ:Nat->Addr}{σ:Store}{H:Hp}{x:R}{v:V}{r:R}{σ':Store}{Q:VK}(S:SR H ρ σ)(hv:RR H ρ σ.length x v)(e:prim (.isInst T) [x] σ = .ok r σ')(q:Fin ρ σ.length H r σ' Q) :
 rIsInst K [v,.ty (tyN T)] H Q:=by
 change pIsInst T [x] σ=_ at e
 simp only[pIsInst] at e
 obtain⟨ts,e1,e2⟩:=ofO_inv e
 cases e2
 have q':Q (.bl (ts.contains T)) H:=q.same S rfl
 obtain⟨k1,k2,k3,k4,k5,k6,k7⟩:=kit_ty (K:=K) T
 cases x with
 |g gx =>
  cases gx with
  |non=>cases e1;cases hv;exact⟨_,_,_,_,rfl,.non,k1,q'⟩
  |bl b=>cases e1;cases hv;exact⟨_,_,_,_,rfl,.bl b,k2,q'⟩
  |int i=>cases e1;cases hv;exact⟨_,_,_,_,rfl,.int i,k3,q'⟩
  |str x=>cases e1;obtain⟨rfl,_⟩:=hv;exact⟨_,_,_,_,rfl,.str _,k4,q'⟩
  |tup xs=>cases e1;obtain⟨a,vs,rfl,ha,_⟩:=hv;exact⟨_,_,_,_,rfl,.tup ha,k5,q'⟩
 |tr xs=>cases e1;obtain⟨a,vs,rfl,ha,_⟩:=hv;exact⟨_,_,_,_,rfl,.tup ha,k5,q'⟩
 |ref k =>
  obtain⟨hk,rfl⟩:=hv
  simp only[tyOf] at e1
  split at e1
  ·rename_i ys e3
   cases e1
   obtain⟨ws,h1,_⟩:=S.lst e3
   exact⟨_,_,_,_,rfl,.lst h1,k6,q'⟩
  ·rename_i ys e3
   cases e1
   obtain⟨ws,h1,_⟩:=S.rdl e3
   rcases h1 with h1 | ⟨o,h1⟩
   ·exact⟨_,_,_,_,rfl,.lst h1,k6,q'⟩
   ·exact⟨_,_,_,_,rfl,.frz h1,k6,q'⟩
  ·rename_i ys e3
   cases e1
   obtain⟨ws,h1,_⟩:=S.rls e3
   exact⟨_,_,_,_,rfl,.lst h1,k6,q'⟩
  ·rename_i e3;exact False.elim (S.cell _ _ e3)
  ·cases e1
  ·cases e1
  ·cases e1
  ·cases e1
  ·cases e1
theorem recv_ty{K:PySem.W.Frag}{p:Prim}{ρ:Nat->Addr}{σ:Store}{H:Hp}{x:R}{v:V}(S:SR H ρ σ)(hv:RR H ρ σ.length x v)(np:p ≠ .setdefT)(nj:p ≠ .join)(ns:p ≠ .starts)(h:recvOk p x σ=true)(no:p ≠ .pop:=by intro z;cases z)(na:p ≠ .appR:=by intro z;cases z)(npr:p ≠ .popR:=by intro z;cases z) :
 ((p = .append\/p = .extend\/p = .index)/\∃ k xs,x = .ref k/\σ[k]?=some (.lst xs))\/((p = .clear)/\∃ k xs,x = .ref k/\σ[k]?=some (.dct xs))\/((p = .get1\/p = .get2\/p = .setdef)/\∃ k xs,x = .ref k/\σ[k]?=some (.dct xs)):=by
 cases x with
 |g gx =>
  cases gx with
  |str _ =>
   simp only[recvOk] at h
   cases h
  |_=>simp[recvOk] at h
 |tr _=>simp[recvOk] at h
 |ref k =>
  simp only[recvOk] at h
  split at h
  ·rename_i xs e;exact .inl ⟨.inl rfl,k,xs,rfl,e⟩
  ·rename_i xs e;exact .inl ⟨.inr (.inl rfl),k,xs,rfl,e⟩
  ·rename_i xs e;exact .inl ⟨.inr (.inr rfl),k,xs,rfl,e⟩
  ·rename_i xs e;exact .inr (.inl ⟨rfl,k,xs,rfl,e⟩)
  ·rename_i xs e;exact .inr (.inr ⟨.inl rfl,k,xs,rfl,e⟩)
  ·rename_i xs e;exact .inr (.inr ⟨.inr (.inl rfl),k,xs,rfl,e⟩)
  ·rename_i xs e;exact .inr (.inr ⟨.inr (.inr rfl),k,xs,rfl,e⟩)
  ·exact absurd rfl np
  ·exact absurd rfl no
  ·exact absurd rfl na
  ·exact absurd rfl npr
  ·cases h
theorem okm_append{K:PySem.W.Frag}:OkM K "list" .append rAppend:=by
 refine⟨fun ρ σ H x v S hv h => ?_,fun ρ σ H x xs v vs r σ' Q S hx hxs e q => ?_⟩
 ·rcases recv_ty (K:=K) S hv (fun z=>by cases z) (fun z=>by cases z) (fun z=>by cases z) h with⟨_,k,ys,rfl,e⟩ | ⟨z,_⟩ | ⟨z,_⟩
  ·obtain⟨ws,h1,h2⟩:=S.lst e
   obtain⟨hk,rfl⟩:=hv
   exact .inl ⟨rfl,ws,.of h1⟩
  ·cases z
  ·rcases z with z|z|z<;>cases z
 ·change pAppend (x::xs) σ=_ at e
  match x,xs,hx,hxs,e with
  | .g _,_,_,_,e=>simp[pAppend] at e
  | .tr _,_,_,_,e=>simp[pAppend] at e
  | .ref _,[],_,_,e=>simp[pAppend] at e
  | .ref _,_::_::_,_,_,e=>simp[pAppend] at e
  | .ref _,[.ref _],_,_,e=>simp[pAppend] at e
  | .ref _,[.tr _],_,_,e=>simp[pAppend] at e
  | .ref k,[.g y],hx,hxs,e =>
   obtain⟨hk,rfl⟩:=hx
   obtain⟨w,rfl,hw⟩:=rrs1 hxs
   simp only[pAppend] at e
   split at e
   ·rename_i ys e3
    split at e
    ·rename_i hl
     cases e
     obtain⟨ws,h1,h2⟩:=S.lst e3
     refine⟨_,ws,w,rfl,rfl,h1,by rw[h2.length];exact Nat.lt_of_lt_of_le hl big_le,?_⟩
     obtain⟨e1,e2⟩:=S.write hk (o:=.lst (ws++[w])) (c:=.lst (ys++[y])) (nfz_l h1) fun H' tp e=>⟨_,e,(RGs.mono tp _ h2).append ⟨w,[],rfl,RG.mono tp _ hw,rfl⟩⟩
     exact q ρ .non _ e1 e2 rfl
    ·cases e
   ·cases e
theorem rrs_init{H:Hp}{ρ:Nat->Addr}{n:Nat}:∀ {xs:List R} {vs:List V},RRs H ρ n xs vs->RRs H ρ n xs.dropLast vs.dropLast
 | [],_,h=>by cases h;exact rfl
 | [x],_,h=>by
  obtain⟨v,r,rfl,_,h2⟩:=h
  cases h2
  exact rfl
 |x::y::r,_,h=>by
  obtain⟨v,t,rfl,h1,h2⟩:=h
  obtain⟨u,t',rfl,h3,h4⟩:=h2
  exact⟨v,_,rfl,h1,rrs_init (xs:=y::r) (vs:=u::t') ⟨u,t',rfl,h3,h4⟩⟩
theorem rrs_snoc{H:Hp}{ρ:Nat->Addr}{n:Nat}{y:R}{w:V}(hw:RR H ρ n y w):∀ {xs:List R} {vs:List V},RRs H ρ n xs vs->RRs H ρ n (xs++[y]) (vs++[w])
 | [],_,h=>by cases h;exact⟨w,[],rfl,hw,rfl⟩
 |x::r,_,h=>by
  obtain⟨v,t,rfl,h1,h2⟩:=h
  exact⟨v,_,rfl,h1,rrs_snoc hw h2⟩
theorem ok_lstR:OkN .lstR (fun xs H Q=>xs.length<=sizeLine/\∀ p,H p=none->Q (.ref p) (upd H p (.lst xs))):=by
 intro ρ σ H xs vs r σ' Q S hx e q
 change pLstR xs σ=_ at e
 match xs,hx,e with
 | [],_,e=>simp[pLstR] at e
 | .g _::_,_,e=>simp[pLstR] at e
 | .tr _::_,_,e=>simp[pLstR] at e
 | .ref _::_::_,_,e=>simp[pLstR] at e
 | [.ref j],hx,e =>
  simp only[pLstR] at e
  split at e
  ·cases e
   refine⟨by rw[hx.length];exact thousand_le (by simp),fun p hp => ?_⟩
   refine q.new S hp (fun _ z=>by cases z) (fun H' ρ' tp e ep ag => ?_) (fun m ys z=>by cases z;exact Nat.le_refl _)
   exact⟨vs,by rw[ep];exact e,.inr (RRs.mono tp (Nat.le_succ _) ag _ hx)⟩
  ·cases e
theorem stk_recv{K:PySem.W.Frag}{p:Prim}{ρ:Nat->Addr}{σ:Store}{H:Hp}{x:R}{v:V}(hp:p = .appR\/p = .popR)(S:SR H ρ σ)(hv:RR H ρ σ.length x v)(h:recvOk p x σ=true):tyV K "list" v H:=by
 cases x with
 |g gx=>rcases hp with rfl|rfl<;>cases gx<;>simp[recvOk] at h
 |tr _=>simp[recvOk] at h
 |ref k =>
  obtain⟨hk,rfl⟩:=hv
  cases c:σ[k]? with
  |none=>rcases hp with rfl|rfl<;>simp[recvOk,c] at h
  |some d =>
   cases d with
   |stk m ys =>
    obtain⟨ws,h1,_⟩:=S.cell k _ c
    exact .inl ⟨rfl,ws,.of h1⟩
   |_=>rcases hp with rfl|rfl<;>simp[recvOk,c] at h
theorem okm_appR{K:PySem.W.Frag}:OkM K "list" .appR rAppend:=by
 refine⟨fun ρ σ H x v S hv h=>stk_recv (.inl rfl) S hv h,fun ρ σ H x xs v vs r σ' Q S hx hxs e q => ?_⟩
 change pAppR (x::xs) σ=_ at e
 match x,xs,hx,hxs,e with
 | .g _,_,_,_,e=>simp[pAppR] at e
 | .tr _,_,_,_,e=>simp[pAppR] at e
 | .ref _,[],_,_,e=>simp[pAppR] at e
 | .ref _,_::_::_,_,_,e=>simp[pAppR] at e
 | .ref _,[.g _],_,_,e=>simp[pAppR] at e
 | .ref _,[.tr _],_,_,e=>simp[pAppR] at e
 | .ref k,[.ref j],hx,hxs,e =>
  obtain⟨hk,rfl⟩:=hx
  obtain⟨w,rfl,hw⟩:=rrs1 hxs
  simp only[pAppR] at e
  split at e
  ·rename_i ys e3
   split at e
   ·rename_i hl
    cases e
    obtain⟨ws,h1,h2⟩:=S.stk e3
    refine⟨_,ws,w,rfl,rfl,h1,by rw[h2.length];exact Nat.lt_of_lt_of_le hl.1 big_le,?_⟩
    obtain⟨e1,e2⟩:=S.write hk (o:=.lst (ws++[w])) (c:=.stk σ.length (ys++[.ref j])) (nfz_l h1) (fun H' tp e=>⟨_,e,.inr (rrs_snoc (RR.mono tp (Nat.le_refl _) (fun _ _=>rfl) _ hw) (RRs.mono tp (Nat.le_refl _) (fun _ _=>rfl) _ h2))⟩) (fun m xs z=>by cases z;exact Nat.le_refl _)
    exact q ρ .non _ e1 e2 rfl
   ·cases e
  ·cases e
theorem okm_popR{K:PySem.W.Frag}:OkM K "list" .popR rPop:=by
 refine⟨fun ρ σ H x v S hv h=>stk_recv (.inr rfl) S hv h,fun ρ σ H x xs v vs r σ' Q S hx hxs e q => ?_⟩
 change pPopR (x::xs) σ=_ at e
 match x,xs,hx,hxs,e with
 | .g _,_,_,_,e=>simp[pPopR] at e
 | .tr _,_,_,_,e=>simp[pPopR] at e
 | .ref _,_::_,_,_,e=>simp[pPopR] at e
 | .ref k,[],hx,hxs,e =>
  obtain⟨hk,rfl⟩:=hx
  cases hxs
  simp only[pPopR] at e
  split at e
  ·rename_i m ys e3
   split at e
   ·rename_i y ey
    cases e
    obtain⟨ws,h1,h2⟩:=S.stk e3
    have hm:=S.bd k _ ys e3
    obtain⟨ws',h1',h2'⟩:=S.cell k _ e3
    rw[h1] at h1'
    cases h1'
    have h3:=h2'.resolve_left (Nat.succ_ne_zero _)
    rw[List.getLast?_eq_getElem?] at ey
    obtain⟨w,k1,k2⟩:=h2.get ey
    rw[← h2.length] at k1
    refine⟨_,ws,w,rfl,rfl,h1,k1,?_⟩
    obtain⟨e1,e2⟩:=S.write hk (o:=.lst ws.dropLast) (c:=.stk (m+1) ys.dropLast) (nfz_l h1) (fun H' tp e=>⟨_,e,.inr (rrs_init (RRs.mono tp (Nat.le_refl _) (fun _ _=>rfl) _ h3))⟩) (fun m' xs z=>by cases z;exact hm)
    exact q ρ w _ e1 e2 (RR.mono (e1.tp S) (by simp) (fun _ _=>rfl) _ k2)
   ·cases e
  ·cases e
theorem tru_TruV{K:PySem.W.Frag}{ρ:Nat->Addr}{σ:Store}{H:Hp}{r:R}{v:V}{b:Bool}(S:SR H ρ σ)(hv:RR H ρ σ.length r v)(e:tru σ r=some b):TruV K v H b:=by
 have emp:∀ {α β:Type} {xs:List α} {ys:List β},ys.length=xs.length->(!xs.isEmpty) = !ys.isEmpty:=fun {α β xs ys} h=>by
  cases xs<;>cases ys<;>simp at h ⊢
 cases r with
 |g gx =>
  cases gx with
  |non=>cases e;cases hv;rfl
  |bl b=>cases e;cases hv;rfl
  |int i=>cases e;cases hv;rfl
  |str x =>
   cases e
   obtain⟨rfl,h1⟩:=hv
   refine⟨by rw[sOf_len,sizeLine_eq];exact okS_len h1,?_⟩
   rw[sOf_len]
   cases x<;>simp
   omega
  |tup xs =>
   cases e
   obtain⟨a,vs,rfl,ha,h1⟩:=hv
   exact .inr (.inl ⟨vs,.of ha,emp h1.length⟩)
 |tr xs =>
  cases e
  obtain⟨a,vs,rfl,ha,h1⟩:=hv
  exact .inr (.inl ⟨vs,.of ha,emp h1.length⟩)
 |ref k =>
  obtain⟨hk,rfl⟩:=hv
  simp only[tru] at e
  split at e
  ·rename_i xs e3
   cases e
   obtain⟨ws,h1,h2⟩:=S.lst e3
   exact .inl ⟨ws,.of h1,emp h2.length⟩
  ·rename_i xs e3
   cases e
   obtain⟨ws,h1,h2⟩:=S.rdl e3
   exact .inl ⟨ws,.inl h1,emp h2.length⟩
  ·rename_i xs e3
   cases e
   obtain⟨ws,h1,h2⟩:=S.rls e3
   exact .inl ⟨ws,.of h1,emp h2.length⟩
  ·rename_i e3;exact False.elim (S.cell _ _ e3)
  ·cases e
  ·cases e
  ·cases e
  ·cases e
  ·cases e
end
end SN
namespace SN
open PySem PySem.Spec PyProof.Rows L2 MP
variable [Wd]
section
variable {X:Cx}
theorem isNon_of{H:Hp}{ρ:Nat->Addr}{n:Nat}{x:R}{v:V}(h:RR H ρ n x v):decide (v = .non)=isNon x:=by
 cases x with
 |ref k=>obtain⟨_,rfl⟩:=h;rfl
 |tr xs=>obtain⟨a,vs,rfl,_⟩:=h;rfl
 |g gx =>
  cases gx with
  |non=>cases(show v = .non from h);rfl
  |bl b=>cases(show v = .bl b from h);rfl
  |int i=>cases(show v = .int i from h);rfl
  |str x=>obtain⟨rfl,_⟩:=(show v = .str (sOf x)/\_ from h);rfl
  |tup xs=>obtain⟨a,vs,rfl,_⟩:=h;rfl
theorem ok_isN:Ok2 .isN (fun x y H Q=>y = .non/\Q (.bl (decide (x = .non))) H):=by
 intro ρ σ H x y vx vy r σ' Q S hx hy e q
 change pIsN [x,y] σ=_ at e
 unfold pIsN at e
 split at e
 ·rename_i x' heq
  cases heq
  cases e
  cases(show vy = .non from hy)
  exact⟨rfl,by rw[isNon_of hx];exact q.same S rfl⟩
 ·cases e
theorem ok_notN:Ok2 .notN (fun x y H Q=>y = .non/\Q (.bl (!decide (x = .non))) H):=by
 intro ρ σ H x y vx vy r σ' Q S hx hy e q
 change pNotN [x,y] σ=_ at e
 unfold pNotN at e
 split at e
 ·rename_i x' heq
  cases heq
  cases e
  cases(show vy = .non from hy)
  exact⟨rfl,by rw[isNon_of hx];exact q.same S rfl⟩
 ·cases e
theorem bools_of{H:Hp}:∀ {xs:List G} {vs:List V} {bs:List Bool},RGs H xs vs->bools xs=some bs->vs=bs.map V.bl
 | [],_,bs,h,e=>by cases h;cases e;rfl
 | .bl b::r,_,bs,h,e=>by
  obtain⟨v,us,rfl,h1,h2⟩:=h
  cases(show v = .bl b from h1)
  simp only[bools] at e
  cases c:bools r with
  |none=>rw[c] at e;cases e
  |some cs=>rw[c] at e;cases e;rw[bools_of h2 c];rfl
 | .non::_,_,_,_,e=>by simp[bools] at e
 | .int _::_,_,_,_,e=>by simp[bools] at e
 | .str _::_,_,_,_,e=>by simp[bools] at e
 | .tup _::_,_,_,_,e=>by simp[bools] at e
theorem intsV{H:Hp}:∀ {xs:List G} {vs:List V} {is:List Int},RGs H xs vs->intsOf xs=some is->vs=is.map V.int
 | [],_,bs,h,e=>by cases h;cases e;rfl
 | .int b::r,_,bs,h,e=>by
  obtain⟨v,us,rfl,h1,h2⟩:=h
  cases(show v = .int b from h1)
  simp only[intsOf] at e
  cases c:intsOf r with
  |none=>rw[c] at e;cases e
  |some cs=>rw[c] at e;cases e;rw[intsV h2 c];rfl
 | .non::_,_,_,_,e=>by simp[intsOf] at e
 | .bl _::_,_,_,_,e=>by simp[intsOf] at e
 | .str _::_,_,_,_,e=>by simp[intsOf] at e
 | .tup _::_,_,_,_,e=>by simp[intsOf] at e
noncomputable def rAll:List V->Hp->VK->Prop:=fun xs H Q=>∃ a bs,xs=[V.ref a]/\H a=some (.lst (List.map V.bl bs))/\Q (.bl (bs.all id)) H
noncomputable def rSum:List V->Hp->VK->Prop:=fun xs H Q=>∃ a is,xs=[V.ref a]/\H a=some (.lst (List.map V.int is))/\Q (.int is.sum) H
theorem vals_bl:∀ {bs:List Bool} {us:List Value},Vals (bs.map V.bl) us->us=bs.map Value.bool
 | [],_,h=>by cases h;rfl
 |b::r,_,h=>by
  cases h with
  |cons h1 h2 =>
   cases(show _=Value.bool b from h1)
   rw[vals_bl h2];rfl
theorem vals_int:∀ {is:List Int} {us:List Value},Vals (is.map V.int) us->∃ ts:List Tok,us=List.zipWith Value.int is ts/\ts.length=is.length
 | [],_,h=>by cases h;exact⟨[],rfl,rfl⟩
 |b::r,_,h=>by
  cases h with
  |cons h1 h2 =>
   obtain⟨t,rfl⟩:=h1
   obtain⟨ts,e,l⟩:=vals_int h2
   exact⟨t::ts,by rw[e];rfl,by simp[l]⟩
theorem range_all'(bs:List Bool):(List.range bs.length).all (fun i=>bs.getD i true)=bs.all id:=by
 rw[Bool.eq_iff_iff,List.all_eq_true,List.all_eq_true]
 constructor
 ·intro h b hb
  obtain⟨i,hi,rfl⟩:=List.getElem_of_mem hb
  have:=h i (List.mem_range.mpr hi)
  simpa[List.getD,hi] using this
 ·intro h i hi
  rw[List.mem_range] at hi
  have:=h bs[i] (List.getElem_mem hi)
  simpa[List.getD,hi] using this
theorem call_allL(hc:X.calm=true):CallR X (.builtin "all") rAll:=by
 intro pins s σ H xs us Q I r h
 obtain⟨a,bs,rfl,ha,q⟩:=h
 obtain⟨u,rfl,ru⟩:=vals1 r
 cases ru
 obtain⟨z,its,n,rv,hl,e⟩:=I.lstM ha
 have hits:=vals_bl rv
 have hL:s.heap.IsList a its.toArray:=⟨_,e,rfl,n,rfl⟩
 have hlt:a<s.heap.objs.size:=Heap.lt_size e
 refine call_all_walk ?_
 refine wpAny_pyIter_list hL ?_
 refine⟨s.heap.objs.size,_,_,its.toArray.size,_,_,fun i=>bs.getD i true,rfl,Walks.list (A:=X.A.in1) (I.ok.hd hc) s.heap.objs.size a (Nat.ne_of_lt hlt) its.toArray,⟨⟨_,Heap.get?_push_size _ rfl,rfl,rfl⟩,hL.push _⟩,?_,fun h' tk kk => ?_⟩
 ·intro i v s' Q' E' hv hq
  subst hits
  have hv:(bs.map Value.bool)[i]?=some v:=by simpa using hv
  rw[List.getElem?_map] at hv
  cases c:bs[i]? with
  |none=>rw[c] at hv;cases hv
  |some b =>
   rw[c] at hv
   cases hv
   have hb:bs.getD i true=b:=by simp[List.getD,c]
   change Q' (bs.getD i true) s' at hq
   rw[hb] at hq
   exact wpAny_truthy_bool hq
 ·have hsz:its.toArray.size=bs.length:=by subst hits;simp
  rw[hsz,range_all']
  refine⟨.bl (bs.all id),H,?_,rfl,q⟩
  exact I.kept (t':=tk) fun b o eb=>kk b o (by simp only[List.mem_singleton];exact Nat.ne_of_lt (Heap.lt_size eb)) (Heap.get?_push_of_some _ eb)
theorem preSum_is(is:List Int):∀ n,n<=is.length->preSum (fun i=>is.getD i 0) n=(is.take n).sum
 |0,_=>by simp[preSum]
 |n+1,h=>by
  have ih:=preSum_is is n (by omega)
  have hn:n<is.length:=by omega
  simp only[preSum,ih]
  rw[List.take_add_one,List.sum_append]
  simp[List.getD,hn]
theorem call_sumL(hc:X.calm=true):CallR X (.builtin "sum") rSum:=by
 intro pins s σ H xs us Q I r h
 obtain⟨a,is,rfl,ha,q⟩:=h
 obtain⟨u,rfl,ru⟩:=vals1 r
 cases ru
 obtain⟨z,its,n,rv,hl,e⟩:=I.lstM ha
 have hlen:=rv.length
 obtain⟨ts,hits,htl⟩:=vals_int rv
 have hL:s.heap.IsList a its.toArray:=⟨_,e,rfl,n,rfl⟩
 have hlt:a<s.heap.objs.size:=Heap.lt_size e
 have hsz:its.toArray.size=is.length:=by simpa using hlen.symm
 refine call_sum_walkG ?_
 refine wpAny_pyIter_list hL ?_
 refine⟨s.heap.objs.size,_,_,its.toArray.size,_,_,fun i=>is.getD i 0,rfl,Walks.list (A:=X.A.in1) (I.ok.hd hc) s.heap.objs.size a (Nat.ne_of_lt hlt) its.toArray,⟨⟨_,Heap.get?_push_size _ rfl,rfl,rfl⟩,hL.push _⟩,fun b hb => ?_,fun i v hv => ?_,fun h' tk t' kk => ?_⟩
 ·simp only[List.mem_cons,List.not_mem_nil,or_false] at hb
  show b<(s.heap.push _).objs.size
  rw[Heap.size_push]
  rcases hb with rfl|rfl
  ·exact Nat.lt_succ_self _
  ·exact Nat.lt_succ_of_lt hlt
 ·subst hits
  have hv:(List.zipWith Value.int is ts)[i]?=some v:=by simpa using hv
  rw[List.getElem?_zipWith_eq_some] at hv
  obtain⟨j,t,h1,h2,h3⟩:=hv
  exact⟨t,by rw[← h3];simp[List.getD,h1]⟩
 ·rw[hsz,preSum_is is _ (Nat.le_refl _),List.take_length]
  refine⟨.int is.sum,H,?_,⟨t',rfl⟩,q⟩
  exact I.kept (t':=tk) fun b o eb=>kk b o (by simp only[List.mem_singleton];exact Nat.ne_of_lt (Heap.lt_size eb)) (Heap.get?_push_of_some _ eb)
theorem ok_all:OkN .all rAll:=by
 intro ρ σ H xs vs r σ' Q S hx e q
 change pAll xs σ=_ at e
 match xs,hx,e with
 | [],_,e=>simp[pAll] at e
 |_::_::_,_,e=>simp[pAll] at e
 | [.g _],_,e=>simp[pAll] at e
 | [.tr _],_,e=>simp[pAll] at e
 | [.ref k],hx,e =>
  obtain⟨v,rfl,hv⟩:=rrs1 hx
  obtain⟨hk,rfl⟩:=hv
  simp only[pAll] at e
  split at e
  ·rename_i ys e3
   obtain⟨bs,e1,e2⟩:=ofO_inv e
   cases e2
   obtain⟨ws,h1,h2⟩:=S.lst e3
   have:=bools_of h2 e1
   subst this
   exact⟨_,bs,rfl,h1,q.same S rfl⟩
  ·cases e
theorem ok_sum:OkN .sum rSum:=by
 intro ρ σ H xs vs r σ' Q S hx e q
 change pSum xs σ=_ at e
 match xs,hx,e with
 | [],_,e=>simp[pSum] at e
 |_::_::_,_,e=>simp[pSum] at e
 | [.g _],_,e=>simp[pSum] at e
 | [.tr _],_,e=>simp[pSum] at e
 | [.ref k],hx,e =>
  obtain⟨v,rfl,hv⟩:=rrs1 hx
  obtain⟨hk,rfl⟩:=hv
  simp only[pSum] at e
  split at e
  ·rename_i ys e3
   obtain⟨is,e1,e2⟩:=ofO_inv e
   cases e2
   obtain⟨ws,h1,h2⟩:=S.lst e3
   have:=intsV h2 e1
   subst this
   exact⟨_,is,rfl,h1,q.same S rfl⟩
  ·cases e
theorem okm_extend{K:PySem.W.Frag}:OkM K "list" .extend rExtend:=by
 refine⟨fun ρ σ H x v S hv h => ?_,fun ρ σ H x xs v vs r σ' Q S hx hxs e q => ?_⟩
 ·rcases recv_ty (K:=K) S hv (fun z=>by cases z) (fun z=>by cases z) (fun z=>by cases z) h with⟨_,k,ys,rfl,e⟩ | ⟨z,_⟩ | ⟨z,_⟩
  ·obtain⟨ws,h1,h2⟩:=S.lst e
   obtain⟨hk,rfl⟩:=hv
   exact .inl ⟨rfl,ws,.of h1⟩
  ·cases z
  ·rcases z with z|z|z<;>cases z
 ·change pExtend (x::xs) σ=_ at e
  match x,xs,hx,hxs,e with
  | .g _,_,_,_,e=>simp[pExtend] at e
  | .tr _,_,_,_,e=>simp[pExtend] at e
  | .ref _,[],_,_,e=>simp[pExtend] at e
  | .ref _,_::_::_,_,_,e=>simp[pExtend] at e
  | .ref _,[.g _],_,_,e=>simp[pExtend] at e
  | .ref _,[.tr _],_,_,e=>simp[pExtend] at e
  | .ref k,[.ref j],hx,hxs,e =>
   obtain⟨hk,rfl⟩:=hx
   obtain⟨w,rfl,hw⟩:=rrs1 hxs
   obtain⟨hj,rfl⟩:=hw
   simp only[pExtend] at e
   split at e
   ·rename_i ys zs e3 e4
    split at e
    ·rename_i hl
     cases e
     obtain⟨ws,h1,h2⟩:=S.lst e3
     obtain⟨us,h3,h4⟩:=S.lst e4
     refine⟨_,_,ws,us,rfl,rfl,h1,h3,by rw[h2.length,h4.length];exact Nat.le_trans hl big_le,?_⟩
     obtain⟨e1,e2⟩:=S.write hk (o:=.lst (ws++us)) (c:=.lst (ys++zs)) (nfz_l h1) fun H' tp e=>⟨_,e,(RGs.mono tp _ h2).append (RGs.mono tp _ h4)⟩
     exact q ρ .non _ e1 e2 rfl
    ·cases e
   ·cases e
end
end SN
namespace SN
open PySem PySem.Spec PyProof.Rows L2 MP
variable [Wd]
mutual
noncomputable def NK(h:Heap):G->Value->Prop
 | .int i,v=>∃ t,v = .int i t
 | .str x,v=>(∃ t,v = .str (sOf x) t)/\okS x=true
 | .tup xs,v=>∃ a its,v = .ref a/\IsTup h a its.toArray/\NKs h xs its
 |_,_=>False
noncomputable def NKs(h:Heap):List G->List Value->Prop
 | [],vs=>vs=[]
 |x::xs,vs=>∃ v r,vs=v::r/\NK h x v/\NKs h xs r
end
section
variable {prog:Program}{w:World}{E:Value->Shared->Prop}
end
mutual
theorem NK.inj{h:Heap}:∀ {x y:G} {v:Value},NK h x v->NK h y v->x=y
 | .int _,y,_,a,b=>by
  obtain⟨t,rfl⟩:=a
  cases y with
  |int j=>obtain⟨u,e⟩:=b;cases e;rfl
  |str _=>obtain⟨⟨u,e⟩,_⟩:=b;cases e
  |tup _=>obtain⟨_,_,e,_⟩:=b;cases e
  |non=>simp[NK] at b
  |bl _=>simp[NK] at b
 | .str x,y,_,a,b=>by
  obtain⟨⟨t,rfl⟩,_⟩:=a
  cases y with
  |int j=>obtain⟨u,e⟩:=b;cases e
  |str z=>obtain⟨⟨u,e⟩,_⟩:=b;injection e with e1 _;rw[sOf_inj e1]
  |tup _=>obtain⟨_,_,e,_⟩:=b;cases e
  |non=>simp[NK] at b
  |bl _=>simp[NK] at b
 | .tup xs,y,_,a,b=>by
  obtain⟨p,its,rfl,⟨o,ho,_,n,hd⟩,hs⟩:=a
  cases y with
  |int j=>obtain⟨u,e⟩:=b;cases e
  |str z=>obtain⟨⟨u,e⟩,_⟩:=b;cases e
  |tup ys =>
   obtain⟨p',its',e,⟨o',ho',_,n',hd'⟩,hs'⟩:=b
   cases e
   rw[ho] at ho'
   cases ho'
   rw[hd] at hd'
   injection hd' with e1 _
   have e2:its=its':=by simpa using congrArg Array.toList e1
   subst e2
   rw[NKs.inj hs hs']
  |non=>simp[NK] at b
  |bl _=>simp[NK] at b
 | .non,_,_,a,_=>by simp[NK] at a
 | .bl _,_,_,a,_=>by simp[NK] at a
theorem NKs.inj{h:Heap}:∀ {xs ys:List G} {vs:List Value},NKs h xs vs->NKs h ys vs->xs=ys
 | [],ys,_,a,b=>by
  cases a
  cases ys with
  |nil=>rfl
  |cons _ _=>obtain⟨_,_,e,_⟩:=b;cases e
 |x::xs,ys,_,a,b=>by
  obtain⟨v,r,rfl,a1,a2⟩:=a
  cases ys with
  |nil=>cases b
  |cons y ys =>
   obtain⟨v',r',e,b1,b2⟩:=b
   cases e
   rw[NK.inj a1 b1,NKs.inj a2 b2]
end
section
variable {prog:Program}{w:World}{E:Value->Shared->Prop}
end
section
variable {prog:Program}{w:World}{A:Around}{E:Value->Shared->Prop}{s:Shared}
end
section
variable {X:Cx}{pins:List (Addr × Obj)}{σ:L2.St}{H:Hp}{s:Shared}{a:Addr}{ws:List (Key × V)}{ob:Obj}
theorem RN.keys:∀ {kvs:List (G × G)} {xs:List (G × Addr × Value)},RN H kvs xs->xs.map (·.1)=kvs.map (·.1)
 | [],_,r=>by cases r;rfl
 |p::kvs,_,r=>by
  obtain⟨b,v,u,t,rfl,_,_,_,h4⟩:=r
  simp[RN.keys h4]
theorem RN.len{kvs:List (G × G)}{xs:List (G × Addr × Value)}(r:RN H kvs xs):xs.length=kvs.length:=by
 have:=congrArg List.length r.keys
 simpa using this
theorem vals_get:∀ {vs:List V} {us:List Value} {j:Nat} {u:Value},Vals vs us->us[j]?=some u->∃ v,vs[j]?=some v/\RelV v u
 |_,_,j,u,.nil,e=>by simp at e
 |_,_,0,u,.cons r1 r2,e=>by simp at e;subst e;exact⟨_,rfl,r1⟩
 |_,_,j+1,u,.cons r1 r2,e=>by
  obtain⟨v,k1,k2⟩:=vals_get (j:=j) (u:=u) r2 (by simpa using e)
  exact⟨v,by simpa using k1,k2⟩
noncomputable def rIndex:V->List V->Hp->VK->Prop:=fun x vs H Q=>∃ a gx vx xs ws i,x = .ref a/\vs=[vx]/\H a=some (.lst ws)/\RGs H xs ws/\RG H gx vx/\xs.all shal=true/\xs.findIdx? (fun y=>peq y gx)=some i/\Q (.int i) H
theorem mt_index(hu:X.A.units+170<cLine):MtR X "list.index" rIndex:=by
 intro pins s σ H x xs v us Q I rx rs h
 obtain⟨a,gx,vx,xs,ws,i,rfl,rfl,ha,hs,hx,hl,hi,q⟩:=h
 cases rx
 obtain⟨u,rfl,ru⟩:=vals1 rs
 obtain⟨hz,its,n,rv,e⟩:=I.hok a _ ha
 have hlen:its.length=xs.length:=by rw[← rv.length,hs.length]
 rw[List.findIdx?_eq_some_iff_getElem] at hi
 obtain⟨hi,h1,h2⟩:=hi
 have hg:∀ (j:Nat) (hj:j<its.toArray.size),eqW H gx its.toArray[j]=peq (xs[j]'(by simp at hj;omega)) gx:=fun j hj=>by
  have hj':j<its.length:=by simpa using hj
  obtain⟨w,k1,k2⟩:=vals_get (j:=j) (u:=its.toArray[j]) rv (by simp[hj'])
  obtain⟨w',k3,k4⟩:=hs.get (i:=j) (x:=xs[j]'(by omega)) (by simp)
  rw[k1] at k3
  cases k3
  exact eqW_is k2 k4
 refine call_meets PySem.F.slot_list_index ⟨_,e,rfl⟩ PySem.F.entry_list_index (PySem.F.args_list_index_2 _ _) (SeqAt.list_indexAt a its.toArray n none #[] u (eqW H gx) i (by simp;omega) (by rw[sizeLine_eq] at hz;have:=hs.length;omega) ?_ fun m hm hmi => ?_)
  ⟨e,fun y hy=>eqW_at I (by simp only[Around.in1_units];omega) hx ru hs rv hl y (by simpa using hy),⟨.int i,H,I.tok _,⟨_,rfl⟩,q⟩⟩
 ·rw[hg];exact h1
 ·rw[hg]
  have:=h2 m hmi
  simpa using this
theorem okm_index{K:PySem.W.Frag}:OkM K "list" .index rIndex:=by
 refine⟨fun ρ σ H x v S hv h => ?_,fun ρ σ H x xs v vs r σ' Q S hx hxs e q => ?_⟩
 ·rcases recv_ty (K:=K) S hv (fun z=>by cases z) (fun z=>by cases z) (fun z=>by cases z) h with⟨_,k,ys,rfl,e⟩ | ⟨z,_⟩ | ⟨z,_⟩
  ·obtain⟨ws,h1,h2⟩:=S.lst e
   obtain⟨hk,rfl⟩:=hv
   exact .inl ⟨rfl,ws,.of h1⟩
  ·cases z
  ·rcases z with z|z|z<;>cases z
 ·change pIndex (x::xs) σ=_ at e
  match x,xs,hx,hxs,e with
  | .g _,_,_,_,e=>simp[pIndex] at e
  | .tr _,_,_,_,e=>simp[pIndex] at e
  | .ref _,[],_,_,e=>simp[pIndex] at e
  | .ref _,_::_::_,_,_,e=>simp[pIndex] at e
  | .ref _,[.ref _],_,_,e=>simp[pIndex] at e
  | .ref _,[.tr _],_,_,e=>simp[pIndex] at e
  | .ref k,[.g y],hx,hxs,e =>
   obtain⟨hk,rfl⟩:=hx
   obtain⟨vy,rfl,hy⟩:=rrs1 hxs
   simp only[pIndex] at e
   split at e
   ·rename_i ys e3
    split at e
    ·rename_i c
     split at e
     ·rename_i i ei
      cases e
      obtain⟨ws,h1,h2⟩:=S.lst e3
      exact⟨_,y,vy,ys,ws,i,rfl,rfl,h1,h2,hy,c,ei,q.same S rfl⟩
     ·cases e
    ·cases e
   ·cases e
end
end SN
namespace SN
open PySem PySem.Spec PyProof.Rows L2
class Cl where
 cls:List String
 consts:List (String × MP.G)
variable [Cl]
structure Ch(fs ch:List Addr)(h h':Heap):Prop where
 keep:∀ b o,h.get? b=some o->b∉fs->b∉ch->h'.get? b=some o
 slot:∀ b o,h.get? b=some o->b∉ch->∃ sl,h'.get? b=some {o with slots:=sl}
 there:∀ b o,h.get? b=some o->∃ o',h'.get? b=some o'
theorem Ch.refl{fs ch:List Addr}{h:Heap}:Ch fs ch h h:=⟨fun _ _ e _ _=>e,fun _ o e _=>⟨o.slots,e⟩,fun _ o e=>⟨o,e⟩⟩
theorem Ch.trans{fs c1 c2:List Addr}{h h1 h2:Heap}(a:Ch fs c1 h h1)(b:Ch fs c2 h1 h2):Ch fs (c1++c2) h h2 where
 keep:=fun x o e hf hc=>b.keep x o (a.keep x o e hf fun z=>hc (List.mem_append_left _ z)) hf fun z=>hc (List.mem_append_right _ z)
 slot:=fun x o e hc=>by
  obtain⟨sl,e1⟩:=a.slot x o e fun z=>hc (List.mem_append_left _ z)
  obtain⟨sl',e2⟩:=b.slot x _ e1 fun z=>hc (List.mem_append_right _ z)
  exact⟨sl',e2⟩
 there:=fun x o e=>by
  obtain⟨o',e1⟩:=a.there x o e
  exact b.there x o' e1
theorem Ch.upd1{fs:List Addr}{h:Heap}{a:Addr}{o:Obj}{vs:Array Value}(f:Array Value->Array Value)(ho:h.get? a=some o)(hd:o.data = .fields vs):Ch fs [a] h (h.update a (Obj.mapFields f)) where
 keep:=fun b u e _ hc=>by rw[Heap.get?_update_other _ _ fun z=>hc (by simp[z])];exact e
 slot:=fun b u e hc=>⟨u.slots,by rw[Heap.get?_update_other _ _ fun z=>hc (by simp[z])];exact e⟩
 there:=fun b u e=>by
  by_cases z:a=b
  ·subst z
   exact⟨_,Heap.get?_update_self _ ho (Obj.isFreed_of_fields (Obj.data_mapFields hd _))⟩
  ·exact⟨u,by rw[Heap.get?_update_other _ _ z];exact e⟩
theorem Ch.push{fs ch:List Addr}{h:Heap}(o:Obj):Ch fs ch h (h.push o) :=
 ⟨fun _ _ e _ _=>Heap.get?_push_of_some _ e,fun _ u e _=>⟨u.slots,Heap.get?_push_of_some _ e⟩,fun _ u e=>⟨u,Heap.get?_push_of_some _ e⟩⟩
theorem Ch.slots{fs ch:List Addr}{h h':Heap}(x:Heap.SlotsOnly fs h h'):Ch fs ch h h' :=
 ⟨fun b o e hf _=>(x.2.1 b hf).trans e,fun b o e _=>x.2.2 b o e,fun b o e=>let ⟨_,q⟩:=x.2.2 b o e;⟨_,q⟩⟩
noncomputable def Tb(h:Heap)(H:Hp)(lo:Heap)(e:Addr)(v:Value):Prop:=v = .none\/∃ T oT ts fl,v = .ref T/\T≠e/\lo.get? T=none/\H T=none/\h.get? T=some oT/\oT.data = .fields ts/\ts[3]?=some fl
noncomputable def XO(h:Heap)(H:Hp)(lo:Heap)(e:Addr)(C:Value × Bool)(tb:Bool):Prop :=
 ∃ oe vs v,h.get? e=some oe/\(oe.cls=C.1/\oe.dict=none)/\oe.data = .fields vs/\lo.get? e=none/\H e=none/\vs[1]?=some v/\Tb h H lo e v/\((tb=true->v ≠ .none)/\(C.2=true->vs[2]?=some .none))
noncomputable def Rec(h:Heap)(H:Hp)(lo:Heap)(ch:List Addr):Prop:=∀ b∈ch,lo.get? b=none/\H b=none/\∃ ob vs,h.get? b=some ob/\ob.data = .fields vs
section
variable {M:Model}{A:Around}{E:Value->Shared->Prop}{s:Shared}{base:Heap}{env:PySem.Env}{outer:List PySem.Env}{L e:Addr}{H:Hp}{lo:Heap}{C:Value × Bool}{tb:Bool}{Q:Unit->Shared->Prop}
theorem mf_dict(f:Array Value->Array Value)(o:Obj):(o.mapFields f).dict=o.dict:=by
 obtain⟨c,d,dt,sl⟩:=o
 cases dt<;>rfl
theorem fr_rec(hl:s.heap.FunFrames base (env::outer)){oe:Obj}{vs:Array Value}(he:s.heap.get? e=some oe)(hd:oe.data = .fields vs):e∉frs (env::outer):=fun hm=>by
 obtain⟨_,o,ho,hn⟩:=hl.mem hm
 rw[he] at ho
 cases ho
 exact hn vs hd
theorem entry_x{head:Value}{hn:Bool}{oe:Obj}{vs:Array Value}(hfr:A.frames=some (env::outer))(hl:s.heap.FunFrames base (env::outer))(hf:env.frame=some L)(he:s.heap.get? e=some oe)(hc:oe.cls=C.1/\oe.dict=none)(hd:oe.data = .fields vs)(hx2:C.2=true->vs[2]?=some .none)
 (hv:1<vs.size) (h1:lo.get? e=none) (h2:H e=none) (hlo:∀ b,s.heap.objs.size<=b->lo.get? b=none) (hH:∀ b,s.heap.objs.size<=b->H b=none)
 (h:∀ h',Ch (frs (env::outer)) [e] s.heap h'->XO h' H lo e C true->Q () {s with heap:=h'}) :
 wpAny M A (do let fr ← frameOf env;let pl ← entryPlaceOf L hn;let tr ← EntryCells.newEntry head fr .none (rawInt L) .none pl;setField (.ref e) 1 tr) Q E s:=by
 have hne:=fr_rec hl he hd
 refine wpAny_bind (wpAny_frameOf_fun hfr hl hf fun k hk=>wpAny_bind (wpAny_entryPlaceOf fun pl hpl => ?_))
 delta EntryCells.newEntry newFields
 refine wpAny_bind (wpAny_newObj_type ?_ (hpl.sizeOk5 _ _ _ _ _))
 generalize hT:({cls:=.type "traceback",dict:=none,data:=.fields ([head,.ref L,.none,rawInt L,.none]++(if pl.isEmpty then List.replicate 6 Value.none else pl)).toArray}:Obj)=oT
 have ek:k.get? e=some oe:=(hk.2.1 e hne).trans he
 have ep:(k.push oT).get? e=some oe:=Heap.get?_push_of_some _ ek
 have hsz:k.objs.size=s.heap.objs.size:=hk.1
 have neq:k.objs.size≠e:=Nat.ne_of_gt (Heap.lt_size ek)
 refine wpAny_setField ep hd hv (h _ ?_ ?_)
 ·have q:=((Ch.slots (ch:=[]) hk).trans (Ch.push (ch:=[]) oT)).trans (Ch.upd1 (fs:=frs (env::outer)) (fun vs=>vs.setIfInBounds 1 (.ref k.objs.size)) ep hd)
  exact q
 ·have dm:=Obj.data_mapFields hd (·.setIfInBounds 1 (Value.ref k.objs.size))
  refine⟨_,_,.ref k.objs.size,Heap.get?_update_self _ ep (Obj.isFreed_of_fields dm),⟨(Obj.cls_mapFields _ _).trans hc.1,(mf_dict _ _).trans hc.2⟩,dm,h1,h2,by simp[hv],.inr ⟨k.objs.size,oT,_,rawInt L,rfl,neq,hlo _ (by omega),hH _ (by omega),?_,by rw[← hT],by simp⟩,⟨fun _ z=>(by cases z),fun z=>by rw[Array.getElem?_setIfInBounds_ne (by decide)];exact hx2 z⟩⟩
  rw[Heap.get?_update_other _ _ (Ne.symm neq)]
  exact Heap.get?_push_at rfl (by rw[← hT];rfl)
theorem note_x(hfr:A.frames=some (env::outer))(hl:s.heap.FunFrames base (env::outer))(hf:env.frame=some L)(hx:XO s.heap H lo e C tb)(hlo:∀ b,s.heap.objs.size<=b->lo.get? b=none)(hH:∀ b,s.heap.objs.size<=b->H b=none)
 (h:∀ h' ch,Rec s.heap H lo ch->Ch (frs (env::outer)) ch s.heap h'->XO h' H lo e C true->Q () {s with heap:=h'}):wpAny M A (noteFrame (.ref e) env) Q E s:=by
 obtain⟨oe,vs,v,he,hc,hd,l1,l2,h1,ht,hb⟩:=hx
 have hv:1<vs.size:=(Array.getElem?_eq_some_iff.mp h1).1
 have r1:Rec s.heap H lo [e]:=fun b hb=>by
  have:=List.mem_singleton.mp hb
  subst this
  exact⟨l1,l2,oe,vs,he,hd⟩
 unfold noteFrame
 simp only[hf]
 refine wpAny_bind (wpAny_field he hd h1 ?_)
 rcases ht with rfl | ⟨T,oT,ts,fl,rfl,hTe,lT,hT,gT,dT,t3⟩
 ·rw[if_neg (by decide)]
  exact entry_x hfr hl hf he hc hd hb.2 hv l1 l2 hlo hH fun h' q x=>h h' [e] r1 q x
 ·rw[if_pos (show(Value.ref T !=Value.none)=true by simp)]
  refine wpAny_bind (wpAny_field gT dT t3 ?_)
  have h3:3<ts.size:=(Array.getElem?_eq_some_iff.mp t3).1
  by_cases hq:(fl == rawInt L)=true
  ·rw[if_pos hq]
   exact wpAny_pure (h s.heap [] (fun b hb=>by simp at hb) Ch.refl ⟨oe,vs,_,he,hc,hd,l1,l2,h1,.inr ⟨T,oT,ts,fl,rfl,hTe,lT,hT,gT,dT,t3⟩,⟨fun _ z=>(by cases z),hb.2⟩⟩)
  ·rw[if_neg hq]
   refine wpAny_bind (wpAny_setField gT dT h3 ?_)
   have cT:=Ch.upd1 (fs:=frs (env::outer)) (fun vs=>vs.setIfInBounds 3 Value.none) gT dT
   have e2:(s.heap.update T (Obj.mapFields (·.setIfInBounds 3 Value.none))).get? e=some oe:=by rw[Heap.get?_update_other _ _ hTe];exact he
   have hl2:(s.heap.update T (Obj.mapFields (·.setIfInBounds 3 Value.none))).FunFrames base (env::outer):=hl.of_keeps fun b o hb hn=>⟨o,by
    rw[Heap.get?_update_other _ _ fun z=>by subst z;rw[gT] at hb;cases hb;exact hn ts dT];exact hb,rfl⟩
   refine entry_x (s:={s with heap:=s.heap.update T (Obj.mapFields (·.setIfInBounds 3 Value.none))}) hfr hl2 hf e2 hc hd hb.2 hv l1 l2 (by simpa using hlo) (by simpa using hH) fun h' q x=>h h' ([T]++[e]) (fun b hb => ?_) (cT.trans q) x
   rcases List.mem_append.mp hb with z|z
   ·have:=List.mem_singleton.mp z
    subst this
    exact⟨lT,hT,oT,ts,gT,dT⟩
   ·exact r1 b z
theorem flight_x{fr:Option Addr}{fs:List Addr}(hx:XO s.heap H lo e C tb)(h:∀ h' ch,Rec s.heap H lo ch->Ch fs ch s.heap h'->XO h' H lo e C tb->Q () {s with heap:=h'}):wpAny M A (setFlight (.ref e) fr) Q E s:=by
 obtain⟨oe,vs,v,he,hc,hd,l1,l2,h1,ht,hb⟩:=hx
 unfold setFlight
 refine wpAny_bind (wpAny_field he hd h1 ?_)
 rcases ht with rfl | ⟨T,oT,ts,fl,rfl,hTe,lT,hT,gT,dT,t3⟩
 ·rw[if_neg (by decide)]
  exact wpAny_pure (h s.heap [] (fun b hb=>by simp at hb) Ch.refl ⟨oe,vs,_,he,hc,hd,l1,l2,h1,.inl rfl,hb⟩)
 ·rw[if_pos (show(Value.ref T !=Value.none)=true by simp)]
  have h3:3<ts.size:=(Array.getElem?_eq_some_iff.mp t3).1
  refine wpAny_setField gT dT h3 (h _ [T] (fun b hb => ?_) (Ch.upd1 _ gT dT) ?_)
  ·have:=List.mem_singleton.mp hb
   subst this
   exact⟨lT,hT,oT,ts,gT,dT⟩
  ·refine⟨oe,vs,_,by rw[Heap.get?_update_other _ _ hTe];exact he,hc,hd,l1,l2,h1,.inr ⟨T,_,_,fr.elim Value.none fun f=>rawInt f,rfl,hTe,lT,hT,Heap.get?_update_self _ gT (Obj.isFreed_of_fields (Obj.data_mapFields dT _)),Obj.data_mapFields dT _,by simp[h3]⟩,⟨fun _ z=>(by cases z),hb.2⟩⟩
theorem came_x{fs:List Addr}(hx:XO s.heap H lo e C true)(h:∀ h' ch,Rec s.heap H lo ch->Ch fs ch s.heap h'->XO h' H lo e C true->E (.ref e) {s with heap:=h'}):cameBackBy M A env E (.ref e) s:=by
 have hx2:=hx
 obtain⟨oe,vs,v,he,hc,hd,l1,l2,h1,ht,hb⟩:=hx2
 unfold cameBackBy
 refine wpAny_bind (wpAny_field he hd h1 ?_)
 have:(v == Value.none)=false:=by simpa using hb.1 rfl
 rw[this]
 simp only[Bool.false_eq_true,if_false]
 exact flight_x hx h
end
section
variable {X:Cx}{σ:L2.St}{H:Hp}{s:Shared}{pins:List (Addr × Obj)}
noncomputable def Old(X:Cx)(pins:List (Addr × Obj))(g:Heap):Prop:=∀ b,g.get? b=none->X.s₀.heap.get? b=none/\∀ p∈pins,p.1≠b
theorem old0:Old X [] X.s₀.heap:=fun b n=>⟨n,fun p hp=>by simp at hp⟩
theorem inv_ch{ch:List Addr}{h' g:Heap}(I:Inv X pins σ H s)(hp:X.pn=[])(hg:Old X pins g)(hr:Rec s.heap H g ch)(c:Ch (frs X.stack) ch s.heap h'):Inv X pins σ H {s with heap:=h'}:=by
 have nch:∀ b u,H b=some u->b∉ch:=fun b u e z=>by rw[(hr b z).2.1] at e;cases e
 have nfs:∀ b u,H b=some u->b∉frs X.stack:=fun b u e z=>by rw[I.stkFree b z] at e;cases e
 refine I.call (g':=s.gens) (d':=s.drawn) (t':=s.toks) (ch:=ch) ⟨fun b o e _ hf hc=>c.keep b o e hf hc,fun b o e _ _ hc=>c.slot b o e hc,fun _ _ _ n _=>n,fun b o e _=>c.there b o e,fun _ _ q=>q,fun _ _ _ q=>q,fun _ ps q=>⟨#[],by rw[q];simp⟩⟩ (fun b u e => ?_) I.bare fun b hb => ?_
 ·refine(I.hok b u e).stay (fun d v hd q => ?_) (fun _ q=>q) fun _ _ q=>q
  rcases hd with z|z
  ·subst z;exact c.keep _ v q (nfs _ u e) (nch _ u e)
  ·exact c.keep d v q (nfs d _ z) (nch d _ z)
 ·obtain⟨l,n,ob,vs,g,hd⟩:=hr b hb
  refine⟨.inr (hg b l).1,fun z => ?_,fun x a ha z => ?_,fun p hp'=>(hg b l).2 p (by rw[hp] at hp';simpa using hp')⟩
  ·obtain⟨m,⟨o,es,ep,ho,hd',_⟩,_⟩:=I.loc
   rw[← z,g] at ho;cases ho;rw[hd] at hd';cases hd'
  ·obtain⟨v,o,ho,hd'⟩:=I.cell x a ha
   rw[z,g] at ho;cases ho;rw[hd] at hd';cases hd'
noncomputable def XE(X:Cx)(Ξ:String->Hp->Prop):Value->Shared->Prop:=fun v s'=>∃ e c C σ H tb,v = .ref e/\c∈Cl.cls/\X.mg (Str.ofString c)=some (.ref C)/\Inv X [] σ H s'/\XO s'.heap H X.s₀.heap e (.ref C,MP.ncx c) tb/\Ξ c H
structure Bdy(X:Cx):Prop where
 stk:X.stack=X.env::X.outer
 fr:X.env.frame=some X.env.locals
 pn:X.pn=[]
 ex:X.ex=[]
theorem passes_x{Ξ:String->Hp->Prop}(B:Bdy X):PassesOwn (model X.prog X.w) X.A X.env (XE X Ξ):=by
 rintro v s' ⟨e,c,C,σ,H,tb,rfl,hm,hc,I,x,q⟩
 unfold notedBy
 have hfr:=I.ok.frames
 have hl:=I.stack
 rw[B.stk] at hfr hl
 refine note_x hfr hl B.fr x (fun b hb=>Heap.get?_none_of_le (Nat.le_trans I.sz hb)) (fun b hb=>I.hok.fresh hb) fun h' ch r c' x' => ?_
 rw[← B.stk] at c'
 have I':=inv_ch I B.pn old0 r c'
 refine came_x (fs:=frs X.stack) x' fun h'' ch' r' c'' x'' => ?_
 exact⟨e,c,C,σ,H,true,rfl,hm,hc,inv_ch I' B.pn old0 r' c'',x'',q⟩
theorem leave_x{Ξ:String->Hp->Prop}{v:Value}{s':Shared}{E:Value->Shared->Prop}{Q:Unit->Shared->Prop}(B:Bdy X)(h:XE X Ξ v s')(k:∀ s'',XE X Ξ v s''->Q () s''):wpAny (model X.prog X.w) X.A (leaving X.env v) Q E s':=by
 obtain⟨e,c,C,σ,H,tb,rfl,hm,hc,I,x,q⟩:=h
 unfold leaving
 have hfr:=I.ok.frames
 have hl:=I.stack
 rw[B.stk] at hfr hl
 refine wpAny_bind (note_x hfr hl B.fr x (fun b hb=>Heap.get?_none_of_le (Nat.le_trans I.sz hb)) (fun b hb=>I.hok.fresh hb) fun h' ch r c' x' => ?_)
 rw[← B.stk] at c'
 have I':=inv_ch I B.pn old0 r c'
 exact flight_x (fs:=frs X.stack) x' fun h'' ch' r' c'' x''=>k _ ⟨e,c,C,σ,H,true,rfl,hm,hc,inv_ch I' B.pn old0 r' c'',x'',q⟩
end
noncomputable def CX1(P:Program)(w:World)(mg:Str->Option Value):CXT:=fun outer H s E v s'=>∃ e c C H' tb,v = .ref e/\c∈Cl.cls/\mg (Str.ofString c)=some (.ref C)/\s'.os=s.os/\AllBare s'.gens/\Un (frs outer) [] H H' s.heap s'.heap/\HOk P w H' s'.heap ∧
 XO s'.heap H' s.heap e (.ref C,MP.ncx c) tb/\E (.type c) none H'
section
variable {P:Program}{w:World}{K:PySem.W.Frag}{mg:Str->Option Value}{base:Heap}
theorem pass1{X:Cx}:Passes (CX1 P w mg) X E0:=fun _ _ _ _ _ _ _ h=>by
 obtain⟨e,c,C,H',tb,_,_,_,_,_,_,_,_,z⟩:=h
 exact z.elim
theorem fn_to0{k:Nat}{f:Addr}{fd:FuncData}{ps:List Str}{sp:Sp}(F:FnOk P w K mg base (CX1 P w mg) k f fd ps sp):FnOk P w K mg base CX0 k f fd ps (fun vs H Q _=>sp vs H Q E0):=by
 refine⟨fun vs H Q _ h=>F.len vs H Q E0 h,fun A outer s H args us vs Q E hr e0 hb hv hs => ?_⟩
 refine codeAny_mono (F.run A outer s H args us vs Q E0 hr e0 hb hv hs) fun r s' h => ?_
 cases r with
 |ok f=>cases f<;>exact h
 |error e =>
  obtain⟨_,_,_,_,_,_,_,_,_,_,_,_,_,z⟩:=h
  exact z.elim
theorem fn_okX{x qual:Str}{st:Stmt}{f:Addr}{fd:FuncData}{N ps:List Str}{k:Nat}{sp:Sp}(F:Fun K x qual st f fd)(S:FnScope N ps (defScope st))(len:∀ vs H Q E,sp vs H Q E->vs.length=ps.length)
 (hbody:∀ (cdv:Value) (A:Around) (outer:List PySem.Env) (s:Shared) (H:Hp) (vs:List V) (Q:VK) (E:XK),Room k (A.deeper (envOfC qual (defScope st) s.heap.objs.size f cdv))->sp vs H Q E →
   ∀ X0:Cx,X0=cxOf (CX1 P w mg) P w K mg base N qual (defScope st) f cdv A outer s H E->Bdy X0->∃ t,PSs (X0.wish (XE X0 fun c H'=>E (.type c) none H')) (defBody st) t/\t {nx:=fun _ H'=>Q .non H',rt:=Q} (L2.start N vs) H):FnOk P w K mg base (CX1 P w mg) (k+1) f fd ps sp:=by
 obtain⟨oc,od,kV,doc,pm,an,cdv,ct,osl,rfl,lk,hcd⟩:=F.ex
 refine fn_of lk hcd S len fun A outer s H vs Q E hr hsp => ?_
 have B:Bdy (cxOf (CX1 P w mg) P w K mg base N qual (defScope st) f cdv A outer s H E):=⟨rfl,rfl,rfl,rfl⟩
 obtain⟨t,h,q⟩:=hbody cdv A outer s H vs Q E hr hsp _ rfl B
 refine⟨t,fun pins s1 σ H1 D I hw => ?_,q⟩
 refine wpAny_mono (h pins s1 σ H1 D (I.wish _) hw) (fun _ _ q=>q.unwish) fun v s' z => ?_
 refine leave_x (X:=cxOf (CX1 P w mg) P w K mg base N qual (defScope st) f cdv A outer s H E) B z fun s'' z' => ?_
 obtain⟨e,c,C,σ',H',tb,rfl,hm,hc,I',x',q'⟩:=z'
 exact⟨e,c,C,H',tb,rfl,hm,hc,I'.os,I'.bare,I'.base,I'.hok,x',q'⟩
end
end SN
namespace SN
open PySem PySem.Spec PyProof.Rows L2 MP
noncomputable def gl(sc:Scope)(x:Str):Bool:=sc.names.lookup x == some .globalImplicit
noncomputable def isS(x:Str)(n:String):Bool:=decide (x=Str.ofString n)
noncomputable def visB(sc:Scope)(x:Str):Bool:=match sc.names.lookup x with
 |some .local=>true
 |some .cell=>true
 |some .free=>true
 |_=>false
noncomputable def notSet:Expr->Bool
 | .Set .. => false
 |_=>true
noncomputable def notSlice:Expr->Bool
 | .Slice .. => false
 |_=>true
noncomputable def whenS{α:Type}(o:Option α)(A:α->Bool):Bool:=match o with
 |some a=>A a
 |none=>false
theorem whenS_inv{α:Type}{o:Option α}{A:α->Bool}(h:whenS o A=true):∃ a,o=some a/\A a=true:=by
 cases o with
 |none=>cases h
 |some a=>exact⟨a,rfl,h⟩
noncomputable def l1{α:Type}:List α->Option α
 | []=>none
 |x::r=>if r.isEmpty then some x else none
theorem l1_inv{α:Type}{xs:List α}{x:α}(h:l1 xs=some x):xs=[x]:=by
 cases xs with
 |nil=>cases h
 |cons y r =>
  cases r with
  |nil=>cases h;rfl
  |cons _ _=>cases h
noncomputable def l2{α:Type}:List α->Option (α × α)
 | []=>none
 |x::r=>(l1 r).map fun y=>(x,y)
theorem l2_inv{α:Type}{xs:List α}{x y:α}(h:l2 xs=some (x,y)):xs=[x,y]:=by
 cases xs with
 |nil=>cases h
 |cons z r =>
  obtain⟨w,e,e2⟩:=Option.map_eq_some_iff.mp h
  cases e2
  rw[l1_inv e]
inductive Vw where
 |name (x:Str) (p:Pos)
 |con (c:Const)
 |bin (a:Expr) (op:Operator) (b:Expr)
 |un (op:UnaryOp) (a:Expr)
 |bool (op:BoolOp) (vs:List Expr) (p:Pos)
 |ife (c a b:Expr)
 |cmp (a:Expr) (ops:List CmpOp) (bs:List Expr)
 |sub (a b:Expr)
 |slice (l u s:Option Expr)
 |tup (es:List Expr)
 |lst (es:List Expr)
 |dct (ks:List (Option Expr)) (vs:List Expr)
 |call (f:Expr) (as:List Expr) (kw:List Keyword) (p:Pos)
 |attr (o:Expr) (m:Str) (p:Pos)
 |comp (el:Expr) (gens:List Comprehension) (scope:Scope) (p:Pos)
 |other
noncomputable def vw:Expr->Vw
 | .Name x p=>.name x p
 | .Constant c _ _=>.con c
 | .BinOp a op b _=>.bin a op b
 | .UnaryOp op a _=>.un op a
 | .BoolOp op vs p=>.bool op vs p
 | .IfExp c a b _=>.ife c a b
 | .Compare a ops bs _=>.cmp a ops bs
 | .Subscript a b _=>.sub a b
 | .Slice l u s _=>.slice l u s
 | .Tuple es _ _=>.tup es
 | .List es _=>.lst es
 | .Dict ks vs _=>.dct ks vs
 | .Call f as kw p=>.call f as kw p
 | .Attribute o m p=>.attr o m p
 | .ListComp el gens scope p=>.comp el gens scope p
 |_=>.other
noncomputable def VwOk(e:Expr):Vw->Prop
 | .name x p=>e = .Name x p
 | .con c=>∃ k p,e = .Constant c k p
 | .bin a op b=>∃ p,e = .BinOp a op b p
 | .un op a=>∃ p,e = .UnaryOp op a p
 | .bool op vs p=>e = .BoolOp op vs p
 | .ife c a b=>∃ p,e = .IfExp c a b p
 | .cmp a ops bs=>∃ p,e = .Compare a ops bs p
 | .sub a b=>∃ p,e = .Subscript a b p
 | .slice l u s=>∃ p,e = .Slice l u s p
 | .tup es=>∃ k p,e = .Tuple es k p
 | .lst es=>∃ p,e = .List es p
 | .dct ks vs=>∃ p,e = .Dict ks vs p
 | .call f as kw p=>e = .Call f as kw p
 | .attr o m p=>e = .Attribute o m p
 | .comp el gens scope p=>e = .ListComp el gens scope p
 | .other=>True
theorem vw_ok(e:Expr):VwOk e (vw e):=by
 cases e<;>first|exact trivial|exact rfl|exact⟨_,rfl⟩|exact⟨_,_,rfl⟩
noncomputable def vNameP:Vw->Option (Str × Pos)
 | .name x p=>some (x,p)
 |_=>none
theorem namePE{e:Expr}{x:Str}{p:Pos}(h:vNameP (vw e)=some (x,p)):e = .Name x p:=by
 have hv:=vw_ok e
 generalize vw e=v at h hv
 cases v<;>first|(cases h;done)|(cases h;exact hv)
noncomputable def vName(v:Vw):Option Str:=(vNameP v).map (·.1)
theorem nameE{e:Expr}{x:Str}(h:vName (vw e)=some x):∃ p,e = .Name x p:=by
 obtain⟨⟨y,p⟩,h1,h2⟩:=Option.map_eq_some_iff.mp h
 cases h2
 exact⟨p,namePE h1⟩
noncomputable def vCon:Vw->Option Const
 | .con c=>some c
 |_=>none
theorem conE{e:Expr}{c:Const}(h:vCon (vw e)=some c):∃ k p,e = .Constant c k p:=by
 have hv:=vw_ok e
 generalize vw e=v at h hv
 cases v<;>first|(cases h;done)|(cases h;exact hv)
noncomputable def vUn(op:UnaryOp):Vw->Option Expr
 | .un o a=>if o=op then some a else none
 |_=>none
theorem unE{op:UnaryOp}{e a:Expr}(h:vUn op (vw e)=some a):∃ p,e = .UnaryOp op a p:=by
 have hv:=vw_ok e
 generalize vw e=v at h hv
 cases v<;>first|(cases h;done)|skip
 rename_i o b
 by_cases z:o=op
 ·subst z
  rw[vUn,if_pos rfl] at h
  cases h
  exact hv
 ·rw[vUn,if_neg z] at h
  cases h
noncomputable def vTup:Vw->Option (List Expr)
 | .tup es=>some es
 |_=>none
theorem tupE{e:Expr}{es:List Expr}(h:vTup (vw e)=some es):∃ k p,e = .Tuple es k p:=by
 have hv:=vw_ok e
 generalize vw e=v at h hv
 cases v<;>first|(cases h;done)|(cases h;exact hv)
noncomputable def vLst:Vw->Option (List Expr)
 | .lst es=>some es
 |_=>none
theorem lstE{e:Expr}{es:List Expr}(h:vLst (vw e)=some es):∃ p,e = .List es p:=by
 have hv:=vw_ok e
 generalize vw e=v at h hv
 cases v<;>first|(cases h;done)|(cases h;exact hv)
noncomputable def vSub:Vw->Option (Expr × Expr)
 | .sub a b=>some (a,b)
 |_=>none
theorem subE{e a b:Expr}(h:vSub (vw e)=some (a,b)):∃ p,e = .Subscript a b p:=by
 have hv:=vw_ok e
 generalize vw e=v at h hv
 cases v<;>first|(cases h;done)|(cases h;exact hv)
noncomputable def vSlice:Vw->Option (Option Expr × Option Expr × Option Expr)
 | .slice l u s=>some (l,u,s)
 |_=>none
theorem sliceE{e:Expr}{l u s:Option Expr}(h:vSlice (vw e)=some (l,u,s)):∃ p,e = .Slice l u s p:=by
 have hv:=vw_ok e
 generalize vw e=v at h hv
 cases v<;>first|(cases h;done)|(cases h;exact hv)
noncomputable def vAttr:Vw->Option (Expr × Str × Pos)
 | .attr o m p=>some (o,m,p)
 |_=>none
theorem attrE{e o:Expr}{m:Str}{p:Pos}(h:vAttr (vw e)=some (o,m,p)):e = .Attribute o m p:=by
 have hv:=vw_ok e
 generalize vw e=v at h hv
 cases v<;>first|(cases h;done)|(cases h;exact hv)
noncomputable def vCall:Vw->Option (Expr × List Expr × Pos)
 | .call f as kw p=>if kw.isEmpty then some (f,as,p) else none
 |_=>none
theorem callE{e f:Expr}{as:List Expr}{p:Pos}(h:vCall (vw e)=some (f,as,p)):e = .Call f as [] p:=by
 have hv:=vw_ok e
 generalize vw e=v at h hv
 cases v<;>first|(cases h;done)|skip
 rename_i g bs kw q
 cases kw with
 |nil=>cases h;exact hv
 |cons _ _=>cases h
noncomputable def vCallN(v:Vw):Option (Str × List Expr):=(vCall v).bind fun q=>(vName (vw q.1)).map fun x=>(x,q.2.1)
theorem callNE{e:Expr}{x:Str}{as:List Expr}(h:vCallN (vw e)=some (x,as)):∃ pp p,e = .Call (.Name x pp) as [] p:=by
 obtain⟨⟨f,bs,p⟩,h1,h2⟩:=Option.bind_eq_some_iff.mp h
 obtain⟨y,h3,h4⟩:=Option.map_eq_some_iff.mp h2
 cases h4
 obtain⟨pp,rfl⟩:=nameE h3
 exact⟨pp,p,callE h1⟩
noncomputable def recvE(o:Expr):Bool:=(vName (vw o)).isSome || (vSub (vw o)).isSome
 || (vCon (vw o)).isSome || (vLst (vw o)).isSome
noncomputable def vMeth(v:Vw):Option (Expr × Str × List Expr):=(vCall v).bind fun q=>(vAttr (vw q.1)).bind fun a=>if recvE a.1 && a.2.2.endLine == q.2.2.line then some (a.1,a.2.1,q.2.1) else none
theorem methE{e o:Expr}{m:Str}{as:List Expr}(h:vMeth (vw e)=some (o,m,as)):∃ ap cp,recvE o=true/\(ap.endLine == cp.line)=true/\e = .Call (.Attribute o m ap) as [] cp:=by
 obtain⟨⟨f,bs,p⟩,h1,h2⟩:=Option.bind_eq_some_iff.mp h
 obtain⟨⟨o',m',ap⟩,h3,h4⟩:=Option.bind_eq_some_iff.mp h2
 cases attrE h3
 by_cases z:(recvE o' && ap.endLine == p.line)=true
 ·rw[if_pos z] at h4
  cases h4
  rw[Bool.and_eq_true] at z
  exact⟨ap,p,z.1,z.2,callE h1⟩
 ·rw[if_neg z] at h4
  cases h4
noncomputable def vBin(op:Operator):Vw->Option (List Expr)
 | .bin a o b=>if o=op then some [a,b] else none
 |_=>none
theorem binE{op:Operator}{e:Expr}{es:List Expr}(h:vBin op (vw e)=some es):∃ a b p,es=[a,b]/\e = .BinOp a op b p:=by
 have hv:=vw_ok e
 generalize vw e=v at h hv
 cases v<;>first|(cases h;done)|skip
 rename_i a o b
 obtain⟨p,rfl⟩:=hv
 by_cases z:o=op
 ·subst z
  rw[vBin,if_pos rfl] at h
  cases h
  exact⟨a,b,p,rfl,rfl⟩
 ·rw[vBin,if_neg z] at h
  cases h
noncomputable def vCmp(op:CmpOp):Vw->Option (List Expr)
 | .cmp a ops bs=>(l1 ops).bind fun o=>(l1 bs).bind fun b=>if o=op/\notSet b=true then some [a,b] else none
 |_=>none
theorem cmpE{op:CmpOp}{e:Expr}{es:List Expr}(h:vCmp op (vw e)=some es):∃ a b p,es=[a,b]/\notSet b=true/\e = .Compare a [op] [b] p:=by
 have hv:=vw_ok e
 generalize vw e=v at h hv
 cases v<;>first|(cases h;done)|skip
 rename_i a ops bs
 obtain⟨p,rfl⟩:=hv
 obtain⟨o,h1,h2⟩:=Option.bind_eq_some_iff.mp (show((l1 ops).bind fun o=>(l1 bs).bind fun b=>if o=op/\notSet b=true then some [a,b] else none)=some es from h)
 obtain⟨b,h3,h4⟩:=Option.bind_eq_some_iff.mp h2
 cases l1_inv h1
 cases l1_inv h3
 by_cases z:o=op/\notSet b=true
 ·rw[if_pos z] at h4
  cases h4
  obtain⟨rfl,z⟩:=z
  exact⟨a,b,p,rfl,z,rfl⟩
 ·rw[if_neg z] at h4
  cases h4
noncomputable def vIx(v:Vw):Option (List Expr):=(vSub v).bind fun q=>if notSlice q.2 then some [q.1,q.2] else none
theorem ixE{e:Expr}{es:List Expr}(h:vIx (vw e)=some es):∃ a b p,es=[a,b]/\notSlice b=true/\e = .Subscript a b p:=by
 obtain⟨⟨a,b⟩,h1,h2⟩:=Option.bind_eq_some_iff.mp h
 obtain⟨p,rfl⟩:=subE h1
 by_cases z:notSlice b=true
 ·rw[if_pos z] at h2
  cases h2
  exact⟨a,b,p,rfl,z,rfl⟩
 ·rw[if_neg z] at h2
  cases h2
noncomputable def vBlt(sc:Scope)(f:String)(v:Vw):Option (List Expr):=(vCallN v).bind fun q=>if (l1 q.2).isSome && (gl sc q.1 && isS q.1 f) then some q.2 else none
theorem bltE{sc:Scope}{f:String}{e:Expr}{es:List Expr}(h:vBlt sc f (vw e)=some es):∃ a pp p,es=[a]/\gl sc (Str.ofString f)=true/\e = .Call (.Name (Str.ofString f) pp) [a] [] p:=by
 obtain⟨⟨x,as⟩,h1,h2⟩:=Option.bind_eq_some_iff.mp h
 obtain⟨pp,p,rfl⟩:=callNE h1
 by_cases z:((l1 as).isSome && (gl sc x && isS x f))=true
 ·rw[if_pos z] at h2
  cases h2
  rw[Bool.and_eq_true,Bool.and_eq_true] at z
  obtain⟨a,ha⟩:=Option.isSome_iff_exists.mp z.1
  cases l1_inv ha
  cases(of_decide_eq_true z.2.2:x=Str.ofString f)
  exact⟨a,pp,p,rfl,z.2.1,rfl⟩
 ·rw[if_neg z] at h2
  cases h2
noncomputable def vIs(sc:Scope)(T:Ty)(v:Vw):Option (List Expr):=(vCallN v).bind fun q=>(l2 q.2).bind fun r=>(vName (vw r.2)).bind fun t=>if gl sc q.1 && (isS q.1 "isinstance" && (isS t (tyN T) && gl sc t)) then some [r.1] else none
theorem isE{sc:Scope}{T:Ty}{e:Expr}{es:List Expr}(h:vIs sc T (vw e)=some es):∃ a tp pp p,es=[a]/\gl sc (Str.ofString "isinstance")=true/\gl sc (Str.ofString (tyN T))=true/\e = .Call (.Name (Str.ofString "isinstance") pp) [a,.Name (Str.ofString (tyN T)) tp] [] p:=by
 obtain⟨⟨x,as⟩,h1,h2⟩:=Option.bind_eq_some_iff.mp h
 obtain⟨⟨a,b⟩,h3,h4⟩:=Option.bind_eq_some_iff.mp h2
 obtain⟨t,h5,h6⟩:=Option.bind_eq_some_iff.mp h4
 obtain⟨pp,p,rfl⟩:=callNE h1
 cases l2_inv h3
 obtain⟨tp,rfl⟩:=nameE h5
 by_cases z:(gl sc x && (isS x "isinstance" && (isS t (tyN T) && gl sc t)))=true
 ·rw[if_pos z] at h6
  cases h6
  rw[Bool.and_eq_true,Bool.and_eq_true,Bool.and_eq_true] at z
  obtain⟨z1,z2,z3,z4⟩:=z
  cases(of_decide_eq_true z2:x=Str.ofString "isinstance")
  cases(of_decide_eq_true z3:t=Str.ofString (tyN T))
  exact⟨a,tp,pp,p,rfl,z1,z4,rfl⟩
 ·rw[if_neg z] at h6
  cases h6
noncomputable def vSlF(v:Vw):Option (List Expr):=(vSub v).bind fun q=>(vSlice (vw q.2)).bind fun r=>match r with
 | (some l,none,none)=>some [q.1,l]
 |_=>none
theorem slFE{e:Expr}{es:List Expr}(h:vSlF (vw e)=some es):∃ a l p p2,es=[a,l]/\e = .Subscript a (.Slice (some l) none none p2) p:=by
 obtain⟨⟨a,b⟩,h1,h2⟩:=Option.bind_eq_some_iff.mp h
 obtain⟨⟨l,u,s⟩,h3,h4⟩:=Option.bind_eq_some_iff.mp h2
 obtain⟨p,rfl⟩:=subE h1
 obtain⟨p2,rfl⟩:=sliceE h3
 cases l<;>cases u<;>cases s<;>first|(cases h4;done)|(cases h4;exact⟨_,_,_,_,rfl,rfl⟩)
noncomputable def vSlT(v:Vw):Option (List Expr):=(vSub v).bind fun q=>(vSlice (vw q.2)).bind fun r=>match r with
 | (none,some l,none)=>some [q.1,l]
 |_=>none
theorem slTE{e:Expr}{es:List Expr}(h:vSlT (vw e)=some es):∃ a l p p2,es=[a,l]/\e = .Subscript a (.Slice none (some l) none p2) p:=by
 obtain⟨⟨a,b⟩,h1,h2⟩:=Option.bind_eq_some_iff.mp h
 obtain⟨⟨l,u,s⟩,h3,h4⟩:=Option.bind_eq_some_iff.mp h2
 obtain⟨p,rfl⟩:=subE h1
 obtain⟨p2,rfl⟩:=sliceE h3
 cases l<;>cases u<;>cases s<;>first|(cases h4;done)|(cases h4;exact⟨_,_,_,_,rfl,rfl⟩)
noncomputable def vSlB(v:Vw):Option (List Expr):=(vSub v).bind fun q=>(vSlice (vw q.2)).bind fun r=>match r with
 | (some l,some u,none)=>some [q.1,l,u]
 |_=>none
theorem slBE{e:Expr}{es:List Expr}(h:vSlB (vw e)=some es):∃ a l u p p2,es=[a,l,u]/\e = .Subscript a (.Slice (some l) (some u) none p2) p:=by
 obtain⟨⟨a,b⟩,h1,h2⟩:=Option.bind_eq_some_iff.mp h
 obtain⟨⟨l,u,s⟩,h3,h4⟩:=Option.bind_eq_some_iff.mp h2
 obtain⟨p,rfl⟩:=subE h1
 obtain⟨p2,rfl⟩:=sliceE h3
 cases l<;>cases u<;>cases s<;>first|(cases h4;done)|(cases h4;exact⟨_,_,_,_,_,rfl,rfl⟩)
noncomputable def vMaxd(sc:Scope):Vw->Option (List Expr)
 | .call f as kw _=>(vName (vw f)).bind fun x=>(l1 as).bind fun a=>(l1 kw).bind fun k=>k.arg.bind fun y=>if gl sc x && (isS x "max" && isS y "default") then some [a,k.value] else none
 |_=>none
theorem maxdE{sc:Scope}{e:Expr}{es:List Expr}(h:vMaxd sc (vw e)=some es):∃ a b pp kp p,es=[a,b]/\gl sc (Str.ofString "max")=true/\e = .Call (.Name (Str.ofString "max") pp) [a] [⟨some (Str.ofString "default"),b,kp⟩] p:=by
 have hv:=vw_ok e
 generalize vw e=v at h hv
 cases v<;>first|(cases h;done)|skip
 rename_i f as kw p
 cases(show e = .Call f as kw p from hv)
 obtain⟨x,h1,h⟩:=Option.bind_eq_some_iff.mp (show((vName (vw f)).bind _)=some es from h)
 obtain⟨u,h2,h⟩:=Option.bind_eq_some_iff.mp h
 obtain⟨⟨y,v,kp⟩,h3,h⟩:=Option.bind_eq_some_iff.mp h
 obtain⟨z,h4,h⟩:=Option.bind_eq_some_iff.mp h
 by_cases w:(gl sc x && (isS x "max" && isS z "default"))=true
 ·rw[if_pos w] at h
  cases h
  rw[Bool.and_eq_true,Bool.and_eq_true] at w
  obtain⟨w1,w2,w3⟩:=w
  obtain⟨pp,rfl⟩:=nameE h1
  cases l1_inv h2
  cases l1_inv h3
  cases(of_decide_eq_true w2:x=Str.ofString "max")
  cases(of_decide_eq_true w3:z=Str.ofString "default")
  cases(show y=some (Str.ofString "default") from h4)
  exact⟨_,_,pp,kp,p,rfl,w1,rfl⟩
 ·rw[if_neg w] at h
  cases h
noncomputable def vCh:Vw->Option (Expr × Expr × Expr)
 | .cmp a ops bs=>(l2 ops).bind fun o=>(l2 bs).bind fun q=>if o.1 = .LtE/\o.2 = .LtE then some (a,q.1,q.2) else none
 |_=>none
theorem chE{e a b c:Expr}(h:vCh (vw e)=some (a,b,c)):∃ p,e = .Compare a [.LtE,.LtE] [b,c] p:=by
 have hv:=vw_ok e
 generalize vw e=v at h hv
 cases v<;>first|(cases h;done)|skip
 rename_i x ops bs
 obtain⟨p,rfl⟩:=hv
 obtain⟨⟨o1,o2⟩,h1,h⟩:=Option.bind_eq_some_iff.mp (show((l2 ops).bind fun o=>(l2 bs).bind fun q=>if o.1=CmpOp.LtE/\o.2=CmpOp.LtE then some (x,q.1,q.2) else none)=some (a,b,c) from h)
 obtain⟨⟨u,v⟩,h2,h⟩:=Option.bind_eq_some_iff.mp h
 by_cases z:o1=CmpOp.LtE/\o2=CmpOp.LtE
 ·rw[if_pos z] at h
  cases h
  obtain⟨rfl,rfl⟩:=z
  cases l2_inv h1
  cases l2_inv h2
  exact⟨p,rfl⟩
 ·rw[if_neg z] at h
  cases h
noncomputable def opArgs(sc:Scope)(p:Prim)(v:Vw):Option (List Expr):=match p with
 | .add=>vBin .Add v
 | .sub=>vBin .Sub v
 | .mul=>vBin .Mult v
 | .fdiv=>vBin .FloorDiv v
 | .mod=>vBin .Mod v
 | .eq=>vCmp .Eq v
 | .ne=>vCmp .NotEq v
 | .lt=>vCmp .Lt v
 | .le=>vCmp .LtE v
 | .gt=>vCmp .Gt v
 | .ge=>vCmp .GtE v
 | .isN=>vCmp .Is v
 | .notN=>vCmp .IsNot v
 | .idx=>vIx v
 | .tup=>vTup v
 | .lst=>vLst v
 | .len=>vBlt sc "len" v
 | .tupleOf=>vBlt sc "tuple" v
 | .all=>vBlt sc "all" v
 | .sum=>vBlt sc "sum" v
 | .isInst T=>vIs sc T v
 | .strOf=>vBlt sc "str" v
 | .intOf=>vBlt sc "int" v
 | .innS=>vCmp .In v
 | .cutS=>vSlB v
 | .cutF=>vSlF v
 | .cutT=>vSlT v
 | .notinS=>vCmp .NotIn v
 | .lstR=>vLst v
 | .maxd=>vMaxd sc v
 |_=>none
noncomputable def vMt(m:String)(k:Nat)(v:Vw):Option (Expr × List Expr):=(vMeth v).bind fun q=>if isS q.2.1 m && decide (q.2.2.length=k) then some (q.1,q.2.2) else none
theorem mtE{m:String}{k:Nat}{e o:Expr}{es:List Expr}(h:vMt m k (vw e)=some (o,es)):es.length=k/\∃ ap cp,recvE o=true/\(ap.endLine == cp.line)=true/\e = .Call (.Attribute o (Str.ofString m) ap) es [] cp:=by
 obtain⟨⟨o',n,as⟩,h1,h2⟩:=Option.bind_eq_some_iff.mp h
 by_cases z:(isS n m && decide (as.length=k))=true
 ·rw[if_pos z] at h2
  cases h2
  rw[Bool.and_eq_true] at z
  cases(of_decide_eq_true z.1:n=Str.ofString m)
  exact⟨of_decide_eq_true z.2,methE h1⟩
 ·rw[if_neg z] at h2
  cases h2
noncomputable def methArgs(p:Prim)(v:Vw):Option (Expr × List Expr):=match p with
 | .append=>vMt "append" 1 v
 | .index=>vMt "index" 1 v
 | .extend=>vMt "extend" 1 v
 | .appR=>vMt "append" 1 v
 | .popR=>vMt "pop" 0 v
 | .join=>vMt "join" 1 v
 | .starts=>vMt "startswith" 1 v
 |_=>none
noncomputable def ofC:Const->Option G
 | .int j=>some (.int j)
 | .bool c=>some (.bl c)
 | .none=>some .non
 | .str y=>some (.str y.cps.toList)
 |_=>none
noncomputable def negC:Const->Option G
 | .int j=>some (.int (-j))
 |_=>none
noncomputable def cst(v:Vw):Option G:=match vCon v with
 |some c=>ofC c
 |none=>(vUn .USub v).bind fun a=>(vCon (vw a)).bind negC
noncomputable def okC:G->Bool
 | .str x=>okS x
 |_=>true
noncomputable def vBool(op:BoolOp):Vw->Option (Expr × Expr)
 | .bool o vs p=>(match vs with
  |x::y::r=>if o=op then some (x,if r.isEmpty then y else .BoolOp op (y::r) p) else none
  |_=>none)
 |_=>none
theorem boolE{op:BoolOp}{e x y:Expr}(h:vBool op (vw e)=some (x,y)):∃ p,e = .BoolOp op [x,y] p\/∃ u v r,y = .BoolOp op (u::v::r) p/\e = .BoolOp op (x::u::v::r) p:=by
 have hv:=vw_ok e
 generalize vw e=v at h hv
 cases v<;>first|(cases h;done)|skip
 rename_i o vs p
 cases(show e = .BoolOp o vs p from hv)
 cases vs with
 |nil=>cases h
 |cons a vs =>
  cases vs with
  |nil=>cases h
  |cons b r =>
   by_cases z:o=op
   ·subst z
    have h:(if o=o then some (a,if r.isEmpty then b else .BoolOp o (b::r) p) else none)=some (x,y):=h
    rw[if_pos rfl] at h
    cases r with
    |nil=>cases h;exact⟨p,.inl rfl⟩
    |cons c r=>cases h;exact⟨p,.inr ⟨b,c,r,rfl,rfl⟩⟩
   ·have h:(if o=op then some (a,if r.isEmpty then b else .BoolOp op (b::r) p) else none)=some (x,y):=h
    rw[if_neg z] at h
    cases h
noncomputable def vIf:Vw->Option (Expr × Expr × Expr)
 | .ife c a b=>some (c,a,b)
 |_=>none
theorem ifE{e c a b:Expr}(h:vIf (vw e)=some (c,a,b)):∃ p,e = .IfExp c a b p:=by
 have hv:=vw_ok e
 generalize vw e=v at h hv
 cases v<;>first|(cases h;done)|(cases h;exact hv)
noncomputable def vComp:Vw->Option (Expr × Comprehension × Scope × Pos)
 | .comp el gens scope p=>(l1 gens).map fun g=>(el,g,scope,p)
 |_=>none
theorem compE{e el:Expr}{g:Comprehension}{scope:Scope}{p:Pos}(h:vComp (vw e)=some (el,g,scope,p)):e = .ListComp el [g] scope p:=by
 have hv:=vw_ok e
 generalize vw e=v at h hv
 cases v<;>first|(cases h;done)|skip
 rename_i el' gens sc' p'
 obtain⟨g',h1,h2⟩:=Option.map_eq_some_iff.mp (show((l1 gens).map fun g=>(el',g,sc',p'))=some (el,g,scope,p) from h)
 cases h2
 cases l1_inv h1
 exact hv
noncomputable def relabS(sc scope:Scope):Scope:={scope with names:=scope.names.map fun(n,k)=>if (k == .free && sc.kind == .function && sc.names.lookup n == some .cell) then (n,.cell) else (n,k)}
noncomputable def capNames(N:List Str)(caps:List Nat):List Str:=caps.map fun i=>(N[i]?).getD ⟨#[]⟩
noncomputable def leP:Prim->Bool
 | .le=>true
 |_=>false
noncomputable def tgNames(e:Expr):Option (List Str):=match vName (vw e) with
 |some x=>some [x]
 |none=>(vTup (vw e)).bind fun es=>(l2 es).bind fun q=>(vName (vw q.1)).bind fun x=>(vName (vw q.2)).map fun y=>[x,y]
theorem tgE{e:Expr}{xs:List Str}(h:tgNames e=some xs):(∃ x p,xs=[x]/\e = .Name x p)\/∃ x y px py k p,xs=[x,y]/\e = .Tuple [.Name x px,.Name y py] k p:=by
 unfold tgNames at h
 cases c:vName (vw e) with
 |some x =>
  rw[c] at h
  cases h
  obtain⟨p,rfl⟩:=nameE c
  exact .inl ⟨x,p,rfl,rfl⟩
 |none =>
  rw[c] at h
  obtain⟨es,h1,h2⟩:=Option.bind_eq_some_iff.mp h
  obtain⟨⟨u,v⟩,h3,h4⟩:=Option.bind_eq_some_iff.mp h2
  obtain⟨x,h5,h6⟩:=Option.bind_eq_some_iff.mp h4
  obtain⟨y,h7,h8⟩:=Option.map_eq_some_iff.mp h6
  obtain⟨k,p,rfl⟩:=tupE h1
  cases l2_inv h3
  obtain⟨px,rfl⟩:=nameE h5
  obtain⟨py,rfl⟩:=nameE h7
  cases h8
  exact .inr ⟨x,y,px,py,k,p,rfl,rfl⟩
noncomputable def isTup(e:Expr):Bool:=(vTup (vw e)).isSome
noncomputable def compB(N:List Str)(sc:Scope)(xs:List Str)(caps:List Nat)(scope:Scope):Bool :=
 decide (scope.kind = .function) && scope.names.all (fun y=>decide (y.2 ≠ .cell)) && scope.names.all (fun y=>decide (y.2 = .local->scope.names.lookup y.1=some .local)) && xs.all (fun x=>decide (scope.names.lookup x=some .local)) &&
 scope.names.all (fun y=>decide (y.2 = .free->(sc.names.lookup y.1=some .cell\/sc.names.lookup y.1=some .free))) && decide ((xs++capNames N caps).Nodup) &&
 caps.all (fun i=>match N[i]? with
  |some y=>decide (scope.names.lookup y=some .free)
  |none=>false)
variable [Cl]
mutual
noncomputable def chkE(N:List Str)(sc:Scope):MP.Tm->Expr->Bool
 | .var i,e=>whenS (vName (vw e)) fun x=>decide (N[i]?=some x) && (visB sc x && (decide (x ≠ "__debug__") && decide (x ≠ "__classdict__")))
 | .con g,e=>decide (cst (vw e)=some g) && okC g
 | .glb f x,e=>whenS (vName (vw e)) fun y=>isS y f && (gl sc y && (decide (y ≠ "__debug__") && (decide (Cl.consts.lookup f=some x))))
 | .op p as,e=>whenS (opArgs sc p (vw e)) fun es=>chkAs N sc as es
 | .meth p a as,e=>whenS (methArgs p (vw e)) fun q=>chkE N sc a q.1 && chkAs N sc as q.2
 | .call f as,e=>whenS (vCallN (vw e)) fun q=>isS q.1 f && (gl sc q.1 && (decide (q.1 ≠ "__debug__") && chkAs N sc as q.2))
 | .andT a b,e=>whenS (vBool .And (vw e)) fun q=>chkE N sc a q.1 && chkE N sc b q.2
 | .orT a b,e=>whenS (vBool .Or (vw e)) fun q=>chkE N sc a q.1 && chkE N sc b q.2
 | .notT a,e=>whenS (vUn .Not (vw e)) fun x=>chkE N sc a x
 | .ifT c a b,e=>whenS (vIf (vw e)) fun q=>chkE N sc c q.1 && (chkE N sc a q.2.1 && chkE N sc b q.2.2)
 | .chain p q a b c,e=>whenS (vCh (vw e)) fun r=>leP p && (leP q && (notSet r.2.2 && (chkE N sc a r.1 && (chkE N sc b r.2.1 && chkE N sc c r.2.2))))
 | .comp k caps s conds elt,e=>whenS (vComp (vw e)) fun q=>whenS (tgNames q.2.1.target) fun xs=>decide (q.2.1.is_async=0) && (decide (xs.length=k) && (compB N sc xs caps q.2.2.1 && (notSet q.2.1.iter && (chkW N sc (isTup q.2.1.target) s q.2.1.iter &&
  (chkAs (xs++capNames N caps) (relabS sc q.2.2.1) conds q.2.1.ifs && chkE (xs++capNames N caps) (relabS sc q.2.2.1) elt q.1)))))
noncomputable def chkAs(N:List Str)(sc:Scope):Tms->List Expr->Bool
 | .nil,es=>es.isEmpty
 | .cons a as,es=>whenS es.head? fun e=>notStar e && (chkE N sc a e && chkAs N sc as es.tail)
noncomputable def chkW(N:List Str)(sc:Scope)(tup:Bool):Src->Expr->Bool
 | .over t,e=>chkE N sc t e
 | .range1 t,e=>whenS (vBlt sc "range" (vw e)) fun es=>whenS (l1 es) fun a=>notStar a && chkE N sc t a
 | .chars t,e=>chkE N sc t e
 |_,_=>false
end
end SN
namespace SN
open PySem PySem.Spec PyProof.Rows L2 MP
variable [Wd]
section
variable {X:Cx}
theorem sOf_dec(i:Int):sOf (dec i)=Str.ofString (toString i):=by
 rw[Str.ofString_eq_toList]
 rfl
theorem dec_len{i:Int}(h0:0<=i)(h1:i<1000000000):(dec i).length<=10:=by
 have:=PySem.W.KT.len_num h0 (n:=i) (by omega)
 rw[← sOf_dec,sOf_len] at this
 exact this
theorem dec_ok{i:Int}(h:(dec i).length<=16777216):okS (dec i)=true:=by
 refine okS_of h ?_
 simp only[dec,List.all_eq_true,List.mem_map]
 rintro c ⟨x,_,rfl⟩
 have:=x.valid
 refine decide_eq_true ?_
 show x.val.toNat<1114112
 rcases this with h | ⟨_,h⟩
 ·have:x.val.toNat<55296:=h
  omega
 ·exact h
theorem ok_strOf:OkN .strOf (fun xs H Q=>∃ i,xs=[.int i]/\i.natAbs.log2<1920/\Q (.str (Str.ofString (toString i))) H):=by
 intro ρ σ H xs vs r σ' Q S hx e q
 change pStrOf xs σ=_ at e
 match xs,hx,e with
 | [],_,e=>simp[pStrOf] at e
 |_::_::_,_,e=>simp[pStrOf] at e
 | [.ref _],_,e=>simp[pStrOf] at e
 | [.tr _],_,e=>simp[pStrOf] at e
 | [.g gx],hx,e =>
  obtain⟨v,rfl,hv⟩:=rrs1 hx
  cases gx with
  |int i =>
   simp only[pStrOf] at e
   split at e
   ·rename_i hi
    cases e
    cases hv
    have hl:=dec_len hi.1 hi.2
    refine⟨i,rfl,?_,?_⟩
    ·have:i.natAbs<2 ^ 1920:=Nat.lt_of_lt_of_le (show i.natAbs<1000000000 by omega) (by decide)
     by_cases hz:i.natAbs=0
     ·rw[hz];decide
     ·exact(Nat.log2_lt hz).mpr this
    ·rw[← sOf_dec]
     exact q.same S ⟨rfl,dec_ok (by omega)⟩
   ·cases e
  |_=>simp[pStrOf] at e
theorem call_intT:CallR X (.type "int") (fun xs H Q=>∃ i:Int,xs=[.str (Str.ofString (toString i))]/\0<=i/\i<10 ^ 10/\Q (.int i) H):=by
 intro pins s σ H xs us Q I r h
 obtain⟨i,rfl,h0,h1,q⟩:=h
 obtain⟨u,rfl,ru⟩:=vals1 r
 obtain⟨t,rfl⟩:=ru
 exact PySem.W.KIN.call_num h0 h1 ⟨.int i,H,I.tok _,⟨_,rfl⟩,q⟩
theorem ok_intOf:OkN .intOf (fun xs H Q=>∃ i:Int,xs=[.str (Str.ofString (toString i))]/\0<=i/\i<10 ^ 10/\Q (.int i) H):=by
 intro ρ σ H xs vs r σ' Q S hx e q
 change pIntOf xs σ=_ at e
 match xs,hx,e with
 | [],_,e=>simp[pIntOf] at e
 |_::_::_,_,e=>simp[pIntOf] at e
 | [.ref _],_,e=>simp[pIntOf] at e
 | [.tr _],_,e=>simp[pIntOf] at e
 | [.g gx],hx,e =>
  obtain⟨v,rfl,hv⟩:=rrs1 hx
  cases gx with
  |str x =>
   simp only[pIntOf] at e
   split at e
   ·rename_i hi
    cases e
    obtain⟨rfl,_⟩:=hv
    refine⟨valD x,by rw[← sOf_dec,hi.1],?_,by have:=hi.2;omega,q.same S rfl⟩
    unfold valD
    exact Int.natCast_nonneg _
   ·cases e
  |_=>simp[pIntOf] at e
theorem slice_run{xs:List Nat}{lo hi:Option Int}{a b:Nat}(hab:a<=b)(e:Builtin.Str.strSliceIndices lo hi 1 (sOf xs).length=(List.range (min b xs.length-min a xs.length)).map (min a xs.length + ·)):Txt.slice (sOf xs) lo hi=sOf ((xs.drop a).take (b-a)):=by
 have hp:=pick_run (sOf xs).cps (min a xs.length) (min b xs.length-min a xs.length)
 have hcp:(sOf xs).cps.toList=xs:=by simp[sOf]
 rw[hcp] at hp
 have hcut:(xs.drop (min a xs.length)).take (min b xs.length-min a xs.length)=(xs.drop a).take (b-a):=by
  by_cases ha:a<=xs.length
  ·rw[Nat.min_eq_left ha]
   by_cases hb:b<=xs.length
   ·rw[Nat.min_eq_left hb]
   ·rw[Nat.min_eq_right (by omega),List.take_of_length_le (by simp),List.take_of_length_le (by simp;omega)]
  ·rw[Nat.min_eq_right (by omega),Nat.min_eq_right (by omega)]
   simp[List.drop_eq_nil_of_le (show xs.length<=a by omega)]
 unfold Txt.slice
 rw[e]
 split
 ·rename_i hc
  simp only[List.length_map,List.length_range,beq_self_eq_true,Bool.true_and,beq_iff_eq,sOf_len] at hc
  have h3:(xs.drop a).take (b-a)=xs:=by
   rw[← hcut]
   have:min a xs.length=0/\min b xs.length=xs.length\/xs.length=0:=by omega
   rcases this with⟨h,h'⟩|h
   ·rw[h,h'];simp
   ·have:xs=[]:=List.length_eq_zero_iff.mp h
    subst this;simp
  rw[h3]
 ·rw[hp,hcut]
  simp[sOf]
theorem slice_is{xs:List Nat}{i j:Int}(h0:0<=i)(h1:i<=j):Txt.slice (sOf xs) (some i) (some j)=sOf ((xs.drop i.toNat).take (j.toNat-i.toNat)):=by
 obtain⟨a,rfl⟩:∃ a:Nat,i=a:=⟨i.toNat,by omega⟩
 obtain⟨b,rfl⟩:∃ b:Nat,j=b:=⟨j.toNat,by omega⟩
 refine slice_run (by omega) ?_
 rw[← sliceRange_one]
 unfold Builtin.Str.strSliceIndices
 simp only[show(1:Int) > 0 by decide,if_true,sOf_len]
 congr 1
 ·rw[if_neg (by omega)];simp only[Int.toNat_natCast];omega
 ·rw[if_neg (by omega)];simp only[Int.toNat_natCast];omega
theorem slice_from{xs:List Nat}{i:Int}(h0:0<=i):Txt.slice (sOf xs) (some i) none=sOf (xs.drop i.toNat):=by
 obtain⟨a,rfl⟩:∃ a:Nat,i=a:=⟨i.toNat,by omega⟩
 have h:=slice_run (xs:=xs) (lo:=some (a:Int)) (hi:=none) (a:=a) (b:=max a xs.length) (by omega) (by
  rw[← sliceRange_one]
  unfold Builtin.Str.strSliceIndices
  simp only[show(1:Int) > 0 by decide,if_true,sOf_len]
  congr 1
  ·rw[if_neg (by omega)];omega
  ·omega)
 rw[h,List.take_of_length_le (by simp;omega)]
 rfl
theorem slice_to{xs:List Nat}{i:Int}(h0:0<=i):Txt.slice (sOf xs) none (some i)=sOf (xs.take i.toNat):=by
 obtain⟨b,rfl⟩:∃ b:Nat,i=b:=⟨i.toNat,by omega⟩
 have h:=slice_run (xs:=xs) (lo:=none) (hi:=some (b:Int)) (a:=0) (b:=b) (by omega) (by
  rw[← sliceRange_one]
  unfold Builtin.Str.strSliceIndices
  simp only[show(1:Int) > 0 by decide,if_true,sOf_len]
  congr 1
  rw[if_neg (by omega)];omega)
 rw[h]
 rfl
noncomputable def rSlS:V->Option Int->Option Int->Hp->VK->Prop:=fun x lo hi H Q=>∃ z,x = .str z/\z.length<=sizeLine/\Q (.str (Txt.slice z lo hi)) H
theorem sl_str:SlR X rSlS:=by
 intro pins s σ H x v vl vu lo hi sl Q I rx hs pl pu h
 obtain⟨z,rfl,hz,q⟩:=h
 obtain⟨t,rfl⟩:=rx
 cases pl with
 |none =>
  cases pu with
  |none=>refine⟨"str",_,F.slot_str_getitem.lookup,typeIs_str _ _ _,wpAny_getItem_str_slice (l:=none) (u:=none) (st:=none) hs rfl (post_val_or_str ⟨Nat.le_trans (Txt.slice_le z _ _) hz,fun t' k=>⟨.str (Txt.slice z none none),H,I.tok _,⟨t',rfl⟩,q⟩⟩)⟩
  |int j tj=>refine⟨"str",_,F.slot_str_getitem.lookup,typeIs_str _ _ _,wpAny_getItem_str_slice (l:=none) (u:=some (j,tj)) (st:=none) hs rfl (post_val_or_str ⟨Nat.le_trans (Txt.slice_le z _ _) hz,fun t' k=>⟨.str (Txt.slice z none (some j)),H,I.tok _,⟨t',rfl⟩,q⟩⟩)⟩
 |int i ti =>
  cases pu with
  |none=>refine⟨"str",_,F.slot_str_getitem.lookup,typeIs_str _ _ _,wpAny_getItem_str_slice (l:=some (i,ti)) (u:=none) (st:=none) hs rfl (post_val_or_str ⟨Nat.le_trans (Txt.slice_le z _ _) hz,fun t' k=>⟨.str (Txt.slice z (some i) none),H,I.tok _,⟨t',rfl⟩,q⟩⟩)⟩
  |int j tj=>refine⟨"str",_,F.slot_str_getitem.lookup,typeIs_str _ _ _,wpAny_getItem_str_slice (l:=some (i,ti)) (u:=some (j,tj)) (st:=none) hs rfl (post_val_or_str ⟨Nat.le_trans (Txt.slice_le z _ _) hz,fun t' k=>⟨.str (Txt.slice z (some i) (some j)),H,I.tok _,⟨t',rfl⟩,q⟩⟩)⟩
theorem cps_of(x:List Nat):(sOf x).cps.toList=x:=by simp[sOf]
theorem ok_innS:Ok2 .innS (fun x y H Q=>∃ i j,x = .str i/\y = .str j/\Q (.bl (!(Builtin.Str.occurrences j i 0 j.length 1).isEmpty)) H):=by
 intro ρ σ H x y vx vy r σ' Q S hx hy e q
 change pInnS [x,y] σ=_ at e
 cases x with
 |ref _=>cases e
 |tr _=>cases e
 |g gx =>
  cases gx with
  |str cs =>
   cases cs with
   |nil=>cases e
   |cons c r =>
    cases r with
    |cons _ _=>cases e
    |nil =>
     cases y with
     |ref _=>cases e
     |tr _=>cases e
     |g gy =>
      cases gy with
      |str ys =>
       cases e
       obtain⟨rfl,_⟩:=hx
       obtain⟨rfl,_⟩:=hy
       refine⟨_,_,rfl,rfl,?_⟩
       have z:=StrLaws.found_one (sOf ys) c
       rw[cps_of] at z
       have z2:(!(Builtin.Str.occurrences (sOf ys) (sOf [c]) 0 (sOf ys).length 1).isEmpty)=ys.contains c:=by
        rw[List.contains_eq_mem]
        exact z
       rw[z2]
       exact q.same S rfl
      |_=>cases e
  |_=>cases e
theorem ok_notinS:Ok2 .notinS (fun x y H Q=>∃ i j,x = .str i/\y = .str j/\Q (.bl (!(!(Builtin.Str.occurrences j i 0 j.length 1).isEmpty))) H):=by
 intro ρ σ H x y vx vy r σ' Q S hx hy e q
 change pNotinS [x,y] σ=_ at e
 cases x with
 |ref _=>cases e
 |tr _=>cases e
 |g gx =>
  cases gx with
  |str cs =>
   cases cs with
   |nil=>cases e
   |cons c r =>
    cases r with
    |cons _ _=>cases e
    |nil =>
     cases y with
     |ref _=>cases e
     |tr _=>cases e
     |g gy =>
      cases gy with
      |str ys =>
       cases e
       obtain⟨rfl,_⟩:=hx
       obtain⟨rfl,_⟩:=hy
       refine⟨_,_,rfl,rfl,?_⟩
       have z:=StrLaws.found_one (sOf ys) c
       rw[cps_of] at z
       have z2:(!(Builtin.Str.occurrences (sOf ys) (sOf [c]) 0 (sOf ys).length 1).isEmpty)=ys.contains c:=by
        rw[List.contains_eq_mem]
        exact z
       rw[z2]
       exact q.same S rfl
      |_=>cases e
  |_=>cases e
theorem starts_is(x y:List Nat):Txt.startswith (sOf x) (sOf y)=y.isPrefixOf x:=by
 unfold Txt.startswith Builtin.Str.subAt
 rw[Bool.eq_iff_iff,List.isPrefixOf_iff_prefix,Bool.and_eq_true,decide_eq_true_eq,sOf_len,sOf_len,beq_iff_eq,Nat.zero_add]
 constructor
 ·rintro⟨h1,h2⟩
  have h3:=congrArg Array.toList h2
  rw[Array.toList_extract,cps_of,cps_of] at h3
  rw[List.prefix_iff_eq_take, ← h3]
  simp[List.extract]
 ·intro h
  refine⟨h.length_le,?_⟩
  apply Array.toList_inj.mp
  rw[Array.toList_extract,cps_of,cps_of]
  have:=List.prefix_iff_eq_take.mp h
  simp[List.extract]
  exact this.symm
theorem mt_starts:MtR X "str.startswith" (fun x vs H Q=>∃ a b,x = .str a/\vs=[.str b]/\Q (.bl (Txt.startswith a b)) H):=by
 intro pins s σ H x vs v us Q I rx rv h
 obtain⟨a,b,rfl,rfl,q⟩:=h
 obtain⟨t,rfl⟩:=rx
 obtain⟨u,rfl,ru⟩:=rv.one
 obtain⟨t2,rfl⟩:=ru
 exact SC.startswith ⟨.bl _,H,I,rfl,q⟩
theorem recv_str{K:PySem.W.Frag}{p:Prim}(hp:p = .join\/p = .starts)(ρ:Nat->Addr)(σ:Store)(H:Hp)(x:R)(v:V)(_:SR H ρ σ)(hv:RR H ρ σ.length x v)(h:recvOk p x σ=true):tyV K "str" v H:=by
 cases x with
 |tr _=>cases h
 |ref k =>
  rcases hp with rfl|rfl<;>simp[recvOk] at h
 |g gx =>
  cases gx with
  |str z =>
   obtain⟨rfl,_⟩:=hv
   exact rfl
  |_=>cases h
theorem okm_starts{K:PySem.W.Frag}:OkM K "str" .starts (fun x vs H Q=>∃ a b,x = .str a/\vs=[.str b]/\Q (.bl (Txt.startswith a b)) H):=by
 refine⟨recv_str (.inr rfl),fun ρ σ H x xs v vs r σ' Q S hx hxs e q => ?_⟩
 change pStarts (x::xs) σ=_ at e
 cases x with
 |ref _=>cases e
 |tr _=>cases e
 |g gx =>
  cases gx with
  |str a =>
   cases xs with
   |nil=>cases e
   |cons y r =>
    cases r with
    |cons _ _=>cases y with
     |g gy=>cases gy<;>cases e
     |_=>cases e
    |nil =>
     obtain⟨w,rfl,hw⟩:=rrs1 hxs
     cases y with
     |ref _=>cases e
     |tr _=>cases e
     |g gy =>
      cases gy with
      |str b =>
       cases e
       obtain⟨rfl,_⟩:=hx
       obtain⟨rfl,_⟩:=hw
       refine⟨_,_,rfl,rfl,?_⟩
       rw[starts_is]
       exact q.same S rfl
      |_=>cases e
  |_=>cases e
theorem join_is(sep:List Nat):∀ ys:List (List Nat),Txt.join (sOf sep) (ys.map sOf)=sOf (joinL sep ys):=by
 intro ys
 show Builtin.Str.glued _ _=_
 rw[StrLaws.glued_eq_join]
 have app:∀ a b:List Nat,sOf a++sOf b=sOf (a++b):=fun a b=>by
  show Str.mk ((sOf a).cps++(sOf b).cps)=_
  simp[sOf]
 induction ys with
 |nil=>rfl
 |cons x r ih =>
  cases r with
  |nil=>rfl
  |cons y r =>
   show sOf x++sOf sep++Str.join (sOf sep) ((y::r).map sOf)=_
   rw[ih,app,app]
   rfl
theorem strs_of:∀ {xs:List G} {ys:List (List Nat)} {H:Hp} {vs:List V} {us:List Value},strsOf xs=some ys->RGs H xs vs->Vals vs us->StrsAre us (ys.map sOf)
 | [],ys,H,vs,us,h,r,w=>by
  cases h
  cases r
  cases w
  exact .nil
 |x::xs,ys,H,vs,us,h,r,w=>by
  cases x with
  |str z =>
   obtain⟨zs,h1,h2⟩:=Option.map_eq_some_iff.mp (show(strsOf xs).map (z :: ·)=some ys from h)
   cases h2
   obtain⟨v,r',rfl,⟨rfl,ho⟩,r2⟩:=r
   cases w with
   |cons a w =>
    obtain⟨t,rfl⟩:=a
    exact .cons _ _ (strs_of h1 r2 w)
  |_=>cases h
theorem lens_is:∀ ys:List (List Nat),((ys.map sOf).map (·.length)).sum=lens ys
 | []=>rfl
 |x::r=>by simp[lens,sOf_len, ← lens_is r]
theorem joinL_len(sep:List Nat):∀ ys:List (List Nat),(joinL sep ys).length<=lens ys+ys.length*sep.length
 | []=>by simp[joinL]
 | [x]=>by simp[joinL,lens]
 |x::y::r=>by
  have:=joinL_len sep (y::r)
  simp only[joinL,lens,List.length_append,List.length_cons] at this ⊢
  have e:(r.length+1+1)*sep.length=(r.length+1)*sep.length+sep.length:=Nat.succ_mul _ _
  omega
theorem joinL_all{q:Nat->Bool}(sep:List Nat)(hs:sep.all q=true):∀ ys:List (List Nat),(∀ y∈ys,y.all q=true)->(joinL sep ys).all q=true
 | [],_=>rfl
 | [x],h=>h x List.mem_cons_self
 |x::y::r,h=>by
  have:=joinL_all sep hs (y::r) fun z hz=>h z (List.mem_cons_of_mem _ hz)
  simp only[joinL,List.all_append,Bool.and_eq_true]
  exact⟨⟨h x List.mem_cons_self,hs⟩,this⟩
noncomputable def rJoin:V->List V->Hp->VK->Prop:=fun x vs H Q=>∃ sep l xs ys ws,x = .str (sOf sep)/\vs=[.ref l]/\H l=some (.lst ws)/\RGs H xs ws/\strsOf xs=some ys/\lens ys+ys.length*sep.length<=16777216/\Q (.str (sOf (joinL sep ys))) H
theorem mt_join:MtR X "str.join" rJoin:=by
 intro pins s σ H x vs v us Q I rx rv h
 obtain⟨sep,l,xs,ys,ws,rfl,rfl,hl,hg,hs,hb,q⟩:=h
 obtain⟨t,rfl⟩:=rx
 obtain⟨u,rfl,ru⟩:=rv.one
 cases ru
 obtain⟨its,r1,p,hz⟩:=I.list (SqL.of hl)
 refine join_list p.isList (strs_of hs hg r1) (by rw[lens_is,List.length_map,sOf_len];exact hb) fun t' k => ?_
 rw[join_is]
 exact⟨.str _,H,I.tok _,⟨t',rfl⟩,q⟩
theorem okY:∀ {xs:List G} {ys:List (List Nat)} {H:Hp} {vs:List V},RGs H xs vs->strsOf xs=some ys->∀ y∈ys,okS y=true
 | [],ys,H,vs,_,h,y,hy=>by cases h;cases hy
 |x::xs,ys,H,vs,r,h,y,hy=>by
  cases x with
  |str z =>
   obtain⟨zs,h1,h2⟩:=Option.map_eq_some_iff.mp (show(strsOf xs).map (z :: ·)=some ys from h)
   cases h2
   obtain⟨v,r',rfl,⟨rfl,ho⟩,r2⟩:=r
   cases hy with
   |head=>exact ho
   |tail _ hy=>exact okY r2 h1 y hy
  |_=>cases h
theorem okm_join{K:PySem.W.Frag}:OkM K "str" .join rJoin:=by
 refine⟨recv_str (.inl rfl),fun ρ σ H x xs v vs r σ' Q S hx hxs e q => ?_⟩
 change pJoin (x::xs) σ=_ at e
 cases x with
 |ref _=>cases e
 |tr _=>cases e
 |g gx =>
  cases gx with
  |str sep =>
   cases xs with
   |nil=>cases e
   |cons y r' =>
    cases r' with
    |cons _ _=>cases y<;>cases e
    |nil =>
     obtain⟨w,rfl,hw⟩:=rrs1 hxs
     cases y with
     |g _=>cases e
     |tr _=>cases e
     |ref k =>
      obtain⟨hk,rfl⟩:=hw
      obtain⟨rfl,hso⟩:=hx
      have e:(match σ[k]? with|some (.lst xs)=>ofO (strsOf xs) fun ys=>if lens ys+ys.length*sep.length<=big then okG (.str (joinL sep ys)) σ else .stuck|_=>.stuck)=Res.ok r σ':=e
      cases c:σ[k]? with
      |none=>rw[c] at e;cases e
      |some cell =>
       rw[c] at e
       cases cell with
       |lst gs =>
        obtain⟨ys,e1,e2⟩:=ofO_inv e
        by_cases hb:lens ys+ys.length*sep.length<=big
        ·rw[if_pos hb] at e2
         cases e2
         obtain⟨ws,h1,h2⟩:=S.lst c
         have hb':lens ys+ys.length*sep.length<=16777216:=Nat.le_trans hb (by decide)
         refine⟨sep,_,gs,ys,ws,rfl,rfl,h1,h2,e1,hb',q.same S ⟨rfl,okS_of (Nat.le_trans (joinL_len sep ys) hb') (joinL_all sep (okS_all hso) ys ?_)⟩⟩
         exact fun y hy=>okS_all (okY h2 e1 y hy)
        ·rw[if_neg hb] at e2;cases e2
       |_=>cases e
  |_=>cases e
theorem cutS_inv{x y z:R}{σ σ':Store}{r:R}(h:prim .cutS [x,y,z] σ = .ok r σ'):∃ cs i j,x = .g (.str cs)/\y = .g (.int i)/\z = .g (.int j)/\0<=i/\i<=j/\r = .g (.str ((cs.drop i.toNat).take (j.toNat-i.toNat)))/\σ'=σ:=by
 change pCutS [x,y,z] σ=_ at h
 cases x with
 |g gx =>
  cases gx with
  |str cs =>
   cases y with
   |g gy =>
    cases gy with
    |int i =>
     cases z with
     |g gz =>
      cases gz with
      |int j =>
       by_cases c:0<=i/\i<=j
       ·have h:(if 0<=i/\i<=j then okG (.str ((cs.drop i.toNat).take (j.toNat-i.toNat))) σ else .stuck)=Res.ok r σ':=h
        rw[if_pos c] at h
        cases h
        exact⟨cs,i,j,rfl,rfl,rfl,c.1,c.2,rfl,rfl⟩
       ·have h:(if 0<=i/\i<=j then okG (.str ((cs.drop i.toNat).take (j.toNat-i.toNat))) σ else .stuck)=Res.ok r σ':=h
        rw[if_neg c] at h
        cases h
      |_=>cases h
     |_=>cases h
    |_=>cases h
   |_=>cases h
  |_=>cases h
 |_=>cases h
theorem cutF_inv{x y:R}{σ σ':Store}{r:R}(h:prim .cutF [x,y] σ = .ok r σ'):∃ cs i,x = .g (.str cs)/\y = .g (.int i)/\0<=i/\r = .g (.str (cs.drop i.toNat))/\σ'=σ:=by
 change pCutF [x,y] σ=_ at h
 cases x with
 |g gx =>
  cases gx with
  |str cs =>
   cases y with
   |g gy =>
    cases gy with
    |int i =>
     have h:(if 0<=i then okG (.str (cs.drop i.toNat)) σ else .stuck)=Res.ok r σ':=h
     by_cases c:0<=i
     ·rw[if_pos c] at h
      cases h
      exact⟨cs,i,rfl,rfl,c,rfl,rfl⟩
     ·rw[if_neg c] at h
      cases h
    |_=>cases h
   |_=>cases h
  |_=>cases h
 |_=>cases h
theorem cutT_inv{x y:R}{σ σ':Store}{r:R}(h:prim .cutT [x,y] σ = .ok r σ'):∃ cs i,x = .g (.str cs)/\y = .g (.int i)/\0<=i/\r = .g (.str (cs.take i.toNat))/\σ'=σ:=by
 change pCutT [x,y] σ=_ at h
 cases x with
 |g gx =>
  cases gx with
  |str cs =>
   cases y with
   |g gy =>
    cases gy with
    |int i =>
     have h:(if 0<=i then okG (.str (cs.take i.toNat)) σ else .stuck)=Res.ok r σ':=h
     by_cases c:0<=i
     ·rw[if_pos c] at h
      cases h
      exact⟨cs,i,rfl,rfl,c,rfl,rfl⟩
     ·rw[if_neg c] at h
      cases h
    |_=>cases h
   |_=>cases h
  |_=>cases h
 |_=>cases h
theorem okS_sz{x:List Nat}(h:okS x=true):x.length<=sizeLine:=Nat.le_trans (okS_len h) (by rw[sizeLine_eq];decide)
theorem okS_cut{x:List Nat}{i j:Nat}(h:okS x=true):okS ((x.drop i).take j)=true:=by
 have hl:=okS_len h
 refine okS_of (by rw[List.length_take,List.length_drop];omega) ?_
 rw[List.all_eq_true]
 intro c hc
 exact List.all_eq_true.mp (okS_all h) c (List.mem_of_mem_drop (List.mem_of_mem_take hc))
theorem okS_drop{x:List Nat}{i:Nat}(h:okS x=true):okS (x.drop i)=true:=by
 have:=okS_cut (i:=i) (j:=x.length) h
 rwa [List.take_of_length_le (by simp)] at this
theorem okS_take{x:List Nat}{i:Nat}(h:okS x=true):okS (x.take i)=true:=okS_cut (i:=0) (j:=i) h
end
end SN
namespace PySem
namespace EN
open AutoSeq1 (wpAny_loadPart')
section
variable {prog:Program}{w:World}{A:Around}{E:Value->Shared->Prop}{s:Shared}
end
end EN
end PySem
namespace SN
open PySem PySem.Spec PyProof.Rows L2 MP
section
variable {prog:Program}{w:World}{A:Around}
noncomputable def Bst:Option Int->Array Value->Prop
 |none,arr=>arr = #[]
 |some b,arr=>∃ t,arr = #[.int b t,.int b t]
noncomputable def Rs(d:Option Value):Option Int->List Int->Value->Prop
 |none,[],v=>d=some v
 |none,x::r,v=>∃ t,v = .int (maxL x r) t
 |some b,r,v=>∃ t,v = .int (maxL b r) t
noncomputable def better(x:Int):Option Int->Int
 |none=>x
 |some b=>if x > b then x else b
noncomputable def kwD(d:Option Value):List (Str × Value):=d.toList.map fun d=>("default",d)
theorem Rs.step{d:Option Value}{m:Option Int}{x:Int}{r:List Int}{v:Value}(h:Rs d (some (better x m)) r v):Rs d m (x::r) v:=by
 cases m<;>exact h
theorem nm_max:(toString "max"++toString ".loop":String)="max.loop":=by decide
theorem max_loop{R:Result->Shared->Prop}{I l S:Addr}{its:List Value}{is:List Int}{d:Option Value}(hd:d=none->is ≠ [])(hh:A.in1.handled=none)(h1:l≠I)(h2:S≠I)(h3:S≠l)(hv:∀ (j:Nat) (v:Value),its[j]?=some v->∃ t,v = .int (is.getD j 0) t)(hn:its.length=is.length) :
 ∀ (k j:Nat) (s:Shared) (m:Option Int) (arr:Array Value) (c:Nat),is.length=j+k->(m=none->j=0)->s.heap.IsListIter I l j->s.heap.IsList l its.toArray->s.heap.get? S=some {cls:=.type "list",dict:=none,data:=.seq arr c,slots := #[]}->Bst m arr →
  (∀ v h' tk,Rs d m (is.drop j) v->(∀ b o,b≠I->b≠S->s.heap.get? b=some o->h'.get? b=some o)->R (.ok (.ret v)) {s with heap:=h',toks:=tk}) →
  codeAny (model prog w) A (.builtin "max.loop" ⟨[.ref I,.none,.ref S],kwD d⟩) R s:=by
 have Wk:=Walks.list (prog:=prog) (w:=w) (A:=A.in1) hh I l h1 its.toArray
 have hsz:its.toArray.size=is.length:=by simpa using hn
 intro k
 induction k with
 |zero =>
  intro j s m arr c hk hm st hl hS hb q
  have hdr:is.drop j=[]:=List.drop_eq_nil_of_le (by omega)
  rw[hdr] at q
  refine codeAny_builtin F.entry_max_loop (by
   rw[Around.under_plainId F.plain_max_loop]
   show wpAny _ _ (seqItems? (.ref S) >>= _) _ _ _
   refine wpAny_bind (wpAny_seqItems hS rfl ?_)
   show wpAny _ _ (tryCatch (pyNext (.ref I)) _ >>= _) _ _ _
   refine wpAny_bind (wpAny_tryCatch (Wk.done s _ _ (by rw[hsz];rw[show is.length=j by omega];exact⟨st,hl⟩) fun h' tk kk => ?_))
   have hS':=kk S _ (by simpa using h2) hS
   cases m with
   |none =>
    cases hb
    cases d with
    |none=>exact absurd (List.length_eq_zero_iff.mp (by have:=hm rfl;omega)) (hd rfl)
    |some d=>exact wpAny_bind (wpAny_rule (wpAny_pure (q d h' tk rfl fun b o n1 _ e=>kk b o (by simpa using n1) e)))
   |some b =>
    obtain⟨t,rfl⟩:=hb
    show wpAny _ _ (updateSeq S (fun _ => #[]) >>= _) _ _ _
    refine wpAny_bind (wpAny_updateSeq hS' rfl (wpAny_bind (wpAny_letGo (wpAny_pure ?_))))
    exact q _ _ tk ⟨t,rfl⟩ fun b o n1 n2 e=>(Heap.get?_update_other _ _ (Ne.symm n2)).trans (kk b o (by simpa using n1) e))
 |succ k ih =>
  intro j s m arr c hk hm st hl hS hb q
  obtain⟨x,r,hdr⟩:∃ x r,is.drop j=x::r:=by
   cases hdr:is.drop j with
   |nil=>have:=congrArg List.length hdr;simp at this;omega
   |cons x r=>exact⟨x,r,rfl⟩
  have hx:is.getD j 0=x:=by
   have:=congrArg (fun l=>l[0]?) hdr
   simp only[List.getElem?_drop,Nat.add_zero,List.getElem?_cons_zero] at this
   simp[List.getD,this]
  have hr:is.drop (j+1)=r:=by
   have:=congrArg List.tail hdr
   simpa[List.tail_drop] using this
  rw[hdr] at q
  refine codeAny_builtin F.entry_max_loop (by
   rw[Around.under_plainId F.plain_max_loop]
   show wpAny _ _ (seqItems? (.ref S) >>= _) _ _ _
   refine wpAny_bind (wpAny_seqItems hS rfl ?_)
   show wpAny _ _ (tryCatch (pyNext (.ref I)) _ >>= _) _ _ _
   refine wpAny_bind (wpAny_tryCatch (Wk.item j s _ _ (by omega) ⟨st,hl⟩ fun v h' tk hP st' kk => ?_))
   obtain⟨t,rfl⟩:=hv j v (by simpa using hP)
   rw[hx]
   have hS':=kk S _ (by simpa using h2) hS
   have go:∀ (b:Int) (arr':Array Value) (c':Nat) (g:Heap),Bst (some b) arr'->b=better x m->g.get? S=some {cls:=.type "list",dict:=none,data:=.seq arr' c',slots := #[]}->(∀ a o,a≠S->h'.get? a=some o->g.get? a=some o) →
    codeAny (model prog w) A (.builtin "max.loop" ⟨[.ref I,.none,.ref S],kwD d⟩) R {s with heap:=g,toks:=tk}:=fun b arr' c' g hb' eb hg kg=>by
    refine ih (j+1) _ (some b) arr' c' (by omega) (fun z=>by cases z) (st'.1.at fun o e=>kg I o (Ne.symm h2) e) (st'.2.at fun o e=>kg l o (Ne.symm h3) e) hg hb' fun v' h'' tk'' hq k2 => ?_
    rw[hr,eb] at hq
    exact q v' h'' tk'' hq.step fun a o n1 n2 e=>k2 a o n1 n2 (kg a o n2 (kk a o (by simpa using n1) e))
   cases m with
   |none =>
    cases hb
    show wpAny _ _ (updateSeq S (fun _ => #[.int x t,.int x t]) >>= _) _ _ _
    refine wpAny_bind (wpAny_updateSeq hS' rfl ?_)
    rw[nm_max]
    exact wpAny_pure ⟨plainId_quiet F.plain_max_loop _,go x _ _ _ ⟨t,rfl⟩ rfl (Heap.get?_update_self _ hS' rfl) fun a o n e=>(Heap.get?_update_other _ _ (Ne.symm n)).trans e⟩
   |some b =>
    obtain⟨u,rfl⟩:=hb
    show wpAny _ _ (tryCatch (holding [.int x t,.int x t] (richCompare .Gt (.int x t) (.int b u) >>= _)) _ >>= _) _ _ _
    refine wpAny_bind (wpAny_tryCatch (wpAny_holding (wpAny_bind (CmpOf.ints_gt (P:=fun i v=>v=if i=0 then .int x t else .int b u) (fun i=>if i=0 then x else b) (fun i v e=>by subst e;split<;>exact⟨_,rfl⟩) 0 1 _ _ _ _ _ rfl rfl ?_))))
    refine wpAny_bind (wpAny_holding (wpAny_truthy_bool ?_))
    refine wpAny_bind (wpAny_letGo (wpAny_pure ?_))
    by_cases hxb:x > b
    ·simp only[hxb,if_true,decide_true,Nat.one_ne_zero,if_false]
     refine wpAny_bind (wpAny_updateSeq hS' rfl (wpAny_bind (wpAny_letGo ?_)))
     rw[nm_max]
     exact wpAny_pure ⟨plainId_quiet F.plain_max_loop _,go x _ _ _ ⟨t,rfl⟩ (by simp[better,hxb]) (Heap.get?_update_self _ hS' rfl) fun a o n e=>(Heap.get?_update_other _ _ (Ne.symm n)).trans e⟩
    ·simp only[hxb,if_true,decide_false,Nat.one_ne_zero,if_false]
     refine wpAny_bind (wpAny_letGo ?_)
     rw[nm_max]
     exact wpAny_pure ⟨plainId_quiet F.plain_max_loop _,go b _ c _ ⟨u,rfl⟩ (by simp[better,hxb]) hS' fun a o _ e=>e⟩)
theorem chk_maxd(a:Value)(d:Option Value):checkBuiltinCall "max" ⟨[a],kwD d⟩=pure ():=by cases d<;>kernel_rfl
theorem bind_maxd(d:Option Value):Builtin.Builtins.bindParams "max" ["key","default"] 0 ⟨[],kwD d⟩=pure [none,d]:=by cases d<;>rfl
theorem call_maxd{s:Shared}{E:Value->Shared->Prop}{Q:Value->Shared->Prop}{l:Addr}{its:List Value}{is:List Int}{d:Option Value}(hd:d=none->is ≠ [])(hh:A.handled=none)(hl:s.heap.IsList l its.toArray)(hv:∀ (j:Nat) (v:Value),its[j]?=some v->∃ t,v = .int (is.getD j 0) t)(hn:its.length=is.length)
 (q:∀ v h' tk,Rs d none is v->(∀ b o,s.heap.get? b=some o->h'.get? b=some o)->Q v {s with heap:=h',toks:=tk}):wpAny (model prog w) A (call (.builtin "max") [.ref l] (kwD d)) Q E s:=by
 refine wpAny_call (codeAny_call_builtin F.plain_max F.entry_max (wpAny_of_eq (chk_maxd _ d) ?_))
 show wpAny _ _ (Builtin.Builtins.bindParams "max" ["key","default"] 0 ⟨[],kwD d⟩ >>= _) _ _ _
 refine wpAny_bind (wpAny_of_eq (bind_maxd d) (wpAny_bind (wpAny_pure ?_)))
 have hlt:l<s.heap.objs.size:=by obtain⟨_,e,_⟩:=hl;exact Heap.lt_size e
 refine wpAny_bind (wpAny_pyIter_list hl (wpAny_bind (wpAny_newObj_type ?_)))
 rw[nm_max]
 have hsz:∀ (h:Heap) (o:Obj),(h.push o).objs.size=h.objs.size+1:=fun h o=>Heap.size_push ..
 refine wpAny_pure ⟨plainId_quiet F.plain_max_loop _,max_loop hd hh (Nat.ne_of_lt hlt) (by rw[hsz];exact Nat.succ_ne_self _) (by rw[hsz];exact Nat.ne_of_gt (Nat.lt_succ_of_lt hlt)) hv hn is.length 0 _ none #[] 0 (by omega) (fun _=>rfl) ⟨_,Heap.get?_push_of_some _ (Heap.get?_push_size _ rfl),rfl,rfl⟩ ((hl.push _).push _) (Heap.get?_push_size _ rfl) rfl fun v h' tk hr kk => ?_⟩
 exact q v h' tk hr fun b o e=>kk b o (Nat.ne_of_lt (Heap.lt_size e)) (by rw[hsz];exact Nat.ne_of_lt (Nat.lt_succ_of_lt (Heap.lt_size e))) (Heap.get?_push_of_some _ (Heap.get?_push_of_some _ e))
end
variable [Wd]
section
variable {X:Cx}
theorem vals_at{is:List Int}{us:List Value}(h:Vals (is.map V.int) us):(∀ (j:Nat) (v:Value),us[j]?=some v->∃ t,v = .int (is.getD j 0) t)/\us.length=is.length:=by
 have hl:us.length=is.length:=by have:=h.length;simpa using this.symm
 refine⟨fun j v e => ?_,hl⟩
 have hj:j<is.length:=by rw[← hl];exact(List.getElem?_eq_some_iff.mp e).1
 obtain⟨u,e2,r⟩:=h.get (i:=j) (x:=.int is[j]) (by simp[hj])
 rw[e] at e2
 cases e2
 obtain⟨t,rfl⟩:=r
 exact⟨t,by simp[List.getD,hj]⟩
noncomputable def rMax1:List V->Hp->VK->Prop:=fun xs H Q=>∃ a i is,xs=[V.ref a]/\H a=some (.lst ((i::is).map V.int))/\Q (.int (maxL i is)) H
theorem ok_max1:OkN .max1 rMax1:=by
 intro ρ σ H xs vs r σ' Q S hx e q
 change pMax1 xs σ=_ at e
 match xs,hx,e with
 | [],_,e=>cases e
 |x::_::_,_,e=>cases x<;>cases e
 | [.g _],_,e=>cases e
 | [.tr _],_,e=>cases e
 | [.ref k],hx,e =>
  obtain⟨v,rfl,hk,rfl⟩:=rrs1 hx
  have e:(match σ[k]? with|some (.lst xs)=>(match intsOf xs with|some (i::is)=>okG (.int (maxL i is)) σ|_=>.stuck)|_=>.stuck)=Res.ok r σ':=e
  cases c:σ[k]? with
  |none=>rw[c] at e;cases e
  |some cell =>
   rw[c] at e
   cases cell with
   |lst ys =>
    cases d:intsOf ys with
    |none=>simp only[d] at e;cases e
    |some is =>
     simp only[d] at e
     cases is with
     |nil=>cases e
     |cons i is =>
      cases e
      obtain⟨ws,h1,h2⟩:=S.lst c
      have:=intsV h2 d
      subst this
      exact⟨_,i,is,rfl,h1,q.same S rfl⟩
   |_=>cases e
theorem maxd_inv{x y:R}{σ σ':Store}{r:R}(h:prim .maxd [x,y] σ = .ok r σ'):∃ k gs is d,x = .ref k/\y = .g d/\σ[k]?=some (.lst gs)/\intsOf gs=some is/\σ'=σ/\(match is with
 | []=>r = .g d
 |i::is=>r = .g (.int (maxL i is))):=by
 change pMaxd [x,y] σ=_ at h
 cases x with
 |g _=>cases h
 |tr _=>cases h
 |ref k =>
  cases y with
  |ref _=>cases h
  |tr _=>cases h
  |g d =>
   have h:(match σ[k]? with|some (.lst xs)=>(match intsOf xs with|some (i::is)=>okG (.int (maxL i is)) σ|some []=>okG d σ|none=>.stuck)|_=>.stuck)=Res.ok r σ':=h
   cases c:σ[k]? with
   |none=>rw[c] at h;cases h
   |some cell =>
    rw[c] at h
    cases cell with
    |lst gs =>
     cases e:intsOf gs with
     |none=>simp only[e] at h;cases h
     |some is =>
      simp only[e] at h
      cases is with
      |nil=>cases h;exact⟨k,gs,[],d,rfl,rfl,c,e,rfl,rfl⟩
      |cons i is=>cases h;exact⟨k,gs,i::is,d,rfl,rfl,c,e,rfl,rfl⟩
    |_=>cases h
end
end SN
namespace SN
open PySem PySem.Spec PyProof.Rows L2 MP
section
variable {X:Cx}{pins:List (Addr × Obj)}{σ:L2.St}{H:Hp}{s:Shared}
end
end SN
namespace PySem
namespace ZT
variable {prog:Program}{w:World}{A:Around}{E:Value->Shared->Prop}{s:Shared}
theorem drawT{I T:Addr}{k:Nat}{vs:Array Value}{v:Value}{Q:Value->Shared->Prop}(pI:s.heap.IsTupleIter I T k)(pT:s.heap.IsTuple T vs)(e:vs[k]?=some v)
 (q:∀ g,g.IsTupleIter I T (k+1)->Heap.SameBut I s.heap g->Q v {s with heap:=g}):wpAny (model prog w) A (Builtin.SmallTypes.nextOf (.ref I)) Q E s:=by
 obtain⟨r,hr,cr,dr⟩:=id pI
 obtain⟨rt,hrt,_,n,drt⟩:=pT
 unfold Builtin.SmallTypes.nextOf
 refine wpAny_bind (wpAny_callSpecial?_slot (name:=Str.ofString "__next__") pI.typeIs F.slot_tuple_iterator_next (wpAny_call_entry F.slot_tuple_iterator_next pI.typeIs F.entry_tuple_iterator_next ?_ (F.args_tuple_iterator_next_1 _)))
 show wpAny _ _ (field (.ref I) 0 >>= _) _ _ s
 refine wpAny_bind (wpAny_field hr dr (x:=.ref T) rfl ?_)
 show wpAny _ _ (if (Value.ref T == Value.none)=true then _ else _) _ _ s
 rw[if_neg (fun z:(Value.ref T == Value.none)=true=>Bool.false_ne_true z)]
 show wpAny _ _ (field (.ref I) 1 >>= _) _ _ s
 refine wpAny_bind (wpAny_field hr dr (x:=.int k 0) rfl ?_)
 show wpAny _ _ (seqItems? (.ref T) >>= _) _ _ s
 refine wpAny_bind (wpAny_seqItems hrt drt ?_)
 simp only[Int.toNat_natCast,e]
 refine wpAny_bind (wpAny_setField hr dr (by simp) (wpAny_pure ⟨v,rfl,wpAny_pure (q _ ⟨_,Heap.get?_update_self _ hr (Obj.isFreed_of_fields (Obj.data_mapFields dr _)),(Obj.cls_mapFields ..).trans cr,?_⟩ (Heap.SameBut.update ..))⟩))
 rw[Obj.data_mapFields dr]
 simp[rawInt]
structure At(h:Heap)(z a b i1 i2 t1 t2:Addr)(k:Nat)(xs ys:Array Value)(f:Value):Prop where
 zp:IsZip h z a b f
 its:IsPair h a (.ref i1) (.ref i2)
 own:∃ u v,IsPair h b u v
 p1:h.IsTupleIter i1 t1 k
 p2:h.IsTupleIter i2 t2 k
 q1:h.IsTuple t1 xs
 q2:h.IsTuple t2 ys
theorem tup_at{h g:Heap}{t:Addr}{vs:Array Value}(p:h.IsTuple t vs)(e:∀ o,h.get? t=some o->g.get? t=some o):g.IsTuple t vs:=let ⟨o,ho,r⟩:=p;⟨o,e _ ho,r⟩
theorem next{z a b i1 i2 t1 t2:Addr}{k:Nat}{xs ys:Array Value}{x y:Value}{Q:Value->Shared->Prop}(D:ZipApart z a b i1 i2 t1 t2)(p:At s.heap z a b i1 i2 t1 t2 k xs ys .none)(ex:xs[k]?=some x)(ey:ys[k]?=some y)
 (q:∀ g,At g z a b i1 i2 t1 t2 (k+1) xs ys (rawInt s.heap.objs.size)->IsPair g s.heap.objs.size x y->g.objs.size=s.heap.objs.size+1 →
   (∀ c o,c≠z->c≠b->c≠i1->c≠i2->s.heap.get? c=some o->g.get? c=some o)->Q (.ref s.heap.objs.size) {s with heap:=g}) :
 wpAny (model prog w) A (Builtin.«zip.__next__» ⟨[.ref z],[]⟩) (fun fin s'=>∃ v,fin = .done (.ret v)/\Q v s') E s:=by
 obtain⟨hZ,hI,⟨u,v,hO⟩,k1,k2,s1,s2⟩:=p
 show wpAny _ _ (field (.ref z) 2 >>= _) _ _ _
 refine wpAny_bind (wpAny_field hZ rfl (x:=.bool false) rfl ?_)
 show wpAny _ _ (field (.ref z) 3 >>= _) _ _ _
 refine wpAny_bind (wpAny_field hZ rfl (x:=.ref a) rfl ?_)
 refine wpAny_bind (wpAny_seqItems hI rfl ?_)
 show wpAny _ _ (Builtin.SmallTypes.ownedTupleIsFree (.ref z) >>= fun _=>_) _ _ _
 refine wpAny_bind ?_
 unfold Builtin.SmallTypes.ownedTupleIsFree
 refine wpAny_bind (wpAny_field hZ rfl (x:=.none) rfl (wpAny_pure ?_))
 simp only[if_true]
 refine wpAny_bind (wpAny_rule (wpAny_bind (wpAny_field hZ rfl (x:=.ref b) rfl ?_)))
 refine wpAny_bind (wpAny_setField_rec hZ (by simp) fun g1 hZ1 e1 => ?_)
 replace hZ1:IsZip g1 z a b .ellipsis:=hZ1
 refine wpAny_bind ?_
 simp only[List.forIn_cons,List.forIn_nil,List.zipIdx_cons,List.zipIdx_nil]
 refine wpAny_bind (wpAny_bind (wpAny_onRaise (?one:wpAny _ _ (Builtin.SmallTypes.nextOf (.ref i1) >>= fun _=>_) _ _ _)))
 refine wpAny_bind (drawT (k1.extBut e1.extBut D.i1z) (s1.extBut e1.extBut D.l1z) ex fun g2 m1 e2=>wpAny_pure ?_)
 have hO2:IsPair g2 b u v:=e2.extBut _ _ D.TOi1 (e1.extBut _ _ D.TOz hO)
 refine wpAny_bind (wpAny_seqItems hO2 rfl (wpAny_bind (wpAny_updateSeq_pair hO2 fun g3 hO3 e3 => ?_)))
 replace hO3:IsPair g3 b x v:=hO3
 refine wpAny_bind (wpAny_letGo (wpAny_pure ?_))
 refine wpAny_bind (wpAny_bind (wpAny_onRaise (?two:wpAny _ _ (Builtin.SmallTypes.nextOf (.ref i2) >>= fun _=>_) _ _ _)))
 have k23:g3.IsTupleIter i2 t2 k:=((k2.extBut e1.extBut D.i2z).extBut e2.extBut D.i12.symm).extBut e3.extBut D.TOi2.symm
 have s23:g3.IsTuple t2 ys:=((s2.extBut e1.extBut D.l2z).extBut e2.extBut D.l2i1).extBut e3.extBut D.l2TO
 refine wpAny_bind (drawT k23 s23 ey fun g4 m2 e4=>wpAny_pure ?_)
 have hO4:IsPair g4 b x v:=e4.extBut _ _ D.TOi2 hO3
 refine wpAny_bind (wpAny_seqItems hO4 rfl (wpAny_bind (wpAny_updateSeq_pair hO4 fun g5 hO5 e5 => ?_)))
 replace hO5:IsPair g5 b x y:=hO5
 refine wpAny_bind (wpAny_letGo (wpAny_pure (wpAny_pure ?_)))
 refine wpAny_bind (wpAny_seqItems hO5 rfl (wpAny_bind (wpAny_newTuple ?_)))
 have sz5:g5.objs.size=s.heap.objs.size:=by rw[e5.1,e4.1,e3.1,e2.1,e1.1]
 have stay:∀ c o,c≠z->c≠b->c≠i1->c≠i2->s.heap.get? c=some o->g5.get? c=some o:=fun c o n1 n2 n3 n4 e =>
  e5.extBut _ _ n2 (e4.extBut _ _ n4 (e3.extBut _ _ n2 (e2.extBut _ _ n3 (e1.extBut _ _ n1 e))))
 have hZ5:IsZip g5 z a b .ellipsis:=e5.extBut _ _ D.TOz.symm (e4.extBut _ _ D.i2z.symm (e3.extBut _ _ D.TOz.symm (e2.extBut _ _ D.i1z.symm hZ1)))
 have w1:g5.IsTupleIter i1 t1 (k+1):=((m1.extBut e3.extBut D.TOi1.symm).extBut e4.extBut D.i12).extBut e5.extBut D.TOi1.symm
 have w2:g5.IsTupleIter i2 t2 (k+1):=m2.extBut e5.extBut D.TOi2.symm
 have zl:z<g5.objs.size:=Heap.lt_size hZ5
 show wpAny _ _ (Builtin.SmallTypes.ownedTupleHandOut (.ref z) (.ref g5.objs.size) >>= fun _=>_) _ _ _
 refine wpAny_bind ?_
 unfold Builtin.SmallTypes.ownedTupleHandOut
 have hZ6:IsZip (g5.push {cls:=.type "tuple",data:=.seq #[x,y]}) z a b .ellipsis:=Heap.get?_push_of_some _ hZ5
 refine wpAny_bind (wpAny_setField_rec hZ6 (by simp) fun g7 hZ7 e7 => ?_)
 replace hZ7:IsZip g7 z a b (rawInt g5.objs.size):=hZ7
 refine wpAny_setField_rec hZ7 (by simp) fun g8 hZ8 e8 => ?_
 replace hZ8:IsZip g8 z a b (rawInt g5.objs.size):=hZ8
 have on:∀ c o,c≠z->g5.get? c=some o->g8.get? c=some o:=fun c o n e=>e8.extBut _ _ n (e7.extBut _ _ n (Heap.get?_push_of_some _ e))
 have hT:IsPair g8 g5.objs.size x y:=e8.extBut _ _ (Nat.ne_of_gt zl) (e7.extBut _ _ (Nat.ne_of_gt zl) (Heap.get?_push_size _ rfl))
 have sz8:g8.objs.size=g5.objs.size+1:=by rw[e8.1,e7.1,Heap.size_push]
 refine wpAny_pure ⟨_,rfl,?_⟩
 show Q (.ref g5.objs.size) _
 rw[sz5] at hZ8 hT sz8 ⊢
 refine q g8 ⟨hZ8,on _ _ D.TIz (stay _ _ D.TIz D.TITO D.TIi1 D.TIi2 hI),⟨x,y,on _ _ D.TOz hO5⟩,w1.at fun o e=>on _ o D.i1z e,w2.at fun o e=>on _ o D.i2z e,?_,?_⟩ hT sz8 fun c o n1 n2 n3 n4 e=>on c o n1 (stay c o n1 n2 n3 n4 e)
 ·exact tup_at s1 fun o e=>on _ o D.l1z (stay _ o D.l1z D.l1TO D.l1i1 D.l1i2 e)
 ·exact tup_at s2 fun o e=>on _ o D.l2z (stay _ o D.l2z D.l2TO D.l2i1 D.l2i2 e)
theorem pyNext{z a b i1 i2 t1 t2:Addr}{k:Nat}{xs ys:Array Value}{x y:Value}{Q:Option Value->Shared->Prop}(D:ZipApart z a b i1 i2 t1 t2)(p:At s.heap z a b i1 i2 t1 t2 k xs ys .none)(ex:xs[k]?=some x)(ey:ys[k]?=some y)
 (q:∀ g,At g z a b i1 i2 t1 t2 (k+1) xs ys (rawInt s.heap.objs.size)->IsPair g s.heap.objs.size x y->g.objs.size=s.heap.objs.size+1 →
   (∀ c o,c≠z->c≠b->c≠i1->c≠i2->s.heap.get? c=some o->g.get? c=some o)->Q (some (.ref s.heap.objs.size)) {s with heap:=g}):wpAny (model prog w) A (PySem.pyNext (.ref z)) Q E s:=by
 have ty:s.TypeIs (.ref z) "zip":=⟨_,p.zp,rfl⟩
 unfold PySem.pyNext
 exact wpAny_bind (wpAny_attempt (wpAny_callSpecial?_slot (name:=Str.ofString "__next__") ty F.slot_zip_next (wpAny_call_entry F.slot_zip_next ty F.entry_zip_next (next D p ex ey fun g b1 b2 b3 b4=>wpAny_pure (q g b1 b2 b3 b4)) (F.args_zip_next_1 _))))
end ZT
end PySem
namespace PySem
namespace ZT
variable {prog:Program}{w:World}{A:Around}{E:Value->Shared->Prop}{s:Shared}
noncomputable abbrev ZP(h:Heap)(z a b:Addr)(f:Value)(c:Bool):Prop:=h.get? z=some {cls:=.type "zip",dict:=none,data:=.fields #[f,.bool c,.bool false,.ref a,.ref b],slots := #[]}
theorem alive{a:Addr}{o:Obj}{Q:Option Obj->Shared->Prop}(ho:s.heap.get? a=some o)(h:Q (some o) s):wpAny (model prog w) A (loadIfAlive a) Q E s:=by
 rw[← ho] at h
 exact fun _ _ _=>h
theorem held{z a b p:Addr}{c:Bool}{op:Obj}{Q:Bool->Shared->Prop}(hZ:ZP s.heap z a b (rawInt p) c)(hp:s.heap.get? p=some op)(q:∀ g,ZP g z a b (rawInt p) true->Heap.SameBut z s.heap g->Q false {s with heap:=g}) :
 wpAny (model prog w) A (Builtin.SmallTypes.ownedTupleIsFree (.ref z)) Q E s:=by
 unfold Builtin.SmallTypes.ownedTupleIsFree
 refine wpAny_bind (wpAny_field hZ rfl (x:=rawInt p) rfl ?_)
 show wpAny _ _ (loadIfAlive ((p:Int).toNat) >>= _) _ _ _
 rw[Int.toNat_natCast]
 refine wpAny_bind (alive hp ?_)
 simp only[Option.isNone_some,Bool.false_eq_true,if_false]
 refine wpAny_bind (wpAny_field hZ rfl (x:=.bool c) rfl ?_)
 cases c with
 |true =>
  rw[if_neg (by decide)]
  exact wpAny_pure (q s.heap hZ (Heap.SameBut.refl _ _))
 |false =>
  rw[if_pos (by decide)]
  exact wpAny_bind (wpAny_setField_rec hZ (by simp) fun g hg e=>wpAny_pure (q g hg e))
end ZT
end PySem
namespace SN
open PySem PySem.Spec PyProof.Rows L2 MP
variable [Wd]
end SN
namespace SN
open PySem PySem.Spec PyProof.Rows L2 MP
variable [Wd]
section
variable {X:Cx}{pins:List (Addr × Obj)}{σ:L2.St}{H:Hp}{s:Shared}
structure ZS(X:Cx)(pins:List (Addr × Obj))(H:Hp)(h:Heap)(z a b i1 i2 t1 t2:Addr)(i:Nat):Prop where
 fp:∀ c ∈ [z,a,b,i1,i2],FpOk X pins H c
 zp:IsZip h z a b .none\/∃ p us c,H p=some (.tup us)/\ZT.ZP h z a b (rawInt p) c
 its:IsPair h a (.ref i1) (.ref i2)
 own:∃ u v,IsPair h b u v
 p1:h.IsTupleIter i1 t1 i
 p2:h.IsTupleIter i2 t2 i
theorem ZS.lt{h:Heap}{z a b i1 i2 t1 t2:Addr}{i:Nat}(x:ZS X pins H h z a b i1 i2 t1 t2 i):∀ c ∈ [z,a,b,i1,i2],c<h.objs.size:=by
 obtain⟨u,v,ow⟩:=x.own
 obtain⟨o4,e4,_⟩:=x.p1
 obtain⟨o5,e5,_⟩:=x.p2
 intro c hc
 simp only[List.mem_cons,List.not_mem_nil,or_false] at hc
 rcases hc with rfl|rfl|rfl|rfl|rfl
 ·rcases x.zp with z0 | ⟨p,us,c,hp,z0⟩<;>exact Heap.lt_size z0
 ·exact Heap.lt_size x.its
 ·exact Heap.lt_size ow
 ·exact Heap.lt_size e4
 ·exact Heap.lt_size e5
end
end SN
namespace SN
open PySem PySem.Spec PyProof.Rows L2 MP
variable [Wd][Cl]
noncomputable def FinX(ρ:Nat->Addr)(n:Nat)(H:Hp)(σ':Store)(Q:Hp->Prop):Prop:=∀ ρ' H',Ext ρ n H ρ' σ'.length H'->SR H' ρ' σ'->Q H'
inductive SpOf (P:List Fn) (W n:Nat) (f:String) (vs:List V) (H:Hp) (Q:VK) (E:XK):Prop
 |mk (ρ:Nat->Addr) (σ:Store) (rs:List R) (r:RRs H ρ σ.length rs vs) (S:SR H ρ σ) (q:(∃ r σ',run P W n f rs σ = .ok r σ'/\Fin ρ σ.length H r σ' Q)\/∃ c σ',run P W n f rs σ = .exc c σ'/\FinX ρ σ.length H σ' fun H'=>E (.type c) none H')
structure Amb(X:Cx)(P:List Fn)(W n:Nat):Prop where
 un:X.A.units+200<cLine
 room:Room n X.A
 calm:X.calm=true
 px:PassesOwn (model X.prog X.w) X.A X.env X.xe
 nd:X.N.Nodup
 wd:X.w=Wd.w
 glb:∀ f x,Cl.consts.lookup f=some x->∃ v u,X.mg (Str.ofString f)=some u/\RelV v u/\∀ H,RG H x v
 blt:∀ b ∈ ["len","tuple","list","dict","isinstance","range","int","bool","str","sum","max","min","all","enumerate","zip","sorted","any","abs","ord","reversed"],X.mg (Str.ofString b)=none
 fns:∀ f d,look P f=some d->∃ a fd ps,X.mg (Str.ofString f)=some (.ref a)/\PySem.W.keepIn X.K (.ref a)=true/\Binds X.K fd ps []/\FnOk X.prog X.w X.K X.mg X.base (CX1 X.prog X.w X.mg) n a fd ps (SpOf P W n f)
theorem Amb.comp{X:Cx}{P:List Fn}{W n:Nat}(am:Amb X P W n){N':List Str}(nd:N'.Nodup)(scope:Scope)(cl:List (Str × Addr))(C:Addr)(fp:List Addr)(s:Shared)(H:Hp):Amb (cxC X N' scope cl C fp s H) P W n :=
 ⟨am.un,am.room,am.calm,PassesOwn.never,nd,am.wd,
  am.glb,
  am.blt,am.fns⟩
theorem pe_false{X:Cx}{e:Expr}{t:TE}(h:∀ st H Q,¬ t st H Q):PE X e t:=fun pins s σ H Q I q=>absurd q (h σ H Q)
noncomputable def plainTest:Expr->Bool
 | .UnaryOp .Not _ _=>false
 | .BoolOp .. => false
 | .IfExp .. => false
 | .Compare .. => false
 |_=>true
theorem plain_test{e:Expr}{env:PySem.Env}(h:plainTest e=true):∀ whole,isTrue e env whole=(do let v ← whole;standAt e.pos;holding [v] (truthy v)):=by
 intro whole
 cases e<;>first
  |rfl
  | (cases h;done)
  | (rename_i op _ _;cases op<;>first|rfl|(cases h;done))
noncomputable def isLeaf:MP.Tm->Bool
 | .andT _ _=>false
 | .orT _ _=>false
 | .notT _=>false
 | .ifT _ _ _=>false
 | .chain _ _ _ _ _=>false
 |_=>true
theorem bind_assoc'{α β γ:Type}(x:Res α)(f:α->Store->Res β)(g:β->Store->Res γ):(x.bind f).bind g=x.bind fun a σ=>(f a σ).bind g:=by cases x<;>rfl
theorem leaf_true{cl:CallH}{t:MP.Tm}{ε:MP.Env}{σ:Store}(h:isLeaf t=true):ev cl true t ε σ=(ev cl false t ε σ).bind (truR true):=by
 cases t<;>first|(cases h;done)|skip
 ·rw[ev,ev]
  split<;>rfl
 ·rw[ev,ev];rfl
 ·rw[ev,ev];rfl
 ·rw[ev,ev,bind_assoc'];congr 1;funext xs σ1;rw[bind_assoc'];rfl
 ·rw[ev,ev,bind_assoc'];congr 1;funext x σ1
  split
  ·rw[bind_assoc'];congr 1;funext xs σ2;rw[bind_assoc'];rfl
  ·rfl
 ·rw[ev,ev,bind_assoc'];congr 1;funext xs σ1;rw[bind_assoc'];rfl
 ·rw[ev,ev,bind_assoc'];congr 1;funext w σ1;rw[bind_assoc'];rfl
theorem leafT{K:PySem.W.Frag}{cl:CallH}{t:MP.Tm}(hl:isLeaf t=true)(st:L2.St)(H:Hp)(Q:Bool->Hp->Prop)(h:T1 cl t st H Q):E1 cl t st H fun v H'=>∃ k,TruV K v H' k/\Q k H':=by
 obtain⟨ρ,ε,σ,b,σ',hE,hS,e,q⟩:=h
 rw[leaf_true hl] at e
 obtain⟨r,σ1,e1,e2⟩:=bind_inv e
 simp only[truR,if_true] at e2
 obtain⟨b',e3,e4⟩:=ofO_inv e2
 cases e4
 exact⟨ρ,ε,σ,r,_,hE,hS,e1,fun ρ' v H' ex S' rr=>⟨b,tru_TruV S' rr e3,q ρ' H' ex S'⟩⟩
theorem leafB{cl:CallH}{p:Prim}{as:Tms}(hp:∀ xs σ r σ',prim p xs σ = .ok r σ'->∃ b,r = .g (.bl b))(st:L2.St)(H:Hp)(Q:Bool->Hp->Prop)(h:T1 cl (.op p as) st H Q):E1 cl (.op p as) st H fun v H'=>∃ k,v = .bl k/\Q k H':=by
 obtain⟨ρ,ε,σ,b,σ',hE,hS,e,q⟩:=h
 rw[leaf_true rfl] at e
 obtain⟨r,σ1,e1,e2⟩:=bind_inv e
 obtain⟨xs,σ2,e5,e6⟩:=op_inv e1
 obtain⟨b',rfl⟩:=hp _ _ _ _ e6
 cases e2
 exact⟨ρ,ε,σ,_,_,hE,hS,e1,fun ρ' v H' ex S' rr=>⟨b,rr,q ρ' H' ex S'⟩⟩
theorem pt_leaf{X:Cx}{cl:CallH}{t:MP.Tm}{e:Expr}(hl:isLeaf t=true)(he:plainTest e=true)(h:PE X e (E1 cl t)):PT X e (T1 cl t) :=
 PT.imp (pt_truth h (plain_test he)) fun st H Q q=>leafT hl st H Q q
noncomputable def isCmp:Prim->Bool
 | .eq=>true | .ne=>true | .lt=>true | .le=>true | .gt=>true | .ge=>true | .inn=>true | .notin=>true | .isN=>true | .notN=>true | .innT=>true | .notinT=>true | .innS=>true | .notinS=>true
 |_=>false
theorem cmp_bl{p:Prim}(h:isCmp p=true)(xs:List R)(σ:Store)(r:R)(σ':Store)(e:prim p xs σ = .ok r σ'):∃ b,r = .g (.bl b):=by
 cases p<;>first|(cases h;done)|skip
 ·change pEq xs σ=_ at e;unfold pEq at e;split at e;(split at e<;>cases e;exact⟨_,rfl⟩);cases e
 ·change pNe xs σ=_ at e;unfold pNe at e;split at e;(split at e<;>cases e;exact⟨_,rfl⟩);cases e
 ·change pLt xs σ=_ at e;unfold pLt at e;split at e<;>cases e;exact⟨_,rfl⟩
 ·change pLe xs σ=_ at e;unfold pLe at e;split at e<;>cases e;exact⟨_,rfl⟩
 ·change pGt xs σ=_ at e;unfold pGt at e;split at e<;>cases e;exact⟨_,rfl⟩
 ·change pGe xs σ=_ at e;unfold pGe at e;split at e<;>cases e;exact⟨_,rfl⟩
 ·change pIsN xs σ=_ at e;unfold pIsN at e;split at e<;>cases e;exact⟨_,rfl⟩
 ·change pNotN xs σ=_ at e;unfold pNotN at e;split at e<;>cases e;exact⟨_,rfl⟩
 ·change pIn xs σ=_ at e;unfold pIn at e;split at e;(split at e<;>cases e;exact⟨_,rfl⟩);cases e
 ·change pNotIn xs σ=_ at e;unfold pNotIn at e;split at e;(split at e<;>cases e;exact⟨_,rfl⟩);cases e
 ·change pInnT xs σ=_ at e;unfold pInnT at e;split at e;(split at e;(split at e<;>cases e;exact⟨_,rfl⟩);cases e);cases e
 ·change pNotInT xs σ=_ at e;unfold pNotInT at e;split at e;(split at e;(split at e<;>cases e;exact⟨_,rfl⟩);cases e);cases e
 ·change pNotinS xs σ=_ at e;unfold pNotinS at e;split at e<;>cases e;exact⟨_,rfl⟩
 ·change pInnS xs σ=_ at e;unfold pInnS at e;split at e<;>cases e;exact⟨_,rfl⟩
theorem nomarkS{op:CmpOp}{b:Expr}(h:notSet b=true):behindInMarks op b=false:=by
 cases b<;>first|rfl|(cases h;done)
theorem plainIx{b:Expr}(h:notSlice b=true):PlainIx b:=fun o i=>by
 cases b<;>first|rfl|(cases h;done)
theorem isS_eq{x:Str}{n:String}(h:isS x n=true):x=Str.ofString n:=of_decide_eq_true h
theorem gl_eq{X:Cx}{x:Str}(h:gl X.env.scope x=true):Gl X x:=by
 unfold gl at h
 exact eq_of_beq h
theorem two_of{X:Cx}{cl:CallH}{a b:Expr}{as:Tms}(h:PEl X cl [a,b] as):∃ ta tb,as = .cons ta (.cons tb .nil)/\PE X a (E1 cl ta)/\PE X b (E1 cl tb):=by
 cases h with
 |cons _ h1 h2=>cases h2 with
  |cons _ h3 h4=>cases h4;exact⟨_,_,rfl,h1,h3⟩
section
variable {X:Cx}{P:List Fn}{W n:Nat}{cl:CallH}
noncomputable abbrev Both(X:Cx)(cl:CallH)(t:MP.Tm)(e:Expr):Prop:=PE X e (E1 cl t)/\PT X e (T1 cl t)
theorem both_bin{a b:Expr}{op:Operator}{pos:Pos}{p:Prim}{rr:R2}{as:Tms}(ho:OpR X (binaryOp op) rr)(h2:Ok2 p rr)(h:PEl X cl [a,b] as):Both X cl (.op p as) (.BinOp a op b pos):=by
 obtain⟨ta,tb,rfl,ha,hb⟩:=two_of h
 have q:PE X (.BinOp a op b pos) (E1 cl (.op p (.cons ta (.cons tb .nil)))):=PE.imp (pe_op ho ha hb) fun st H Q t=>lift2 h2 st H Q t
 exact⟨q,pt_leaf rfl rfl q⟩
theorem both_cmp{a b:Expr}{op:CmpOp}{pos:Pos}{p:Prim}{rr:R2}{as:Tms}(ho:OpR X (compareOp op) rr)(h2:Ok2 p rr)(hc:isCmp p=true)(hs:notSet b=true)(h:PEl X cl [a,b] as):Both X cl (.op p as) (.Compare a [op] [b] pos):=by
 obtain⟨ta,tb,rfl,ha,hb⟩:=two_of h
 exact⟨PE.imp (pe_cmpR ho ha hb (nomarkS hs)) fun st H Q t=>lift2 h2 st H Q t,
  PT.imp (pt_cmpR ho ha hb (nomarkS hs)) fun st H Q t=>lift2 h2 st H _ (leafB (cmp_bl hc) st H Q t)⟩
theorem one_of{a:Expr}{as:Tms}(h:PEl X cl [a] as):∃ ta,as = .cons ta .nil/\PE X a (E1 cl ta)/\notStar a=true:=by
 cases h with
 |cons h0 h1 h2=>cases h2;exact⟨_,rfl,h1,h0⟩
theorem both_callB{a:Expr}{x:Str}{p:Prim}{pp pos:Pos}{rr:List V->Hp->VK->Prop}{as:Tms}{id:String}(hc:CallR X (.builtin id) rr)(h2:OkN p rr)(hg:Gl X x)(hm:X.mg x=none)(hv:bootBuiltins x=some (.builtin id))(hn:x ≠ "__name__")(hd:(x == ("__debug__":Str))=false)
 (h:PEl X cl [a] as):Both X cl (.op p as) (.Call (.Name x pp) [a] [] pos):=by
 obtain⟨ta,e,ha,hs⟩:=one_of h
 have q:PE X (.Call (.Name x pp) [a] [] pos) (E1 cl (.op p as)):=PE.imp (pe_callB hc hg hm hv h.pa hn hd (starEach_cons hs) (backTo_plain (es:=[]) rfl)) fun st H Q t=>liftN h2 st H Q t
 exact⟨q,pt_leaf rfl rfl q⟩
theorem both_callT{a:Expr}{x:Str}{p:Prim}{pp pos:Pos}{rr:List V->Hp->VK->Prop}{as:Tms}{T:String}(hc:CallR X (.type T) rr)(h2:OkN p rr)(hg:Gl X x)(hm:X.mg x=none)(hv:bootBuiltins x=some (.type T))(hn:x ≠ "__name__")(hd:(x == ("__debug__":Str))=false)
 (h:PEl X cl [a] as):Both X cl (.op p as) (.Call (.Name x pp) [a] [] pos):=by
 obtain⟨ta,e,ha,hs⟩:=one_of h
 have q:PE X (.Call (.Name x pp) [a] [] pos) (E1 cl (.op p as)):=PE.imp (pe_callTy hc hg hm hv h.pa hn hd (starEach_cons hs) (backTo_plain (es:=[]) rfl)) fun st H Q t=>liftN h2 st H Q t
 exact⟨q,pt_leaf rfl rfl q⟩
theorem not_debug{n:String}(h:(Str.ofString n == ("__debug__":Str))=false:=by decide +kernel):(Str.ofString n == ("__debug__":Str))=false:=h
theorem bb_tuple:bootBuiltins (Str.ofString "tuple")=some (.type "tuple"):=by decide +kernel
theorem bb_isinstance:bootBuiltins (Str.ofString "isinstance")=some (.builtin "isinstance"):=by decide +kernel
theorem bb_all:bootBuiltins (Str.ofString "all")=some (.builtin "all"):=by decide +kernel
theorem bb_sum:bootBuiltins (Str.ofString "sum")=some (.builtin "sum"):=by decide +kernel
theorem bb_ty(T:Ty):bootBuiltins (Str.ofString (tyN T))=some (.type (tyN T)):=by cases T<;>decide +kernel
theorem both_of{t:MP.Tm}{e:Expr}(hl:isLeaf t=true)(he:plainTest e=true)(q:PE X e (E1 cl t)):Both X cl t e:=⟨q,pt_leaf hl he q⟩
theorem both_ix(hu:X.A.units+1<cLine){a b:Expr}{pos:Pos}{as:Tms}(hs:notSlice b=true)(h:PEl X cl [a,b] as):Both X cl (.op .idx as) (.Subscript a b pos):=by
 obtain⟨ta,tb,rfl,ha,hb⟩:=two_of h
 exact both_of rfl rfl (PE.imp (pe_ix (ix_all hu) ha hb (plainIx hs)) fun st H Q t=>lift2 ok_idx st H Q t)
theorem both_tup{es:List Expr}{k:Nat}{pos:Pos}{as:Tms}(h:PEl X cl es as):Both X cl (.op .tup as) (.Tuple es k pos):=both_of rfl rfl (PE.imp (pe_tup h.pa) fun st H Q t=>liftN ok_tup st H Q t)
theorem both_lst{es:List Expr}{pos:Pos}{as:Tms}(h:PEl X cl es as):Both X cl (.op .lst as) (.List es pos):=both_of rfl rfl (PE.imp (pe_lst h.pa) fun st H Q t=>liftN ok_lst st H Q t)
theorem both_lstR{es:List Expr}{pos:Pos}{as:Tms}(h:PEl X cl es as):Both X cl (.op .lstR as) (.List es pos):=both_of rfl rfl (PE.imp (pe_lst h.pa) fun st H Q t=>liftN ok_lstR st H Q t)
theorem both_inst(am:Amb X P W n){T:Ty}{a:Expr}{pp tp pos:Pos}{as:Tms}(hg:Gl X (Str.ofString "isinstance"))(hgt:Gl X (Str.ofString (tyN T)))(h:PEl X cl [a] as) :
 Both X cl (.op (.isInst T) as) (.Call (.Name (Str.ofString "isinstance") pp) [a,.Name (Str.ofString (tyN T)) tp] [] pos):=by
 obtain⟨ta,rfl,ha,hs⟩:=one_of h
 have hmt:X.mg (Str.ofString (tyN T))=none:=am.blt (tyN T) (by cases T<;>decide)
 have hpt:PE X (.Name (Str.ofString (tyN T)) tp) (tC (.ty (tyN T))):=pe_bltn hgt hmt (bb_ty T) rfl (by cases T<;>decide +kernel) (by cases T<;>decide +kernel)
 refine both_of rfl rfl (PE.imp (pe_callB call_isinst hg (am.blt _ (by decide)) bb_isinstance (pa_cons ha (pa_cons hpt pa_nil) (starEach_cons hs)) (by decide +kernel) not_debug (starEach_cons hs) rfl) fun st H Q t => ?_)
 obtain⟨ρ,ε,σ,r,σ',hE,hS,e,q⟩:=t
 obtain⟨xs,σ1,e1,e2⟩:=op_inv e
 obtain⟨x,ys,σ2,e3,e4,rfl⟩:=evs_cons_inv e1
 obtain⟨rfl,rfl⟩:=evs_nil_inv e4
 exact⟨ρ,ε,σ,x,_,hE,hS,e3,fun ρ1 v1 H1 ex1 S1 r1=>ok_isInst T S1 r1 e2 (q.after ex1 S1)⟩
theorem op_bin{op:Operator}{p:Prim}{rr:R2}{e:Expr}{es:List Expr}{as:Tms}(ho:OpR X (binaryOp op) rr)(h2:Ok2 p rr)(hb:vBin op (vw e)=some es)(h:PEl X cl es as):Both X cl (.op p as) e:=by
 obtain⟨a,b,pos,rfl,rfl⟩:=binE hb
 exact both_bin ho h2 h
theorem op_cmp{op:CmpOp}{p:Prim}{rr:R2}{e:Expr}{es:List Expr}{as:Tms}(ho:OpR X (compareOp op) rr)(h2:Ok2 p rr)(hc:isCmp p=true)(hb:vCmp op (vw e)=some es)(h:PEl X cl es as):Both X cl (.op p as) e:=by
 obtain⟨a,b,pos,rfl,hs,rfl⟩:=cmpE hb
 exact both_cmp ho h2 hc hs h
theorem op_callB{f id:String}{p:Prim}{rr:List V->Hp->VK->Prop}{e:Expr}{es:List Expr}{as:Tms}(hc:CallR X (.builtin id) rr)(h2:OkN p rr)(hm:X.mg (Str.ofString f)=none)(hb:bootBuiltins (Str.ofString f)=some (.builtin id))(hn:Str.ofString f ≠ "__name__")(hd:(Str.ofString f == ("__debug__":Str))=false)
 (ho:vBlt X.env.scope f (vw e)=some es) (h:PEl X cl es as):Both X cl (.op p as) e:=by
 obtain⟨a,pp,pos,rfl,hg,rfl⟩:=bltE ho
 exact both_callB hc h2 (gl_eq hg) hm hb hn hd h
theorem op_callT{f T:String}{p:Prim}{rr:List V->Hp->VK->Prop}{e:Expr}{es:List Expr}{as:Tms}(hc:CallR X (.type T) rr)(h2:OkN p rr)(hm:X.mg (Str.ofString f)=none)(hb:bootBuiltins (Str.ofString f)=some (.type T))(hn:Str.ofString f ≠ "__name__")(hd:(Str.ofString f == ("__debug__":Str))=false)
 (ho:vBlt X.env.scope f (vw e)=some es) (h:PEl X cl es as):Both X cl (.op p as) e:=by
 obtain⟨a,pp,pos,rfl,hg,rfl⟩:=bltE ho
 exact both_callT hc h2 (gl_eq hg) hm hb hn hd h
theorem bb_str:bootBuiltins (Str.ofString "str")=some (.type "str"):=by decide +kernel
theorem bb_int:bootBuiltins (Str.ofString "int")=some (.type "int"):=by decide +kernel
theorem both_cutS{a l u:Expr}{pos p2:Pos}{as:Tms}(h:PEl X cl [a,l,u] as):Both X cl (.op .cutS as) (.Subscript a (.Slice (some l) (some u) none p2) pos):=by
 cases h with
 |cons _ ha h=>cases h with
  |cons _ hl h=>cases h with
   |cons _ hu h =>
    cases h
    refine both_of rfl rfl (PE.imp (pe_slice sl_str ha (po_some hl) (po_some hu)) fun st H Q t => ?_)
    obtain⟨ρ,ε,σ,r,σ',hE,hS,e,q⟩:=t
    obtain⟨xs,σ1,e1,e2⟩:=op_inv e
    obtain⟨x,ys,σ2,e3,e4,rfl⟩:=evs_cons_inv e1
    obtain⟨y,zs,σ3,e5,e6,rfl⟩:=evs_cons_inv e4
    obtain⟨z,ws,σ4,e7,e8,rfl⟩:=evs_cons_inv e6
    obtain⟨rfl,rfl⟩:=evs_nil_inv e8
    refine⟨ρ,ε,σ,x,σ2,hE,hS,e3,fun ρ1 v1 H1 ex1 S1 r1 => ?_⟩
    have hE1:=hE.mono hS ex1
    refine⟨ρ1,ε,σ2,y,σ3,hE1,S1,e5,fun ρ2 v2 H2 ex2 S2 r2 => ?_⟩
    obtain⟨cs,i,j,rfl,rfl,rfl,hi,hj,rfl,rfl⟩:=cutS_inv e2
    cases r2
    refine⟨i,rfl,ρ2,ε,σ3,_,_,hE1.mono S1 ex2,S2,e7,fun ρ3 v3 H3 ex3 S3 r3 => ?_⟩
    cases r3
    obtain⟨rfl,ho⟩:=r1
    refine⟨j,rfl,sOf cs,rfl,by rw[sOf_len];exact okS_sz ho,?_⟩
    rw[slice_is hi hj]
    exact q ρ3 _ H3 ((ex1.trans S1 ex2).trans S2 ex3) S3 ⟨rfl,okS_cut ho⟩
theorem both_cutF{a l:Expr}{pos p2:Pos}{as:Tms}(h:PEl X cl [a,l] as):Both X cl (.op .cutF as) (.Subscript a (.Slice (some l) none none p2) pos):=by
 obtain⟨ta,tb,rfl,ha,hb⟩:=two_of h
 refine both_of rfl rfl (PE.imp (pe_slice sl_str ha (po_some hb) po_none) fun st H Q t => ?_)
 obtain⟨ρ,ε,σ,r,σ',hE,hS,e,q⟩:=t
 obtain⟨xs,σ1,e1,e2⟩:=op_inv e
 obtain⟨x,ys,σ2,e3,e4,rfl⟩:=evs_cons_inv e1
 obtain⟨y,zs,σ3,e5,e6,rfl⟩:=evs_cons_inv e4
 obtain⟨rfl,rfl⟩:=evs_nil_inv e6
 obtain⟨cs,i,rfl,rfl,hi,rfl,rfl⟩:=cutF_inv e2
 refine⟨ρ,ε,σ,_,σ2,hE,hS,e3,fun ρ1 v1 H1 ex1 S1 r1 => ?_⟩
 refine⟨ρ1,ε,σ2,_,_,hE.mono hS ex1,S1,e5,fun ρ2 v2 H2 ex2 S2 r2 => ?_⟩
 obtain⟨rfl,ho⟩:=r1
 cases r2
 refine⟨i,rfl,sOf cs,rfl,by rw[sOf_len];exact okS_sz ho,?_⟩
 rw[slice_from hi]
 exact q ρ2 _ H2 (ex1.trans S1 ex2) S2 ⟨rfl,okS_drop ho⟩
theorem both_cutT{a l:Expr}{pos p2:Pos}{as:Tms}(h:PEl X cl [a,l] as):Both X cl (.op .cutT as) (.Subscript a (.Slice none (some l) none p2) pos):=by
 obtain⟨ta,tb,rfl,ha,hb⟩:=two_of h
 refine both_of rfl rfl (PE.imp (pe_slice sl_str ha po_none (po_some hb)) fun st H Q t => ?_)
 obtain⟨ρ,ε,σ,r,σ',hE,hS,e,q⟩:=t
 obtain⟨xs,σ1,e1,e2⟩:=op_inv e
 obtain⟨x,ys,σ2,e3,e4,rfl⟩:=evs_cons_inv e1
 obtain⟨y,zs,σ3,e5,e6,rfl⟩:=evs_cons_inv e4
 obtain⟨rfl,rfl⟩:=evs_nil_inv e6
 obtain⟨cs,i,rfl,rfl,hi,rfl,rfl⟩:=cutT_inv e2
 refine⟨ρ,ε,σ,_,σ2,hE,hS,e3,fun ρ1 v1 H1 ex1 S1 r1 => ?_⟩
 refine⟨ρ1,ε,σ2,_,_,hE.mono hS ex1,S1,e5,fun ρ2 v2 H2 ex2 S2 r2 => ?_⟩
 obtain⟨rfl,ho⟩:=r1
 cases r2
 refine⟨i,rfl,sOf cs,rfl,by rw[sOf_len];exact okS_sz ho,?_⟩
 rw[slice_to hi]
 exact q ρ2 _ H2 (ex1.trans S1 ex2) S2 ⟨rfl,okS_take ho⟩
theorem bb_max:bootBuiltins (Str.ofString "max")=some (.builtin "max"):=by decide +kernel
theorem both_maxd(am:Amb X P W n){a b:Expr}{pp pos kp:Pos}{as:Tms}(hg:Gl X (Str.ofString "max"))(h:PEl X cl [a,b] as):Both X cl (.op .maxd as) (.Call (.Name (Str.ofString "max") pp) [a] [⟨some (Str.ofString "default"),b,kp⟩] pos):=by
 obtain⟨ta,tb,rfl,ha,hb⟩:=two_of h
 have hs:notStar a=true:=by have:=h.stars;simp at this;exact this.1
 refine both_of rfl rfl fun pins s σ H Q I t => ?_
 obtain⟨ρ,ε,τ,r,τ',hE,hS,e,q⟩:=t
 obtain⟨xs,τ1,e1,e2⟩:=op_inv e
 obtain⟨x,ys,τ2,e3,e4,rfl⟩:=evs_cons_inv e1
 obtain⟨y,zs,τ3,e5,e6,rfl⟩:=evs_cons_inv e4
 obtain⟨rfl,rfl⟩:=evs_nil_inv e6
 obtain⟨k,gs,is,d,rfl,rfl,hk,hi,rfl,hr⟩:=maxd_inv e2
 refine wpAny_Call_Name_kw (ld_blt I hg (am.blt _ (by decide)) bb_max ?_)
 have hA:PA X [a] (A1 cl (.cons ta .nil)):=(PEl.cons hs ha .nil).pa
 refine PySem.W.callWith_of (P:=fun _=>True) ?_ (fun h _=>⟨.machine,.inr (.inl rfl),?_⟩) (evalArgs_kw2 ?_ (thn (hA pos pins s σ H (fun vs H1=>∃ v1 ρ1,vs=[v1]/\Ext ρ τ.length H ρ1 τ2.length H1/\SR H1 ρ1 τ2/\RR H1 ρ1 τ2.length (.ref k) v1) I ?_) fun us s1 ⟨vs,H1,I1,r1,q1⟩ => ?_) (starEach_cons hs))
 ·rw[backTo_plain (es:=[a]) (by simpa using hs)]
  rfl
 ·exact PySem.W.Looks.of_pure rfl
 ·rfl
 ·exact⟨ρ,ε,τ,[.ref k],τ2,hE,hS,by rw[evs,e3];simp[evs],fun ρ1 vs H1 ex1 S1 rr=>by
   obtain⟨v1,rfl,hv⟩:=rrs1 rr
   exact⟨v1,ρ1,rfl,ex1,S1,hv⟩⟩
 ·obtain⟨v1,ρ1,rfl,ex1,S1,hv1⟩:=q1
  obtain⟨w1,rfl,rw1⟩:=vals1 r1
  refine kws_cons (thn (hb pins s1 σ H1 (fun v2 H2=>∃ ρ2,RR H2 ρ2 τ'.length (.g d) v2/\Ext ρ1 τ2.length H1 ρ2 τ'.length H2/\SR H2 ρ2 τ') I1 ⟨ρ1,ε,τ2,_,_,hE.mono hS ex1,S1,e5,fun ρ2 v2 H2 ex2 S2 rr=>⟨ρ2,rr,ex2,S2⟩⟩) fun w2 s2 ⟨v2,H2,I2,r2,ρ2,hv2,ex2,S2⟩=>kws_nil ?_)
  refine⟨trivial,?_⟩
  obtain⟨hj1,rfl⟩:=hv1
  cases rw1
  obtain⟨vs,h1,h2⟩:=S2.lst hk
  rw[ex2.ag k hj1] at h1
  have:=intsV h2 hi
  subst this
  obtain⟨its,rv,p,hz⟩:=I2.list (.of h1)
  obtain⟨z1,z2⟩:=vals_at rv
  show wpAny (model X.prog X.w) X.A (call (.builtin "max") [.ref (ρ1 k)] (kwD (some w2))) _ _ s2
  refine call_maxd (fun z=>by cases z) (I2.ok.hd am.calm) p.isList z1 z2 fun v h' tk hrs kk => ?_
  have ex:=ex1.trans S1 ex2
  cases is with
  |nil =>
   cases hrs
   cases hr
   exact⟨v2,H2,I2.kept (t':=tk) kk,r2,q ρ2 v2 H2 ex S2 hv2⟩
  |cons i is =>
   obtain⟨t,rfl⟩:=hrs
   cases hr
   exact⟨.int _,H2,I2.kept (t':=tk) kk,⟨t,rfl⟩,q ρ2 _ H2 ex S2 rfl⟩
theorem op_sound(am:Amb X P W n){p:Prim}{as:Tms}{e:Expr}{es:List Expr}(ho:opArgs X.env.scope p (vw e)=some es)(h:PEl X cl es as):Both X cl (.op p as) e:=by
 have hu:X.A.units+170<cLine:=by have:=am.un;omega
 cases p with
 |add=>exact op_bin op_addAll ok_add ho h
 |sub=>exact op_bin op_sub ok_sub ho h
 |mul=>exact op_bin op_mul ok_mul ho h
 |fdiv=>exact op_bin op_fdiv ok_fdiv ho h
 |mod=>exact op_bin op_mod ok_mod ho h
 |eq=>exact op_cmp (op_eqAll hu) ok_eq rfl ho h
 |ne=>exact op_cmp (op_neAll hu) ok_ne rfl ho h
 |lt=>exact op_cmp op_lt ok_lt rfl ho h
 |le=>exact op_cmp op_le ok_le rfl ho h
 |gt=>exact op_cmp op_gt ok_gt rfl ho h
 |ge=>exact op_cmp op_ge ok_ge rfl ho h
 |isN=>exact op_cmp op_isN ok_isN rfl ho h
 |notN=>exact op_cmp op_notN ok_notN rfl ho h
 |idx =>
  obtain⟨a,b,pos,rfl,hs,rfl⟩:=ixE ho
  exact both_ix (by omega) hs h
 |tup =>
  obtain⟨k,pos,rfl⟩:=tupE ho
  exact both_tup h
 |lst =>
  obtain⟨pos,rfl⟩:=lstE ho
  exact both_lst h
 |len=>exact op_callB call_lenAll ok_len (am.blt _ (by decide)) PySem.boot_len (by decide +kernel) not_debug ho h
 |tupleOf=>exact op_callT call_tuple_of ok_tupleOf (am.blt _ (by decide)) bb_tuple (by decide +kernel) not_debug ho h
 |all=>exact op_callB (call_allL am.calm) ok_all (am.blt _ (by decide)) bb_all (by decide +kernel) not_debug ho h
 |sum=>exact op_callB (call_sumL am.calm) ok_sum (am.blt _ (by decide)) bb_sum (by decide +kernel) not_debug ho h
 |isInst T =>
  obtain⟨a,tp,pp,pos,rfl,hg,hgt,rfl⟩:=isE ho
  exact both_inst am (gl_eq hg) (gl_eq hgt) h
 |slice lo hi =>
  cases lo with
  |true =>
   cases hi with
   |true=>cases ho
   |false =>
    cases ho
  |false =>
   cases hi with
   |false=>cases ho
   |true =>
    cases ho
 |strOf=>exact op_callT call_str_int ok_strOf (am.blt _ (by decide)) bb_str (by decide +kernel) not_debug ho h
 |intOf=>exact op_callT call_intT ok_intOf (am.blt _ (by decide)) bb_int (by decide +kernel) not_debug ho h
 |innS=>exact op_cmp op_in_str ok_innS rfl ho h
 |cutS =>
  obtain⟨a,l,u,pos,p2,rfl,rfl⟩:=slBE ho
  exact both_cutS h
 |cutF =>
  obtain⟨a,l,pos,p2,rfl,rfl⟩:=slFE ho
  exact both_cutF h
 |cutT =>
  obtain⟨a,l,pos,p2,rfl,rfl⟩:=slTE ho
  exact both_cutT h
 |notinS=>exact op_cmp op_notIn_str ok_notinS rfl ho h
 |lstR =>
  obtain⟨pos,rfl⟩:=lstE ho
  exact both_lstR h
 |maxd =>
  obtain⟨a,b,pp,kp,pos,rfl,hg,rfl⟩:=maxdE ho
  exact both_maxd am (gl_eq hg) h
 |_=>cases ho
end
end SN
namespace SN
open PySem PySem.Spec PyProof.Rows L2 MP
variable [Wd][Cl]
section
variable {X:Cx}{P:List Fn}{W n:Nat}{cl:CallH}
theorem recv_base{o:Expr}{m:Str}{env:PySem.Env}(h:recvE o=true):attributeBase o m env (eval o env)=eval o env:=by
 cases o<;>first|rfl|(cases h;done)
theorem few_ok{es:List Expr}{cpos:Pos}{env:PySem.Env}(h:es.all notStar=true)(hl:es.length<30):((backTo cpos (starEach es env)).all (fun x => !x.1) && (backToKw cpos (keywordEach [] env)).all (fun x=>x.1.isSome)
 && decide (es.length+([]:List Keyword).length+(if ([]:List Keyword).isEmpty then 0 else 1)<30))=true:=by
 have h1:(backTo cpos (starEach es env)).all (fun x => !x.1)=true:=by
  have:=backTo_plain (pos:=cpos) (env:=env) h
  rw[List.any_eq_false] at this
  rw[List.all_eq_true]
  intro x hx
  have:=this x hx
  simpa using this
 rw[h1]
 simpa[backToKw,keywordEach] using hl
theorem both_meth{T:String}{name:Str}{id:String}{o a:Expr}{es:List Expr}{ap cp:Pos}{p:Prim}{rr:V->List V->Hp->VK->Prop}{ta:MP.Tm}{as:Tms}
 (pa:PlainAttrs T) (slot:Slot T name id) (hty:typeOf (.builtin id)=pure (.type "method_descriptor")) (hm:MtR X id rr) (ok:OkM X.K T p rr) (hr:recvE o=true) (hl:(ap.endLine == cp.line)=true) (hlen:(a::es).length<30)
 (ho:PE X o (E1 cl ta)) (h:PEl X cl (a::es) as):Both X cl (.meth p ta as) (.Call (.Attribute o name ap) (a::es) [] cp):=by
 have hs:=h.stars
 have hs':notStar a=true/\es.all notStar=true:=by simpa using hs
 exact both_of rfl rfl (PE.imp (pe_bm pa slot hty hm ho h.pa (recv_base hr) (few_ok hs hlen) hl (starEach_cons hs'.1) (backTo_plain hs'.2)) fun st H Q t=>liftM ok st H Q t)
theorem meth_by{T:String}{name id:String}{p:Prim}{k:Nat}{rr:V->List V->Hp->VK->Prop}{ta:MP.Tm}{as:Tms}{e o:Expr}{es:List Expr}(pa:PlainAttrs T)(slot:Slot T (Str.ofString name) id)(hty:typeOf (.builtin id)=pure (.type "method_descriptor"))(hm:MtR X id rr)(ok:OkM X.K T p rr)
 (hk:vMt name (k+1) (vw e)=some (o,es)) (hl:k+1<30) (ho:PE X o (E1 cl ta)) (h:PEl X cl es as):Both X cl (.meth p ta as) e:=by
 obtain⟨hn,ap,cp,h1,h2,rfl⟩:=mtE hk
 cases es with
 |nil=>cases hn
 |cons a es=>exact both_meth pa slot hty hm ok h1 h2 (by rw[hn];exact hl) ho h
theorem meth_sound(am:Amb X P W n){p:Prim}{a:MP.Tm}{as:Tms}{e o:Expr}{es:List Expr}(hm:methArgs p (vw e)=some (o,es))(ho:PE X o (E1 cl a))(h:PEl X cl es as):Both X cl (.meth p a as) e:=by
 have hu:X.A.units+1<cLine:=by have:=am.un;omega
 cases p with
 |append=>exact meth_by PySem.F.plainAttrs_list PySem.F.slot_list_append PySem.F.type_list_append mt_append okm_append (k:=0) hm (by decide) ho h
 |index=>exact meth_by PySem.F.plainAttrs_list PySem.F.slot_list_index PySem.F.type_list_index (mt_index (by have:=am.un;omega)) okm_index (k:=0) hm (by decide) ho h
 |extend=>exact meth_by PySem.F.plainAttrs_list PySem.F.slot_list_extend PySem.F.type_list_extend mt_extend okm_extend (k:=0) hm (by decide) ho h
 |appR=>exact meth_by PySem.F.plainAttrs_list PySem.F.slot_list_append PySem.F.type_list_append mt_append okm_appR (k:=0) hm (by decide) ho h
 |popR =>
  obtain⟨hn,ap,cp,h1,h2,rfl⟩:=mtE hm
  cases List.length_eq_zero_iff.mp hn
  cases h
  exact both_of rfl rfl (PE.imp (pe_bm0 PySem.F.plainAttrs_list PySem.F.slot_list_pop PySem.F.type_list_pop mt_pop ho (recv_base h1) h2) fun st H Q t=>liftM0 okm_popR st H Q t)
 |join=>exact meth_by PySem.F.plainAttrs_str PySem.F.slot_str_join PySem.F.type_str_join mt_join okm_join (k:=0) hm (by decide) ho h
 |starts=>exact meth_by PySem.F.plainAttrs_str PySem.F.slot_str_startswith PySem.F.type_str_startswith mt_starts okm_starts (k:=0) hm (by decide) ho h
 |_=>cases hm
noncomputable def WJ(J:It)(ρ:Nat->Addr)(σ:Store)(H:Hp)(w:Walk):Prop :=
 ∀ ρ2 σ2 H2,Ext ρ σ.length H ρ2 σ2.length H2->SR H2 ρ2 σ2->intact w.guard σ2=true->∀ i:Nat,
  (∀ x,w.items[i]?=some x->J.go i H2/\∀ v H3,J.yld i H2 v H3->Ext ρ2 σ2.length H2 ρ2 σ2.length H3/\SR H3 ρ2 σ2/\RR H3 ρ2 σ2.length x v)/\(w.items.length<=i->J.stop i H2)
inductive TIv (K:PySem.W.Frag) (f:MP.Env->Store->Res Walk) (st:L2.St) (H:Hp) (R:It->Hp->Prop):Prop
 |mk (ρ:Nat->Addr) (ε:MP.Env) (σ:Store) (w:Walk) (σ':Store) (hE:RE H ρ σ.length ε st) (hS:SR H ρ σ) (e:f ε σ = .ok w σ') (q:∀ ρ' H' J,Ext ρ σ.length H ρ' σ'.length H'->SR H' ρ' σ'->WJ J ρ' σ' H' w->BJ K J->R J H')
theorem PI.imp{tg iter:Expr}{t t':TI}(h:PI X tg iter t)(w:∀ σ H R,t' σ H R->t σ H R):PI X tg iter t':=fun pins s σ H R I q=>h pins s σ H R I (w σ H R q)
theorem PI.or{tg iter:Expr}{t t':TI}(h:PI X tg iter t)(h':PI X tg iter t'):PI X tg iter (fun σ H R=>t σ H R\/t' σ H R):=fun pins s σ H R I q=>q.elim (h pins s σ H R I) (h' pins s σ H R I)
theorem map_get{α:Type}{f:α->R}{xs:List α}{i:Nat}{x:R}(h:(xs.map f)[i]?=some x):∃ a,xs[i]?=some a/\x=f a:=by
 rw[List.getElem?_map] at h
 cases e:xs[i]? with
 |none=>rw[e] at h;cases h
 |some a=>rw[e] at h;exact⟨a,rfl,(Option.some.inj h).symm⟩
theorem wj_tup{K:PySem.W.Frag}{ρ:Nat->Addr}{σ:Store}{H:Hp}{a:Addr}{xs:List G}{vs:List V}(S:SR H ρ σ)(ha:H a=some (.tup vs))(h:RGs H xs vs):WJ (Itt K a) ρ σ H ⟨xs.map .g,none⟩:=by
 intro ρ2 σ2 H2 ex S2 _ i
 have tp:=ex.tp S
 have ha2:=tp _ _ ha
 have h2:=RGs.mono tp _ h
 refine⟨fun x hx => ?_,fun hi => ?_⟩
 ·obtain⟨g,e,rfl⟩:=map_get hx
  obtain⟨v,e1,e2⟩:=h2.get e
  refine⟨⟨vs,v,.of ha2,e1⟩,fun u H3 y => ?_⟩
  obtain⟨rfl,y⟩:=y
  have:=y vs (.of ha2)
  rw[e1] at this
  cases this
  exact⟨Ext.refl _ _ _,S2,e2⟩
 ·exact⟨vs,.of ha2,by rw[h2.length];simpa using hi⟩
theorem wj_lst{K:PySem.W.Frag}{ρ:Nat->Addr}{σ:Store}{H:Hp}{k:Nat}{xs:List G}{c:Cell}(hk:k<σ.length)(hc:c = .lst xs\/c = .rdl xs):WJ (Itl K (ρ k)) ρ σ H ⟨xs.map .g,some (k,c)⟩:=by
 intro ρ2 σ2 H2 ex S2 hi i
 have e0:σ2[k]?=some c:=by
  rcases hc with rfl|rfl<;>exact of_decide_eq_true hi
 obtain⟨vs,h1,h2⟩:=S2.lR (k:=k) (xs:=xs) (by rcases hc with rfl|rfl<;>first|exact .inl e0|exact .inr e0)
 rw[ex.ag k hk] at h1
 refine⟨fun x hx => ?_,fun hi => ?_⟩
 ·obtain⟨g,e,rfl⟩:=map_get hx
  obtain⟨v,e1,e2⟩:=h2.get e
  refine⟨⟨vs,v,.inl h1,e1⟩,fun u H3 y => ?_⟩
  obtain⟨rfl,y⟩:=y
  have:=y vs (.inl h1)
  rw[e1] at this
  cases this
  exact⟨Ext.refl _ _ _,S2,e2⟩
 ·exact⟨vs,.inl h1,by rw[h2.length];simpa using hi⟩
theorem range_get{lo hi:Int}{i:Nat}:(rangeL lo hi)[i]?=if i<(hi-lo).toNat then some (.g (.int (lo+(i:Int)))) else none:=by
 unfold rangeL
 rw[List.getElem?_map]
 by_cases h:i<(hi-lo).toNat
 ·rw[if_pos h,List.getElem?_range h];rfl
 ·rw[if_neg h,List.getElem?_eq_none (by simpa using h)];rfl
theorem wj_range{ρ:Nat->Addr}{σ:Store}{H:Hp}{lo hi:Int}:WJ (Itr lo (hi-lo).toNat) ρ σ H ⟨rangeL lo hi,none⟩:=by
 intro ρ2 σ2 H2 ex S2 _ i
 refine⟨fun x hx => ?_,fun h => ?_⟩
 ·have hx:(rangeL lo hi)[i]?=some x:=hx
  rw[range_get] at hx
  split at hx
  ·rename_i h
   cases hx
   refine⟨h,fun v H3 y => ?_⟩
   obtain⟨rfl,rfl⟩:=y
   exact⟨Ext.refl _ _ _,S2,rfl⟩
  ·cases hx
 ·show(hi-lo).toNat<=i
  have h:(rangeL lo hi).length<=i:=h
  simpa[rangeL] using h
theorem small_inv{i:Int}(h:small i=true) : -(2 ^ 62)<=i/\i<2 ^ 62:=by
 simp only[small,Bool.and_eq_true,decide_eq_true_eq] at h
 exact h
theorem over_inv{x:R}{σ σ':Store}{w:Walk}(h:wOver x σ = .ok w σ'):σ'=σ/\((∃ xs,x = .g (.tup xs)/\w=⟨xs.map .g,none⟩)\/(∃ k xs c,x = .ref k/\(c = .lst xs\/c = .rdl xs)/\σ[k]?=some c/\w=⟨xs.map .g,some (k,c)⟩)):=by
 cases x with
 |tr _=>simp[wOver] at h
 |g gx =>
  cases gx with
  |tup xs=>cases h;exact⟨rfl,.inl ⟨xs,rfl,rfl⟩⟩
  |_=>simp[wOver] at h
 |ref k =>
  simp only[wOver] at h
  split at h
  ·rename_i xs e;cases h;exact⟨rfl,.inr ⟨k,xs,_,rfl,.inl rfl,e,rfl⟩⟩
  ·rename_i xs e;cases h;exact⟨rfl,.inr ⟨k,xs,_,rfl,.inr rfl,e,rfl⟩⟩
  ·cases h
theorem bj_lst(K:PySem.W.Frag)(a:Addr):BJ K (Itl K a):=fun X pins σ H s i hK I ⟨xs,x,h,e⟩=>by
 subst hK
 obtain⟨_,_,_,hz⟩:=I.list h
 exact Nat.lt_of_lt_of_le (List.getElem?_eq_some_iff.mp e).1 hz
theorem bj_tup(K:PySem.W.Frag)(a:Addr):BJ K (Itt K a):=fun X pins σ H s i hK I ⟨xs,x,h,e⟩=>by
 subst hK
 obtain⟨_,_,_,hz⟩:=I.tuple h
 exact Nat.lt_of_lt_of_le (List.getElem?_eq_some_iff.mp e).1 hz
theorem bj_range(K:PySem.W.Frag)(lo:Int){n:Nat}(h:n<=big):BJ K (Itr lo n):=fun X pins σ H s i hK I g=>Nat.lt_of_lt_of_le g (Nat.le_trans h big_le)
theorem pi_over{tg e:Expr}{t:MP.Tm}(h:PE X e (E1 cl t)):PI X tg e (TIv X.K (evW cl (.over t))):=by
 refine PI.imp (PI.or (pi_list h) (pi_tup h)) fun st H R q => ?_
 obtain⟨ρ,ε,σ,w,σ',hE,hS,ew,q⟩:=q
 rw[evW] at ew
 obtain⟨x,σ1,e1,e2⟩:=bind_inv ew
 obtain⟨rfl,z⟩:=over_inv e2
 rcases z with⟨xs,rfl,rfl⟩ | ⟨k,xs,c,rfl,hc,hk,rfl⟩
 ·refine .inr ⟨ρ,ε,σ,_,_,hE,hS,e1,fun ρ' v H' ex S' rr => ?_⟩
  obtain⟨a,vs,rfl,ha,hx⟩:=rr
  exact⟨a,rfl,⟨vs,.of ha⟩,q ρ' H' _ ex S' (wj_tup S' ha hx) (bj_tup _ _)⟩
 ·refine .inl ⟨ρ,ε,σ,_,_,hE,hS,e1,fun ρ' v H' ex S' rr => ?_⟩
  obtain⟨hkl,rfl⟩:=rr
  obtain⟨vs,h1,h2⟩:=S'.lR (k:=k) (xs:=xs) (by rcases hc with rfl|rfl<;>first|exact .inl hk|exact .inr hk)
  exact⟨_,rfl,⟨vs,.inl h1⟩,q ρ' H' _ ex S' (wj_lst hkl hc) (bj_lst _ _)⟩
theorem pi_rng{tg a:Expr}{t:MP.Tm}{pp pos:Pos}(am:Amb X P W n)(hg:Gl X (Str.ofString "range"))(hs:notStar a=true)(h:PE X a (E1 cl t)):PI X tg (.Call (.Name (Str.ofString "range") pp) [a] [] pos) (TIv X.K (evW cl (.range1 t))):=by
 have ha:PA X [a] (A1 cl (.cons t .nil)):=(PEl.cons hs h .nil).pa
 refine PI.imp (pi_range1 hg (am.blt _ (by decide)) ha (starEach_cons hs)) fun st H R q => ?_
 obtain⟨ρ,ε,σ,w,σ',hE,hS,ew,q⟩:=q
 rw[evW] at ew
 obtain⟨x,σ1,e1,e2⟩:=bind_inv ew
 cases x with
 |ref _=>simp[wRange] at e2
 |tr _=>simp[wRange] at e2
 |g gx =>
  cases gx with
  |int j =>
   simp only[wRange] at e2
   split at e2
   ·rename_i c
    cases e2
    simp only[Bool.and_eq_true] at c
    have hj:=small_inv c.1.2
    have hb:(j-0).toNat<=big:=of_decide_eq_true c.2
    refine⟨ρ,ε,σ,[.g (.int j)],σ',hE,hS,by rw[evs,e1];simp[evs],fun ρ' vs H' ex S' rr => ?_⟩
    obtain⟨v,rfl,hv⟩:=rrs1 rr
    cases(show v = .int j from hv)
    refine⟨j,rfl,hj.1,hj.2,?_⟩
    have:=q ρ' H' (Itr 0 (j-0).toNat) ex S' wj_range (bj_range _ _ hb)
    simpa using this
   ·cases e2
  |_=>simp[wRange] at e2
inductive TCv (f:MP.Env->Store->Res Bool) (st:L2.St) (H:Hp) (Q:Bool->Hp->Prop):Prop
 |mk (ρ:Nat->Addr) (ε:MP.Env) (σ:Store) (b:Bool) (σ':Store) (hE:RE H ρ σ.length ε st) (hS:SR H ρ σ) (e:f ε σ = .ok b σ') (q:∀ ρ' H',Ext ρ σ.length H ρ' σ'.length H'->SR H' ρ' σ'->Q b H')
inductive PTl (X:Cx) (cl:CallH):List Expr->Tms->Prop where
 |nil:PTl X cl [] .nil
 |cons {e:Expr} {es:List Expr} {a:MP.Tm} {as:Tms}:PT X e (T1 cl a)->PTl X cl es as->PTl X cl (e::es) (.cons a as)
theorem PTl.pcs{es:List Expr}{as:Tms}(h:PTl X cl es as):PCs X es (TCv (evC cl as)):=by
 have imp:∀ {es:List Expr} {t t':TT},PCs X es t->(∀ σ H Q,t' σ H Q->t σ H Q)->PCs X es t':=fun h w pins s σ H Q I q=>h pins s σ H Q I (w σ H Q q)
 induction h with
 |nil =>
  refine imp pcs_nil fun st H Q ⟨ρ,ε,σ,b,σ',hE,hS,e,q⟩ => ?_
  rw[evC] at e
  cases e
  exact q ρ H (Ext.refl _ _ _) hS
 | @cons e es a as h1 h2 ih =>
  refine imp (pcs_cons h1 ih) fun st H Q ⟨ρ,ε,σ,b,σ',hE,hS,e,q⟩ => ?_
  rw[evC] at e
  obtain⟨r,σ1,e1,e2⟩:=bind_inv e
  cases r with
  |ref _=>cases e2
  |tr _=>cases e2
  |g gx =>
   cases gx with
   |bl c =>
    refine⟨ρ,ε,σ,c,σ1,hE,hS,e1,fun ρ1 H1 ex1 S1 => ?_⟩
    cases c with
    |true =>
     rw[if_pos rfl]
     exact⟨ρ1,ε,σ1,b,σ',hE.mono hS ex1,S1,e2,fun ρ2 H2 ex2 S2=>q ρ2 H2 (ex1.trans S1 ex2) S2⟩
    |false =>
     rw[if_neg Bool.false_ne_true]
     cases e2
     exact q ρ1 H1 ex1 S1
   |_=>cases e2
theorem SR.other{H:Hp}{ρ:Nat->Addr}{σ:Store}(S:SR H ρ σ){D:Addr}{vs:List V}(hD:H D=some (.lst vs))(nD:∀ i,i<σ.length->ρ i≠D)(o:HO):SR (upd H D o) ρ σ/\TPk H (upd H D o):=by
 have tp:TPk H (upd H D o):=fun a ws e=>by
  rw[upd_ne fun z => ?_]
  ·exact e
  ·rw[z,hD] at e;cases e
 refine⟨⟨fun i d e => ?_,S.inj,S.bd⟩,tp⟩
 have hne:ρ i≠D:=nD i (SR.lt e)
 have q:=S.cell i d e
 cases d with
 |lst xs=>obtain⟨vs,h1,h2⟩:=q;exact⟨vs,by rw[upd_ne hne];exact h1,RGs.mono tp xs h2⟩
 |rdl xs =>
  obtain⟨vs,h1,h2⟩:=q
  refine⟨vs,?_,RGs.mono tp xs h2⟩
  rcases h1 with h1 | ⟨ob,h1⟩
  ·exact .inl (by rw[upd_ne hne];exact h1)
  ·exact .inr ⟨ob,by rw[upd_ne hne];exact h1⟩
 |rls xs=>obtain⟨vs,h1,h2⟩:=q;exact⟨vs,by rw[upd_ne hne];exact h1,RRs.mono tp (Nat.le_refl _) (fun _ _=>rfl) xs h2⟩
 |stk m xs=>obtain⟨vs,h1,h2⟩:=q;exact⟨vs,by rw[upd_ne hne];exact h1,h2.imp id fun h2=>RRs.mono tp (Nat.le_refl _) (fun _ _=>rfl) xs h2⟩
 |_=>exact(show False from q).elim
theorem RRs.append{H:Hp}{ρ:Nat->Addr}{n:Nat}:∀ {xs ys:List R} {vs us:List V},RRs H ρ n xs vs->RRs H ρ n ys us->RRs H ρ n (xs++ys) (vs++us)
 | [],_,_,_,h,k=>by cases h;exact k
 |x::xs,_,_,_,h,k=>by
  obtain⟨v,r,rfl,h1,h2⟩:=h
  exact⟨v,r++_,rfl,h1,RRs.append h2 k⟩
noncomputable def BX(k:Nat)(x:V)(H:Hp)(bs:L2.St):Prop:=if k=1 then bs=[some x] else ∃ a vs,x = .ref a/\H a=some (.tup vs)/\vs.length=k/\bs=vs.map some
theorem bx_of{H:Hp}{ρ:Nat->Addr}{n k:Nat}{x:R}{v:V}{bs:List (Option R)}(hx:RR H ρ n x v)(e:MP.bindC k x=some bs):∃ cs,BX k v H cs/\bs.length=k/\∃ (rs:List R) (vs:List V),bs=rs.map some/\cs=vs.map some/\RRs H ρ n rs vs:=by
 unfold MP.bindC at e
 split at e
 ·rename_i hk
  cases e
  subst hk
  exact⟨[some v],by simp[BX],rfl,[x],[v],rfl,rfl,⟨v,[],rfl,hx,rfl⟩⟩
 ·rename_i hk
  split at e
  ·rename_i rs hp
   split at e
   ·rename_i hl
    cases e
    obtain⟨a,vs,rfl,ha,hr⟩:RR H ρ n (.tr rs) v:=by
     cases x with
     |ref _=>cases hp
     |tr xs=>cases hp;exact hx
     |g gx =>
      cases gx with
      |tup xs =>
       cases hp
       obtain⟨a,vs,rfl,ha,h⟩:=hx
       exact⟨a,vs,rfl,ha,RRs.toG h⟩
      |_=>cases hp
    exact⟨vs.map some,by rw[BX,if_neg hk];exact⟨a,vs,rfl,ha,by rw[hr.length,hl],rfl⟩,by simpa using hl,rs,vs,rfl,rfl,hr⟩
   ·cases e
  ·cases e
theorem RE.caps{H:Hp}{ρ:Nat->Addr}{n:Nat}{ε:MP.Env}{st:L2.St}(h:RE H ρ n ε st)(caps:List Nat){rs:List R}{vs:List V}(hx:RRs H ρ n rs vs):RE H ρ n (rs.map some++capsE ε caps) (vs.map some++caps.map fun j=>(st[j]?).getD none):=by
 have hl:=hx.length
 refine⟨by simp[capsE,hl],fun i r e => ?_⟩
 by_cases hi:i<rs.length
 ·rw[List.getElem?_append_left (by simpa using hi),List.getElem?_map] at e
  cases c:rs[i]? with
  |none=>rw[c] at e;cases e
  |some r' =>
   rw[c] at e
   cases e
   obtain⟨v,e1,e2⟩:=hx.get c
   exact⟨v,by rw[List.getElem?_append_left (by simp;omega),List.getElem?_map,e1];rfl,e2⟩
 ·rw[List.getElem?_append_right (by simpa using hi),List.length_map] at e
  simp only[capsE,List.getElem?_map] at e
  cases c:caps[i-rs.length]? with
  |none=>rw[c] at e;cases e
  |some k =>
   rw[c] at e
   simp only[Option.map_some,Option.some.injEq] at e
   cases c2:ε[k]? with
   |none=>rw[c2] at e;cases e
   |some o =>
    rw[c2] at e
    simp only[Option.getD_some] at e
    subst e
    obtain⟨u,e1,e2⟩:=h.val k r c2
    refine⟨u,?_,e2⟩
    rw[List.getElem?_append_right (by simp;omega),List.length_map,hl,List.getElem?_map,c]
    simp only[Option.map_some,e1,Option.getD_some]
theorem compL_cons_inv{f:R->Store->Res (Option R)}{w:Option (Nat × Cell)}{x:R}{r:List R}{σ σ':Store}{ys:List R}(h:compL f w (x::r) σ = .ok ys σ') :
 intact w σ=true/\∃ o σ1 zs,f x σ = .ok o σ1/\compL f w r σ1 = .ok zs σ'/\ys=(match o with|some y=>y::zs|none=>zs):=by
 simp only[compL] at h
 split at h
 ·rename_i hi
  obtain⟨o,σ1,e1,h⟩:=bind_inv h
  obtain⟨zs,σ2,e2,h⟩:=bind_inv h
  cases h
  exact⟨hi,o,σ1,zs,e1,e2,rfl⟩
 ·cases h
theorem comp_lift{K:PySem.W.Frag}{kn:Nat}{caps:List Nat}{s:Src}{conds:Tms}{elt:MP.Tm}(st:L2.St)(H:Hp)(Q:VK)(t:E1 cl (.comp kn caps s conds elt) st H Q) :
 tLC K (BX kn) (TIv K (evW cl s)) caps (TCv (evC cl conds)) (E1 cl elt) st H Q:=by
 obtain⟨ρ,ε,σ,r,σ',hE,hS,e,q⟩:=t
 rw[ev_comp] at e
 cases ew:evW cl s ε σ with
 |exc c σ1=>rw[ew] at e;cases e
 |stuck=>rw[ew] at e;cases e
 |ok w σ1 =>
  rw[ew,kC1_ok] at e
  generalize hf:compF cl kn caps conds elt ε=f at e
  cases ec:compL f w.guard w.items σ1 with
  |exc c σ2=>rw[ec] at e;cases e
  |stuck=>rw[ec] at e;cases e
  |ok ys σ3 =>
   rw[ec] at e
   cases e
   refine⟨ρ,ε,σ,w,σ1,hE,hS,ew,fun ρ1 H1 J ex1 S1 wj bj=>⟨bj,fun D hD => ?_⟩⟩
   have hE1:=hE.mono hS ex1
   let vals:List (Option V):=caps.map fun j=>(st[j]?).getD none
   refine⟨fun i m acc H2=>m=w.items.length-i/\i<=w.items.length/\acc.length<=i/\∃ ρ2 σ2 dn td,Ext ρ1 σ1.length H1 ρ2 σ2.length H2/\SR H2 ρ2 σ2/\(∀ j,j<σ2.length->ρ2 j≠D)/\H2 D=some (.lst acc) ∧
    RRs H2 ρ2 σ2.length dn acc/\compL f w.guard (w.items.drop i) σ2 = .ok td σ3/\dn++td=ys,⟨w.items.length,by simp,Nat.zero_le _,Nat.le_refl _,ρ1,σ1,[],ys,?_,?_,?_,upd_same,rfl,by simpa using ec,rfl⟩,?_⟩
   ·obtain⟨e1,_,_⟩:=S1.tup hD (.lst [])
    exact e1
   ·exact(S1.tup hD (.lst [])).2.1
   ·intro j hj z
    obtain⟨o,eo,_⟩:=S1.at hj
    rw[z,hD] at eo
    cases eo
   ·rintro i m acc H2 ⟨rfl,hi,hlen,ρ2,σ2,dn,td,ex2,S2,nD,hD2,hdn,hc,hys⟩
    refine⟨hD2,?_⟩
    by_cases hlt:i<w.items.length
    ·have hd:w.items.drop i=w.items[i]::w.items.drop (i+1):=List.drop_eq_getElem_cons hlt
     rw[hd] at hc
     obtain⟨hin,o,σ4,zs,ef,hc',hz⟩:=compL_cons_inv hc
     have hwj:=wj ρ2 σ2 H2 ex2 S2 hin i
     obtain⟨go,yl⟩:=hwj.1 w.items[i] (by simp[hlt])
     refine .inr ⟨go,fun x H3 y => ?_⟩
     obtain⟨ex3,S3,rx⟩:=yl x H3 y
     have hE3:RE H3 ρ2 σ2.length ε st:=(hE1.mono S1 ex2).mono S2 ex3
     have hD3:H3 D=some (.lst acc):=ex3.kp D _ hD2 fun j hj z=>nD j hj z
     have tp23:=ex3.tp S2
     have hdn3:=RRs.mono tp23 (Nat.le_refl _) ex3.ag _ hdn
     have ex13:=ex2.trans S2 ex3
     rw[← hf] at ef
     unfold compF turnC at ef
     split at ef
     rotate_left
     ·cases ef
     rename_i bs hbs
     obtain⟨cs,hcs,_,rs',vs',rfl,rfl,hrv⟩:=bx_of rx hbs
     have hEc:=hE3.caps caps hrv
     obtain⟨b,σ5,e1,e2⟩:=bind_inv ef
     refine⟨_,hcs,ρ2,_,σ2,b,σ5,hEc,S3,e1,fun ρ5 H5 ex5 S5 => ?_⟩
     have hD5:H5 D=some (.lst acc):=ex5.kp D _ hD3 fun j hj z=>nD j hj z
     have nD5:∀ j,j<σ5.length->ρ5 j≠D:=fun j hj z=>by
      by_cases hj2:j<σ2.length
      ·rw[ex5.ag j hj2] at z;exact nD j hj2 z
      ·have:=ex5.fr j (Nat.not_lt.mp hj2) hj
       rw[z,hD3] at this;cases this
     have hdn5:=RRs.mono (ex5.tp S3) ex5.le ex5.ag _ hdn3
     cases b with
     |false =>
      refine iteF ?_
      rw[if_neg Bool.false_ne_true] at e2
      cases e2
      exact⟨w.items.length-(i+1),by omega,rfl,hlt,Nat.le_succ_of_le hlen,ρ5,_,dn,zs,ex13.trans S3 ex5,S5,nD5,hD5,hdn5,hc',by rw[← hys,hz]⟩
     |true =>
      refine iteT ?_
      rw[if_pos rfl] at e2
      obtain⟨y',σ6,e3,e4⟩:=bind_inv e2
      cases e4
      refine⟨ρ5,_,σ5,y',_,hEc.mono S3 ex5,S5,e3,fun ρ6 v6 H6 ex6 S6 r6 => ?_⟩
      have hD6:H6 D=some (.lst acc):=ex6.kp D _ hD5 fun j hj z=>nD5 j hj z
      have nD6:∀ j,j<σ4.length->ρ6 j≠D:=fun j hj z=>by
       by_cases hj2:j<σ5.length
       ·rw[ex6.ag j hj2] at z;exact nD5 j hj2 z
       ·have:=ex6.fr j (Nat.not_lt.mp hj2) hj
        rw[z,hD5] at this;cases this
      have hdn6:=RRs.mono (ex6.tp S5) ex6.le ex6.ag _ hdn5
      obtain⟨S7,tp7⟩:=S6.other hD6 nD6 (.lst (acc++[v6]))
      have ex16:=(ex13.trans S3 ex5).trans S5 ex6
      have ex7:Ext ρ1 σ1.length H1 ρ6 σ4.length (upd H6 D (.lst (acc++[v6]))):=⟨ex16.le,ex16.ag,ex16.fr,fun a o ea hn=>by
       rw[upd_ne fun z=>by rw[z,hD] at ea;cases ea]
       exact ex16.kp a o ea hn,fun a ob u ea=>by
       rw[upd_ne fun z=>by rw[z,hD] at ea;cases ea]
       exact ex16.fz a ob u ea⟩
      refine⟨hD6,hlen,w.items.length-(i+1),by omega,rfl,hlt,by simp;omega,ρ6,σ4,dn++[y'],zs,ex7,S7,nD6,upd_same,?_,hc',by rw[← hys,hz];simp⟩
      exact(RRs.mono tp7 (Nat.le_refl _) (fun _ _=>rfl) _ hdn6).append ⟨v6,[],rfl,RR.mono tp7 (Nat.le_refl _) (fun _ _=>rfl) _ r6,rfl⟩
    ·have hii:i=w.items.length:=by omega
     have hd:w.items.drop i=[]:=List.drop_eq_nil_of_le (by omega)
     rw[hd] at hc
     simp only[compL] at hc
     split at hc
     ·rename_i hin
      cases hc
      rw[List.append_nil] at hys
      subst hys
      refine .inl ⟨((wj ρ2 σ3 H2 ex2 S2 hin i).2 (by omega)),?_⟩
      let ρ3:Nat->Addr:=fun j=>if j=σ3.length then D else ρ2 j
      have ag3:∀ j,j<σ3.length->ρ3 j=ρ2 j:=fun j hj=>by simp[ρ3,Nat.ne_of_lt hj]
      have e3:ρ3 σ3.length=D:=by simp[ρ3]
      have ex3:Ext ρ1 σ1.length H1 ρ3 (σ3++[mkLst dn]).length H2:=by
       refine⟨Nat.le_trans ex2.le (by simp),fun j hj=>by rw[ag3 j (Nat.lt_of_lt_of_le hj ex2.le),ex2.ag j hj],fun j h1 h2 => ?_,ex2.kp,ex2.fz⟩
       by_cases hj:j<σ3.length
       ·rw[ag3 j hj];exact ex2.fr j h1 hj
       ·have:j=σ3.length:=by simp at h2;omega
        rw[this,e3];exact hD
      have S3:SR H2 ρ3 (σ3++[mkLst dn]):=by
       refine⟨fun j c ej => ?_,fun j k hj hk ejk => ?_,fun j m xs ej => ?_⟩
       ·by_cases hj:j<σ3.length
        ·rw[List.getElem?_append_left hj] at ej
         have qc:=S2.cell j c ej
         cases c with
         |lst xs=>obtain⟨vs,h1,h2⟩:=qc;exact⟨vs,by rw[ag3 j hj];exact h1,h2⟩
         |rdl xs=>obtain⟨vs,h1,h2⟩:=qc;exact⟨vs,by rw[ag3 j hj];exact h1,h2⟩
         |rls xs=>obtain⟨vs,h1,h2⟩:=qc;exact⟨vs,by rw[ag3 j hj];exact h1,RRs.mono (fun _ _ h=>h) (Nat.le_refl _) (fun l hl=>ag3 l (Nat.lt_trans hl hj)) _ h2⟩
         |stk m xs =>
          have hm:=S2.bd j m xs ej
          obtain⟨vs,h1,h2⟩:=qc
          exact⟨vs,by rw[ag3 j hj];exact h1,h2.imp id fun h2=>RRs.mono (fun _ _ h=>h) (Nat.le_refl _) (fun l hl=>ag3 l (Nat.lt_of_lt_of_le hl hm)) _ h2⟩
         |_=>exact(show False from qc).elim
        ·have hjl:=SR.lt ej
         have hjj:j=σ3.length:=by simp at hjl;omega
         subst hjj
         rw[List.getElem?_append_right (Nat.le_refl _)] at ej
         simp at ej
         subst ej
         unfold mkLst
         cases c:allG dn with
         |some gs=>exact⟨acc,by rw[e3];exact hD2,RRs.ofG c hdn⟩
         |none=>exact⟨acc,by rw[e3];exact hD2,RRs.mono (fun _ _ h=>h) (Nat.le_refl _) ag3 _ hdn⟩
       ·simp at hj hk
        by_cases h1:j=σ3.length
        ·by_cases h2:k=σ3.length
         ·omega
         ·rw[h1,e3,ag3 k (by omega)] at ejk
          exact absurd ejk.symm (nD k (by omega))
        ·by_cases h2:k=σ3.length
         ·rw[h2,e3,ag3 j (by omega)] at ejk
          exact absurd ejk (nD j (by omega))
         ·rw[ag3 j (by omega),ag3 k (by omega)] at ejk
          exact S2.inj j k (by omega) (by omega) ejk
       ·simp only[List.length_append,List.length_singleton]
        by_cases hj:j<σ3.length
        ·rw[List.getElem?_append_left hj] at ej
         exact Nat.le_succ_of_le (S2.bd j m xs ej)
        ·have hjl:=SR.lt ej
         have hjj:j=σ3.length:=by simp at hjl;omega
         subst hjj
         rw[List.getElem?_append_right (Nat.le_refl _)] at ej
         simp at ej
         unfold mkLst at ej
         split at ej<;>cases ej
      exact q ρ3 (.ref D) H2 (ex1.trans S1 ex3) S3 ⟨by simp,by rw[e3]⟩
     ·cases hc
end
end SN
namespace SN
open PySem PySem.Spec PyProof.Rows L2 MP
variable [Wd][Cl]
section
variable {X:Cx}{P:List Fn}{W n:Nat}{cl:CallH}
noncomputable def Its(x:List Nat):It:=⟨fun i _=>i<x.length,fun i H v H'=>H'=H/\∃ c,x[i]?=some c/\v = .str (sOf [c]),fun i _=>x.length<=i⟩
theorem cps_at{x:List Nat}{i:Nat}:(sOf x).cps[i]?=x[i]?:=by simp[sOf]
theorem str_iter_at{h h':Heap}{it:Addr}{ty:String}{x:Str}{t:Tok}{i:Nat}(st:h.IsStrIter it ty x t i)(k:∀ o,h.get? it=some o->h'.get? it=some o):h'.IsStrIter it ty x t i:=by
 obtain⟨o,e,r⟩:=st
 exact⟨o,k o e,r⟩
theorem turn_str{Pg:Program}{w:World}{K:PySem.W.Frag}{tg:Expr}(ty:String)(hty:ty="str_ascii_iterator"\/ty="str_iterator")(x:List Nat)(t:Tok)(it:Addr):Turn Pg w K tg (Its x) [it] it (fun i h=>h.IsStrIter it ty (sOf x) t i) where
 mem:=by simp
 obj:=fun i h st b hb=>by
  have e:b=it:=by simpa using hb
  subst e
  obtain⟨o,e,c,d⟩:=st
  exact⟨o,e,fun v z=>by rw[d] at z;cases z⟩
 keep:=fun i h h' st k=>str_iter_at st fun o e=>k it (by simp) o e
 item:=by
  intro X hP hw hK hc i pins s σ H E I hf st hg
  subst hP hw hK
  obtain⟨c,hx⟩:∃ c,x[i]?=some c:=⟨_,List.getElem?_eq_getElem hg⟩
  have hx':(sOf x).cps[i]?=some c:=cps_at.trans hx
  obtain⟨f0,f1,f2,f3,f4,f5⟩:=hf it (by simp)
  have fin:∀ h':Heap,h'.IsStrIter it ty (sOf x) t (i+1)->Heap.SameBut it s.heap h'->∃ u,some (Value.str ⟨#[c]⟩ s.toks)=some u/\wpAny (model X.prog X.w) X.A (letOwnedTupleGo tg (.ref it) u) (fun _ s2=>∃ x' H',Inv X pins σ H' s2/\RelV x' u/\(Its x).yld i H x' H'/\s2.heap.IsStrIter it ty (sOf x) t (i+1)/\∀ b ∈ [it],H' b=none) E {s with heap:=h',toks:=s.toks+1}:=fun h' st' sb=>by
   have I1:Inv X pins σ H {s with heap:=h',toks:=s.toks+1}:=I.turned (t':=s.toks+1) (fun b o hb e=>(sb.2 b hb).trans e) f0 f1 f3 f4 f5
   obtain⟨o,e,c',d⟩:=id st'
   exact⟨_,rfl,go_of (s:={s with heap:=h',toks:=s.toks+1}) e c' d (by rcases hty with rfl|rfl<;>decide) ⟨.str (sOf [c]),H,I1,⟨_,rfl⟩,⟨rfl,c,hx,rfl⟩,st',fun b hb=>(hf b hb).1⟩⟩
  rcases hty with rfl|rfl
  ·exact wpAny_pyNext_ascii_item st hx' fin
  ·exact wpAny_pyNext_wide_item st hx' fin
 done:=by
  intro X hP hw hK hc i pins s σ H E I hf st hg
  subst hP hw hK
  have hx':(sOf x).cps[i]?=none:=cps_at.trans (List.getElem?_eq_none hg)
  obtain⟨f0,f1,f2,f3,f4,f5⟩:=hf it (by simp)
  have fin:∀ h':Heap,Heap.ExtBut it s.heap h'->(none:Option Value)=none/\Inv X pins σ H {s with heap:=h'}:=fun h' eb=>⟨rfl,I.turned (t':=s.toks) (fun b o hb e=>eb b o hb e) f0 f1 f3 f4 f5⟩
  rcases hty with rfl|rfl
  ·exact wpAny_pyNext_ascii_end (I.ok.hd hc) st hx' fin
  ·exact wpAny_pyNext_wide_end (I.ok.hd hc) st hx' fin
 self:=fun _ _ _ _ _ st h=>by
  rcases hty with rfl|rfl
  ·exact wpAny_pyIter_striter_ascii st h
  ·exact wpAny_pyIter_striter_wide st h
noncomputable def iStr(tl:TE):TI:=fun σ H R=>tl σ H fun x H1=>∃ z,x = .str (sOf z)/\R (Its z) H1
theorem pi_str{tg l:Expr}{tl:TE}(hl:PE X l tl):PI X tg l (iStr tl):=by
 intro pins s σ H R I h
 refine thn (hl pins s σ H _ I h) fun v s1 ⟨x,H1,I1,r1,q1⟩ => ?_
 obtain⟨z,e,q⟩:=q1
 subst e
 obtain⟨t,rfl⟩:=r1
 have fin:∀ ty,ty="str_ascii_iterator"\/ty="str_iterator"->PIE X pins σ tg R (.ref s1.heap.objs.size) {s1 with heap:=s1.heap.push {cls:=.type ty,data:=.fields #[.str (sOf z) t,.int 0 0]}}:=fun ty hty=>by
  refine⟨s1.heap.objs.size,[s1.heap.objs.size],_,_,H1,rfl,I1.kept (t':=s1.toks) fun b o e=>Heap.get?_push_of_some _ e,turn_str ty hty z t _,⟨_,Heap.get?_push_size _ rfl,rfl,rfl⟩,fun b hb => ?_,q⟩
  have e:b=s1.heap.objs.size:=by simpa using hb
  subst e
  exact I1.fpOk (Nat.le_refl _) (I1.hok.fresh (Nat.le_refl _))
 cases ha:(sOf z).cps.all (· < 128) with
 |true=>exact wpAny_pyIter_ascii ha (fin _ (.inl rfl))
 |false=>exact wpAny_pyIter_wide ha (fin _ (.inr rfl))
theorem wj_str{ρ:Nat->Addr}{σ:Store}{H:Hp}{x:List Nat}(ho:okS x=true):WJ (Its x) ρ σ H ⟨x.map fun c=>.g (.str [c]),none⟩:=by
 intro ρ2 σ2 H2 ex S2 _ i
 refine⟨fun y hy => ?_,fun h => ?_⟩
 ·obtain⟨c,e,rfl⟩:=map_get hy
  refine⟨(List.getElem?_eq_some_iff.mp e).1,fun v H3 q => ?_⟩
  obtain⟨rfl,d,e2,rfl⟩:=q
  rw[e] at e2
  cases e2
  refine⟨Ext.refl _ _ _,S2,rfl,okS_of (show 1<=16777216 by decide) ?_⟩
  have:=List.all_eq_true.mp (okS_all ho) c (List.mem_of_getElem? e)
  simpa using this
 ·show x.length<=i
  have h:(x.map fun c=>R.g (.str [c])).length<=i:=h
  simpa using h
theorem bj_str(K:PySem.W.Frag){x:List Nat}(h:x.length<=16777216):BJ K (Its x):=fun X pins σ H s i hK I g=>Nat.lt_of_lt_of_le (show i<x.length from g) (Nat.le_trans h (by rw[sizeLine_eq];decide))
theorem pi_chars{tg e:Expr}{t:MP.Tm}(h:PE X e (E1 cl t)):PI X tg e (TIv X.K (evW cl (.chars t))):=by
 refine PI.imp (pi_str h) fun st H R q => ?_
 obtain⟨ρ,ε,σ,w,σ',hE,hS,ew,q⟩:=q
 rw[evW] at ew
 obtain⟨x,σ1,e1,e2⟩:=bind_inv ew
 cases x with
 |ref _=>cases e2
 |tr _=>cases e2
 |g gx =>
  cases gx with
  |str z =>
   cases e2
   refine⟨ρ,ε,σ,_,_,hE,hS,e1,fun ρ' v H' ex S' rr => ?_⟩
   obtain⟨rfl,ho⟩:=rr
   exact⟨z,rfl,q ρ' H' _ ex S' (wj_str ho) (bj_str _ (okS_len ho))⟩
  |_=>cases e2
end
end SN
namespace SN
open PySem PySem.Spec PyProof.Rows L2 MP
variable [Wd][Cl]
section
variable {X:Cx}{pins:List (Addr × Obj)}{σ:L2.St}{H:Hp}{s:Shared}{a:Addr}{ws:List (Key × V)}{ob:Obj}
variable {tg:Expr}
end
end SN
namespace SN
open PySem PySem.Spec PyProof.Rows L2 MP
variable [Wd][Cl]
end SN
namespace SN
open PySem PySem.Spec PyProof.Rows L2 MP
variable [Wd][Cl]
section
variable {X:Cx}{pins:List (Addr × Obj)}{σ:L2.St}{H:Hp}{s:Shared}{P:List Fn}{W n:Nat}{cl:CallH}
noncomputable def gNames:List Nat->TGs
 | []=>gNil
 |i::is=>gCons (gName i) (gNames is)
theorem tg_sound{tg:Expr}{xs names:List Str}{caps:List Nat}{scope:Scope}(am:Amb X P W n)(e:tgNames tg=some xs)(ok:CompOk X xs caps names scope) :
 ∃ g:TG,(∀ C fp s H,PG (cxC X (xs++names) scope (frees X.env.cells scope.names []) C fp s H) tg g)/\(∀ y H bs,BX xs.length y H bs->bs.length=xs.length) ∧
  (∀ y H bs os vals,BX xs.length y H bs->os.length=xs.length->g y (os++vals) H fun σ' H'=>σ'=bs++vals/\H'=H):=by
 rcases tgE e with⟨x,px,rfl,rfl⟩ | ⟨x,y,px,py,k,pos,rfl,rfl⟩
 ·refine⟨gName 0,fun C fp s H=>pg_name (X:=cxC X ([x]++names) scope _ C fp s H) (i:=0) (x:=x) ok.nod rfl (.inl (lookup_relabel_local (ok.tgt x (by simp)))) (.inr (lookup_relabel_local (ok.tgt x (by simp)))),fun y H bs h => ?_,fun y H bs os vals h hl => ?_⟩
  ·cases(show bs=[some y] from h);rfl
  ·cases(show bs=[some y] from h)
   match os,hl with
   | [o],_=>exact⟨rfl,rfl⟩
 ·refine⟨gTup X.K 2 (gNames [0,1]),fun C fp s H => ?_,fun v H bs h => ?_,fun v H bs os vals h hl => ?_⟩
  ·have p0:PG (cxC X ([x,y]++names) scope (frees X.env.cells scope.names []) C fp s H) (.Name x px) (gName 0):=pg_name (i:=0) (x:=x) ok.nod rfl (.inl (lookup_relabel_local (ok.tgt x (by simp)))) (.inr (lookup_relabel_local (ok.tgt x (by simp))))
   have p1:PG (cxC X ([x,y]++names) scope (frees X.env.cells scope.names []) C fp s H) (.Name y py) (gName 1):=pg_name (i:=1) (x:=y) ok.nod rfl (.inl (lookup_relabel_local (ok.tgt y (by simp)))) (.inr (lookup_relabel_local (ok.tgt y (by simp))))
   exact pg_tup am.calm (pgs_cons p0 (pgs_cons p1 pgs_nil rfl) rfl) rfl rfl
  ·obtain⟨a,vs,rfl,ha,hl,rfl⟩:=(show ∃ a vs,v = .ref a/\H a=some (.tup vs)/\vs.length=2/\bs=vs.map some from h)
   simpa using hl
  ·obtain⟨a,vs,rfl,ha,hl2,rfl⟩:=(show ∃ a vs,v = .ref a/\H a=some (.tup vs)/\vs.length=2/\bs=vs.map some from h)
   match vs,hl2,os,hl with
   | [v1,v2],_,[o1,o2],_=>exact⟨a,[v1,v2],rfl,.of ha,rfl,v1,[v2],rfl,v2,[],rfl,rfl,rfl,rfl⟩
end
end SN
namespace SN
open PySem PySem.Spec PyProof.Rows L2 MP
variable [Wd][Cl]
section
variable {X:Cx}{P:List Fn}{W n:Nat}{cl:CallH}
end
end SN
namespace SN
open PySem PySem.Spec PyProof.Rows L2 MP
variable [Wd][Cl]
section
variable {P:List Fn}{W n:Nat}
theorem tt_and{cl:CallH}{a b:MP.Tm}(st:L2.St)(H:Hp)(Q:Bool->Hp->Prop)(t:T1 cl (.andT a b) st H Q):tAnd (T1 cl a) (T1 cl b) st H Q:=by
 obtain⟨ρ,ε,σ,c,σ',hE,hS,e,q⟩:=t
 rw[ev] at e
 obtain⟨r,σ1,e1,e2⟩:=bind_inv e
 cases r with
 |ref _=>cases e2
 |tr _=>cases e2
 |g gx =>
  cases gx with
  |bl d =>
   refine⟨ρ,ε,σ,d,σ1,hE,hS,e1,fun ρ1 H1 ex1 S1 => ?_⟩
   cases d with
   |true=>exact iteT ⟨ρ1,ε,σ1,c,σ',hE.mono hS ex1,S1,e2,fun ρ2 H2 ex2 S2=>q ρ2 H2 (ex1.trans S1 ex2) S2⟩
   |false=>cases e2;exact iteF (q ρ1 H1 ex1 S1)
  |_=>cases e2
theorem tt_or{cl:CallH}{a b:MP.Tm}(st:L2.St)(H:Hp)(Q:Bool->Hp->Prop)(t:T1 cl (.orT a b) st H Q):tOr (T1 cl a) (T1 cl b) st H Q:=by
 obtain⟨ρ,ε,σ,c,σ',hE,hS,e,q⟩:=t
 rw[ev] at e
 obtain⟨r,σ1,e1,e2⟩:=bind_inv e
 cases r with
 |ref _=>cases e2
 |tr _=>cases e2
 |g gx =>
  cases gx with
  |bl d =>
   refine⟨ρ,ε,σ,d,σ1,hE,hS,e1,fun ρ1 H1 ex1 S1 => ?_⟩
   cases d with
   |false=>exact iteF ⟨ρ1,ε,σ1,c,σ',hE.mono hS ex1,S1,e2,fun ρ2 H2 ex2 S2=>q ρ2 H2 (ex1.trans S1 ex2) S2⟩
   |true=>cases e2;exact iteT (q ρ1 H1 ex1 S1)
  |_=>cases e2
theorem te_and{cl:CallH}{a b:MP.Tm}(st:L2.St)(H:Hp)(Q:VK)(t:E1 cl (.andT a b) st H Q):tAndV (E1 cl a) (E1 cl b) st H Q:=by
 obtain⟨ρ,ε,σ,r,σ',hE,hS,e,q⟩:=t
 rw[ev] at e
 obtain⟨r1,σ1,e1,e2⟩:=bind_inv e
 cases r1 with
 |ref _=>cases e2
 |tr _=>cases e2
 |g gx =>
  cases gx with
  |bl d =>
   refine⟨ρ,ε,σ,.g (.bl d),σ1,hE,hS,e1,fun ρ1 v1 H1 ex1 S1 r1=>⟨d,r1,?_⟩⟩
   cases d with
   |true=>exact iteT ⟨ρ1,ε,σ1,r,σ',hE.mono hS ex1,S1,e2,q.after ex1 S1⟩
   |false=>cases e2;exact iteF (q ρ1 _ H1 ex1 S1 rfl)
  |_=>cases e2
theorem te_or{cl:CallH}{a b:MP.Tm}(st:L2.St)(H:Hp)(Q:VK)(t:E1 cl (.orT a b) st H Q):tOrV (E1 cl a) (E1 cl b) st H Q:=by
 obtain⟨ρ,ε,σ,r,σ',hE,hS,e,q⟩:=t
 rw[ev] at e
 obtain⟨r1,σ1,e1,e2⟩:=bind_inv e
 cases r1 with
 |ref _=>cases e2
 |tr _=>cases e2
 |g gx =>
  cases gx with
  |bl d =>
   refine⟨ρ,ε,σ,.g (.bl d),σ1,hE,hS,e1,fun ρ1 v1 H1 ex1 S1 r1=>⟨d,r1,?_⟩⟩
   cases d with
   |false=>exact iteF ⟨ρ1,ε,σ1,r,σ',hE.mono hS ex1,S1,e2,q.after ex1 S1⟩
   |true=>cases e2;exact iteT (q ρ1 _ H1 ex1 S1 rfl)
  |_=>cases e2
theorem tt_not{cl:CallH}{a:MP.Tm}(st:L2.St)(H:Hp)(Q:Bool->Hp->Prop)(hb:∀ ε σ r σ',ev cl true a ε σ = .ok r σ'->∃ b,r = .g (.bl b))(t:T1 cl (.notT a) st H Q):tNot (T1 cl a) st H Q:=by
 obtain⟨ρ,ε,σ,c,σ',hE,hS,e,q⟩:=t
 rw[ev] at e
 obtain⟨r,σ1,e1,e2⟩:=bind_inv e
 obtain⟨b,rfl⟩:=hb _ _ _ _ e1
 cases e2
 exact⟨ρ,ε,σ,b,_,hE,hS,e1,q⟩
theorem ev_true_leaf{cl:CallH}(t:MP.Tm)(hl:isLeaf t=true)(ε:MP.Env)(σ:Store)(r:R)(σ':Store)(e:ev cl true t ε σ = .ok r σ'):∃ b,r = .g (.bl b):=by
 rw[leaf_true hl] at e
 obtain⟨r1,σ1,e1,e2⟩:=bind_inv e
 simp only[truR,if_true] at e2
 obtain⟨b,e3,e4⟩:=ofO_inv e2
 cases e4
 exact⟨b,rfl⟩
theorem ev_true_bl{cl:CallH}:∀ (t:MP.Tm) (ε:MP.Env) (σ:Store) (r:R) (σ':Store),ev cl true t ε σ = .ok r σ'->∃ b,r = .g (.bl b)
 | .andT a b,ε,σ,r,σ',e=>by
  rw[ev] at e
  obtain⟨r1,σ1,e1,e2⟩:=bind_inv e
  obtain⟨c,rfl⟩:=ev_true_bl a _ _ _ _ e1
  cases c with
  |true=>exact ev_true_bl b _ _ _ _ e2
  |false=>cases e2;exact⟨_,rfl⟩
 | .orT a b,ε,σ,r,σ',e=>by
  rw[ev] at e
  obtain⟨r1,σ1,e1,e2⟩:=bind_inv e
  obtain⟨c,rfl⟩:=ev_true_bl a _ _ _ _ e1
  cases c with
  |false=>exact ev_true_bl b _ _ _ _ e2
  |true=>cases e2;exact⟨_,rfl⟩
 | .notT a,ε,σ,r,σ',e=>by
  rw[ev] at e
  obtain⟨r1,σ1,e1,e2⟩:=bind_inv e
  obtain⟨b,e3,e4⟩:=ofO_inv e2
  cases e4
  exact⟨_,rfl⟩
 | .ifT c a b,ε,σ,r,σ',e=>by
  rw[ev] at e
  obtain⟨r1,σ1,e1,e2⟩:=bind_inv e
  obtain⟨d,rfl⟩:=ev_true_bl c _ _ _ _ e1
  cases d with
  |true=>exact ev_true_bl a _ _ _ _ e2
  |false=>exact ev_true_bl b _ _ _ _ e2
 | .chain p q a b c,ε,σ,r,σ',e=>by
  rw[ev] at e
  obtain⟨x,σ1,e1,e⟩:=bind_inv e
  obtain⟨y,σ2,e2,e⟩:=bind_inv e
  obtain⟨r1,σ3,e3,e⟩:=bind_inv e
  cases r1 with
  |ref _=>cases e
  |tr _=>cases e
  |g gx =>
   cases gx with
   |bl d =>
    cases d with
    |true =>
     obtain⟨z,σ4,e4,e⟩:=bind_inv e
     obtain⟨r2,σ5,e5,e⟩:=bind_inv e
     simp only[truR,if_true] at e
     obtain⟨b,e6,e7⟩:=ofO_inv e
     cases e7
     exact⟨b,rfl⟩
    |false=>cases e;exact⟨_,rfl⟩
   |_=>cases e
 | .var i,ε,σ,r,σ',e=>ev_true_leaf _ rfl ε σ r σ' e
 | .con x,ε,σ,r,σ',e=>ev_true_leaf _ rfl ε σ r σ' e
 | .glb _ _,ε,σ,r,σ',e=>ev_true_leaf _ rfl ε σ r σ' e
 | .op _ _,ε,σ,r,σ',e=>ev_true_leaf _ rfl ε σ r σ' e
 | .meth _ _ _,ε,σ,r,σ',e=>ev_true_leaf _ rfl ε σ r σ' e
 | .call _ _,ε,σ,r,σ',e=>ev_true_leaf _ rfl ε σ r σ' e
 | .comp _ _ _ _ _,ε,σ,r,σ',e=>ev_true_leaf _ rfl ε σ r σ' e
section
variable {X:Cx}
theorem pe_notT{a:Expr}{ta:TE}{pos:Pos}(ha:PE X a ta):PE X (.UnaryOp .Not a pos) (fun σ H Q=>ta σ H fun x H1=>∃ k,TruV X.K x H1 k/\Q (.bl (!k)) H1):=by
 intro pins s σ H Q I h
 refine UnaryOp_ (thn (ha pins s σ H _ I h) fun v s1 ⟨x,H1,I1,r1,k,tk,q1⟩ => ?_)
 refine not_of (thn (tru_ok pins s1 σ H1 x v (fun b H'=>Q (.bl (!b)) H') I1 r1 ⟨k,tk,q1⟩) fun b s2 ⟨H2,I2,q2⟩ => ?_)
 exact⟨.bl (!b),H2,I2,rfl,q2⟩
theorem te_not{cl:CallH}{a:MP.Tm}(st:L2.St)(H:Hp)(Q:VK)(t:E1 cl (.notT a) st H Q):E1 cl a st H fun x H1=>∃ k,TruV X.K x H1 k/\Q (.bl (!k)) H1:=by
 obtain⟨ρ,ε,σ,r,σ',hE,hS,e,q⟩:=t
 rw[ev] at e
 obtain⟨r1,σ1,e1,e2⟩:=bind_inv e
 obtain⟨b,e3,e4⟩:=ofO_inv e2
 cases e4
 exact⟨ρ,ε,σ,r1,_,hE,hS,e1,fun ρ1 v1 H1 ex1 S1 rr=>⟨b,tru_TruV S1 rr e3,q ρ1 _ H1 ex1 S1 rfl⟩⟩
theorem pt_ifExp{c a b:Expr}{tc ta tb:TT}{pos:Pos}(hc:PT X c tc)(ha:PT X a ta)(hb:PT X b tb):PT X (.IfExp c a b pos) (fun σ H Q=>tc σ H fun d H1=>if d=true then ta σ H1 Q else tb σ H1 Q):=by
 intro pins s σ H Q I h
 unfold PySem.isTrue
 refine wpAny_bind (thn (hc pins s σ H _ I h) fun d s1 ⟨H1,I1,q1⟩ => ?_)
 cases d with
 |true=>exact ha pins s1 σ H1 Q I1 q1
 |false=>exact hb pins s1 σ H1 Q I1 q1
theorem folded{iter:Expr}{env:PySem.Env}(h:notSet iter=true):∀ x,foldedSetIterable iter env x=pure x:=by
 intro x
 cases iter<;>first|rfl|(cases h;done)
theorem un_neg1{i:Int}{k:Nat}{pos pos':Pos}:PE X (.UnaryOp .USub (.Constant (.int i) k pos) pos') (tC (.int (-i))):=PE.imp (pe_un un_neg pe_int) fun st H Q q=>⟨i,rfl,q⟩
end
theorem con_lift{cl:CallH}{g:G}{v:V}(hv:∀ H,RG H g v)(st:L2.St)(H:Hp)(Q:VK)(t:E1 cl (.con g) st H Q):tC v st H Q:=by
 obtain⟨ρ,ε,σ,r,σ',hE,hS,e,q⟩:=t
 rw[ev] at e
 cases e
 exact q ρ v H (Ext.refl _ _ _) hS (hv H)
theorem compB_ok{X:Cx}{xs:List Str}{caps:List Nat}{scope:Scope}(h:compB X.N X.env.scope xs caps scope=true):CompOk X xs caps (capNames X.N caps) scope:=by
 unfold compB at h
 simp only[Bool.and_eq_true,decide_eq_true_eq,List.all_eq_true] at h
 obtain⟨⟨⟨⟨⟨⟨h1,h2⟩,h3⟩,h4⟩,h5⟩,h6⟩,h7⟩:=h
 refine⟨h1,h2,h3,h4,h5,h6,by simp[capNames],fun j y e => ?_⟩
 unfold capNames at e
 rw[List.getElem?_map] at e
 cases c:caps[j]? with
 |none=>rw[c] at e;cases e
 |some i =>
  rw[c] at e
  have h7:=h7 i (List.mem_of_getElem? c)
  cases d:X.N[i]? with
  |none=>rw[d] at h7;cases h7
  |some z =>
   rw[d] at h7
   simp only[Option.map_some,d,Option.getD_some,Option.some.injEq] at e
   subst e
   exact⟨i,rfl,d,of_decide_eq_true h7⟩
theorem both_call{X:Cx}(am:Amb X P W n){f:String}{x:Str}{args:List Expr}{pp pos:Pos}{as:Tms}(hx:x=Str.ofString f)(hg:Gl X x)(hd:(x == ("__debug__":Str))=false)(h:PEl X (run P W n) args as) :
 Both X (run P W n) (.call f as) (.Call (.Name x pp) args [] pos):=by
 have lf:∀ {st:L2.St} {H:Hp} {Q:VK},E1 (run P W n) (.call f as) st H Q->(A1 (run P W n) as) st H fun vs H1=>SpOf P W n f (vs++[]) H1 Q E0:=fun {st H Q} t=>by
  obtain⟨ρ,ε,σ,r,σ',hE,hS,ee,q⟩:=t
  obtain⟨xs,σ1,e1,e2⟩:=call_inv ee
  refine⟨ρ,ε,σ,xs,σ1,hE,hS,e1,fun ρ1 vs H1 ex1 S1 r1 => ?_⟩
  show SpOf P W n f (vs++[]) H1 Q E0
  rw[List.append_nil]
  exact⟨ρ1,σ1,xs,r1,S1,.inl ⟨r,σ',e2,q.after ex1 S1⟩⟩
 cases e:look P f with
 |none =>
  refine both_of rfl rfl (pe_false fun st H Q ⟨ρ,ε,σ,r,σ',hE,hS,ee,q⟩ => ?_)
  obtain⟨xs,σ1,e1,e2⟩:=call_inv ee
  cases n with
  |zero=>cases e2
  |succ n=>rw[MP.run,e] at e2;cases e2
 |some d =>
  obtain⟨fa,fd,ps,hm,hk,hb,F⟩:=am.fns f d e
  subst hx
  cases args with
  |cons a args =>
   have hs':notStar a=true/\args.all notStar=true:=by simpa using h.stars
   exact both_of rfl rfl (PE.imp (pe_call F am.room hg hm hk hb .nil pass1 h.pa hd (starEach_cons hs'.1) (backTo_plain hs'.2)) fun st H Q t=>lf t)
  |nil =>
   cases h
   refine both_of rfl rfl (PE.imp (pe_call0 F am.room hg hm hk hb .nil pass1 hd) fun st H Q t => ?_)
   obtain⟨ρ,ε,σ,r,σ',hE,hS,ee,q⟩:=t
   obtain⟨xs,σ1,e1,e2⟩:=call_inv ee
   obtain⟨rfl,rfl⟩:=evs_nil_inv e1
   exact⟨ρ,_,[],rfl,hS,.inl ⟨r,σ',e2,q⟩⟩
theorem var_lift{cl:CallH}{i:Nat}(st:L2.St)(H:Hp)(Q:VK)(t:E1 cl (.var i) st H Q):tVar i st H Q:=by
 obtain⟨ρ,ε,σ,r,σ',hE,hS,e,q⟩:=t
 rw[ev] at e
 split at e
 ·rename_i r' e1
  cases e
  obtain⟨v,e2,e3⟩:=hE.val i _ e1
  exact⟨v,e2,q ρ v H (Ext.refl _ _ _) hS e3⟩
 ·cases e
theorem if_liftE{cl:CallH}{c a b:MP.Tm}(st:L2.St)(H:Hp)(Q:VK)(t:E1 cl (.ifT c a b) st H Q):tIf (T1 cl c) (E1 cl a) (E1 cl b) st H Q:=by
 obtain⟨ρ,ε,σ,r,σ',hE,hS,e,q⟩:=t
 rw[ev] at e
 obtain⟨r1,σ1,e1,e2⟩:=bind_inv e
 obtain⟨d,rfl⟩:=ev_true_bl c _ _ _ _ e1
 refine⟨ρ,ε,σ,d,σ1,hE,hS,e1,fun ρ1 H1 ex1 S1 => ?_⟩
 cases d with
 |true=>exact iteT ⟨ρ1,ε,σ1,r,σ',hE.mono hS ex1,S1,e2,q.after ex1 S1⟩
 |false=>exact iteF ⟨ρ1,ε,σ1,r,σ',hE.mono hS ex1,S1,e2,q.after ex1 S1⟩
theorem if_liftT{cl:CallH}{c a b:MP.Tm}(st:L2.St)(H:Hp)(Q:Bool->Hp->Prop)(t:T1 cl (.ifT c a b) st H Q):T1 cl c st H fun d H1=>if d=true then T1 cl a st H1 Q else T1 cl b st H1 Q:=by
 obtain⟨ρ,ε,σ,r,σ',hE,hS,e,q⟩:=t
 rw[ev] at e
 obtain⟨r1,σ1,e1,e2⟩:=bind_inv e
 obtain⟨d,rfl⟩:=ev_true_bl c _ _ _ _ e1
 refine⟨ρ,ε,σ,d,σ1,hE,hS,e1,fun ρ1 H1 ex1 S1 => ?_⟩
 cases d with
 |true=>exact iteT ⟨ρ1,ε,σ1,r,σ',hE.mono hS ex1,S1,e2,fun ρ2 H2 ex2 S2=>q ρ2 H2 (ex1.trans S1 ex2) S2⟩
 |false=>exact iteF ⟨ρ1,ε,σ1,r,σ',hE.mono hS ex1,S1,e2,fun ρ2 H2 ex2 S2=>q ρ2 H2 (ex1.trans S1 ex2) S2⟩
theorem pw_of{X:Cx}{op:BoolOp}{vs:List Expr}{pos:Pos}{t:TT}(h:PT X (.BoolOp op vs pos) t):PW X (.BoolOp op vs pos) t:=fun whole pins s σ H Q I q=>by
 have:=h pins s σ H Q I q
 unfold PySem.isTrue at this ⊢
 exact this
theorem vis_of{sc:Scope}{x:Str}(h:visB sc x=true):Vis sc x:=by
 unfold visB at h
 unfold Vis
 split at h<;>first|(cases h;done)|(rename_i e;rw[e];simp)
theorem con_sound{X:Cx}{cl:CallH}{g:G}{e:Expr}(h:cst (vw e)=some g)(ho:okC g=true):Both X cl (.con g) e:=by
 unfold cst at h
 cases c:vCon (vw e) with
 |some k =>
  rw[c] at h
  obtain⟨n,p,rfl⟩:=conE c
  cases k<;>first|(cases h;done)|cases h
  ·exact both_of rfl rfl (PE.imp pe_non fun st H Q t=>by refine con_lift ?_ st H Q t;intro _;rfl)
  ·exact both_of rfl rfl (PE.imp pe_bl fun st H Q t=>by refine con_lift ?_ st H Q t;intro _;rfl)
  ·exact both_of rfl rfl (PE.imp pe_int fun st H Q t=>by refine con_lift ?_ st H Q t;intro _;rfl)
  ·exact both_of rfl rfl (PE.imp pe_str fun st H Q t=>by refine con_lift ?_ st H Q t;intro _;exact⟨by simp[sOf],ho⟩)
 |none =>
  rw[c] at h
  obtain⟨a,h1,h2⟩:=Option.bind_eq_some_iff.mp h
  obtain⟨k,h3,h4⟩:=Option.bind_eq_some_iff.mp h2
  obtain⟨p,rfl⟩:=unE h1
  obtain⟨n,q,rfl⟩:=conE h3
  cases k<;>first|(cases h4;done)|cases h4
  exact both_of rfl rfl (PE.imp un_neg1 fun st H Q t=>by refine con_lift ?_ st H Q t;intro _;rfl)
theorem and2{a b:Bool}(h:(a && b)=true):a=true/\b=true:=by rwa [Bool.and_eq_true] at h
section
variable {X:Cx}{cl:CallH}{a b:MP.Tm}{e x y:Expr}
theorem and_sound(h0:vBool .And (vw e)=some (x,y))(ha:Both X cl a x)(hb:Both X cl b y):Both X cl (.andT a b) e:=by
 obtain⟨p,h0 | ⟨u,v,r,h1,h0⟩⟩:=boolE h0
 ·subst h0
  exact⟨PE.imp (pe_and ha.1 (pe_one hb.1)) fun st H Q t=>te_and st H Q t,PT.imp (pw_and ha.2 (pw_and1 hb.2)).pt fun st H Q t=>tt_and st H Q t⟩
 ·subst h0 h1
  exact⟨PE.imp (pe_and ha.1 hb.1) fun st H Q t=>te_and st H Q t,PT.imp (pw_and ha.2 (pw_of hb.2)).pt fun st H Q t=>tt_and st H Q t⟩
theorem or_sound(h0:vBool .Or (vw e)=some (x,y))(ha:Both X cl a x)(hb:Both X cl b y):Both X cl (.orT a b) e:=by
 obtain⟨p,h0 | ⟨u,v,r,h1,h0⟩⟩:=boolE h0
 ·subst h0
  exact⟨PE.imp (pe_or ha.1 (pe_one hb.1)) fun st H Q t=>te_or st H Q t,PT.imp (pw_or ha.2 (pw_or1 hb.2)).pt fun st H Q t=>tt_or st H Q t⟩
 ·subst h0 h1
  exact⟨PE.imp (pe_or ha.1 hb.1) fun st H Q t=>te_or st H Q t,PT.imp (pw_or ha.2 (pw_of hb.2)).pt fun st H Q t=>tt_or st H Q t⟩
theorem not_sound{p:Pos}(ha:Both X cl a x):Both X cl (.notT a) (.UnaryOp .Not x p):=⟨PE.imp (pe_notT ha.1) fun st H Q t=>te_not (X:=X) st H Q t,PT.imp (pt_not ha.2) fun st H Q t=>tt_not st H Q (ev_true_bl a) t⟩
theorem if_sound{c:MP.Tm}{t:Expr}{p:Pos}(hc:Both X cl c t)(ha:Both X cl a x)(hb:Both X cl b y):Both X cl (.ifT c a b) (.IfExp t x y p) :=
 ⟨PE.imp (pe_ifExp hc.2 ha.1 hb.1) fun st H Q t=>if_liftE st H Q t,PT.imp (pt_ifExp hc.2 ha.2 hb.2) fun st H Q t=>if_liftT st H Q t⟩
theorem comp_sound{caps:List Nat}{s:Src}{conds:Tms}{elt:MP.Tm}{xs:List Str}{tg iter el:Expr}{ifs:List Expr}{scope:Scope}{p:Pos}(am:Amb X P W n)(ok:CompOk X xs caps (capNames X.N caps) scope)(hx:tgNames tg=some xs)(hi:notSet iter=true)(hW:PI X tg iter (TIv X.K (evW cl s)))
 (hC:∀ C fp s H,PCs (cxC X (xs++capNames X.N caps) scope (frees X.env.cells scope.names []) C fp s H) ifs (TCv (evC cl conds))) (hE:∀ C fp s H,PE (cxC X (xs++capNames X.N caps) scope (frees X.env.cells scope.names []) C fp s H) el (E1 cl elt)) :
 Both X cl (.comp xs.length caps s conds elt) (.ListComp el [⟨tg,iter,ifs,0⟩] scope p):=by
 obtain⟨g,hG,hBl,hBg⟩:=tg_sound (X:=X) am hx ok
 exact both_of rfl rfl (PE.imp (pe_comp am.calm ok hW hG hBl hBg hC hE (folded hi)) fun st H Q t=>comp_lift st H Q t)
theorem glb_lift{f:String}{x:G}{v:V}(h:∀ H,RG H x v)(st:L2.St)(H:Hp)(Q:VK)(t:E1 cl (.glb f x) st H Q):tC v st H Q:=by
 obtain⟨ρ,ε,σ,r,σ',hE,hS,e,q⟩:=t
 rw[ev] at e
 cases e
 exact q ρ v H (Ext.refl _ _ _) hS (h H)
theorem leP_eq{p:Prim}(h:leP p=true):p = .le:=by cases p<;>first|rfl|(cases h;done)
theorem chain_inv{a b c:MP.Tm}{t:Bool}{ε:MP.Env}{σ σ':Store}{r:R}(h:ev cl t (.chain .le .le a b c) ε σ = .ok r σ'):∃ x σ1 y σ2 d σ3,ev cl false a ε σ = .ok x σ1/\ev cl false b ε σ1 = .ok y σ2/\prim .le [x,y] σ2 = .ok (.g (.bl d)) σ3 ∧
 ((d=false/\r = .g (.bl false)/\σ'=σ3)\/(d=true/\∃ z σ4 k,ev cl false c ε σ3 = .ok z σ4/\prim .le [y,z] σ4 = .ok (.g (.bl k)) σ'/\r = .g (.bl k))):=by
 rw[ev] at h
 obtain⟨x,σ1,e1,h⟩:=bind_inv h
 obtain⟨y,σ2,e2,h⟩:=bind_inv h
 obtain⟨r1,σ3,e3,h⟩:=bind_inv h
 obtain⟨d,rfl⟩:=cmp_bl rfl _ _ _ _ e3
 refine⟨x,σ1,y,σ2,d,σ3,e1,e2,e3,?_⟩
 cases d with
 |false=>cases h;exact .inl ⟨rfl,rfl,rfl⟩
 |true =>
  obtain⟨z,σ4,e4,h⟩:=bind_inv h
  obtain⟨r2,σ5,e5,h⟩:=bind_inv h
  obtain⟨k,rfl⟩:=cmp_bl rfl _ _ _ _ e5
  have:r = .g (.bl k)/\σ'=σ5:=by cases t<;>(cases h;exact⟨rfl,rfl⟩)
  obtain⟨rfl,rfl⟩:=this
  exact .inr ⟨rfl,z,σ4,k,e4,e5,rfl⟩
theorem chain_go{a b c:MP.Tm}{t:Bool}{st:L2.St}{ρ:Nat->Addr}{ε:MP.Env}{σ σ':Store}{r:R}{H:Hp}{Q:VK}(hE:RE H ρ σ.length ε st)(hS:SR H ρ σ)(h:ev cl t (.chain .le .le a b c) ε σ = .ok r σ')(q:Fin ρ σ.length H r σ' Q) :
 tChain (rI0 fun i j=>.bl (decide (i<=j))) (rI0 fun i j=>.bl (decide (i<=j))) (E1 cl a) (E1 cl b) (E1 cl c) st H Q:=by
 obtain⟨x,σ1,y,σ2,d,σ3,e1,e2,e3,h⟩:=chain_inv h
 refine⟨ρ,ε,σ,x,σ1,hE,hS,e1,fun ρ1 v1 H1 ex1 S1 r1 => ?_⟩
 have hE1:=hE.mono hS ex1
 refine⟨ρ1,ε,σ1,y,σ2,hE1,S1,e2,fun ρ2 v2 H2 ex2 S2 r2 => ?_⟩
 have hE2:=hE1.mono S1 ex2
 refine ok_le ρ2 σ2 H2 x y v1 v2 _ _ _ S2 (RR.mono (ex2.tp S1) ex2.le ex2.ag _ r1) r2 e3 fun ρ3 v3 H3 ex3 S3 r3 => ?_
 cases r3
 refine⟨d,rfl,?_⟩
 have ex:=(ex1.trans S1 ex2).trans S2 ex3
 rcases h with⟨rfl,rfl,rfl⟩ | ⟨rfl,z,σ4,k,e4,e5,rfl⟩
 ·exact iteF (q ρ3 _ H3 ex S3 rfl)
 ·refine iteT ⟨ρ3,ε,σ3,z,σ4,hE2.mono S2 ex3,S3,e4,fun ρ4 v4 H4 ex4 S4 r4 => ?_⟩
  have ex34:=ex3.trans S3 ex4
  exact ok_le ρ4 σ4 H4 y z v2 v4 _ _ _ S4 (RR.mono (ex34.tp S2) ex34.le ex34.ag _ r2) r4 e5 (q.after (ex.trans S3 ex4) S4)
theorem chain_sound{a b c:MP.Tm}{x y z:Expr}{pos:Pos}(hs:notSet z=true)(ha:PE X x (E1 cl a))(hb:PE X y (E1 cl b))(hc:PE X z (E1 cl c)):Both X cl (.chain .le .le a b c) (.Compare x [.LtE,.LtE] [y,z] pos):=by
 have hm:lastMarks [CmpOp.LtE,CmpOp.LtE] [y,z]=false:=by cases z<;>first|rfl|(cases hs;done)
 refine⟨PE.imp (pe_chain op_le op_le ha hb hc hm) fun st H Q t => ?_,PT.imp (pt_chain op_le op_le ha hb hc hm) fun st H Q t => ?_⟩
 ·obtain⟨ρ,ε,σ,r,σ',hE,hS,e,q⟩:=t
  exact chain_go hE hS e q
 ·obtain⟨ρ,ε,σ,b,σ',hE,hS,e,q⟩:=t
  exact chain_go hE hS e fun ρ' v H' ex S' rr=>⟨b,rr,q ρ' H' ex S'⟩
end
mutual
theorem soundE:∀ (t:MP.Tm) (X:Cx) (e:Expr),Amb X P W n->chkE X.N X.env.scope t e=true->Both X (run P W n) t e
 | .var i,X,e,am,h=>by
  obtain⟨x,h0,h⟩:=whenS_inv h
  simp only[Bool.and_eq_true,decide_eq_true_eq] at h
  obtain⟨h1,h2,h3,h4⟩:=h
  obtain⟨p,rfl⟩:=nameE h0
  exact both_of rfl rfl (PE.imp (pe_var h1 (vis_of h2) (beq_eq_false_iff_ne.mpr h3) (beq_eq_false_iff_ne.mpr h4)) fun st H Q t=>var_lift st H Q t)
 | .con g,X,e,am,h=>by
  have h:=and2 h
  exact con_sound (of_decide_eq_true h.1) h.2
 | .glb f x,X,e,am,h=>by
  obtain⟨y,h0,h⟩:=whenS_inv h
  simp only[Bool.and_eq_true,decide_eq_true_eq] at h
  obtain⟨h1,h2,h3,h4⟩:=h
  obtain⟨p,rfl⟩:=nameE h0
  cases isS_eq h1
  obtain⟨v,u,g1,g2,g3⟩:=am.glb f x h4
  exact both_of rfl rfl (PE.imp (pe_glob (gl_eq h2) g1 g2 (beq_eq_false_iff_ne.mpr h3)) fun st H Q t=>glb_lift g3 st H Q t)
 | .op p as,X,e,am,h=>by
  obtain⟨es,h0,h⟩:=whenS_inv h
  exact op_sound am h0 (soundAs as X es am h).1
 | .meth p a as,X,e,am,h=>by
  obtain⟨q,h0,h⟩:=whenS_inv h
  have h:=and2 h
  exact meth_sound am h0 (soundE a X q.1 am h.1).1 (soundAs as X q.2 am h.2).1
 | .call f as,X,e,am,h=>by
  obtain⟨⟨x,args⟩,h0,h⟩:=whenS_inv h
  simp only[Bool.and_eq_true,decide_eq_true_eq] at h
  obtain⟨h1,h2,h3,h4⟩:=h
  obtain⟨pp,p,rfl⟩:=callNE h0
  exact both_call am (isS_eq h1) (gl_eq h2) (beq_eq_false_iff_ne.mpr h3) (soundAs as X _ am h4).1
 | .andT a b,X,e,am,h=>by
  obtain⟨⟨x,y⟩,h0,h⟩:=whenS_inv h
  have h:=and2 h
  exact and_sound h0 (soundE a X x am h.1) (soundE b X y am h.2)
 | .orT a b,X,e,am,h=>by
  obtain⟨⟨x,y⟩,h0,h⟩:=whenS_inv h
  have h:=and2 h
  exact or_sound h0 (soundE a X x am h.1) (soundE b X y am h.2)
 | .notT a,X,e,am,h=>by
  obtain⟨x,h0,h⟩:=whenS_inv h
  obtain⟨p,rfl⟩:=unE h0
  exact not_sound (soundE a X x am h)
 | .ifT c a b,X,e,am,h=>by
  obtain⟨⟨t,x,y⟩,h0,h⟩:=whenS_inv h
  obtain⟨q1,h⟩:=and2 h
  obtain⟨q2,q3⟩:=and2 h
  obtain⟨p,rfl⟩:=ifE h0
  exact if_sound (soundE c X t am q1) (soundE a X x am q2) (soundE b X y am q3)
 | .chain p q a b c,X,e,am,h=>by
  obtain⟨⟨x,y,z⟩,h0,h⟩:=whenS_inv h
  obtain⟨p1,h⟩:=and2 h
  obtain⟨p2,h⟩:=and2 h
  obtain⟨p3,h⟩:=and2 h
  obtain⟨h1,h⟩:=and2 h
  obtain⟨h2,h3⟩:=and2 h
  obtain⟨pos,rfl⟩:=chE h0
  cases leP_eq p1
  cases leP_eq p2
  exact chain_sound p3 (soundE a X x am h1).1 (soundE b X y am h2).1 (soundE c X z am h3).1
 | .comp k caps s conds elt,X,e,am,h=>by
  obtain⟨⟨el,⟨tg,iter,ifs,asy⟩,scope,p⟩,h0,h⟩:=whenS_inv h
  obtain⟨xs,hx,h⟩:=whenS_inv h
  obtain⟨h1,h⟩:=and2 h
  obtain⟨h2,h⟩:=and2 h
  obtain⟨h3,h⟩:=and2 h
  obtain⟨h4,h⟩:=and2 h
  obtain⟨h5,h⟩:=and2 h
  obtain⟨h6,h7⟩:=and2 h
  cases of_decide_eq_true h1
  cases of_decide_eq_true h2
  cases compE h0
  have ok:=compB_ok h3
  exact comp_sound am ok hx h4 (soundW s X _ _ _ am rfl h5) (fun C fp s H=>(soundAs conds _ _ (am.comp ok.nod _ _ C fp s H) h6).2.pcs) fun C fp s H=>(soundE elt _ _ (am.comp ok.nod _ _ C fp s H) h7).1
theorem soundAs:∀ (as:Tms) (X:Cx) (es:List Expr),Amb X P W n->chkAs X.N X.env.scope as es=true->PEl X (run P W n) es as/\PTl X (run P W n) es as
 | .nil,X,es,am,h=>by
  cases es with
  |nil=>exact⟨.nil,.nil⟩
  |cons _ _=>cases h
 | .cons a as,X,es,am,h=>by
  cases es with
  |nil=>cases h
  |cons e r =>
   obtain⟨h1,h⟩:=and2 (show(notStar e && (chkE X.N X.env.scope a e && chkAs X.N X.env.scope as r))=true from h)
   obtain⟨h2,h3⟩:=and2 h
   have ha:=soundE a X e am h2
   have hr:=soundAs as X r am h3
   exact⟨.cons h1 ha.1 hr.1,.cons ha.2 hr.2⟩
theorem soundW:∀ (s:Src) (X:Cx) (tup:Bool) (tg e:Expr),Amb X P W n->isTup tg=tup->chkW X.N X.env.scope tup s e=true->PI X tg e (TIv X.K (evW (run P W n) s))
 | .over t,X,tup,tg,e,am,htg,h=>pi_over (soundE t X e am h).1
 | .range1 t,X,tup,tg,e,am,htg,h=>by
  obtain⟨es,h0,h⟩:=whenS_inv h
  obtain⟨a,h1,h⟩:=whenS_inv h
  obtain⟨h2,h3⟩:=and2 h
  obtain⟨a',pp,p,rfl,hg,rfl⟩:=bltE h0
  cases l1_inv h1
  exact pi_rng am (gl_eq hg) h2 (soundE t X a am h3).1
 | .range2 _ _,X,tup,tg,e,am,htg,h=>by cases h
 | .items _,X,tup,tg,e,am,htg,h=>by cases h
 | .enum _ _,X,tup,tg,e,am,htg,h=>by cases h
 | .itemsT _,X,tup,tg,e,am,htg,h=>by cases h
 | .zip _ _,X,tup,tg,e,am,htg,h=>by cases h
 | .keys _,X,tup,tg,e,am,htg,h=>by cases h
 | .chars t,X,tup,tg,e,am,htg,h=>pi_chars (soundE t X e am h).1
end
end
end SN
namespace SN
open PySem PySem.Spec PyProof.Rows L2
section
open PySem.W
variable {prog:Program}{w:World}{A:Around}{E:Value->Shared->Prop}{s:Shared}{K:Frag}{x C D:Addr}{ox:Obj}
theorem exc_ga(X:K.In s.heap)(I:InstAt s.heap x ox C none)(hf:findObj K C none "__class__"=some (.bind (.builtin "getset_descriptor.__get__") (.builtin "object.__class__")))(hm:mroIn K C (.type "object")=some true)(hB:mroIn K C (.type "BaseException")=some true)
 {tk:Tok} {R:Result->Shared->Prop} (h:R (.ok (.ret (.ref C))) s):codeAny (model prog w) A (.call (.builtin "BaseException.__getattribute__") ⟨[.ref x,.str "__class__" tk],[]⟩) R s:=by
 obtain⟨hh,g,d,t,os⟩:=s
 have L0:=I.type (M:=model prog w)
 have L1:=looks_find (M:=model prog w) X I hf
 have L2:=looks_mroIn (M:=model prog w) X hB
 have k1:builtinKind "BaseException.__getattribute__"=some .slot:=by decide +kernel
 have k2:splitId "BaseException.__getattribute__"=some ("BaseException","__getattribute__"):=by decide +kernel
 have ha:=F.args_bexc_ga (.ref x) (.str "__class__" tk)
 refine codeAny_call_builtin F.attr_ValueError.ga.plain F.entry_bexc_ga ?_
 simp only[checkBuiltinCall,k1,k2]
 unfold isInstance
 repeat lk
 refine wpAny_run (class_get (s:=⟨hh,g,d,t,os⟩) X I hm ?_)
 exact wpAny_pure (wpAny_pure h)
theorem exc_class{Q:Option Value->Shared->Prop}(X:K.In s.heap)(I:InstAt s.heap x ox C none)(hga:findIn K (.ref C) "__getattribute__"=some (some (.builtin "BaseException.__getattribute__")))(hgt:findIn K (.ref C) "__getattr__"=some none)
 (hf:findObj K C none "__class__"=some (.bind (.builtin "getset_descriptor.__get__") (.builtin "object.__class__"))) (hm:mroIn K C (.type "object")=some true) (hB:mroIn K C (.type "BaseException")=some true)
 (h:Q (some (.ref C)) {s with toks:=s.toks+1}):wpAny (model prog w) A (getAttr? (.ref x) "__class__") Q E s:=by
 obtain⟨hh,g,d,t,os⟩:=s
 have L0:=I.type (M:=model prog w)
 have L1:=looks_findIn (M:=model prog w) X hga
 have L2:=looks_findIn (M:=model prog w) X hgt
 unfold getAttr? getAttrBy? getAttrBy
 refine wpAny_bind (wpAny_mkText (wpAny_bind (wpAny_attempt (wpAny_holding (wpAny_bind (L0.at (wpAny_bind (L1.at ?_))))))))
 have k2:(Value.builtin "BaseException.__getattribute__" == Value.builtin "object.__getattribute__")=false:=by decide +kernel
 dsimp only
 rw[k2,Bool.and_false,if_neg (by decide)]
 unfold getAttrByItsOwn hookBefore
 refine wpAny_bind (show wpAny _ _ (typeLookup (.ref C) "__getattr__") _ _ _ from L2.at ?_)
 refine wpAny_bind (wpAny_attempt (wpAny_holding ?_))
 unfold callGetattribute boundAndCalled
 refine wpAny_bind (wpAny_of_eq (F.attr_ValueError.ga.bind _) ?_)
 exact wpAny_call (exc_ga (s:=⟨hh,g,d,t+1,os⟩) X I hf hm hB (handed_on rfl (wpAny_pure h)))
noncomputable def clsO(K:Frag)(C:Addr):Bool:=(clsIn K C).isSome
theorem clsO_isType{M:Model}{h:Heap}(X:K.In h)(e:clsO K C=true):Looks M h (isType (.ref C)) true:=by
 unfold clsO clsIn at e
 split at e
 ·rename_i o1 o2 o3 o4 ho
  intro A' Q' E' s' k q
  unfold isType loadHead
  exact wpAny_bind (wpAny_loadPart (k _ _ (X _ _ ho)) (wpAny_pure q))
 ·cases e
noncomputable def bmVE:List Value:=[.type "ValueError",.type "Exception",.type "BaseException",.type "object"]
structure XIn(K:Frag)(C:Addr):Prop where
 exc:excIn K C bmVE "ValueError.__new__"=true
 ga:findIn K (.ref C) "__getattribute__"=some (some (.builtin "BaseException.__getattribute__"))
 gt:findIn K (.ref C) "__getattr__"=some none
 ca:findIn K (.ref C) "__class__"=some (some (.builtin "object.__class__"))
 sp:specialIn K (.builtin "object.__class__") "__get__"=some (some (.builtin "getset_descriptor.__get__"))
 tk:takesIn K (.builtin "object.__class__")=some true
 mo:mroIn K C (.type "object")=some true
 mb:mroIn K C (.type "BaseException")=some true
 ty:typeIn K (.ref C)=some (.type "type")
 co:clsO K C=true
noncomputable def xIn(K:Frag)(C:Addr):Bool :=
 excIn K C bmVE "ValueError.__new__" && (findIn K (.ref C) "__getattribute__" == some (some (.builtin "BaseException.__getattribute__")) && (findIn K (.ref C) "__getattr__" == some none && (findIn K (.ref C) "__class__" == some (some (.builtin "object.__class__")) &&
 (specialIn K (.builtin "object.__class__") "__get__" == some (some (.builtin "getset_descriptor.__get__")) && (takesIn K (.builtin "object.__class__") == some true && (mroIn K C (.type "object") == some true && (mroIn K C (.type "BaseException") == some true && (typeIn K (.ref C) == some (.type "type") && clsO K C))))))))
theorem xIn_ok(h:xIn K C=true):XIn K C:=by
 simp only[xIn,Bool.and_eq_true,beq_iff_eq] at h
 obtain⟨h1,h2,h3,h4,h5,h6,h7,h8,h9,h0⟩:=h
 exact⟨h1,h2,h3,h4,h5,h6,h7,h8,h9,h0⟩
theorem XIn.found(x:XIn K C):findObj K C none "__class__"=some (.bind (.builtin "getset_descriptor.__get__") (.builtin "object.__class__")):=by
 obtain⟨cd,hc⟩:=Option.isSome_iff_exists.mp (show(clsIn K C).isSome=true from x.co)
 unfold findObj
 rw[hc,Option.bind_some,x.ca,Option.bind_some]
 simp[x.sp,x.tk]
theorem kitx_exc(z:XIn K C):KitX K (.ref x) (.ref C) (fun h=>InstAt h x ox C none) where
 ty:=fun _ _ _ I=>I.type
 it:=fun _ _ X _=>clsO_isType X z.co
 ne:=fun h tp dd its n sl X htp=>by
  refine Bool.eq_false_iff.mpr fun q => ?_
  have e:C=tp:=Value.ref.inj (beq_iff_eq.mp q)
  subst e
  have:=z.ty
  unfold typeIn at this
  obtain⟨o,ho,hc⟩:=Option.map_eq_some_iff.mp this
  rw[X _ _ ho] at htp
  cases htp
  exact absurd (Value.type.inj hc) (by decide)
 ca:=fun X I k=>exc_class X I z.ga z.gt z.found z.mo z.mb k
theorem exc_match{b:Bool}{Q:Bool->Shared->Prop}(X:K.In s.heap)(I:InstAt s.heap x ox C none)(z:XIn K D)(hm:mroIn K C (.ref D)=some b)(h:Q b s):wpAny (model prog w) A (excMatches (.ref x) (.ref D)) Q E s:=by
 obtain⟨hh,g,d,t,os⟩:=s
 have L0:=I.type (M:=model prog w)
 have L1:=looks_mroIn (M:=model prog w) X hm
 have L2:=looks_mroIn (M:=model prog w) X z.mb
 have L3:=looks_typeIn (M:=model prog w) X z.ty
 have L4:=clsO_isType (M:=model prog w) X z.co
 have f:=tc_notTuple
 unfold excMatches isExcClass isInstance
 repeat lk
 cases b<;>(repeat lk)<;>exact h
theorem own_obj{h:Heap}(X:K.In h)(z:excIn K C bmVE "ValueError.__new__"=true):∃ bm N nm qn bs hdct sn sub ab col dd k0 k1 k2 k3 k5 mN,h.get? C=some (excClassObj nm qn C N bs bm hdct sn sub ab col dd k0 k1 k2 k3 k5 "ValueError.__new__")/\h.Ns N mN/\mN "__init__"=none/\OwnTail h bmVE bm:=by
 unfold excIn at z
 split at z
 ·rename_i dd cd sl ho
  split at z
  ·rename_i C' bm k0 k1 k2 k3 n k5 em es
   simp only[Bool.and_eq_true,beq_iff_eq,Bool.not_eq_true'] at z
   obtain⟨⟨⟨⟨⟨rfl,rfl⟩,z3⟩,z4⟩,z5⟩,z6⟩:=z
   obtain⟨nm,bs,mro,ns,qn,hd,sn,sub,ab,col,del⟩:=cd
   dsimp only at em z3 z5 z6
   subst em z3
   have e:sl = #[k0,k1,k2,k3,some (.builtin "ValueError.__new__"),k5]:=by
    obtain⟨l⟩:=sl
    simpa using es
   subst e
   exact⟨bm,ns,nm,qn,bs,hd,sn,sub,ab,col,dd,k0,k1,k2,k3,k5,_,X _ _ ho,.of_isNs (isNs_of_in X z5),nsMap_none_of_in X z5 z6,tail_of_in X z4⟩
  ·cases z
 ·cases z
noncomputable def adr(K:Frag)(c:String):Addr:=match nsIn K mainGlobals (Str.ofString c) with
 |some (some (.ref C))=>C
 |_=>0
end
variable [Wd][Cl]
structure ClsOk(K:PySem.W.Frag)(mg:Str->Option Value)(c:String):Prop where
 at_:mg (Str.ofString c)=some (.ref (adr K c))
 x:XIn K (adr K c)
 up:∀ d∈Cl.cls,PySem.W.mroIn K (adr K c) (.ref (adr K d))=some (MP.isA c d)/\PySem.W.kitOne K (.ref (adr K c)) (.ref (adr K d))=some (MP.isA c d)
 ve:PySem.W.kitOne K (.ref (adr K c)) (.type "ValueError")=some (MP.isA c "ValueError")
noncomputable def clsB(K:PySem.W.Frag)(cs:List String):Bool:=cs.all fun c=>PySem.W.nsIn K mainGlobals (Str.ofString c) == some (some (.ref (adr K c))) && (xIn K (adr K c) && (PySem.W.kitOne K (.ref (adr K c)) (.type "ValueError") == some (MP.isA c "ValueError") &&
 cs.all fun d=>PySem.W.mroIn K (adr K c) (.ref (adr K d)) == some (MP.isA c d) && PySem.W.kitOne K (.ref (adr K c)) (.ref (adr K d)) == some (MP.isA c d)))
theorem clsB_ok{K:PySem.W.Frag}{h:Heap}{mg:Str->Option Value}(X:K.In h)(G:h.Ns mainGlobals mg)(e:clsB K Cl.cls=true):∀ c∈Cl.cls,ClsOk K mg c:=fun c hc=>by
 have q:=(List.all_eq_true.mp e) c hc
 simp only[Bool.and_eq_true,beq_iff_eq,List.all_eq_true] at q
 obtain⟨q1,q2,q3,q4⟩:=q
 exact⟨PySem.W.mg_of X G q1,xIn_ok q2,fun d hd=>q4 d hd,q3⟩
section
variable {X:Cx}{pins:List (Addr × Obj)}{σ:L2.St}{H:Hp}{s:Shared}{Ξ:String->Hp->Prop}
theorem XO.mono{h:Heap}{g g':Heap}{e:Addr}{C:Value × Bool}{tb:Bool}(x:XO h H g e C tb)(m:∀ b,g.get? b=none->g'.get? b=none):XO h H g' e C tb:=by
 obtain⟨oe,ws,v,x1,x2,x3,x4,x5,x6,x7,x8⟩:=x
 refine⟨oe,ws,v,x1,x2,x3,m e x4,x5,x6,?_,x8⟩
 rcases x7 with x7 | ⟨T,oT,ts,fl,y1,y2,y3,y4⟩
 ·exact .inl x7
 ·exact .inr ⟨T,oT,ts,fl,y1,y2,m T y3,y4⟩
noncomputable def XEs(X:Cx)(pins:List (Addr × Obj))(σ:L2.St)(Ξ:String->Hp->Prop):Value->Shared->Prop:=fun v s'=>∃ e c C H tb g,v = .ref e/\c∈Cl.cls/\X.mg (Str.ofString c)=some (.ref C)/\Inv X pins σ H s'/\XO s'.heap H g e (.ref C,MP.ncx c) tb/\(Old X pins g/\∀ b o,g.get? b=some o->∃ o',s'.heap.get? b=some o')/\Ξ c H
theorem unpin(I:Inv X pins σ H s):Inv X [] σ H s:=I.pins_of fun p hp=>by simp at hp
theorem XEs.toE{v:Value}{s':Shared}(h:XEs X pins σ Ξ v s'):XE X Ξ v s':=by
 obtain⟨e,c,C,H,tb,g,h1,h2,h3,h4,h5,h6,h7⟩:=h
 exact⟨e,c,C,σ,H,tb,h1,h2,h3,unpin h4,h5.mono fun b n=>(h6.1 b n).1,h7⟩
theorem obj_there{P:Program}{w:World}{H:Hp}{h:Heap}{a:Addr}{o:HO}(x:ObjOk P w H h a o):∃ u,h.get? a=some u:=by
 cases o with
 |lst xs=>obtain⟨_,_,_,_,e⟩:=x;exact⟨_,e⟩
 |tup xs=>obtain⟨_,_,_,o,e,_⟩:=x;exact⟨o,e⟩
 |dK kvs=>obtain⟨_,_,_,_,o,_,_,e,_⟩:=x;exact⟨o,e⟩
 |dT kvs=>obtain⟨_,_,_,_,o,_,_,e,_⟩:=x;exact⟨o,e⟩
 |set S n=>obtain⟨o,_,_,_,e,_⟩:=x;exact⟨o,e⟩
 |ins C dx fs=>obtain⟨_,_,_,e,_⟩:=x;exact⟨_,e⟩
 |own y=>exact x
 |xd fs=>obtain⟨_,⟨o,_,_,e,_⟩,_⟩:=x;exact⟨o,e⟩
 |rng lo hi=>obtain⟨_,_,_,e⟩:=x;exact⟨_,e⟩
 |frz ob u=>obtain⟨e,_⟩:=x;exact⟨_,e⟩
 |tbl ps=>exact⟨_,(show h.get? a=some _ from x)⟩
 |met f y=>exact⟨_,(show h.get? a=some _ from x)⟩
 |ext φ=>obtain⟨_,e,_⟩:=x;exact e
theorem old_none(B:Bdy X)(I:Inv X pins σ H s){e:Addr}(n:s.heap.get? e=none):X.s₀.heap.get? e=none/\H e=none:=by
 constructor
 ·cases z:X.s₀.heap.get? e with
  |none=>rfl
  |some o =>
   obtain⟨o',q⟩:=I.base.there e o z (by rw[B.ex];simp)
   rw[n] at q;cases q
 ·cases z:H e with
  |none=>rfl
  |some u =>
   obtain⟨o,q⟩:=obj_there (I.hok e u z)
   rw[n] at q;cases q
theorem old_at(B:Bdy X)(I:Inv X pins σ H s):Old X pins s.heap:=fun b n=>⟨(old_none B I n).1,fun p hp z=>by
 have:=(I.pin p (List.mem_append_right _ hp)).1
 rw[z,n] at this
 cases this⟩
theorem raise_x{c:String}{a:Expr}{ta:TE}{np cpos pos:Pos}{Q:Flow->Shared->Prop}(B:Bdy X)(hh:X.A.handled=none)(hm:c∈Cl.cls)(hk:ClsOk X.K X.mg c)(hg:Gl X (Str.ofString c))(hd:(Str.ofString c == ("__debug__":Str))=false)(hs:notStar a=true)(ha:PE X.nox a ta)
 (I:Inv X pins σ H s) (q:ta σ H fun v H'=>[v].length=1/\Ξ c H'):wpAny (model X.prog X.w) X.A (exec (.Raise (some (.Call (.Name (Str.ofString c) np) [a] [] cpos)) none pos) X.env) Q (XEs X pins σ Ξ) s:=by
 obtain⟨bm,N,nm,qn,bs,hdct,sn,sub,ab,col,dd,k0,k1,k2,k3,k5,mN,hC,hN,hi,T⟩:=own_obj I.ok.mod.kin hk.x.exc
 have es:=starEach_cons (es:=[]) (env:=X.env) hs
 refine wpAny_Raise_call_subT (C:=adr X.K c) (nm:=nm) (q:=qn) (N:=N) (bs:=bs) (bm:=bm) (hdct:=hdct) (sn:=sn) (sub:=sub) (ab:=ab) (col:=col) (dd:=dd) (k0:=k0) (k1:=k1) (k2:=k2) (k3:=k3) (k5:=k5)
  PySem.F.excBase_ValueError (mN:=mN) (T.hasType PySem.F.excBase_ValueError.hasBase) hh (by rw[es];rfl) hi (ld_glob I hg hk.at_ ⟨rfl,?_⟩ hd)
 have p:=pa_cons ha pa_nil es cpos pins s σ H (fun vs H'=>vs.length=1/\Ξ c H') (I.wish _) q
 rw[es] at p ⊢
 refine Calls.evalArgs_plain (wpAny_mono p (fun us s1 ⟨vs,H1,I1,r,q0,q1⟩ => ?_) fun _ _ z=>z.elim)
 have I2:Inv X pins σ H1 s1:=I1.unwish
 refine⟨rfl,by rw[← r.length,q0];decide,I2.bk _ _ hC,hN.keeps I2.bk,T.keeps I2.bk,fun h' e m => ?_⟩
 obtain⟨t,ht,_,_⟩:=m.there
 exact⟨e,c,_,H1,false,s1.heap,rfl,hm,hk.at_,I2.kept (t':=s1.toks) m.keeps,⟨_,_,.none,ht,⟨rfl,rfl⟩,rfl,m.new,(old_none B I2 m.new).2,rfl,.inl rfl,⟨fun z=>(by cases z),fun _=>rfl⟩⟩,⟨old_at B I2,fun b o eb=>⟨o,m.keeps b o eb⟩⟩,q1⟩
theorem callee_x{k:Nat}{f:Addr}{fd:FuncData}{ps:List Str}{sp:Sp}{us:List Value}{vs:List V}{Q:VK}(B:Bdy X)(F:FnOk X.prog X.w X.K X.mg X.base (CX1 X.prog X.w X.mg) k f fd ps sp)(hr:Room k X.A)(hb:Binds X.K fd ps [])(I:Inv X pins σ H s)(r:Vals vs us)
 (h:sp vs H Q fun v _ H'=>∃ c,v = .type c/\Ξ c H'):wpAny (model X.prog X.w) X.A (call (.ref f) us) (EP X pins σ Q) (XEs X pins σ Ξ) s:=by
 have hl:us.length=ps.length:=by rw[← r.length];exact F.len _ _ _ _ h
 refine wpAny_call (codeAny_mono (F.run X.A X.stack s H ⟨us,[]⟩ us vs Q _ hr I.env0 (by have:=hb s us I.kIn (by rw[List.append_nil];exact hl);rwa [List.append_nil] at this) r h) fun rr s' q => ?_)
 cases rr with
 |ok fl =>
  cases fl with
  |ret u=>exact I.after q
  |next=>exact False.elim q
  |brk=>exact False.elim q
  |cont=>exact False.elim q
 |error v =>
  obtain⟨e,c,C,H',tb,rfl,hm,hc,ho,hg,un,ok,x,c',e1,q⟩:=q
  cases e1
  have I':Inv X pins σ H' s':=I.call' (ch:=[]) ho un ok hg fun b z=>absurd z (by simp)
  exact⟨e,c,C,H',tb,s.heap,rfl,hm,hc,I',x,⟨old_at B I,fun b o eb=>un.there b o eb (by simp)⟩,q⟩
theorem call_x{k:Nat}{f:Addr}{fd:FuncData}{ps:List Str}{sp:Sp}{e:Expr}{es:List Expr}{t:TA}{x:Str}{p pos:Pos}{Q:VK}(B:Bdy X)(F:FnOk X.prog X.w X.K X.mg X.base (CX1 X.prog X.w X.mg) k f fd ps sp)(hr:Room k X.A)(hg:Gl X x)(hm:X.mg x=some (.ref f))(hk:PySem.W.keepIn X.K (.ref f)=true)(hb:Binds X.K fd ps [])
 (ha:PA X.nox (e::es) t) (hd:(x == ("__debug__":Str))=false) (he:starEach (e::es) X.env=(false,eval e X.env)::starEach es X.env) (hpl:(backTo pos (starEach es X.env)).any (·.1)=false)
 (I:Inv X pins σ H s) (h:t σ H fun vs H1=>sp vs H1 Q fun v _ H'=>∃ c,v = .type c/\Ξ c H'):wpAny (model X.prog X.w) X.A (eval (.Call (.Name x p) (e::es) [] pos) X.env) (EP X pins σ Q) (XEs X pins σ Ξ) s:=by
 refine wpAny_Call_Name_kw (ld_glob I hg hm ?_ hd)
 refine PySem.W.callWith_K (h₀:=X.base) I.ok.mod.kin hk (wpAny_mono (ha pos pins s σ H _ (I.wish _) h) (fun us s1 ⟨vs,H1,I1,r,q⟩=>⟨I1.kIn,?_⟩) fun _ _ z=>z.elim) he hpl
 exact callee_x B F hr hb I1.unwish r q
noncomputable def PSx(X:Cx)(Ξ:String->Hp->Prop)(st:Stmt)(t:TS):Prop:=∀ (pins:List (Addr × Obj)) (s:Shared) (σ:L2.St) (H:Hp) (D:Ends),Inv X pins σ H s->t D σ H->wpAny (model X.prog X.w) X.A (exec st X.env) (SP X pins D) (XEs X pins σ Ξ) s
noncomputable def PEx(X:Cx)(Ξ:String->Hp->Prop)(e:Expr)(t:TE):Prop:=∀ (pins:List (Addr × Obj)) (s:Shared) (σ:L2.St) (H:Hp) (Q:VK),Inv X pins σ H s->t σ H Q->wpAny (model X.prog X.w) X.A (eval e X.env) (EP X pins σ Q) (XEs X pins σ Ξ) s
theorem PSx.ps{st:Stmt}{t:TS}(h:PSx X Ξ st t)(hx:∀ v s',XE X Ξ v s'->X.xe v s'):PS X st t:=fun pins s σ H D I q=>wpAny_mono (h pins s σ H D I q) (fun _ _ z=>z) fun v s' z=>hx v s' z.toE
theorem psx_expr{e:Expr}{te:TE}{pos:Pos}(he:PEx X Ξ e te)(hs:swapsWith e none pos.line X.env=pure false):PSx X Ξ (.Expr e pos) (tDrop te):=by
 intro pins s σ H D I h
 exact wpAny_Expr_any (thn (he pins s σ H _ I h) fun v s1 ⟨x,H1,I1,r1,q1⟩=>⟨σ,H1,I1,q1⟩) I.quiet hs
theorem psx_ret{e:Expr}{te:TE}{pos:Pos}(he:PEx X Ξ e te):PSx X Ξ (.Return (some e) pos) (tRet te):=by
 intro pins s σ H D I h
 exact wpAny_Return_some (thn (he pins s σ H _ I h) fun v s1 ⟨x,H1,I1,r1,q1⟩=>⟨x,σ,H1,I1,r1,q1⟩)
theorem psx_set{e:Expr}{te:TE}{i:Nat}{x:Str}{px pos:Pos}(hN:X.N.Nodup)(hi:X.N[i]?=some x)(hx:Loc X.env.scope x)(hf:X.fn x=true)(he:PEx X Ξ e te)(hs:swapsWith e (some (.Name x px)) pos.line X.env=pure false):PSx X Ξ (.Assign [.Name x px] e pos) (tAsg te (gName i)):=by
 intro pins s σ H D I h
 refine wpAny_Assign_Name (thn (he pins s σ H _ I h) fun v s1 ⟨y,H1,I1,r1,q1⟩ => ?_) hs
 exact store_ok I1 hN hi hx r1 (fun s2 I2=>⟨_,H1,I2,q1⟩) (.inl hf)
noncomputable abbrev cxH(X:Cx)(e:Addr)(oe:Obj):Cx:={X with A:=X.A.mark (some (.ref e)),calm:=false,pn:=[(e,oe)],xe:=fun _ _=>False}
theorem inH{e:Addr}{oe:Obj}(B:Bdy X)(I:Inv X pins σ H s)(hp:s.heap.get? e=some oe/\H e=none/\e≠X.env.locals/\e∉X.fs/\∀ v,oe.data ≠ .cell v):Inv (cxH X e oe) pins σ H s:=by
 have ok:=I.ok
 refine⟨⟨ok.mod,ok.kind,ok.glob,ok.blt,ok.above,ok.inj,ok.has,ok.cab,fun z=>(by cases z),ok.frames,ok.stk,ok.exf,ok.bs,ok.bsz,ok.noex,ok.exfs,ok.funs,ok.frf⟩,I.os,I.bare,I.base,I.loc,I.cell,I.free,I.freeC,fun p hq => ?_,I.hok,I.len⟩
 rcases List.mem_append.mp hq with z|z
 ·cases List.mem_singleton.mp z
  exact hp
 ·exact I.pin p (List.mem_append_right _ z)
theorem outH{e:Addr}{oe:Obj}(ok:X.Ok)(B:Bdy X)(I:Inv (cxH X e oe) pins σ H s):Inv X pins σ H s :=
 ⟨ok,I.os,I.bare,I.base,I.loc,I.cell,I.free,I.freeC,fun p hq=>I.pin p (by rw[B.pn] at hq;exact List.mem_append_right _ hq),I.hok,I.len⟩
theorem pinH{e:Addr}{oe:Obj}{vs:Array Value}(I:Inv X pins σ H s)(h1:s.heap.get? e=some oe)(h2:oe.data = .fields vs)(h3:X.s₀.heap.get? e=none)(h4:H e=none):s.heap.get? e=some oe/\H e=none/\e≠X.env.locals/\e∉X.fs/\∀ v,oe.data ≠ .cell v:=by
 refine⟨h1,h4,fun z => ?_,fun z => ?_,fun v z=>by rw[h2] at z;cases z⟩
 ·obtain⟨m,⟨o,es,ep,ho,hd,_⟩,_⟩:=I.loc
  rw[← z,h1] at ho
  cases ho
  rw[h2] at hd
  cases hd
 ·obtain⟨_,o,ho,_⟩:=I.ok.funs.mem z
  rw[h3] at ho
  cases ho
theorem forget_ok{n:Str}{j t':Nat}{h':Heap}{v:Option Value}{m:Str->Option Value}(I:Inv X pins σ H s)(nd:X.N.Nodup)(hj:X.N[j]?=some n)
 (hl:∀ (i:Nat) (x:Str) (v:V),X.N[i]?=some x->σ[i]?=some (some v)->Vis X.env.scope x->∃ u,RelV v u/\Look X.env s.heap m x u)
 (hn:h'.Ns X.env.locals (fun x=>if x=n then v else m x)) (hs:Heap.SameBut X.env.locals s.heap h'):Inv X pins (σ.set j none) H {s with heap:=h',toks:=t'}:=by
 have lt:∀ b o,X.s₀.heap.get? b=some o->b≠X.env.locals:=fun b o e=>Nat.ne_of_lt (Nat.lt_of_lt_of_le (Heap.lt_size e) I.ok.above)
 refine⟨I.ok,I.os,I.bare,⟨fun b o e k hb hx => ?_,fun b o e k hb hx => ?_,I.base.free,fun b o e hx => ?_,I.base.tups,I.base.frzs,I.base.tbls⟩,⟨_,hn,fun i y w e1 e2 e3 => ?_⟩,fun y c e => ?_,I.free,I.freeC,fun p hp => ?_,fun b ob e => ?_,by simpa using I.len⟩
 ·exact(hs.2 b (lt b o e)).trans (I.base.keep b o e k hb hx)
 ·obtain⟨sl,e1⟩:=I.base.slot b o e k hb hx
  exact⟨sl,(hs.2 b (lt b o e)).trans e1⟩
 ·obtain⟨o',e1⟩:=I.base.there b o e hx
  exact⟨o',(hs.2 b (lt b o e)).trans e1⟩
 ·by_cases hij:j=i
  ·subst hij
   rw[List.getElem?_set] at e2
   split at e2
   ·split at e2<;>cases e2
   ·rename_i z;exact absurd rfl z
  ·rw[List.getElem?_set_ne hij] at e2
   obtain⟨u,r,q⟩:=hl i y w e1 e2 e3
   refine⟨u,r,?_⟩
   by_cases hy:y=n
   ·exact absurd (nodup_ix nd hj (hy ▸ e1)) hij
   ·rcases q with⟨k,e⟩ | ⟨k,c,e,z⟩
    ·exact .inl ⟨k,by simp[hy,e]⟩
    ·exact .inr ⟨k,c,e,z.sameBut hs (I.cne y c e)⟩
 ·obtain⟨w',z⟩:=I.cell y c e
  exact⟨w',z.sameBut hs (I.cne y c e)⟩
 ·obtain⟨e,k,ne,nf,d⟩:=I.pin p hp
  exact⟨(hs.2 p.1 ne).trans e,k,ne,nf,d⟩
 ·refine(I.hok b ob e).stay (fun c w' hc q=>(hs.2 c fun z => ?_).trans q) (fun _ q=>q) fun _ _ q=>q
  rcases hc with rfl|hc
  ·rw[z,I.free] at e;cases e
  ·rw[z,I.free] at hc;cases hc
noncomputable def insts(e:Addr)(bs:List Bool)(j:Nat):TA:=fun σ H Q=>σ[j]?=some (some (.ref e))/\Q (bs.map V.bl) H
theorem pe_isx{e C:Addr}{oe:Obj}{b:Bool}{n d:Str}{j:Nat}{u:Value}{W:V}{p1 p2 p3 p4:Pos}(z:XIn X.K C)(hi:∀ h:Heap,h.get? e=some oe->PySem.W.InstAt h e oe C none)(hj:X.N[j]?=some n)(hv:Vis X.env.scope n)(hn1:(n == ("__debug__":Str))=false)(hn2:(n == ("__classdict__":Str))=false)
 (hg:Gl X (Str.ofString "isinstance")) (hm:X.mg (Str.ofString "isinstance")=none) (hr:RelV W u) (hW:∀ u',RelV W u'->u'=u) (hd:PE (cxH X e oe) (.Name d p3) (tC W)) (hk:PySem.W.kitOne X.K (.ref C) u=some b) :
 PE (cxH X e oe) (.Call (.Name (Str.ofString "isinstance") p1) [.Name n p2,.Name d p3] [] p4) (fun σ H Q=>σ[j]?=some (some (.ref e))/\Q (.bl b) H):=by
 have hc:CallR (cxH X e oe) (.builtin "isinstance") (fun xs H Q=>xs=[.ref e,W]/\Q (.bl b) H):=by
  intro pins s σ H xs us Q I r ⟨ex,q⟩
  subst ex
  obtain⟨a1,a2,rfl,r1,r2⟩:=vals2 r
  cases r1
  cases hW _ r2
  have pin:=I.pin (e,oe) (by simp)
  exact PySem.W.kia_one (kitx_exc z) I.kIn (hi _ pin.1) hk (fun y=>nomatch y) fun tk=>⟨.bl b,H,I.tok tk,rfl,q⟩
 refine PE.imp (pe_callB hc hg hm bb_isinstance (pa_cons (pe_var hj hv hn1 hn2) (pa_cons hd pa_nil)) (by decide +kernel) not_debug) fun σ H Q ⟨h1,h2⟩=>⟨_,h1,rfl,h2⟩
noncomputable def instB(sc:Scope)(n:Str):List String->List Expr->Bool
 | [],es=>es.isEmpty
 |c::cs,es=>whenS es.head? fun e=>whenS (vCallN (vw e)) fun q=>whenS (l2 q.2) fun r=>whenS (vName (vw r.1)) fun n'=>whenS (vName (vw r.2)) fun d =>
  isS q.1 "isinstance" && (gl sc q.1 && (decide (n'=n) && (isS d c && (gl sc d && ((c == "ValueError" || Cl.cls.contains c) && (decide (d ≠ "__debug__") && instB sc n cs es.tail))))))
theorem bb_VE:bootBuiltins (Str.ofString "ValueError")=some (.type "ValueError"):=by decide +kernel
theorem pa_insts{e:Addr}{oe:Obj}{c:String}{n:Str}{j:Nat}(hk:ClsOk X.K X.mg c)(hi:∀ h:Heap,h.get? e=some oe->PySem.W.InstAt h e oe (adr X.K c) none)(hj:X.N[j]?=some n)(hv:Vis X.env.scope n)(hn1:(n == ("__debug__":Str))=false)(hn2:(n == ("__classdict__":Str))=false)
 (hm:X.mg (Str.ofString "isinstance")=none) (hve:X.mg (Str.ofString "ValueError")=none) (hcl:∀ c∈Cl.cls,ClsOk X.K X.mg c):∀ {cs:List String} {es:List Expr},instB X.env.scope n cs es=true->PA (cxH X e oe) es (insts e (cs.map (MP.isA c)) j)/\es.length=cs.length
 | [],[],_=>⟨PA.imp pa_nil fun σ H Q h=>h.2,rfl⟩
 | [],_::_,h=>by cases h
 |d::cs,[],h=>by cases h
 |d::cs,x::es,h=>by
  obtain⟨⟨f,as⟩,k1,h⟩:=whenS_inv (show whenS (vCallN (vw x)) _=true from h)
  obtain⟨⟨u,v⟩,k2,h⟩:=whenS_inv h
  obtain⟨n',k3,h⟩:=whenS_inv h
  obtain⟨d',k4,h⟩:=whenS_inv h
  simp only[Bool.and_eq_true,Bool.or_eq_true,decide_eq_true_eq,beq_iff_eq] at h
  obtain⟨h1,h2,rfl,h4,h5,h6,h7,h8⟩:=h
  obtain⟨p1,p4,rfl⟩:=callNE k1
  cases l2_inv k2
  obtain⟨p2,rfl⟩:=nameE k3
  obtain⟨p3,rfl⟩:=nameE k4
  have f1:=isS_eq h1
  have f2:=isS_eq h4
  subst f1 f2
  obtain⟨q1,q2⟩:=pa_insts hk hi hj hv hn1 hn2 hm hve hcl (cs:=cs) (es:=es) h8
  refine⟨?_,by simp[q2]⟩
  have p:PE (cxH X e oe) (.Call (.Name (Str.ofString "isinstance") p1) [.Name n' p2,.Name (Str.ofString d) p3] [] p4) (fun σ H Q=>σ[j]?=some (some (.ref e))/\Q (.bl (MP.isA c d)) H):=by
   rcases h6 with rfl|h6
   ·exact pe_isx (W:=.ty "ValueError") (u:=.type "ValueError") hk.x hi hj hv hn1 hn2 (gl_eq h2) hm rfl (fun _ z=>z) (pe_bltn (gl_eq (X:=X) h5) hve bb_VE rfl (by decide +kernel) (by decide +kernel)) hk.ve
   ·have hd:d∈Cl.cls:=by simpa using h6
    exact pe_isx (W:=.ref (adr X.K d)) (u:=.ref (adr X.K d)) hk.x hi hj hv hn1 hn2 (gl_eq h2) hm rfl (fun _ z=>z) (fun _ _ _ H _ I h=>ld_glob I (gl_eq (X:=X) h5) (hcl d hd).at_ ⟨.ref (adr X.K d),H,I,rfl,h⟩ (beq_eq_false_iff_ne.mpr h7)) (hk.up d hd).2
  exact PA.imp (pa_cons p q1) fun σ H Q h=>⟨h.1,h.1,h.2⟩
theorem set_three{α:Type}(l:List α)(i j:Nat)(a b c:α):((l.set j a).set i b).set j c=(l.set i b).set j c:=by
 by_cases h:i=j
 ·subst h
  simp
 ·rw[List.set_comm _ _ (Ne.symm h),List.set_set]
theorem ps_try{b:Stmt}{tb:(String->Hp->Prop)->TS}{d:String}{n x:Str}{j i:Nat}{cs:List String}{els:List Expr}{np px lp ap hp tp:Pos}(B:Bdy X)(hh:X.fn x=true/\X.fn n=true)(hcl:∀ c∈Cl.cls,ClsOk X.K X.mg c)(hd:d∈Cl.cls)(hgd:Gl X (Str.ofString d))(hdd:(Str.ofString d == ("__debug__":Str))=false)
 (nd:X.N.Nodup) (hj:X.N[j]?=some n) (hjl:X.env.scope.names.lookup n=some .local) (hn1:(n == ("__debug__":Str))=false) (hn2:(n == ("__classdict__":Str))=false) (hi:X.N[i]?=some x) (hx:Loc X.env.scope x)
 (hm:X.mg (Str.ofString "isinstance")=none) (hve:X.mg (Str.ofString "ValueError")=none) (hin:instB X.env.scope n cs els=true) (hlen:cs.length<=1000) (hb:∀ Ξ,PSx X Ξ b (tb Ξ)) :
 PS X (.Try [b] [.ExceptHandler (some (.Name (Str.ofString d) np)) (some n) [.Assign [.Name x px] (.List els lp) ap] hp] [] [] tp)
  (fun D σ H=>tb (fun c H'=>MP.isA c d=true/\∀ l,H' l=none->D.nx ((σ.set i (some (.ref l))).set j none) (upd H' l (.lst (cs.map fun k=>.bl (MP.isA c k))))) D σ H):=by
 intro pins s σ H D I h
 refine wpAny_Try_except ?_
 refine wpAny_execs_cons (wpAny_mono (hb _ pins s σ H D I h) (fun f s1 q => ?_) fun v s1 q => ?_)
 ·cases f with
  |next=>exact wpAny_execs_nil (wpAny_execs_nil q)
  |ret u=>exact q
  |brk=>exact q
  |cont=>exact q
 obtain⟨e,c,C,H1,tb',g,rfl,hc,hC,I1,x1,⟨g1,g2⟩,hA,q1⟩:=q
 have hk:=hcl c hc
 rw[hk.at_] at hC
 cases hC
 have lo:∀ (h:Heap),(∀ b o,g.get? b=some o->∃ o',h.get? b=some o')->∀ b,h.objs.size<=b->g.get? b=none:=fun h k b hb=>by
  cases z:g.get? b with
  |none=>rfl
  |some o =>
   obtain⟨o',w⟩:=k b o z
   exact absurd (Nat.lt_of_lt_of_le (Heap.lt_size w) hb) (Nat.lt_irrefl _)
 have th:∀ (h h':Heap) (fs ch:List Addr),(∀ b o,g.get? b=some o->∃ o',h.get? b=some o')->Ch fs ch h h'->∀ b o,g.get? b=some o->∃ o',h'.get? b=some o':=fun h h' fs ch k c b o z=>by
  obtain⟨o',w⟩:=k b o z
  exact c.there b o' w
 have hfr:=I1.ok.frames
 have hl:=I1.stack
 rw[B.stk] at hfr hl
 refine note_x hfr hl B.fr x1 (lo _ g2) (fun b hb=>I1.hok.fresh hb) fun h2 ch2 r2 c2 x2 => ?_
 rw[← B.stk] at c2
 have I2:=inv_ch I1 B.pn g1 r2 c2
 refine flight_x (fs:=frs X.stack) x2 fun h3 ch3 r3 c3 x3 => ?_
 have I3:=inv_ch I2 B.pn g1 r3 c3
 have g3:=th _ _ _ _ (th _ _ _ _ g2 c2) c3
 obtain⟨oe,vs,v,e1,⟨e2,e2'⟩,e3,e4,e5,e6⟩:=id x3
 have hin':∀ (h:Heap) (o:Obj) (ws:Array Value),o.cls = .ref (adr X.K c)->o.dict=none->o.data = .fields ws->h.get? e=some o->PySem.W.InstAt h e o (adr X.K c) none:=fun h o ws k1 k2 k3 k4=>⟨k4,k1,by unfold PySem.W.notCls;rw[k3],by rw[k2];trivial⟩
 have J3:=inH B I3 (pinH I3 e1 e3 (g1 e e4).1 e5)
 refine wpAny_handleBy_cons (codeAny_handlers_test (ld_glob (X:=cxH X e oe) J3 hgd (hcl d hd).at_ ?_ hdd)) (by intro z;cases z)
 refine exc_match J3.kIn (hin' _ oe vs e2 e2' e3 e1) (hcl d hd).x (hk.up d hd).1 ?_
 rw[hA]
 refine codeAny_handlers_suite_as ?_
 refine flight_x (fs:=frs X.stack) x3 fun h4 ch4 r4 c4 x4 => ?_
 have I4:=inv_ch I3 B.pn g1 r4 c4
 obtain⟨oe',vs',v',e1,⟨e2,e2'⟩,e3,e4,e5,e6⟩:=id x4
 have J4:=inH B I4 (pinH I4 e1 e3 (g1 e e4).1 e5)
 refine store_ok (X:=cxH X e oe') J4 nd hj (.inl hjl) (v:=.ref e) (u:=.ref e) rfl (fun s5 I5 => ?_) (.inl hh.2)
 obtain⟨p1,p2⟩:=pa_insts (oe:=oe') hk (fun h k=>hin' h oe' vs' e2 e2' e3 k) hj (.inl hjl) hn1 hn2 hm hve hcl hin
 have hjσ:j<σ.length:=by rw[I1.len];exact(List.getElem?_eq_some_iff.mp hj).1
 have ps:=pss_one (ps_set (X:=cxH X e oe') (i:=i) (x:=x) (pos:=ap) (pos':=px) nd hi hx (pe_lst (pos:=lp) p1) rfl (.inl hh.1))
 refine wpAny_mono (ps pins s5 _ H1 {nx:=fun σ' H'=>D.nx (σ'.set j none) H',rt:=fun _ _=>False} I5 ⟨by rw[List.getElem?_set_self hjσ],by simp;unfold sizeLine;omega,fun l hl => ?_⟩) (fun f s6 q => ?_) fun _ _ z=>z.elim
 ·have z:=q1 l hl
  show D.nx (((σ.set j (some (.ref e))).set i (some (.ref l))).set j none) (upd H1 l (.lst (List.map V.bl (cs.map (MP.isA c)))))
  rw[set_three,List.map_map]
  exact z
 ·cases f with
  |next =>
   obtain⟨σ',H',I6,q6⟩:=q
   have I7:=outH I1.ok B I6
   obtain⟨m,hn,hl'⟩:=I7.loc
   have hk':(X.env.scope.kind == .class || (X.env.scope.kind == .module && X.env.locals !=X.env.globals))=false:=by rw[I1.ok.kind];rfl
   exact wpAny_nameGoes_keeps hjl hn hk' fun h' v n' sb=>⟨_,H',forget_ok I7 nd hj hl' n' sb,q6⟩
  |ret u=>obtain⟨_,_,_,_,_,z⟩:=q;exact z.elim
  |brk=>obtain⟨_,_,_,z⟩:=q;exact z.elim
  |cont=>obtain⟨_,_,_,z⟩:=q;exact z.elim
end
end SN
namespace SN
open PySem PySem.Spec PyProof.Rows L2
section
variable {prog:Program}{w:World}{A:Around}{E:Value->Shared->Prop}{s:Shared}
theorem entry_unchain:entryFor table "proto.unchain"=some Builtin.«proto.unchain» := entryFor_of_fast (by kernel_rfl)
theorem raiseNew_ctx{α:Type}{e g:Addr}{oe og:Obj}{vs ws:Array Value}{Q:α->Shared->Prop}(hh:A.handled=some (.ref g))(ne:g≠e)(hg:s.heap.get? g=some og)(dg:og.data = .fields ws)(cg:ws[2]?=some .none)(he:s.heap.get? e=some oe)(de:oe.data = .fields vs)(he2:2<vs.size)
 (h:E (.ref e) {s with heap:=s.heap.update e (Obj.mapFields (·.setIfInBounds 2 (.ref g)))}):wpAny (model prog w) A (raiseNew (.ref e):Sem α) Q E s:=by
 unfold raiseNew
 refine wpAny_bind (wpAny_handled ?_)
 rw[hh]
 dsimp only
 have q:(Value.ref g !=Value.ref e)=true:=by simp[ne]
 rw[if_pos q]
 refine wpAny_bind (wpAny_holding (wpAny_runValue (codeAny_builtin entry_unchain ?_)))
 unfold Builtin.«proto.unchain»
 dsimp only
 refine wpAny_bind (wpAny_field hg dg cg ?_)
 rw[if_pos (by decide)]
 refine wpAny_bind (wpAny_pure ?_)
 refine wpAny_pure ?_
 dsimp only
 refine wpAny_bind (wpAny_setField he de he2 ?_)
 exact wpAny_throw h
variable {env:PySem.Env}{nm qn:Str}{C N:Addr}{bs bm bmB:List Value}{hdct:Bool}{sn:List Str}{sub:List Value}{ab:Bool}{col:Option Bool}{dd:Option Addr}{k0 k1 k2 k3 k5:Option Value}{B newId initId:String}
theorem raiseStmt_new{x:Sem Value}{Q:Flow->Shared->Prop}(hbs:bm.contains (.type "BaseException")=true)
 (h:wpAny (model prog w) A x (fun v s1=>∃ e t,v = .ref e/\s1.heap.get? C=some (excClassObj nm qn C N bs bm hdct sn sub ab col dd k0 k1 k2 k3 k5 newId) ∧
   s1.heap.get? e=some {cls:=.ref C,data:=.fields #[.ref t,.none,.none,.none,.bool false,.none]}/\wpAny (model prog w) A (raiseNew (.ref e):Sem Flow) Q E s1) E s):wpAny (model prog w) A (raiseStmt env (some x) none) Q E s:=by
 unfold raiseStmt
 refine wpAny_bind (wpAny_mono h (fun v s1 k => ?_) fun _ _ z=>z)
 obtain⟨e,t,rfl,kc,ke,kr⟩:=k
 obtain⟨mh,g,d,ut,uo⟩:=s1
 have kb:(Value.ref C::bm).contains (.type "BaseException")=true:=by rw[List.contains_cons,hbs,Bool.or_true]
 repeat (first|with_reducible refine wpAny_loadPart_at ke ?_|with_reducible refine wpAny_loadPart_at kc ?_|(with_reducible refine wpAny_isSubtype_exc kc ?_;rw[kb])|wp_step)
 exact kr
theorem Raise_new(F:ExcBaseFacts B newId initId bmB){mN:Str->Option Value}{nx:Str}{p1 p2 p3:Pos}{ys:List Expr}{Q:Flow->Shared->Prop}
 (hbs:bm.contains (.type "BaseException")=true) (hpl:(backTo p2 (starEach ys env)).any (·.1)=false) (hin:mN "__init__"=none)
 (h:wpAny (model prog w) A (eval (.Name nx p1) env) (fun f s1=>f = .ref C/\wpAny (model prog w) A (evalArgs (.ref C) true (backTo p2 (starEach ys env)) [])
   (fun a s2=>a.kw=[]/\a.pos.length<=sizeLine/\s2.heap.get? C=some (excClassObj nm qn C N bs bm hdct sn sub ab col dd k0 k1 k2 k3 k5 newId)/\s2.heap.Ns N mN/\OwnTail s2.heap bmB bm ∧
     ∀ h' e,Heap.MadeExcOf s2.heap h' e (.ref C) a.pos->wpAny (model prog w) A (raiseNew (.ref e):Sem Flow) Q E {s2 with heap:=h'}) E s1) E s) :
 wpAny (model prog w) A (exec (.Raise (some (.Call (.Name nx p1) ys [] p2)) none p3) env) Q E s:=by
 rw[arm_exec_Raise]
 simp only[evalOpt,Option.map]
 refine wpAny_bind (wpAny_standAt (raiseStmt_new (C:=C) (nm:=nm) (qn:=qn) (N:=N) (bs:=bs) (bm:=bm) (hdct:=hdct) (sn:=sn) (sub:=sub) (ab:=ab) (col:=col) (dd:=dd) (k0:=k0) (k1:=k1) (k2:=k2) (k3:=k3) (k5:=k5) (newId:=newId) hbs ?_))
 refine wpAny_bind (wpAny_mono (wpAny_Call_ofName (wpAny_mono h (fun f s1 k1 => ?_) fun _ _ z=>z)) (fun v s3 k3=>wpAny_bind (wpAny_standAt (wpAny_pure k3))) fun _ _ z=>z)
 obtain⟨rfl,k1⟩:=k1
 unfold callWith
 refine wpAny_bind (wpAny_holding (wpAny_mono k1 (fun a s2 k2=>wpAny_bind (wpAny_standAt ?_)) fun _ _ z=>z))
 obtain⟨ap,aw⟩:=a
 obtain⟨kw,kl,kc,kn,T,k2⟩:=k2
 obtain rfl:aw=[]:=kw
 obtain⟨mh,g,d,ut,uo⟩:=s2
 simp only[hpl]
 refine wpAny_bind (wpAny_keeperOf_exc kc ?_)
 refine wpAny_bind (wpAny_call_exc_subT (hrest:=kl) F T kc kn hin fun h' e mm=>wpAny_bind (wpAny_holding (wpAny_point (wpAny_pure ?_))))
 obtain⟨t,kt,_,_⟩:=mm.there
 exact⟨e,t,rfl,mm.keeps _ _ kc,kt,k2 h' e mm⟩
end
variable [Wd][Cl]
section
variable {X:Cx}{pins:List (Addr × Obj)}{σ:L2.St}{H:Hp}{s:Shared}{Ξ:String->Hp->Prop}
theorem raise_h{e:Addr}{oe:Obj}{ws:Array Value}{c:String}{a:Expr}{ta:TE}{np cpos pos:Pos}{Q:Flow->Shared->Prop}(B:Bdy X)(hw:oe.data = .fields ws)(hw2:ws[2]?=some .none)(hn:MP.ncx c=false)(hm:c∈Cl.cls)(hk:ClsOk X.K X.mg c)(hg:Gl X (Str.ofString c))(hd:(Str.ofString c == ("__debug__":Str))=false)(hs:notStar a=true)(ha:PE (cxH X e oe) a ta)
 (ok:X.Ok) (I:Inv (cxH X e oe) pins σ H s) (q:ta σ H fun v H'=>[v].length=1/\Ξ c H'):wpAny (model X.prog X.w) (X.A.mark (some (.ref e))) (exec (.Raise (some (.Call (.Name (Str.ofString c) np) [a] [] cpos)) none pos) X.env) Q (XEs X pins σ Ξ) s:=by
 obtain⟨bm,N,nm,qn,bs,hdct,sn,sub,ab,col,dd,k0,k1,k2,k3,k5,mN,hC,hN,hi,T⟩:=own_obj I.ok.mod.kin hk.x.exc
 have es:=starEach_cons (es:=[]) (env:=X.env) hs
 refine Raise_new (C:=adr X.K c) (nm:=nm) (qn:=qn) (N:=N) (bs:=bs) (bm:=bm) (hdct:=hdct) (sn:=sn) (sub:=sub) (ab:=ab) (col:=col) (dd:=dd) (k0:=k0) (k1:=k1) (k2:=k2) (k3:=k3) (k5:=k5)
  PySem.F.excBase_ValueError (mN:=mN) (T.hasType PySem.F.excBase_ValueError.hasBase) (by rw[es];rfl) hi (ld_glob (X:=cxH X e oe) I hg hk.at_ ⟨rfl,?_⟩ hd)
 have p:=pa_cons ha pa_nil es cpos pins s σ H (fun vs H'=>vs.length=1/\Ξ c H') I q
 rw[show starEach [a] (cxH X e oe).env=starEach [a] X.env from rfl,es] at p
 rw[es]
 refine Calls.evalArgs_plain (wpAny_mono p (fun us s1 ⟨vs,H1,I1,r,q0,q1⟩ => ?_) fun _ _ z=>z.elim)
 have I2:Inv X pins σ H1 s1:=outH ok B I1
 refine⟨rfl,by rw[← r.length,q0];decide,I2.bk _ _ hC,hN.keeps I2.bk,T.keeps I2.bk,fun h' e2 m => ?_⟩
 obtain⟨t,ht,_,_⟩:=m.there
 have pin:=I1.pin (e,oe) (by simp)
 have ne:e≠e2:=fun z=>by
  have:=pin.1
  rw[z,m.new] at this
  cases this
 refine raiseNew_ctx rfl ne (m.keeps e oe pin.1) hw hw2 ht rfl (by simp) ?_
 have I3:Inv X pins σ H1 {s1 with heap:=h'}:=I2.kept (t':=s1.toks) m.keeps
 have hne:=(old_none B I2 m.new).2
 have dm:=Obj.data_mapFields (o:={cls:=.ref (adr X.K c),data:=.fields #[.ref t,.none,.none,.none,.bool false,.none]}) rfl (·.setIfInBounds 2 (Value.ref e))
 have I4:=inv_ch (s:={s1 with heap:=h'}) (ch:=[e2]) (g:=s1.heap) I3 B.pn (old_at B I2) (fun b hb=>by
  cases List.mem_singleton.mp hb
  exact⟨m.new,hne,_,_,ht,rfl⟩) (Ch.upd1 (fs:=frs X.stack) (·.setIfInBounds 2 (Value.ref e)) ht rfl)
 refine⟨e2,c,_,H1,false,s1.heap,rfl,hm,hk.at_,I4,⟨_,_,.none,Heap.get?_update_self _ ht (Obj.isFreed_of_fields dm),⟨rfl,rfl⟩,dm,m.new,hne,rfl,.inl rfl,⟨fun z=>(by cases z),fun z=>by rw[show(Value.ref (adr X.K c),MP.ncx c).2=MP.ncx c from rfl,hn] at z;cases z⟩⟩,⟨old_at B I2,fun b o eb=>⟨o,?_⟩⟩,q1⟩
 have nb:e2≠b:=fun z=>by rw[← z,m.new] at eb;cases eb
 show(h'.update e2 _).get? b=some o
 rw[Heap.get?_update_other _ _ nb]
 exact m.keeps b o eb
theorem ps_tryR{b:Stmt}{tb:(String->Hp->Prop)->TS}{d c':String}{a:Expr}{v0:V}{np cn cpos rp hp tp:Pos}(B:Bdy X)(hx:∀ v s',XE X Ξ v s'->X.xe v s')(hcl:∀ c∈Cl.cls,ClsOk X.K X.mg c)(hd:d∈Cl.cls)(hgd:Gl X (Str.ofString d))(hdd:(Str.ofString d == ("__debug__":Str))=false)
 (hn:MP.ncx c'=false) (hc':c'∈Cl.cls) (hgc:Gl X (Str.ofString c')) (hdc:(Str.ofString c' == ("__debug__":Str))=false) (hs:notStar a=true) (ha:∀ Y:Cx,PE Y a (tC v0)) (hb:∀ Ξ,PSx X Ξ b (tb Ξ)) :
 PS X (.Try [b] [.ExceptHandler (some (.Name (Str.ofString d) np)) none [.Raise (some (.Call (.Name (Str.ofString c') cn) [a] [] cpos)) none rp] hp] [] [] tp)
  (fun D σ H=>tb (fun x H'=>MP.isA x d=true/\MP.ncx x=true/\Ξ c' H') D σ H):=by
 intro pins s σ H D I h
 refine wpAny_Try_except ?_
 refine wpAny_execs_cons (wpAny_mono (hb _ pins s σ H D I h) (fun f s1 q => ?_) fun v s1 q => ?_)
 ·cases f with
  |next=>exact wpAny_execs_nil (wpAny_execs_nil q)
  |ret u=>exact q
  |brk=>exact q
  |cont=>exact q
 obtain⟨e,x,C,H1,tb',g,rfl,hc,hC,I1,x1,⟨g1,g2⟩,hA,hnx,q1⟩:=q
 have hk:=hcl x hc
 rw[hk.at_] at hC
 cases hC
 have lo:∀ (h:Heap),(∀ b o,g.get? b=some o->∃ o',h.get? b=some o')->∀ b,h.objs.size<=b->g.get? b=none:=fun h k b hb=>by
  cases z:g.get? b with
  |none=>rfl
  |some o =>
   obtain⟨o',w⟩:=k b o z
   exact absurd (Nat.lt_of_lt_of_le (Heap.lt_size w) hb) (Nat.lt_irrefl _)
 have hfr:=I1.ok.frames
 have hl:=I1.stack
 rw[B.stk] at hfr hl
 refine note_x hfr hl B.fr x1 (lo _ g2) (fun b hb=>I1.hok.fresh hb) fun h2 ch2 r2 c2 x2 => ?_
 rw[← B.stk] at c2
 have I2:=inv_ch I1 B.pn g1 r2 c2
 refine flight_x (fs:=frs X.stack) x2 fun h3 ch3 r3 c3 x3 => ?_
 have I3:=inv_ch I2 B.pn g1 r3 c3
 obtain⟨oe,vs,v,e1,⟨e2,e2'⟩,e3,e4,e5,e6⟩:=id x3
 have hin':∀ (h:Heap) (o:Obj) (ws:Array Value),o.cls = .ref (adr X.K x)->o.dict=none->o.data = .fields ws->h.get? e=some o->PySem.W.InstAt h e o (adr X.K x) none:=fun h o ws k1 k2 k3 k4=>⟨k4,k1,by unfold PySem.W.notCls;rw[k3],by rw[k2];trivial⟩
 have J3:=inH B I3 (pinH I3 e1 e3 (g1 e e4).1 e5)
 refine wpAny_handleBy_cons (codeAny_handlers_test (ld_glob (X:=cxH X e oe) J3 hgd (hcl d hd).at_ ?_ hdd)) (by intro z;cases z)
 refine exc_match J3.kIn (hin' _ oe vs e2 e2' e3 e1) (hcl d hd).x (hk.up d hd).1 ?_
 rw[hA]
 refine codeAny_handlers_suite ?_
 refine flight_x (fs:=frs X.stack) x3 fun h4 ch4 r4 c4 x4 => ?_
 have I4:=inv_ch I3 B.pn g1 r4 c4
 obtain⟨oe',vs',v',e1,⟨e2,e2'⟩,e3,e4,e5,e6,e7,e8,e9⟩:=id x4
 have J4:=inH B I4 (pinH I4 e1 e3 (g1 e e4).1 e5)
 refine wpAny_execs_cons (wpAny_mono (raise_h (Q:=fun _ _=>False) (Ξ:=Ξ) B e3 (e9 hnx) hn hc' (hcl c' hc') hgc hdc hs (ha _) I1.ok J4 ⟨rfl,q1⟩) (fun _ _ z=>z.elim) fun v s5 z => ?_)
 obtain⟨e,c,C,σ',H',tb,rfl,hm,hc,I',x',q'⟩:=z.toE
 unfold notedBy
 have hfr:=I'.ok.frames
 have hl:=I'.stack
 rw[B.stk] at hfr hl
 refine note_x (A:=X.A.mark _) hfr hl B.fr x' (fun b hb=>Heap.get?_none_of_le (Nat.le_trans I'.sz hb)) (fun b hb=>I'.hok.fresh hb) fun h' ch r k x'' => ?_
 rw[← B.stk] at k
 have I'':=inv_ch I' B.pn old0 r k
 refine came_x (fs:=frs X.stack) x'' fun h'' ch' r' k' y => ?_
 exact hx _ _ ⟨e,c,C,σ',H',true,rfl,hm,hc,inv_ch I'' B.pn old0 r' k',y,q'⟩
end
end SN
namespace SN
open PySem PySem.Spec PyProof.Rows L2 MP
variable [Wd][Cl]
class Xw where
 Ξ:String->Hp->Prop
variable [Xw]
noncomputable def FinS(ρ:Nat->Addr)(n:Nat)(H:Hp)(o:Out)(σ':Store)(D:Ends):Prop:=match o with
 | .next ε'=>∀ ρ' st' H',Ext ρ n H ρ' σ'.length H'->SR H' ρ' σ'->RE H' ρ' σ'.length ε' st'->D.nx st' H'
 | .brk ε'=>∀ ρ' st' H',Ext ρ n H ρ' σ'.length H'->SR H' ρ' σ'->RE H' ρ' σ'.length ε' st'->D.bk st' H'
 | .cont ε'=>∀ ρ' st' H',Ext ρ n H ρ' σ'.length H'->SR H' ρ' σ'->RE H' ρ' σ'.length ε' st'->D.ct st' H'
 | .ret r=>Fin ρ n H r σ' D.rt
 | .exc c=>FinX ρ n H σ' (Xw.Ξ c)
inductive TSv (g:MP.Env->Store->Res Out) (D:Ends) (st:L2.St) (H:Hp):Prop
 |mk (ρ:Nat->Addr) (ε:MP.Env) (σ:Store) (o:Out) (σ':Store) (hE:RE H ρ σ.length ε st) (hS:SR H ρ σ) (e:g ε σ = .ok o σ') (q:FinS ρ σ.length H o σ' D)
theorem FinS.after{ρ ρ2:Nat->Addr}{n:Nat}{σ2:Store}{H H2:Hp}{o:Out}{σ':Store}{D:Ends}(q:FinS ρ n H o σ' D)(ex:Ext ρ n H ρ2 σ2.length H2)(S:SR H2 ρ2 σ2):FinS ρ2 σ2.length H2 o σ' D:=by
 cases o with
 |next ε=>exact fun ρ' st' H' e S' r=>q ρ' st' H' (ex.trans S e) S' r
 |brk ε=>exact fun ρ' st' H' e S' r=>q ρ' st' H' (ex.trans S e) S' r
 |cont ε=>exact fun ρ' st' H' e S' r=>q ρ' st' H' (ex.trans S e) S' r
 |ret r=>exact Fin.after q ex S
 |exc c=>exact fun ρ' H' e S'=>q ρ' H' (ex.trans S e) S'
noncomputable abbrev S1(cl:CallH)(W:Nat)(s:Stm):TS:=TSv (evS cl W s)
noncomputable abbrev B1(cl:CallH)(W:Nat)(b:Blk):TS:=TSv (evB cl W b)
noncomputable def locB(sc:Scope)(x:Str):Bool:=decide (sc.names.lookup x=some .local) || decide (sc.names.lookup x=some .cell)
noncomputable def isComp:Expr->Bool
 | .ListComp .. => true
 | .SetComp .. => true
 | .DictComp .. => true
 |_=>false
noncomputable def swB(sc:Scope)(x:Str)(px:Pos)(v:Expr):Bool:=whenS (vComp (vw v)) fun q=>decide (sc.kind = .function) && (decide (sc.names.lookup x=some .local) && (px.line == q.2.2.2.line && !(q.2.2.1.names.any fun(n,k)=>n == x && (k == .local || k == .cell))))
noncomputable def tgB(N:List Str)(sc:Scope):List Nat->List Expr->Bool
 | [],es=>es.isEmpty
 |i::is,es=>whenS es.head? fun e=>whenS (vName (vw e)) fun x=>decide (N[i]?=some x) && (locB sc x && tgB N sc is es.tail)
noncomputable def isCall(e:Expr):Bool:=(vCall (vw e)).isSome
inductive Sv where
 |asg (t v:Expr) (p:Pos)
 |aug (t:Expr) (op:Operator) (v:Expr)
 |expr (v:Expr) (p:Pos)
 |ret (v:Expr)
 |retN
 |ite (c:Expr) (a b:List Stmt)
 |for_ (tg it:Expr) (b:List Stmt)
 |while_ (c:Expr) (b:List Stmt)
 |brk
 |cont
 |pass
 |raise (e:Expr)
 |try_ (b:Stmt) (h:ExceptHandler)
 |other
noncomputable def svA(v:Expr)(p:Pos)(ts:List Expr):Sv:=match l1 ts with
 |some t=>.asg t v p
 |none=>.other
noncomputable def svR:Option Expr->Sv
 |some v=>.ret v
 |none=>.retN
noncomputable def svX:Option Expr->Option Expr->Sv
 |some e,none=>.raise e
 |_,_=>.other
noncomputable def svT(bs:List Stmt)(hs:List ExceptHandler)(e f:List Stmt):Sv:=match l1 bs,l1 hs,e.isEmpty && f.isEmpty with
 |some b,some h,true=>.try_ b h
 |_,_,_=>.other
noncomputable def sv:Stmt->Sv
 | .Assign ts v p=>svA v p ts
 | .AugAssign t op v _=>.aug t op v
 | .Expr v p=>.expr v p
 | .Return v _=>svR v
 | .If c a b _=>.ite c a b
 | .For tg it b o _=>if o.isEmpty then .for_ tg it b else .other
 | .While c b o _=>if o.isEmpty then .while_ c b else .other
 | .Break _=>.brk
 | .Continue _=>.cont
 | .Pass _=>.pass
 | .Raise e c _=>svX e c
 | .Try bs hs e f _=>svT bs hs e f
 |_=>.other
noncomputable def SvOk(s:Stmt):Sv->Prop
 | .asg t v p=>s = .Assign [t] v p
 | .aug t op v=>∃ p,s = .AugAssign t op v p
 | .expr v p=>s = .Expr v p
 | .ret v=>∃ p,s = .Return (some v) p
 | .retN=>∃ p,s = .Return none p
 | .ite c a b=>∃ p,s = .If c a b p
 | .for_ tg it b=>∃ p,s = .For tg it b [] p
 | .while_ c b=>∃ p,s = .While c b [] p
 | .brk=>∃ p,s = .Break p
 | .cont=>∃ p,s = .Continue p
 | .pass=>∃ p,s = .Pass p
 | .raise e=>∃ p,s = .Raise (some e) none p
 | .try_ b h=>∃ p,s = .Try [b] [h] [] [] p
 | .other=>True
theorem sv_ok(s:Stmt):SvOk s (sv s):=by
 cases s<;>first|exact trivial|exact rfl|exact⟨_,rfl⟩|skip
 ·rename_i v p;cases v<;>exact⟨_,rfl⟩
 ·rename_i ts v p
  show SvOk _ (svA v p ts)
  unfold svA
  cases c:l1 ts with
  |none=>trivial
  |some t=>cases l1_inv c;exact rfl
 ·rename_i tg it b o p
  cases o with
  |nil=>exact⟨_,rfl⟩
  |cons _ _=>exact trivial
 ·rename_i c b o p
  cases o with
  |nil=>exact⟨_,rfl⟩
  |cons _ _=>exact trivial
 ·rename_i e c p
  cases e<;>cases c<;>first|exact trivial|exact⟨_,rfl⟩
 ·rename_i bs hs e f p
  show SvOk _ (svT bs hs e f)
  unfold svT
  cases c:l1 bs with
  |none=>trivial
  |some b =>
   cases d:l1 hs with
   |none=>trivial
   |some h =>
    cases e with
    |cons _ _=>exact trivial
    |nil =>
     cases f with
     |cons _ _=>exact trivial
     |nil=>cases l1_inv c;cases l1_inv d;exact⟨_,rfl⟩
noncomputable def sAsg:Sv->Option (Expr × Expr × Pos)
 | .asg t v p=>some (t,v,p)
 |_=>none
theorem asgS{s:Stmt}{t v:Expr}{p:Pos}(h:sAsg (sv s)=some (t,v,p)):s = .Assign [t] v p:=by
 have hv:=sv_ok s
 generalize sv s=z at h hv
 cases z<;>first|(cases h;done)|(cases h;exact hv)
noncomputable def sAug:Sv->Option (Expr × Expr)
 | .aug t op v=>if op = .Add then some (t,v) else none
 |_=>none
theorem augS{s:Stmt}{t v:Expr}(h:sAug (sv s)=some (t,v)):∃ p,s = .AugAssign t .Add v p:=by
 have hv:=sv_ok s
 generalize sv s=z at h hv
 cases z<;>first|(cases h;done)|skip
 rename_i t' op v'
 by_cases c:op = .Add
 ·subst c
  rw[sAug,if_pos rfl] at h
  cases h
  exact hv
 ·rw[sAug,if_neg c] at h
  cases h
noncomputable def augT:MP.Tm->Option (Nat × Int)
 | .op .add (.cons (.var j) (.cons (.con (.int k)) .nil))=>some (j,k)
 |_=>none
noncomputable def augB(N:List Str)(sc:Scope)(i:Nat)(e:MP.Tm)(s:Stmt):Bool:=whenS (augT e) fun q=>whenS (sAug (sv s)) fun r=>whenS (vName (vw r.1)) fun x=>decide (q.1=i) && (decide (N[i]?=some x) && (locB sc x && decide (cst (vw r.2)=some (.int q.2))))
noncomputable def sExpr:Sv->Option (Expr × Pos)
 | .expr v p=>some (v,p)
 |_=>none
theorem exprS{s:Stmt}{v:Expr}{p:Pos}(h:sExpr (sv s)=some (v,p)):s = .Expr v p:=by
 have hv:=sv_ok s
 generalize sv s=z at h hv
 cases z<;>first|(cases h;done)|(cases h;exact hv)
noncomputable def sRet:Sv->Option Expr
 | .ret v=>some v
 |_=>none
theorem retS{s:Stmt}{v:Expr}(h:sRet (sv s)=some v):∃ p,s = .Return (some v) p:=by
 have hv:=sv_ok s
 generalize sv s=z at h hv
 cases z<;>first|(cases h;done)|(cases h;exact hv)
noncomputable def sIf:Sv->Option (Expr × List Stmt × List Stmt)
 | .ite c a b=>some (c,a,b)
 |_=>none
theorem ifS{s:Stmt}{c:Expr}{a b:List Stmt}(h:sIf (sv s)=some (c,a,b)):∃ p,s = .If c a b p:=by
 have hv:=sv_ok s
 generalize sv s=z at h hv
 cases z<;>first|(cases h;done)|(cases h;exact hv)
noncomputable def sFor:Sv->Option (Expr × Expr × List Stmt)
 | .for_ tg it b=>some (tg,it,b)
 |_=>none
theorem forS'{s:Stmt}{tg it:Expr}{b:List Stmt}(h:sFor (sv s)=some (tg,it,b)):∃ p,s = .For tg it b [] p:=by
 have hv:=sv_ok s
 generalize sv s=z at h hv
 cases z<;>first|(cases h;done)|(cases h;exact hv)
noncomputable def sWh:Sv->Option (Expr × List Stmt)
 | .while_ c b=>some (c,b)
 |_=>none
theorem whS{s:Stmt}{c:Expr}{b:List Stmt}(h:sWh (sv s)=some (c,b)):∃ p,s = .While c b [] p:=by
 have hv:=sv_ok s
 generalize sv s=z at h hv
 cases z<;>first|(cases h;done)|(cases h;exact hv)
noncomputable def sBare(k:Nat):Sv->Bool
 | .retN=>k == 0
 | .brk=>k == 1
 | .cont=>k == 2
 | .pass=>k == 3
 |_=>false
noncomputable def sRaise:Sv->Option Expr
 | .raise e=>some e
 |_=>none
theorem raiseS{s:Stmt}{e:Expr}(h:sRaise (sv s)=some e):∃ p,s = .Raise (some e) none p:=by
 have hv:=sv_ok s
 generalize sv s=z at h hv
 cases z<;>first|(cases h;done)|(cases h;exact hv)
noncomputable def hdl:ExceptHandler->Option (Expr × Str × List Stmt)
 | .ExceptHandler t n b _=>t.bind fun t=>n.map fun n=>(t,n,b)
theorem hdlE{h:ExceptHandler}{t:Expr}{n:Str}{b:List Stmt}(e:hdl h=some (t,n,b)):∃ p,h = .ExceptHandler (some t) (some n) b p:=by
 obtain⟨t',n',b',p⟩:=h
 cases t' with
 |none=>cases e
 |some t' =>
  cases n' with
  |none=>cases e
  |some n'=>cases e;exact⟨p,rfl⟩
noncomputable def hdlR:ExceptHandler->Option (Expr × List Stmt)
 | .ExceptHandler t n b _=>t.bind fun t=>match n with
  |none=>some (t,b)
  |some _=>none
theorem hdlRE{h:ExceptHandler}{t:Expr}{b:List Stmt}(e:hdlR h=some (t,b)):∃ p,h = .ExceptHandler (some t) none b p:=by
 obtain⟨t',n',b',p⟩:=h
 cases t' with
 |none=>cases e
 |some t' =>
  cases n' with
  |some n'=>cases e
  |none=>cases e;exact⟨p,rfl⟩
noncomputable def strT:MP.Tm->Option (List Nat)
 | .con (.str x)=>some x
 |_=>none
theorem strT_inv{a:MP.Tm}{x:List Nat}(h:strT a=some x):a = .con (.str x):=by
 unfold strT at h
 split at h
 ·cases h;rfl
 ·cases h
theorem str_pe{X:Cx}{v:Expr}{x:List Nat}(h:cst (vw v)=some (.str x)):PE X v (tC (.str (sOf x))):=by
 unfold cst at h
 cases c:vCon (vw v) with
 |some z =>
  rw[c] at h
  obtain⟨n,p,rfl⟩:=conE c
  cases z<;>first|(cases h;done)|skip
  cases h
  exact PE.imp pe_str fun st H Q t=>by simpa[sOf] using t
 |none =>
  rw[c] at h
  obtain⟨a,h1,h2⟩:=Option.bind_eq_some_iff.mp h
  obtain⟨z,h3,h4⟩:=Option.bind_eq_some_iff.mp h2
  cases z<;>cases h4
noncomputable def sTry:Sv->Option (Stmt × ExceptHandler)
 | .try_ b h=>some (b,h)
 |_=>none
theorem tryS{s b:Stmt}{k:ExceptHandler}(h:sTry (sv s)=some (b,k)):∃ p,s = .Try [b] [k] [] [] p:=by
 have hv:=sv_ok s
 generalize sv s=z at h hv
 cases z<;>first|(cases h;done)|(cases h;exact hv)
noncomputable def callB(N:List Str)(sc:Scope)(f:String)(as:Tms)(e:Expr):Bool:=whenS (vCallN (vw e)) fun q=>isS q.1 f && (gl sc q.1 && (decide (q.1 ≠ "__debug__") && (!q.2.isEmpty && chkAs N sc as q.2)))
noncomputable def chkX(N:List Str)(sc:Scope)(tg:Option (Option Nat))(f:String)(as:Tms)(s:Stmt):Bool:=match tg with
 |none=>whenS (sExpr (sv s)) fun q=>callB N sc f as q.1
 |some none=>whenS (sRet (sv s)) fun v=>callB N sc f as v
 |some (some i)=>whenS (sAsg (sv s)) fun q=>whenS (vName (vw q.1)) fun y=>decide (N[i]?=some y) && (locB sc y && callB N sc f as q.2.1)
noncomputable def itx(i:Int):Str:=Str.ofString (toString i)
noncomputable def fsI(i:Int):Bool:=decide (i.natAbs.log2<1920) && decide ((itx i).length<=1000)
noncomputable def fsG:G->Bool
 | .int i=>fsI i
 |_=>false
noncomputable def fsN(sc:Scope)(x:Str):Bool:=gl sc x && (decide (x ≠ "__debug__") && Cl.consts.any fun q=>isS x q.1 && (decide (Cl.consts.lookup q.1=some q.2) && fsG q.2))
noncomputable def fsV(sc:Scope)(c:Int):Option Expr->Expr->Bool
 |none,e=>decide (c = -1) && whenS (vName (vw e)) fun x=>fsN sc x
 |some _,_=>false
noncomputable def fsC:Const->Bool
 | .str x=>decide (x.length<=1000)
 |_=>false
noncomputable def fsP(sc:Scope):Expr->Bool
 | .Constant c _ _=>fsC c
 | .FormattedValue e c f _=>fsV sc c f e
 |_=>false
noncomputable def fsL(sc:Scope):List Expr->Bool
 | []=>true
 |e::r=>fsP sc e && fsL sc r
noncomputable def fsE(sc:Scope):Expr->Bool
 | .JoinedStr es _=>decide (2<=es.length) && (decide (es.length<=10) && fsL sc es)
 |_=>false
noncomputable def conT:MP.Tm->Bool
 | .con _=>true
 |_=>false
noncomputable def chkF(N:List Str)(sc:Scope)(src:Src)(it:Expr):Bool:=match src with
 |_=>false
noncomputable def chkO(N:List Str)(sc:Scope)(src:Src)(it:Expr):Bool:=match src with
 |src=>chkW N sc false src it
noncomputable def compT:MP.Tm->Bool
 | .comp _ _ _ _ _=>true
 |_=>false
mutual
noncomputable def chkS(N:List Str)(sc:Scope):Stm->Stmt->Bool
 | .set i e,s=>(whenS (sAsg (sv s)) fun q=>whenS (vNameP (vw q.1)) fun x=>decide (N[i]?=some x.1) && (locB sc x.1 && (chkE N sc e q.2.1 && (!isComp q.2.1 || (compT e && swB sc x.1 x.2 q.2.1)))))
  || augB N sc i e s
 | .setIdx a i v,s=>whenS (sAsg (sv s)) fun q=>whenS (vSub (vw q.1)) fun r=>notSlice r.2 && (chkE N sc v q.2.1 && (chkE N sc a r.1 && (chkE N sc i r.2 && !isComp q.2.1)))
 | .expr e,s=>whenS (sExpr (sv s)) fun q=>chkE N sc e q.1 && !isComp q.1
 | .ret e,s=>whenS (sRet (sv s)) fun v=>chkE N sc e v
 | .retN,s=>sBare 0 (sv s)
 | .ite c a b,s=>whenS (sIf (sv s)) fun q=>chkE N sc c q.1 && (chkB N sc a q.2.1 && chkB N sc b q.2.2)
 | .forS tg src b,s=>whenS (sFor (sv s)) fun q=>notSet q.2.1 && (chkB N sc b q.2.2 && (match l1 tg with
  |some i=>whenS (vName (vw q.1)) fun x=>decide (N[i]?=some x) && (locB sc x && chkO N sc src q.2.1)
  |none=>decide (2<=tg.length) && whenS (vTup (vw q.1)) fun es=>tgB N sc tg es && chkF N sc src q.2.1))
 | .whileS c b,s=>whenS (sWh (sv s)) fun q=>chkE N sc c q.1 && chkB N sc b q.2
 | .brk,s=>sBare 1 (sv s)
 | .cont,s=>sBare 2 (sv s)
 | .pass,s=>sBare 3 (sv s)
 | .unpack is e,s=>whenS (sAsg (sv s)) fun q=>whenS (vTup (vw q.1)) fun es=>tgB N sc is es && (isCall q.2.1 && chkE N sc e q.2.1)
 | .raise c a,s=>whenS (sRaise (sv s)) fun v=>whenS (vCallN (vw v)) fun q=>whenS (l1 q.2) fun e=>isS q.1 c && (gl sc q.1 && (decide (q.1 ≠ "__debug__") && (Cl.cls.contains c && (notStar e && (chkE N sc a e
  || (conT a && fsE sc e)
  )))))
 | .callX tg f as,s=>chkX N sc tg f as s
 | .tryM tg f as c e i cs,s=>whenS (sTry (sv s)) fun q=>whenS (hdl q.2) fun k=>whenS (vName (vw k.1)) fun d=>whenS (l1 k.2.2) fun a=>whenS (sAsg (sv a)) fun g=>whenS (vName (vw g.1)) fun x=>whenS (vLst (vw g.2.1)) fun els =>
  isS d c && (gl sc d && (decide (d ≠ "__debug__") && (Cl.cls.contains c && (decide (N[e]?=some k.2.1) && (decide (sc.names.lookup k.2.1=some .local) && (decide (k.2.1 ≠ "__debug__") && (decide (k.2.1 ≠ "__classdict__") &&
   (decide (N[i]?=some x) && (locB sc x && (instB sc k.2.1 cs els && (decide (cs.length<=1000) && chkX N sc (tg.map some) f as q.1)))))))))))
 | .tryR f as c d a,s=>whenS (sTry (sv s)) fun q=>whenS (hdlR q.2) fun k=>whenS (vName (vw k.1)) fun dn=>whenS (l1 k.2) fun r=>whenS (sRaise (sv r)) fun v=>whenS (vCallN (vw v)) fun p=>whenS (l1 p.2) fun m=>whenS (strT a) fun x =>
  isS dn c && (gl sc dn && (decide (dn ≠ "__debug__") && (Cl.cls.contains c && (isS p.1 d && (gl sc p.1 && (decide (p.1 ≠ "__debug__") && (Cl.cls.contains d && (!ncx d && (notStar m && (decide (cst (vw m)=some (.str x)) && chkX N sc none f as q.1))))))))))
noncomputable def chkB(N:List Str)(sc:Scope):Blk->List Stmt->Bool
 | .nil,ss=>ss.isEmpty
 | .cons s b,ss=>whenS ss.head? fun t=>chkS N sc s t && chkB N sc b ss.tail
end
section
variable {P:List Fn}{W n:Nat}{X:Cx}{cl:CallH}
theorem setSlot_inv{ε ε1:MP.Env}{i:Nat}{r:R}(h:setSlot ε i r=some ε1):ε1=ε.set i (some r):=by
 unfold setSlot at h
 split at h
 ·cases h;rfl
 ·cases h
theorem ofE_inv{o:Option MP.Env}{f:MP.Env->Res Out}{r:Out}{σ:Store}(h:ofE o f = .ok r σ):∃ ε,o=some ε/\f ε = .ok r σ:=by
 cases o with
 |none=>cases h
 |some ε=>exact⟨ε,rfl,h⟩
theorem set_lift{i:Nat}{e:MP.Tm}(D:Ends)(st:L2.St)(H:Hp)(t:S1 cl W (.set i e) D st H):E1 cl e st H fun v H'=>D.nx (st.set i (some v)) H':=by
 obtain⟨ρ,ε,σ,o,σ',hE,hS,ee,q⟩:=t
 rw[evS] at ee
 obtain⟨r,σ1,e1,e2⟩:=bind_inv ee
 obtain⟨ε1,e3,e4⟩:=ofE_inv e2
 cases e4
 cases setSlot_inv e3
 exact⟨ρ,ε,σ,r,_,hE,hS,e1,fun ρ1 v1 H1 ex1 S1 r1=>q ρ1 _ H1 ex1 S1 ((hE.mono hS ex1).set r1)⟩
theorem augT_eq{e:MP.Tm}{j:Nat}{k:Int}(h:augT e=some (j,k)):e = .op .add (.cons (.var j) (.cons (.con (.int k)) .nil)):=by
 unfold augT at h
 split at h
 ·cases h;rfl
 ·cases h
theorem con_pe{v:Expr}{k:Int}(h:cst (vw v)=some (.int k)):PE X v (tC (.int k)):=by
 unfold cst at h
 cases c:vCon (vw v) with
 |some z =>
  rw[c] at h
  obtain⟨n,p,rfl⟩:=conE c
  cases z<;>first|(cases h;done)|skip
  cases h
  exact pe_int
 |none =>
  rw[c] at h
  obtain⟨a,h1,h2⟩:=Option.bind_eq_some_iff.mp h
  obtain⟨z,h3,h4⟩:=Option.bind_eq_some_iff.mp h2
  obtain⟨p,rfl⟩:=unE h1
  obtain⟨n,q,rfl⟩:=conE h3
  cases z<;>first|(cases h4;done)|skip
  cases h4
  exact un_neg1
theorem aug_lift{i:Nat}{k:Int}(D:Ends)(st:L2.St)(H:Hp)(t:S1 cl W (.set i (.op .add (.cons (.var i) (.cons (.con (.int k)) .nil)))) D st H):tAug i (tC (.int k)) (rI0 fun i j=>.int (i+j)) D st H:=by
 obtain⟨ρ,ε,σ,r,σ',hE,hS,e,q⟩:=set_lift D st H t
 obtain⟨xs,σ1,e1,e2⟩:=op_inv e
 obtain⟨x,ys,σ2,e3,e4,rfl⟩:=evs_cons_inv e1
 obtain⟨y,zs,σ3,e5,e6,rfl⟩:=evs_cons_inv e4
 obtain⟨rfl,rfl⟩:=evs_nil_inv e6
 rw[ev] at e5
 cases e5
 rw[ev] at e3
 split at e3
 ·rename_i r' e7
  cases e3
  obtain⟨v,g1,g2⟩:=hE.val i _ e7
  change pAdd [x,.g (.int k)] _=_ at e2
  cases x with
  |ref _=>cases e2
  |tr _=>cases e2
  |g gx =>
   cases gx with
   |int j =>
    cases e2
    cases g2
    exact⟨.int j,g1,j,k,rfl,rfl,q ρ _ H (Ext.refl _ _ _) hS rfl⟩
   |_=>cases e2
 ·cases e3
theorem swaps_false{v:Expr}{t:Option Expr}{l:Nat}{env:PySem.Env}(h:isComp v=false):swapsWith v t l env=pure false:=by
 cases v<;>first|rfl|(cases h;done)
theorem swB_true{x:Str}{px:Pos}{v:Expr}{l:Nat}(h:swB X.env.scope x px v=true):swapsWith v (some (.Name x px)) l X.env=pure true:=by
 obtain⟨⟨el,g,scope,p⟩,h0,h⟩:=whenS_inv h
 simp only[Bool.and_eq_true,decide_eq_true_eq] at h
 obtain⟨h1,h2,h3,h4⟩:=h
 cases compE h0
 unfold swapsWith
 have hb:X.env.blockKind = .function:=by
  unfold Env.blockKind
  rw[h1]
  rfl
 have hk:X.env.kindOf x=some .local:=h2
 simp only[pure_bind]
 show(pure _:Sem Bool)=pure true
 congr 1
 simp only[hb,hk,Expr.pos,h3,h4,beq_self_eq_true,Bool.and_self]
theorem loc_of{sc:Scope}{x:Str}(h:locB sc x=true):Loc sc x:=by
 simp only[locB,Bool.or_eq_true,decide_eq_true_eq] at h
 exact h
noncomputable def rSetD:V->V->V->Hp->(Hp->Prop)->Prop:=fun _ _ _ _ _=>False
theorem set_dict(_:X.A.units+1<cLine):PSet X rSetD:=fun _ _ _ _ _ _ _ _ _ _ _ _ _ _ _ h=>h.elim
noncomputable def rSetAll(X:Cx):V->V->V->Hp->(Hp->Prop)->Prop:=fun o i v H Q=>rSetL o i v H Q\/(rSetD o i v H Q
 )
theorem set_all(hw:X.w=Wd.w)(hu:X.A.units+170<cLine):PSet X (rSetAll X):=by
 intro pins s σ H o i v ov iv u Q I ro ri rv h
 rcases h with h|h
 ·exact set_list pins s σ H o i v ov iv u Q I ro ri rv h
 exact set_dict (by omega) pins s σ H o i v ov iv u Q I ro ri rv h
theorem put_lift{a i v:MP.Tm}(D:Ends)(st:L2.St)(H:Hp)(t:S1 cl W (.setIdx a i v) D st H):tAsg (E1 cl v) (gSub (E1 cl a) (E1 cl i) (rSetAll X)) D st H:=by
 obtain⟨ρ,ε,σ,o,σ',hE,hS,ee,q⟩:=t
 rw[evS] at ee
 obtain⟨z,σ1,e1,ee⟩:=bind_inv ee
 obtain⟨x,σ2,e2,ee⟩:=bind_inv ee
 obtain⟨y,σ3,e3,ee⟩:=bind_inv ee
 cases ep:MP.putAt x y z σ3 with
 |none=>rw[ep] at ee;cases ee
 |some σ4 =>
  rw[ep] at ee
  cases ee
  refine⟨ρ,ε,σ,z,σ1,hE,hS,e1,fun ρ1 v1 H1 ex1 S1 r1 => ?_⟩
  have hE1:=hE.mono hS ex1
  refine⟨ρ1,ε,σ1,x,σ2,hE1,S1,e2,fun ρ2 v2 H2 ex2 S2 r2 => ?_⟩
  have hE2:=hE1.mono S1 ex2
  refine⟨ρ2,ε,σ2,y,σ3,hE2,S2,e3,fun ρ3 v3 H3 ex3 S3 r3 => ?_⟩
  have hE3:=hE2.mono S2 ex3
  have ex:=(ex1.trans S1 ex2).trans S2 ex3
  have rz:RR H3 ρ3 σ3.length z v1:=RR.mono (ex3.tp S2) ex3.le ex3.ag z (RR.mono (ex2.tp S1) ex2.le ex2.ag z r1)
  have rx:RR H3 ρ3 σ3.length x v2:=RR.mono (ex3.tp S2) ex3.le ex3.ag x r2
  cases x with
  |g _=>simp[MP.putAt] at ep
  |tr _=>simp[MP.putAt] at ep
  |ref k =>
   cases y with
   |ref _=>simp[MP.putAt] at ep
   |tr _=>simp[MP.putAt] at ep
   |g gi =>
    cases z with
    |ref _=>simp[MP.putAt] at ep
    |tr _=>simp[MP.putAt] at ep
    |g gv =>
     obtain⟨hk,rfl⟩:=rx
     simp only[MP.putAt] at ep
     split at ep
     ·rename_i xs i e4
      cases ej:MP.ixOf xs.length i with
      |none=>rw[ej] at ep;cases ep
      |some j =>
       rw[ej] at ep
       cases ep
       obtain⟨vs,h1,h2⟩:=S3.lst e4
       cases(show v3 = .int i from r3)
       obtain⟨w1,w2⟩:=S3.write hk (o:=.lst (vs.set j v1)) (c:=.lst (xs.set j gv)) (nfz_l h1) fun H' tp e=>⟨_,e,RGs.set (RG.mono tp _ rz) j (RGs.mono tp _ h2)⟩
       refine .inl ⟨_,vs,i,j,rfl,rfl,h1,by rw[h2.length];exact ej,?_⟩
       exact q ρ3 st _ (ex.trans S3 w1) w2 (hE3.mono S3 w1)
     ·rename_i e4;exact False.elim (S3.cell _ _ e4)
     ·cases ep
theorem evW_guard{s:Src}{ε:MP.Env}{σ σ':Store}{w:Walk}(h:evW cl s ε σ = .ok w σ')(hs:(∃ t,s = .over t)\/(∃ t,s = .range1 t)\/∃ t,s = .chars t):∀ k kvs,w.guard≠some (k,.dct kvs):=by
 intro k kvs z
 rcases hs with⟨t,rfl⟩ | ⟨t,rfl⟩ | ⟨t,rfl⟩
 ·rw[evW] at h
  obtain⟨x,σ1,e1,e2⟩:=bind_inv h
  obtain⟨_,q⟩:=over_inv e2
  rcases q with⟨xs,_,rfl⟩ | ⟨j,xs,c,_,hc,_,rfl⟩
  ·cases z
  ·rcases hc with rfl|rfl<;>cases z
 ·rw[evW] at h
  obtain⟨x,σ1,e1,e2⟩:=bind_inv h
  cases x with
  |ref _=>simp[wRange] at e2
  |tr _=>simp[wRange] at e2
  |g gx =>
   cases gx with
   |int j =>
    simp only[wRange] at e2
    split at e2
    ·cases e2;cases z
    ·cases e2
   |_=>simp[wRange] at e2
 ·rw[evW] at h
  obtain⟨x,σ1,e1,e2⟩:=bind_inv h
  unfold wChars at e2
  split at e2
  ·cases e2;cases z
  ·cases e2
theorem forW_plain{tg:List Nat}{body:MP.Env->Store->Res Out}{w:Walk}{ε:MP.Env}{σ:Store}(h:∀ k kvs,w.guard≠some (k,.dct kvs)):forW tg body w ε σ=forL tg body w.guard w.items ε σ:=by
 unfold forW
 split
 ·rename_i k kvs e;exact absurd e (h k kvs)
 ·rfl
theorem forL_cons_inv{tg:List Nat}{body:MP.Env->Store->Res Out}{w:Option (Nat × Cell)}{x:R}{r:List R}{ε:MP.Env}{σ σ':Store}{o:Out}(h:forL tg body w (x::r) ε σ = .ok o σ') :
 intact w σ=true/\∃ ε1 ob σ1,bindTg tg x ε=some ε1/\body ε1 σ = .ok ob σ1/\((∃ ε2,(ob = .next ε2\/ob = .cont ε2)/\forL tg body w r ε2 σ1 = .ok o σ')\/(∃ ε2,ob = .brk ε2/\o = .next ε2/\σ'=σ1)\/(∃ v,ob = .ret v/\o = .ret v/\σ'=σ1)\/∃ c,ob = .exc c/\o = .exc c/\σ'=σ1):=by
 simp only[forL] at h
 split at h
 ·rename_i hi
  obtain⟨ε1,e1,h⟩:=ofE_inv h
  obtain⟨ob,σ1,e2,h⟩:=bind_inv h
  refine⟨hi,ε1,ob,σ1,e1,e2,?_⟩
  cases ob with
  |next ε2=>exact .inl ⟨ε2,.inl rfl,h⟩
  |cont ε2=>exact .inl ⟨ε2,.inr rfl,h⟩
  |brk ε2=>cases h;exact .inr (.inl ⟨ε2,rfl,rfl,rfl⟩)
  |ret v=>cases h;exact .inr (.inr (.inl ⟨v,rfl,rfl,rfl⟩))
  |exc c=>cases h;exact .inr (.inr (.inr ⟨c,rfl,rfl,rfl⟩))
 ·cases h
noncomputable def BindOk(tg:List Nat)(g:TG):Prop:=∀ {ρ:Nat->Addr} {n:Nat} {H:Hp} {x:R} {v:V} {ε ε1:MP.Env} {st:L2.St} {Q:L2.St->Hp->Prop},RE H ρ n ε st->RR H ρ n x v->bindTg tg x ε=some ε1->(∀ st',RE H ρ n ε1 st'->Q st' H)->g v st H Q
theorem bind_name{i:Nat}:BindOk [i] (gName i):=by
 intro ρ n H x v ε ε1 st Q hE hr e q
 have hb:ε1=ε.set i (some x):=setSlot_inv e
 subst hb
 exact q _ (hE.set hr)
theorem slots_ok{ρ:Nat->Addr}{n:Nat}{H:Hp}:∀ {is:List Nat} {rs:List R} {vs:List V} {ε ε1:MP.Env} {st:L2.St} {Q:L2.St->Hp->Prop},RE H ρ n ε st->RRs H ρ n rs vs->setSlots is rs ε=some ε1->(∀ st',RE H ρ n ε1 st'->Q st' H)->gNames is vs st H Q
 | [],[],_,ε,ε1,st,Q,hE,hr,e,q=>by
  cases hr
  cases e
  exact⟨rfl,q st hE⟩
 | [],_::_,_,_,_,_,_,_,_,e,_=>by simp[setSlots] at e
 |_::_,[],_,_,_,_,_,_,_,e,_=>by simp[setSlots] at e
 |i::is,r::rs,_,ε,ε1,st,Q,hE,hr,e,q=>by
  obtain⟨v,us,rfl,h1,h2⟩:=hr
  simp only[setSlots] at e
  cases c:setSlot ε i r with
  |none=>rw[c] at e;cases e
  |some ε2 =>
   rw[c] at e
   have:=setSlot_inv c
   subst this
   exact⟨v,us,rfl,slots_ok (hE.set h1) h2 e q⟩
theorem parts_ok{ρ:Nat->Addr}{n:Nat}{H:Hp}{x:R}{v:V}{rs:List R}(h:RR H ρ n x v)(e:parts x=some rs):RR H ρ n (.tr rs) v:=by
 cases x with
 |ref _=>simp[parts] at e
 |tr xs =>
  simp only[parts,Option.some.injEq] at e
  subst e
  exact h
 |g gx =>
  cases gx with
  |tup xs =>
   simp only[parts,Option.some.injEq] at e
   subst e
   obtain⟨a,vs,rfl,ha,hx⟩:=h
   refine⟨a,vs,rfl,ha,?_⟩
   clear ha
   induction xs generalizing vs with
   |nil=>exact hx
   |cons y r ih =>
    obtain⟨v,us,rfl,h1,h2⟩:=hx
    exact⟨v,us,rfl,h1,ih us h2⟩
  |_=>simp[parts] at e
theorem slots_len:∀ {is:List Nat} {rs:List R} {ε ε1:MP.Env},setSlots is rs ε=some ε1->rs.length=is.length:=by
 intro is
 induction is with
 |nil=>intro rs ε ε1 h;cases rs with
  |nil=>rfl
  |cons _ _=>simp[setSlots] at h
 |cons k is ih=>intro rs ε ε1 h;cases rs with
  |nil=>simp[setSlots] at h
  |cons y ys =>
   simp only[setSlots] at h
   cases c:setSlot ε k y with
   |none=>rw[c] at h;cases h
   |some ε2=>rw[c] at h;simp[ih h]
theorem for_core{J:It}{tg:List Nat}{g:TG}{b:Blk}{w:Walk}{ε:MP.Env}{σ1 σ':Store}{o:Out}{ρ1:Nat->Addr}{H1:Hp}{st:L2.St}{D:Ends}(S1:SR H1 ρ1 σ1)(hE1:RE H1 ρ1 σ1.length ε st)(wj:WJ J ρ1 σ1 H1 w)
 (ee:forL tg (fun ε σ=>evB cl W b ε σ) w.guard w.items ε σ1 = .ok o σ') (q1:FinS ρ1 σ1.length H1 o σ' D) (hg:BindOk tg g) :
 ∃ Wi:Nat->Nat->L2.St->Hp->Prop,(∃ m,Wi 0 m st H1)/\∀ i m σ H,Wi i m σ H →
  (J.stop i H/\D.nx σ H)\/(J.go i H/\∃ N:L2.St->Hp->Prop,(∀ σ' H',N σ' H'->∃ m',m'<m/\Wi (i+1) m' σ' H')/\∀ x H',J.yld i H x H'->g x σ H' fun σ2 H2=>B1 cl W b {D with nx:=N,ct:=N,bk:=D.nx} σ2 H2):=by
 refine⟨fun j m st2 H2=>m=w.items.length-j/\j<=w.items.length/\∃ ρ2 ε2 σ2,Ext ρ1 σ1.length H1 ρ2 σ2.length H2/\SR H2 ρ2 σ2/\RE H2 ρ2 σ2.length ε2 st2/\forL tg (fun ε σ=>evB cl W b ε σ) w.guard (w.items.drop j) ε2 σ2 = .ok o σ',
  ⟨w.items.length,by simp,Nat.zero_le _,ρ1,ε,σ1,Ext.refl _ _ _,S1,hE1,by simpa using ee⟩,?_⟩
 rintro j m st2 H2 ⟨rfl,hj,ρ2,ε2,σ2,ex2,S2,hE2,hl⟩
 by_cases hlt:j<w.items.length
 ·rw[List.drop_eq_getElem_cons hlt] at hl
  obtain⟨hin,ε3,ob,σ3,eb,ebody,hcase⟩:=forL_cons_inv hl
  have hwj:=(wj ρ2 σ2 H2 ex2 S2 hin j).1 w.items[j] (by simp[hlt])
  refine .inr ⟨hwj.1,fun st' H'=>∃ ρ4 ε4,(ob = .next ε4\/ob = .cont ε4)/\Ext ρ1 σ1.length H1 ρ4 σ3.length H'/\SR H' ρ4 σ3/\RE H' ρ4 σ3.length ε4 st',?_,fun v H3 y => ?_⟩
  ·rintro st' H' ⟨ρ4,ε4,hob,ex4,S4,hE4⟩
   rcases hcase with⟨ε5,ho,hl'⟩ | ⟨ε5,ho,_⟩ | ⟨u,ho,_⟩ | ⟨u,ho,_⟩
   ·have:ε4=ε5:=by
     rcases hob with z|z<;>rcases ho with y|y<;>rw[z] at y<;>cases y<;>rfl
    subst this
    exact⟨w.items.length-(j+1),by omega,rfl,hlt,ρ4,ε4,σ3,ex4,S4,hE4,hl'⟩
   ·rcases hob with z|z<;>rw[z] at ho<;>cases ho
   ·rcases hob with z|z<;>rw[z] at ho<;>cases ho
   ·rcases hob with z|z<;>rw[z] at ho<;>cases ho
  ·obtain⟨ex3,S3,rv⟩:=hwj.2 v H3 y
   have ex13:=ex2.trans S2 ex3
   refine hg (hE2.mono S2 ex3) rv eb fun st3 hE3=>⟨ρ2,_,σ2,ob,σ3,hE3,S3,ebody,?_⟩
   cases ob with
   |next ε4=>exact fun ρ4 st' H' ex4 S4 hE4=>⟨ρ4,ε4,.inl rfl,ex13.trans S3 ex4,S4,hE4⟩
   |cont ε4=>exact fun ρ4 st' H' ex4 S4 hE4=>⟨ρ4,ε4,.inr rfl,ex13.trans S3 ex4,S4,hE4⟩
   |brk ε4 =>
    rcases hcase with⟨ε5,ho,_⟩ | ⟨ε5,ho,rfl,rfl⟩ | ⟨u,ho,_⟩ | ⟨u,ho,_⟩
    ·rcases ho with z|z<;>cases z
    ·cases ho
     exact fun ρ4 st' H' ex4 S4 hE4=>q1 ρ4 st' H' (ex13.trans S3 ex4) S4 hE4
    ·cases ho
    ·cases ho
   |ret u =>
    rcases hcase with⟨ε5,ho,_⟩ | ⟨ε5,ho,_⟩ | ⟨u',ho,rfl,rfl⟩ | ⟨u,ho,_⟩
    ·rcases ho with z|z<;>cases z
    ·cases ho
    ·cases ho
     exact fun ρ4 v' H' ex4 S4 r4=>q1 ρ4 v' H' (ex13.trans S3 ex4) S4 r4
    ·cases ho
   |exc u =>
    rcases hcase with⟨ε5,ho,_⟩ | ⟨ε5,ho,_⟩ | ⟨u',ho,_⟩ | ⟨u',ho,rfl,rfl⟩
    ·rcases ho with z|z<;>cases z
    ·cases ho
    ·cases ho
    ·cases ho
     exact fun ρ4 H' ex4 S4=>q1 ρ4 H' (ex13.trans S3 ex4) S4
 ·rw[List.drop_eq_nil_of_le (by omega)] at hl
  simp only[forL] at hl
  split at hl
  ·rename_i hin
   cases hl
   exact .inl ⟨(wj ρ2 _ H2 ex2 S2 hin j).2 (by omega),q1 ρ2 st2 H2 ex2 S2 hE2⟩
  ·cases hl
theorem for_lift{K:PySem.W.Frag}{i:Nat}{s:Src}{b:Blk}(hs:(∃ t,s = .over t)\/(∃ t,s = .range1 t)\/∃ t,s = .chars t)(D:Ends)(st:L2.St)(H:Hp)(t:S1 cl W (.forS [i] s b) D st H) :
 tFor (TIv K (evW cl s)) (gName i) (B1 cl W b) D st H:=by
 obtain⟨ρ,ε,σ,o,σ',hE,hS,ee,q⟩:=t
 rw[evS] at ee
 obtain⟨w,σ1,ew,ee⟩:=bind_inv ee
 rw[forW_plain (evW_guard ew hs)] at ee
 exact⟨ρ,ε,σ,w,σ1,hE,hS,ew,fun ρ1 H1 J ex1 S1 wj bj=>for_core S1 (hE.mono hS ex1) wj ee (q.after ex1 S1) bind_name⟩
theorem expr_lift{e:MP.Tm}(D:Ends)(st:L2.St)(H:Hp)(t:S1 cl W (.expr e) D st H):tDrop (E1 cl e) D st H:=by
 obtain⟨ρ,ε,σ,o,σ',hE,hS,ee,q⟩:=t
 rw[evS] at ee
 obtain⟨r,σ1,e1,e2⟩:=bind_inv ee
 cases e2
 exact⟨ρ,ε,σ,r,_,hE,hS,e1,fun ρ1 v1 H1 ex1 S1 r1=>q ρ1 st H1 ex1 S1 (hE.mono hS ex1)⟩
theorem ret_lift{e:MP.Tm}(D:Ends)(st:L2.St)(H:Hp)(t:S1 cl W (.ret e) D st H):tRet (E1 cl e) D st H:=by
 obtain⟨ρ,ε,σ,o,σ',hE,hS,ee,q⟩:=t
 rw[evS] at ee
 obtain⟨r,σ1,e1,e2⟩:=bind_inv ee
 cases e2
 exact⟨ρ,ε,σ,r,_,hE,hS,e1,q⟩
theorem ite_lift{c:MP.Tm}{a b:Blk}(D:Ends)(st:L2.St)(H:Hp)(t:S1 cl W (.ite c a b) D st H):tIfS (T1 cl c) (B1 cl W a) (B1 cl W b) D st H:=by
 obtain⟨ρ,ε,σ,o,σ',hE,hS,ee,q⟩:=t
 rw[evS] at ee
 obtain⟨r,σ1,e1,e2⟩:=bind_inv ee
 obtain⟨d,rfl⟩:=ev_true_bl c _ _ _ _ e1
 refine⟨ρ,ε,σ,d,σ1,hE,hS,e1,fun ρ1 H1 ex1 S1 => ?_⟩
 cases d with
 |true=>exact iteT ⟨ρ1,ε,σ1,o,σ',hE.mono hS ex1,S1,e2,q.after ex1 S1⟩
 |false=>exact iteF ⟨ρ1,ε,σ1,o,σ',hE.mono hS ex1,S1,e2,q.after ex1 S1⟩
theorem whileL_inv{f:MP.Env->Store->Res R}{g:MP.Env->Store->Res Out}{n:Nat}{ε:MP.Env}{σ σ':Store}{o:Out}(h:whileL f g n ε σ = .ok o σ') :
 ∃ m b σ1,n=m+1/\f ε σ = .ok (.g (.bl b)) σ1/\((b=false/\o = .next ε/\σ'=σ1)\/(b=true/\∃ ob σ2,g ε σ1 = .ok ob σ2 ∧
  ((∃ ε2,(ob = .next ε2\/ob = .cont ε2)/\whileL f g m ε2 σ2 = .ok o σ')\/(∃ ε2,ob = .brk ε2/\o = .next ε2/\σ'=σ2)\/(∃ v,ob = .ret v/\o = .ret v/\σ'=σ2)\/∃ c,ob = .exc c/\o = .exc c/\σ'=σ2))):=by
 cases n with
 |zero=>cases h
 |succ m =>
  rw[whileL] at h
  obtain⟨r,σ1,e1,h⟩:=bind_inv h
  cases r with
  |ref _=>cases h
  |tr _=>cases h
  |g gx =>
   cases gx with
   |bl b =>
    cases b with
    |false=>cases h;exact⟨m,false,_,rfl,e1,.inl ⟨rfl,rfl,rfl⟩⟩
    |true =>
     obtain⟨ob,σ2,e2,h⟩:=bind_inv h
     refine⟨m,true,σ1,rfl,e1,.inr ⟨rfl,ob,σ2,e2,?_⟩⟩
     cases ob with
     |next ε2=>exact .inl ⟨ε2,.inl rfl,h⟩
     |cont ε2=>exact .inl ⟨ε2,.inr rfl,h⟩
     |brk ε2=>cases h;exact .inr (.inl ⟨ε2,rfl,rfl,rfl⟩)
     |ret v=>cases h;exact .inr (.inr (.inl ⟨v,rfl,rfl,rfl⟩))
     |exc c=>cases h;exact .inr (.inr (.inr ⟨c,rfl,rfl,rfl⟩))
   |_=>cases h
theorem while_lift{c:MP.Tm}{b:Blk}(D:Ends)(st:L2.St)(H:Hp)(t:S1 cl W (.whileS c b) D st H):tWhile (T1 cl c) (B1 cl W b) D st H:=by
 obtain⟨ρ,ε,σ,o,σ',hE,hS,ee,q⟩:=t
 rw[evS] at ee
 refine⟨fun m st2 H2=>∃ ρ2 ε2 σ2,Ext ρ σ.length H ρ2 σ2.length H2/\SR H2 ρ2 σ2/\RE H2 ρ2 σ2.length ε2 st2/\whileL (fun ε σ=>ev cl true c ε σ) (fun ε σ=>evB cl W b ε σ) m ε2 σ2 = .ok o σ',⟨W,ρ,ε,σ,Ext.refl _ _ _,hS,hE,ee⟩,?_⟩
 rintro m st2 H2 ⟨ρ2,ε2,σ2,ex2,S2,hE2,hl⟩
 obtain⟨k,d,σ3,rfl,e1,hcase⟩:=whileL_inv hl
 refine⟨ρ2,ε2,σ2,d,σ3,hE2,S2,e1,fun ρ3 H3 ex3 S3 => ?_⟩
 have ex13:=ex2.trans S2 ex3
 have hE3:=hE2.mono S2 ex3
 rcases hcase with⟨rfl,rfl,rfl⟩ | ⟨rfl,ob,σ4,e2,hc2⟩
 ·exact iteF (q ρ3 st2 H3 ex13 S3 hE3)
 ·refine iteT ⟨fun st' H'=>∃ ρ4 ε4,(ob = .next ε4\/ob = .cont ε4)/\Ext ρ σ.length H ρ4 σ4.length H'/\SR H' ρ4 σ4/\RE H' ρ4 σ4.length ε4 st',?_,ρ3,ε2,σ3,ob,σ4,hE3,S3,e2,?_⟩
  ·rintro st' H' ⟨ρ4,ε4,hob,ex4,S4,hE4⟩
   rcases hc2 with⟨ε5,ho,hl'⟩ | ⟨ε5,ho,_⟩ | ⟨u,ho,_⟩ | ⟨u,ho,_⟩
   ·have:ε4=ε5:=by
     rcases hob with z|z<;>rcases ho with y|y<;>rw[z] at y<;>cases y<;>rfl
    subst this
    exact⟨k,Nat.lt_succ_self k,ρ4,ε4,σ4,ex4,S4,hE4,hl'⟩
   ·rcases hob with z|z<;>rw[z] at ho<;>cases ho
   ·rcases hob with z|z<;>rw[z] at ho<;>cases ho
   ·rcases hob with z|z<;>rw[z] at ho<;>cases ho
  ·cases ob with
   |next ε4=>exact fun ρ4 st' H' ex4 S4 hE4=>⟨ρ4,ε4,.inl rfl,ex13.trans S3 ex4,S4,hE4⟩
   |cont ε4=>exact fun ρ4 st' H' ex4 S4 hE4=>⟨ρ4,ε4,.inr rfl,ex13.trans S3 ex4,S4,hE4⟩
   |brk ε4 =>
    rcases hc2 with⟨ε5,ho,_⟩ | ⟨ε5,ho,rfl,rfl⟩ | ⟨u,ho,_⟩ | ⟨u,ho,_⟩
    ·rcases ho with z|z<;>cases z
    ·cases ho
     exact fun ρ4 st' H' ex4 S4 hE4=>q ρ4 st' H' (ex13.trans S3 ex4) S4 hE4
    ·cases ho
    ·cases ho
   |ret u =>
    rcases hc2 with⟨ε5,ho,_⟩ | ⟨ε5,ho,_⟩ | ⟨u',ho,rfl,rfl⟩ | ⟨u,ho,_⟩
    ·rcases ho with z|z<;>cases z
    ·cases ho
    ·cases ho
     exact fun ρ4 v' H' ex4 S4 r4=>q ρ4 v' H' (ex13.trans S3 ex4) S4 r4
    ·cases ho
   |exc u =>
    rcases hc2 with⟨ε5,ho,_⟩ | ⟨ε5,ho,_⟩ | ⟨u',ho,_⟩ | ⟨u',ho,rfl,rfl⟩
    ·rcases ho with z|z<;>cases z
    ·cases ho
    ·cases ho
    ·cases ho
     exact fun ρ4 H' ex4 S4=>q ρ4 H' (ex13.trans S3 ex4) S4
theorem seq_lift{s:Stm}{b:Blk}(D:Ends)(st:L2.St)(H:Hp)(t:B1 cl W (.cons s b) D st H):tSeq (S1 cl W s) (B1 cl W b) D st H:=by
 obtain⟨ρ,ε,σ,o,σ',hE,hS,ee,q⟩:=t
 rw[evB] at ee
 obtain⟨o1,σ1,e1,e2⟩:=bind_inv ee
 cases o1 with
 |next ε1=>exact⟨ρ,ε,σ,.next ε1,σ1,hE,hS,e1,fun ρ1 st1 H1 ex1 S1 hE1=>⟨ρ1,ε1,σ1,o,σ',hE1,S1,e2,q.after ex1 S1⟩⟩
 |ret r=>cases e2;exact⟨ρ,ε,σ,_,_,hE,hS,e1,q⟩
 |brk ε1=>cases e2;exact⟨ρ,ε,σ,_,_,hE,hS,e1,q⟩
 |cont ε1=>cases e2;exact⟨ρ,ε,σ,_,_,hE,hS,e1,q⟩
 |exc c=>cases e2;exact⟨ρ,ε,σ,_,_,hE,hS,e1,q⟩
theorem passes(am:Amb X P W n):PassesOwn (model X.prog X.w) X.A X.env X.xe:=by
 exact am.px
theorem assign_sub{o k:Expr}{pos:Pos}{env:PySem.Env}(h:notSlice k=true):∀ v,assign (.Subscript o k pos) env v=(do
 let ov ← holding [v] (eval o env)
 let iv ← holding [v,ov] (eval k env)
 standAt pos
 holding [v,ov,iv] (setItem ov iv v)
 release [v,ov,iv] []):=by
 intro v
 cases k<;>first|rfl|(simp[notSlice] at h;done)
theorem sole_false{t v:Expr}{l:Nat}{env:PySem.Env}(h:isComp v=false):swapsWithSole [t] v l env=pure false:=swaps_false h
theorem stores_none{o k:Expr}{pos:Pos}(v:Expr){env:PySem.Env}:swappedStores [.Subscript o k pos] v env=pure none:=by
 cases v<;>rfl
theorem tg_ok(nd:X.N.Nodup)(hf:∀ x,X.fn x=true):∀ {is:List Nat} {es:List Expr},tgB X.N X.env.scope is es=true->PGs X es (gNames is)/\(assignEach es X.env).length=is.length/\(assignEach es X.env).findIdx? (·.1)=none
 | [],[],_=>⟨pgs_nil,rfl,rfl⟩
 | [],_::_,h=>by cases h
 |_::_,[],h=>by cases h
 |i::is,e::es,h=>by
  obtain⟨x,h0,h⟩:=whenS_inv (show whenS (vName (vw e)) _=true from h)
  obtain⟨h1,h⟩:=and2 h
  obtain⟨h2,h3⟩:=and2 h
  have h1:=of_decide_eq_true h1
  obtain⟨p,rfl⟩:=nameE h0
  obtain⟨q1,q2,q3⟩:=tg_ok nd hf (es:=es) h3
  refine⟨pgs_cons (pg_name nd h1 (loc_of h2) (.inl (hf _))) q1 rfl,by rw[List.length_cons, ← q2];rfl,?_⟩
  show List.findIdx? _ ((false,assign (.Name x p) X.env)::assignEach es X.env)=none
  rw[List.findIdx?_cons,q3]
  rfl
theorem unpack_lift{K:PySem.W.Frag}{is:List Nat}{e:MP.Tm}(D:Ends)(st:L2.St)(H:Hp)(t:S1 cl W (.unpack is e) D st H):tAsg (E1 cl e) (gTup K is.length (gNames is)) D st H:=by
 obtain⟨ρ,ε,σ,o,σ',hE,hS,ee,q⟩:=t
 rw[evS] at ee
 obtain⟨r,σ1,e1,ee⟩:=bind_inv ee
 cases c:parts r with
 |none=>rw[c] at ee;cases ee
 |some rs =>
  rw[c] at ee
  obtain⟨ε1,e2,e3⟩:=ofE_inv ee
  cases e3
  refine⟨ρ,ε,σ,r,_,hE,hS,e1,fun ρ1 v1 H1 ex1 S1 r1 => ?_⟩
  obtain⟨a,vs,rfl,ha,hx⟩:=parts_ok r1 c
  exact⟨a,vs,rfl,.of ha,by rw[hx.length];exact slots_len e2,slots_ok (hE.mono hS ex1) hx e2 fun st' hE'=>q ρ1 st' H1 ex1 S1 hE'⟩
theorem stores_call{t v:Expr}{env:PySem.Env}(h:isCall v=true):swappedStores [t] v env=pure none:=by
 obtain⟨⟨f,as,p⟩,h⟩:=Option.isSome_iff_exists.mp h
 cases callE h
 cases t<;>rfl
theorem call_nocomp{v:Expr}(h:isCall v=true):isComp v=false:=by
 obtain⟨⟨f,as,p⟩,h⟩:=Option.isSome_iff_exists.mp h
 cases callE h
 rfl
structure InB(X:Cx):Prop where
 fn:∀ x,X.fn x=true
 bd:Bdy X
 xe:∀ v s',XE X Xw.Ξ v s'->X.xe v s'
 cls:∀ c∈Cl.cls,ClsOk X.K X.mg c
 ve:X.mg (Str.ofString "ValueError")=none
theorem Amb.nox(am:Amb X P W n):Amb X.nox P W n:=⟨am.un,am.room,am.calm,PassesOwn.never,am.nd,am.wd,
 am.glb,
 am.blt,am.fns⟩
inductive TX (cl:CallH) (f:String) (as:Tms) (Ξ:String->Hp->Prop) (st:L2.St) (H:Hp) (Q:VK):Prop
 |mk (ρ:Nat->Addr) (ε:MP.Env) (σ:Store) (xs:List R) (σ1:Store) (hE:RE H ρ σ.length ε st) (hS:SR H ρ σ) (e:evs cl as ε σ = .ok xs σ1)
  (q:(∃ r σ',cl f xs σ1 = .ok r σ'/\Fin ρ σ.length H r σ' Q)\/∃ c σ',cl f xs σ1 = .exc c σ'/\FinX ρ σ.length H σ' (Ξ c))
theorem pex_call{Ξ:String->Hp->Prop}{f:String}{as:Tms}{a:Expr}{r:List Expr}{p pos:Pos}(am:Amb X P W n)(B:Bdy X)(hg:gl X.env.scope (Str.ofString f)=true)(hd:Str.ofString f ≠ "__debug__")(h:PEl X.nox (MP.run P W n) (a::r) as) :
 PEx X Ξ (.Call (.Name (Str.ofString f) p) (a::r) [] pos) (TX (MP.run P W n) f as Ξ):=by
 intro pins s σ H Q I t
 obtain⟨ρ,ε,σm,xs,σ1,hE,hS,e1,t⟩:=t
 have hs:notStar a=true/\r.all notStar=true:=by simpa using h.stars
 cases e:look P f with
 |none =>
  have no:∀ rs σ,MP.run P W n f rs σ = .stuck:=fun rs σ=>by
   cases n with
   |zero=>rfl
   |succ n=>rw[MP.run,e]
  rw[no] at t
  rcases t with⟨_,_,z,_⟩ | ⟨_,_,z,_⟩<;>cases z
 |some d =>
  obtain⟨fa,fd,ps,hm,hk,hb,F⟩:=am.fns f d e
  refine call_x B F am.room (gl_eq hg) hm hk hb h.pa (beq_eq_false_iff_ne.mpr hd) (starEach_cons hs.1) (backTo_plain hs.2) I ⟨ρ,ε,σm,xs,σ1,hE,hS,e1,fun ρ1 vs H1 ex1 S1 r1=>⟨ρ1,σ1,xs,r1,S1,?_⟩⟩
  rcases t with⟨r,σ',e2,q⟩ | ⟨c,σ',e2,q⟩
  ·exact .inl ⟨r,σ',e2,q.after ex1 S1⟩
  ·exact .inr ⟨c,σ',e2,fun ρ' H' ex S'=>⟨c,rfl,q ρ' H' (ex1.trans S1 ex) S'⟩⟩
noncomputable def tTg(tg:Option (Option Nat))(te:TE):TS:=match tg with
 |none=>tDrop te
 |some none=>tRet te
 |some (some i)=>tAsg te (gName i)
theorem chkX_sound(am:Amb X P W n)(bx:InB X){tg:Option (Option Nat)}{f:String}{as:Tms}{st:Stmt}(h:chkX X.N X.env.scope tg f as st=true)(Ξ:String->Hp->Prop):PSx X Ξ st (tTg tg (TX (MP.run P W n) f as Ξ)):=by
 have call:∀ {e:Expr},callB X.N X.env.scope f as e=true->(∃ g as p,e = .Call g as [] p)/\PEx X Ξ e (TX (MP.run P W n) f as Ξ):=fun {e} h=>by
  obtain⟨⟨x,r⟩,h0,h⟩:=whenS_inv h
  simp only[Bool.and_eq_true,decide_eq_true_eq] at h
  obtain⟨h1,h2,h3,h4,h5⟩:=h
  obtain⟨pp,p,rfl⟩:=callNE h0
  cases isS_eq h1
  cases r with
  |nil=>cases h4
  |cons a r=>exact⟨⟨_,_,_,rfl⟩,pex_call am bx.bd h2 h3 (soundAs as X.nox _ am.nox h5).1⟩
 cases tg with
 |none =>
  obtain⟨⟨v,p⟩,h0,h⟩:=whenS_inv h
  cases exprS h0
  obtain⟨⟨_,_,_,rfl⟩,q⟩:=call h
  exact psx_expr q rfl
 |some tg =>
  cases tg with
  |none =>
   obtain⟨v,h0,h⟩:=whenS_inv h
   obtain⟨p,rfl⟩:=retS h0
   exact psx_ret (call h).2
  |some i =>
   obtain⟨⟨t,v,p⟩,h0,h⟩:=whenS_inv h
   obtain⟨y,h1,h⟩:=whenS_inv h
   obtain⟨h2,h⟩:=and2 h
   obtain⟨h3,h4⟩:=and2 h
   cases asgS h0
   obtain⟨px,rfl⟩:=nameE h1
   obtain⟨⟨_,_,_,rfl⟩,q⟩:=call h4
   exact psx_set am.nd (of_decide_eq_true h2) (loc_of h3) (bx.fn _) q rfl
theorem callX_lift{tg:Option (Option Nat)}{f:String}{as:Tms}(D:Ends)(st:L2.St)(H:Hp)(t:S1 cl W (.callX tg f as) D st H):tTg tg (TX cl f as Xw.Ξ) D st H:=by
 obtain⟨ρ,ε,σ,o,σ',hE,hS,ee,q⟩:=t
 rw[evS] at ee
 obtain⟨xs,σ1,e1,e2⟩:=bind_inv ee
 cases hc:cl f xs σ1 with
 |stuck=>rw[hc] at e2;cases e2
 |exc c σ2 =>
  rw[hc] at e2
  cases e2
  cases tg with
  |none=>exact⟨ρ,ε,σ,xs,σ1,hE,hS,e1,.inr ⟨c,_,hc,q⟩⟩
  |some tg=>cases tg<;>exact⟨ρ,ε,σ,xs,σ1,hE,hS,e1,.inr ⟨c,_,hc,q⟩⟩
 |ok r σ2 =>
  rw[hc] at e2
  cases tg with
  |none =>
   cases e2
   exact⟨ρ,ε,σ,xs,σ1,hE,hS,e1,.inl ⟨r,_,hc,fun ρ1 v1 H1 ex1 S1 r1=>q ρ1 st H1 ex1 S1 (hE.mono hS ex1)⟩⟩
  |some tg =>
   cases tg with
   |none =>
    cases e2
    exact⟨ρ,ε,σ,xs,σ1,hE,hS,e1,.inl ⟨r,_,hc,q⟩⟩
   |some i =>
    obtain⟨ε1,e3,e4⟩:=ofE_inv e2
    cases e4
    cases setSlot_inv e3
    exact⟨ρ,ε,σ,xs,σ1,hE,hS,e1,.inl ⟨r,_,hc,fun ρ1 v1 H1 ex1 S1 r1=>q ρ1 _ H1 ex1 S1 ((hE.mono hS ex1).set r1)⟩⟩
theorem tryR_lift{f c d:String}{as:Tms}{x:List Nat}(D:Ends)(st:L2.St)(H:Hp)(t:S1 cl W (.tryR f as c d (.con (.str x))) D st H):tTg none (TX cl f as fun y H'=>isA y c=true/\ncx y=true/\Xw.Ξ d H') D st H:=by
 obtain⟨ρ,ε,σ,o,σ',hE,hS,ee,q⟩:=t
 rw[evS] at ee
 obtain⟨xs,σ1,e1,e2⟩:=bind_inv ee
 cases hc:cl f xs σ1 with
 |stuck=>rw[hc] at e2;cases e2
 |exc y σ2 =>
  rw[hc] at e2
  dsimp only at e2
  split at e2
  ·rename_i hA
   obtain⟨hA,hn⟩:=and2 hA
   rw[show ev cl false (.con (.str x)) ε σ2 = .ok (.g (.str x)) σ2 by simp[ev,truR]] at e2
   cases e2
   exact⟨ρ,ε,σ,xs,σ1,hE,hS,e1,.inr ⟨y,_,hc,fun ρ1 H1 ex1 S1=>⟨hA,hn,q ρ1 H1 ex1 S1⟩⟩⟩
  ·cases e2
 |ok r σ2 =>
  rw[hc] at e2
  cases e2
  exact⟨ρ,ε,σ,xs,σ1,hE,hS,e1,.inl ⟨r,_,hc,fun ρ1 v1 H1 ex1 S1 r1=>q ρ1 st H1 ex1 S1 (hE.mono hS ex1)⟩⟩
theorem RE.unset{H:Hp}{ρ:Nat->Addr}{n:Nat}{ε:MP.Env}{st:L2.St}(h:RE H ρ n ε st)(i:Nat):RE H ρ n (ε.set i none) (st.set i none):=by
 refine⟨by rw[List.length_set,List.length_set,h.len],fun j s e => ?_⟩
 rw[List.getElem?_set] at e ⊢
 by_cases hij:i=j
 ·subst hij
  rw[if_pos rfl] at e
  split at e<;>cases e
 ·rw[if_neg hij] at e ⊢
  exact h.val j s e
theorem bls_rg{H:Hp}:∀ (bs:List Bool),RGs H (bs.map .bl) (bs.map V.bl)
 | []=>rfl
 |b::r=>⟨_,_,rfl,rfl,bls_rg r⟩
theorem tryM_lift{tg:Option Nat}{f c:String}{as:Tms}{e i:Nat}{cs:List String}(D:Ends)(st:L2.St)(H:Hp)(t:S1 cl W (.tryM tg f as c e i cs) D st H) :
 tTg (tg.map some) (TX cl f as fun x H'=>isA x c=true/\∀ l,H' l=none->D.nx ((st.set i (some (.ref l))).set e none) (upd H' l (.lst (cs.map fun k=>.bl (isA x k))))) D st H:=by
 obtain⟨ρ,ε,σ,o,σ',hE,hS,ee,q⟩:=t
 rw[evS] at ee
 obtain⟨xs,σ1,e1,e2⟩:=bind_inv ee
 cases hc:cl f xs σ1 with
 |stuck=>rw[hc] at e2;cases e2
 |exc x σ2 =>
  rw[hc] at e2
  simp only[kTM] at e2
  split at e2
  rotate_left
  ·cases e2
  rename_i hA
  obtain⟨ε1,e3,e4⟩:=ofE_inv e2
  cases e4
  cases setSlot_inv e3
  have w:FinX ρ σ.length H σ2 fun H'=>isA x c=true/\∀ l,H' l=none->D.nx ((st.set i (some (.ref l))).set e none) (upd H' l (.lst (cs.map fun k=>.bl (isA x k)))):=fun ρ' H' ex S'=>⟨hA,fun l hl=>by
   have e0:(cs.map fun k=>V.bl (isA x k))=(cs.map (isA x)).map V.bl:=by simp
   have e9:(cs.map fun d=>G.bl (isA x d))=(cs.map (isA x)).map G.bl:=by simp
   rw[e0]
   rw[e9] at q
   obtain⟨ρ2,x1,x2,x3⟩:=S'.push hl (o:=.lst ((cs.map (isA x)).map V.bl)) (c:=.lst ((cs.map (isA x)).map G.bl)) (fun _ z=>by cases z) fun H2 ρ2 tp k1 k2 k3=>⟨_,by rw[k2];exact k1,bls_rg _⟩
   have ex2:=ex.trans S' x1
   exact q ρ2 _ _ ex2 x2 (RE.unset (RE.set (r:=.ref σ2.length) (v:=.ref l) (hE.mono hS ex2) ⟨by simp,by rw[x3]⟩) e)⟩
  cases tg with
  |none=>exact⟨ρ,ε,σ,xs,σ1,hE,hS,e1,.inr ⟨x,_,hc,w⟩⟩
  |some j=>exact⟨ρ,ε,σ,xs,σ1,hE,hS,e1,.inr ⟨x,_,hc,w⟩⟩
 |ok r σ2 =>
  rw[hc] at e2
  cases tg with
  |none =>
   cases e2
   exact⟨ρ,ε,σ,xs,σ1,hE,hS,e1,.inl ⟨r,_,hc,fun ρ1 v1 H1 ex1 S1 r1=>q ρ1 st H1 ex1 S1 (hE.mono hS ex1)⟩⟩
  |some j =>
   obtain⟨ε1,e3,e4⟩:=ofE_inv e2
   cases e4
   cases setSlot_inv e3
   exact⟨ρ,ε,σ,xs,σ1,hE,hS,e1,.inl ⟨r,_,hc,fun ρ1 v1 H1 ex1 S1 r1=>q ρ1 _ H1 ex1 S1 ((hE.mono hS ex1).set r1)⟩⟩
theorem fs_piece(am:Amb X P W n){e:Expr}{pins:List (Addr × Obj)}{s:Shared}{σ:L2.St}{H:Hp}(I:Inv X pins σ H s)(h:fsP X.env.scope e=true) :
 wpAny (model X.prog X.w) X.A (eval e X.env) (fun v s'=>∃ y t,v = .str y t/\y.length<=1000/\Inv X pins σ H s') X.xe s:=by
 cases e<;>first|(cases h;done)|skip
 ·rename_i v c f p
  cases f with
  |some _=>cases h
  |none =>
   obtain⟨h1,k1⟩:=and2 h
   cases of_decide_eq_true h1
   obtain⟨x,h2,k2⟩:=whenS_inv k1
   obtain⟨h3,k3⟩:=and2 k2
   obtain⟨h4,k4⟩:=and2 k3
   obtain⟨⟨f,g⟩,_,k5⟩:=List.any_eq_true.mp k4
   obtain⟨h5,k6⟩:=and2 k5
   obtain⟨h6,k7⟩:=and2 k6
   obtain⟨p',rfl⟩:=nameE h2
   cases isS_eq h5
   obtain⟨v,u,g1,g2,g3⟩:=am.glb f g (of_decide_eq_true h6)
   clear h k1 k2 k3 k4 k5 k6
   cases g with
   |int i =>
    obtain⟨h7,h8⟩:=and2 k7
    have h7:i.natAbs.log2<1920:=of_decide_eq_true h7
    have h8:(itx i).length<=1000:=of_decide_eq_true h8
    have e:=g3 H
    cases e
    obtain⟨t,rfl⟩:=g2
    refine FormattedValue_plain (ld_glob I (gl_eq h3) g1 ?_ (beq_eq_false_iff_ne.mpr (of_decide_eq_true h4)))
    refine formatField_int_small h7 ?_
    exact⟨itx i,s.toks+1,rfl,h8,I.tok _⟩
   |_=>cases k7
 ·rename_i c k p
  cases c<;>first|(cases h;done)|skip
  exact Calls.Constant_str ⟨_,_,rfl,of_decide_eq_true h,I.tok _⟩
theorem fs_parts(am:Amb X P W n):∀ (es:List Expr) (out:Str) {pins:List (Addr × Obj)} {s:Shared} {σ:L2.St} {H:Hp},Inv X pins σ H s->fsL X.env.scope es=true->out.length+1000*es.length<=sizeLine →
 wpAny (model X.prog X.w) X.A (joinParts out (evalEach es X.env)) (fun v s'=>∃ z t,v = .str z t/\Inv X pins σ H s') X.xe s
 | [],out,pins,s,σ,H,I,h,l=>joinParts_nil ⟨_,_,rfl,I.tok _⟩ (by simpa using l)
 |e::es,out,pins,s,σ,H,I,h,l=>by
  obtain⟨h1,h2⟩:=and2 h
  rw[List.length_cons] at l
  refine joinParts_cons (thn (fs_piece am I h1) fun v s1 z => ?_)
  obtain⟨y,t,rfl,hy,I1⟩:=z
  have hl:=strLen_append out y
  exact⟨by omega,fs_parts am es (out++y) I1 h2 (by omega)⟩
theorem fs_sound(am:Amb X P W n){e:Expr}(h:fsE X.env.scope e=true):PE X e fun _ H Q=>∀ z,Q (.str z) H:=by
 intro pins s σ H Q I q
 cases e<;>first|(cases h;done)|skip
 rename_i es p
 obtain⟨h1,h⟩:=and2 h
 obtain⟨h2,h3⟩:=and2 h
 have h1:=of_decide_eq_true h1
 have h2:=of_decide_eq_true h2
 match es,h1,h2,h3 with
 |a::b::r,h1,h2,h3 =>
  refine JoinedStr_many (thn (fs_parts am (a::b::r) Str.empty I h3 ?_) fun v s1 z => ?_)
  ·rw[sizeLine_eq]
   have:Str.empty.length=0:=rfl
   omega
  ·obtain⟨z,t,rfl,I1⟩:=z
   exact⟨.str z,H,I1,⟨t,rfl⟩,q z⟩
theorem raise_fs(am:Amb X P W n)(bx:InB X){c:String}{a:MP.Tm}{e:Expr}{np cpos pos:Pos}(hm:c∈Cl.cls)(hg:gl X.env.scope (Str.ofString c)=true)(hd:Str.ofString c ≠ "__debug__")(hs:notStar e=true)(ha:conT a=true)(h:fsE X.env.scope e=true) :
 PS X (.Raise (some (.Call (.Name (Str.ofString c) np) [e] [] cpos)) none pos) (S1 (MP.run P W n) W (.raise c a)):=by
 intro pins s σ H D I t
 cases a<;>first|(cases ha;done)|skip
 obtain⟨ρ,ε,σm,o,σ',hE,hS,ee,q⟩:=t
 rw[evS] at ee
 obtain⟨r,σ1,e1,e2⟩:=bind_inv ee
 cases e2
 rw[ev] at e1
 cases e1
 exact wpAny_mono (raise_x (Ξ:=Xw.Ξ) bx.bd (I.ok.hd am.calm) hm (bx.cls c hm) (gl_eq hg) (beq_eq_false_iff_ne.mpr hd) hs (fs_sound am.nox h) I fun z=>⟨rfl,q ρ H (Ext.refl _ _ _) hS⟩) (fun _ _ z=>z) fun v s' z=>bx.xe v s' z.toE
theorem raise_sound(am:Amb X P W n)(bx:InB X){c:String}{a:MP.Tm}{e:Expr}{np cpos pos:Pos}(hm:c∈Cl.cls)(hg:gl X.env.scope (Str.ofString c)=true)(hd:Str.ofString c ≠ "__debug__")(hs:notStar e=true)(h:chkE X.N X.env.scope a e=true) :
 PS X (.Raise (some (.Call (.Name (Str.ofString c) np) [e] [] cpos)) none pos) (S1 (MP.run P W n) W (.raise c a)):=by
 intro pins s σ H D I t
 obtain⟨ρ,ε,σm,o,σ',hE,hS,ee,q⟩:=t
 rw[evS] at ee
 obtain⟨r,σ1,e1,e2⟩:=bind_inv ee
 cases e2
 exact wpAny_mono (raise_x (Ξ:=Xw.Ξ) bx.bd (I.ok.hd am.calm) hm (bx.cls c hm) (gl_eq hg) (beq_eq_false_iff_ne.mpr hd) hs (soundE a X.nox e am.nox h).1 I ⟨ρ,ε,σm,r,_,hE,hS,e1,fun ρ1 v1 H1 ex1 S1 r1=>⟨rfl,q ρ1 H1 ex1 S1⟩⟩) (fun _ _ z=>z) fun v s' z=>bx.xe v s' z.toE
theorem set_sound(am:Amb X P W n)(hf:InB X){i:Nat}{e:MP.Tm}{v:Expr}{x:Str}{px pos:Pos}(h1:X.N[i]?=some x)(h2:locB X.env.scope x=true)(h3:chkE X.N X.env.scope e v=true)(h4:(!isComp v || (compT e && swB X.env.scope x px v))=true) :
 PS X (.Assign [.Name x px] v pos) (S1 (MP.run P W n) W (.set i e)):=by
 rw[Bool.or_eq_true] at h4
 rcases h4 with h4|h4
 ·rw[Bool.not_eq_true'] at h4
  exact PS.imp (ps_set am.nd h1 (loc_of h2) (soundE e X v am h3).1 (swaps_false h4) (.inl (hf.fn _))) fun D st H t=>set_lift D st H t
 ·obtain⟨h6,h5⟩:=and2 h4
  have hsw:=swB_true (X:=X) (l:=pos.line) h5
  clear h4
  cases e<;>first|(cases h6;done)|skip
  rename_i kn caps s conds elt
  clear h6 h5
  obtain⟨⟨el,⟨tg,iter,ifs,asy⟩,scope,p⟩,h0,h⟩:=whenS_inv (show whenS (vComp (vw v)) _=true from h3)
  obtain⟨xs,hx,h⟩:=whenS_inv h
  obtain⟨k1,h⟩:=and2 h
  obtain⟨k2,h⟩:=and2 h
  obtain⟨k3,h⟩:=and2 h
  obtain⟨k4,h⟩:=and2 h
  obtain⟨k5,h⟩:=and2 h
  obtain⟨k6,k7⟩:=and2 h
  cases of_decide_eq_true k1
  cases of_decide_eq_true k2
  cases compE h0
  have ok:=compB_ok k3
  obtain⟨g,hG,hBl,hBg⟩:=tg_sound (X:=X) am hx ok
  exact PS.imp (ps_comp am.calm ok (soundW s X _ _ _ am rfl k5) hG hBl hBg (fun C fp s H=>(soundAs conds _ _ (am.comp ok.nod _ _ C fp s H) k6).2.pcs) (fun C fp s H=>(soundE elt _ _ (am.comp ok.nod _ _ C fp s H) k7).1) (folded k4) hsw am.nd h1 (loc_of h2) (.inl (hf.fn _))) fun D st H t=>comp_lift st H _ (set_lift D st H t)
theorem bare_sound{k:Nat}{st:Stmt}(h:sBare k (sv st)=true):(k=0/\∃ p,st = .Return none p)\/(k=1/\∃ p,st = .Break p)\/(k=2/\∃ p,st = .Continue p)\/(k=3/\∃ p,st = .Pass p):=by
 have hv:=sv_ok st
 generalize sv st=z at h hv
 cases z<;>first|(cases h;done)|skip
 ·exact .inl ⟨eq_of_beq h,hv⟩
 ·exact .inr (.inl ⟨eq_of_beq h,hv⟩)
 ·exact .inr (.inr (.inl ⟨eq_of_beq h,hv⟩))
 ·exact .inr (.inr (.inr ⟨eq_of_beq h,hv⟩))
theorem for_sound(am:Amb X P W n)(hf:InB X){tg:List Nat}{src:Src}{b:Blk}{tx it:Expr}{body:List Stmt}{pos:Pos}(h3:notSet it=true)(hB:PSs X body (B1 (MP.run P W n) W b))(h:(match l1 tg with
 |some i=>whenS (vName (vw tx)) fun x=>decide (X.N[i]?=some x) && (locB X.env.scope x && chkO X.N X.env.scope src it)
 |none=>decide (2<=tg.length) && whenS (vTup (vw tx)) fun es=>tgB X.N X.env.scope tg es && chkF X.N X.env.scope src it)=true):PS X (.For tx it body [] pos) (S1 (MP.run P W n) W (.forS tg src b)):=by
 cases c:l1 tg with
 |some i =>
  rw[c] at h
  cases l1_inv c
  obtain⟨x,h0,h⟩:=whenS_inv h
  obtain⟨h1,h⟩:=and2 h
  obtain⟨h2,h4⟩:=and2 h
  obtain⟨px,rfl⟩:=nameE h0
  have hG:=pg_name (X:=X) (i:=i) (pos:=px) am.nd (of_decide_eq_true h1) (loc_of h2) (.inl (hf.fn _))
  cases src with
  |keys t=>cases h4
  |over t=>exact PS.imp (ps_for (passes am) am.calm (soundW _ X _ _ _ am rfl h4) hG hB (folded h3)) fun D st H t=>for_lift (.inl ⟨_,rfl⟩) D st H t
  |range1 t=>exact PS.imp (ps_for (passes am) am.calm (soundW _ X _ _ _ am rfl h4) hG hB (folded h3)) fun D st H t=>for_lift (.inr (.inl ⟨_,rfl⟩)) D st H t
  |chars t=>exact PS.imp (ps_for (passes am) am.calm (soundW _ X _ _ _ am rfl h4) hG hB (folded h3)) fun D st H t=>for_lift (.inr (.inr ⟨_,rfl⟩)) D st H t
  |_=>cases h4
 |none =>
  rw[c] at h
  obtain⟨h0,h⟩:=and2 h
  obtain⟨es,h1,h⟩:=whenS_inv h
  obtain⟨h2,h4⟩:=and2 h
  obtain⟨k,p,rfl⟩:=tupE h1
  obtain⟨g1,g2,g3⟩:=tg_ok am.nd hf.fn h2
  obtain⟨i,j,r,rfl⟩:∃ i j r,tg=i::j::r:=by
   have:=of_decide_eq_true h0
   cases tg with
   |nil=>simp at this
   |cons i tg =>
    cases tg with
    |nil=>simp at this
    |cons j r=>exact⟨i,j,r,rfl⟩
  cases src with
  |_=>cases h4
theorem try_sound(am:Amb X P W n)(hf:InB X){tg:Option Nat}{f c:String}{as:Tms}{e i:Nat}{cs:List String}{st:Stmt}(h:chkS X.N X.env.scope (.tryM tg f as c e i cs) st=true):PS X st (S1 (MP.run P W n) W (.tryM tg f as c e i cs)):=by
 obtain⟨⟨b,k⟩,h0,h⟩:=whenS_inv (show whenS (sTry (sv st)) _=true from h)
 obtain⟨⟨t,n',body⟩,h1,h⟩:=whenS_inv h
 obtain⟨d,h2,h⟩:=whenS_inv h
 obtain⟨a,h3,h⟩:=whenS_inv h
 obtain⟨⟨tx,v,pa⟩,h4,h⟩:=whenS_inv h
 obtain⟨x,h5,h⟩:=whenS_inv h
 obtain⟨els,h6,h⟩:=whenS_inv h
 simp only[Bool.and_eq_true,decide_eq_true_eq] at h
 obtain⟨z1,z2,z3,z4,z5,z6,z7,z8,z9,y1,y2,y3,y4⟩:=h
 obtain⟨p,rfl⟩:=tryS h0
 obtain⟨p1,rfl⟩:=hdlE h1
 obtain⟨p2,rfl⟩:=nameE h2
 cases l1_inv h3
 cases asgS h4
 obtain⟨p3,rfl⟩:=nameE h5
 obtain⟨p4,rfl⟩:=lstE h6
 cases isS_eq z1
 exact PS.imp (ps_try hf.bd ⟨hf.fn _,hf.fn _⟩ hf.cls (by simpa using z4) (gl_eq z2) (beq_eq_false_iff_ne.mpr z3) am.nd z5 z6 (beq_eq_false_iff_ne.mpr z7) (beq_eq_false_iff_ne.mpr z8) z9 (loc_of y1) (am.blt _ (by decide)) hf.ve y2 y3 (chkX_sound am hf y4)) fun D st H t=>tryM_lift D st H t
theorem same_lift{s:Stm}{o:MP.Env->Out}(e:∀ ε σ,evS cl W s ε σ = .ok (o ε) σ)(D:Ends)(st:L2.St)(H:Hp)(t:S1 cl W s D st H):∃ ρ ε σ,RE H ρ σ.length ε st/\SR H ρ σ/\FinS ρ σ.length H (o ε) σ D:=by
 obtain⟨ρ,ε,σ,o',σ',hE,hS,ee,q⟩:=t
 rw[e] at ee
 cases ee
 exact⟨ρ,ε,_,hE,hS,q⟩
mutual
theorem soundS:∀ (s:Stm) (st:Stmt),Amb X P W n->InB X->chkS X.N X.env.scope s st=true->PS X st (S1 (MP.run P W n) W s)
 | .set i e,st,am,hf,h=>by
  rcases Bool.or_eq_true_iff.mp h with h|h
  rotate_left
  ·obtain⟨⟨j,k⟩,h0,h⟩:=whenS_inv h
   obtain⟨⟨t,v⟩,h1,h⟩:=whenS_inv h
   obtain⟨x,h2,h⟩:=whenS_inv h
   simp only[Bool.and_eq_true,decide_eq_true_eq] at h
   obtain⟨rfl,h3,h4,h5⟩:=h
   obtain⟨p,rfl⟩:=augS h1
   obtain⟨px,rfl⟩:=nameE h2
   cases augT_eq h0
   exact PS.imp (ps_aug am.nd h3 (loc_of h4) (con_pe h5) iop_add (.inl (hf.fn _))) fun D st H t=>aug_lift D st H t
  obtain⟨⟨t,v,p⟩,h0,h⟩:=whenS_inv h
  obtain⟨⟨x,px⟩,h1,h⟩:=whenS_inv h
  obtain⟨h2,h⟩:=and2 h
  obtain⟨h3,h⟩:=and2 h
  obtain⟨h4,h5⟩:=and2 h
  cases asgS h0
  cases namePE h1
  exact set_sound am hf (of_decide_eq_true h2) h3 h4 h5
 | .setIdx a i v,st,am,hf,h=>by
  obtain⟨⟨t,w,p⟩,h0,h⟩:=whenS_inv h
  obtain⟨⟨o,k⟩,h1,h⟩:=whenS_inv h
  obtain⟨h2,h⟩:=and2 h
  obtain⟨h3,h⟩:=and2 h
  obtain⟨h4,h⟩:=and2 h
  obtain⟨h5,h6⟩:=and2 h
  cases asgS h0
  obtain⟨p',rfl⟩:=subE h1
  rw[Bool.not_eq_true'] at h6
  exact PS.imp (ps_asg (soundE v X _ am h3).1 (pg_sub (soundE a X _ am h4).1 (soundE i X _ am h5).1 (set_all am.wd (by have:=am.un;omega)) (assign_sub h2)) (sole_false h6) (stores_none _) rfl) fun D st H t=>put_lift D st H t
 | .expr e,st,am,hf,h=>by
  obtain⟨⟨v,p⟩,h0,h⟩:=whenS_inv h
  obtain⟨h1,h2⟩:=and2 h
  cases exprS h0
  rw[Bool.not_eq_true'] at h2
  exact PS.imp (ps_expr (soundE e X _ am h1).1 (swaps_false h2)) fun D st H t=>expr_lift D st H t
 | .ret e,st,am,hf,h=>by
  obtain⟨v,h0,h⟩:=whenS_inv h
  obtain⟨p,rfl⟩:=retS h0
  exact PS.imp (ps_ret (soundE e X _ am h).1) fun D st H t=>ret_lift D st H t
 | .retN,st,am,hf,h=>by
  rcases bare_sound h with⟨z,p,rfl⟩ | ⟨z,_⟩ | ⟨z,_⟩ | ⟨z,_⟩<;>first|(cases z;done)|skip
  refine PS.imp ps_retN fun D st H t => ?_
  obtain⟨ρ,ε,σ,hE,hS,q⟩:=same_lift (o:=fun _=>.ret (.g .non)) (fun ε σ=>by rw[evS]) D st H t
  exact q ρ .non H (Ext.refl _ _ _) hS rfl
 | .ite c a b,st,am,hf,h=>by
  obtain⟨⟨t,x,y⟩,h0,h⟩:=whenS_inv h
  obtain⟨h1,h⟩:=and2 h
  obtain⟨h2,h3⟩:=and2 h
  obtain⟨p,rfl⟩:=ifS h0
  exact PS.imp (ps_if (soundE c X _ am h1).2 (soundB a _ am hf h2) (soundB b _ am hf h3)) fun D st H t=>ite_lift D st H t
 | .forS tg src b,st,am,hf,h=>by
  obtain⟨⟨t,it,body⟩,h0,h⟩:=whenS_inv h
  obtain⟨h1,h⟩:=and2 h
  obtain⟨h2,h3⟩:=and2 h
  obtain⟨p,rfl⟩:=forS' h0
  exact for_sound am hf h1 (soundB b _ am hf h2) h3
 | .brk,st,am,hf,h=>by
  rcases bare_sound h with⟨z,_⟩ | ⟨z,p,rfl⟩ | ⟨z,_⟩ | ⟨z,_⟩<;>first|(cases z;done)|skip
  refine PS.imp ps_break fun D st H t => ?_
  obtain⟨ρ,ε,σ,hE,hS,q⟩:=same_lift (o:=.brk) (fun ε σ=>by rw[evS]) D st H t
  exact q ρ st H (Ext.refl _ _ _) hS hE
 | .cont,st,am,hf,h=>by
  rcases bare_sound h with⟨z,_⟩ | ⟨z,_⟩ | ⟨z,p,rfl⟩ | ⟨z,_⟩<;>first|(cases z;done)|skip
  refine PS.imp ps_continue fun D st H t => ?_
  obtain⟨ρ,ε,σ,hE,hS,q⟩:=same_lift (o:=.cont) (fun ε σ=>by rw[evS]) D st H t
  exact q ρ st H (Ext.refl _ _ _) hS hE
 | .pass,st,am,hf,h=>by
  rcases bare_sound h with⟨z,_⟩ | ⟨z,_⟩ | ⟨z,_⟩ | ⟨z,p,rfl⟩<;>first|(cases z;done)|skip
  refine PS.imp ps_pass fun D st H t => ?_
  obtain⟨ρ,ε,σ,hE,hS,q⟩:=same_lift (o:=.next) (fun ε σ=>by rw[evS]) D st H t
  exact q ρ st H (Ext.refl _ _ _) hS hE
 | .whileS c b,st,am,hf,h=>by
  obtain⟨⟨t,body⟩,h0,h⟩:=whenS_inv h
  obtain⟨h1,h2⟩:=and2 h
  obtain⟨p,rfl⟩:=whS h0
  exact PS.imp (ps_while (passes am) (soundE c X _ am h1).2 (soundB b _ am hf h2)) fun D st H t=>while_lift D st H t
 | .unpack is e,st,am,hf,h=>by
  obtain⟨⟨t,v,p⟩,h0,h⟩:=whenS_inv h
  obtain⟨es,h1,h⟩:=whenS_inv h
  obtain⟨h2,h⟩:=and2 h
  obtain⟨h3,h4⟩:=and2 h
  cases asgS h0
  obtain⟨k,p',rfl⟩:=tupE h1
  obtain⟨g1,g2,g3⟩:=tg_ok am.nd hf.fn h2
  exact PS.imp (ps_asg (soundE e X _ am h4).1 (pg_tup am.calm g1 g2 g3) (sole_false (call_nocomp h3)) (stores_call h3) rfl) fun D st H t=>unpack_lift D st H t
 | .raise c a,st,am,hf,h=>by
  obtain⟨v,h0,h⟩:=whenS_inv h
  obtain⟨⟨x,as⟩,h1,h⟩:=whenS_inv h
  obtain⟨e,h2,h⟩:=whenS_inv h
  simp only[Bool.and_eq_true,decide_eq_true_eq] at h
  obtain⟨z1,z2,z3,z4,z5,z6⟩:=h
  obtain⟨p,rfl⟩:=raiseS h0
  obtain⟨p1,p2,rfl⟩:=callNE h1
  cases l1_inv h2
  cases isS_eq z1
  rw[Bool.or_eq_true] at z6
  rcases z6 with z6|z6
  rotate_left
  ·obtain⟨z7,z8⟩:=and2 z6
   exact raise_fs am hf (by simpa using z4) z2 z3 z5 z7 z8
  exact raise_sound am hf (by simpa using z4) z2 z3 z5 z6
 | .callX tg f as,st,am,hf,h=>PS.imp ((chkX_sound am hf h Xw.Ξ).ps hf.xe) fun D st H t=>callX_lift D st H t
 | .tryM tg f as c e i cs,st,am,hf,h=>try_sound am hf h
 | .tryR f as c d a,st,am,hf,h=>by
  obtain⟨⟨b,k⟩,h0,h⟩:=whenS_inv h
  obtain⟨⟨t,body⟩,h1,h⟩:=whenS_inv h
  obtain⟨dn,h2,h⟩:=whenS_inv h
  obtain⟨r,h3,h⟩:=whenS_inv h
  obtain⟨v,h4,h⟩:=whenS_inv h
  obtain⟨⟨pn,pa⟩,h5,h⟩:=whenS_inv h
  obtain⟨m,h6,h⟩:=whenS_inv h
  obtain⟨x,h7,h⟩:=whenS_inv h
  simp only[Bool.and_eq_true,decide_eq_true_eq,Bool.not_eq_true'] at h
  obtain⟨z1,z2,z3,z4,z5,z6,z7,z8,z9,y1,y2,y3⟩:=h
  obtain⟨p,rfl⟩:=tryS h0
  obtain⟨p1,rfl⟩:=hdlRE h1
  obtain⟨p2,rfl⟩:=nameE h2
  cases l1_inv h3
  obtain⟨p3,rfl⟩:=raiseS h4
  obtain⟨p4,p5,rfl⟩:=callNE h5
  cases l1_inv h6
  cases strT_inv h7
  cases isS_eq z1
  cases isS_eq z5
  exact PS.imp (ps_tryR (tb:=fun Ξ=>tTg none (TX (MP.run P W n) f as Ξ)) hf.bd hf.xe hf.cls (by simpa using z4) (gl_eq z2) (beq_eq_false_iff_ne.mpr z3) z9 (by simpa using z8) (gl_eq z6) (beq_eq_false_iff_ne.mpr z7) y1 (fun Y=>str_pe y2) (chkX_sound am hf y3)) fun D st H t=>tryR_lift D st H t
theorem soundB:∀ (b:Blk) (ss:List Stmt),Amb X P W n->InB X->chkB X.N X.env.scope b ss=true->PSs X ss (B1 (MP.run P W n) W b)
 | .nil,ss,am,hf,h=>by
  cases ss with
  |nil =>
   refine PSs.imp pss_nil fun D st H t => ?_
   obtain⟨ρ,ε,σ,o,σ',hE,hS,ee,q⟩:=t
   rw[evB] at ee
   cases ee
   exact q ρ st H (Ext.refl _ _ _) hS hE
  |cons _ _=>cases h
 | .cons s b,ss,am,hf,h=>by
  cases ss with
  |nil=>cases h
  |cons t r =>
   obtain⟨h1,h2⟩:=and2 (show(chkS X.N X.env.scope s t && chkB X.N X.env.scope b r)=true from h)
   exact PSs.imp (pss_cons (soundS s t am hf h1) (soundB b r am hf h2)) fun D st H t=>seq_lift D st H t
end
end
end SN
namespace SN
open PySem PySem.Spec PyProof.Rows L2 MP
variable [Wd][Cl]
section
variable {n:Nat}
mutual
theorem refs_sub:∀ (r:R) (acc:List Nat) (k:Nat),k∈acc->k∈refsGe n r acc
 | .g _,acc,k,h=>by rw[refsGe];exact h
 | .ref i,acc,k,h=>by
  rw[refsGe]
  split
  ·exact h
  ·split
   ·exact h
   ·exact List.mem_append_left _ h
 | .tr xs,acc,k,h=>by rw[refsGe];exact refss_sub xs acc k h
theorem refss_sub:∀ (xs:List R) (acc:List Nat) (k:Nat),k∈acc->k∈refsGes n xs acc
 | [],acc,k,h=>by rw[refsGes];exact h
 |x::r,acc,k,h=>by rw[refsGes];exact refss_sub r _ k (refs_sub x acc k h)
end
mutual
theorem refs_ok:∀ (r:R) (acc:List Nat),(∀ k∈acc,n<=k)->acc.Nodup->(∀ k∈refsGe n r acc,n<=k)/\(refsGe n r acc).Nodup
 | .g _,acc,h,d=>by rw[refsGe];exact⟨h,d⟩
 | .ref i,acc,h,d=>by
  rw[refsGe]
  split
  ·exact⟨h,d⟩
  ·rename_i hi
   split
   ·exact⟨h,d⟩
   ·rename_i hc
    refine⟨fun k hk => ?_,?_⟩
    ·rcases List.mem_append.mp hk with z|z
     ·exact h k z
     ·simp at z;omega
    ·rw[List.nodup_append]
     refine⟨d,by simp,fun a ha b hb => ?_⟩
     simp at hb
     subst hb
     intro z
     subst z
     exact hc (by simpa using ha)
 | .tr xs,acc,h,d=>by rw[refsGe];exact refss_ok xs acc h d
theorem refss_ok:∀ (xs:List R) (acc:List Nat),(∀ k∈acc,n<=k)->acc.Nodup->(∀ k∈refsGes n xs acc,n<=k)/\(refsGes n xs acc).Nodup
 | [],acc,h,d=>by rw[refsGes];exact⟨h,d⟩
 |x::r,acc,h,d=>by
  rw[refsGes]
  obtain⟨h1,d1⟩:=refs_ok x acc h d
  exact refss_ok r _ h1 d1
end
mutual
noncomputable def RIn(n:Nat)(ks:List Nat):R->Prop
 | .g _=>True
 | .ref i=>i<n\/i∈ks
 | .tr xs=>RIns n ks xs
noncomputable def RIns(n:Nat)(ks:List Nat):List R->Prop
 | []=>True
 |x::r=>RIn n ks x/\RIns n ks r
end
mutual
theorem refs_in:∀ (r:R) (acc ks:List Nat),(∀ k∈refsGe n r acc,k∈ks)->RIn n ks r
 | .g _,acc,ks,h=>trivial
 | .ref i,acc,ks,h=>by
  by_cases hi:i<n
  ·exact .inl hi
  ·refine .inr (h i ?_)
   rw[refsGe,if_neg hi]
   split
   ·rename_i hc;simpa using hc
   ·simp
 | .tr xs,acc,ks,h=>by rw[refsGe] at h;exact refss_in xs acc ks h
theorem refss_in:∀ (xs:List R) (acc ks:List Nat),(∀ k∈refsGes n xs acc,k∈ks)->RIns n ks xs
 | [],acc,ks,h=>trivial
 |x::r,acc,ks,h=>by
  rw[refsGes] at h
  exact⟨refs_in x acc ks fun k hk=>h k (refss_sub r _ k hk),refss_in r _ ks h⟩
end
theorem cells_get{σ:Store}:∀ {ks:List Nat} {cs:List Cell},cellsAt σ ks=some cs->cs.length=ks.length/\∀ (j k:Nat),ks[j]?=some k->∃ c,σ[k]?=some c/\flatCell c=true/\cs[j]?=some c
 | [],cs,h=>by cases h;exact⟨rfl,fun j k e=>by simp at e⟩
 |k::r,cs,h=>by
  rw[cellsAt] at h
  split at h
  ·rename_i c e1
   split at h
   ·rename_i hf
    cases e2:cellsAt σ r with
    |none=>rw[e2] at h;cases h
    |some ds =>
     rw[e2] at h
     cases h
     obtain⟨l,g⟩:=cells_get e2
     refine⟨by simp[l],fun j k' e => ?_⟩
     cases j with
     |zero=>simp at e;subst e;exact⟨c,e1,hf,rfl⟩
     |succ j =>
      obtain⟨d,a1,a2,a3⟩:=g j k' (by simpa using e)
      exact⟨d,a1,a2,by simpa using a3⟩
   ·cases h
  ·cases h
noncomputable def rhoC(ρ:Nat->Addr)(n:Nat)(ks:List Nat):Nat->Addr:=fun k=>if k<n then ρ k else ρ (ks.getD (k-n) 0)
mutual
theorem RR.ren{H:Hp}{ρ:Nat->Addr}{m:Nat}{ks:List Nat}:∀ (r:R) {v:V},RIn n ks r->RR H ρ m r v->RR H (rhoC ρ n ks) (n+ks.length) (MP.ren n ks r) v
 | .g x,v,_,h=>by rw[MP.ren];exact h
 | .ref i,v,hi,h=>by
  rw[MP.ren]
  obtain⟨_,rfl⟩:=h
  by_cases hn:i<n
  ·rw[if_pos hn]
   exact⟨by omega,by simp[rhoC,hn]⟩
  ·rw[if_neg hn]
   have hm:i∈ks:=hi.resolve_left hn
   have hl:ks.idxOf i<ks.length:=List.idxOf_lt_length_of_mem hm
   refine⟨by omega,?_⟩
   have:¬ n+ks.idxOf i<n:=by omega
   simp only[rhoC,this,if_false]
   rw[show n+ks.idxOf i-n=ks.idxOf i by omega]
   rw[List.getD_eq_getElem?_getD,List.getElem?_eq_getElem hl]
   simp
 | .tr xs,v,hi,h=>by
  rw[MP.ren]
  obtain⟨a,vs,rfl,ha,hx⟩:=h
  exact⟨a,vs,rfl,ha,RRs.ren xs hi hx⟩
theorem RRs.ren{H:Hp}{ρ:Nat->Addr}{m:Nat}{ks:List Nat}:∀ (xs:List R) {vs:List V},RIns n ks xs->RRs H ρ m xs vs->RRs H (rhoC ρ n ks) (n+ks.length) (MP.rens n ks xs) vs
 | [],vs,_,h=>by rw[MP.rens];exact h
 |x::r,vs,hi,h=>by
  rw[MP.rens]
  obtain⟨v,us,rfl,h1,h2⟩:=h
  exact⟨v,us,rfl,RR.ren x hi.1 h1,RRs.ren r hi.2 h2⟩
end
noncomputable def gdS(σ σ':Store):Store:=if kept σ σ' then σ' else σ'.map kill
theorem gdS_len(σ σ':Store):(gdS σ σ').length=σ'.length:=by unfold gdS;split<;>simp
theorem kept_get:∀ {σ τ:Store} {i:Nat} {d:Cell},kept σ τ=true->i<σ.length->τ[i]?=some d->isStk d=true->σ[i]?=some d
 |c::σ,d'::τ,0,d,h,_,e,hs=>by
  simp only[kept,Bool.and_eq_true,Bool.or_eq_true,decide_eq_true_eq] at h
  cases e
  rcases h.1 with z|z
  ·rw[z];rfl
  ·rw[hs] at z;cases z
 |c::σ,d'::τ,i+1,d,h,hi,e,hs=>by
  simp only[kept,Bool.and_eq_true] at h
  exact kept_get (σ:=σ) (τ:=τ) h.2 (by simpa using hi) (by simpa using e) hs
 | [],τ,i,d,h,hi,e,hs=>by simp at hi
 |c::σ,[],i,d,h,hi,e,hs=>by simp[kept] at h
theorem gdS_sr{ρ ρ':Nat->Addr}{H H':Hp}{σ σ':Store}(S0:SR H ρ σ)(S:SR H' ρ' σ'):SR H' ρ' (gdS σ σ')/\∀ (i m:Nat) (xs:List R),i<σ.length->(gdS σ σ')[i]?=some (Cell.stk m xs)->m<=σ.length:=by
 unfold gdS
 split
 ·rename_i k
  exact⟨S,fun i m xs hi e=>S0.bd i m xs (kept_get k hi e rfl)⟩
 ·have key:∀ (i:Nat) (c:Cell),(σ'.map kill)[i]?=some c->∃ d,σ'[i]?=some d/\c=kill d:=fun i c e=>by
   rw[List.getElem?_map] at e
   cases q:σ'[i]? with
   |none=>rw[q] at e;cases e
   |some d=>rw[q] at e;cases e;exact⟨d,rfl,rfl⟩
  have z0:∀ (i m:Nat) (xs:List R),(σ'.map kill)[i]?=some (Cell.stk m xs)->m=0:=fun i m xs e=>by
   obtain⟨d,_,e2⟩:=key i _ e
   cases d<;>cases e2
   rfl
  refine⟨⟨fun i c e => ?_,fun i j hi hj=>S.inj i j (by simpa using hi) (by simpa using hj),fun i m xs e=>by rw[z0 i m xs e];exact Nat.zero_le _⟩,fun i m xs _ e=>by rw[z0 i m xs e];exact Nat.zero_le _⟩
  obtain⟨d,e1,rfl⟩:=key i c e
  have q:=S.cell i d e1
  cases d with
  |stk m xs =>
   obtain⟨vs,h1,_⟩:=q
   exact⟨vs,h1,.inl rfl⟩
  |_=>exact q
theorem fin_compact{ρ ρ':Nat->Addr}{H H':Hp}{σ':Store}{r:R}{v:V}{cs:List Cell}(ex:Ext ρ n H ρ' σ'.length H')(S:SR H' ρ' σ')(rv:RR H' ρ' σ'.length r v)(hc:cellsAt σ' (refsGe n r [])=some cs)(hb:∀ (i m:Nat) (xs:List R),i<n->σ'[i]?=some (Cell.stk m xs)->m<=n) :
 ∃ ρ2,Ext ρ n H ρ2 (σ'.take n++cs).length H'/\SR H' ρ2 (σ'.take n++cs)/\RR H' ρ2 (σ'.take n++cs).length (MP.ren n (refsGe n r []) r) v:=by
 obtain⟨kge,knd⟩:=refs_ok (n:=n) r [] (by simp) List.nodup_nil
 have kin:=refs_in (n:=n) r [] (refsGe n r []) fun k h=>h
 generalize hks:refsGe n r []=ks at *
 obtain⟨cl,cg⟩:=cells_get hc
 have tl:(σ'.take n).length=n:=by rw[List.length_take];have:=ex.le;omega
 have ln:(σ'.take n++cs).length=n+ks.length:=by rw[List.length_append,tl,cl]
 have lo:∀ i,i<n->rhoC ρ' n ks i=ρ' i:=fun i hi=>by simp[rhoC,hi]
 have hi':∀ j k,ks[j]?=some k->rhoC ρ' n ks (n+j)=ρ' k:=fun j k e=>by
  have:¬ n+j<n:=by omega
  simp only[rhoC,this,if_false]
  rw[show n+j-n=j by omega,List.getD_eq_getElem?_getD,e]
  rfl
 have klt:∀ j k,ks[j]?=some k->k<σ'.length:=fun j k e=>by
  obtain⟨c,e1,_⟩:=cg j k e
  exact SR.lt e1
 refine⟨rhoC ρ' n ks,⟨by rw[ln];omega,fun i hi=>by rw[lo i hi,ex.ag i hi],fun i h1 h2 => ?_,ex.kp,ex.fz⟩,⟨fun i c e => ?_,fun i j hi hj e => ?_,fun i m xs e => ?_⟩,by rw[ln];exact RR.ren r kin rv⟩
 ·rw[ln] at h2
  obtain⟨j,rfl⟩:∃ j,i=n+j:=⟨i-n,by omega⟩
  obtain⟨k,ek⟩:∃ k,ks[j]?=some k:=⟨ks[j],by simp⟩
  rw[hi' j k ek]
  exact ex.fr k (kge k (List.mem_of_getElem? ek)) (klt j k ek)
 ·by_cases hi:i<n
  ·rw[List.getElem?_append_left (by rw[tl];exact hi),List.getElem?_take_of_lt hi] at e
   have q:=S.cell i c e
   cases c with
   |lst xs=>obtain⟨vs,h1,h2⟩:=q;exact⟨vs,by rw[lo i hi];exact h1,h2⟩
   |rdl xs=>obtain⟨vs,h1,h2⟩:=q;exact⟨vs,by rw[lo i hi];exact h1,h2⟩
   |rls xs=>obtain⟨vs,h1,h2⟩:=q;exact⟨vs,by rw[lo i hi];exact h1,RRs.mono (fun _ _ h=>h) (Nat.le_refl _) (fun l hl=>lo l (Nat.lt_trans hl hi)) _ h2⟩
   |stk m xs =>
    have hm:=hb i m xs hi e
    obtain⟨vs,h1,h2⟩:=q
    exact⟨vs,by rw[lo i hi];exact h1,h2.imp id fun h2=>RRs.mono (fun _ _ h=>h) (Nat.le_refl _) (fun l hl=>lo l (Nat.lt_of_lt_of_le hl hm)) _ h2⟩
   |_=>exact(show False from q).elim
  ·have hil:=SR.lt e
   rw[ln] at hil
   obtain⟨j,rfl⟩:∃ j,i=n+j:=⟨i-n,by omega⟩
   obtain⟨k,ek⟩:∃ k,ks[j]?=some k:=⟨ks[j],by simp⟩
   obtain⟨d,a1,a2,a3⟩:=cg j k ek
   rw[List.getElem?_append_right (by rw[tl];omega),tl,show n+j-n=j by omega,a3] at e
   cases e
   have q:=S.cell k c a1
   cases c with
   |lst xs=>obtain⟨vs,h1,h2⟩:=q;exact⟨vs,by rw[hi' j k ek];exact h1,h2⟩
   |rdl xs=>obtain⟨vs,h1,h2⟩:=q;exact⟨vs,by rw[hi' j k ek];exact h1,h2⟩
   |rls xs=>cases a2
   |stk m xs=>cases a2
   |_=>exact(show False from q).elim
 ·rw[ln] at hi hj
  have at':∀ i,i<n+ks.length->∃ k,k<σ'.length/\rhoC ρ' n ks i=ρ' k/\((i<n/\k=i)\/(n<=i/\n<=k/\ks[i-n]?=some k)):=fun i hi=>by
   by_cases h:i<n
   ·exact⟨i,Nat.lt_of_lt_of_le h ex.le,lo i h,.inl ⟨h,rfl⟩⟩
   ·obtain⟨j,rfl⟩:∃ j,i=n+j:=⟨i-n,by omega⟩
    obtain⟨k,ek⟩:∃ k,ks[j]?=some k:=⟨ks[j],by simp⟩
    exact⟨k,klt j k ek,hi' j k ek,.inr ⟨by omega,kge k (List.mem_of_getElem? ek),by rw[show n+j-n=j by omega];exact ek⟩⟩
  obtain⟨k1,l1,e1,c1⟩:=at' i hi
  obtain⟨k2,l2,e2,c2⟩:=at' j hj
  rw[e1,e2] at e
  have:=S.inj k1 k2 l1 l2 e
  subst this
  rcases c1 with⟨a,rfl⟩ | ⟨a,b,c⟩<;>rcases c2 with⟨a',b'⟩ | ⟨a',b',c'⟩
  ·exact b'
  ·omega
  ·omega
  ·have:=(List.getElem?_inj (List.getElem?_eq_some_iff.mp c).1 knd).mp (c.trans c'.symm)
   omega
 ·by_cases hi:i<n
  ·rw[List.getElem?_append_left (by rw[tl];exact hi),List.getElem?_take_of_lt hi] at e
   have:=hb i m xs hi e
   rw[ln]
   omega
  ·have hil:=SR.lt e
   rw[ln] at hil
   obtain⟨j,rfl⟩:∃ j,i=n+j:=⟨i-n,by omega⟩
   obtain⟨k,ek⟩:∃ k,ks[j]?=some k:=⟨ks[j],by simp⟩
   obtain⟨d,a1,a2,a3⟩:=cg j k ek
   rw[List.getElem?_append_right (by rw[tl];omega),tl,show n+j-n=j by omega,a3] at e
   cases e
   cases a2
end
structure MgOk(K:PySem.W.Frag)(mg:Str->Option Value):Prop where
 blt:∀ b ∈ ["len","tuple","list","dict","isinstance","range","int","bool","str","sum","max","min","all","enumerate","zip","sorted","any","abs","ord","reversed"],mg (Str.ofString b)=none
 cls:∀ c∈Cl.cls,ClsOk K mg c
 ve:mg (Str.ofString "ValueError")=none
 glb:∀ f x,Cl.consts.lookup f=some x->∃ v u,mg (Str.ofString f)=some u/\RelV v u/\∀ H,RG H x v
section
variable {Pg:Program}{K:PySem.W.Frag}{mg:Str->Option Value}{base:Heap}{P:List Fn}{W n:Nat}
theorem start_re{H:Hp}{ρ:Nat->Addr}{m:Nat}{N:List Str}{rs:List R}{vs:List V}{nl:Nat}(h:RRs H ρ m rs vs)(hl:nl=N.length):RE H ρ m (rs.map some++List.replicate (nl-rs.length) none) (L2.start N vs):=by
 have e:=h.length
 refine⟨by unfold L2.start;simp[hl,e],fun i r ei => ?_⟩
 have hi:i<rs.length:=by
  by_cases hi:i<rs.length
  ·exact hi
  ·rw[List.getElem?_append_right (by simpa using hi),List.getElem?_replicate] at ei
   split at ei<;>cases ei
 rw[List.getElem?_append_left (by simpa using hi),List.getElem?_map] at ei
 cases c:rs[i]? with
 |none=>rw[c] at ei;cases ei
 |some r' =>
  rw[c] at ei
  cases ei
  obtain⟨v,h1,h2⟩:=h.get c
  refine⟨v,?_,h2⟩
  unfold L2.start
  rw[List.getElem?_append_left (by simp;omega),List.getElem?_map,h1]
  rfl
theorem spOf_len{d:Fn}{f:String}(hf:look P f=some d){vs:List V}{H:Hp}{Q:VK}{E:XK}(h:SpOf P W n f vs H Q E):vs.length=d.np:=by
 obtain⟨ρ,σ,rs,h1,_,h⟩:=h
 rw[h1.length]
 rcases h with⟨r,σ',e,_⟩ | ⟨c,σ',e,_⟩
 all_goals
  cases n with
  |zero=>cases e
  |succ n =>
   rw[MP.run,hf] at e
   dsimp only at e
   split at e
   ·rename_i hl;exact hl
   ·cases e
theorem fn_ok{x:Str}{st:Stmt}{fa:Addr}{fd:FuncData}{N ps:List Str}{f:String}{d:Fn}(F:Fun K x x st fa fd)(S:FnScope N ps (defScope st))(hf:look P f=some d)(hnp:d.np=ps.length)(hnl:d.nl=N.length)
 (hc:chkB N (defScope st) d.body (defBody st)=true)
 (hblt:MgOk K mg)
 (ih:∀ f d,look P f=some d->∃ a fd ps,mg (Str.ofString f)=some (.ref a)/\PySem.W.keepIn K (.ref a)=true/\Binds K fd ps []/\FnOk Pg Wd.w K mg base (CX1 Pg Wd.w mg) n a fd ps (SpOf P W n f)) :
 FnOk Pg Wd.w K mg base (CX1 Pg Wd.w mg) (n+1) fa fd ps (SpOf P W (n+1) f):=by
 refine fn_okX F S (fun vs H Q E h=>by rw[spOf_len hf h,hnp]) fun cdv A outer s H vs Q E hr h X0 hX0 B => ?_
 letI:Xw:=⟨fun c H'=>E (.type c) none H'⟩
 have am:Amb (X0.wish (XE X0 Xw.Ξ)) P W n:=by
  subst hX0
  exact⟨by have:=hr.un;show(A.deeper _).units+200<cLine;omega,hr,rfl,passes_x B,S.nd,rfl,
   hblt.glb,
   hblt.blt,ih⟩
 have bx:InB (X0.wish (XE X0 Xw.Ξ)):=by
  subst hX0
  refine⟨fun _=>rfl
   ,⟨rfl,rfl,rfl,rfl⟩,fun v s' z => ?_,hblt.cls,hblt.ve
   ⟩
  obtain⟨e,c,C,σ,H,tb,z1,z2,z3,z4,z5⟩:=z
  exact⟨e,c,C,σ,H,tb,z1,z2,z3,z4.unwish,z5⟩
 refine⟨B1 (MP.run P W n) W d.body,by subst hX0;exact soundB d.body (defBody st) am bx hc,?_⟩
 obtain⟨ρ,σ,rs,h1,h2,h⟩:=h
 have hl:rs.length=d.np:=by
  have:=spOf_len (P:=P) (W:=W) (n:=n+1) hf (vs:=vs) (H:=H) (Q:=Q) (E:=E) ⟨ρ,σ,rs,h1,h2,h⟩
  rw[h1.length] at this;exact this
 have st0:RE H ρ σ.length (rs.map some++List.replicate (d.nl-d.np) none) (L2.start N vs):=by
  have:=start_re (N:=N) (nl:=d.nl) h1 hnl
  rw[hl] at this
  exact this
 have hrun:MP.run P W (n+1) f rs σ=MP.fin σ.length (MP.gd σ (evB (MP.run P W n) W d.body (rs.map some++List.replicate (d.nl-d.np) none) σ)):=by
  rw[MP.run,hf]
  dsimp only
  rw[if_pos hl]
 rw[hrun] at h
 have e0:∀ (c:String) (σ1:Store),evB (MP.run P W n) W d.body (rs.map some++List.replicate (d.nl-d.np) none) σ = .ok (.exc c) σ1->B1 (MP.run P W n) W d.body {nx:=fun _ H'=>Q .non H',rt:=Q} (L2.start N vs) H:=fun c σ1 eb=>by
  rw[eb] at h
  rcases h with⟨r,σ',e,_⟩ | ⟨c',σ',e,q⟩
  ·cases e
  ·cases e
   refine⟨ρ,_,σ,.exc c,σ1,st0,h2,eb,fun ρ' H' ex S' => ?_⟩
   obtain⟨S2,hb⟩:=gdS_sr (σ':=σ1) h2 S'
   rw[← gdS_len σ σ1] at ex
   obtain⟨ρ2,e1,e2,_⟩:=fin_compact (r:=.g .non) (v:=.non) ex S2 rfl (cs:=[]) (by simp[refsGe,cellsAt]) hb
   rw[List.append_nil] at e1 e2
   exact q ρ2 H' e1 e2
 rcases h with⟨r,σ',e,q⟩ | ⟨c,σ',e,q⟩
 ·cases eb:evB (MP.run P W n) W d.body (rs.map some++List.replicate (d.nl-d.np) none) σ with
  |stuck=>rw[eb] at e;cases e
  |exc c σ1=>rw[eb] at e;cases e
  |ok o σ1 =>
   rw[eb] at e
   refine⟨ρ,_,σ,o,σ1,st0,h2,eb,?_⟩
   ·cases o with
    |next ε =>
     cases e
     intro ρ' st' H' ex S' hE'
     have hc:cellsAt (gdS σ σ1) (refsGe σ.length (.g .non) [])=some []:=by simp[refsGe,cellsAt]
     obtain⟨S2,hb⟩:=gdS_sr (σ':=σ1) h2 S'
     rw[← gdS_len σ σ1] at ex
     obtain⟨ρ2,e1,e2,e3⟩:=fin_compact (r:=.g .non) (v:=.non) ex S2 rfl hc hb
     rw[List.append_nil] at e1 e2 e3
     exact q ρ2 .non H' e1 e2 e3
    |brk ε=>cases e
    |cont ε=>cases e
    |exc c=>cases e
    |ret r' =>
     intro ρ' v H' ex S' rv
     have e:MP.fin σ.length (.ok (.ret r') (gdS σ σ1)) = .ok r σ':=e
     simp only[MP.fin] at e
     split at e
     ·rename_i cs hc
      cases e
      obtain⟨S2,hb⟩:=gdS_sr (σ':=σ1) h2 S'
      rw[← gdS_len σ σ1] at ex rv
      obtain⟨ρ2,e1,e2,e3⟩:=fin_compact ex S2 rv hc hb
      exact q ρ2 v H' e1 e2 e3
     ·cases e
 ·cases eb:evB (MP.run P W n) W d.body (rs.map some++List.replicate (d.nl-d.np) none) σ with
  |stuck=>rw[eb] at e;cases e
  |exc c σ1=>rw[eb] at e;cases e
  |ok o σ1 =>
   rw[eb] at e
   cases o with
   |exc c'=>exact e0 c' σ1 eb
   |next ε=>cases e
   |brk ε=>cases e
   |cont ε=>cases e
   |ret r' =>
    have e:MP.fin σ.length (.ok (.ret r') (gdS σ σ1)) = .exc c σ':=e
    simp only[MP.fin] at e
    split at e<;>cases e
structure DefOk(K:PySem.W.Frag)(mg:Str->Option Value)(d:Fn):Prop where
 ex:∃ (st:Stmt) (fa:Addr) (fd:FuncData) (N ps:List Str),Fun K (Str.ofString d.name) (Str.ofString d.name) st fa fd/\FnScope N ps (defScope st)/\d.np=ps.length/\d.nl=N.length/\chkB N (defScope st) d.body (defBody st)=true ∧
  Binds K fd ps []/\mg (Str.ofString d.name)=some (.ref fa)
theorem look_name:∀ {P:List Fn} {f:String} {d:Fn},look P f=some d->d.name=f/\d∈P
 | [],_,_,h=>by cases h
 |e::r,f,d,h=>by
  rw[look] at h
  split at h
  ·rename_i hn;cases h;exact⟨hn,List.mem_cons_self⟩
  ·obtain⟨a,b⟩:=look_name h;exact⟨a,List.mem_cons_of_mem _ b⟩
theorem all_ok(hblt:MgOk K mg)
 (hd:∀ d∈P,DefOk K mg d):∀ (n:Nat) (f:String) (d:Fn),look P f=some d->∃ a fd ps,mg (Str.ofString f)=some (.ref a)/\PySem.W.keepIn K (.ref a)=true/\Binds K fd ps []/\FnOk Pg Wd.w K mg base (CX1 Pg Wd.w mg) n a fd ps (SpOf P W n f)
 |0,f,d,h=>by
  obtain⟨en,hm⟩:=look_name h
  obtain⟨st,fa,fd,N,ps,F,S,h1,h2,h3,h4,h5⟩:=(hd d hm).ex
  rw[en] at h5
  refine⟨fa,fd,ps,h5,F.kp,h4,⟨fun vs H Q E q => ?_,fun A outer s H args us vs Q E _ _ _ _ q => ?_⟩⟩
  ·obtain⟨ρ,σ,rs,_,_,e⟩:=q;rcases e with⟨_,_,e,_⟩ | ⟨_,_,e,_⟩<;>cases e
  ·obtain⟨ρ,σ,rs,_,_,e⟩:=q;rcases e with⟨_,_,e,_⟩ | ⟨_,_,e,_⟩<;>cases e
 |n+1,f,d,h=>by
  obtain⟨en,hm⟩:=look_name h
  obtain⟨st,fa,fd,N,ps,F,S,h1,h2,h3,h4,h5⟩:=(hd d hm).ex
  have h5':=h5
  rw[en] at h5'
  exact⟨fa,fd,ps,h5',F.kp,h4,fn_ok F S h h1 h2 h3 hblt (all_ok hblt hd n)⟩
theorem ints_rg{H:Hp}:∀ ns:List Int,RGs H (ns.map .int) (ns.map V.int)
 | []=>rfl
 |i::r=>⟨_,_,rfl,rfl,ints_rg r⟩
noncomputable def noList(K:PySem.W.Frag):Bool:=K.all fun p=>match p.2.cls with
 | .type "list"=>false
 |_=>true
omit [Wd] [Cl] in
theorem lookup_mem:∀ {K:PySem.W.Frag} {a:Addr} {o:Obj},K.lookup a=some o->(a,o)∈K
 | [],_,_,h=>by cases h
 | (b,p)::r,a,o,h=>by
  rw[List.lookup_cons] at h
  split at h
  ·rename_i e
   cases h
   have:a=b:=by simpa using e
   subst this
   exact List.mem_cons_self
  ·exact List.mem_cons_of_mem _ (lookup_mem h)
theorem sq_rd{K:PySem.W.Frag}{H:Hp}{a:Addr}{xs:List V}(hn:noList K=true)(h:SqL K H a xs):Rd H a (.lst xs):=by
 rcases h with h | ⟨o,its,m,hk,hc,_⟩
 ·exact h
 ·have:=(List.all_eq_true.mp hn) (a,o) (lookup_mem hk)
  simp only[hc] at this
  cases this
theorem law_sp{P:List Fn}{W n:Nat}(hl:∀ ns:List Int,∃ σ',MP.run P W n "law" [.ref 0] [.rdl (ns.map .int)] = .ok (.g (.bl true)) σ')(H:Hp)(a:Addr)(ns:List Int)(hn:noList K=true)(hS:SqL K H a (ns.map V.int))(E:XK) :
 SpOf P W n "law" [.ref a] H (fun v _=>v = .bl true) E:=by
 obtain⟨σ',e⟩:=hl ns
 have hg:RGs H (ns.map .int) (ns.map V.int):=ints_rg ns
 have hR:=sq_rd hn hS
 refine⟨fun _=>a,[.rdl (ns.map .int)],[.ref 0],⟨_,[],rfl,⟨by simp,rfl⟩,rfl⟩,⟨fun i c ei => ?_,fun i j hi hj _=>by simp at hi hj;omega,fun i m xs ei=>by
  cases i with
  |zero=>simp at ei
  |succ i=>simp at ei⟩,.inl ⟨_,σ',e,fun ρ' v H' _ _ r=>r⟩⟩
 cases i with
 |zero=>simp at ei;subst ei;exact⟨_,hR,hg⟩
 |succ i=>simp at ei
end
end SN
namespace SN
open PySem PySem.Spec PyProof.Rows L2 MP
variable [Cl]
noncomputable def locals(sc:Scope):List Str:=(sc.names.filter fun p=>match p.2 with
 | .local=>true
 | .cell=>true
 |_=>false).map (·.1)
noncomputable def nodupB:List Str->Bool
 | []=>true
 |x::r => !r.contains x && nodupB r
theorem nodupB_ok:∀ {xs:List Str},nodupB xs=true->xs.Nodup
 | [],_=>List.nodup_nil
 |x::r,h=>by
  rw[nodupB,Bool.and_eq_true] at h
  exact List.nodup_cons.mpr ⟨by simpa using h.1,nodupB_ok h.2⟩
noncomputable def isLoc:Option NameKind->Bool
 |some .local=>true
 |some .cell=>true
 |_=>false
noncomputable def notFree:NameKind->Bool
 | .free=>false
 |_=>true
noncomputable def isFunK:ScopeKind->Bool
 | .function=>true
 |_=>false
noncomputable def parsOf(st:Stmt):List Str:=(defArgs st).args.map (·.arg)
noncomputable def scopeB(ps:List Str)(sc:Scope):Bool :=
 isFunK sc.kind && (!sc.isCoroutine && (!sc.isGenerator && (nodupB (locals sc) && (decide ((locals sc).take ps.length=ps) && (ps.all (fun x=>isLoc (sc.names.lookup x)) && sc.names.all fun y=>notFree y.2)))))
theorem scopeB_ok{ps:List Str}{sc:Scope}(h:scopeB ps sc=true):FnScope (locals sc) ps sc:=by
 simp only[scopeB,Bool.and_eq_true,Bool.not_eq_true',decide_eq_true_eq,List.all_eq_true] at h
 obtain⟨h1,h2,h3,h4,h5,h6,h7⟩:=h
 refine⟨?_,h2,h3,nodupB_ok h4,h5,fun x hx => ?_,fun y hy e => ?_⟩
 ·revert h1
  cases sc.kind<;>intro h1<;>first|rfl|cases h1
 ·have:=h6 x hx
  revert this
  cases sc.names.lookup x with
  |none=>intro z;cases z
  |some k=>cases k<;>intro z<;>first|exact Or.inl rfl|exact Or.inr rfl|cases z
 ·have:=h7 y hy
  rw[e] at this
  cases this
noncomputable def defB(st:Stmt)(d:Fn):Bool:=scopeB (parsOf st) (defScope st) && (decide (d.np=(parsOf st).length) && (decide (d.nl=(locals (defScope st)).length) && chkB (locals (defScope st)) (defScope st) d.body (defBody st)))
noncomputable def At(K:PySem.W.Frag)(x:Str)(st:Stmt):Prop:=∃ (f:Addr) (fd:FuncData),PySem.W.nsIn K mainGlobals x=some (some (.ref f))/\Fun K x x st f fd
noncomputable def BindB(x:Str)(st:Stmt):Prop:=∀ (kV doc pm:Value) (an:Option Addr) (cdv ct:Value) (us:List Value),us.length=(parsOf st).length->bindArgs (PySem.W.fnOf x x (defArgs st) (defBody st) (defScope st) .none kV doc pm an cdv ct) ⟨us,[]⟩=pure ((parsOf st).zip us)
theorem def_mk{K:PySem.W.Frag}{h:Heap}{mg:Str->Option Value}{st:Stmt}{d:Fn}(X:K.In h)(G:h.Ns mainGlobals mg)(hA:At K (Str.ofString d.name) st)(hB:defB st d=true)(hb:BindB (Str.ofString d.name) st):DefOk K mg d:=by
 obtain⟨f,fd,a,F⟩:=hA
 simp only[defB,Bool.and_eq_true,decide_eq_true_eq] at hB
 obtain⟨h1,h2,h3,h4⟩:=hB
 exact⟨⟨st,f,fd,_,_,F,scopeB_ok h1,h2,h3,h4,F.binds hb,PySem.W.mg_of X G a⟩⟩
noncomputable def isNN:Option (Option Value)->Bool
 |some none=>true
 |_=>false
theorem isNN_ok{x:Option (Option Value)}(h:isNN x=true):x=some none:=by
 unfold isNN at h
 split at h
 ·rfl
 ·cases h
noncomputable def nsNone(K:PySem.W.Frag)(b:String):Bool:=isNN (PySem.W.nsIn K mainGlobals (Str.ofString b))
noncomputable def notList(a:Addr)(o:Obj):Option (Addr × Obj):=match o.cls with
 | .type "list"=>none
 |_=>some (a,o)
theorem notList_eq{a:Addr}{o:Obj}{p:Addr × Obj}(h:notList a o=some p):p=(a,o):=by
 unfold notList at h
 split at h
 ·cases h
 ·cases h;rfl
noncomputable def frag(h:Heap):PySem.W.Frag:=(List.range h.objs.size).filterMap fun a=>(h.get? a).bind (notList a)
theorem frag_in(h:Heap):(frag h).In h:=fun a o e=>by
 have m:=lookup_mem e
 rw[frag,List.mem_filterMap] at m
 obtain⟨b,_,e⟩:=m
 obtain⟨o',g,e⟩:=Option.bind_eq_some_iff.mp e
 cases notList_eq e
 exact g
noncomputable abbrev Sees:=Arguments × List Stmt × Scope
noncomputable def seesOf(st:Stmt):Sees:=(defArgs st,defBody st,defScope st)
noncomputable def plainFd(K:PySem.W.Frag)(x:Str)(f:Addr)(fd:FuncData):Bool:=decide (fd.name=x) && (decide (fd.qualname=x) && (decide (fd.globals=mainGlobals) && (fd.closure.isEmpty && (decide (fd.defaults = .none) && (decide (fd.builtins=builtinsNs) && (PySem.W.codeIn K fd.code x && PySem.W.keepIn K (.ref f)))))))
noncomputable def seenD(K:PySem.W.Frag)(x:Str)(f:Addr)(fd:FuncData):Option Sees:=match fd.body with
 | .stmts b=>if plainFd K x f fd=true then some (fd.params,b,fd.scope) else none
 |_=>none
noncomputable def seenO(K:PySem.W.Frag)(x:Str)(f:Addr)(o:Obj):Option Sees:=match o.data with
 | .func fd=>seenD K x f fd
 |_=>none
noncomputable def seenF(K:PySem.W.Frag)(x:Str):Option Sees:=match PySem.W.nsIn K mainGlobals x with
 |some (some (.ref f))=>(K.lookup f).bind (seenO K x f)
 |_=>none
theorem seenF_ok{K:PySem.W.Frag}{x:Str}{st:Stmt}(h:seenF K x=some (seesOf st)):At K x st:=by
 unfold seenF at h
 split at h
 ·rename_i f e1
  obtain⟨o,e2,h⟩:=Option.bind_eq_some_iff.mp h
  obtain⟨oc,od,dt,sl⟩:=o
  unfold seenO at h
  split at h
  ·rename_i fd e3
   cases e3
   obtain⟨n1,n2,ar,bd,sc,gl,cl,df,kd,dc,pm,an,cd,ct,bl⟩:=fd
   unfold seenD at h
   split at h
   ·rename_i b e4
    cases e4
    split at h
    ·rename_i h0
     simp only[plainFd,Bool.and_eq_true,decide_eq_true_eq,List.isEmpty_iff] at h0
     obtain⟨rfl,rfl,rfl,rfl,rfl,rfl,h7,h8⟩:=h0
     cases h
     exact⟨f,_,e1,fun_mk e2 h7 h8⟩
    ·cases h
   ·cases h
  ·cases h
 ·cases h
noncomputable def bltNames:List String:=["len","tuple","list","dict","isinstance","range","int","bool","str","sum","max","min","all","enumerate","zip","sorted","any","abs","ord","reversed"]
noncomputable def conB(x:G)(v:Option (Option Value)):Bool:=match x,v with
 | .int i,some (some (.int j _))=>decide (i=j)
 | .str x,some (some (.str y _))=>decide (y=sOf x) && okS x
 |_,_=>false
theorem conB_ok[Wd]{x:G}{o:Option (Option Value)}(h:conB x o=true):∃ v u,o=some (some u)/\RelV v u/\∀ H,RG H x v:=by
 cases x with
 |int i =>
  cases o with
  |none=>cases h
  |some o =>
   cases o with
   |none=>cases h
   |some u =>
    cases u<;>first|(cases h;done)|skip
    rename_i j t
    cases(of_decide_eq_true h:i=j)
    exact⟨.int i,_,rfl,⟨t,rfl⟩,fun _=>rfl⟩
 |str z =>
  cases o with
  |none=>cases h
  |some o =>
   cases o with
   |none=>cases h
   |some u =>
    cases u<;>first|(cases h;done)|skip
    rename_i y t
    obtain⟨h1,h2⟩:=and2 h
    cases(of_decide_eq_true h1:y=sOf z)
    exact⟨.str (sOf z),_,rfl,⟨t,rfl⟩,fun _=>⟨rfl,h2⟩⟩
 |_=>cases h
theorem look_in{α:Type}:∀ {l:List (String × α)} {f:String} {x:α},l.lookup f=some x->(f,x)∈l
 | [],_,_,h=>by cases h
 | (g,y)::r,f,x,h=>by
  rw[List.lookup_cons] at h
  split at h
  ·rename_i e
   cases h
   cases(eq_of_beq e:f=g)
   exact List.mem_cons_self
  ·exact List.mem_cons_of_mem _ (look_in h)
noncomputable def okK(K:PySem.W.Frag):Bool:=noList K && (bltNames.all (nsNone K) && (
 (clsB K Cl.cls && nsNone K "ValueError")
 &&
 Cl.consts.all fun p=>conB p.2 (PySem.W.nsIn K mainGlobals (Str.ofString p.1))
 ))
noncomputable def obs(P:List Fn)(s:Shared):Bool × List (Option Sees):=(okK (frag s.heap),P.map fun d=>seenF (frag s.heap) (Str.ofString d.name))
noncomputable def topOf(p:Program)(i:Nat):Stmt:=p.main.body.getD i (.Pass ⟨0,0,0,0⟩)
noncomputable def val(p:Program)(ix:List Nat):Bool × List (Option Sees):=(true,ix.map fun i=>some (seesOf (topOf p i)))
noncomputable def YK(p:Program)(ix:List Nat)(P:List Fn)(_:World)(h:Heap):Prop:=∃ K:PySem.W.Frag,K.In h/\okK K=true/\P.map (fun d=>seenF K (Str.ofString d.name))=ix.map fun i=>some (seesOf (topOf p i))
theorem YK.of{p:Program}{ix:List Nat}{P:List Fn}(w:World)(s:Shared)(e:obs P s=val p ix):YK p ix P w s.heap:=⟨_,frag_in _,congrArg Prod.fst e,congrArg Prod.snd e⟩
theorem YK.keeps{p:Program}{ix:List Nat}{P:List Fn}(w:World)(h h':Heap)(y:YK p ix P w h)(k:∀ b o,h.get? b=some o->h'.get? b=some o):YK p ix P w h':=by
 obtain⟨K,y1,y2⟩:=y
 exact⟨K,y1.keeps k,y2⟩
noncomputable def chk1(x:Str)(st:Stmt)(d:Fn):Bool:=defB st d && (decide (d.name ≠ "law") || decide (parsOf st=[x]))
noncomputable def chkAll(p:Program)(x:Str):List Nat->List Fn->Bool
 |i::r,d::q=>chk1 x (topOf p i) d && chkAll p x r q
 |_,_=>true
noncomputable def BindAll(p:Program):List Nat->List Fn->Prop
 |i::r,d::q=>BindB (Str.ofString d.name) (topOf p i)/\BindAll p r q
 |_,_=>True
structure Stands(K:PySem.W.Frag)(x:Str)(d:Fn)(st:Stmt):Prop where
 at_:At K (Str.ofString d.name) st
 chk:defB st d=true
 law:d.name="law"->parsOf st=[x]
 bind:BindB (Str.ofString d.name) st
theorem stands{K:PySem.W.Frag}{p:Program}{x:Str}:∀ {ix:List Nat} {P:List Fn},P.map (fun d=>seenF K (Str.ofString d.name))=ix.map (fun i=>some (seesOf (topOf p i)))->chkAll p x ix P=true->BindAll p ix P->∀ d∈P,∃ st,Stands K x d st
 |ix,[],_,_,_,d,hd=>by cases hd
 | [],e::q,h,_,_,d,hd=>by cases h
 |i::r,e::q,h,c,b,d,hd=>by
  obtain⟨h1,h2⟩:=List.cons.inj h
  rw[chkAll,Bool.and_eq_true] at c
  cases hd with
  |head =>
   have c1:=c.1
   rw[chk1,Bool.and_eq_true,Bool.or_eq_true,decide_eq_true_eq,decide_eq_true_eq] at c1
   exact⟨_,seenF_ok h1,c1.1,fun z=>c1.2.resolve_left fun k=>k z,b.1⟩
  |tail _ hd=>exact stands h2 c.2 b.2 d hd
theorem look_mem:∀ {P:List Fn} {f:String} {d:Fn},look P f=some d->d∈P/\d.name=f
 | [],f,d,h=>by cases h
 |e::q,f,d,h=>by
  rw[look] at h
  split at h
  ·cases h;exact⟨List.mem_cons_self,by assumption⟩
  ·exact⟨List.mem_cons_of_mem _ (look_mem h).1,(look_mem h).2⟩
theorem law_mk{l:PySem.W.OpenLaw}{w:World}{K:PySem.W.Frag}{h:Heap}{mg:Str->Option Value}{fa:Addr}{P:List Fn}{W n:Nat}{d:Fn}{x:Str}(X:K.In h)(G:h.Ns mainGlobals mg)(hfa:mg (Str.ofString "law")=some (.ref fa))
 (hn:look P "law"=some d) (hk:okK K=true) (hd:∀ d∈P,∃ st,Stands K x d st) :
 ∃ fd:FuncData,(∀ (s:Shared) (u:Value),BindsTo s fd ⟨[u],[]⟩ [(x,u)])/\∀ base:Heap,K.In base->base.Ns mainGlobals mg->FnOk l.prog w K mg base CX0 (n+1) fa fd [x] (fun vs H Q _=>@SpOf ⟨w⟩ P W (n+1) "law" vs H Q E0):=by
 letI:Wd:=⟨w⟩
 obtain⟨hm,en⟩:=look_mem hn
 obtain⟨st,S⟩:=hd d hm
 have hp:=S.law en
 have hb:=S.bind
 have hB:=S.chk
 have hA:=S.at_
 rw[en] at hA hb
 obtain⟨f,fd,a,F⟩:=hA
 have e:=hfa.symm.trans (PySem.W.mg_of X G a)
 cases e
 simp only[defB,Bool.and_eq_true,decide_eq_true_eq] at hB
 obtain⟨h1,h2,h3,h4⟩:=hB
 simp only[okK,Bool.and_eq_true] at hk
 have hl:MgOk K mg:=⟨fun b hb=>PySem.W.mg_none_of X G (isNN_ok (List.all_eq_true.mp hk.2.1 b hb))
  ,clsB_ok X G hk.2.2.1.1,PySem.W.mg_none_of X G (isNN_ok hk.2.2.1.2)
  ,fun f x e=>by
   obtain⟨v,u,g1,g2,g3⟩:=conB_ok (List.all_eq_true.mp hk.2.2.2 _ (look_in e))
   exact⟨v,u,PySem.W.mg_of X G g1,g2,g3⟩
  ⟩
 refine⟨fd,fun s u => ?_,fun base _ _ => ?_⟩
 ·obtain⟨oc,od,kV,doc,pm,an,cdv,ct,osl,rfl,_,_⟩:=F.ex
  have:=hb kV doc pm an cdv ct [u] (by rw[hp];rfl)
  rw[hp] at this
  exact .of_eq this
 ·have:=fn_ok (Pg:=l.prog) (base:=base) (W:=W) (n:=n) F (scopeB_ok h1) hn h2 h3 h4 hl (all_ok hl (fun d hd'=>by obtain⟨st,S⟩:=hd d hd';exact def_mk X G S.at_ S.chk S.bind) n)
  rw[hp] at this
  exact fn_to0 this
theorem us0{us:List Value}(h:us.length=0):us=[]:=List.length_eq_zero_iff.mp h
theorem usS{us:List Value}{n:Nat}(h:us.length=n+1):∃ a r,us=a::r/\r.length=n:=by
 cases us with
 |nil=>cases h
 |cons a r=>exact⟨a,r,rfl,Nat.succ.inj h⟩
theorem us1{us:List Value}(h:us.length=1):∃ a,us=[a]:=by obtain⟨a,r,rfl,k⟩:=usS h;cases us0 k;exact⟨a,rfl⟩
theorem us2{us:List Value}(h:us.length=2):∃ a b,us=[a,b]:=by obtain⟨a,r,rfl,k⟩:=usS h;obtain⟨b,rfl⟩:=us1 k;exact⟨a,b,rfl⟩
theorem us3{us:List Value}(h:us.length=3):∃ a b c,us=[a,b,c]:=by obtain⟨a,r,rfl,k⟩:=usS h;obtain⟨b,c,rfl⟩:=us2 k;exact⟨a,b,c,rfl⟩
theorem walk{l:PySem.W.OpenLaw}{q:Program}{loose:List Str}{XP:(Str->Option Value)->Heap->Prop}{d:DefRec}{P:List Fn}{ix:List Nat}{W n:Nat}{x:Str}{dl:Fn}(hn:l.most=some 63)(hdn:d.name=Str.ofString "law")(hdf:d.params.defaults=[])
 (hr:Room (n+1) callerA) (hlk:look P "law"=some dl) (hc:chkAll l.prog x ix P=true) (hb:BindAll l.prog ix P) (hl:∀ ns:List Int,∃ σ',MP.run P W (n+1) "law" [.ref 0] [.rdl (ns.map .int)] = .ok (.g (.bl true)) σ') :
 PySem.W.WalkO q loose XP (YK l.prog ix P) l.row.toRowW d [] (fun f vs=>PySem.call f vs):=by
 intro w s₀ s₁ mg mb G Y
 obtain⟨K,KX,hk,hs⟩:=Y
 have hno:noList K=true:=by rw[okK,Bool.and_eq_true] at hk;exact hk.1
 exact L2.walk_of (YP:=fun _ h=>K.In h) (K:=fun _=>K) (n:=63) (k:=n+1) (x:=x) (CX:=fun _=>CX0) (sp:=fun w vs H Q _=>@SpOf ⟨w⟩ P W (n+1) "law" vs H Q E0) hn (by decide) hdf hr (fun _ _ h=>h) (fun w mg fa h KX G hm=>law_mk KX G (hdn ▸ hm) hlk hk (stands hs hc hb))
  (fun w H a ns _ _ hS=>letI:Wd:=⟨w⟩;law_sp hl H a ns hno hS _) (fun _ _ _ _ _ z=>z) w s₀ s₁ mg mb G KX
theorem holds{l:PySem.W.OpenLaw}{keep ix:List Nat}{N:Nat}{d:DefRec}{P:List Fn}{W n:Nat}{x:Str}{dl:Fn}(said:l.wellSaid=true)(hm:l.most=some 63)(hr:Room (n+1) callerA)(hlk:look P "law"=some dl)
 (left:PySem.W.LeftO l.prog (PySem.W.view l.prog keep) [] (fun _=>true) (obs P) (fun _=>val l.prog ix) N) (hdef:PySem.W.defOf (PySem.W.view l.prog keep) l.name=some (d,[])) (hp:l.prog.theDef l.name=some (d.params,d.body,d.scope))
 (hk:PySem.W.kwWritten? d.params.kwonlyargs d.params.kw_defaults=some []) (ok:(PySem.W.chainsOk (PySem.W.view l.prog keep) && PySem.W.opensWell l.prog && (PySem.W.frees l.row.toRowW && l.row.within.isEmpty))=true) (hbr:l.prog.bare) (hw:l.row.toRowW.promised)
 (hdn:d.name=Str.ofString "law") (hdf:d.params.defaults=[]) (hc:chkAll l.prog x ix P=true) (hb:BindAll l.prog ix P) (hl:∀ ns:List Int,∃ σ',MP.run P W (n+1) "law" [.ref 0] [.rdl (ns.map .int)] = .ok (.g (.bl true)) σ'):l.Holds :=
 PySem.W.holds_law said fun rs=>PySem.W.holds_open (r:=l.row) (q:=PySem.W.view l.prog keep) (loose:=[]) (Xt:=fun _=>true) (XP:=fun _ _=>True) (Yf:=obs P) (Ya:=fun _=>val l.prog ix) (YP:=YK l.prog ix P) (N:=N) left (fun w s e=>YK.of w s e) (fun w h h' y k=>YK.keeps w h h' y k) (fun _ _=>trivial) (fun _ _ _ _ _=>trivial)
  hdef hp hk (fun _ _=>PySem.W.recFacts_of rfl) (Bool.or_true _) rs ok hbr hw (walk hm hdn hdf hr hlk hc hb hl)
end SN
set_option maxHeartbeats 0
namespace FinK
open PySem L2 MP SN PySem.W
instance:SN.Cl:=⟨["FormError","NoForm","TooMany","BadNote"],[("HIGHEST_NUMBER",.int 999),("LETTERS",.str [97,98,99,100,101,102,103,104,105,106,107,108,109,110,111,112,113,114,115,116,117,118,119,120,121,122]),("MOST_LETTERS",.int 8),("MOST_PARTS",.int 4),("MOST_SIGNS",.int 200),("MOST_DEPTH",.int 40),("FIGURES",.str [48,49,50,51,52,53,54,55,56,57])]⟩
noncomputable abbrev L:=PySem.Challenge.rw_commonforms_k14_texts_refused
noncomputable def keep:List Nat:=[1,2,3,4,6,7,8,9,11,12,13,14,15,16,17,18,19,21,22,23,24,25,26,27,28,30,31,32,33,34,35,36,37,38,39,40,41,42,43,44,45,46,47]
noncomputable def ix:List Nat:=[6,7,8,9,17,18,19,22,23,24,25,26,27,28,30,31,32,33,34,36,37,38,39,40,41,42,43,44,45,46,47]
noncomputable def d:DefRec:=match defOf (view L.prog keep) L.name with
 |some (d,_)=>d
 |none=>⟨L.name,defArgs (.Pass ⟨0,0,0,0⟩),[],defScope (.Pass ⟨0,0,0,0⟩),⟨0,0,0,0⟩⟩
theorem chk:chkAll L.prog "script" ix MP.P14=true:=by kernel_rfl
theorem bind_is_gap:BindB (Str.ofString "is_gap") (topOf L.prog 6):=fun _ _ _ _ _ _ us hl=>by obtain⟨a,rfl⟩:=SN.us1 hl;rfl
theorem bind_parts_of:BindB (Str.ofString "parts_of") (topOf L.prog 7):=fun _ _ _ _ _ _ us hl=>by obtain⟨a,rfl⟩:=SN.us1 hl;rfl
theorem bind_signs_of:BindB (Str.ofString "signs_of") (topOf L.prog 8):=fun _ _ _ _ _ _ us hl=>by obtain⟨a,rfl⟩:=SN.us1 hl;rfl
theorem bind_depth_of:BindB (Str.ofString "depth_of") (topOf L.prog 9):=fun _ _ _ _ _ _ us hl=>by obtain⟨a,rfl⟩:=SN.us1 hl;rfl
theorem bind_is_word:BindB (Str.ofString "is_word") (topOf L.prog 17):=fun _ _ _ _ _ _ us hl=>by obtain⟨a,rfl⟩:=SN.us1 hl;rfl
theorem bind_is_right:BindB (Str.ofString "is_right") (topOf L.prog 18):=fun _ _ _ _ _ _ us hl=>by obtain⟨a,rfl⟩:=SN.us1 hl;rfl
theorem bind_looked:BindB (Str.ofString "looked") (topOf L.prog 19):=fun _ _ _ _ _ _ us hl=>by obtain⟨a,rfl⟩:=SN.us1 hl;rfl
theorem bind_sign_at:BindB (Str.ofString "sign_at") (topOf L.prog 22):=fun _ _ _ _ _ _ us hl=>by obtain⟨a,b,rfl⟩:=SN.us2 hl;rfl
theorem bind_run_end:BindB (Str.ofString "run_end") (topOf L.prog 23):=fun _ _ _ _ _ _ us hl=>by obtain⟨a,b,c,rfl⟩:=SN.us3 hl;rfl
theorem bind_read_gap:BindB (Str.ofString "read_gap") (topOf L.prog 24):=fun _ _ _ _ _ _ us hl=>by obtain⟨a,b,rfl⟩:=SN.us2 hl;rfl
theorem bind_read_tie:BindB (Str.ofString "read_tie") (topOf L.prog 25):=fun _ _ _ _ _ _ us hl=>by obtain⟨a,b,rfl⟩:=SN.us2 hl;rfl
theorem bind_read_parts:BindB (Str.ofString "read_parts") (topOf L.prog 26):=fun _ _ _ _ _ _ us hl=>by obtain⟨a,b,rfl⟩:=SN.us2 hl;rfl
theorem bind_read_form:BindB (Str.ofString "read_form") (topOf L.prog 27):=fun _ _ _ _ _ _ us hl=>by obtain⟨a,b,rfl⟩:=SN.us2 hl;rfl
theorem bind_read:BindB (Str.ofString "read") (topOf L.prog 28):=fun _ _ _ _ _ _ us hl=>by obtain⟨a,rfl⟩:=SN.us1 hl;rfl
theorem bind__law_cell_at:BindB (Str.ofString "_law_cell_at") (topOf L.prog 30):=fun _ _ _ _ _ _ us hl=>by obtain⟨a,b,rfl⟩:=SN.us2 hl;rfl
theorem bind__law_whole:BindB (Str.ofString "_law_whole") (topOf L.prog 31):=fun _ _ _ _ _ _ us hl=>by obtain⟨a,rfl⟩:=SN.us1 hl;rfl
theorem bind__law_form:BindB (Str.ofString "_law_form") (topOf L.prog 32):=fun _ _ _ _ _ _ us hl=>by obtain⟨a,b,c,rfl⟩:=SN.us3 hl;rfl
theorem bind__law_drawn:BindB (Str.ofString "_law_drawn") (topOf L.prog 33):=fun _ _ _ _ _ _ us hl=>by obtain⟨a,b,c,rfl⟩:=SN.us3 hl;rfl
theorem bind__law_is_form:BindB (Str.ofString "_law_is_form") (topOf L.prog 34):=fun _ _ _ _ _ _ us hl=>by obtain⟨a,rfl⟩:=SN.us1 hl;rfl
theorem bind__law_text:BindB (Str.ofString "_law_text") (topOf L.prog 36):=fun _ _ _ _ _ _ us hl=>by obtain⟨a,rfl⟩:=SN.us1 hl;rfl
theorem bind__law_name:BindB (Str.ofString "_law_name") (topOf L.prog 37):=fun _ _ _ _ _ _ us hl=>by obtain⟨a,rfl⟩:=SN.us1 hl;rfl
theorem bind__law_leaf:BindB (Str.ofString "_law_leaf") (topOf L.prog 38):=fun _ _ _ _ _ _ us hl=>by obtain⟨a,rfl⟩:=SN.us1 hl;rfl
theorem bind__law_due:BindB (Str.ofString "_law_due") (topOf L.prog 39):=fun _ _ _ _ _ _ us hl=>by obtain⟨a,rfl⟩:=SN.us1 hl;rfl
theorem bind__law_odd:BindB (Str.ofString "_law_odd") (topOf L.prog 40):=fun _ _ _ _ _ _ us hl=>by obtain⟨a,rfl⟩:=SN.us1 hl;rfl
theorem bind__law_told:BindB (Str.ofString "_law_told") (topOf L.prog 41):=fun _ _ _ _ _ _ us hl=>by obtain⟨a,rfl⟩:=SN.us1 hl;rfl
theorem bind__law_spoiled:BindB (Str.ofString "_law_spoiled") (topOf L.prog 42):=fun _ _ _ _ _ _ us hl=>by obtain⟨a,b,rfl⟩:=SN.us2 hl;rfl
theorem bind__law_signs:BindB (Str.ofString "_law_signs") (topOf L.prog 43):=fun _ _ _ _ _ _ us hl=>by obtain⟨a,rfl⟩:=SN.us1 hl;rfl
theorem bind__law_great:BindB (Str.ofString "_law_great") (topOf L.prog 44):=fun _ _ _ _ _ _ us hl=>by obtain⟨a,rfl⟩:=SN.us1 hl;rfl
theorem bind__law_read_great:BindB (Str.ofString "_law_read_great") (topOf L.prog 45):=fun _ _ _ _ _ _ us hl=>by obtain⟨a,rfl⟩:=SN.us1 hl;rfl
theorem bind__law_worded:BindB (Str.ofString "_law_worded") (topOf L.prog 46):=fun _ _ _ _ _ _ us hl=>by obtain⟨a,b,rfl⟩:=SN.us2 hl;rfl
theorem bind_law:BindB (Str.ofString "law") (topOf L.prog 47):=fun _ _ _ _ _ _ us hl=>by obtain⟨a,rfl⟩:=SN.us1 hl;rfl
theorem bnd:BindAll L.prog ix MP.P14:=⟨bind_is_gap,bind_parts_of,bind_signs_of,bind_depth_of,bind_is_word,bind_is_right,bind_looked,bind_sign_at,bind_run_end,bind_read_gap,bind_read_tie,bind_read_parts,bind_read_form,bind_read,bind__law_cell_at,bind__law_whole,bind__law_form,bind__law_drawn,bind__law_is_form,bind__law_text,bind__law_name,bind__law_leaf,bind__law_due,bind__law_odd,bind__law_told,bind__law_spoiled,bind__law_signs,bind__law_great,bind__law_read_great,bind__law_worded,bind_law,trivial⟩
theorem left:LeftO L.prog (view L.prog keep) [] (fun _=>true) (obs MP.P14) (fun _=>val L.prog ix) 20000:=fun w=>by kernel_rfl
theorem wit:PySem.Challenge.rw_commonforms_k14_texts_refused.row.toRowW.promised:=by w_witness2
theorem said:L.wellSaid=true:=by kernel_rfl
theorem ok:(chainsOk (view L.prog keep) && opensWell L.prog && (frees L.row.toRowW && L.row.within.isEmpty))=true:=by kernel_rfl
theorem hdef:defOf (view L.prog keep) L.name=some (d,[]):=by kernel_rfl
theorem hp:L.prog.theDef L.name=some (d.params,d.body,d.scope):=by kernel_rfl
theorem hk:kwWritten? d.params.kwonlyargs d.params.kw_defaults=some []:=by kernel_rfl
theorem hn:d.name=Str.ofString "law":=by kernel_rfl
theorem hd:d.params.defaults=[]:=by kernel_rfl
end FinK
theorem PySem.Challenge.cw_commonforms_k14_texts_refused_holds : PySem.Challenge.rw_commonforms_k14_texts_refused.Holds := by
 exact SN.holds (n:=134) (W:=1000) FinK.said rfl ⟨rfl,by decide,by decide⟩ rfl FinK.left FinK.hdef FinK.hp FinK.hk FinK.ok ⟨rfl,rfl,rfl,rfl,rfl,by decide +kernel⟩ FinK.wit FinK.hn FinK.hd FinK.chk FinK.bnd (MP.law14 (by decide) (by decide))
#print axioms PySem.Challenge.cw_commonforms_k14_texts_refused_holds
