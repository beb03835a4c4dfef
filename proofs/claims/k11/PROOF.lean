import PyProof.Rows.All
import Wide.All
import OpenK.AllK
import Wide.FinOn
import Lean
import PyProof.EqAt
import PyProof.EqKinds
import PyProof.TupleCall
import KE.KEqDict
import PyProof.NeKinds
import KE.KDictLaws
import KE.KDictList
import PyProof.ConsumeWalk
import PyProof.SumWalkG
import PyProof.DictRoadsH
import Wide.Seal
import PyProof.StationsW
import PyProof.StrBlockI
import PyProof.StrBlockL
import PyProof.SliceList
import KE.KIntText
import PyProof.SliceStr2
import PyProof.EnumMake
import PyProof.Draws
import PyProof.Rows.CallKwBuiltin
import PyProof.Rows.CallKw2
import PyProof.Rows.Exc
import OpenK.KWalk
import PyProof.MinMaxWalk
import PyProof.ZipIter
import PyProof.TupleIter
import PyProof.WalksMore
import PyProof.Rows.ZipGen
import PyProof.StrWalks
import PyProof.DictWalks
import PyProof.DictItems
import PyProof.FactsAll.dict_3
import OpenK.KOwn
import KE.KIsAll
import PyProof.NsDelKeeps
import PySem.Challenge.RW_commonforms_k11_whole_below_and_nearest
set_option bootstrap.genMatcherCode false
set_option Elab.async false
set_option linter.all false
set_option maxRecDepth 100000
namespace L2
open PySem PySem.Spec PyProof.Rows
noncomputable abbrev Key:=Sum Int Str
noncomputable def keyIs:Key->Value->Bool
 | .inl k,v=>Value.isInt k v
 | .inr x,v=>Value.isStrOf x v
noncomputable def keyH(w:World):Key->Int
 | .inl k=>hashInt k
 | .inr x=>hashStr w x
theorem keyIs_shape:∀ {k:Key} {v:Value},keyIs k v=true->(∃ i t,k=Sum.inl i/\v=Value.int i t)\/(∃ x t,k=Sum.inr x/\v=Value.str x t)
 | .inl i,v,h=>by
  obtain⟨t,e⟩:=Value.isInt_shape (k:=i) (v:=v) h
  exact .inl ⟨i,t,rfl,e⟩
 | .inr x,v,h=>by
  obtain⟨t,e⟩:=Value.isStrOf_shape (x:=x) (v:=v) h
  exact .inr ⟨x,t,rfl,e⟩
theorem keyIs_int(i:Int)(t:Tok):keyIs (.inl i) (.int i t)=true:=by simp[keyIs,Value.isInt]
theorem keyIs_str(x:Str)(t:Tok):keyIs (.inr x) (.str x t)=true:=by simp[keyIs,Value.isStrOf]
theorem key_ll(a b:Int):decide ((Sum.inl a:Key)=Sum.inl b)=(a == b):=by
 by_cases e:a=b
 ·subst e;simp
 ·have h:¬ (Sum.inl a:Key)=Sum.inl b:=fun q=>e (Sum.inl.inj q)
  rw[decide_eq_false h]
  exact(beq_eq_false_iff_ne.mpr e).symm
theorem key_rr(a b:Str):decide ((Sum.inr a:Key)=Sum.inr b)=decide (a=b):=by
 by_cases e:a=b
 ·subst e;simp
 ·have h:¬ (Sum.inr a:Key)=Sum.inr b:=fun q=>e (Sum.inr.inj q)
  rw[decide_eq_false h,decide_eq_false e]
theorem key_lr(a:Int)(b:Str):decide ((Sum.inl a:Key)=Sum.inr b)=false:=decide_eq_false (fun q=>nomatch q)
theorem key_rl(a:Str)(b:Int):decide ((Sum.inr a:Key)=Sum.inl b)=false:=decide_eq_false (fun q=>nomatch q)
noncomputable def mixKind(prog:Program)(w:World):PySem.KeyKind prog w Key where
 is:=keyIs
 hash:=keyH w
 inj:=fun v a b ha hb=>by
  rcases keyIs_shape ha with⟨i,t,rfl,rfl⟩ | ⟨x,t,rfl,rfl⟩
  ·rcases keyIs_shape hb with⟨j,u,rfl,e⟩ | ⟨y,u,rfl,e⟩
   ·injection e with e1 _;rw[e1]
   ·exact nomatch e
  ·rcases keyIs_shape hb with⟨j,u,rfl,e⟩ | ⟨y,u,rfl,e⟩
   ·exact nomatch e
   ·injection e with e1 _;rw[e1]
 byValue:=fun k v h=>by
  rcases keyIs_shape h with⟨i,t,rfl,rfl⟩ | ⟨x,t,rfl,rfl⟩<;>rfl
 pyHash:=fun hv h=>by
  rcases keyIs_shape hv with⟨i,t,rfl,rfl⟩ | ⟨x,t,rfl,rfl⟩
  ·exact wpAny_pyHash_int h
  ·exact wpAny_pyHash_str h
 eqBool:=fun hu hv h=>by
  rcases keyIs_shape hu with⟨i,t,rfl,rfl⟩ | ⟨x,t,rfl,rfl⟩
  ·rcases keyIs_shape hv with⟨j,u,rfl,rfl⟩ | ⟨y,u,rfl,rfl⟩
   ·rw[key_ll] at h;exact wpAny_eqBool_int h
   ·rw[key_lr] at h;exact SeqAt.EqAt.int_str i t y u _ _ _ _ h
  ·rcases keyIs_shape hv with⟨j,u,rfl,rfl⟩ | ⟨y,u,rfl,rfl⟩
   ·rw[key_rl] at h;exact SeqAt.EqAt.str_int x t j u _ _ _ _ h
   ·rw[key_rr] at h;exact wpAny_eqBool_str h
 «strs» := fun k x t v h=>by
  rcases keyIs_shape h with⟨i,u,rfl,e⟩ | ⟨y,u,rfl,e⟩
  ·exact nomatch e
  ·injection e with e1 _
   subst e1
   cases v<;>rfl
theorem mixKind_int(prog:Program)(w:World)(i:Int)(t:Tok):(mixKind prog w).is (.inl i) (.int i t)=true:=keyIs_int i t
theorem mixKind_str(prog:Program)(w:World)(x:Str)(t:Tok):(mixKind prog w).is (.inr x) (.str x t)=true:=keyIs_str x t
end L2
namespace L2
open PySem PySem.Spec PyProof.Rows
inductive V where
 |non|bl (b:Bool)|int (i:Int)|str (x:Str)|byt (b:Array UInt8)|flt (b:UInt64)|ref (a:Addr)|ty (n:String)
 deriving DecidableEq
noncomputable def RelV:V->Value->Prop
 | .non,u=>u=Value.none
 | .bl b,u=>u=Value.bool b
 | .int i,u=>∃ t,u=Value.int i t
 | .str x,u=>∃ t,u=Value.str x t
 | .byt b,u=>∃ t,u=Value.bytes b t
 | .flt b,u=>∃ t,u=Value.float b t
 | .ref a,u=>u=Value.ref a
 | .ty n,u=>u=Value.type n
noncomputable abbrev Vals:List V->List Value->Prop:=Paired RelV
theorem Vals.length{xs:List V}{us:List Value}(r:Vals xs us):xs.length=us.length:=Paired.length r
theorem Vals.get:∀ {xs:List V} {us:List Value} {i:Nat} {x:V},Vals xs us->xs[i]?=some x->∃ u,us[i]?=some u/\RelV x u
 |_,_,_,_,.nil,e=>by simp at e
 |_,_,0,_,.cons r _,e=>by simp at e;subst e;exact⟨_,rfl,r⟩
 |_,_,i+1,x,.cons _ t,e=>by
  obtain⟨u,h1,h2⟩:=Vals.get (i:=i) (x:=x) t (by simpa using e)
  exact⟨u,by simpa using h1,h2⟩
theorem Vals.set{x:V}{u:Value}(r:RelV x u):∀ {xs:List V} {us:List Value} (i:Nat),Vals xs us->Vals (xs.set i x) (us.set i u)
 |_,_,_,.nil=>.nil
 |_,_,0,.cons _ t=>.cons r t
 |_,_,i+1,.cons q t=>.cons q (Vals.set r i t)
theorem Vals.append:∀ {xs ys:List V} {us ws:List Value},Vals xs us->Vals ys ws->Vals (xs++ys) (us++ws)
 |_,_,_,_,.nil,s=>s
 |_,_,_,_,.cons r t,s=>.cons r (Vals.append t s)
theorem Vals.take:∀ {xs:List V} {us:List Value} (n:Nat),Vals xs us->Vals (xs.take n) (us.take n)
 |_,_,0,_=>.nil
 |_,_,_+1,.nil=>.nil
 |_,_,n+1,.cons r t=>.cons r (Vals.take n t)
theorem Vals.drop:∀ {xs:List V} {us:List Value} (n:Nat),Vals xs us->Vals (xs.drop n) (us.drop n)
 |_,_,0,r=>r
 |_,_,_+1,.nil=>.nil
 |_,_,n+1,.cons _ t=>Vals.drop n t
theorem Vals.none_of:∀ {xs:List V} {us:List Value} {i:Nat},Vals xs us->xs[i]?=none->us[i]?=none:=fun {xs us i} r e=>by
 have h1:=r.length
 have h2:xs.length<=i:=List.getElem?_eq_none_iff.mp e
 exact List.getElem?_eq_none_iff.mpr (by omega)
noncomputable def RelO:Option V->Option Value->Prop
 |some v,some u=>RelV v u
 |none,none=>True
 |_,_=>False
noncomputable def KV{κ:Type}:List (κ × V)->List (κ × Value)->Prop:=Paired fun(p:κ × V) (q:κ × Value)=>p.1=q.1/\RelV p.2 q.2
noncomputable def kV:Key->V
 | .inl i=>.int i
 | .inr x=>.str x
inductive HO where
 |lst (xs:List V)
 |tup (xs:List V)
 |dK (kvs:List (Key × V))|dT (kvs:List (List Key × V))
 |set (S:Int->Bool) (n:Nat)
 |ins (C dx:Addr) (fs:List (Str × V))
 |own (x:Addr)
 |xd (fs:List (Str × V))
 |met (f x:Addr)
 |rng (lo hi:Int)
 |frz (o:Obj) (u:HO)
 |tbl (ps:Array Value)
 |ext (φ:Heap->Prop)
noncomputable abbrev Hp:=Addr->Option HO
noncomputable def upd(H:Hp)(a:Addr)(o:HO):Hp:=fun b=>if b=a then some o else H b
theorem upd_same{H:Hp}{a:Addr}{o:HO}:upd H a o a=some o:=by unfold upd;rw[if_pos rfl]
theorem upd_ne{H:Hp}{a b:Addr}{o:HO}(h:b≠a):upd H a o b=H b:=by unfold upd;rw[if_neg h]
theorem upd_upd{H:Hp}{a:Addr}{o u:HO}:upd (upd H a o) a u=upd H a u:=by
 funext b;unfold upd;split<;>rfl
theorem ne_of{H:Hp}{a b:Addr}{o u:HO}(h:H a=some o)(h':H b=some u)(d:o≠u):a≠b:=by
 intro e;subst e;rw[h] at h';exact d (Option.some.inj h')
theorem ne_of_none{H:Hp}{a b:Addr}{o:HO}(h:H a=some o)(h':H b=none):a≠b:=by
 intro e;subst e;rw[h] at h';cases h'
section
variable (P:Program)(w:World)
noncomputable def ObjOk(H:Hp)(h:Heap)(a:Addr):HO->Prop
 | .lst xs=>xs.length<=sizeLine/\∃ (its:List Value) (n:Nat),Vals xs its/\h.get? a=some {cls:=.type "list",data:=.seq its.toArray n}
 | .tup xs=>xs.length<=sizeLine/\∃ its:List Value,Vals xs its/\IsTup h a its.toArray
 | .dK kvs=>kvs.length<=sizeLine/\(a == sysModules)=false/\∃ vs,KV kvs vs/\h.DictOf (mixKind P w) a vs
 | .dT kvs=>kvs.length<=sizeLine/\(a == sysModules)=false/\∃ xs:List (List Key × Addr × Value),
  Paired (fun(p:List Key × V) (q:List Key × Addr × Value)=>p.1=q.1/\H q.2.1=some (.tup (p.1.map kV))/\RelV p.2 q.2.2) kvs xs ∧
  ∃ o es ep,h.get? a=some o/\o.ExactDict/\o.data = .dict es ep/\es.toList=xs.map (entryOfKey (tupleKind (mixKind P w)))/\(xs.map (·.1)).Nodup
 | .set S n=>h.SetOf (intKind P w) a S n
 | .ins C dx fs=>H dx=some (.own a)/\fs.length<=1000/\dx≠a/\h.get? a=some (PySem.W.instObj C dx) ∧
  ∃ mA,h.Ns1 dx mA/\(∀ f,RelO (fs.lookup f) (mA f))/\PySem.Within mA (fs.map (·.1))
 | .own _=>∃ o,h.get? a=some o
 | .xd fs=>∃ mA,h.Ns1 a mA/\∀ f,RelO (fs.lookup f) (mA f)
 | .rng lo hi=>∃ t u v,h.get? a=some {cls:=.type "range",data:=.fields #[.int lo t,.int hi u,.int 1 v]}
 | .frz o u=>h.get? a=some o/\ObjOk H h a u
 | .tbl ps=>h.get? a=some {cls:=.none,data:=.fields ps}
 | .met f x=>h.get? a=some (PySem.W.methodObj (.ref f) (.ref x))
 | .ext φ=>φ h/\(∃ o,h.get? a=some o)/\∀ h1 h2:Heap,φ h1->(∀ o,h1.get? a=some o->h2.get? a=some o)->φ h2
noncomputable def HOk(H:Hp)(h:Heap):Prop:=∀ a o,H a=some o->ObjOk P w H h a o
end
section
variable {P:Program}{w:World}{H H':Hp}{h h':Heap}{a:Addr}{o:HO}
theorem ObjOk.lt(x:ObjOk P w H h a o):a<h.objs.size:=by
 cases o with
 |lst xs=>obtain⟨_,_,_,_,e⟩:=x;exact Heap.lt_size e
 |tup xs=>obtain⟨_,_,_,p⟩:=x;exact p.lt
 |dK kvs=>obtain⟨_,_,_,_,o,_,_,e,_⟩:=x;exact Heap.lt_size e
 |dT kvs=>obtain⟨_,_,_,_,o,_,_,e,_⟩:=x;exact Heap.lt_size e
 |set S n=>obtain⟨o,_,_,_,e,_⟩:=x;exact Heap.lt_size e
 |ins C dx fs=>obtain⟨_,_,_,e,_⟩:=x;exact Heap.lt_size e
 |own y=>obtain⟨_,e⟩:=x;exact Heap.lt_size e
 |xd fs=>obtain⟨_,⟨_,_,_,e,_⟩,_⟩:=x;exact Heap.lt_size e
 |rng lo hi=>obtain⟨_,_,_,e⟩:=x;exact Heap.lt_size e
 |frz ob u=>obtain⟨e,_⟩:=x;exact Heap.lt_size e
 |tbl ps=>exact Heap.lt_size (show h.get? a=some _ from x)
 |met f y=>exact Heap.lt_size (show h.get? a=some _ from x)
 |ext φ=>obtain⟨_,⟨_,e⟩,_⟩:=x;exact Heap.lt_size e
theorem Paired.mapP{α β:Type}{F G:α->β->Prop}:∀ {l₁:List α} {l₂:List β},Paired F l₁ l₂->(∀ a b,F a b->G a b)->Paired G l₁ l₂
 |_,_,.nil,_=>.nil
 |_,_,.cons r t,f=>.cons (f _ _ r) (Paired.mapP t f)
theorem ObjOk.stay(x:ObjOk P w H h a o)(k:∀ b u,(b=a\/H b=some (.own a))->h.get? b=some u->h'.get? b=some u)
 (ho:∀ b,H b=some (.own a)->H' b=some (.own a)) (ht:∀ b xs,H b=some (.tup xs)->H' b=some (.tup xs)):ObjOk P w H' h' a o:=by
 induction o with
 |lst xs=>obtain⟨z,its,n,r,e⟩:=x;exact⟨z,its,n,r,k _ _ (.inl rfl) e⟩
 |tup xs=>obtain⟨z,its,r,ob,e,c⟩:=x;exact⟨z,its,r,ob,k _ _ (.inl rfl) e,c⟩
 |dK kvs=>obtain⟨z,y,vs,r,ob,es,ep,e,c⟩:=x;exact⟨z,y,vs,r,ob,es,ep,k _ _ (.inl rfl) e,c⟩
 |dT kvs =>
  obtain⟨z,y,xs,r,ob,es,ep,e,c⟩:=x
  exact⟨z,y,xs,Paired.mapP r fun p q z=>⟨z.1,ht _ _ z.2.1,z.2.2⟩,ob,es,ep,k _ _ (.inl rfl) e,c⟩
 |set S n=>obtain⟨ob,es,ep,t,e,c⟩:=x;exact⟨ob,es,ep,t,k _ _ (.inl rfl) e,c⟩
 |ins C dx fs =>
  obtain⟨d,z,ne,e,mA,⟨od,es,ep,e2,c⟩,r⟩:=x
  exact⟨ho _ d,z,ne,k _ _ (.inl rfl) e,mA,⟨od,es,ep,k _ _ (.inr d) e2,c⟩,r⟩
 |own y=>obtain⟨ob,e⟩:=x;exact⟨ob,k _ _ (.inl rfl) e⟩
 |xd fs=>obtain⟨mA,⟨od,es,ep,e,c⟩,r⟩:=x;exact⟨mA,⟨od,es,ep,k _ _ (.inl rfl) e,c⟩,r⟩
 |rng lo hi=>obtain⟨t,u,v,e⟩:=x;exact⟨t,u,v,k _ _ (.inl rfl) e⟩
 |frz ob u ih=>obtain⟨e,q⟩:=x;exact⟨k _ _ (.inl rfl) e,ih q⟩
 |tbl ps =>
  have e:h.get? a=some {cls:=.none,data:=.fields ps}:=x
  show h'.get? a=some {cls:=.none,data:=.fields ps}
  exact k a _ (.inl rfl) e
 |met f y =>
  have e:h.get? a=some (PySem.W.methodObj (.ref f) (.ref y)):=x
  show h'.get? a=some (PySem.W.methodObj (.ref f) (.ref y))
  exact k a _ (.inl rfl) e
 |ext φ=>obtain⟨p,⟨o,e⟩,st⟩:=x;exact⟨st _ _ p fun o q=>k _ _ (.inl rfl) q,⟨o,k _ _ (.inl rfl) e⟩,st⟩
theorem HOk.lt(x:HOk P w H h)(e:H a=some o):a<h.objs.size:=(x a o e).lt
theorem HOk.fresh(x:HOk P w H h)(e:h.objs.size<=a):H a=none:=by
 cases q:H a with
 |none=>rfl
 |some u=>exact absurd (Nat.lt_of_lt_of_le (x.lt q) e) (Nat.lt_irrefl _)
theorem HOk.kept(x:HOk P w H h)(k:∀ b u,h.get? b=some u->h'.get? b=some u):HOk P w H h':=fun a o e =>
 (x a o e).stay (fun b u _ q=>k b u q) (fun _ q=>q) fun _ _ q=>q
theorem HOk.laid(x:HOk P w H h)(k:∀ b u,h.get? b=some u->h'.get? b=some u)(hp:h.objs.size<=a)(new:ObjOk P w (upd H a o) h' a o):HOk P w (upd H a o) h':=fun b u e=>by
 have hn:=x.fresh hp
 by_cases hb:b=a
 ·subst hb;rw[upd_same] at e;cases e;exact new
 ·rw[upd_ne hb] at e
  exact(x b u e).stay (fun c v _ q=>k c v q) (fun c q=>by rw[upd_ne (ne_of_none q hn)];exact q) fun c xs q=>by rw[upd_ne (ne_of_none q hn)];exact q
end
noncomputable def Rd(H:Hp)(a:Addr)(u:HO):Prop:=H a=some u\/∃ o,H a=some (.frz o u)
theorem Rd.of{H:Hp}{a:Addr}{u:HO}(h:H a=some u):Rd H a u:=.inl h
theorem Rd.ok{P:Program}{w:World}{H:Hp}{h:Heap}{a:Addr}{u:HO}(r:Rd H a u)(x:HOk P w H h):ObjOk P w H h a u:=by
 rcases r with r | ⟨o,r⟩
 ·exact x a u r
 ·obtain⟨_,q⟩:=x a _ r
  exact q
noncomputable def Mut:Option HO->Prop
 |some (.lst _)=>True
 |some (.dK _)=>True
 |some (.dT _)=>True
 |some (.set _ _)=>True
 |some (.ins _ _ _)=>True
 |some (.ext _)=>True
 |_=>False
section
variable {P:Program}{w:World}{H:Hp}{h h':Heap}{x e:Addr}{o':HO}
theorem HOk.write(ok:HOk P w H h)(mu:Mut (H x))(he:e=x\/H e=some (.own x))(k:∀ b u,b≠e->h.get? b=some u->h'.get? b=some u)(heo:∃ u,h'.get? e=some u)
 (new:ObjOk P w (upd H x o') h' x o'):HOk P w (upd H x o') h':=fun b u q=>by
 have nown:∀ c y,H c=some (.own y)->c≠x:=fun c y r z=>by subst z;rw[r] at mu;exact mu
 have ntup:∀ c xs,H c=some (.tup xs)->c≠x:=fun c xs r z=>by subst z;rw[r] at mu;exact mu
 by_cases hb:b=x
 ·subst hb;rw[upd_same] at q;cases q;exact new
 ·rw[upd_ne hb] at q
  by_cases hbe:b=e
  ·have q':H b=some (.own x):=by
    rcases he with z|z
    ·exact absurd (hbe.trans z) hb
    ·rw[hbe];exact z
   rw[q] at q';cases q'
   obtain⟨v,hv⟩:=heo
   exact⟨v,by rw[hbe];exact hv⟩
  ·refine(ok b u q).stay (fun c v hc r=>k c v ?_ r) (fun c r=>by rw[upd_ne (nown c b r)];exact r) fun c xs r=>by rw[upd_ne (ntup c xs r)];exact r
   rcases hc with rfl|hc
   ·exact hbe
   ·rintro rfl
    rcases he with z|z
    ·exact nown c b hc z
    ·rw[hc] at z;cases z;exact hb rfl
end
structure Un(fs ex:List Addr)(H H':Hp)(h h':Heap):Prop where
 keep:∀ b o,h.get? b=some o->H b=none->b∉fs->b∉ex->h'.get? b=some o
 slot:∀ b o,h.get? b=some o->H b=none->b∈fs->b∉ex->∃ sl,h'.get? b=some {o with slots:=sl}
 free:∀ b o,h.get? b=some o->H b=none->b∉ex->H' b=none
 there:∀ b o,h.get? b=some o->b∉ex->∃ o',h'.get? b=some o'
 tups:∀ b xs,H b=some (.tup xs)->H' b=some (.tup xs)
 frzs:∀ b o u,H b=some (.frz o u)->H' b=some (.frz o u)
 tbls:∀ b ps,H b=some (.tbl ps)->∃ more,H' b=some (.tbl (ps++more))
section
variable {fs fs' ex ex':List Addr}{H H1 H2:Hp}{h h1 h2 h':Heap}{a x e:Addr}{o:HO}
theorem Un.any(u:Un fs ex H H1 h h1){b:Addr}{ob:Obj}(q:h.get? b=some ob)(n:H b=none)(hx:b∉ex):∃ sl,h1.get? b=some {ob with slots:=sl}:=by
 by_cases hb:b∈fs
 ·exact u.slot b ob q n hb hx
 ·exact⟨ob.slots,u.keep b ob q n hb hx⟩
theorem Un.trans(a:Un fs ex H H1 h h1)(b:Un fs ex H1 H2 h1 h2):Un fs ex H H2 h h2 where
 keep:=fun c ob q n hc hx=>b.keep c ob (a.keep c ob q n hc hx) (a.free c ob q n hx) hc hx
 slot:=fun c ob q n hc hx=>by
  obtain⟨sl,e1⟩:=a.slot c ob q n hc hx
  obtain⟨sl',e2⟩:=b.slot c _ e1 (a.free c ob q n hx) hc hx
  exact⟨sl',e2⟩
 free:=fun c ob q n hx=>by
  obtain⟨o',e1⟩:=a.there c ob q hx
  exact b.free c o' e1 (a.free c ob q n hx) hx
 there:=fun c ob q hx=>by
  obtain⟨o',e1⟩:=a.there c ob q hx
  exact b.there c o' e1 hx
 tups:=fun c xs q=>b.tups c xs (a.tups c xs q)
 frzs:=fun c ob xs q=>b.frzs c ob xs (a.frzs c ob xs q)
 tbls:=fun c ps q=>by
  obtain⟨m1,e1⟩:=a.tbls c ps q
  obtain⟨m2,e2⟩:=b.tbls c _ e1
  exact⟨m1++m2,by rw[e2,Array.append_assoc]⟩
theorem Un.kept(k:∀ b u,h.get? b=some u->h'.get? b=some u):Un fs ex H H h h' :=
 ⟨fun b ob q _ _ _=>k b ob q,fun b ob q _ _ _=>⟨ob.slots,k b ob q⟩,fun _ _ _ n _=>n,fun b ob q _=>⟨ob,k b ob q⟩,fun _ _ q=>q,fun _ _ _ q=>q,fun _ ps q=>⟨#[],by rw[q];simp⟩⟩
theorem Un.refl:Un fs ex H H h h:=Un.kept fun _ _ q=>q
theorem Un.laid(k:∀ b u,h.get? b=some u->h'.get? b=some u)(hp:h.objs.size<=a)(hn:H a=none):Un fs ex H (upd H a o) h h' where
 keep:=fun b u q _ _ _=>k b u q
 slot:=fun b u q _ _ _=>⟨u.slots,k b u q⟩
 free:=fun b u q n _=>by rw[upd_ne (Nat.ne_of_lt (Nat.lt_of_lt_of_le (Heap.lt_size q) hp))];exact n
 there:=fun b u q _=>⟨u,k b u q⟩
 tups:=fun b xs q=>by rw[upd_ne (ne_of_none q hn)];exact q
 frzs:=fun b u xs q=>by rw[upd_ne (ne_of_none q hn)];exact q
 tbls:=fun b ps q=>⟨#[],by rw[upd_ne (ne_of_none q hn),q];simp⟩
theorem Un.write(mu:Mut (H x))(he:e=x\/H e=some (.own x))(k:∀ b u,b≠e->h.get? b=some u->h'.get? b=some u)(heo:∃ u,h'.get? e=some u):Un fs ex H (upd H x o) h h':=by
 have hx:∀ b,H b=none->b≠x:=fun b n z=>by subst z;rw[n] at mu;exact mu
 have hb:∀ b,H b=none->b≠e:=fun b n z=>by
  subst z
  rcases he with r|r
  ·exact hx b n r
  ·rw[n] at r;cases r
 have hm:∀ b u,H b=some u->¬ Mut (some u)->b≠x:=fun b u q nm z=>by subst z;rw[q] at mu;exact nm mu
 refine⟨fun b u q n _ _=>k b u (hb b n) q,fun b u q n _ _=>⟨u.slots,k b u (hb b n) q⟩,fun b u q n _=>by rw[upd_ne (hx b n)];exact n,fun b u q _ => ?_,
  fun b xs q=>by rw[upd_ne (hm b _ q fun z=>z)];exact q,fun b u xs q=>by rw[upd_ne (hm b _ q fun z=>z)];exact q,fun b ps q=>⟨#[],by rw[upd_ne (hm b _ q fun z=>z),q];simp⟩⟩
 by_cases hbe:b=e
 ·subst hbe;exact heo
 ·exact⟨u,k b u hbe q⟩
theorem Un.mono(u:Un fs ex H H1 h h1)(hs:∀ b∈fs,b∈fs')(hx:∀ b∈ex,b∈ex'):Un fs' ex' H H1 h h1 :=
 ⟨fun b ob q n hb he=>u.keep b ob q n (fun z=>hb (hs b z)) fun z=>he (hx b z),fun _ _ q n _ he=>u.any q n fun z=>he (hx _ z),fun b ob q n he=>u.free b ob q n fun z=>he (hx b z),fun b ob q he=>u.there b ob q fun z=>he (hx b z),u.tups,u.frzs,u.tbls⟩
end
noncomputable def trk(h:Heap)(H:Hp):List Addr:=(List.range h.objs.size).filter fun a=>(H a).isSome
noncomputable def hidT(h:Heap)(H:Hp):Heap:=PySem.W.hideAll h (trk h H)
theorem hidT_size(h:Heap)(H:Hp):(hidT h H).objs.size=h.objs.size:=PySem.W.hideAll_size _ _
theorem hidT_get{h:Heap}{H:Hp}{b:Addr}{o:Obj}(e:h.get? b=some o)(n:H b=none):(hidT h H).get? b=some o :=
 PySem.W.hideAll_get _ e fun hm=>by
  have q:(H b).isSome=true:=(List.mem_filter.mp hm).2
  rw[n] at q;simp at q
theorem of_hidT{h:Heap}{H:Hp}{b:Addr}{o:Obj}(e:(hidT h H).get? b=some o):h.get? b=some o/\H b=none:=by
 have e':h.get? b=some o:=PySem.W.of_hideAll (trk h H) e
 refine⟨e',?_⟩
 cases q:H b with
 |none=>rfl
 |some x =>
  have hm:b∈trk h H:=List.mem_filter.mpr ⟨List.mem_range.mpr (Heap.lt_size e'),by simp[q]⟩
  have z:(hidT h H).get? b=none:=PySem.W.hideAll_none (trk h H) hm
  rw[z] at e;cases e
noncomputable def allNews(g h:Heap)(L:Addr):List (Addr × Obj):=(List.range h.objs.size).filterMap fun a=>if a=L\/(g.get? a).isSome=true then none else (h.get? a).map fun o=>(a,o)
noncomputable def rest(g h:Heap)(L d:Addr):List (Addr × Obj):=(allNews g h L).filter fun p=>decide (p.1≠d)
end L2
namespace L2
open PySem PySem.Spec PyProof.Rows
structure Mod(K:PySem.W.Frag)(mg:Str->Option Value)(base:Heap):Prop where
 kin:K.In base
 glob:base.Ns mainGlobals mg
 blt:∃ mb,base.Ns builtinsNs mb/\∀ x:Str,x ≠ "__name__"->mb x=bootBuiltins x
 nolimit:base.NoLimit
structure Cx where
 prog:Program
 w:World
 K:PySem.W.Frag
 mg:Str->Option Value
 base:Heap
 A:Around
 N:List Str
 s₀:Shared
 H₀:Hp
 env:Env
 outer:List Env
 stack:List Env
 ex:List Addr
 fn:Str->Bool
 calm:Bool
 pn:List (Addr × Obj)
 xe:Value->Shared->Prop
noncomputable def frs(l:List Env):List Addr:=l.filterMap (·.frame)
noncomputable abbrev Cx.fs(X:Cx):List Addr:=frs X.outer
noncomputable def Vis(sc:Scope)(x:Str):Prop:=sc.names.lookup x=some .local\/sc.names.lookup x=some .cell\/sc.names.lookup x=some .free
noncomputable def Loc(sc:Scope)(x:Str):Prop:=sc.names.lookup x=some .local\/sc.names.lookup x=some .cell
noncomputable def Look(env:Env)(h:Heap)(m:Str->Option Value)(x:Str)(u:Value):Prop :=
 (env.kindOf x=some .local/\m x=some u)\/((env.kindOf x=some .cell\/env.kindOf x=some .free)/\∃ c,env.cells.lookup x=some c/\h.IsCell c (some u))
structure Cx.Ok(X:Cx):Prop where
 mod:Mod X.K X.mg X.base
 kind:X.env.scope.kind = .function
 glob:X.env.globals=mainGlobals
 blt:X.env.builtins=builtinsNs
 above:X.s₀.heap.objs.size<=X.env.locals
 inj:∀ x y c,X.env.cells.lookup x=some c->X.env.cells.lookup y=some c->x=y
 has:∀ x,(X.env.kindOf x=some .cell\/X.env.kindOf x=some .free)->∃ c,X.env.cells.lookup x=some c
 cab:∀ x c,X.fn x=true->X.env.cells.lookup x=some c->X.s₀.heap.objs.size<=c
 hd:X.calm=true->X.A.handled=none
 frames:X.A.frames=some X.stack
 stk:X.stack=X.outer\/(X.stack=X.env::X.outer/\X.env.frame=some X.env.locals)
 exf:∀ b∈X.ex,b≠X.env.locals/\∀ x c,X.env.cells.lookup x=some c->c≠b
 bs:∀ b o,X.base.get? b=some o->X.s₀.heap.get? b=some o/\X.H₀ b=none
 bsz:X.base.objs.size<=X.s₀.heap.objs.size
 noex:∀ b o,X.base.get? b=some o->b∉X.ex
 exfs:∀ b∈X.ex,b∉X.fs
 funs:X.s₀.heap.FunFrames X.base X.outer
 frf:∀ b∈X.fs,X.H₀ b=none
structure Inv(X:Cx)(pins:List (Addr × Obj))(σ:List (Option V))(H:Hp)(s:Shared):Prop where
 ok:X.Ok
 os:s.os=X.s₀.os
 bare:AllBare s.gens
 base:Un X.fs X.ex X.H₀ H X.s₀.heap s.heap
 loc:∃ m,s.heap.Ns X.env.locals m/\∀ (i:Nat) (x:Str) (v:V),X.N[i]?=some x->σ[i]?=some (some v)->Vis X.env.scope x->∃ u,RelV v u/\Look X.env s.heap m x u
 cell:∀ x c,X.env.cells.lookup x=some c->∃ v,s.heap.IsCell c v
 free:H X.env.locals=none
 freeC:∀ x c,X.env.cells.lookup x=some c->H c=none
 pin:∀ p∈X.pn++pins,s.heap.get? p.1=some p.2/\H p.1=none/\p.1≠X.env.locals/\p.1∉X.fs/\∀ v,p.2.data ≠ .cell v
 hok:HOk X.prog X.w H s.heap
 len:σ.length=X.N.length
section
variable {X:Cx}{pins:List (Addr × Obj)}{σ:List (Option V)}{H H':Hp}{s:Shared}{h':Heap}
theorem Cx.Ok.nofr(ok:X.Ok){b:Addr}{o:Obj}(e:X.base.get? b=some o):b∉X.fs:=fun hb=>by
 have:=(ok.funs.mem hb).1
 rw[e] at this;cases this
theorem Inv.bs(I:Inv X pins σ H s):∀ b o,X.base.get? b=some o->s.heap.get? b=some o/\H b=none:=fun b o e =>
 ⟨I.base.keep b o (I.ok.bs b o e).1 (I.ok.bs b o e).2 (I.ok.nofr e) (I.ok.noex b o e),I.base.free b o (I.ok.bs b o e).1 (I.ok.bs b o e).2 (I.ok.noex b o e)⟩
theorem Inv.bk(I:Inv X pins σ H s):∀ b o,X.base.get? b=some o->s.heap.get? b=some o:=fun b o e=>(I.bs b o e).1
theorem Inv.mod(I:Inv X pins σ H s):Mod X.K X.mg X.base:=I.ok.mod
theorem Inv.kIn(I:Inv X pins σ H s):X.K.In s.heap:=I.ok.mod.kin.keeps I.bk
theorem Inv.nolimit(I:Inv X pins σ H s):s.heap.NoLimit:=I.ok.mod.nolimit.keeps I.bk
theorem Inv.fr(I:Inv X pins σ H s):∃ m,Fr X.base X.env.locals s.heap m :=
 let ⟨m,hn,_⟩:=I.loc
 ⟨m,hn,I.bk,Nat.le_trans I.ok.bsz I.ok.above⟩
theorem Inv.lt(I:Inv X pins σ H s):X.env.locals<s.heap.objs.size:=let ⟨_,hn,_⟩:=I.loc;hn.lt
theorem Inv.sz(I:Inv X pins σ H s):X.s₀.heap.objs.size<=s.heap.objs.size:=Nat.le_trans I.ok.above (Nat.le_of_lt I.lt)
theorem Inv.nofs(I:Inv X pins σ H s){a:Addr}(h:s.heap.objs.size<=a):a∉X.fs:=fun hb=>by
 obtain⟨_,o,ho,_⟩:=I.ok.funs.mem hb
 exact absurd (Nat.lt_of_lt_of_le (Heap.lt_size ho) (Nat.le_trans I.sz h)) (Nat.lt_irrefl _)
theorem Inv.cne(I:Inv X pins σ H s):∀ x c,X.env.cells.lookup x=some c->c≠X.env.locals:=fun x c e z=>by
 obtain⟨v,o,ho,hd⟩:=I.cell x c e
 obtain⟨m,⟨o',es,ep,ho',hd',_⟩,_⟩:=I.loc
 rw[z,ho'] at ho;cases ho;rw[hd'] at hd;cases hd
theorem Inv.funs(I:Inv X pins σ H s):s.heap.FunFrames X.base X.outer:=by
 have all:∀ (l:List Env),(∀ b∈frs l,b∈X.fs)->X.s₀.heap.FunFrames X.base l->s.heap.FunFrames X.base l:=by
  intro l
  induction l with
  |nil=>intro _ _;trivial
  |cons env r ih =>
   intro hs hl
   obtain⟨hk,⟨L,o,hf,hn,ho,hd⟩,hr⟩:=hl
   have hL:L∈X.fs:=hs L (by unfold frs;rw[List.filterMap_cons,hf];exact List.mem_cons_self)
   obtain⟨sl,e⟩:=I.base.slot L o ho (I.ok.frf L hL) hL fun z=>I.ok.exfs L z hL
   exact⟨hk,⟨L,_,hf,hn,e,hd⟩,ih (fun b hb=>hs b (by unfold frs;rw[List.filterMap_cons,hf];exact List.mem_cons_of_mem _ hb)) hr⟩
 exact all X.outer (fun _ hb=>hb) I.ok.funs
theorem Inv.stack(I:Inv X pins σ H s):s.heap.FunFrames X.base X.stack:=by
 rcases I.ok.stk with e | ⟨e,hf⟩
 ·rw[e];exact I.funs
 ·rw[e]
  obtain⟨m,hn,_⟩:=I.loc
  refine .cons (by rw[I.ok.kind];decide) hf hn ?_ I.funs
  exact Heap.get?_none_of_le (Nat.le_trans I.ok.bsz I.ok.above)
theorem Inv.stkSub(I:Inv X pins σ H s):∀ b∈frs X.stack,b∈X.env.locals::X.fs:=fun b hb=>by
 rcases I.ok.stk with e | ⟨e,hf⟩
 ·rw[e] at hb;exact List.mem_cons_of_mem _ hb
 ·rw[e] at hb
  unfold frs at hb
  rw[List.filterMap_cons,hf] at hb
  exact hb
theorem Inv.stkFree(I:Inv X pins σ H s):∀ b∈frs X.stack,H b=none:=fun b hb=>by
 rcases List.mem_cons.mp (I.stkSub b hb) with e|hb
 ·rw[e];exact I.free
 ·obtain⟨_,o,ho,_⟩:=I.ok.funs.mem hb
  exact I.base.free b o ho (I.ok.frf b hb) fun z=>I.ok.exfs b z hb
theorem Inv.step{g':Array GenState}{t':Nat}{d':Drawn}{ch:List Addr}(I:Inv X pins σ H s)
 (hch:∀ b∈ch,(b∈X.ex\/X.s₀.heap.get? b=none)/\b≠X.env.locals/\(∀ x c,X.env.cells.lookup x=some c->c≠b)/\∀ p∈X.pn++pins,p.1≠b)
 (keep:∀ b o,b≠X.env.locals->b∉X.fs->b∉ch->s.heap.get? b=some o->H b=none->h'.get? b=some o)
 (slot:∀ b o,b≠X.env.locals->b∈X.fs->b∉ch->s.heap.get? b=some o->H b=none->∃ sl,h'.get? b=some {o with slots:=sl}) (free:∀ b o,b∉ch->s.heap.get? b=some o->H b=none->H' b=none)
 (there:∀ b o,b∉ch->s.heap.get? b=some o->∃ o',h'.get? b=some o')
 (tups:∀ b xs,H b=some (.tup xs)->H' b=some (.tup xs)) (frzs:∀ b o u,H b=some (.frz o u)->H' b=some (.frz o u)) (tbls:∀ b ps,H b=some (.tbl ps)->∃ more,H' b=some (.tbl (ps++more)))
 (ns:∀ m,s.heap.Ns X.env.locals m->h'.Ns X.env.locals m) (hok:HOk X.prog X.w H' h') (hg:AllBare g') :
 Inv X pins σ H' {s with heap:=h',gens:=g',drawn:=d',toks:=t'}:=by
 have neL:∀ b o,X.s₀.heap.get? b=some o->b≠X.env.locals:=fun b o e=>Nat.ne_of_lt (Nat.lt_of_lt_of_le (Heap.lt_size e) I.ok.above)
 have neC:∀ b o,X.s₀.heap.get? b=some o->b∉X.ex->b∉ch:=fun b o e hx hb=>by
  rcases(hch b hb).1 with z|z
  ·exact hx z
  ·rw[e] at z;cases z
 have cellK:∀ x c,X.env.cells.lookup x=some c->∀ v,s.heap.IsCell c v->h'.IsCell c v:=fun x c e v ⟨o,ho,hd⟩=>by
  have nch:c∉ch:=fun z=>(hch c z).2.2.1 x c e rfl
  by_cases hc:c∈X.fs
  ·obtain⟨sl,q⟩:=slot c o (I.cne x c e) hc nch ho (I.freeC x c e)
   exact⟨_,q,hd⟩
  ·exact⟨o,keep c o (I.cne x c e) hc nch ho (I.freeC x c e),hd⟩
 refine⟨I.ok,I.os,hg,⟨fun b o e n hb hx => ?_,fun b o e n hb hx => ?_,fun b o e n hx => ?_,fun b o e hx => ?_,fun b xs e=>tups b xs (I.base.tups b xs e),fun b o xs e=>frzs b o xs (I.base.frzs b o xs e),fun b ps e => ?_⟩,?_,fun x c e => ?_,?_,fun x c e => ?_,fun p hp => ?_,hok,I.len⟩
 ·exact keep b o (neL b o e) hb (neC b o e hx) (I.base.keep b o e n hb hx) (I.base.free b o e n hx)
 ·obtain⟨sl,e1⟩:=I.base.slot b o e n hb hx
  obtain⟨sl',e2⟩:=slot b _ (neL b o e) hb (neC b o e hx) e1 (I.base.free b o e n hx)
  exact⟨sl',e2⟩
 ·obtain⟨o',e1⟩:=I.base.there b o e hx
  exact free b o' (neC b o e hx) e1 (I.base.free b o e n hx)
 ·obtain⟨o',e1⟩:=I.base.there b o e hx
  exact there b o' (neC b o e hx) e1
 ·obtain⟨m1,e1⟩:=I.base.tbls b ps e
  obtain⟨m2,e2⟩:=tbls b _ e1
  exact⟨m1++m2,by rw[e2,Array.append_assoc]⟩
 ·obtain⟨m,hn,hl⟩:=I.loc
  refine⟨m,ns m hn,fun i x v e1 e2 e3 => ?_⟩
  obtain⟨u,r,l⟩:=hl i x v e1 e2 e3
  refine⟨u,r,?_⟩
  rcases l with l | ⟨k,c,e,z⟩
  ·exact .inl l
  ·exact .inr ⟨k,c,e,cellK x c e _ z⟩
 ·obtain⟨v,z⟩:=I.cell x c e
  exact⟨v,cellK x c e v z⟩
 ·obtain⟨m,⟨o,_,_,ho,_⟩,_⟩:=I.loc
  exact free _ o (fun z=>(hch _ z).2.1 rfl) ho I.free
 ·obtain⟨v,o,ho,hd⟩:=I.cell x c e
  exact free c o (fun z=>(hch c z).2.2.1 x c e rfl) ho (I.freeC x c e)
 ·obtain⟨e,n,ne,nf,d⟩:=I.pin p hp
  have nch:p.1∉ch:=fun z=>(hch p.1 z).2.2.2 p hp rfl
  exact⟨keep p.1 p.2 ne nf nch e n,free p.1 p.2 nch e n,ne,nf,d⟩
theorem Inv.un{t':Nat}(I:Inv X pins σ H s)(u:Un X.fs [] H H' s.heap h')(hok:HOk X.prog X.w H' h'):Inv X pins σ H' {s with heap:=h',toks:=t'}:=by
 obtain⟨m,⟨o,es,ep,ho,r⟩,_⟩:=id I.loc
 obtain⟨sl,hL⟩:=u.any ho I.free (by simp)
 exact I.step (g':=s.gens) (d':=s.drawn) (ch:=[]) (fun _ z=>nomatch z) (fun b o _ hb _ e n=>u.keep b o e n hb (by simp)) (fun b o _ hb _ e n=>u.slot b o e n hb (by simp)) (fun b o _ e n=>u.free b o e n (by simp)) (fun b o _ e=>u.there b o e (by simp)) u.tups u.frzs u.tbls (fun m' hm=>by
  obtain⟨o',es',ep',ho',r'⟩:=hm
  rw[ho] at ho';cases ho'
  exact⟨_,es',ep',hL,r'⟩) hok I.bare
theorem Inv.call{g':Array GenState}{t':Nat}{d':Drawn}{ch:List Addr}(I:Inv X pins σ H s)(u:Un (frs X.stack) ch H H' s.heap h')(hok:HOk X.prog X.w H' h')(hg:AllBare g')
 (hch:∀ b∈ch,(b∈X.ex\/X.s₀.heap.get? b=none)/\b≠X.env.locals/\(∀ x c,X.env.cells.lookup x=some c->c≠b)/\∀ p∈X.pn++pins,p.1≠b) :
 Inv X pins σ H' {s with heap:=h',gens:=g',drawn:=d',toks:=t'}:=by
 obtain⟨m,⟨o,es,ep,ho,r⟩,_⟩:=id I.loc
 obtain⟨sl,hL⟩:=u.any ho I.free fun z=>(hch _ z).2.1 rfl
 exact I.step (ch:=ch) hch (fun b o hL hb hc e n=>u.keep b o e n (fun z=>(List.mem_cons.mp (I.stkSub b z)).elim hL hb) hc) (fun b o _ _ hc e n=>u.any e n hc) (fun b o hc e n=>u.free b o e n hc) (fun b o hc e=>u.there b o e hc) u.tups u.frzs u.tbls (fun m' hm=>by
  obtain⟨o',es',ep',ho',r'⟩:=hm
  rw[ho] at ho';cases ho'
  exact⟨_,es',ep',hL,r'⟩) hok hg
theorem Inv.turned{t':Nat}{it:Addr}(I:Inv X pins σ H s)(k:∀ b o,b≠it->s.heap.get? b=some o->h'.get? b=some o)(hn:H it=none)(hL:it≠X.env.locals)
 (h1:it∈X.ex\/X.s₀.heap.objs.size<=it) (h2:∀ x c,X.env.cells.lookup x=some c->c≠it) (h3:∀ p∈X.pn++pins,p.1≠it):Inv X pins σ H {s with heap:=h',toks:=t'}:=by
 have nit:∀ b u,H b=some u->b≠it:=fun b u e z=>by rw[z,hn] at e;cases e
 refine I.step (g':=s.gens) (d':=s.drawn) (ch:=[it]) (fun b hb => ?_) (fun b o _ _ hc e _=>k b o (fun z=>hc (by simp[z])) e) (fun b o _ _ hc e _=>⟨o.slots,k b o (fun z=>hc (by simp[z])) e⟩) (fun _ _ _ _ n=>n)
  (fun b o hc e=>⟨o,k b o (fun z=>hc (by simp[z])) e⟩) (fun _ _ e=>e) (fun _ _ _ e=>e) (fun b ps e=>⟨#[],by rw[e];simp⟩) (fun m hm => ?_) (fun b u e => ?_) I.bare
 ·have e:b=it:=by simpa using hb
  subst e
  exact⟨h1.imp id Heap.get?_none_of_le,hL,h2,h3⟩
 ·obtain⟨o,es,ep,ho,r⟩:=hm
  exact⟨o,es,ep,k _ o (Ne.symm hL) ho,r⟩
 ·refine(I.hok b u e).stay (fun c v hc q=>k c v ?_ q) (fun _ q=>q) fun _ _ q=>q
  rcases hc with z|z
  ·rw[z];exact nit b u e
  ·exact nit c _ z
theorem Inv.tok(I:Inv X pins σ H s)(t:Nat):Inv X pins σ H {s with toks:=t}:=I.un (h':=s.heap) (t':=t) Un.refl I.hok
theorem Inv.kept{t':Nat}(I:Inv X pins σ H s)(k:∀ b u,s.heap.get? b=some u->h'.get? b=some u):Inv X pins σ H {s with heap:=h',toks:=t'}:=I.un (Un.kept k) (I.hok.kept k)
theorem Inv.laid{a:Addr}{o:HO}{t':Nat}(I:Inv X pins σ H s)(k:∀ b u,s.heap.get? b=some u->h'.get? b=some u)(hp:s.heap.objs.size<=a)(new:ObjOk X.prog X.w (upd H a o) h' a o) :
 Inv X pins σ (upd H a o) {s with heap:=h',toks:=t'}:=I.un (Un.laid k hp (I.hok.fresh hp)) (I.hok.laid k hp new)
theorem Inv.write{x e:Addr}{o:HO}{t':Nat}(I:Inv X pins σ H s)(mu:Mut (H x))(he:e=x\/H e=some (.own x))(k:∀ b u,b≠e->s.heap.get? b=some u->h'.get? b=some u)(heo:∃ u,h'.get? e=some u)
 (new:ObjOk X.prog X.w (upd H x o) h' x o):Inv X pins σ (upd H x o) {s with heap:=h',toks:=t'}:=I.un (Un.write mu he k heo) (I.hok.write mu he k heo new)
theorem Inv.pins_of{pins':List (Addr × Obj)}(I:Inv X pins σ H s)(h:∀ p∈pins',s.heap.get? p.1=some p.2/\H p.1=none/\p.1≠X.env.locals/\p.1∉X.fs/\∀ v,p.2.data ≠ .cell v):Inv X pins' σ H s :=
 ⟨I.ok,I.os,I.bare,I.base,I.loc,I.cell,I.free,I.freeC,fun p hp=>(List.mem_append.mp hp).elim (fun z=>I.pin p (List.mem_append_left _ z)) (h p),I.hok,I.len⟩
theorem nodup_ix{N:List Str}(hN:N.Nodup){i j:Nat}{x:Str}(a:N[i]?=some x)(b:N[j]?=some x):i=j:=by
 obtain⟨h1,e1⟩:=List.getElem?_eq_some_iff.mp a
 obtain⟨h2,e2⟩:=List.getElem?_eq_some_iff.mp b
 exact(List.getElem_inj hN).mp (e1.trans e2.symm)
theorem store_ok2{M:Model}{A:Around}{E:Value->Shared->Prop}{i:Nat}{x:Str}{v:V}{u:Value}{Q:Unit->Shared->Prop}(I:Inv X pins σ H s)(hN:X.N.Nodup)(hi:X.N[i]?=some x)(hx:Loc X.env.scope x)(r:RelV v u)
 (h:∀ s',Inv X pins (σ.set i (some v)) H s'->(∃ a,Heap.SameBut a s.heap s'.heap/\(a=X.env.locals\/X.env.cells.lookup x=some a))->Q () s') (hf:X.fn x=true\/X.env.scope.names.lookup x=some .local:=by first|exact .inl rfl|exact .inr rfl|assumption):wpAny M A (storeName X.env x u) Q E s:=by
 obtain⟨m,hn,hl⟩:=id I.loc
 have hcls:(X.env.scope.kind == .class || (X.env.scope.kind == .module && X.env.locals !=X.env.globals))=false:=by rw[I.ok.kind];rfl
 have hiσ:i<σ.length:=by rw[I.len];exact(List.getElem?_eq_some_iff.mp hi).1
 have cne:=I.cne
 have tracked:∀ {a:Addr} {h':Heap},(∃ o,s.heap.get? a=some o/\H a=none)->Heap.SameBut a s.heap h'->HOk X.prog X.w H h':=fun {a h'} ha hs b ob e=>by
  obtain⟨_,_,hfree⟩:=ha
  refine(I.hok b ob e).stay (fun c w' hc q=>(hs.2 c ?_).trans q) (fun _ q=>q) fun _ _ q=>q
  rintro rfl
  rcases hc with rfl|hc
  ·rw[hfree] at e;cases e
  ·rw[hfree] at hc;cases hc
 rcases hx with hk|hk
 ·refine wpAny_storeName_local hk hn (fun h' hn' hs => ?_) hcls
  obtain⟨oL,_,_,hoL,_⟩:=id hn
  refine h _ ⟨I.ok,I.os,I.bare,⟨fun b o e n hb hx => ?_,fun b o e n hb hx => ?_,I.base.free,fun b o e hx => ?_,I.base.tups,I.base.frzs,I.base.tbls⟩,⟨_,hn',fun j y v' e1 e2 e3 => ?_⟩,fun y c e => ?_,I.free,I.freeC,fun p hp => ?_,tracked ⟨oL,hoL,I.free⟩ hs,by simpa using I.len⟩ ⟨_,hs,.inl rfl⟩
  ·exact(hs.2 b (Nat.ne_of_lt (Nat.lt_of_lt_of_le (Heap.lt_size e) I.ok.above))).trans (I.base.keep b o e n hb hx)
  ·obtain⟨sl,e1⟩:=I.base.slot b o e n hb hx
   exact⟨sl,(hs.2 b (Nat.ne_of_lt (Nat.lt_of_lt_of_le (Heap.lt_size e) I.ok.above))).trans e1⟩
  ·obtain⟨o',e1⟩:=I.base.there b o e hx
   exact⟨o',(hs.2 b (Nat.ne_of_lt (Nat.lt_of_lt_of_le (Heap.lt_size e) I.ok.above))).trans e1⟩
  ·by_cases hj:j=i
   ·subst hj
    rw[hi] at e1;cases e1
    rw[List.getElem?_set_self hiσ] at e2
    cases e2
    exact⟨u,r,.inl ⟨hk,by simp⟩⟩
   ·rw[List.getElem?_set_ne (Ne.symm hj)] at e2
    obtain⟨u',r',q⟩:=hl j y v' e1 e2 e3
    refine⟨u',r',?_⟩
    rcases q with⟨k,e⟩ | ⟨k,c,e,z⟩
    ·refine .inl ⟨k,?_⟩
     have:y≠x:=fun e=>hj (nodup_ix hN e1 (e ▸ hi))
     simp[this,e]
    ·exact .inr ⟨k,c,e,z.sameBut hs (cne y c e)⟩
  ·obtain⟨w',z⟩:=I.cell y c e
   exact⟨w',z.sameBut hs (cne y c e)⟩
  ·obtain⟨e,n,ne,nf,d⟩:=I.pin p hp
   exact⟨(hs.2 p.1 ne).trans e,n,ne,nf,d⟩
 ·have hfn:X.fn x=true:=by
   rcases hf with z|z
   ·exact z
   ·rw[z] at hk;cases hk
  obtain⟨c,hc⟩:=I.ok.has x (.inl hk)
  obtain⟨w',z⟩:=I.cell x c hc
  refine wpAny_storeName_cell I.ok.kind hk hc z (fun h' hc' hs => ?_)
  obtain⟨oc,hoc,hocd⟩:=id z
  refine h {s with heap:=h'} ⟨I.ok,I.os,I.bare,⟨fun b o e n hb hx => ?_,fun b o e n hb hx => ?_,I.base.free,fun b o e hx => ?_,I.base.tups,I.base.frzs,I.base.tbls⟩,⟨m,hn.sameBut hs (Ne.symm (cne x c hc)),fun j y v' e1 e2 e3 => ?_⟩,fun y c' e => ?_,I.free,I.freeC,fun p hp => ?_,tracked ⟨oc,hoc,I.freeC x c hc⟩ hs,by simpa using I.len⟩ ⟨c,hs,.inr hc⟩
  ·exact(hs.2 b (Nat.ne_of_lt (Nat.lt_of_lt_of_le (Heap.lt_size e) (I.ok.cab x c hfn hc)))).trans (I.base.keep b o e n hb hx)
  ·obtain⟨sl,e1⟩:=I.base.slot b o e n hb hx
   exact⟨sl,(hs.2 b (Nat.ne_of_lt (Nat.lt_of_lt_of_le (Heap.lt_size e) (I.ok.cab x c hfn hc)))).trans e1⟩
  ·obtain⟨o',e1⟩:=I.base.there b o e hx
   exact⟨o',(hs.2 b (Nat.ne_of_lt (Nat.lt_of_lt_of_le (Heap.lt_size e) (I.ok.cab x c hfn hc)))).trans e1⟩
  ·by_cases hj:j=i
   ·subst hj
    rw[hi] at e1;cases e1
    rw[List.getElem?_set_self hiσ] at e2
    cases e2
    exact⟨u,r,.inr ⟨.inl hk,c,hc,hc'⟩⟩
   ·rw[List.getElem?_set_ne (Ne.symm hj)] at e2
    obtain⟨u',r',q⟩:=hl j y v' e1 e2 e3
    refine⟨u',r',?_⟩
    rcases q with q | ⟨k,c',e,z'⟩
    ·exact .inl q
    ·refine .inr ⟨k,c',e,z'.sameBut hs ?_⟩
     rintro rfl
     exact hj (nodup_ix hN e1 (I.ok.inj _ _ _ e hc ▸ hi))
  ·by_cases hcc:c'=c
   ·subst hcc;exact⟨_,hc'⟩
   ·obtain⟨w2,z2⟩:=I.cell y c' e
    exact⟨w2,z2.sameBut hs hcc⟩
  ·obtain⟨e,n,ne,nf,d⟩:=I.pin p hp
   refine⟨(hs.2 p.1 ?_).trans e,n,ne,nf,d⟩
   intro q
   rw[q,hoc] at e
   have q':oc=p.2:=Option.some.inj e
   exact d w' (by rw[← q'];exact hocd)
theorem store_ok{M:Model}{A:Around}{E:Value->Shared->Prop}{i:Nat}{x:Str}{v:V}{u:Value}{Q:Unit->Shared->Prop}(I:Inv X pins σ H s)(hN:X.N.Nodup)(hi:X.N[i]?=some x)(hx:Loc X.env.scope x)(r:RelV v u)
 (h:∀ s',Inv X pins (σ.set i (some v)) H s'->Q () s') (hf:X.fn x=true\/X.env.scope.names.lookup x=some .local:=by first|exact .inl rfl|exact .inr rfl|assumption):wpAny M A (storeName X.env x u) Q E s :=
 store_ok2 I hN hi hx r (fun s' I' _=>h s' I') hf
theorem Inv.call'{s':Shared}{ch:List Addr}(I:Inv X pins σ H s)(ho:s'.os=s.os)(u:Un (frs X.stack) ch H H' s.heap s'.heap)(hok:HOk X.prog X.w H' s'.heap)(hg:AllBare s'.gens)
 (hch:∀ b∈ch,(b∈X.ex\/X.s₀.heap.objs.size<=b)/\b≠X.env.locals/\(∀ x c,X.env.cells.lookup x=some c->c≠b)/\∀ p∈X.pn++pins,p.1≠b):Inv X pins σ H' s':=by
 obtain⟨h',g',d',t',o'⟩:=s'
 have e:o'=s.os:=ho
 subst e
 exact I.call (g':=g') (t':=t') (d':=d') u hok hg fun b hb=>⟨(hch b hb).1.imp id Heap.get?_none_of_le,(hch b hb).2⟩
end
noncomputable abbrev XK:=Value->Option Addr->Hp->Prop
noncomputable abbrev St:=List (Option V)
noncomputable abbrev VK:=V->Hp->Prop
noncomputable abbrev TE:=St->Hp->VK->Prop
noncomputable abbrev TT:=St->Hp->(Bool->Hp->Prop)->Prop
noncomputable abbrev TA:=St->Hp->(List V->Hp->Prop)->Prop
structure Ends where
 nx:St->Hp->Prop
 rt:VK
 bk:St->Hp->Prop:=fun _ _=>False
 ct:St->Hp->Prop:=fun _ _=>False
noncomputable abbrev TS:=Ends->St->Hp->Prop
inductive EP (X:Cx) (pins:List (Addr × Obj)) (σ:St) (Q:VK) (u:Value) (s':Shared):Prop
 |mk (v:V) (H':Hp) (i:Inv X pins σ H' s') (r:RelV v u) (q:Q v H')
inductive TP (X:Cx) (pins:List (Addr × Obj)) (σ:St) (Q:Bool->Hp->Prop) (b:Bool) (s':Shared):Prop
 |mk (H':Hp) (i:Inv X pins σ H' s') (q:Q b H')
inductive AP (X:Cx) (pins:List (Addr × Obj)) (σ:St) (Q:List V->Hp->Prop) (us:List Value) (s':Shared):Prop
 |mk (vs:List V) (H':Hp) (i:Inv X pins σ H' s') (r:Vals vs us) (q:Q vs H')
inductive SPn (X:Cx) (pins:List (Addr × Obj)) (Q:St->Hp->Prop) (s':Shared):Prop
 |mk (σ':St) (H':Hp) (i:Inv X pins σ' H' s') (q:Q σ' H')
inductive SPr (X:Cx) (pins:List (Addr × Obj)) (Q:VK) (u:Value) (s':Shared):Prop
 |mk (v:V) (σ':St) (H':Hp) (i:Inv X pins σ' H' s') (r:RelV v u) (q:Q v H')
noncomputable def SP(X:Cx)(pins:List (Addr × Obj))(D:Ends)(f:Flow)(s':Shared):Prop :=
 match f with
 | .next=>SPn X pins D.nx s'
 | .brk=>SPn X pins D.bk s'
 | .cont=>SPn X pins D.ct s'
 | .ret u=>SPr X pins D.rt u s'
noncomputable def PE(X:Cx)(e:Expr)(t:TE):Prop :=
 ∀ (pins:List (Addr × Obj)) (s:Shared) (σ:St) (H:Hp) (Q:VK),Inv X pins σ H s->t σ H Q->wpAny (model X.prog X.w) X.A (eval e X.env) (EP X pins σ Q) X.xe s
noncomputable def PT(X:Cx)(e:Expr)(t:TT):Prop :=
 ∀ (pins:List (Addr × Obj)) (s:Shared) (σ:St) (H:Hp) (Q:Bool->Hp->Prop),Inv X pins σ H s->t σ H Q->wpAny (model X.prog X.w) X.A (isTrue e X.env (eval e X.env)) (TP X pins σ Q) X.xe s
noncomputable def PW(X:Cx)(e:Expr)(t:TT):Prop :=
 ∀ (whole:Sem Value) (pins:List (Addr × Obj)) (s:Shared) (σ:St) (H:Hp) (Q:Bool->Hp->Prop),Inv X pins σ H s->t σ H Q->wpAny (model X.prog X.w) X.A (isTrue e X.env whole) (TP X pins σ Q) X.xe s
theorem PW.pt{X:Cx}{e:Expr}{t:TT}(h:PW X e t):PT X e t:=h _
noncomputable def PA(X:Cx)(es:List Expr)(t:TA):Prop :=
 ∀ (pos:Pos) (pins:List (Addr × Obj)) (s:Shared) (σ:St) (H:Hp) (Q:List V->Hp->Prop),Inv X pins σ H s->t σ H Q->wpAny (model X.prog X.w) X.A (spliced (backTo pos (starEach es X.env))) (AP X pins σ Q) X.xe s
noncomputable def PS(X:Cx)(st:Stmt)(t:TS):Prop :=
 ∀ (pins:List (Addr × Obj)) (s:Shared) (σ:St) (H:Hp) (D:Ends),Inv X pins σ H s->t D σ H->wpAny (model X.prog X.w) X.A (exec st X.env) (SP X pins D) X.xe s
noncomputable def PSs(X:Cx)(st:List Stmt)(t:TS):Prop :=
 ∀ (pins:List (Addr × Obj)) (s:Shared) (σ:St) (H:Hp) (D:Ends),Inv X pins σ H s->t D σ H->wpAny (model X.prog X.w) X.A (execs st X.env) (SP X pins D) X.xe s
theorem thn{α:Type}{t:Sem α}{Q Q':α->Shared->Prop}{M:Model}{A:Around}{E:Value->Shared->Prop}{s:Shared}(h:wpAny M A t Q E s)(hQ:∀ a s,Q a s->Q' a s):wpAny M A t Q' E s:=wpAny_mono h hQ fun _ _ x=>x
end L2
namespace L2
open PySem PySem.Spec PyProof.Rows
section
variable {X:Cx}
theorem bin{a b:Expr}{ta tb:TE}(ha:PE X a ta)(hb:PE X b tb){pins:List (Addr × Obj)}{s:Shared}{σ:St}{H:Hp}{R:V->V->Hp->Prop}(I:Inv X pins σ H s)(h:ta σ H fun x H1=>tb σ H1 fun y H2=>R x y H2)
 {α:Type} {Q:α->Shared->Prop} {f:Value->Value->Sem α}
 (hf:∀ v u s2 x y H2,Inv X pins σ H2 s2->RelV x v->RelV y u->R x y H2->wpAny (model X.prog X.w) X.A (f v u) Q X.xe s2) :
 wpAny (model X.prog X.w) X.A (eval a X.env) (fun v s₁=>wpAny (model X.prog X.w) X.A (eval b X.env) (fun u s₂=>wpAny (model X.prog X.w) X.A (f v u) Q X.xe s₂) X.xe s₁) X.xe s:=by
 refine thn (ha pins s σ H _ I h) fun v s1 ⟨x,H1,I1,r1,q1⟩ => ?_
 refine thn (hb pins s1 σ H1 _ I1 q1) fun u s2 ⟨y,H2,I2,r2,q2⟩ => ?_
 exact hf v u s2 x y H2 I2 r1 r2 q2
noncomputable def tVar(i:Nat):TE:=fun σ H Q=>∃ v,σ[i]?=some (some v)/\Q v H
noncomputable def tC(v:V):TE:=fun _ H Q=>Q v H
theorem pe_var{i:Nat}{x:Str}{pos:Pos}(hN:X.N[i]?=some x)(hv:Vis X.env.scope x)(hd:(x == ("__debug__":Str))=false:=by decide)(hcd:(x == ("__classdict__":Str))=false:=by decide):PE X (.Name x pos) (tVar i):=by
 intro pins s σ H Q I h
 obtain⟨v,e,h⟩:=h
 obtain⟨m,hn,hl⟩:=I.loc
 obtain⟨u,r,l⟩:=hl i x v hN e hv
 have fin:EP X pins σ Q u s:=⟨v,H,I,r,h⟩
 rcases l with⟨hk,hm⟩ | ⟨hk,c,hc,hcell⟩
 ·exact wpAny_Name (wpAny_loadName_local I.ok.kind hk hn hm fin) hd
 ·rcases hk with hk|hk
  ·exact wpAny_Name (wpAny_loadName_cell I.ok.kind hk hc hcell fin) hd
  ·exact wpAny_Name (wpAny_loadName_free I.ok.kind hk hc hcell fin hcd) hd
theorem pe_int{i j pos}:PE X (.Constant (.int i) j pos) (tC (.int i)):=fun _ _ _ H _ I h=>wpAny_Constant_int ⟨.int i,H,I.tok _,⟨_,rfl⟩,h⟩
theorem pe_bl{b j pos}:PE X (.Constant (.bool b) j pos) (tC (.bl b)):=fun _ _ _ H _ I h=>Constant_bool ⟨.bl b,H,I,rfl,h⟩
theorem pe_non{j pos}:PE X (.Constant .none j pos) (tC .non):=fun _ _ _ H _ I h=>Constant_none ⟨.non,H,I,rfl,h⟩
theorem pe_str{x j pos}:PE X (.Constant (.str x) j pos) (tC (.str x)):=fun _ _ _ H _ I h=>Calls.Constant_str ⟨.str x,H,I.tok _,⟨_,rfl⟩,h⟩
noncomputable def Gl(X:Cx)(x:Str):Prop:=X.env.kindOf x=some .globalImplicit
theorem ld_glob{E:Value->Shared->Prop}{pins:List (Addr × Obj)}{s:Shared}{σ:St}{H:Hp}{x:Str}{u:Value}{pos:Pos}{Q:Value->Shared->Prop}(I:Inv X pins σ H s)(hg:Gl X x)(hm:X.mg x=some u)(h:Q u s)
 (hd:(x == ("__debug__":Str))=false:=by decide):wpAny (model X.prog X.w) X.A (eval (.Name x pos) X.env) Q E s :=
 Calls.Name_function_global I.ok.kind hg (Calls.loadGlobal_global (by rw[I.ok.glob];exact I.mod.glob.keeps I.bk) hm h) hd
theorem ld_blt{E:Value->Shared->Prop}{pins:List (Addr × Obj)}{s:Shared}{σ:St}{H:Hp}{x:Str}{u:Value}{pos:Pos}{Q:Value->Shared->Prop}(I:Inv X pins σ H s)(hg:Gl X x)(hm:X.mg x=none)(hv:bootBuiltins x=some u)(h:Q u s)
 (hn:x ≠ "__name__":=by decide) (hd:(x == ("__debug__":Str))=false:=by decide):wpAny (model X.prog X.w) X.A (eval (.Name x pos) X.env) Q E s:=by
 obtain⟨mb,h1,h2⟩:=I.mod.blt
 exact Calls.Name_function_global I.ok.kind hg (Calls.loadGlobal_builtin (by rw[I.ok.glob];exact I.mod.glob.keeps I.bk) hm (by rw[I.ok.blt];exact h1.keeps I.bk) ((h2 x hn).trans hv) h) hd
variable {a b:Expr}{ta tb:TE}{pos:Pos}
variable {tA tB':TT}{rest:List Expr}
noncomputable def tAnd(t u:TT):TT:=fun σ H Q=>t σ H fun c H1=>if c=true then u σ H1 Q else Q false H1
noncomputable def tOr(t u:TT):TT:=fun σ H Q=>t σ H fun c H1=>if c=true then Q true H1 else u σ H1 Q
noncomputable def tNot(t:TT):TT:=fun σ H Q=>t σ H fun c H1=>Q (!c) H1
theorem pw_and1(ha:PT X a tA):PW X (.BoolOp .And [a] pos) tA:=by
 intro wh pins s σ H Q I h
 refine isTrue_and (thn (ha pins s σ H Q I h) fun c s1 e => ?_)
 cases c with
 |true=>exact isTrue_and_nil e
 |false=>exact e
theorem pw_or1(ha:PT X a tA):PW X (.BoolOp .Or [a] pos) tA:=by
 intro wh pins s σ H Q I h
 refine isTrue_or (thn (ha pins s σ H Q I h) fun c s1 e => ?_)
 cases c with
 |false=>exact isTrue_or_nil e
 |true=>exact e
theorem pw_and(ha:PT X a tA)(hb:PW X (.BoolOp .And (b::rest) pos) tB'):PW X (.BoolOp .And (a::b::rest) pos) (tAnd tA tB'):=by
 intro wh pins s σ H Q I h
 refine isTrue_and (thn (ha pins s σ H _ I h) fun c s1 ⟨H1,I1,q1⟩ => ?_)
 cases c with
 |true=>exact hb wh pins s1 σ H1 Q I1 q1
 |false=>exact⟨H1,I1,q1⟩
theorem pw_or(ha:PT X a tA)(hb:PW X (.BoolOp .Or (b::rest) pos) tB'):PW X (.BoolOp .Or (a::b::rest) pos) (tOr tA tB'):=by
 intro wh pins s σ H Q I h
 refine isTrue_or (thn (ha pins s σ H _ I h) fun c s1 ⟨H1,I1,q1⟩ => ?_)
 cases c with
 |true=>exact⟨H1,I1,q1⟩
 |false=>exact hb wh pins s1 σ H1 Q I1 q1
theorem pt_not(ha:PT X a tA):PT X (.UnaryOp .Not a pos) (tNot tA):=by
 intro pins s σ H Q I h
 exact isTrue_not (thn (ha pins s σ H (fun c H1=>Q (!c) H1) I h) fun c s1 ⟨H1,I1,q1⟩=>⟨H1,I1,q1⟩)
noncomputable def tAndV(ta tb:TE):TE:=fun σ H Q=>ta σ H fun x H1=>∃ c,x = .bl c/\if c=true then tb σ H1 Q else Q (.bl false) H1
noncomputable def tOrV(ta tb:TE):TE:=fun σ H Q=>ta σ H fun x H1=>∃ c,x = .bl c/\if c=true then Q (.bl true) H1 else tb σ H1 Q
theorem pe_one{op}{t:TE}(h:PE X a t):PE X (.BoolOp op [a] pos) t:=fun pins s σ H Q I hw=>BoolOp_one (h pins s σ H Q I hw)
theorem pe_and(ha:PE X a ta)(hb:PE X (.BoolOp .And (b::rest) pos) tb):PE X (.BoolOp .And (a::b::rest) pos) (tAndV ta tb):=by
 intro pins s σ H Q I h
 refine BoolOp_and (thn (ha pins s σ H _ I h) fun v s1 ⟨x,H1,I1,r1,q1⟩ => ?_)
 obtain⟨c,rfl,q1⟩:=q1
 cases r1
 refine wpAny_truthy_bool ?_
 cases c with
 |true=>exact hb pins s1 σ H1 Q I1 q1
 |false=>exact⟨.bl false,H1,I1,rfl,q1⟩
theorem pe_or(ha:PE X a ta)(hb:PE X (.BoolOp .Or (b::rest) pos) tb):PE X (.BoolOp .Or (a::b::rest) pos) (tOrV ta tb):=by
 intro pins s σ H Q I h
 refine BoolOp_or (thn (ha pins s σ H _ I h) fun v s1 ⟨x,H1,I1,r1,q1⟩ => ?_)
 obtain⟨c,rfl,q1⟩:=q1
 cases r1
 refine wpAny_truthy_bool ?_
 cases c with
 |false=>exact hb pins s1 σ H1 Q I1 q1
 |true=>exact⟨.bl true,H1,I1,rfl,q1⟩
noncomputable def tIf(t:TT)(ta tb:TE):TE:=fun σ H Q=>t σ H fun c H1=>if c=true then ta σ H1 Q else tb σ H1 Q
theorem pe_ifExp{c:Expr}(hc:PT X c tA)(ha:PE X a ta)(hb:PE X b tb):PE X (.IfExp c a b pos) (tIf tA ta tb):=by
 intro pins s σ H Q I h
 refine wpAny_IfExp (thn (hc pins s σ H _ I h) fun d s1 ⟨H1,I1,q1⟩ => ?_)
 cases d with
 |true=>exact ha pins s1 σ H1 Q I1 q1
 |false=>exact hb pins s1 σ H1 Q I1 q1
end
end L2
namespace L2
open PySem PySem.Spec PyProof.Rows
noncomputable def SqL(K:PySem.W.Frag)(H:Hp)(a:Addr)(xs:List V):Prop :=
 Rd H a (.lst xs) ∨
  ∃ (o:Obj) (its:Array Value) (n:Nat),K.lookup a=some o/\o.cls = .type "list"/\o.dict=none/\o.data = .seq its n/\its.size<=sizeLine/\Vals xs its.toList
noncomputable def SqT(K:PySem.W.Frag)(H:Hp)(a:Addr)(xs:List V):Prop :=
 Rd H a (.tup xs) ∨
  ∃ (o:Obj) (its:Array Value) (n:Nat),K.lookup a=some o/\o.cls = .type "tuple"/\o.data = .seq its n/\its.size<=sizeLine/\Vals xs its.toList
noncomputable def absV:Value->Option V
 | .none=>some .non
 | .bool b=>some (.bl b)
 | .int i _=>some (.int i)
 | .str x _=>some (.str x)
 | .bytes b _=>some (.byt b)
 | .float b _=>some (.flt b)
 | .ref a=>some (.ref a)
 | .type n=>some (.ty n)
 |_=>none
theorem RelV.abs{x:V}{u:Value}(r:RelV x u):absV u=some x:=by
 cases x with
 |non=>cases r;rfl
 |bl _=>cases r;rfl
 |int _=>obtain⟨t,rfl⟩:=r;rfl
 |str _=>obtain⟨t,rfl⟩:=r;rfl
 |byt _=>obtain⟨t,rfl⟩:=r;rfl
 |flt _=>obtain⟨t,rfl⟩:=r;rfl
 |ref _=>cases r;rfl
 |ty _=>cases r;rfl
theorem RelV.inj{x y:V}{u:Value}(r:RelV x u)(q:RelV y u):x=y:=Option.some.inj (r.abs.symm.trans q.abs)
theorem Vals.inj:∀ {xs ys:List V} {us:List Value},Vals xs us->Vals ys us->xs=ys
 |_,_,_,.nil,.nil=>rfl
 |_,_,_,.cons r t,.cons r' t'=>by rw[r.inj r',Vals.inj t t']
section
variable {X:Cx}{pins:List (Addr × Obj)}{σ:St}{H:Hp}{s:Shared}{a:Addr}{xs ys:List V}
theorem SqL.of{K:PySem.W.Frag}(h:H a=some (.lst xs)):SqL K H a xs:=.inl (.inl h)
theorem SqT.of{K:PySem.W.Frag}(h:H a=some (.tup xs)):SqT K H a xs:=.inl (.inl h)
theorem Inv.list(I:Inv X pins σ H s)(h:SqL X.K H a xs):∃ its:List Value,Vals xs its/\PlainL s.heap a its.toArray/\xs.length<=sizeLine:=by
 rcases h with h | ⟨o,its,n,hk,hc,hd,hs,hz,r⟩
 ·obtain⟨z,its,n,r,e⟩:=h.ok I.hok
  exact⟨its,r,⟨_,n,e,rfl,rfl,rfl⟩,z⟩
 ·refine⟨its.toList,r,⟨o,n,I.kIn a o hk,hc,hd,by simpa using hs⟩,?_⟩
  have e:=r.length
  simp only[Array.length_toList] at e
  omega
theorem Inv.tuple(I:Inv X pins σ H s)(h:SqT X.K H a xs):∃ its:List Value,Vals xs its/\IsTup s.heap a its.toArray/\xs.length<=sizeLine:=by
 rcases h with h | ⟨o,its,n,hk,hc,hs,hz,r⟩
 ·obtain⟨z,its,r,p⟩:=h.ok I.hok
  exact⟨its,r,p,z⟩
 ·refine⟨its.toList,r,⟨o,I.kIn a o hk,hc,n,by simpa using hs⟩,?_⟩
  have e:=r.length
  simp only[Array.length_toList] at e
  omega
theorem Inv.list_inj(I:Inv X pins σ H s)(h:SqL X.K H a xs)(h':SqL X.K H a ys):xs=ys:=by
 obtain⟨its,r,⟨o,n,e,_,_,d⟩,_⟩:=I.list h
 obtain⟨its',r',⟨o',n',e',_,_,d'⟩,_⟩:=I.list h'
 rw[e] at e';cases e'
 rw[d] at d'
 injection d' with d1 _
 have:its=its':=by simpa using congrArg Array.toList d1
 subst this
 exact r.inj r'
theorem Inv.tuple_inj(I:Inv X pins σ H s)(h:SqT X.K H a xs)(h':SqT X.K H a ys):xs=ys:=by
 obtain⟨its,r,⟨o,e,_,n,d⟩,_⟩:=I.tuple h
 obtain⟨its',r',⟨o',e',_,n',d'⟩,_⟩:=I.tuple h'
 rw[e] at e';cases e'
 rw[d] at d'
 injection d' with d1 _
 have:its=its':=by simpa using congrArg Array.toList d1
 subst this
 exact r.inj r'
end
noncomputable abbrev Cx.wish(X:Cx)(E:Value->Shared->Prop):Cx:={X with xe:=E}
noncomputable abbrev Cx.nox(X:Cx):Cx:=X.wish fun _ _=>False
theorem Cx.Ok.wish{X:Cx}(ok:X.Ok)(E:Value->Shared->Prop):(X.wish E).Ok :=
 ⟨ok.mod,ok.kind,ok.glob,ok.blt,ok.above,ok.inj,ok.has,ok.cab,ok.hd,ok.frames,ok.stk,ok.exf,ok.bs,ok.bsz,ok.noex,ok.exfs,ok.funs,ok.frf⟩
theorem Cx.Ok.unwish{X:Cx}{E:Value->Shared->Prop}(ok:(X.wish E).Ok):X.Ok :=
 ⟨ok.mod,ok.kind,ok.glob,ok.blt,ok.above,ok.inj,ok.has,ok.cab,ok.hd,ok.frames,ok.stk,ok.exf,ok.bs,ok.bsz,ok.noex,ok.exfs,ok.funs,ok.frf⟩
section
variable {X:Cx}{pins:List (Addr × Obj)}{σ:St}{H:Hp}{s:Shared}{E:Value->Shared->Prop}
theorem Inv.wish(I:Inv X pins σ H s)(E:Value->Shared->Prop):Inv (X.wish E) pins σ H s:=⟨I.ok.wish E,I.os,I.bare,I.base,I.loc,I.cell,I.free,I.freeC,I.pin,I.hok,I.len⟩
theorem Inv.unwish(I:Inv (X.wish E) pins σ H s):Inv X pins σ H s:=⟨I.ok.unwish,I.os,I.bare,I.base,I.loc,I.cell,I.free,I.freeC,I.pin,I.hok,I.len⟩
theorem SP.unwish{D:Ends}{f:Flow}{s':Shared}(h:SP (X.wish E) pins D f s'):SP X pins D f s':=by
 cases f with
 |next=>obtain⟨σ',H',I,q⟩:=h;exact⟨σ',H',I.unwish,q⟩
 |brk=>obtain⟨σ',H',I,q⟩:=h;exact⟨σ',H',I.unwish,q⟩
 |cont=>obtain⟨σ',H',I,q⟩:=h;exact⟨σ',H',I.unwish,q⟩
 |ret u=>obtain⟨v,σ',H',I,r,q⟩:=h;exact⟨v,σ',H',I.unwish,r,q⟩
theorem PE.nox{e:Expr}{t:TE}(h:PE X.nox e t):PE X e t:=fun pins s σ H Q I hw =>
 wpAny_mono (h pins s σ H Q (I.wish _) hw) (fun _ _ ⟨v,H',I',r,q⟩=>⟨v,H',I'.unwish,r,q⟩) fun _ _ z=>False.elim z
theorem PT.nox{e:Expr}{t:TT}(h:PT X.nox e t):PT X e t:=fun pins s σ H Q I hw =>
 wpAny_mono (h pins s σ H Q (I.wish _) hw) (fun _ _ ⟨H',I',q⟩=>⟨H',I'.unwish,q⟩) fun _ _ z=>False.elim z
theorem PSs.nox{st:List Stmt}{t:TS}(h:PSs X.nox st t):PSs X st t:=fun pins s σ H D I hw =>
 wpAny_mono (h pins s σ H D (I.wish _) hw) (fun _ _ q=>q.unwish) fun _ _ z=>False.elim z
end
section
variable {X:Cx}{st:Stmt}{rest:List Stmt}{t u:TS}{e:Expr}{te:TE}{pos:Pos}
noncomputable def tNext:TS:=fun D σ H=>D.nx σ H
noncomputable def tSeq(t u:TS):TS:=fun D σ H=>t {D with nx:=u D} σ H
theorem pss_nil:PSs X [] tNext:=fun _ _ σ H _ I h=>wpAny_execs_nil ⟨σ,H,I,h⟩
theorem pss_cons(h1:PS X st t)(h2:PSs X rest u):PSs X (st::rest) (tSeq t u):=by
 intro pins s σ H D I h
 refine wpAny_execs_cons (thn (h1 pins s σ H {D with nx:=u D} I h) fun f s1 q => ?_)
 cases f with
 |next =>
  obtain⟨σ',H',I',q⟩:=q
  exact h2 pins s1 σ' H' D I' q
 |ret v=>exact q
 |brk=>exact q
 |cont=>exact q
noncomputable def tBreak:TS:=fun D σ H=>D.bk σ H
noncomputable def tCont:TS:=fun D σ H=>D.ct σ H
theorem ps_pass:PS X (.Pass pos) tNext:=fun _ _ σ H _ I h=>wpAny_Pass ⟨σ,H,I,h⟩
theorem ps_break:PS X (.Break pos) tBreak:=fun _ _ σ H _ I h=>wpAny_Break ⟨σ,H,I,h⟩
theorem ps_continue:PS X (.Continue pos) tCont:=fun _ _ σ H _ I h=>wpAny_Continue ⟨σ,H,I,h⟩
theorem Inv.quiet{pins:List (Addr × Obj)}{σ:St}{H:Hp}{s:Shared}(I:Inv X pins σ H s):interactive X.env=false:=by simp[interactive,I.ok.kind]
noncomputable def tDrop(te:TE):TS:=fun D σ H=>te σ H fun _ H1=>D.nx σ H1
theorem ps_expr(he:PE X e te)(hs:swapsWith e none pos.line X.env=pure false:=by rfl):PS X (.Expr e pos) (tDrop te):=by
 intro pins s σ H D I h
 exact wpAny_Expr_any (thn (he pins s σ H _ I h) fun v s1 ⟨x,H1,I1,r1,q1⟩=>⟨σ,H1,I1,q1⟩) I.quiet hs
noncomputable def tRet(te:TE):TS:=fun D σ H=>te σ H D.rt
theorem ps_ret(he:PE X e te):PS X (.Return (some e) pos) (tRet te):=by
 intro pins s σ H D I h
 exact wpAny_Return_some (thn (he pins s σ H _ I h) fun v s1 ⟨x,H1,I1,r1,q1⟩=>⟨x,σ,H1,I1,r1,q1⟩)
noncomputable def tRetN:TS:=fun D _ H=>D.rt .non H
theorem ps_retN:PS X (.Return none pos) tRetN:=fun _ _ σ H _ I h=>wpAny_Return_none ⟨.non,σ,H,I,rfl,h⟩
noncomputable def tIfS(c:TT)(t u:TS):TS:=fun D σ H=>c σ H fun b H1=>if b=true then t D σ H1 else u D σ H1
theorem ps_if{c:Expr}{a b:List Stmt}{tc:TT}(hc:PT X c tc)(ha:PSs X a t)(hb:PSs X b u):PS X (.If c a b pos) (tIfS tc t u):=by
 intro pins s σ H D I h
 refine wpAny_If (thn (hc pins s σ H _ I h) fun d s1 ⟨H1,I1,q1⟩ => ?_)
 cases d with
 |true=>exact ha pins s1 σ H1 D I1 q1
 |false=>exact hb pins s1 σ H1 D I1 q1
end
noncomputable abbrev TG:=V->St->Hp->(St->Hp->Prop)->Prop
noncomputable abbrev TGs:=List V->St->Hp->(St->Hp->Prop)->Prop
noncomputable def PG(X:Cx)(target:Expr)(t:TG):Prop :=
 ∀ (pins:List (Addr × Obj)) (s:Shared) (σ:St) (H:Hp) (v:V) (u:Value) (Q:St->Hp->Prop),Inv X pins σ H s->RelV v u->t v σ H Q →
  wpAny (model X.prog X.w) X.A (assign target X.env u) (fun _ s'=>SPn X pins Q s') X.xe s
noncomputable def PGs(X:Cx)(ts:List Expr)(t:TGs):Prop :=
 ∀ (pins:List (Addr × Obj)) (s:Shared) (σ:St) (H:Hp) (vs:List V) (us:List Value) (Q:St->Hp->Prop),Inv X pins σ H s->Vals vs us->t vs σ H Q →
  wpAny (model X.prog X.w) X.A (assignInOrder ((assignEach ts X.env).map (·.2)) us) (fun _ s'=>SPn X pins Q s') X.xe s
noncomputable abbrev TSet:=V->V->V->Hp->(Hp->Prop)->Prop
noncomputable def PSet(X:Cx)(t:TSet):Prop :=
 ∀ (pins:List (Addr × Obj)) (s:Shared) (σ:St) (H:Hp) (o i v:V) (ov iv u:Value) (Q:Hp->Prop),Inv X pins σ H s->RelV o ov->RelV i iv->RelV v u->t o i v H Q →
  wpAny (model X.prog X.w) X.A (setItem ov iv u) (fun _ s'=>∃ H',Inv X pins σ H' s'/\Q H') X.xe s
section
variable {X:Cx}{pos:Pos}
noncomputable def gName(i:Nat):TG:=fun v σ H Q=>Q (σ.set i (some v)) H
theorem pg_name{i:Nat}{x:Str}(hN:X.N.Nodup)(hi:X.N[i]?=some x)(hx:Loc X.env.scope x)(hf:X.fn x=true\/X.env.scope.names.lookup x=some .local:=by first|exact .inl rfl|exact .inr rfl|assumption):PG X (.Name x pos) (gName i):=by
 intro pins s σ H v u Q I r h
 exact wpAny_assign_Name (store_ok I hN hi hx r (fun s' I'=>⟨_,H,I',h⟩) hf)
noncomputable def gNil:TGs:=fun vs σ H Q=>vs=[]/\Q σ H
noncomputable def gCons(t:TG)(u:TGs):TGs:=fun vs σ H Q=>∃ v r,vs=v::r/\t v σ H fun σ' H'=>u r σ' H' Q
theorem pgs_nil:PGs X [] gNil:=by
 intro pins s σ H vs us Q I r h
 obtain⟨e,h⟩:=h
 subst e
 cases r
 exact assignInOrder_nil ⟨σ,H,I,h⟩
theorem pgs_cons{e:Expr}{es:List Expr}{t:TG}{u:TGs}(h1:PG X e t)(h2:PGs X es u)
 (hs:(assignEach (e::es) X.env).map (·.2)=assign e X.env::(assignEach es X.env).map (·.2):=by rfl):PGs X (e::es) (gCons t u):=by
 intro pins s σ H vs us Q I r h
 obtain⟨v,vr,e1,h⟩:=h
 subst e1
 cases r with
 |cons r rr =>
  rw[hs]
  refine assignInOrder_cons (thn (h1 pins s σ H _ _ _ I r h) fun _ s1 ⟨σ1,H1,I1,q1⟩ => ?_)
  exact h2 pins s1 σ1 H1 _ _ Q I1 rr q1
noncomputable def gTup(K:PySem.W.Frag)(n:Nat)(t:TGs):TG:=fun v σ H Q=>∃ a xs,v = .ref a/\SqT K H a xs/\xs.length=n/\t xs σ H Q
theorem pg_tup{es:List Expr}{k:Nat}{t:TGs}{n:Nat}(hc:X.calm=true)(h:PGs X es t)
 (hn:(assignEach es X.env).length=n:=by rfl) (hst:(assignEach es X.env).findIdx? (·.1)=none:=by rfl):PG X (.Tuple es k pos) (gTup X.K n t):=by
 intro pins s σ H v u Q I r hw
 obtain⟨a,xs,e1,hq,hl,hw⟩:=hw
 subst e1
 cases r
 obtain⟨its,rv,ht,hz⟩:=I.tuple hq
 refine assign_Tuple_tuple (I.ok.hd hc) ht (by simp[hn, ← hl,rv.length]) hst fun h' hx => ?_
 have I1:Inv X pins σ H {s with heap:=h'}:=I.kept (t':=s.toks) fun b o e=>hx b o (Nat.ne_of_lt (Heap.lt_size e)) e
 exact h pins _ σ H xs _ Q I1 (by simpa using rv) hw
noncomputable def gSub(to ti:TE)(t:TSet):TG:=fun v σ H Q=>to σ H fun o H1=>ti σ H1 fun i H2=>t o i v H2 fun H3=>Q σ H3
theorem pg_sub{o i:Expr}{to ti:TE}{t:TSet}(ho:PE X o to)(hi:PE X i ti)(hs:PSet X t)
 (ha:∀ v,assign (.Subscript o i pos) X.env v=(do
   let ov ← holding [v] (eval o X.env)
   let iv ← holding [v,ov] (eval i X.env)
   standAt pos
   holding [v,ov,iv] (setItem ov iv v)
   release [v,ov,iv] []):=by intro _;rfl):PG X (.Subscript o i pos) (gSub to ti t):=by
 intro pins s σ H v u Q I r h
 rw[ha]
 refine wpAny_bind (wpAny_holding (thn (ho pins s σ H _ I h) fun ov s1 ⟨x,H1,I1,r1,q1⟩ => ?_))
 refine wpAny_bind (wpAny_holding (thn (hi pins s1 σ H1 _ I1 q1) fun iv s2 ⟨y,H2,I2,r2,q2⟩ => ?_))
 refine wpAny_bind (wpAny_standAt (wpAny_bind (wpAny_holding (thn (hs pins s2 σ H2 x y v ov iv u _ I2 r1 r2 r q2) fun _ s3 ⟨H3,I3,q3⟩ => ?_))))
 exact wpAny_release ⟨σ,H3,I3,q3⟩
noncomputable def tAsg(te:TE)(g:TG):TS:=fun D σ H=>te σ H fun x H1=>g x σ H1 D.nx
theorem ps_asg{tg e:Expr}{te:TE}{g:TG}(he:PE X e te)(hg:PG X tg g)(hs:swapsWithSole [tg] e pos.line X.env=pure false:=by rfl)(hw:swappedStores [tg] e X.env=pure none:=by rfl)
 (h1:(assignEach [tg] X.env).map (·.2)=[assign tg X.env]:=by rfl):PS X (.Assign [tg] e pos) (tAsg te g):=by
 intro pins s σ H D I h
 refine wpAny_Assign_stores (thn (he pins s σ H _ I h) fun v s1 ⟨x,H1,I1,r1,q1⟩ => ?_) hs hw
 rw[h1]
 exact thn (hg pins s1 σ H1 x v _ I1 r1 q1) fun _ s2 q=>q
theorem ps_set{i:Nat}{x:Str}{e:Expr}{te:TE}{pos':Pos}(hN:X.N.Nodup)(hi:X.N[i]?=some x)(hx:Loc X.env.scope x)(he:PE X e te)(hs:swapsWith e (some (.Name x pos')) pos.line X.env=pure false:=by rfl)(hf:X.fn x=true\/X.env.scope.names.lookup x=some .local:=by first|exact .inl rfl|exact .inr rfl|assumption) :
 PS X (.Assign [.Name x pos'] e pos) (tAsg te (gName i)):=by
 intro pins s σ H D I h
 refine wpAny_Assign_Name (thn (he pins s σ H _ I h) fun v s1 ⟨y,H1,I1,r1,q1⟩ => ?_) hs
 exact store_ok I1 hN hi hx r1 (fun s2 I2=>⟨_,H1,I2,q1⟩) hf
end
section
variable {X:Cx}{pos:Pos}
noncomputable def tWhile(c:TT)(tb:TS):TS:=fun D σ H=>∃ W:Nat->St->Hp->Prop,(∃ m,W m σ H)/\∀ m σ H,W m σ H →
 c σ H fun b H1=>if b=true then ∃ N:St->Hp->Prop,(∀ σ' H',N σ' H'->∃ m',m'<m/\W m' σ' H')/\tb {D with nx:=N,ct:=N,bk:=D.nx} σ H1 else D.nx σ H1
theorem ps_while{c:Expr}{body:List Stmt}{tc:TT}{tb:TS}(hp:PassesOwn (model X.prog X.w) X.A X.env X.xe)(hc:PT X c tc)(hb:PSs X body tb):PS X (.While c body [] pos) (tWhile tc tb):=by
 intro pins s σ H D I h
 obtain⟨W,⟨m0,w0⟩,turn⟩:=h
 refine wpAny_While (codeAny_whileLoop (fun n s'=>∃ σ' H',Inv X pins σ' H' s'/\W n σ' H') ?_ m0 ⟨σ,H,I,w0⟩)
 rintro n s1 ⟨σ1,H1,I1,w1⟩
 refine wpAny_passesOwn hp (thn (hc pins s1 σ1 H1 _ I1 (turn n σ1 H1 w1)) fun b s2 ⟨H2,I2,q2⟩ => ?_)
 cases b with
 |true =>
  obtain⟨N,hN,q2⟩:=q2
  rw[if_pos rfl]
  refine wpAny_passesOwn hp (thn (hb pins s2 σ1 H2 _ I2 q2) fun f s3 q3 => ?_)
  cases f with
  |next =>
   obtain⟨σ3,H3,I3,n3⟩:=q3
   obtain⟨m',hm,w3⟩:=hN σ3 H3 n3
   exact⟨m',hm,σ3,H3,I3,w3⟩
  |cont =>
   obtain⟨σ3,H3,I3,n3⟩:=q3
   obtain⟨m',hm,w3⟩:=hN σ3 H3 n3
   exact⟨m',hm,σ3,H3,I3,w3⟩
  |brk=>exact q3
  |ret v=>exact q3
 |false =>
  rw[if_neg Bool.false_ne_true]
  exact wpAny_execs_nil ⟨σ1,H2,I2,q2⟩
end
structure It where
 go:Nat->Hp->Prop
 yld:Nat->Hp->V->Hp->Prop
 stop:Nat->Hp->Prop
noncomputable def FpOk(X:Cx)(pins:List (Addr × Obj))(H:Hp)(b:Addr):Prop :=
 H b=none/\b≠X.env.locals/\b∉X.fs/\(b∈X.ex\/X.s₀.heap.objs.size<=b)/\(∀ x c,X.env.cells.lookup x=some c->c≠b)/\∀ p∈X.pn++pins,p.1≠b
theorem Inv.fpOk{X:Cx}{pins:List (Addr × Obj)}{σ:St}{H H':Hp}{s:Shared}{b:Addr}(I:Inv X pins σ H s)(hb:s.heap.objs.size<=b)(hn:H' b=none):FpOk X pins H' b:=by
 refine⟨hn,Nat.ne_of_gt (Nat.lt_of_lt_of_le I.lt hb),I.nofs hb,.inr (Nat.le_trans I.sz hb),fun x c e z => ?_,fun p hp z => ?_⟩
 ·obtain⟨v,q⟩:=I.cell x c e
  exact absurd (Nat.lt_of_lt_of_le q.lt (by rw[z];exact hb)) (Nat.lt_irrefl _)
 ·exact absurd (Nat.lt_of_lt_of_le (Heap.lt_size (I.pin p hp).1) (by rw[z];exact hb)) (Nat.lt_irrefl _)
structure Turn(P:Program)(w:World)(K:PySem.W.Frag)(tg:Expr)(J:It)(fp:List Addr)(it:Addr)(tn:Nat->Heap->Prop):Prop where
 mem:it∈fp
 obj:∀ i h,tn i h->∀ b∈fp,∃ o,h.get? b=some o/\∀ v,o.data ≠ .cell v
 keep:∀ i h h',tn i h->(∀ b∈fp,∀ o,h.get? b=some o->h'.get? b=some o)->tn i h'
 item:∀ (X:Cx),X.prog=P->X.w=w->X.K=K->X.calm=true->∀ (i:Nat) (pins:List (Addr × Obj)) (s:Shared) (σ:St) (H:Hp) (E:Value->Shared->Prop),Inv X pins σ H s->(∀ b∈fp,FpOk X pins H b)->tn i s.heap->J.go i H →
  wpAny (model P w) X.A (pyNext (.ref it)) (fun r s1=>∃ u,r=some u ∧
   wpAny (model P w) X.A (letOwnedTupleGo tg (.ref it) u) (fun _ s2=>∃ x H',Inv X pins σ H' s2/\RelV x u/\J.yld i H x H'/\tn (i+1) s2.heap/\∀ b∈fp,H' b=none) E s1) E s
 done:∀ (X:Cx),X.prog=P->X.w=w->X.K=K->X.calm=true->∀ (i:Nat) (pins:List (Addr × Obj)) (s:Shared) (σ:St) (H:Hp) (E:Value->Shared->Prop),Inv X pins σ H s->(∀ b∈fp,FpOk X pins H b)->tn i s.heap->J.stop i H →
  wpAny (model P w) X.A (pyNext (.ref it)) (fun r s1=>r=none/\Inv X pins σ H s1) E s
 self:∀ (A:Around) (i:Nat) (s:Shared) (Q:Value->Shared->Prop) (E:Value->Shared->Prop),tn i s.heap->Q (.ref it) s->wpAny (model P w) A (pyIter (.ref it)) Q E s
noncomputable abbrev TI:=St->Hp->(It->Hp->Prop)->Prop
noncomputable def PIE(X:Cx)(pins:List (Addr × Obj))(σ:St)(tg:Expr)(R:It->Hp->Prop)(itv:Value)(s2:Shared):Prop :=
 ∃ (it:Addr) (fp:List Addr) (tn:Nat->Heap->Prop) (J:It) (H':Hp),itv = .ref it/\Inv X pins σ H' s2/\Turn X.prog X.w X.K tg J fp it tn/\tn 0 s2.heap/\(∀ b∈fp,FpOk X pins H' b)/\R J H'
noncomputable def PI(X:Cx)(tg iter:Expr)(wi:TI):Prop :=
 ∀ (pins:List (Addr × Obj)) (s:Shared) (σ:St) (H:Hp) (R:It->Hp->Prop),Inv X pins σ H s->wi σ H R →
  wpAny (model X.prog X.w) X.A (eval iter X.env) (fun v s1=>wpAny (model X.prog X.w) X.A (pyIter v) (PIE X pins σ tg R) X.xe s1) X.xe s
theorem go_of{M:Model}{A:Around}{E:Value->Shared->Prop}{s:Shared}{tg:Expr}{it:Addr}{u:Value}{o:Obj}{n:String}{vs:Array Value}{Q:Unit->Shared->Prop}(ho:s.heap.get? it=some o)(hc:o.cls = .type n)(hd:o.data = .fields vs)
 (hn:["enumerate","zip","dict_itemiterator","dict_reverseitemiterator","odict_iterator","itertools.zip_longest","itertools.pairwise"].contains n=false) (hQ:Q () s):wpAny M A (letOwnedTupleGo tg (.ref it) u) Q E s:=by
 unfold letOwnedTupleGo
 cases tg<;>first
  |exact wpAny_pure hQ
  | (cases u<;>first
      |exact wpAny_pure hQ
      | (refine wpAny_bind (wpAny_load ho ?_)
         rw[hc,hd]
         show wpAny M A (if (["enumerate","zip","dict_itemiterator","dict_reverseitemiterator","odict_iterator","itertools.zip_longest","itertools.pairwise"].contains n && vs[0]? == some (rawInt _))=true then _ else _) Q E s
         rw[if_neg (by intro h;rw[hn,Bool.false_and] at h;cases h)]
         exact wpAny_pure hQ))
noncomputable def Itl(K:PySem.W.Frag)(a:Addr):It :=
 ⟨fun i H=>∃ xs x,SqL K H a xs/\xs[i]?=some x,fun i H x H'=>H'=H/\∀ xs,SqL K H a xs->xs[i]?=some x,fun i H=>∃ xs,SqL K H a xs/\xs.length<=i⟩
noncomputable def Itt(K:PySem.W.Frag)(a:Addr):It :=
 ⟨fun i H=>∃ xs x,SqT K H a xs/\xs[i]?=some x,fun i H x H'=>H'=H/\∀ xs,SqT K H a xs->xs[i]?=some x,fun i H=>∃ xs,SqT K H a xs/\xs.length<=i⟩
noncomputable def Itr(lo:Int)(n:Nat):It:=⟨fun i _=>i<n,fun i H x H'=>H'=H/\x = .int (lo+i),fun i _=>n<=i⟩
theorem turn_list{P:Program}{w:World}{K:PySem.W.Frag}{tg:Expr}(a it:Addr):Turn P w K tg (Itl K a) [it] it (fun i h=>h.IsListIter it a i) where
 mem:=by simp
 obj:=fun i h st b hb=>by
  have e:b=it:=by simpa using hb
  subst e
  obtain⟨o,e,c,d⟩:=st
  exact⟨o,e,fun v z=>by rw[d] at z;cases z⟩
 keep:=fun i h h' st k=>st.at fun o e=>k it (by simp) o e
 item:=by
  intro X hP hw hK hc i pins s σ H E I hf st hg
  subst hP hw hK
  obtain⟨xs,x,hq,hx⟩:=hg
  obtain⟨its,rv,p,hz⟩:=I.list hq
  obtain⟨u,hu,ru⟩:=rv.get hx
  obtain⟨f0,f1,f2,f3,f4,f5⟩:=hf it (by simp)
  refine wpAny_pyNext_list_item st p.isList (x:=u) (by simpa using hu) fun h' st' sb => ?_
  have I1:Inv X pins σ H {s with heap:=h'}:=I.turned (t':=s.toks) (fun b o hb e=>(sb.2 b hb).trans e) f0 f1 f3 f4 f5
  obtain⟨o,e,c,d⟩:=id st'
  exact⟨u,rfl,go_of (s:={s with heap:=h'}) e c d (by decide) ⟨x,H,I1,ru,⟨rfl,fun ys hy=>by rw[I.list_inj hy hq];exact hx⟩,st',fun b hb=>(hf b hb).1⟩⟩
 done:=by
  intro X hP hw hK hc i pins s σ H E I hf st hg
  subst hP hw hK
  obtain⟨xs,hq,hx⟩:=hg
  obtain⟨its,rv,p,hz⟩:=I.list hq
  obtain⟨f0,f1,f2,f3,f4,f5⟩:=hf it (by simp)
  have hl:=rv.length
  exact wpAny_pyNext_list_end (I.ok.hd hc) st p.isList (by simp;omega) fun h' eb=>⟨rfl,I.turned (t':=s.toks) (fun b o hb e=>eb b o hb e) f0 f1 f3 f4 f5⟩
 self:=fun _ _ _ _ _ st h=>wpAny_pyIter_listiter st h
theorem turn_tuple{P:Program}{w:World}{K:PySem.W.Frag}{tg:Expr}(a it:Addr):Turn P w K tg (Itt K a) [it] it (fun i h=>h.IsTupleIter it a i) where
 mem:=by simp
 obj:=fun i h st b hb=>by
  have e:b=it:=by simpa using hb
  subst e
  obtain⟨o,e,c,d⟩:=st
  exact⟨o,e,fun v z=>by rw[d] at z;cases z⟩
 keep:=fun i h h' st k=>st.at fun o e=>k it (by simp) o e
 item:=by
  intro X hP hw hK hc i pins s σ H E I hf st hg
  subst hP hw hK
  obtain⟨xs,x,hq,hx⟩:=hg
  obtain⟨its,rv,p,hz⟩:=I.tuple hq
  obtain⟨u,hu,ru⟩:=rv.get hx
  obtain⟨f0,f1,f2,f3,f4,f5⟩:=hf it (by simp)
  refine wpAny_pyNext_tuple_item st (show s.heap.IsTuple a its.toArray from p) (x:=u) (by simpa using hu) fun h' st' sb => ?_
  have I1:Inv X pins σ H {s with heap:=h'}:=I.turned (t':=s.toks) (fun b o hb e=>(sb.2 b hb).trans e) f0 f1 f3 f4 f5
  obtain⟨o,e,c,d⟩:=id st'
  exact⟨u,rfl,go_of (s:={s with heap:=h'}) e c d (by decide) ⟨x,H,I1,ru,⟨rfl,fun ys hy=>by rw[I.tuple_inj hy hq];exact hx⟩,st',fun b hb=>(hf b hb).1⟩⟩
 done:=by
  intro X hP hw hK hc i pins s σ H E I hf st hg
  subst hP hw hK
  obtain⟨xs,hq,hx⟩:=hg
  obtain⟨its,rv,p,hz⟩:=I.tuple hq
  obtain⟨f0,f1,f2,f3,f4,f5⟩:=hf it (by simp)
  have hl:=rv.length
  exact wpAny_pyNext_tuple_end (I.ok.hd hc) st (show s.heap.IsTuple a its.toArray from p) (by simp;omega) fun h' eb=>⟨rfl,I.turned (t':=s.toks) (fun b o hb e=>eb b o hb e) f0 f1 f3 f4 f5⟩
 self:=fun _ _ _ _ _ st h=>wpAny_pyIter_tupleiter st h
theorem turn_range{P:Program}{w:World}{K:PySem.W.Frag}{tg:Expr}(it:Addr)(lo:Int)(n:Nat):Turn P w K tg (Itr lo n) [it] it (fun i h=>IsRangeIter h it (lo+(i:Nat)*1) ((n:Int)-(i:Nat)) 1) where
 mem:=by simp
 obj:=fun i h st b hb=>by
  have e:b=it:=by simpa using hb
  subst e
  exact⟨_,st,fun v z=>by
   have z':Data.fields _=Data.cell v:=z
   cases z'⟩
 keep:=fun i h h' st k=>k it (by simp) _ st
 item:=by
  intro X hP hw hK hc i pins s σ H E I hf st hg
  subst hP hw hK
  obtain⟨f0,f1,f2,f3,f4,f5⟩:=hf it (by simp)
  have W:=Walks.range (prog:=X.prog) (w:=X.w) (I.ok.hd hc) it lo 1 n
  refine W.item i s _ _ hg st fun v h' tk hv st' kk => ?_
  obtain⟨t,rfl⟩:=hv
  have I1:Inv X pins σ H {s with heap:=h',toks:=tk}:=I.turned (fun b o hb e=>kk b o (by simpa using hb) e) f0 f1 f3 f4 f5
  refine⟨_,rfl,go_of (s:={s with heap:=h',toks:=tk}) (n:="range_iterator") st' rfl rfl (by decide) ⟨.int (lo+i),H,I1,⟨t,?_⟩,⟨rfl,rfl⟩,st',fun b hb=>(hf b hb).1⟩⟩
  rw[Int.mul_one]
 done:=by
  intro X hP hw hK hc i pins s σ H E I hf st hg
  subst hP hw hK
  obtain⟨f0,f1,f2,f3,f4,f5⟩:=hf it (by simp)
  exact wpAny_pyNext_range_end (I.ok.hd hc) st (by have:n<=i:=hg;omega) fun h' eb=>⟨rfl,I.turned (t':=s.toks) (fun b o hb e=>eb b o hb e) f0 f1 f3 f4 f5⟩
 self:=fun _ _ _ _ _ st h=>wpAny_pyIter_rangeiter st h
end L2
namespace L2
open PySem PySem.Spec PyProof.Rows
section
variable {X:Cx}{tg:Expr}
noncomputable def iList(K:PySem.W.Frag)(tl:TE):TI:=fun σ H R=>tl σ H fun x H1=>∃ a,x = .ref a/\(∃ xs,SqL K H1 a xs)/\R (Itl K a) H1
noncomputable def iTup(K:PySem.W.Frag)(tl:TE):TI:=fun σ H R=>tl σ H fun x H1=>∃ a,x = .ref a/\(∃ xs,SqT K H1 a xs)/\R (Itt K a) H1
theorem pi_list{l:Expr}{tl:TE}(hl:PE X l tl):PI X tg l (iList X.K tl):=by
 intro pins s σ H R I h
 refine thn (hl pins s σ H _ I h) fun v s1 ⟨x,H1,I1,r1,q1⟩ => ?_
 obtain⟨a,e,⟨xs,hq⟩,q⟩:=q1
 subst e
 cases r1
 obtain⟨its,rv,p,hz⟩:=I1.list hq
 refine wpAny_pyIter_list p.isList ?_
 refine⟨s1.heap.objs.size,[s1.heap.objs.size],_,_,H1,rfl,I1.kept (t':=s1.toks) fun b o e=>Heap.get?_push_of_some _ e,turn_list a _,⟨_,Heap.get?_push_size _ rfl,rfl,rfl⟩,fun b hb => ?_,q⟩
 have e:b=s1.heap.objs.size:=by simpa using hb
 subst e
 exact I1.fpOk (Nat.le_refl _) (I1.hok.fresh (Nat.le_refl _))
theorem pi_tup{l:Expr}{tl:TE}(hl:PE X l tl):PI X tg l (iTup X.K tl):=by
 intro pins s σ H R I h
 refine thn (hl pins s σ H _ I h) fun v s1 ⟨x,H1,I1,r1,q1⟩ => ?_
 obtain⟨a,e,⟨xs,hq⟩,q⟩:=q1
 subst e
 cases r1
 obtain⟨its,rv,p,hz⟩:=I1.tuple hq
 refine wpAny_pyIter_tuple (show s1.heap.IsTuple a its.toArray from p) ?_
 refine⟨s1.heap.objs.size,[s1.heap.objs.size],_,_,H1,rfl,I1.kept (t':=s1.toks) fun b o e=>Heap.get?_push_of_some _ e,turn_tuple a _,⟨_,Heap.get?_push_size _ rfl,rfl,rfl⟩,fun b hb => ?_,q⟩
 have e:b=s1.heap.objs.size:=by simpa using hb
 subst e
 exact I1.fpOk (Nat.le_refl _) (I1.hok.fresh (Nat.le_refl _))
theorem range_it{pins:List (Addr × Obj)}{σ:St}{H:Hp}{s:Shared}{R:It->Hp->Prop}{E:Value->Shared->Prop}{lo hi:Int}{t u v:Tok}{tk:Nat}(I:Inv X pins σ H s)(h1 : -(2 ^ 62)<=lo)(h2:lo<2 ^ 62)(h3 : -(2 ^ 62)<=hi)(h4:hi<2 ^ 62)
 (q:R (Itr lo (hi-lo).toNat) H):wpAny (model X.prog X.w) X.A (pyIter (.ref s.heap.objs.size)) (PIE X pins σ tg R) E {s with heap:=s.heap.push {cls:=.type "range",data:=.fields #[.int lo t,.int hi u,.int 1 v]},toks:=tk}:=by
 refine wpAny_pyIter_range (IsRange.new ..) (small_one h1 h2 h3 h4) ?_
 have I1:Inv X pins σ H {s with heap:=s.heap.push {cls:=.type "range",data:=.fields #[.int lo t,.int hi u,.int 1 v]},toks:=tk}:=I.kept fun b o e=>Heap.get?_push_of_some _ e
 refine⟨(s.heap.push {cls:=.type "range",data:=.fields #[.int lo t,.int hi u,.int 1 v]}).objs.size,[(s.heap.push {cls:=.type "range",data:=.fields #[.int lo t,.int hi u,.int 1 v]}).objs.size],_,_,H,rfl,
  I1.kept (t':=tk) fun b o e=>Heap.get?_push_of_some _ e,turn_range _ lo (hi-lo).toNat,?_,fun b hb => ?_,q⟩
 ·have e1:lo+((0:Nat):Int)*1=lo:=by simp
  have e2:(((hi-lo).toNat:Nat):Int)-((0:Nat):Int)=Builtin.Range.rangeSize lo hi 1:=by rw[rangeSize_one];split<;>omega
  show IsRangeIter _ _ (lo+((0:Nat):Int)*1) ((((hi-lo).toNat:Nat):Int)-((0:Nat):Int)) 1
  rw[e1,e2]
  exact Heap.get?_push_size _ rfl
 ·have e:b=(s.heap.push {cls:=.type "range",data:=.fields #[.int lo t,.int hi u,.int 1 v]}).objs.size:=by simpa using hb
  subst e
  exact I1.fpOk (Nat.le_refl _) (I1.hok.fresh (Nat.le_refl _))
noncomputable def iRng1(ta:TA):TI:=fun σ H R=>ta σ H fun vs H1=>∃ j:Int,vs=[.int j] ∧ -(2 ^ 62)<=j/\j<2 ^ 62/\R (Itr 0 j.toNat) H1
theorem pi_range1{a:Expr}{ta:TA}{p pos:Pos}(hg:Gl X "range")(hm:X.mg "range"=none)(ha:PA X [a] ta)(hs:starEach [a] X.env=[(false,eval a X.env)]:=by rfl):PI X tg (.Call (.Name "range" p) [a] [] pos) (iRng1 ta):=by
 intro pins s σ H R I h
 refine Call_ (ld_blt I hg hm boot_range (PyProof.Rows.callWith_type1 (thn (ha pos pins s σ H _ I h) fun us s1 ⟨vs,H1,I1,r1,q1⟩ => ?_) hs rfl))
 obtain⟨j,e,q1,q2,q⟩:=q1
 subst e
 cases r1 with
 |cons r rr =>
  cases rr
  obtain⟨t,rfl⟩:=r
  exact call_range_1 (range_it I1 (by omega) (by omega) q1 q2 (by simpa using q))
noncomputable def tFor(wi:TI)(g:TG)(tb:TS):TS:=fun D σ H=>wi σ H fun J H1=>∃ W:Nat->Nat->St->Hp->Prop,(∃ m,W 0 m σ H1)/\∀ i m σ H,W i m σ H →
 (J.stop i H/\D.nx σ H)\/(J.go i H/\∃ N:St->Hp->Prop,(∀ σ' H',N σ' H'->∃ m',m'<m/\W (i+1) m' σ' H')/\∀ x H',J.yld i H x H'->g x σ H' fun σ2 H2=>tb {D with nx:=N,ct:=N,bk:=D.nx} σ2 H2)
noncomputable def pinsAt(fp:List Addr)(h:Heap):List (Addr × Obj):=fp.filterMap fun b=>(h.get? b).map fun o=>(b,o)
theorem mem_pinsAt{fp:List Addr}{h:Heap}{b:Addr}{o:Obj}(hb:b∈fp)(e:h.get? b=some o):(b,o)∈pinsAt fp h:=List.mem_filterMap.mpr ⟨b,hb,by rw[e];rfl⟩
theorem of_pinsAt{fp:List Addr}{h:Heap}{p:Addr × Obj}(hp:p∈pinsAt fp h):p.1∈fp/\h.get? p.1=some p.2:=by
 obtain⟨b,hb,e⟩:=List.mem_filterMap.mp hp
 cases q:h.get? b with
 |none=>rw[q] at e;cases e
 |some o =>
  rw[q] at e
  have e':(b,o)=p:=Option.some.inj e
  subst e'
  exact⟨hb,q⟩
theorem Inv.pinned{pins:List (Addr × Obj)}{σ:St}{H:Hp}{s:Shared}{fp:List Addr}(I:Inv X pins σ H s)(hf:∀ b∈fp,FpOk X pins H b)(ho:∀ b∈fp,∃ o,s.heap.get? b=some o/\∀ v,o.data ≠ .cell v):Inv X (pins++pinsAt fp s.heap) σ H s :=
 I.pins_of fun p hp=>(List.mem_append.mp hp).elim (fun z=>I.pin p (List.mem_append_right _ z)) fun z=>by
  obtain⟨hb,e⟩:=of_pinsAt z
  obtain⟨f0,f1,f2,_⟩:=hf p.1 hb
  obtain⟨o,e',d⟩:=ho p.1 hb
  rw[e] at e';cases e'
  exact⟨e,f0,f1,f2,d⟩
theorem Inv.unpinned{pins pl:List (Addr × Obj)}{σ:St}{H:Hp}{s:Shared}(I:Inv X (pins++pl) σ H s):Inv X pins σ H s:=I.pins_of fun p hp=>I.pin p (List.mem_append_right _ (List.mem_append_left _ hp))
theorem ps_for{iter:Expr}{body:List Stmt}{wi:TI}{g:TG}{tb:TS}{pos:Pos}(hp:PassesOwn (model X.prog X.w) X.A X.env X.xe)(hc:X.calm=true)(hi:PI X tg iter wi)(hg:PG X tg g)(hb:PSs X body tb)
 (hs:∀ x,foldedSetIterable iter X.env x=pure x:=by intro _;rfl):PS X (.For tg iter body [] pos) (tFor wi g tb):=by
 intro pins s σ H D I h
 refine wpAny_For (thn (hi pins s σ H _ I h) fun v s1 h1=>thn h1 fun itv s2 h2 => ?_) hs
 obtain⟨it,fp,tn,J,H2,e,I2,T,st2,f2,W,⟨m0,w0⟩,turn⟩:=h2
 subst e
 have stat:∀ {H':Hp},(∀ b∈fp,H' b=none)->∀ b∈fp,FpOk X pins H' b:=fun hn b hb=>⟨hn b hb,(f2 b hb).2⟩
 refine codeAny_forLoop_any (fun n s'=>∃ i σ' H',Inv X pins σ' H' s'/\tn i s'.heap/\(∀ b∈fp,H' b=none)/\W i n σ' H') ?_ m0 ⟨0,σ,H2,I2,st2,fun b hb=>(f2 b hb).1,w0⟩
 rintro n s3 ⟨i,σ3,H3,I3,st3,fr3,w3⟩
 rcases turn i n σ3 H3 w3 with⟨stop,qn⟩ | ⟨go,N,hN,step⟩
 ·refine wpAny_passesOwn hp (thn (T.done X rfl rfl rfl hc i pins s3 σ3 H3 X.xe I3 (stat fr3) st3 stop) fun r s4 ⟨hr,I4⟩ => ?_)
  subst hr
  exact wpAny_execs_nil ⟨σ3,H3,I4,qn⟩
 ·refine wpAny_passesOwn hp (thn (T.item X rfl rfl rfl hc i pins s3 σ3 H3 X.xe I3 (stat fr3) st3 go) fun r s4 ⟨u,hr,h4⟩ => ?_)
  subst hr
  refine wpAny_passesOwn hp (thn h4 fun _ s5 ⟨x,H5,I5,r5,y5,st5,fr5⟩ => ?_)
  have I5':=I5.pinned (stat fr5) (T.obj _ _ st5)
  refine wpAny_passesOwn hp (thn (hg _ s5 σ3 H5 x u _ I5' r5 (step x H5 y5)) fun _ s6 ⟨σ6,H6,I6,q6⟩ => ?_)
  refine wpAny_passesOwn hp (thn (hb _ s6 σ6 H6 _ I6 q6) fun f s7 q7 => ?_)
  have again:∀ {σ7:St} {H7:Hp},Inv X (pins++pinsAt fp s5.heap) σ7 H7 s7->N σ7 H7->∃ m,m<n/\∃ i σ' H',Inv X pins σ' H' s7/\tn i s7.heap/\(∀ b∈fp,H' b=none)/\W i m σ' H':=fun {σ7 H7} I7 n7=>by
   obtain⟨m',hm,w7⟩:=hN σ7 H7 n7
   refine⟨m',hm,i+1,σ7,H7,I7.unpinned,T.keep _ _ _ st5 fun b hb o e=>(I7.pin (b,o) (List.mem_append_right _ (List.mem_append_right _ (mem_pinsAt hb e)))).1,fun b hb => ?_,w7⟩
   obtain⟨o,e,d⟩:=T.obj _ _ st5 b hb
   exact(I7.pin (b,o) (List.mem_append_right _ (List.mem_append_right _ (mem_pinsAt hb e)))).2.1
  cases f with
  |next=>obtain⟨σ7,H7,I7,n7⟩:=q7;exact again I7 n7
  |cont=>obtain⟨σ7,H7,I7,n7⟩:=q7;exact again I7 n7
  |brk=>obtain⟨σ7,H7,I7,q7⟩:=q7;exact⟨σ7,H7,I7.unpinned,q7⟩
  |ret v=>obtain⟨x7,σ7,H7,I7,r7,q7⟩:=q7;exact⟨x7,σ7,H7,I7.unpinned,r7,q7⟩
end
end L2
namespace L2
open PySem PySem.Spec PyProof.Rows
noncomputable abbrev R2:=V->V->Hp->VK->Prop
noncomputable def OpR(X:Cx)(f:Value->Value->Sem Value)(r:R2):Prop :=
 ∀ (pins:List (Addr × Obj)) (s:Shared) (σ:St) (H:Hp) (x y:V) (v u:Value) (Q:VK),Inv X pins σ H s->RelV x v->RelV y u->r x y H Q →
  wpAny (model X.prog X.w) X.A (f v u) (EP X pins σ Q) X.xe s
noncomputable def UnR(X:Cx)(f:Value->Sem Value)(r:V->Hp->VK->Prop):Prop :=
 ∀ (pins:List (Addr × Obj)) (s:Shared) (σ:St) (H:Hp) (x:V) (v:Value) (Q:VK),Inv X pins σ H s->RelV x v->r x H Q →
  wpAny (model X.prog X.w) X.A (f v) (EP X pins σ Q) X.xe s
noncomputable def CallR(X:Cx)(f:Value)(r:List V->Hp->VK->Prop):Prop :=
 ∀ (pins:List (Addr × Obj)) (s:Shared) (σ:St) (H:Hp) (xs:List V) (us:List Value) (Q:VK),Inv X pins σ H s->Vals xs us->r xs H Q →
  wpAny (model X.prog X.w) X.A (call f us) (EP X pins σ Q) X.xe s
noncomputable def TruR(X:Cx)(r:V->Hp->(Bool->Hp->Prop)->Prop):Prop :=
 ∀ (pins:List (Addr × Obj)) (s:Shared) (σ:St) (H:Hp) (x:V) (v:Value) (Q:Bool->Hp->Prop),Inv X pins σ H s->RelV x v->r x H Q →
  wpAny (model X.prog X.w) X.A (truthy v) (TP X pins σ Q) X.xe s
noncomputable def tOp(r:R2)(ta tb:TE):TE:=fun σ H Q=>ta σ H fun x H1=>tb σ H1 fun y H2=>r x y H2 Q
noncomputable def tUn(r:V->Hp->VK->Prop)(ta:TE):TE:=fun σ H Q=>ta σ H fun x H1=>r x H1 Q
noncomputable def rI(C:Int->Int->Prop)(g:Int->Int->V):R2:=fun x y H Q=>∃ i j,x = .int i/\y = .int j/\C i j/\Q (g i j) H
noncomputable def rI0(g:Int->Int->V):R2:=fun x y H Q=>∃ i j,x = .int i/\y = .int j/\Q (g i j) H
noncomputable def rU(g:Int->V):V->Hp->VK->Prop:=fun x H Q=>∃ i,x = .int i/\Q (g i) H
section
variable {X:Cx}{a b c:Expr}{ta tb tc:TE}{pos:Pos}
theorem binT(ha:PE X a ta)(hb:PE X b tb){pins:List (Addr × Obj)}{s:Shared}{σ:St}{H:Hp}{R:V->V->Hp->Prop}(I:Inv X pins σ H s)
 (h:ta σ H fun x H1=>tb σ H1 fun y H2=>R x y H2) {Q:Value->Shared->Prop} {f:Value->Value->Sem Value}
 (hf:∀ v u s2 x y H2,Inv X pins σ H2 s2->RelV x v->RelV y u->R x y H2->wpAny (model X.prog X.w) X.A (f v u) Q X.xe s2) :
 wpAny (model X.prog X.w) X.A (eval a X.env) (fun v s₁=>wpAny (model X.prog X.w) X.A (eval b X.env) (fun u s₂=>wpAny (model X.prog X.w) X.A (f v u) Q X.xe s₂) X.xe s₁) X.xe s:=by
 refine thn (ha pins s σ H _ I h) fun v s1 ⟨x,H1,I1,r1,q1⟩ => ?_
 refine thn (hb pins s1 σ H1 _ I1 q1) fun u s2 ⟨y,H2,I2,r2,q2⟩ => ?_
 exact hf v u s2 x y H2 I2 r1 r2 q2
theorem pe_op{op:Operator}{r:R2}(ho:OpR X (binaryOp op) r)(ha:PE X a ta)(hb:PE X b tb):PE X (.BinOp a op b pos) (tOp r ta tb):=by
 intro pins s σ H Q I h
 exact wpAny_BinOp (binT ha hb I h fun v u s2 x y H2 I2 rx ry q=>ho pins s2 σ H2 x y v u Q I2 rx ry q)
theorem pe_un{op:UnaryOp}{r:V->Hp->VK->Prop}(ho:UnR X (unaryOp op) r)(ha:PE X a ta):PE X (.UnaryOp op a pos) (tUn r ta):=by
 intro pins s σ H Q I h
 exact UnaryOp_ (thn (ha pins s σ H _ I h) fun v s1 ⟨x,H1,I1,r1,q1⟩=>ho pins s1 σ H1 x v Q I1 r1 q1)
theorem opI{f:Value->Value->Sem Value}{C:Int->Int->Prop}{g:Int->Int->Int}
 (rule:∀ (i j:Int) (t u:Tok) (s:Shared) (Q:Value->Shared->Prop) (E:Value->Shared->Prop),C i j->Q (.int (g i j) s.toks) {s with toks:=s.toks+1}->wpAny (model X.prog X.w) X.A (f (.int i t) (.int j u)) Q E s) :
 OpR X f (rI C fun i j=>.int (g i j)):=by
 intro pins s σ H x y v u Q I rx ry h
 obtain⟨i,j,rfl,rfl,hc,q⟩:=h
 obtain⟨t,rfl⟩:=rx
 obtain⟨t',rfl⟩:=ry
 exact rule i j t t' s _ _ hc ⟨.int (g i j),H,I.tok _,⟨_,rfl⟩,q⟩
theorem opI0{f:Value->Value->Sem Value}{g:Int->Int->Int}
 (rule:∀ (i j:Int) (t u:Tok) (s:Shared) (Q:Value->Shared->Prop) (E:Value->Shared->Prop),Q (.int (g i j) s.toks) {s with toks:=s.toks+1}->wpAny (model X.prog X.w) X.A (f (.int i t) (.int j u)) Q E s) :
 OpR X f (rI0 fun i j=>.int (g i j)):=by
 intro pins s σ H x y v u Q I rx ry h
 obtain⟨i,j,rfl,rfl,q⟩:=h
 obtain⟨t,rfl⟩:=rx
 obtain⟨t',rfl⟩:=ry
 exact rule i j t t' s _ _ ⟨.int (g i j),H,I.tok _,⟨_,rfl⟩,q⟩
theorem opB0{f:Value->Value->Sem Value}{g:Int->Int->Bool}
 (rule:∀ (i j:Int) (t u:Tok) (s:Shared) (Q:Value->Shared->Prop) (E:Value->Shared->Prop),Q (.bool (g i j)) s->wpAny (model X.prog X.w) X.A (f (.int i t) (.int j u)) Q E s) :
 OpR X f (rI0 fun i j=>.bl (g i j)):=by
 intro pins s σ H x y v u Q I rx ry h
 obtain⟨i,j,rfl,rfl,q⟩:=h
 obtain⟨t,rfl⟩:=rx
 obtain⟨t',rfl⟩:=ry
 exact rule i j t t' s _ _ ⟨.bl (g i j),H,I,rfl,q⟩
noncomputable def CDiv(i j:Int):Prop:=0<j/\j<1073741824
noncomputable def CMul(i j:Int):Prop:=(-(2 ^ 64)<i/\i<2 ^ 64)\/(-(2 ^ 64)<j/\j<2 ^ 64)
theorem CMul.ok{i j:Int}(h:CMul i j):IntMulOk i j:=by
 rcases h with⟨h1,h2⟩ | ⟨h1,h2⟩
 ·exact .of_left (intBits_le_64 h1 h2)
 ·exact .of_right (intBits_le_64 h1 h2)
theorem op_add:OpR X (binaryOp .Add) (rI0 fun i j=>.int (i+j)):=opI0 fun _ _ _ _ _ _ _ q=>add_int q
theorem op_sub:OpR X (binaryOp .Sub) (rI0 fun i j=>.int (i-j)):=opI0 fun _ _ _ _ _ _ _ q=>sub_int q
theorem op_mul:OpR X (binaryOp .Mult) (rI CMul fun i j=>.int (i*j)):=opI fun _ _ _ _ _ _ _ hc q=>mul_int q hc.ok
theorem op_fdiv:OpR X (binaryOp .FloorDiv) (rI CDiv fun i j=>.int (i / j)):=opI fun i j _ _ _ _ _ hc q=>by
 have h1:(0:Int)<j:=hc.1
 have h2:j<1073741824:=hc.2
 exact floordiv_int (by omega) (by rw[Int.fdiv_eq_ediv_of_nonneg i (by omega)];exact q) (.inl (PyProof.noPylong_small (by omega)))
theorem op_mod:OpR X (binaryOp .Mod) (rI (fun _ j=>0<j) fun i j=>.int (i % j)):=opI fun i j _ _ _ _ _ hc q=>by
 have h1:(0:Int)<j:=hc
 exact mod_int' (by omega) (by rw[Int.fmod_eq_emod_of_nonneg i (by omega)];exact q)
theorem unI{f:Value->Sem Value}{g:Int->Int}
 (rule:∀ (i:Int) (t:Tok) (s:Shared) (Q:Value->Shared->Prop) (E:Value->Shared->Prop),Q (.int (g i) s.toks) {s with toks:=s.toks+1}->wpAny (model X.prog X.w) X.A (f (.int i t)) Q E s) :
 UnR X f (rU fun i=>.int (g i)):=by
 intro pins s σ H x v Q I rx h
 obtain⟨i,rfl,q⟩:=h
 obtain⟨t,rfl⟩:=rx
 exact rule i t s _ _ ⟨.int (g i),H,I.tok _,⟨_,rfl⟩,q⟩
theorem un_neg:UnR X (unaryOp .USub) (rU fun i=>.int (-i)):=unI fun _ _ _ _ _ q=>neg_int q
end
section
variable {X:Cx}{a b c:Expr}{ta tb tc:TE}{pos:Pos}
theorem fin_bl{pins:List (Addr × Obj)}{σ:St}{H:Hp}{s:Shared}{Q:VK}{k k':Bool}(I:Inv X pins σ H s)(q:Q (.bl k) H)(e:k=k'):EP X pins σ Q (.bool k') s:=by
 subst e
 exact⟨.bl k,H,I,rfl,q⟩
theorem op_lt:OpR X (compareOp .Lt) (rI0 fun i j=>.bl (decide (i<j))):=opB0 fun _ _ _ _ _ _ _ q=>lt_int q
theorem op_le:OpR X (compareOp .LtE) (rI0 fun i j=>.bl (decide (i<=j))):=opB0 fun _ _ _ _ _ _ _ q=>le_int q
theorem op_gt:OpR X (compareOp .Gt) (rI0 fun i j=>.bl (decide (j<i))):=opB0 fun _ _ _ _ _ _ _ q=>gt_int q
theorem op_ge:OpR X (compareOp .GtE) (rI0 fun i j=>.bl (decide (j<=i))):=opB0 fun _ _ _ _ _ _ _ q=>ge_int q
theorem op_isN:OpR X (compareOp .Is) (fun x y H Q=>y = .non/\Q (.bl (decide (x = .non))) H):=by
 intro pins s σ H x y v u Q I rx ry h
 obtain⟨rfl,q⟩:=h
 cases ry
 refine is_none_gen (fin_bl I q ?_)
 cases x<;>first
  | (cases rx;rfl)
  | (obtain⟨t,rfl⟩:=rx;rfl)
theorem op_notN:OpR X (compareOp .IsNot) (fun x y H Q=>y = .non/\Q (.bl (!decide (x = .non))) H):=by
 intro pins s σ H x y v u Q I rx ry h
 obtain⟨rfl,q⟩:=h
 cases ry
 refine isnot_none_gen (fin_bl I q ?_)
 cases x<;>first
  | (cases rx;rfl)
  | (obtain⟨t,rfl⟩:=rx;rfl)
theorem OpR.or{f:Value->Value->Sem Value}{r r':R2}(h:OpR X f r)(h':OpR X f r'):OpR X f (fun x y H Q=>r x y H Q\/r' x y H Q):=by
 intro pins s σ H x y v u Q I rx ry q
 rcases q with q|q
 ·exact h pins s σ H x y v u Q I rx ry q
 ·exact h' pins s σ H x y v u Q I rx ry q
theorem pe_cmpR{op:CmpOp}{r:R2}(ho:OpR X (compareOp op) r)(ha:PE X a ta)(hb:PE X b tb)(hm:behindInMarks op b=false):PE X (.Compare a [op] [b] pos) (tOp r ta tb):=by
 intro pins s σ H Q I h
 exact wpAny_Compare1 (binT ha hb I h fun v u s2 x y H2 I2 rx ry q=>ho pins s2 σ H2 x y v u Q I2 rx ry q) hm
noncomputable def tTest(t:TE):TT:=fun σ H Q=>t σ H fun x H'=>∃ k,x = .bl k/\Q k H'
theorem pt_cmpR{op:CmpOp}{r:R2}(ho:OpR X (compareOp op) r)(ha:PE X a ta)(hb:PE X b tb)(hm:behindInMarks op b=false):PT X (.Compare a [op] [b] pos) (tTest (tOp r ta tb)):=by
 intro pins s σ H Q I h
 refine wpAny_isTrue_Compare1 (thn (ha pins s σ H _ I h) fun v s1 ⟨x,H1,I1,r1,q1⟩=>thn (hb pins s1 σ H1 _ I1 q1) fun u s2 ⟨y,H2,I2,r2,q2⟩ =>
  thn (ho pins s2 σ H2 x y v u _ I2 r1 r2 q2) fun c s3 ⟨z,H3,I3,r3,k,e,q3⟩ => ?_) hm
 subst e
 cases r3
 exact wpAny_truthy_bool ⟨H3,I3,q3⟩
noncomputable def tChain(r r':R2)(ta tb tc:TE):TE:=fun σ H Q=>ta σ H fun x H1=>tb σ H1 fun y H2=>r x y H2 fun z H3=>∃ k,z = .bl k ∧
 (if k=true then tc σ H3 fun w' H4=>r' y w' H4 Q else Q (.bl false) H3)
theorem pe_chain{op op':CmpOp}{r r':R2}(ho:OpR X (compareOp op) r)(ho':OpR X (compareOp op') r')(ha:PE X a ta)(hb:PE X b tb)(hc:PE X c tc)
 (hm:lastMarks [op,op'] [b,c]=false:=by with_unfolding_all rfl):PE X (.Compare a [op,op'] [b,c] pos) (tChain r r' ta tb tc):=by
 intro pins s σ H Q I h
 refine Compare_chain (thn (ha pins s σ H _ I h) fun v s1 ⟨x,H1,I1,r1,q1⟩=>chain_link (thn (hb pins s1 σ H1 _ I1 q1) fun u s2 ⟨y,H2,I2,r2,q2⟩ =>
  thn (ho pins s2 σ H2 x y v u _ I2 r1 r2 q2) fun d s3 ⟨z,H3,I3,r3,k,e,q3⟩ => ?_)) hm
 subst e
 cases r3
 refine wpAny_truthy_bool ?_
 cases k with
 |false=>exact ite_ff ⟨.bl false,H3,I3,rfl,q3⟩
 |true=>exact ite_tt (chain_last (thn (hc pins s3 σ H3 _ I3 q3) fun w' s4 ⟨z',H4,I4,r4,q4⟩=>ho' pins s4 σ H4 y z' u w' Q I4 r2 r4 q4))
theorem pt_chain{op op':CmpOp}{r r':R2}(ho:OpR X (compareOp op) r)(ho':OpR X (compareOp op') r')(ha:PE X a ta)(hb:PE X b tb)(hc:PE X c tc)
 (hm:lastMarks [op,op'] [b,c]=false:=by with_unfolding_all rfl):PT X (.Compare a [op,op'] [b,c] pos) (tTest (tChain r r' ta tb tc)):=by
 intro pins s σ H Q I h
 refine isTrue_chain (thn (ha pins s σ H _ I h) fun v s1 ⟨x,H1,I1,r1,q1⟩=>test_link (thn (hb pins s1 σ H1 _ I1 q1) fun u s2 ⟨y,H2,I2,r2,q2⟩ =>
  thn (ho pins s2 σ H2 x y v u _ I2 r1 r2 q2) fun d s3 ⟨z,H3,I3,r3,k,e,q3⟩ => ?_)) hm
 subst e
 cases r3
 refine wpAny_truthy_bool ?_
 cases k with
 |false =>
  obtain⟨k',e',q'⟩:=q3
  cases e'
  exact ite_ff ⟨H3,I3,q'⟩
 |true =>
  refine ite_tt (test_last (thn (hc pins s3 σ H3 _ I3 q3) fun w' s4 ⟨z',H4,I4,r4,q4⟩=>thn (ho' pins s4 σ H4 y z' u w' _ I4 r2 r4 q4) fun d' s5 ⟨z2,H5,I5,r5,k2,e2,q5⟩ => ?_))
  subst e2
  cases r5
  exact wpAny_truthy_bool ⟨H5,I5,q5⟩
noncomputable def TruV(K:PySem.W.Frag)(x:V)(H:Hp)(k:Bool):Prop :=
 match x with
 | .non=>k=false
 | .bl b=>k=b
 | .int i=>k=(i !=0)
 | .str y=>y.length<=sizeLine/\k=((y.length:Int) !=0)
 | .byt y=>y.size<=sizeLine/\k=((y.size:Int) !=0)
 | .ref p=>(∃ xs,SqL K H p xs/\k = !xs.isEmpty)\/(∃ xs,SqT K H p xs/\k = !xs.isEmpty)\/∃ kvs,H p=some (.dK kvs)/\k = !kvs.isEmpty
 |_=>False
theorem isEmpty_kv{κ:Type}{kvs:List (κ × V)}{vs:List (κ × Value)}(r:KV kvs vs):(!vs.isEmpty) = !kvs.isEmpty:=by
 cases r<;>rfl
theorem isEmpty_of{xs:List V}{its:List Value}(r:Vals xs its):(!its.toArray.isEmpty) = !xs.isEmpty:=by
 cases r<;>simp
theorem line63:(sizeLine:Nat)<2 ^ 63:=by rw[sizeLine_eq];decide
theorem tru_ok:TruR X (fun x H Q=>∃ k,TruV X.K x H k/\Q k H):=by
 intro pins s σ H x v Q I rx h
 obtain⟨k,e,q⟩:=h
 have hl:=line63
 have hs:sizeLine=16777216:=sizeLine_eq
 cases x with
 |non =>
  cases rx
  have e':k=false:=e
  subst e'
  exact truthy_none ⟨H,I,q⟩
 |bl b =>
  cases rx
  have e':k=b:=e
  subst e'
  exact wpAny_truthy_bool ⟨H,I,q⟩
 |int i =>
  obtain⟨t,rfl⟩:=rx
  have e':k=(i !=0):=e
  subst e'
  exact PySem.P.truthy_int ⟨H,I,q⟩
 |str y =>
  obtain⟨t,rfl⟩:=rx
  obtain⟨hy,e'⟩:y.length<=sizeLine/\k=((y.length:Int) !=0):=e
  subst e'
  exact PySem.P.truthy_str (by omega) ⟨H,I.tok _,q⟩
 |byt y =>
  obtain⟨t,rfl⟩:=rx
  obtain⟨hy,e'⟩:y.size<=sizeLine/\k=((y.size:Int) !=0):=e
  subst e'
  exact PySem.W.truthy_bytes (by omega) ⟨H,I.tok _,q⟩
 |ref p =>
  cases rx
  have e':(∃ xs,SqL X.K H p xs/\k = !xs.isEmpty)\/(∃ xs,SqT X.K H p xs/\k = !xs.isEmpty)\/∃ kvs,H p=some (.dK kvs)/\k = !kvs.isEmpty:=e
  rcases e' with⟨xs,hx,e'⟩ | ⟨xs,hx,e'⟩ | ⟨kvs,hx,e'⟩
  ·subst e'
   obtain⟨its,r,pl,hz⟩:=I.list hx
   have hlen:=r.length
   exact wpAny_truthy_list pl.isList (by simp only[List.size_toArray];omega) ⟨H,I.tok _,by rw[isEmpty_of r];exact q⟩
  ·subst e'
   obtain⟨its,r,pl,hz⟩:=I.tuple hx
   have hlen:=r.length
   exact truthy_tuple pl (by simp only[List.size_toArray];omega) ⟨H,I.tok _,by rw[isEmpty_of r];exact q⟩
  ·subst e'
   obtain⟨hz,hS,vs,r,m⟩:kvs.length<=sizeLine/\(p == sysModules)=false/\∃ vs,KV kvs vs/\s.heap.DictOf (mixKind X.prog X.w) p vs:=I.hok p _ hx
   have hlen:kvs.length=vs.length:=Paired.length r
   exact wpAny_truthy_dict hS m (by omega) ⟨H,I.tok _,by rw[isEmpty_kv r];exact q⟩
 |_=>exact(show False from e).elim
theorem pt_truth(ha:PE X a ta)(he:∀ whole,isTrue a X.env whole=(do let v ← whole;standAt a.pos;holding [v] (truthy v))) :
 PT X a (fun σ H Q=>ta σ H fun x H'=>∃ k,TruV X.K x H' k/\Q k H'):=by
 intro pins s σ H Q I h
 exact isTrue_plain (thn (ha pins s σ H _ I h) fun v s1 ⟨x,H1,I1,r1,q1⟩=>tru_ok pins s1 σ H1 x v Q I1 r1 q1) (he _)
theorem op_add_str:OpR X (binaryOp .Add) (fun x y H Q=>∃ i j,x = .str i/\y = .str j/\i.length+j.length<=sizeLine/\Q (.str (i++j)) H):=by
 intro pins s σ H x y v u Q I rx ry h
 obtain⟨i,j,rfl,rfl,hz,q⟩:=h
 obtain⟨t,rfl⟩:=rx
 obtain⟨t',rfl⟩:=ry
 exact add_str (fun t' tk=>⟨.str (i++j),H,I.tok _,⟨_,rfl⟩,q⟩) hz
theorem vals1{x:V}{us:List Value}(r:Vals [x] us):∃ u,us=[u]/\RelV x u:=by
 cases r with
 |cons r1 r2=>cases r2;exact⟨_,rfl,r1⟩
theorem vals2{x y:V}{us:List Value}(r:Vals [x,y] us):∃ u w',us=[u,w']/\RelV x u/\RelV y w':=by
 cases r with
 |cons r1 r2 =>
  cases r2 with
  |cons r3 r4=>cases r4;exact⟨_,_,rfl,r1,r3⟩
theorem call_max2(hc:X.calm=true):CallR X (.builtin "max") (fun xs H Q=>∃ i j,xs=[.int i,.int j]/\Q (.int (if j > i then j else i)) H):=by
 intro pins s σ H xs us Q I r h
 obtain⟨i,j,rfl,q⟩:=h
 obtain⟨u,w',rfl,⟨t,rfl⟩,⟨t',rfl⟩⟩:=vals2 r
 refine max_two_ints (I.ok.hd hc) fun h' tk k=>⟨_,H,I.kept k,?_,q⟩
 by_cases hj:j > i
 ·rw[if_pos hj,if_pos hj];exact⟨_,rfl⟩
 ·rw[if_neg hj,if_neg hj];exact⟨_,rfl⟩
noncomputable def LenV(K:PySem.W.Frag)(x:V)(H:Hp)(n:Nat):Prop :=
 match x with
 | .str y=>y.length<=sizeLine/\n=y.length
 | .byt y=>y.size<=sizeLine/\n=y.size
 | .ref p=>(∃ xs,SqL K H p xs/\n=xs.length)\/∃ xs,SqT K H p xs/\n=xs.length
 |_=>False
theorem call_len:CallR X (.builtin "len") (fun xs H Q=>∃ x n,xs=[x]/\LenV X.K x H n/\Q (.int n) H):=by
 intro pins s σ H xs us Q I r h
 obtain⟨x,n,rfl,e,q⟩:=h
 obtain⟨u,rfl,rx⟩:=vals1 r
 have hl:=line63
 have hs:sizeLine=16777216:=sizeLine_eq
 cases x with
 |str y =>
  obtain⟨t,rfl⟩:=rx
  obtain⟨hy,e'⟩:y.length<=sizeLine/\n=y.length:=e
  subst e'
  exact len_str (by omega) ⟨.int _,H,I.tok _,⟨_,rfl⟩,q⟩
 |byt y =>
  obtain⟨t,rfl⟩:=rx
  obtain⟨hy,e'⟩:y.size<=sizeLine/\n=y.size:=e
  subst e'
  exact PySem.W.len_bytes (by omega) ⟨.int _,H,I.tok _,⟨_,rfl⟩,q⟩
 |ref p =>
  cases rx
  have e':(∃ xs,SqL X.K H p xs/\n=xs.length)\/∃ xs,SqT X.K H p xs/\n=xs.length:=e
  rcases e' with⟨xs,hx,e'⟩ | ⟨xs,hx,e'⟩
  ·subst e'
   obtain⟨its,r',pl,hz⟩:=I.list hx
   have hlen:=r'.length
   exact Calls.call_len_list pl.isList (by simp only[List.size_toArray];omega) ⟨.int xs.length,H,I.tok _,⟨_,by simp only[List.size_toArray];rw[hlen]⟩,q⟩
  ·subst e'
   obtain⟨its,r',pl,hz⟩:=I.tuple hx
   have hlen:=r'.length
   exact len_tuple pl (by simp only[List.size_toArray];omega) ⟨.int xs.length,H,I.tok _,⟨_,by simp only[List.size_toArray];rw[hlen]⟩,q⟩
 |_=>exact(show False from e).elim
end
end L2
namespace L2
open PySem PySem.Spec PyProof.Rows
structure ObjM(h:Heap)(x dx C:Addr)(mA:Str->Option Value):Prop where
 obj:h.get? x=some (PySem.W.instObj C dx)
 ns:h.Ns1 dx mA
 ne:dx≠x
theorem lookIn_ns{h:Heap}{dx:Addr}{mA:Str->Option Value}(n:h.Ns1 dx mA):∃ od,h.get? dx=some od/\∀ name,PySem.W.lookIn name od=some (mA name):=by
 obtain⟨o,es,ep,ho,hd,hk,_,hm⟩:=n
 refine⟨o,ho,fun name => ?_⟩
 have e:=hm name
 unfold nsFind findBy at e
 rw[← Array.find?_toList] at e
 unfold PySem.W.lookIn
 rw[hd]
 dsimp only
 split
 ·rename_i y q
  rw[q] at e
  exact congrArg some e
 ·rename_i q
  rw[q] at e
  have a:es.toList.any (·.refKey)=false:=by
   rw[List.any_eq_false]
   intro y hy
   obtain⟨z,t,hkey⟩:=hk y (Array.mem_toList_iff.mp hy)
   simp[DictEntry.refKey,hkey]
  have a':¬ es.toList.any (·.refKey)=true:=by rw[a];exact Bool.false_ne_true
  rw[if_neg a']
  exact congrArg some e
theorem ObjM.look{h:Heap}{x dx C:Addr}{mA:Str->Option Value}(I:ObjM h x dx C mA):∃ od,PySem.W.InstAt h x (PySem.W.instObj C dx) C (some od)/\∀ name,PySem.W.lookIn name od=some (mA name) :=
 let ⟨od,ho,hl⟩:=lookIn_ns I.ns
 ⟨od,⟨I.obj,rfl,rfl,ho⟩,hl⟩
section
variable {prog:Program}{w:World}{A:Around}{E:Value->Shared->Prop}{s:Shared}{K:PySem.W.Frag}{x dx C f:Addr}{mA:Str->Option Value}{name:Str}{v:Value}
end
theorem RelO.some_of{v:V}{o:Option Value}(r:RelO (some v) o):∃ u,o=some u/\RelV v u:=by
 cases o with
 |none=>exact(show False from r).elim
 |some u=>exact⟨u,rfl,r⟩
theorem RelO.none_of{o:Option Value}(r:RelO none o):o=none:=by
 cases o with
 |none=>rfl
 |some u=>exact(show False from r).elim
section
variable {P:Program}{w:World}{H H':Hp}{h h':Heap}{a C dx:Addr}{fs fs':List (Str × V)}
end
structure Cls(K:PySem.W.Frag)(C:Addr):Prop where
 pg:PySem.W.plainGet K C Str.empty=true
 hd:PySem.W.hasDictIn K C=true
 po:PySem.W.plainOver K C=true
 sa:PySem.W.findIn K (.ref C) "__setattr__"=some (some (.builtin "object.__setattr__"))
theorem Cls.get{K:PySem.W.Frag}{C:Addr}(c:Cls K C)(f:Str):PySem.W.plainGet K C f=true:=c.pg
structure Con(K:PySem.W.Frag)(C:Addr)(f:Str)(v:V)(u:Value):Prop where
 at_:PySem.W.findIn K (.ref C) f=some (some u)
 rel:RelV v u
 get:PySem.W.specialIn K u "__get__"=some none
 cp:PySem.W.copiedNames.contains f=false
structure Meth(K:PySem.W.Frag)(C:Addr)(m:Str)(f:Addr):Prop where
 at_:PySem.W.findIn K (.ref C) m=some (some (.ref f))
 fn:PySem.W.isFn K (.ref f)=true
 kp:PySem.W.keepIn K (.ref f)=true
section
variable {X:Cx}{pins:List (Addr × Obj)}{σ:St}{H:Hp}{s:Shared}{a C dx:Addr}{fs:List (Str × V)}{f:Str}{v:V}{A:Around}{E:Value->Shared->Prop}
theorem Inv.made(I:Inv X pins σ H s):Inv X pins σ (upd (upd H s.heap.objs.size (.own (s.heap.objs.size+1))) (s.heap.objs.size+1) (.ins C s.heap.objs.size []))
 {s with heap:=(s.heap.push PySem.W.emptyDict).push (PySem.W.instObj C s.heap.objs.size)}:=by
 have e1:(s.heap.push PySem.W.emptyDict).get? s.heap.objs.size=some PySem.W.emptyDict:=Heap.get?_push_size s.heap rfl
 have e2:((s.heap.push PySem.W.emptyDict).push (PySem.W.instObj C s.heap.objs.size)).get? (s.heap.objs.size+1)=some (PySem.W.instObj C s.heap.objs.size):=by
  have:=Heap.get?_push_size (s.heap.push PySem.W.emptyDict) (o:=PySem.W.instObj C s.heap.objs.size) rfl
  rwa [Heap.size_push] at this
 have e3:(s.heap.push PySem.W.emptyDict).Ns s.heap.objs.size (fun _=>none):=⟨PySem.W.emptyDict, #[],_,e1,rfl,(fun e he=>absurd he (by simp)),fun _=>rfl⟩
 have I1:=I.laid (a:=s.heap.objs.size) (o:=.own (s.heap.objs.size+1)) (h':=s.heap.push PySem.W.emptyDict) (t':=s.toks) (fun b u q=>Heap.get?_push_of_some _ q) (Nat.le_refl _) ⟨_,e1⟩
 refine I1.laid (a:=s.heap.objs.size+1) (o:=.ins C s.heap.objs.size []) (t':=s.toks) (fun b u q=>Heap.get?_push_of_some _ q) (Nat.le_of_eq (Heap.size_push _ _)) ?_
 have ne:s.heap.objs.size≠s.heap.objs.size+1:=Nat.ne_of_lt (Nat.lt_succ_self _)
 refine⟨by rw[upd_ne ne,upd_same],Nat.zero_le _,ne,e2,fun _=>none,(Heap.Ns1.of_empty e3).at fun o q=>Heap.get?_push_of_some _ q,fun _=>True.intro,fun y hy=>absurd rfl hy⟩
end
section
variable {X:Cx}{o e value:Expr}{f:Str}{pos pos' tpos:Pos}{ta tv:TE}
end
section
variable {X:Cx}{pins:List (Addr × Obj)}{σ:St}{H:Hp}{s:Shared}{A:Around}{E:Value->Shared->Prop}{Q:Value->Shared->Prop}{c:Value}{b:Bool}
inductive TyOf (K:PySem.W.Frag) (H:Hp):V->Value->Prop where
 |non:TyOf K H .non (.type "NoneType")
 |bl (x:Bool):TyOf K H (.bl x) (.type "bool")
 |int (i:Int):TyOf K H (.int i) (.type "int")
 |str (x:Str):TyOf K H (.str x) (.type "str")
 |flt (x:UInt64):TyOf K H (.flt x) (.type "float")
 |lst {a:Addr} {xs:List V} (e:H a=some (.lst xs)):TyOf K H (.ref a) (.type "list")
 |frz {a:Addr} {o:Obj} {xs:List V} (e:H a=some (.frz o (.lst xs))):TyOf K H (.ref a) (.type "list")
 |tup {a:Addr} {xs:List V} (e:H a=some (.tup xs)):TyOf K H (.ref a) (.type "tuple")
 |dK {a:Addr} {kvs:List (Key × V)} (e:H a=some (.dK kvs)):TyOf K H (.ref a) (.type "dict")
 |dT {a:Addr} {kvs:List (List Key × V)} (e:H a=some (.dT kvs)):TyOf K H (.ref a) (.type "dict")
 |ins {a C dx:Addr} {fs:List (Str × V)} (e:H a=some (.ins C dx fs)) (cl:Cls K C) (ha:PySem.W.findIn K (.ref C) "__class__"=some (some (.builtin "object.__class__")))
  (hn:PySem.W.specialIn K (.builtin "object.__class__") "__get__"=some (some (.builtin "getset_descriptor.__get__"))) (htk:PySem.W.takesIn K (.builtin "object.__class__")=some true)
  (hm:PySem.W.mroIn K C (.type "object")=some true):TyOf K H (.ref a) (.ref C)
end
end L2
namespace L2
open PySem PySem.Spec PyProof.Rows
structure Room(k:Nat)(A:Around):Prop where
 hd:A.handled=none
 dp:A.depth+3*k+5<recursionLimit
 un:A.units+16*k+200<cLine
theorem Room.mono{j k:Nat}{A:Around}(r:Room k A)(h:j<=k):Room j A:=⟨r.hd,by have:=r.dp;omega,by have:=r.un;omega⟩
theorem Room.deeper{k:Nat}{A:Around}(r:Room (k+1) A)(env:Env):Room k (A.deeper env) :=
 ⟨r.hd,by have:=r.dp;show A.depth+1+3*k+5<_;omega,by have:=r.un;show A.units+3+16*k+200<_;omega⟩
theorem Room.in1{k:Nat}{A:Around}(r:Room (k+1) A):Room k A.in1 :=
 ⟨r.hd,by have:=r.dp;show A.depth+3*k+5<_;omega,by have:=r.un;show A.units+1+16*k+200<_;omega⟩
theorem make_depth{A:Around}{C:Addr}{us:List Value}{kw:List (Str × Value)}:(A.under (.builtin "type.__call__" ⟨.ref C::us,kw⟩)).depth=A.depth+1:=by
 first|rfl|simp[Around.under,Code.weight,Code.isCreation,Code.isGuard,Code.isCaller,Code.frames,Code.isFrame,guardIds]
theorem make_units{A:Around}{C:Addr}{us:List Value}{kw:List (Str × Value)}:(A.under (.builtin "type.__call__" ⟨.ref C::us,kw⟩)).units=A.units+1:=by
 first|rfl|simp[Around.under,Code.cUnits,Code.frames,Code.isFrame]
theorem Room.make{k:Nat}{A:Around}(r:Room (k+1) A)(C:Addr)(us:List Value)(kw:List (Str × Value)):Room k (A.under (.builtin "type.__call__" ⟨.ref C::us,kw⟩)) :=
 ⟨r.hd,by have:=r.dp;rw[make_depth];omega,by have:=r.un;rw[make_units];omega⟩
theorem Room.depth{k:Nat}{A:Around}(r:Room k A):A.depth<recursionLimit:=by have:=r.dp;omega
theorem Room.units{k:Nat}{A:Around}(r:Room k A):A.units+64<cLine:=by have:=r.un;omega
noncomputable def tNil:TA:=fun _ H Q=>Q [] H
noncomputable def tCons(ta:TE)(tr:TA):TA:=fun σ H Q=>ta σ H fun x H1=>tr σ H1 fun xs H2=>Q (x::xs) H2
section
variable {X:Cx}{e:Expr}{es:List Expr}{te:TE}{t:TA}{pos:Pos}
theorem pa_nil:PA X [] tNil:=fun _ _ _ _ H Q I h=>Calls.spliced_nil ⟨[],H,I,.nil,h⟩
theorem pa_cons(ha:PE X e te)(hr:PA X es t)(hs:starEach (e::es) X.env=(false,eval e X.env)::starEach es X.env:=by rfl):PA X (e::es) (tCons te t):=by
 intro pos pins s σ H Q I h
 rw[hs]
 show wpAny _ _ (spliced ((false,eval e X.env)::backTo pos (starEach es X.env))) _ _ s
 refine Calls.spliced_cons (thn (ha pins s σ H _ I h) fun u s1 ⟨x,H1,I1,r1,q1⟩ => ?_)
 exact thn (hr pos pins s1 σ H1 _ I1 q1) fun us s2 ⟨xs,H2,I2,r2,q2⟩=>⟨x::xs,H2,I2,.cons r1 r2,q2⟩
noncomputable def tTup(t:TA):TE:=fun σ H Q=>t σ H fun xs H1=>xs.length<=sizeLine/\∀ p,H1 p=none->Q (.ref p) (upd H1 p (.tup xs))
noncomputable def tLst(t:TA):TE:=fun σ H Q=>t σ H fun xs H1=>xs.length<=sizeLine/\∀ p,H1 p=none->Q (.ref p) (upd H1 p (.lst xs))
theorem pe_tup{x1}(h:PA X es t):PE X (.Tuple es x1 pos) (tTup t):=by
 intro pins s σ H Q I hq
 refine wpAny_Tuple_spliced (thn (h pos pins s σ H _ I hq) fun us s1 ⟨xs,H1,I1,r,z,q⟩=>⟨by rw[← r.length];exact z,?_⟩)
 have hf:H1 s1.heap.objs.size=none:=I1.hok.fresh (Nat.le_refl _)
 refine⟨.ref s1.heap.objs.size,upd H1 s1.heap.objs.size (.tup xs),I1.laid (t':=s1.toks) (fun b u e=>Heap.get?_push_of_some _ e) (Nat.le_refl _) ?_,rfl,q _ hf⟩
 exact⟨z,us,r,⟨_,Heap.get?_push_size _ rfl,rfl,_,rfl⟩⟩
theorem pe_lst(h:PA X es t):PE X (.List es pos) (tLst t):=by
 intro pins s σ H Q I hq
 refine wpAny_List_spliced (thn (h pos pins s σ H _ I hq) fun us s1 ⟨xs,H1,I1,r,z,q⟩=>⟨by rw[← r.length];exact z,?_⟩)
 have hf:H1 s1.heap.objs.size=none:=I1.hok.fresh (Nat.le_refl _)
 refine⟨.ref s1.heap.objs.size,upd H1 s1.heap.objs.size (.lst xs),I1.laid (t':=s1.toks) (fun b u e=>Heap.get?_push_of_some _ e) (Nat.le_refl _) ?_,rfl,q _ hf⟩
 exact⟨z,us,0,r,Heap.get?_push_size _ rfl⟩
end
noncomputable abbrev Sp:=List V->Hp->VK->XK->Prop
noncomputable abbrev CXT:=List Env->Hp->Shared->XK->Value->Shared->Prop
structure Env0(P:Program)(w:World)(K:PySem.W.Frag)(mg:Str->Option Value)(base:Heap)(A:Around)(outer:List Env)(s:Shared)(H:Hp):Prop where
 frames:A.frames=some outer
 mod:Mod K mg base
 bs:∀ b o,base.get? b=some o->s.heap.get? b=some o/\H b=none
 bsz:base.objs.size<=s.heap.objs.size
 funs:s.heap.FunFrames base outer
 frf:∀ b∈frs outer,H b=none
 hok:HOk P w H s.heap
 bare:AllBare s.gens
inductive CE (outer:List Env) (P:Program) (w:World) (H:Hp) (s:Shared) (Q:VK) (u:Value) (s':Shared):Prop
 |mk (v:V) (H':Hp) (o:s'.os=s.os) (g:AllBare s'.gens) (un:Un (frs outer) [] H H' s.heap s'.heap) (k:HOk P w H' s'.heap) (r:RelV v u) (q:Q v H')
noncomputable def CR(CX:CXT)(outer:List Env)(P:Program)(w:World)(H:Hp)(s:Shared)(Q:VK)(E:XK)(r:Result)(s':Shared):Prop :=
 match r with
 | .ok (.ret u)=>CE outer P w H s Q u s'
 | .ok _=>False
 | .error e=>CX outer H s E e s'
structure FnOk(P:Program)(w:World)(K:PySem.W.Frag)(mg:Str->Option Value)(base:Heap)(CX:CXT)(k:Nat)(f:Addr)(fd:FuncData)(ps:List Str)(sp:Sp):Prop where
 len:∀ vs H Q E,sp vs H Q E->vs.length=ps.length
 run:∀ (A:Around) (outer:List Env) (s:Shared) (H:Hp) (args:Args) (us:List Value) (vs:List V) (Q:VK) (E:XK),Room k A->Env0 P w K mg base A outer s H->BindsTo s fd args (ps.zip us)->Vals vs us->sp vs H Q E →
  codeAny (model P w) A (.call (.ref f) args) (CR CX outer P w H s Q E) s
theorem FnOk.mono{P:Program}{w:World}{K:PySem.W.Frag}{mg:Str->Option Value}{base:Heap}{CX:CXT}{j k:Nat}{f:Addr}{fd:FuncData}{ps:List Str}{sp:Sp}(F:FnOk P w K mg base CX j f fd ps sp)(h:j<=k) :
 FnOk P w K mg base CX k f fd ps sp:=⟨F.len,fun A outer s H args us vs Q E hr=>F.run A outer s H args us vs Q E (hr.mono h)⟩
theorem FnOk.imp{P:Program}{w:World}{K:PySem.W.Frag}{mg:Str->Option Value}{base:Heap}{CX:CXT}{k:Nat}{f:Addr}{fd:FuncData}{ps:List Str}{sp sp':Sp}(F:FnOk P w K mg base CX k f fd ps sp)
 (h:∀ vs H Q E,sp' vs H Q E->sp vs H Q E):FnOk P w K mg base CX k f fd ps sp' :=
 ⟨fun vs H Q E q=>F.len vs H Q E (h _ _ _ _ q),fun A outer s H args us vs Q E hr he hb hv hs=>F.run A outer s H args us vs Q E hr he hb hv (h _ _ _ _ hs)⟩
theorem Env0.make{P:Program}{w:World}{K:PySem.W.Frag}{mg:Str->Option Value}{base:Heap}{A:Around}{outer:List Env}{s:Shared}{H:Hp}(e:Env0 P w K mg base A outer s H)(C:Addr)(us:List Value)(kw:List (Str × Value)) :
 Env0 P w K mg base (A.under (.builtin "type.__call__" ⟨.ref C::us,kw⟩)) outer s H:=⟨by first|exact e.frames|(simpa[Around.under,Code.envs,Code.isFrame,pushEnvs] using e.frames),e.mod,e.bs,e.bsz,e.funs,e.frf,e.hok,e.bare⟩
theorem Env0.in1{P:Program}{w:World}{K:PySem.W.Frag}{mg:Str->Option Value}{base:Heap}{A:Around}{outer:List Env}{s:Shared}{H:Hp}(e:Env0 P w K mg base A outer s H) :
 Env0 P w K mg base A.in1 outer s H:=⟨e.frames,e.mod,e.bs,e.bsz,e.funs,e.frf,e.hok,e.bare⟩
section
variable {X:Cx}{pins:List (Addr × Obj)}{σ:St}{H:Hp}{s s':Shared}
theorem Inv.env0(I:Inv X pins σ H s):Env0 X.prog X.w X.K X.mg X.base X.A X.stack s H :=
 ⟨I.ok.frames,I.ok.mod,I.bs,Nat.le_trans I.ok.bsz I.sz,I.stack,I.stkFree,I.hok,I.bare⟩
theorem Inv.after{Q:VK}{u:Value}(I:Inv X pins σ H s)(h:CE X.stack X.prog X.w H s Q u s'):EP X pins σ Q u s':=by
 obtain⟨v,H',os,bare,un,hok,r,q⟩:=h
 obtain⟨hh,g,d,t,os'⟩:=s'
 obtain rfl:os'=s.os:=os
 exact⟨v,H',I.call (h':=hh) (g':=g) (d':=d) (t':=t) (ch:=[]) un hok bare (fun b z=>absurd z (by simp)),r,q⟩
end
noncomputable def tCall(sp:Sp)(dvs:List V)(E:XK)(t:TA):TE:=fun σ H Q=>t σ H fun vs H1=>sp (vs++dvs) H1 Q E
noncomputable def Binds(K:PySem.W.Frag)(fd:FuncData)(ps:List Str)(ds:List Value):Prop :=
 ∀ (s:Shared) (us:List Value),K.In s.heap->(us++ds).length=ps.length->BindsTo s fd ⟨us,[]⟩ (ps.zip (us++ds))
theorem Binds.all{K:PySem.W.Frag}{fd:FuncData}{ps:List Str}(h:∀ us:List Value,us.length=ps.length->bindArgs fd ⟨us,[]⟩=pure (ps.zip us)):Binds K fd ps []:=fun s us _ hl=>by
 rw[List.append_nil] at hl ⊢
 exact .of_eq (h us hl)
noncomputable def Passes(CX:CXT)(X:Cx)(E:XK):Prop:=∀ (pins:List (Addr × Obj)) (σ:St) (H:Hp) (s:Shared) (e:Value) (s':Shared),Inv X pins σ H s->CX X.stack H s E e s'->X.xe e s'
section
variable {X:Cx}{CX:CXT}{k:Nat}{f C:Addr}{fd:FuncData}{ps:List Str}{sp:Sp}{dvs:List V}{ds:List Value}{E:XK}{x m:Str}{p pos apos:Pos}{e o:Expr}{es:List Expr}{ta:TE}{t:TA}
theorem run_fn{pins:List (Addr × Obj)}{σ:St}{H:Hp}{s:Shared}{Q:VK}{us:List Value}{vs:List V}(F:FnOk X.prog X.w X.K X.mg X.base CX k f fd ps sp)(hr:Room k X.A)(hb:Binds X.K fd ps ds)(hd:Vals dvs ds)(hx:Passes CX X E)
 (I:Inv X pins σ H s) (r:Vals vs us) (h:sp (vs++dvs) H Q E):wpAny (model X.prog X.w) X.A (call (.ref f) us) (EP X pins σ Q) X.xe s:=by
 have r2:Vals (vs++dvs) (us++ds):=r.append hd
 have hl:(us++ds).length=ps.length:=by rw[← r2.length];exact F.len _ _ _ _ h
 refine wpAny_call (codeAny_mono (F.run X.A X.stack s H ⟨us,[]⟩ (us++ds) (vs++dvs) Q E hr I.env0 (hb s us I.kIn hl) r2 h) fun r s' hq => ?_)
 cases r with
 |error e=>exact hx pins σ H s e s' I hq
 |ok fl =>
  cases fl with
  |ret u=>exact I.after hq
  |next=>exact False.elim hq
  |brk=>exact False.elim hq
  |cont=>exact False.elim hq
theorem pe_call(F:FnOk X.prog X.w X.K X.mg X.base CX k f fd ps sp)(hr:Room k X.A)(hg:Gl X x)(hm:X.mg x=some (.ref f))(hk:PySem.W.keepIn X.K (.ref f)=true)(hb:Binds X.K fd ps ds)(hd:Vals dvs ds)(hx:Passes CX X E)
 (ha:PA X (e::es) t) (hdb:(x == ("__debug__":Str))=false:=by decide) (he:starEach (e::es) X.env=(false,eval e X.env)::starEach es X.env:=by rfl) (hpl:(backTo pos (starEach es X.env)).any (·.1)=false:=by rfl) :
 PE X (.Call (.Name x p) (e::es) [] pos) (tCall sp dvs E t):=by
 intro pins s σ H Q I h
 refine wpAny_Call_Name_kw (ld_glob I hg hm ?_ hdb)
 refine PySem.W.callWith_K (h₀:=X.base) I.ok.mod.kin hk (thn (ha pos pins s σ H _ I h) fun us s1 ⟨vs,H1,I1,r,q⟩=>⟨I1.kIn,?_⟩) he hpl
 exact run_fn F hr hb hd hx I1 r q
theorem pe_call0(F:FnOk X.prog X.w X.K X.mg X.base CX k f fd ps sp)(hr:Room k X.A)(hg:Gl X x)(hm:X.mg x=some (.ref f))(hk:PySem.W.keepIn X.K (.ref f)=true)(hb:Binds X.K fd ps ds)(hd:Vals dvs ds)(hx:Passes CX X E)
 (hdb:(x == ("__debug__":Str))=false:=by decide):PE X (.Call (.Name x p) [] [] pos) (tCall sp dvs E tNil):=by
 intro pins s σ H Q I h
 refine wpAny_Call_Name_kw (ld_glob I hg hm ?_ hdb)
 exact PySem.W.callWith_K0 I.kIn hk (run_fn (us:=[]) F hr hb hd hx I .nil h)
structure Mk(K:PySem.W.Frag)(C f:Addr):Prop where
 makes:PySem.W.makesIn K C=true
 init:PySem.W.findIn K (.ref C) "__init__"=some (some (.ref f))
 fn:PySem.W.isFn K (.ref f)=true
 kp:PySem.W.keepIn K (.ref C)=true
end
section
variable {X:Cx}{CX:CXT}{k:Nat}{f C:Addr}{fd:FuncData}{ps ks:List Str}{sp:Sp}{E:XK}{x m:Str}{p pos apos kpos:Pos}{e o:Expr}{es:List Expr}{kws:List Keyword}{te ta:TE}{t tk:TA}{nm:Option Str}
structure KBinds(K:PySem.W.Frag)(fd:FuncData)(ps ks:List Str)(g:List Value->List Value->List Value)(gV:List V->List V->List V):Prop where
 to:∀ (s:Shared) (us ws:List Value),K.In s.heap->(g us ws).length=ps.length->BindsTo s fd ⟨us,ks.zip ws⟩ (ps.zip (g us ws))
 rel:∀ {vs:List V} {us:List Value} {zs:List V} {ws:List Value},Vals vs us->Vals zs ws->Vals (gV vs zs) (g us ws)
variable {g:List Value->List Value->List Value}{gV:List V->List V->List V}
end
structure FnScope(N P:List Str)(sc:Scope):Prop where
 kind:sc.kind = .function
 co:sc.isCoroutine=false
 gen:sc.isGenerator=false
 nd:N.Nodup
 pre:N.take P.length=P
 par:∀ x∈P,sc.names.lookup x=some .local\/sc.names.lookup x=some .cell
 nofree:∀ y∈sc.names,y.2 ≠ .free
theorem bindL_out{kindOf:Str->Option NameKind}{x:Str}:∀ {binds:List (Str × Value)} {m:Str->Option Value},(∀ v,(x,v)∉binds)->bindL kindOf binds m x=m x
 | [],_,_=>rfl
 | (n,v)::r,m,h=>by
  unfold bindL
  rw[bindL_out fun w hw=>h w (List.mem_cons_of_mem _ hw)]
  split
  ·have:x≠n:=by rintro rfl;exact h v List.mem_cons_self
   simp[this]
  ·rfl
theorem bindC_out{kindOf:Str->Option NameKind}{x:Str}:∀ {binds:List (Str × Value)} {m:Str->Option Value},(∀ v,(x,v)∉binds)->bindC kindOf binds m x=m x
 | [],_,_=>rfl
 | (n,v)::r,m,h=>by
  unfold bindC
  rw[bindC_out fun w hw=>h w (List.mem_cons_of_mem _ hw)]
  split
  ·rfl
  ·have:x≠n:=by rintro rfl;exact h v List.mem_cons_self
   simp[this]
theorem bindL_get{kindOf:Str->Option NameKind}{x:Str}{v:Value}:∀ {P:List Str} {vs:List Value} {i:Nat} {m:Str->Option Value},P.Nodup->P[i]?=some x->vs[i]?=some v->kindOf x=some .local →
 bindL kindOf (P.zip vs) m x=some v
 | [],_,_,_,_,h,_,_=>by simp at h
 |_::_,[],_,_,_,_,h,_=>by simp at h
 |p::P,w::vs,0,m,nd,h1,h2,hk=>by
  simp at h1 h2;subst h1;subst h2
  show bindL kindOf ((p,w)::P.zip vs) m p=_
  unfold bindL
  rw[bindL_out fun v hv=>(List.nodup_cons.mp nd).1 (List.of_mem_zip hv).1,if_pos hk]
  simp
 |p::P,w::vs,i+1,m,nd,h1,h2,hk=>by
  show bindL kindOf ((p,w)::P.zip vs) m x=_
  unfold bindL
  exact bindL_get (i:=i) (List.nodup_cons.mp nd).2 (by simpa using h1) (by simpa using h2) hk
theorem bindC_get{kindOf:Str->Option NameKind}{x:Str}{v:Value}:∀ {P:List Str} {vs:List Value} {i:Nat} {m:Str->Option Value},P.Nodup->P[i]?=some x->vs[i]?=some v->kindOf x≠some .local →
 bindC kindOf (P.zip vs) m x=some v
 | [],_,_,_,_,h,_,_=>by simp at h
 |_::_,[],_,_,_,_,h,_=>by simp at h
 |p::P,w::vs,0,m,nd,h1,h2,hk=>by
  simp at h1 h2;subst h1;subst h2
  show bindC kindOf ((p,w)::P.zip vs) m p=_
  unfold bindC
  rw[bindC_out fun v hv=>(List.nodup_cons.mp nd).1 (List.of_mem_zip hv).1,if_neg hk]
  simp
 |p::P,w::vs,i+1,m,nd,h1,h2,hk=>by
  show bindC kindOf ((p,w)::P.zip vs) m x=_
  unfold bindC
  exact bindC_get (i:=i) (List.nodup_cons.mp nd).2 (by simpa using h1) (by simpa using h2) hk
noncomputable def start(N:List Str)(vs:List V):St:=vs.map some++List.replicate (N.length-vs.length) none
noncomputable def cxOf(CX:CXT)(P:Program)(w:World)(K:PySem.W.Frag)(mg:Str->Option Value)(base:Heap)(N:List Str)(qual:Str)(scope:Scope)(f:Addr)(cd:Value)(A:Around)(outer:List Env)(s:Shared)(H:Hp)(E:XK):Cx where
 prog:=P
 w:=w
 K:=K
 mg:=mg
 base:=base
 A:=A.deeper (envOfC qual scope s.heap.objs.size f cd)
 N:=N
 s₀:=s
 H₀:=H
 env:=envOfC qual scope s.heap.objs.size f cd
 outer:=outer
 stack:=envOfC qual scope s.heap.objs.size f cd::outer
 ex:=[]
 calm:=true
 fn:=fun _=>true
 pn:=[]
 xe:=fun e s'=>wpAny (model P w) (A.deeper (envOfC qual scope s.heap.objs.size f cd)) (leaving (envOfC qual scope s.heap.objs.size f cd) e) (fun _ s''=>CX outer H s E e s'') (fun e' s''=>CX outer H s E e' s'') s'
theorem cell_has{sc:Scope}{n:Nat}{x:Str}(h:sc.names.lookup x=some .cell):∃ c,(cellsFrom n sc.names []).lookup x=some c:=by
 have q:=PySem.W.cellsFrom_some sc.names n [] (.inl h)
 exact Option.isSome_iff_exists.mp q
theorem inv_start{CX:CXT}{P:Program}{w:World}{K:PySem.W.Frag}{mg:Str->Option Value}{base:Heap}{N ps:List Str}{qual:Str}{scope:Scope}{f:Addr}{cd:Value}{A:Around}{outer:List Env}{s s1:Shared}{H:Hp}{E:XK}{us:List Value}{vs:List V}
 (S:FnScope N ps scope) (hd:A.handled=none) (e0:Env0 P w K mg base A outer s H) (hl:vs.length=ps.length) (r:Vals vs us)
 (x:InCallC s s.heap.objs.size (bindL (envOfC qual scope s.heap.objs.size f cd).kindOf (ps.zip us) fun _=>none) (cellsFrom (s.heap.objs.size+1) scope.names []) (bindC (envOfC qual scope s.heap.objs.size f cd).kindOf (ps.zip us) fun _=>none) s1) :
 Inv (cxOf CX P w K mg base N qual scope f cd A outer s H E) [] (start N vs) H s1:=by
 have hpl:ps.length<=N.length:=by have:=congrArg List.length S.pre;rw[List.length_take] at this;omega
 obtain⟨h1,tk,rfl,hk⟩:=x.done
 have noA:∀ b:Addr,b∉(cxOf CX P w K mg base N qual scope f cd A outer s H E).ex:=fun b z=>absurd (show b∈([]:List Addr) from z) (by simp)
 refine⟨⟨e0.mod,S.kind,rfl,rfl,Nat.le_refl _,fun y z c h1 h2 => ?_,fun y hy => ?_,fun y c _ h => ?_,fun _=>hd,Around.frames_deeper e0.frames,.inr ⟨rfl,rfl⟩,fun b z=>absurd z (noA b),e0.bs,e0.bsz,fun b _ _=>noA b,fun b z=>absurd z (noA b),e0.funs,e0.frf⟩,
  rfl,e0.bare,Un.kept hk,⟨_,x.toInCall.ns,fun i y v h1 h2 h3 => ?_⟩,fun y c h=>⟨_,x.cell y c h⟩,e0.hok.fresh (Nat.le_refl _),fun y c h => ?_,fun p hp=>absurd (show p∈([]:List (Addr × Obj)) from hp) (by simp),e0.hok.kept hk,?_⟩
 ·exact name_of_addr x.apart (PySem.mem_of_lookup h1) (PySem.mem_of_lookup h2)
 ·have hy:scope.names.lookup y=some .cell\/scope.names.lookup y=some .free:=hy
  rcases hy with hy|hy
  ·exact cell_has hy
  ·exact absurd rfl (S.nofree _ (PySem.mem_of_lookup hy))
 ·exact Nat.le_of_lt (x.above y c (PySem.mem_of_lookup h))
 ·have hi:i<vs.length:=by
   unfold start at h2
   by_cases hi:i<vs.length
   ·exact hi
   ·rw[List.getElem?_append_right (by simpa using hi)] at h2
    rw[List.getElem?_replicate] at h2
    split at h2<;>cases h2
  have ha:vs[i]?=some v:=by
   unfold start at h2
   rw[List.getElem?_append_left (by simpa using hi),List.getElem?_map] at h2
   cases e:vs[i]? with
   |none=>rw[e] at h2;cases h2
   |some a=>rw[e] at h2;cases h2;rfl
  obtain⟨u,hu,rv⟩:=r.get ha
  have hp:ps[i]?=some y:=by
   rw[← S.pre,List.getElem?_take_of_lt (by omega)];exact h1
  have ndP:ps.Nodup:=by rw[← S.pre];exact S.nd.sublist (List.take_sublist _ _)
  refine⟨u,rv,?_⟩
  rcases S.par y (List.mem_of_getElem? hp) with k|k
  ·exact .inl ⟨k,bindL_get ndP hp hu k⟩
  ·obtain⟨c,e⟩:=cell_has (n:=s.heap.objs.size+1) k
   refine .inr ⟨.inl k,c,e,?_⟩
   have q:=x.cell y c e
   rw[bindC_get ndP hp hu (by show scope.names.lookup y≠_;rw[k];decide)] at q
   exact q
 ·exact e0.hok.fresh (Nat.le_of_lt (x.above y c (PySem.mem_of_lookup h)))
 ·unfold start
  show _=N.length
  rw[List.length_append,List.length_map,List.length_replicate]
  omega
theorem fn_of{CX:CXT}{P:Program}{w:World}{K:PySem.W.Frag}{mg:Str->Option Value}{base:Heap}{k:Nat}{f:Addr}{name qual:Str}{params:Arguments}{body:List Stmt}{scope:Scope}{dV kV doc pm cdv ct oc:Value}{an od:Option Addr}
 {osl:Array (Option Value)} {N ps:List Str} {sp:Sp} (lk:K.lookup f=some ⟨oc,od,.func (PySem.W.fnOf name qual params body scope dV kV doc pm an cdv ct),osl⟩) (hcd:PySem.W.codeIn K cdv qual=true) (S:FnScope N ps scope)
 (len:∀ vs H Q E,sp vs H Q E->vs.length=ps.length)
 (hbody:∀ (A:Around) (outer:List Env) (s:Shared) (H:Hp) (vs:List V) (Q:VK) (E:XK),Room k (A.deeper (envOfC qual scope s.heap.objs.size f cdv))->sp vs H Q E →
   ∃ t,PSs (cxOf CX P w K mg base N qual scope f cdv A outer s H E) body t/\t {nx:=fun _ H'=>Q .non H',rt:=Q} (start N vs) H) :
 FnOk P w K mg base CX (k+1) f (PySem.W.fnOf name qual params body scope dV kV doc pm an cdv ct) ps sp:=by
 refine⟨len,fun A outer s H args us vs Q E hr e0 hb r hsp => ?_⟩
 have hl:=len _ _ _ _ hsp
 have KX:K.In s.heap:=e0.mod.kin.keeps fun b o e=>(e0.bs b o e).1
 have lim:s.heap.NoLimit:=e0.mod.nolimit.keeps fun b o e=>(e0.bs b o e).1
 have hkind:∀ y∈ps.zip us,scope.names.lookup y.1=some .local\/(scope.names.lookup y.1=some .cell/\((cellsFrom (s.heap.objs.size+1) scope.names []).lookup y.1).isSome=true):=fun⟨n,v⟩ hy=>by
  rcases S.par n (List.of_mem_zip hy).1 with q|q
  ·exact .inl q
  ·exact .inr ⟨q,PySem.W.cellsFrom_some _ _ _ (.inl q)⟩
 refine codeAny_call_function hr.depth (KX _ _ lk) rfl S.co S.gen rfl (PySem.W.codeRec_of KX hcd) (hb _ _ _ _ ?_)
 refine wpAny_newFunctionEnv_cells S.kind hkind fun env he s1 x => ?_
 subst he
 refine⟨lim.keeps x.toInCall.keep,codeAny_func ?_⟩
 obtain⟨t,ht,hq⟩:=hbody A outer s H vs Q E (hr.deeper _) hsp
 have I:Inv (cxOf CX P w K mg base N qual scope f cdv A outer s H E) [] (start N vs) H s1:=inv_start S hr.hd e0 hl r x
 refine wpAny_mono (ht [] s1 (start N vs) H _ I hq) (fun fl s' hs => ?_) fun e s' hs=>hs
 have fin:∀ {σ':St} {H':Hp} {v:V} {u:Value},Inv (cxOf CX P w K mg base N qual scope f cdv A outer s H E) [] σ' H' s'->RelV v u->Q v H'->CE outer P w H s Q u s' :=
  fun {σ' H' v u} J rv q=>⟨v,H',J.os,J.bare,J.base,J.hok,rv,q⟩
 cases fl with
 |ret u =>
  obtain⟨v,σ',H',J,rv,q⟩:=hs
  exact fin J rv q
 |next =>
  obtain⟨σ',H',J,q⟩:=hs
  exact fin (v:=V.non) (u:=Value.none) J rfl q
 |brk =>
  obtain⟨_,_,_,q⟩:=hs
  exact False.elim q
 |cont =>
  obtain⟨_,_,_,q⟩:=hs
  exact False.elim q
end L2
namespace L2
open PySem PySem.Spec PyProof.Rows
section
variable {X:Cx}{x:Str}{p pos:Pos}{e:Expr}{es:List Expr}{t:TA}{id T:String}{r:List V->Hp->VK->Prop}
noncomputable def tCB(r:List V->Hp->VK->Prop)(t:TA):TE:=fun σ H Q=>t σ H fun vs H1=>r vs H1 Q
theorem pe_callB(hc:CallR X (.builtin id) r)(hg:Gl X x)(hm:X.mg x=none)(hv:bootBuiltins x=some (.builtin id))(ha:PA X (e::es) t)(hn:x ≠ "__name__":=by decide)(hdb:(x == ("__debug__":Str))=false:=by decide)
 (he:starEach (e::es) X.env=(false,eval e X.env)::starEach es X.env:=by rfl) (hpl:(backTo pos (starEach es X.env)).any (·.1)=false:=by rfl):PE X (.Call (.Name x p) (e::es) [] pos) (tCB r t):=by
 intro pins s σ H Q I h
 refine wpAny_Call_Name_kw (ld_blt I hg hm hv ?_ hn hdb)
 exact PyProof.Rows.callWith_builtin1 (thn (ha pos pins s σ H _ I h) fun us s1 ⟨vs,H1,I1,r1,q1⟩=>hc pins s1 σ H1 vs us Q I1 r1 q1) he hpl
theorem pe_callTy(hc:CallR X (.type T) r)(hg:Gl X x)(hm:X.mg x=none)(hv:bootBuiltins x=some (.type T))(ha:PA X (e::es) t)(hn:x ≠ "__name__":=by decide)(hdb:(x == ("__debug__":Str))=false:=by decide)
 (he:starEach (e::es) X.env=(false,eval e X.env)::starEach es X.env:=by rfl) (hpl:(backTo pos (starEach es X.env)).any (·.1)=false:=by rfl):PE X (.Call (.Name x p) (e::es) [] pos) (tCB r t):=by
 intro pins s σ H Q I h
 refine wpAny_Call_Name_kw (ld_blt I hg hm hv ?_ hn hdb)
 exact PyProof.Rows.callWith_type1 (thn (ha pos pins s σ H _ I h) fun us s1 ⟨vs,H1,I1,r1,q1⟩=>hc pins s1 σ H1 vs us Q I1 r1 q1) he hpl
end
end L2
namespace HT
open PySem PyProof.Rows
section
open PySem.SeqAt
open PySem.AutoSeq1 (wpAny_loadPart')
open PySem.MeetsSeq PySem.MeetsSeq2 PySem.MeetsSeq3
end
section
variable {prog:Program}{w:World}{A:Around}{E:Value->Shared->Prop}{s:Shared}
theorem cat_tup{t b:Addr}{vs ws:List Value}{Q:Value->Shared->Prop}(ht:IsTup s.heap t vs.toArray)(hb:IsTup s.heap b ws.toArray)(hv:vs ≠ [])
 (h1:ws=[]->Q (.ref t) s) (h2:ws ≠ []->Q (.ref s.heap.objs.size) {s with heap:=s.heap.push {cls:=.type "tuple",data:=.seq (vs++ws).toArray}})
 (hsz:vs.length+ws.length<=sizeLine):wpAny (model prog w) A (binaryOp .Add (.ref t) (.ref b)) Q E s:=by
 obtain⟨⟨cls,dd,data,sl⟩,ho,hc,n,hd⟩:=id ht
 obtain⟨⟨cls2,dd2,data2,sl2⟩,ho2,hc2,n2,hd2⟩:=id hb
 simp only at hc hd hc2 hd2
 subst hc hd hc2 hd2
 have e:vs.toArray++ws.toArray=(vs++ws).toArray:=by simp
 by_cases hw:ws=[]
 ·exact concat_meets ⟨_,ho,rfl⟩ ⟨_,ho2,rfl⟩ noFill_tuple_add seq_tuple_add PySem.F.slot_tuple_add PySem.F.entry_tuple_add (PySem.F.args_tuple_add_2 _ _)
   (tuple_addW1 t b vs.toArray ws.toArray n n2 dd dd2 sl sl2 (by simpa using hv) (by simp[hw])) ⟨ho,ho2,h1 hw⟩
 ·refine concat_meets ⟨_,ho,rfl⟩ ⟨_,ho2,rfl⟩ noFill_tuple_add seq_tuple_add PySem.F.slot_tuple_add PySem.F.entry_tuple_add (PySem.F.args_tuple_add_2 _ _)
   (tuple_addW2 t b vs.toArray ws.toArray n n2 dd dd2 sl sl2 (by simpa using hv) (by simpa using hw) (by rw[List.size_toArray,List.size_toArray];exact hsz)) ⟨ho,ho2,?_⟩
  rw[e]
  exact h2 hw
noncomputable def sIx(n d:Nat):Option Int->Nat
 |none=>d
 |some v=>if v<0 then (v+(n:Int)).toNat else min v.toNat n
theorem sIx_le(n d:Nat)(hd:d<=n)(o:Option Int):sIx n d o<=n:=by
 cases o with
 |none=>exact hd
 |some v =>
  show(if v<0 then (v+(n:Int)).toNat else min v.toNat n)<=n
  by_cases hv:v<0
  ·rw[if_pos hv];omega
  ·rw[if_neg hv];exact Nat.min_le_right _ _
theorem clip_eq(v:Int)(n d:Nat):(if v<0 then max (v+(n:Int)) 0 else min v (n:Int))=((sIx n d (some v):Nat):Int):=by
 show(if v<0 then max (v+(n:Int)) 0 else min v (n:Int))=(((if v<0 then (v+(n:Int)).toNat else min v.toNat n):Nat):Int)
 by_cases hv:v<0
 ·simp only[if_pos hv];omega
 ·simp only[if_neg hv];omega
theorem adjust_gen(lo hi:Option Int)(n:Nat):Builtin.Slice.sliceAdjust lo hi 1 (n:Int)=(((sIx n 0 lo:Nat):Int),((sIx n n hi:Nat):Int)):=by
 have h1:¬ ((1:Int)<0):=by omega
 unfold Builtin.Slice.sliceAdjust
 simp only[h1,if_false]
 refine Prod.ext ?_ ?_
 ·cases lo with
  |none=>rfl
  |some v=>exact clip_eq v n 0
 ·cases hi with
  |none=>rfl
  |some v=>exact clip_eq v n n
theorem places_gen(i j:Nat):Builtin.Slice.slicePlaces (i:Int) (j:Int) 1=j-i:=by
 unfold Builtin.Slice.slicePlaces
 have h1:(1:Int) > 0:=by omega
 simp only[h1,if_true,Int.ediv_one]
 split<;>omega
theorem slicePart_{v:Value}{o:Option Int}{Q:Option Int->Shared->Prop}(p:IsPart v o)(h:Q o s):wpAny (model prog w) A (Builtin.Slice.slicePartIndex v) Q E s:=by
 cases p with
 |none=>exact slicePart_none h
 |int i t=>exact slicePart_int h
theorem sliceApplied_gen{sl:Addr}{vl vu:Value}{lo hi:Option Int}{n:Nat}{Q:Int × Int × Nat->Shared->Prop}(hs:s.heap.IsSliceOf sl vl vu .none)(pl:IsPart vl lo)(pu:IsPart vu hi)
 (h:Q (((sIx n 0 lo:Nat):Int),1,sIx n n hi-sIx n 0 lo) s):wpAny (model prog w) A (Builtin.Slice.sliceApplied (.ref sl) (pure (n:Int))) Q E s:=by
 obtain⟨os,hos,hcs,hds⟩:=id hs
 unfold Builtin.Slice.sliceApplied Builtin.Slice.sliceFields
 refine wpAny_bind (wpAny_bind (wpAny_field hos hds (x:=vl) rfl (wpAny_bind (wpAny_field hos hds (x:=vu) rfl (wpAny_bind (wpAny_field hos hds (x:=.none) rfl (wpAny_pure ?_)))))))
 refine wpAny_bind (slicePart_none ?_)
 show wpAny _ _ (if ((1:Int) == 0)=true then _ else _) _ _ s
 rw[if_neg (by decide)]
 refine wpAny_bind (slicePart_ pl (wpAny_bind (slicePart_ pu (wpAny_bind (wpAny_pure ?_)))))
 show wpAny _ _ (match Builtin.Slice.sliceAdjust lo hi 1 (n:Int) with|(lo,hi)=>pure (lo,(1:Int),Builtin.Slice.slicePlaces lo hi 1)) _ _ s
 rw[adjust_gen lo hi n]
 show wpAny _ _ (pure (((sIx n 0 lo:Nat):Int),(1:Int),Builtin.Slice.slicePlaces ((sIx n 0 lo:Nat):Int) ((sIx n n hi:Nat):Int) 1)) _ _ s
 rw[places_gen]
 exact wpAny_pure h
theorem pick_gen(xs:Array Value)(i k:Nat):((List.range k).filterMap fun(m:Nat)=>xs[((i:Int)+(m:Int)*1).toNat]?).toArray=((xs.toList.drop i).take k).toArray:=by
 have e:(fun(m:Nat)=>xs[((i:Int)+(m:Int)*1).toNat]?)=fun m=>xs[i+m]?:=by
  funext m
  have:((i:Int)+(m:Int)*1).toNat=i+m:=by omega
  rw[this]
 rw[e]
 have:=pick_run xs i k
 rw[List.filterMap_map] at this
 have e2:((fun x=>xs[x]?) ∘ fun x=>i+x)=fun m=>xs[i+m]?:=rfl
 rw[e2] at this
 rw[this]
theorem getItem_tuple_cut{t sl:Addr}{items:Array Value}{vl vu:Value}{lo hi:Option Int}{Q:Value->Shared->Prop}(ht:IsTup s.heap t items)(hs:s.heap.IsSliceOf sl vl vu .none)(pl:IsPart vl lo)(pu:IsPart vu hi)
 (hw:¬ (sIx items.size 0 lo=0/\sIx items.size items.size hi=items.size))
 (h:Q (.ref s.heap.objs.size) {s with heap:=s.heap.push {cls:=.type "tuple",data:=.seq ((items.toList.drop (sIx items.size 0 lo)).take (sIx items.size items.size hi-sIx items.size 0 lo)).toArray}})
 (hsz:items.size<=sizeLine):wpAny (model prog w) A (getItem (.ref t) (.ref sl)) Q E s:=by
 have htake:sizeOk (.seq ((items.toList.drop (sIx items.size 0 lo)).take (sIx items.size items.size hi-sIx items.size 0 lo)).toArray):=by
  show((items.toList.drop (sIx items.size 0 lo)).take (sIx items.size items.size hi-sIx items.size 0 lo)).toArray.size<=sizeLine
  rw[List.size_toArray,List.length_take,List.length_drop,Array.length_toList]
  omega
 have hj:sIx items.size items.size hi<=items.size:=sIx_le _ _ (Nat.le_refl _) hi
 obtain⟨os,hos,hcs,hds⟩:=id hs
 have hTs:s.TypeIs (.ref sl) "slice":=⟨os,hos,hcs⟩
 unfold getItem
 try with_reducible refine wpAny_holding ?_
 first|refine wpAny_bind (wpAny_pure ?_)|skip
 refine wpAny_bind (wpAny_sequenceKey ht.typeIs (by decide) ?_)
 refine wpAny_bind (wpAny_callSpecial?_slot (name:=Str.ofString "__getitem__") ht.typeIs PyProof.Rows.slot_tuple_getitem
  (wpAny_call_entry PyProof.Rows.slot_tuple_getitem ht.typeIs entry_tuple_getitem ?_ (args_tuple_getitem _ _)))
 show wpAny _ _ (Builtin.Tuple.tupleItemsOf (.ref t) >>= _) _ _ s
 refine wpAny_bind (tupleItemsOf_ ht ?_)
 refine wpAny_bind (wpAny_typeOf hTs ?_)
 rw[if_pos (by decide)]
 refine wpAny_bind (sliceApplied_gen hs pl pu ?_)
 have hno:¬ ((((sIx items.size 0 lo:Nat):Int) == 0 && (1:Int) == 1 && (sIx items.size items.size hi-sIx items.size 0 lo) == items.size)=true):=by
  intro q
  rw[Bool.and_eq_true,Bool.and_eq_true] at q
  have q1:((sIx items.size 0 lo:Nat):Int)=0:=eq_of_beq q.1.1
  have q2:sIx items.size items.size hi-sIx items.size 0 lo=items.size:=eq_of_beq q.2
  exact hw ⟨by omega,by omega⟩
 show wpAny _ _ (if (((sIx items.size 0 lo:Nat):Int) == 0 && (1:Int) == 1 && (sIx items.size items.size hi-sIx items.size 0 lo) == items.size)=true then _ else _) _ _ s
 rw[if_neg hno,pick_gen]
 first
  |exact wpAny_bind (m:=Builtin.Tuple.tupleExact _) (wpAny_newObj_type (wpAny_pure ⟨_,rfl,wpAny_pure h⟩) htake)
  |exact wpAny_bind (m:=Builtin.Tuple.tupleExact _) (wpAny_newObj_type (wpAny_bind (wpAny_pure (wpAny_pure ⟨_,rfl,wpAny_pure h⟩))) htake)
  |exact wpAny_bind (wpAny_bind (m:=Builtin.Tuple.tupleExact _) (wpAny_newObj_type (wpAny_pure (wpAny_pure ⟨_,rfl,wpAny_pure h⟩)) htake))
  |exact wpAny_bind (wpAny_bind (m:=Builtin.Tuple.tupleExact _) (wpAny_newObj_type (wpAny_pure ⟨_,rfl,wpAny_pure h⟩) htake))
end
end HT
namespace L2
open PySem PySem.Spec PyProof.Rows
noncomputable abbrev TO:=St->Hp->(Option Int->Hp->Prop)->Prop
noncomputable def PO(X:Cx)(e:Option Expr)(t:TO):Prop :=
 ∀ (pins:List (Addr × Obj)) (s:Shared) (σ:St) (H:Hp) (Q:Option Int->Hp->Prop),Inv X pins σ H s->t σ H Q →
  wpAny (model X.prog X.w) X.A (evalPart e X.env) (fun u s'=>∃ o H',Inv X pins σ H' s'/\IsPart u o/\Q o H') X.xe s
noncomputable def tNoPart:TO:=fun _ H Q=>Q none H
noncomputable def tPart(t:TE):TO:=fun σ H Q=>t σ H fun x H1=>∃ i,x = .int i/\Q (some i) H1
section
variable {X:Cx}{e:Expr}{te:TE}{lo hi:Option Expr}{tl th:TO}{pos p2:Pos}
theorem po_none:PO X none tNoPart:=by
 intro pins s σ H Q I h
 rw[evalPart_none]
 exact wpAny_pure ⟨none,H,I,.none,h⟩
theorem po_some(h:PE X e te):PO X (some e) (tPart te):=by
 intro pins s σ H Q I hw
 rw[evalPart_some]
 refine thn (h pins s σ H _ I hw) fun u s1 ⟨x,H1,I1,r1,q1⟩ => ?_
 obtain⟨i,rfl,q⟩:=q1
 obtain⟨t,rfl⟩:=r1
 exact⟨some i,H1,I1,.int i t,q⟩
noncomputable def SlR(X:Cx)(r:V->Option Int->Option Int->Hp->VK->Prop):Prop :=
 ∀ (pins:List (Addr × Obj)) (s:Shared) (σ:St) (H:Hp) (x:V) (v vl vu:Value) (lo hi:Option Int) (sl:Addr) (Q:VK),Inv X pins σ H s->RelV x v->s.heap.IsSliceOf sl vl vu .none->IsPart vl lo->IsPart vu hi->r x lo hi H Q →
  ∃ T id,typeLookup (.type T) "__getitem__"=pure (some (.builtin id))/\s.TypeIs v T/\wpAny (model X.prog X.w) X.A (getItem v (.ref sl)) (EP X pins σ Q) X.xe s
theorem SlR.or{r r':V->Option Int->Option Int->Hp->VK->Prop}(h:SlR X r)(h':SlR X r'):SlR X (fun x lo hi H Q=>r x lo hi H Q\/r' x lo hi H Q):=by
 intro pins s σ H x v vl vu lo hi sl Q I rx hs pl pu q
 rcases q with q|q
 ·exact h pins s σ H x v vl vu lo hi sl Q I rx hs pl pu q
 ·exact h' pins s σ H x v vl vu lo hi sl Q I rx hs pl pu q
noncomputable def tSl(r:V->Option Int->Option Int->Hp->VK->Prop)(te:TE)(tl th:TO):TE:=fun σ H Q=>te σ H fun x H1=>tl σ H1 fun l H2=>th σ H2 fun u H3=>r x l u H3 Q
theorem pe_slice{r:V->Option Int->Option Int->Hp->VK->Prop}(hr:SlR X r)(he:PE X e te)(hl:PO X lo tl)(hu:PO X hi th):PE X (.Subscript e (.Slice lo hi none p2) pos) (tSl r te tl th):=by
 intro pins s σ H Q I h
 refine Subscript_ (thn (he pins s σ H _ I h) fun v s1 ⟨x,H1,I1,r1,q1⟩ => ?_)
 refine wpAny_Slice (thn (hl pins s1 σ H1 _ I1 q1) fun vl s2 ⟨l,H2,I2,pl,q2⟩=>thn (hu pins s2 σ H2 _ I2 q2) fun vu s3 ⟨u,H3,I3,pu,q3⟩ => ?_)
 rw[evalPart_none]
 refine wpAny_pure ?_
 have I4:Inv X pins σ H3 {s3 with heap:=s3.heap.push {cls:=.type "slice",data:=.fields #[vl,vu,.none]}}:=I3.kept (t':=s3.toks) fun b ob q=>Heap.get?_push_of_some _ q
 obtain⟨T,id,hT,ht,hg⟩:=hr pins {s3 with heap:=s3.heap.push {cls:=.type "slice",data:=.fields #[vl,vu,.none]}} σ H3 x v vl vu l u s3.heap.objs.size Q I4 r1 (Heap.IsSliceOf.new ..) pl pu q3
 show wpAny (model X.prog X.w) X.A (subscriptTail e (.Slice lo hi none p2) v (.ref s3.heap.objs.size)) (EP X pins σ Q) X.xe {s3 with heap:=s3.heap.push {cls:=.type "slice",data:=.fields #[vl,vu,.none]}}
 exact tail_any (ops:=[.ref s3.heap.objs.size,v]) ht hT hg (by with_unfolding_all rfl)
noncomputable def cutV(xs:List V)(lo hi:Option Int):List V:=(xs.drop (HT.sIx xs.length 0 lo)).take (HT.sIx xs.length xs.length hi-HT.sIx xs.length 0 lo)
theorem cutV_length(xs:List V)(lo hi:Option Int):(cutV xs lo hi).length<=xs.length:=by
 unfold cutV
 rw[List.length_take,List.length_drop]
 omega
noncomputable def rSlT(K:PySem.W.Frag):V->Option Int->Option Int->Hp->VK->Prop:=fun x lo hi H Q=>∃ a xs,x = .ref a/\SqT K H a xs ∧
 ¬ (HT.sIx xs.length 0 lo=0/\HT.sIx xs.length xs.length hi=xs.length)/\∀ p,H p=none->Q (.ref p) (upd H p (.tup (cutV xs lo hi)))
theorem sl_tup:SlR X (rSlT X.K):=by
 intro pins s σ H x v vl vu lo hi sl Q I rx hs pl pu h
 obtain⟨a,xs,rfl,hx,hw,q⟩:=h
 cases rx
 obtain⟨its,r,ht,hz⟩:=I.tuple hx
 have hlen:its.toArray.size=xs.length:=by rw[List.size_toArray];exact r.length.symm
 refine⟨"tuple",_,PyProof.Rows.slot_tuple_getitem.lookup,ht.typeIs,?_⟩
 refine HT.getItem_tuple_cut ht hs pl pu (by rw[hlen];exact hw) ?_ (by rw[hlen];exact hz)
 rw[hlen]
 refine⟨.ref s.heap.objs.size,_,I.laid (t':=s.toks) (o:=.tup (cutV xs lo hi)) (fun b ob q=>Heap.get?_push_of_some _ q) (Nat.le_refl _) ?_,rfl,q _ (I.hok.fresh (Nat.le_refl _))⟩
 exact⟨Nat.le_trans (cutV_length xs lo hi) hz,_,(r.drop (HT.sIx xs.length 0 lo)).take (HT.sIx xs.length xs.length hi-HT.sIx xs.length 0 lo),IsTup.new _ _⟩
noncomputable def rCatT(K:PySem.W.Frag):R2:=fun x y H Q=>∃ a b xs ys,x = .ref a/\y = .ref b/\SqT K H a xs/\SqT K H b ys/\xs ≠ []/\xs.length+ys.length<=sizeLine ∧
 (ys=[]->Q (.ref a) H)/\(ys ≠ []->∀ p,H p=none->Q (.ref p) (upd H p (.tup (xs++ys))))
theorem Vals.nil_iff{xs:List V}{us:List Value}(r:Vals xs us):us=[]↔xs=[]:=by
 cases r with
 |nil=>simp
 |cons _ _=>simp
theorem op_catT:OpR X (binaryOp .Add) (rCatT X.K):=by
 intro pins s σ H x y v u Q I rx ry h
 obtain⟨a,b,xs,ys,rfl,rfl,ha,hb,hx,hz,q1,q2⟩:=h
 cases rx
 cases ry
 obtain⟨its,r1,p1,_⟩:=I.tuple ha
 obtain⟨its2,r2,p2,_⟩:=I.tuple hb
 refine HT.cat_tup p1 p2 (fun z=>hx (r1.nil_iff.mp z)) (fun z=>⟨.ref a,H,I,rfl,q1 (r2.nil_iff.mp z)⟩) (fun z => ?_) (by rw[← r1.length, ← r2.length];exact hz)
 refine⟨.ref s.heap.objs.size,_,I.laid (t':=s.toks) (o:=.tup (xs++ys)) (fun b ob q=>Heap.get?_push_of_some _ q) (Nat.le_refl _) ?_,rfl,q2 (fun w=>z (r2.nil_iff.mpr w)) _ (I.hok.fresh (Nat.le_refl _))⟩
 exact⟨by rw[List.length_append];exact hz,_,r1.append r2,IsTup.new _ _⟩
end
end L2
namespace L2
open PySem PySem.Spec PyProof.Rows
noncomputable def ixN(n:Nat)(i:Int):Option Nat:=if 0<=i then (if i<n then some i.toNat else none) else if -(n:Int)<=i then some (i+n).toNat else none
noncomputable def atI{α:Type}(xs:List α)(i:Int):Option α:=(ixN xs.length i).bind fun j=>xs[j]?
theorem ixN_seq{n:Nat}{i:Int}{j:Nat}(h:ixN n i=some j):seqIndex? i n=some j/\j<n ∧ -(n:Int)<=i/\i<n:=by
 unfold ixN at h
 by_cases h0:0<=i
 ·rw[if_pos h0] at h
  by_cases h1:i<n
  ·rw[if_pos h1] at h
   have e:i.toNat=j:=Option.some.inj h
   exact⟨by rw[seqIndex_of h0 h1,e],by omega,by omega,h1⟩
  ·rw[if_neg h1] at h;cases h
 ·rw[if_neg h0] at h
  by_cases h1 : -(n:Int)<=i
  ·rw[if_pos h1] at h
   have e:(i+n).toNat=j:=Option.some.inj h
   exact⟨by rw[seqIndex_neg (by omega) h1,e],by omega,h1,by omega⟩
  ·rw[if_neg h1] at h;cases h
theorem atI_get{α:Type}{xs:List α}{i:Int}{v:α}(h:atI xs i=some v):∃ j,seqIndex? i xs.length=some j/\xs[j]?=some v/\j<xs.length ∧ -(xs.length:Int)<=i/\i<xs.length:=by
 unfold atI at h
 cases e:ixN xs.length i with
 |none=>rw[e] at h;cases h
 |some j =>
  rw[e] at h
  obtain⟨h1,h2,h3,h4⟩:=ixN_seq e
  exact⟨j,h1,h,h2,h3,h4⟩
noncomputable def PlainIx(b:Expr):Prop:=∀ o i,subscripted b false o i=operate [o,i] (getItem o i)
noncomputable def IxR(X:Cx)(r:R2):Prop :=
 ∀ (value slice:Expr) (pins:List (Addr × Obj)) (s:Shared) (σ:St) (H:Hp) (x y:V) (v u:Value) (Q:VK),Inv X pins σ H s->RelV x v->RelV y u->r x y H Q →
  subscripted slice false v u=operate [v,u] (getItem v u)->wpAny (model X.prog X.w) X.A (subscriptTail value slice v u) (EP X pins σ Q) X.xe s
noncomputable def MtR(X:Cx)(id:String)(r:V->List V->Hp->VK->Prop):Prop :=
 ∀ (pins:List (Addr × Obj)) (s:Shared) (σ:St) (H:Hp) (x:V) (xs:List V) (v:Value) (us:List Value) (Q:VK),Inv X pins σ H s->RelV x v->Vals xs us->r x xs H Q →
  wpAny (model X.prog X.w) X.A (call (.builtin id) (v::us)) (EP X pins σ Q) X.xe s
section
variable {X:Cx}{a b:Expr}{ta tb:TE}{pos:Pos}
theorem IxR.or{r r':R2}(h:IxR X r)(h':IxR X r'):IxR X (fun x y H Q=>r x y H Q\/r' x y H Q):=by
 intro value slice pins s σ H x y v u Q I rx ry q hs
 rcases q with q|q
 ·exact h value slice pins s σ H x y v u Q I rx ry q hs
 ·exact h' value slice pins s σ H x y v u Q I rx ry q hs
theorem MtR.or{id:String}{r r':V->List V->Hp->VK->Prop}(h:MtR X id r)(h':MtR X id r'):MtR X id (fun x xs H Q=>r x xs H Q\/r' x xs H Q):=by
 intro pins s σ H x xs v us Q I rx rs q
 rcases q with q|q
 ·exact h pins s σ H x xs v us Q I rx rs q
 ·exact h' pins s σ H x xs v us Q I rx rs q
theorem pe_ix{r:R2}(hr:IxR X r)(ha:PE X a ta)(hb:PE X b tb)(hs:PlainIx b):PE X (.Subscript a b pos) (tOp r ta tb):=by
 intro pins s σ H Q I h
 exact Subscript_ (binT ha hb I h fun v u s2 x y H2 I2 rx ry q=>hr a b pins s2 σ H2 x y v u Q I2 rx ry q (hs _ _))
noncomputable def rIxL(K:PySem.W.Frag):R2:=fun x y H Q=>∃ p xs i v,x = .ref p/\y = .int i/\SqL K H p xs/\atI xs i=some v/\Q v H
noncomputable def rIxT(K:PySem.W.Frag):R2:=fun x y H Q=>∃ p xs i v,x = .ref p/\y = .int i/\SqT K H p xs/\atI xs i=some v/\Q v H
noncomputable def rIxS:R2:=fun x y H Q=>∃ z i c,x = .str z/\y = .int i/\z.length<=sizeLine/\atI z.cps.toList i=some c/\Q (.str ⟨#[c]⟩) H
theorem ix_list:IxR X (rIxL X.K):=by
 intro value slice pins s σ H x y v u Q I rx ry h hs
 obtain⟨p,xs,i,z,rfl,rfl,hq,he,q⟩:=h
 cases rx
 obtain⟨t,rfl⟩:=ry
 obtain⟨its,r,pl,hz⟩:=I.list hq
 obtain⟨j,h1,h2,h3,h4,h5⟩:=atI_get he
 obtain⟨w,ew,rw'⟩:=r.get h2
 have hl:=r.length
 have hn:=line63
 have fin:EP X pins σ Q w s:=⟨z,H,I,rw',q⟩
 by_cases h0:0<=i
 ·have hj:i.toNat=j:=by
   rw[seqIndex_of h0 h5] at h1
   exact Option.some.inj h1
  exact item_listR pl.isList h0 (by omega) (by rw[hj];simpa using ew) fin hs
 ·have hj:(i+(its.toArray.size:Int)).toNat=j:=by
   rw[seqIndex_neg (by omega) h4] at h1
   rw[List.size_toArray, ← hl]
   exact Option.some.inj h1
  exact subscriptTail_builtinR (x:=w) pl.isList.typeIs slot_list_getitem.lookup
   (wpAny_getItem_list_neg (Q:=fun r s'=>r=w/\EP X pins σ Q r s') pl.isList (by omega) (by rw[List.size_toArray]<;>omega) (by omega) (by rw[hj];simpa using ew) ⟨rfl,fin⟩) hs
theorem ix_tup:IxR X (rIxT X.K):=by
 intro value slice pins s σ H x y v u Q I rx ry h hs
 obtain⟨p,xs,i,z,rfl,rfl,hq,he,q⟩:=h
 cases rx
 obtain⟨t,rfl⟩:=ry
 obtain⟨its,r,pl,hz⟩:=I.tuple hq
 obtain⟨j,h1,h2,h3,h4,h5⟩:=atI_get he
 obtain⟨w,ew,rw'⟩:=r.get h2
 have hl:=r.length
 have hn:=line63
 have fin:EP X pins σ Q w s:=⟨z,H,I,rw',q⟩
 exact subscriptTail_builtinR (x:=w) pl.typeIs slot_tuple_getitem.lookup
  (getItem_tuple (j:=j) (Q:=fun r s'=>r=w/\EP X pins σ Q r s') pl (by omega) (by omega) (by rw[List.size_toArray, ← hl];exact h1) (by simpa using ew) ⟨rfl,fin⟩) hs
theorem ix_str:IxR X rIxS:=by
 intro value slice pins s σ H x y v u Q I rx ry h hs
 obtain⟨z,i,c,rfl,rfl,hz,he,q⟩:=h
 obtain⟨t,rfl⟩:=rx
 obtain⟨t',rfl⟩:=ry
 obtain⟨j,h1,h2,h3,h4,h5⟩:=atI_get he
 have hl:z.cps.toList.length=z.length:=by simp[Str.length]
 rw[hl] at h1 h4 h5
 have hn:=line63
 exact tail_any (typeIs_str s z t) slot_str_getitem.lookup (getItem_str (c:=c) (by
  have e1:decide (i < -(2 ^ 63:Int))=false:=decide_eq_false (by omega)
  have e2:decide (i ≥ 2 ^ 63)=false:=decide_eq_false (by omega)
  rw[e1,e2,Bool.or_false]) (by rw[h1];simpa using h2) ⟨.str ⟨#[c]⟩,H,I.tok _,⟨_,rfl⟩,q⟩) hs
noncomputable def rIx(K:PySem.W.Frag):R2:=fun x y H Q=>rIxL K x y H Q\/rIxT K x y H Q\/rIxS x y H Q
theorem ix_seq:IxR X (rIx X.K):=ix_list.or (ix_tup.or ix_str)
theorem mapSeq_set(its:List Value)(n j:Nat)(u:Value):Obj.mapSeq (·.setIfInBounds j u) {cls:=.type "list",data:=.seq its.toArray n}={cls:=.type "list",data:=.seq (its.set j u).toArray n}:=by
 simp[Obj.mapSeq]
theorem Inv.lst{pins:List (Addr × Obj)}{σ:St}{H:Hp}{s:Shared}{p:Addr}{xs:List V}(I:Inv X pins σ H s)(h:H p=some (.lst xs)) :
 ∃ (its:List Value) (n:Nat),Vals xs its/\s.heap.get? p=some {cls:=.type "list",data:=.seq its.toArray n}/\xs.length<=sizeLine:=by
 obtain⟨z,its,n,r,e⟩:=I.hok p _ h
 exact⟨its,n,r,e,z⟩
theorem Inv.lstUpd{pins:List (Addr × Obj)}{σ:St}{H:Hp}{s:Shared}{p:Addr}{xs ys:List V}{its its':List Value}{n n':Nat}{f:Obj->Obj}(I:Inv X pins σ H s)(h:H p=some (.lst xs))
 (ho:s.heap.get? p=some {cls:=.type "list",data:=.seq its.toArray n}) (hf:f {cls:=.type "list",data:=.seq its.toArray n}={cls:=.type "list",data:=.seq its'.toArray n'}) (r:Vals ys its') (hz:ys.length<=sizeLine) (t:Nat) :
 Inv X pins σ (upd H p (.lst ys)) {s with heap:=s.heap.update p f,toks:=t}:=by
 have e:(s.heap.update p f).get? p=some {cls:=.type "list",data:=.seq its'.toArray n'}:=by
  rw[Heap.get?_update_self f ho (by rw[hf]<;>rfl),hf]
 refine I.write (x:=p) (e:=p) (by rw[h];trivial) (.inl rfl) (fun b u hb q=>(Heap.get?_update_other _ _ (Ne.symm hb)).trans q) ⟨_,e⟩ ?_
 exact⟨hz,its',n',r,e⟩
noncomputable def rSetL:V->V->V->Hp->(Hp->Prop)->Prop:=fun o i v H Q=>∃ p xs k j,o = .ref p/\i = .int k/\H p=some (.lst xs)/\ixN xs.length k=some j/\Q (upd H p (.lst (xs.set j v)))
theorem set_list:PSet X rSetL:=by
 intro pins s σ H o i v ov iv u Q I ro ri rv h
 obtain⟨p,xs,k,j,rfl,rfl,hp,hj,q⟩:=h
 cases ro
 obtain⟨t,rfl⟩:=ri
 obtain⟨its,n,r,ho,hz⟩:=I.lst hp
 obtain⟨h1,h2,h3,h4⟩:=ixN_seq hj
 have hl:=r.length
 have hn:=line63
 have I':Inv X pins σ (upd H p (.lst (xs.set j v))) {s with heap:=s.heap.update p (Obj.mapSeq (·.setIfInBounds j u))} :=
  I.lstUpd hp ho (mapSeq_set its n j u) (r.set rv j) (by rw[List.length_set];exact hz) s.toks
 by_cases h0:0<=k
 ·have hk:k.toNat=j:=by
   rw[seqIndex_of h0 h4] at h1
   exact Option.some.inj h1
  exact PySem.W.ki_setAt ho h0 (by omega) (by rw[List.size_toArray, ← hl];exact h4) (by rw[hk];exact⟨_,I',q⟩)
 ·have hk:(k+(its.toArray.size:Int)).toNat=j:=by
   rw[seqIndex_neg (by omega) h3] at h1
   rw[List.size_toArray, ← hl]
   exact Option.some.inj h1
  exact PySem.W.ki_setBack ho (by omega) (by rw[List.size_toArray, ← hl];exact h3) (by omega) (by rw[hk];exact⟨_,I',q⟩)
theorem slice_bounds(lo hi:Option Int)(n:Nat):(sliceBounds lo hi none n).1=((HT.sIx n 0 lo:Nat):Int)/\(sliceBounds lo hi none n).2.1=((HT.sIx n n hi:Nat):Int)/\(sliceBounds lo hi none n).2.2=1:=by
 refine⟨?_,?_,rfl⟩
 ·cases lo with
  |none=>simp[sliceBounds,HT.sIx]
  |some i =>
   simp only[sliceBounds,HT.sIx,Option.getD_none,show(1:Int) > 0 by decide,if_true]
   by_cases h:i<0
   ·simp only[h,if_true]<;>omega
   ·simp only[h,if_false]<;>omega
 ·cases hi with
  |none=>simp[sliceBounds,HT.sIx]
  |some i =>
   simp only[sliceBounds,HT.sIx,Option.getD_none,show(1:Int) > 0 by decide,if_true]
   by_cases h:i<0
   ·simp only[h,if_true]<;>omega
   ·simp only[h,if_false]<;>omega
theorem slicePick_cut(its:List Value)(lo hi:Option Int):slicePick its.toArray lo hi none=((its.drop (HT.sIx its.length 0 lo)).take (HT.sIx its.length its.length hi-HT.sIx its.length 0 lo)).toArray:=by
 obtain⟨h1,h2,h3⟩:=slice_bounds lo hi its.toArray.size
 unfold slicePick
 rw[h1,h2,h3]
 simp only[sliceRange_one,pick_run,List.size_toArray]<;>rfl
noncomputable def rSlL(K:PySem.W.Frag):V->Option Int->Option Int->Hp->VK->Prop:=fun x lo hi H Q=>∃ a xs,x = .ref a/\SqL K H a xs/\∀ p,H p=none->Q (.ref p) (upd H p (.lst (cutV xs lo hi)))
theorem sl_list:SlR X (rSlL X.K):=by
 intro pins s σ H x v vl vu lo hi sl Q I rx hs pl pu h
 obtain⟨a,xs,rfl,hx,q⟩:=h
 cases rx
 obtain⟨its,r,ht,hz⟩:=I.list hx
 have hlen:=r.length
 refine⟨"list",_,slot_list_getitem.lookup,ht.isList.typeIs,?_⟩
 refine wpAny_getItem_list_slice ht.isList hs pl pu .none (by simp) ?_ (by rw[List.size_toArray]<;>omega)
 rw[slicePick_cut, ← hlen]
 refine⟨.ref s.heap.objs.size,_,I.laid (t':=s.toks) (o:=.lst (cutV xs lo hi)) (fun b ob q=>Heap.get?_push_of_some _ q) (Nat.le_refl _) ?_,rfl,q _ (I.hok.fresh (Nat.le_refl _))⟩
 exact⟨Nat.le_trans (cutV_length xs lo hi) hz,_,0,(r.drop (HT.sIx xs.length 0 lo)).take (HT.sIx xs.length xs.length hi-HT.sIx xs.length 0 lo),Heap.get?_push_size _ rfl⟩
theorem CallR.or{f:Value}{r r':List V->Hp->VK->Prop}(h:CallR X f r)(h':CallR X f r'):CallR X f (fun xs H Q=>r xs H Q\/r' xs H Q):=by
 intro pins s σ H xs us Q I rs q
 rcases q with q|q
 ·exact h pins s σ H xs us Q I rs q
 ·exact h' pins s σ H xs us Q I rs q
theorem call_list_of:CallR X (.type "list") (fun xs H Q=>∃ p ys,xs=[.ref p]/\(SqL X.K H p ys\/SqT X.K H p ys)/\∀ l,H l=none->Q (.ref l) (upd H l (.lst ys))):=by
 intro pins s σ H xs us Q I r h
 obtain⟨p,ys,rfl,hq,q⟩:=h
 obtain⟨u,rfl,rx⟩:=vals1 r
 cases rx
 have fin:∀ (its:List Value),Vals ys its->ys.length<=sizeLine->∀ (h':Heap) (c':Nat),(∀ b o',s.heap.get? b=some o'->h'.get? b=some o') →
  h'.get? s.heap.objs.size=some {cls:=.type "list",dict:=none,data:=.seq its.toArray c',slots := #[]}->EP X pins σ Q (.ref s.heap.objs.size) {s with heap:=h'}:=fun its r' hz h' c' kp e =>
  ⟨.ref s.heap.objs.size,_,I.laid (t':=s.toks) kp (Nat.le_refl _) (show ObjOk X.prog X.w _ h' _ (.lst ys) from⟨hz,its,c',r',e⟩),rfl,q _ (I.hok.fresh (Nat.le_refl _))⟩
 rcases hq with hq|hq
 ·obtain⟨its,r',pl,hz⟩:=I.list hq
  have hlen:=r'.length
  obtain⟨o,ho,hc,n,hd⟩:=pl.isList
  exact call_list_seq p (.inl rfl) ho hc hd (fun h' c' kp e=>fin its r' hz h' c' kp e) (by simp only[List.size_toArray]<;>omega)
 ·obtain⟨its,r',pl,hz⟩:=I.tuple hq
  have hlen:=r'.length
  obtain⟨o,ho,hc,n,hd⟩:=pl
  exact call_list_seq p (.inr rfl) ho hc hd (fun h' c' kp e=>fin its r' hz h' c' kp e) (by simp only[List.size_toArray]<;>omega)
theorem call_tuple_of:CallR X (.type "tuple") (fun xs H Q=>∃ p ys,xs=[.ref p]/\((SqL X.K H p ys/\∀ l,H l=none->Q (.ref l) (upd H l (.tup ys)))\/(SqT X.K H p ys/\Q (.ref p) H))):=by
 intro pins s σ H xs us Q I r h
 obtain⟨p,ys,rfl,h⟩:=h
 obtain⟨u,rfl,rx⟩:=vals1 r
 cases rx
 rcases h with⟨hq,q⟩ | ⟨hq,q⟩
 ·obtain⟨its,r',pl,hz⟩:=I.list hq
  have hlen:=r'.length
  refine call_tuple_list pl.isList (fun h' kp => ?_) (by simp only[List.size_toArray]<;>omega)
  have I1:Inv X pins σ H {s with heap:=h'}:=I.kept (t':=s.toks) kp
  have I2:Inv X pins σ (upd H h'.objs.size (.tup ys)) {s with heap:=h'.push {cls:=.type "tuple",data:=.seq its.toArray}} :=
   I1.laid (t':=s.toks) (fun b o e=>Heap.get?_push_of_some _ e) (Nat.le_refl _) (show ObjOk X.prog X.w _ _ _ (.tup ys) from⟨hz,its,r',IsTup.new _ _⟩)
  exact⟨.ref h'.objs.size,_,I2,rfl,q _ (I1.hok.fresh (Nat.le_refl _))⟩
 ·obtain⟨its,r',pl,hz⟩:=I.tuple hq
  exact call_tuple_same pl ⟨.ref p,H,I,rfl,q⟩
noncomputable def tyV(K:PySem.W.Frag)(T:String)(x:V)(H:Hp):Prop:=match x with
 | .str _=>T="str"
 | .int _=>T="int"
 | .ref p=>(T="list"/\∃ xs,SqL K H p xs)\/(T="tuple"/\∃ o,K.lookup p=some o/\o.cls = .type "tuple"/\o.dict=none) ∨
  (T="dict"/\((∃ kvs,H p=some (.dK kvs))\/∃ kvs,H p=some (.dT kvs)))\/(T="set"/\∃ S n,H p=some (.set S n))
 |_=>False
theorem tyV_is{pins:List (Addr × Obj)}{σ:St}{H:Hp}{s:Shared}{T:String}{x:V}{v:Value}(I:Inv X pins σ H s)(r:RelV x v)(ty:tyV X.K T x H) :
 s.TypeIs v T/\∀ a,v = .ref a->∃ ob,s.heap.get? a=some ob/\ob.dict=none:=by
 cases x with
 |str z =>
  obtain⟨t,rfl⟩:=r
  cases(show T="str" from ty)
  exact⟨typeIs_str s z t,fun _ e=>nomatch e⟩
 |int i =>
  obtain⟨t,rfl⟩:=r
  cases(show T="int" from ty)
  exact⟨typeIs_int s i t,fun _ e=>nomatch e⟩
 |ref p =>
  cases r
  rcases ty with⟨rfl,xs,hq⟩ | ⟨rfl,o,hk,hc,hd⟩ | ⟨rfl,hk⟩ | ⟨rfl,S,n,hk⟩
  ·obtain⟨its,_,pl,_⟩:=I.list hq
   refine⟨pl.isList.typeIs,fun a e => ?_⟩
   cases e
   obtain⟨o,n,e,c,hd,_⟩:=pl
   exact⟨o,e,hd⟩
  ·refine⟨⟨o,I.kIn p o hk,hc⟩,fun a e => ?_⟩
   cases e
   exact⟨o,I.kIn _ o hk,hd⟩
  ·have z:∃ o,s.heap.get? p=some o/\o.ExactDict:=by
    rcases hk with⟨kvs,hk⟩ | ⟨kvs,hk⟩
    ·obtain⟨_,_,_,_,o,_,_,e,ex,_⟩:=I.hok p _ hk
     exact⟨o,e,ex⟩
    ·obtain⟨_,_,_,_,o,_,_,e,ex,_⟩:=I.hok p _ hk
     exact⟨o,e,ex⟩
   obtain⟨o,e,ex⟩:=z
   refine⟨⟨o,e,ex.1⟩,fun a e2 => ?_⟩
   cases e2
   exact⟨o,e,ex.2.1⟩
  ·obtain⟨o,_,_,_,e,ex,_⟩:=I.hok p _ hk
   refine⟨⟨o,e,ex.1⟩,fun a e2 => ?_⟩
   cases e2
   exact⟨o,e,ex.2.1⟩
 |_=>exact False.elim ty
noncomputable def tBM0(K:PySem.W.Frag)(T:String)(r:V->List V->Hp->VK->Prop)(to:TE):TE:=fun σ H Q=>to σ H fun x H1=>tyV K T x H1/\r x [] H1 Q
noncomputable def tBM(K:PySem.W.Frag)(T:String)(r:V->List V->Hp->VK->Prop)(to:TE)(t:TA):TE:=fun σ H Q=>to σ H fun x H1=>tyV K T x H1/\t σ H1 fun xs H2=>r x xs H2 Q
variable {o e:Expr}{es:List Expr}{to:TE}{t:TA}{name:Str}{apos cpos:Pos}{T id:String}{r:V->List V->Hp->VK->Prop}
theorem pe_bm0(pa:PlainAttrs T)(slot:Slot T name id)(hty:typeOf (.builtin id)=pure (.type "method_descriptor"))(hm:MtR X id r)(ho:PE X o to)
 (hbase:attributeBase o name X.env (eval o X.env)=eval o X.env:=by rfl) (hline:(apos.endLine == cpos.line)=true:=by rfl):PE X (.Call (.Attribute o name apos) [] [] cpos) (tBM0 X.K T r to):=by
 intro pins s σ H Q I h
 refine wpAny_Call_method0_late hbase hline (thn (ho pins s σ H _ I h) fun v s1 ⟨x,H1,I1,r1,ty,q1⟩ => ?_)
 obtain⟨h1,h2⟩:=tyV_is I1 r1 ty
 exact⟨T,id,pa,slot,hty,h1,h2,Calls.callWith_builtin rfl (PySem.evalArgs_none (hm pins s1 σ H1 x [] v [] Q I1 r1 .nil q1))⟩
theorem pe_bm(pa:PlainAttrs T)(slot:Slot T name id)(hty:typeOf (.builtin id)=pure (.type "method_descriptor"))(hm:MtR X id r)(ho:PE X o to)(ha:PA X (e::es) t)
 (hbase:attributeBase o name X.env (eval o X.env)=eval o X.env:=by rfl)
 (hfew:((backTo cpos (starEach (e::es) X.env)).all (fun x => !x.1) && (backToKw cpos (keywordEach [] X.env)).all (fun x=>x.1.isSome)
   && decide ((e::es).length+([]:List Keyword).length+(if ([]:List Keyword).isEmpty then 0 else 1)<30))=true:=by rfl)
 (hline:(apos.endLine == cpos.line)=true:=by rfl) (hs:starEach (e::es) X.env=(false,eval e X.env)::starEach es X.env:=by rfl) (hplain:(backTo cpos (starEach es X.env)).any (·.1)=false:=by rfl) :
 PE X (.Call (.Attribute o name apos) (e::es) [] cpos) (tBM X.K T r to t):=by
 intro pins s σ H Q I h
 refine wpAny_Call_method_late hbase hfew hline rfl (thn (ho pins s σ H _ I h) fun v s1 ⟨x,H1,I1,r1,ty,q1⟩ => ?_)
 obtain⟨h1,h2⟩:=tyV_is I1 r1 ty
 refine⟨T,id,pa,slot,hty,h1,h2,?_⟩
 have hA:=ha cpos pins s1 σ H1 _ I1 q1
 rw[hs] at hA ⊢
 refine Calls.callWith_builtin (by show(false || (backTo cpos (starEach es X.env)).any (·.1))=false;rw[hplain]<;>rfl) (Calls.evalArgs_plain ?_)
 exact thn hA fun us s2 ⟨vs,H2,I2,r2,q2⟩=>hm pins s2 σ H2 x vs v us Q I2 r1 r2 q2
/- xs.append(e),list.index on a module's tuple .. are MtR facts of 06m -/
end
end L2
namespace L2
open PySem PySem.Spec PyProof.Rows
noncomputable def MtM(X:Cx)(id:String)(r:V->List V->Hp->VK->Prop):Prop :=
 ∀ (pins:List (Addr × Obj)) (s:Shared) (σ:St) (H:Hp) (x:V) (xs:List V) (v:Value) (us:List Value) (Q:VK),Inv X pins σ H s->RelV x v->Vals xs us->r x xs H Q →
  wpAny (model X.prog X.w) X.A (call (.builtin id) (v::us)) (EP X pins σ Q) X.xe s
theorem Vals.one:∀ {x:V} {us:List Value},Vals [x] us->∃ u,us=[u]/\RelV x u
 |_,_,.cons r .nil=>⟨_,rfl,r⟩
theorem Vals.two:∀ {x y:V} {us:List Value},Vals [x,y] us->∃ u v,us=[u,v]/\RelV x u/\RelV y v
 |_,_,_,.cons r (.cons q .nil)=>⟨_,_,rfl,r,q⟩
theorem Vals.zero:∀ {us:List Value},Vals [] us->us=[]
 |_,.nil=>rfl
theorem Vals.dropLast{xs:List V}{us:List Value}(h:Vals xs us):Vals xs.dropLast us.dropLast:=by
 induction h with
 |nil=>exact .nil
 |cons r t ih =>
  cases t with
  |nil=>exact .nil
  |cons q t'=>exact .cons r ih
theorem Vals.eraseIdx:∀ {xs:List V} {us:List Value} (i:Nat),Vals xs us->Vals (xs.eraseIdx i) (us.eraseIdx i)
 |_,_,_,.nil=>.nil
 |_,_,0,.cons _ t=>t
 |_,_,i+1,.cons r t=>.cons r (Vals.eraseIdx i t)
theorem Vals.reverse{xs:List V}{us:List Value}(h:Vals xs us):Vals xs.reverse us.reverse:=by
 induction h with
 |nil=>exact .nil
 |cons r t ih=>rw[List.reverse_cons,List.reverse_cons];exact Vals.append ih (.cons r .nil)
theorem Vals.rep{xs:List V}{us:List Value}(h:Vals xs us):∀ k:Nat,Vals (List.replicate k xs).flatten (List.replicate k us).flatten
 |0=>.nil
 |k+1=>by
  rw[List.replicate_succ,List.replicate_succ,List.flatten_cons,List.flatten_cons]
  exact Vals.append h (Vals.rep h k)
theorem erase_last{α:Type}(l:List α):l.eraseIdx (l.length-1)=l.dropLast:=by
 induction l with
 |nil=>rfl
 |cons a r ih =>
  cases r with
  |nil=>rfl
  |cons b r =>
   have e:(a::b::r).length-1=((b::r).length-1)+1:=by
    have h1:(a::b::r).length=r.length+2:=rfl
    have h2:(b::r).length=r.length+1:=rfl
    omega
   rw[e,List.eraseIdx_cons_succ,ih]
   all_goals rfl
section
variable {X:Cx}{pins:List (Addr × Obj)}{σ:St}{H:Hp}{s:Shared}{l b:Addr}{xs ys zs:List V}
theorem Inv.lset{its its':List Value}{n:Nat}{f:Array Value->Array Value}{t':Nat}(I:Inv X pins σ H s)(hH:H l=some (.lst xs))
 (e:s.heap.get? l=some {cls:=.type "list",data:=.seq its.toArray n}) (hf:f its.toArray=its'.toArray) (hv:Vals ys its') (hz:ys.length<=sizeLine) :
 Inv X pins σ (upd H l (.lst ys)) {s with heap:=s.heap.update l (Obj.mapSeq f),toks:=t'}:=by
 have q:=PySem.IsL.update e f
 rw[hf] at q
 refine I.write (x:=l) (e:=l) (by rw[hH];exact trivial) (.inl rfl) (fun b' u hb hu=>(Heap.get?_update_other s.heap (Obj.mapSeq f) (Ne.symm hb)).trans hu) ⟨_,q⟩ ?_
 exact⟨hz,its',_,hv,q⟩
theorem Inv.lnew{its:List Value}{t':Nat}(I:Inv X pins σ H s)(hv:Vals ys its)(hz:ys.length<=sizeLine) :
 Inv X pins σ (upd H s.heap.objs.size (.lst ys)) {s with heap:=s.heap.push {cls:=.type "list",data:=.seq its.toArray},toks:=t'} :=
 I.laid (fun _ _ q=>Heap.get?_push_of_some _ q) (Nat.le_refl _) ⟨hz,its,0,hv,Heap.get?_push_size _ rfl⟩
theorem Inv.fresh(I:Inv X pins σ H s):H s.heap.objs.size=none:=I.hok.fresh (Nat.le_refl _)
theorem Inv.lstM(I:Inv X pins σ H s)(hH:H l=some (.lst xs)):xs.length<=sizeLine/\∃ (its:List Value) (n:Nat),Vals xs its/\xs.length=its.length/\s.heap.get? l=some {cls:=.type "list",data:=.seq its.toArray n}:=by
 obtain⟨z,its,n,r,e⟩:=I.hok l _ hH
 exact⟨z,its,n,r,r.length,e⟩
theorem notLongL{n:Nat}(h:n<=sizeLine):Builtin.List.listTooLong n=false:=by
 unfold Builtin.List.listTooLong
 exact decide_eq_false (by omega)
end
section
variable {X:Cx}
noncomputable def rAppend:V->List V->Hp->VK->Prop:=fun x vs H Q=>∃ l xs y,x = .ref l/\vs=[y]/\H l=some (.lst xs)/\xs.length<sizeLine/\Q .non (upd H l (.lst (xs++[y])))
theorem mt_append:MtM X "list.append" rAppend:=by
 intro pins s σ H x vs v us Q I rx rv h
 obtain⟨l,xs,y,rfl,rfl,hH,hz,q⟩:=h
 cases rx
 obtain⟨u,rfl,ru⟩:=rv.one
 obtain⟨z,its,n,r,hl,e⟩:=I.lstM hH
 refine call_meets F.slot_list_append ⟨_,e,rfl⟩ F.entry_list_append (F.args_list_append_2 _ _) (PySem.list_append l its.toArray n u (by rw[List.size_toArray];omega)) ⟨e,?_⟩
 refine⟨.non,_,I.lset (its':=its++[u]) hH e (by simp) (r.append (.cons ru .nil)) ?_,rfl,q⟩
 rw[List.length_append,List.length_singleton]
 omega
noncomputable def rExtend:V->List V->Hp->VK->Prop:=fun x vs H Q=>∃ l b xs zs,x = .ref l/\vs=[.ref b]/\H l=some (.lst xs)/\H b=some (.lst zs)/\xs.length+zs.length<=sizeLine/\Q .non (upd H l (.lst (xs++zs)))
theorem mt_extend:MtM X "list.extend" rExtend:=by
 intro pins s σ H x vs v us Q I rx rv h
 obtain⟨l,b,xs,zs,rfl,rfl,hH,hB,hz,q⟩:=h
 cases rx
 obtain⟨u,rfl,ru⟩:=rv.one
 cases ru
 obtain⟨z,its,n,r,hl,e⟩:=I.lstM hH
 obtain⟨z2,its2,n2,r2,hl2,e2⟩:=I.lstM hB
 have hsz:its.toArray.size+its2.toArray.size<=sizeLine:=by rw[List.size_toArray,List.size_toArray];omega
 have hlong:¬ (!its.toArray.isEmpty && Builtin.List.listTooLong (its.toArray.size+its2.toArray.size))=true:=by
  rw[notLongL hsz,Bool.and_false]
  exact Bool.false_ne_true
 refine call_meets F.slot_list_extend ⟨_,e,rfl⟩ F.entry_list_extend (F.args_list_extend_2 _ _)
  (AutoSeq1.list_extend_list_list_0 l its.toArray n b its2.toArray n2 hlong (by rw[List.size_toArray];omega) (by omega)) ⟨e,e2,?_⟩
 refine⟨.non,_,I.lset (its':=its++its2) hH e (by simp) (r.append r2) ?_,rfl,q⟩
 rw[List.length_append]
 omega
noncomputable def rPop:V->List V->Hp->VK->Prop:=fun x vs H Q=>∃ l xs y,x = .ref l/\vs=[]/\H l=some (.lst xs)/\xs[xs.length-1]?=some y/\Q y (upd H l (.lst xs.dropLast))
theorem mt_pop:MtM X "list.pop" rPop:=by
 intro pins s σ H x vs v us Q I rx rv h
 obtain⟨l,xs,y,rfl,rfl,hH,hy,q⟩:=h
 cases rx
 have hus:=rv.zero
 subst hus
 obtain⟨z,its,n,r,hl,e⟩:=I.lstM hH
 obtain⟨u,hu,ru⟩:=r.get hy
 have hy':its.toArray[its.toArray.size-1]?=some u:=by
  show its.toArray[its.length-1]?=some u
  rw[← Array.getElem?_toList, ← hl]
  exact hu
 refine call_meets F.slot_list_pop ⟨_,e,rfl⟩ F.entry_list_pop (F.args_list_pop_1 _) (MeetsSeq.list_pop_last l its.toArray n u hy' (by rw[List.size_toArray];omega)) ⟨e,?_⟩
 refine⟨y,_,I.lset (its':=its.dropLast) hH e ?_ r.dropLast ?_,ru,q⟩
 ·show its.toArray.eraseIdxIfInBounds (its.toArray.size-1)=its.dropLast.toArray
  rw[List.size_toArray,List.eraseIdxIfInBounds_toArray,erase_last]
 ·rw[List.length_dropLast]
  omega
noncomputable def rCat:R2:=fun x y H Q=>∃ l b xs zs,x = .ref l/\y = .ref b/\H l=some (.lst xs)/\H b=some (.lst zs)/\xs.length+zs.length<=sizeLine/\∀ p,H p=none->Q (.ref p) (upd H p (.lst (xs++zs)))
theorem op_cat:OpR X (binaryOp .Add) rCat:=by
 intro pins s σ H x y v u Q I rx ry h
 obtain⟨l,b,xs,zs,rfl,rfl,hH,hB,hz,q⟩:=h
 cases rx
 cases ry
 obtain⟨z,its,n,r,hl,e⟩:=I.lstM hH
 obtain⟨z2,its2,n2,r2,hl2,e2⟩:=I.lstM hB
 refine PySem.P.add_list e e2 ?_ (by rw[List.size_toArray,List.size_toArray];omega)
 have ea:its.toArray++its2.toArray=(its++its2).toArray:=by simp
 rw[ea]
 exact⟨.ref _,_,I.lnew (t':=s.toks) (r.append r2) (by rw[List.length_append];omega),rfl,q _ I.fresh⟩
end
section
variable {prog:Program}{w:World}{A:Around}{E:Value->Shared->Prop}{s:Shared}
set_option maxRecDepth 100000 in
end
section
variable {X:Cx}
end
end L2
namespace Att
open PySem PySem.W PySem.Calls PyProof.Rows
theorem ints_of_wellAll{P:Params}{h:Heap}:∀ (ns:List Int) (vs:List Value),WellAll P h vs (ns.map WData.int)->IntsAre vs ns:=by
 intro ns
 induction ns with
 |nil =>
  intro vs w
  rw[List.map_nil] at w
  cases w
  exact .nil
 |cons n ns ih =>
  intro vs w
  rw[List.map_cons] at w
  cases w with
  |cons a b =>
   cases a
   exact .cons _ _ (ih _ b)
theorem script_of{l:OpenLaw}{n:Nat}(hn:l.most=some n){P:Params}{h:Heap}{args:List WData}{vals:List Value}
 (hpre:l.row.toRowW.claim.pre args=true) (hwl:WellAll P h vals args) :
 ∃ a vs ns,vals=[Value.ref a]/\args=[WData.list (ns.map WData.int)]/\h.get? a=some {cls:=.type "list",data:=.seq vs.toArray}/\IntsAre vs ns/\ns.length<=n:=by
 have hsh:WShape.hasAll [] args [.list .int]=true:=(pre_splitW hpre).1
 have hc:l.pre.holds [] {args:=args}=true:=(pre_splitW hpre).2
 obtain⟨d,r,rfl,h1,h2⟩:=hasAllW_cons hsh
 obtain rfl:=hasAllW_nil h2
 obtain⟨xs,rfl,h3⟩:=hasW_list h1
 obtain⟨ns,rfl⟩:=items_int h3
 have hlen:ns.length<=n:=by
  unfold OpenLaw.pre at hc
  have h4:(WTm.not (.lt (.lit (.int (n:Int))) (.len (.arg 0)))).holds [] {args:=[.list (ns.map .int)]}=true:=by
   have h4:=(holds_andW hc).1
   rw[hn] at h4
   exact h4
  have h5:=condW_of h4 (w_not (w_lt w_lit (w_len_list (w_arg rfl))))
  rw[List.length_map] at h5
  refine Nat.le_of_not_lt fun q => ?_
  have q':(n:Int)<((ns.length:Nat):Int):=by omega
  first
   | (rw[decide_eq_true q'] at h5;exact absurd h5 (by decide))
   | (simp at h5;omega)
 cases hwl with
 |cons w1 w2 =>
  cases w2
  cases w1 with
  |list ho hall=>exact⟨_,_,ns,rfl,rfl,ho,ints_of_wellAll ns _ hall,hlen⟩
theorem post_true(l:OpenLaw)(args:List WData):l.row.toRowW.claim.post args (.bool true) args=true :=
 postW_of (r:=l.row.toRowW) (X:=(true == true))
  (show WShape.has [] (.bool true) .bool=true by first|rfl|decide|simp[WShape.has,WShape.arms,WShape.armsAll])
  (show(WTm.eq .res (.lit (.bool true))).value [] {args:=args,res:=some (.bool true),after:=args}=some (.bool (true == true)) from w_eq_bool (w_res rfl) w_lit) rfl
theorem attach_call{l:OpenLaw}{n:Nat}{q:Program}{loose:List Str}{XP:(Str->Option Value)->Heap->Prop}{YP:World->Heap->Prop}{d:DefRec}
 (hn:l.most=some n) (hdf:d.params.defaults=[])
 (call:∀ (w:World) (s₀ s₁:Shared) (mg mb:Str->Option Value) (fa:Addr) (o:Obj) (pm cd doc:Value) (a:Addr) (vs:List Value) (ns:List Int),
   Ground q loose [] XP w s₀ mg mb s₁.heap->YP w s₁.heap →
   s₁.heap.get? fa=some o->o.data = .func (docDef d.name d.params d.body d.scope pm cd doc)->s₁.heap.CodeRec cd d.name->mg d.name=some (.ref fa) →
   s₁.heap.get? a=some {cls:=.type "list",data:=.seq vs.toArray}->IntsAre vs ns->ns.length<=n->s₁.gens = #[] →
   codeAny (model l.prog w) callerA (.call (.ref fa) ⟨[.ref a],[]⟩) (fun r s'=>r = .ok (.ret (.bool true))/\OldK s₁.heap s'.heap/\s'.os=s₁.os/\AllBare s'.gens) s₁) :
 WalkO q loose XP YP l.row.toRowW d [] (fun f vs=>PySem.call f vs):=by
 intro w s₀ s₁ mg mb G Y fa o pm cd doc dV kV ho hd hcd hD hmg hg args vals as hpre hlay hrd hwl hlo
 obtain rfl:dV = .none:=Dflts.none hD hdf
 obtain rfl:kV = .none:=Dflts.noKw hD
 obtain⟨a,vs,ns,rfl,rfl,hobj,hints,hlen⟩:=script_of hn hpre hwl
 refine enter_call (codeAny_mono (call w s₀ s₁ mg mb fa o pm cd doc a vs ns G Y ho (fd_plain hd) hcd hmg hobj hints hlen hg) fun r s' hq => ?_)
 obtain⟨rfl,h2,h3,h4⟩:=hq
 exact⟨.inl ⟨.bool true,.bool true,[],rfl,fun _=>rfl,.bool true,post_true l _,fun _=>⟨List.Pairwise.nil,fun _ hm=>(nomatch hm)⟩⟩,h2,h3,h4⟩
section
variable {prog:Program}{w:World}{A:Around}{E:Value->Shared->Prop}{s:Shared}{K:Frag}
noncomputable def ledger(h:Heap)(L d:Addr):List (Addr × Obj):=(List.range h.objs.size).filterMap fun a=>if a=L\/a=d then none else (h.get? a).map fun o=>(a,o)
end
end Att
namespace L2
open PySem PySem.Spec PyProof.Rows
theorem vals_ints:∀ {vs:List Value} {ns:List Int},IntsAre vs ns->Vals (ns.map V.int) vs
 |_,_,.nil=>.nil
 |_,_,.cons n t h=>.cons ⟨t,rfl⟩ (vals_ints h)
noncomputable def Only(H:Hp):Prop:=∀ b,H b=none\/∃ o xs,H b=some (.frz o (.lst xs))
theorem law_call{P:Program}{w:World}{K:PySem.W.Frag}{mg mb:Str->Option Value}{CX:CXT}{k:Nat}{fa a:Addr}{fd:FuncData}{x:Str}{sp:Sp}{s₁:Shared}{vs:List Value}{ns:List Int}
 (KX:K.In s₁.heap) (hns:s₁.heap.Ns mainGlobals mg) (hb:s₁.heap.Ns builtinsNs mb) (hbb:∀ x:Str,x ≠ "__name__"->mb x=bootBuiltins x) (hlim:s₁.heap.NoLimit) (hg:s₁.gens = #[])
 (ha:s₁.heap.get? a=some {cls:=.type "list",data:=.seq vs.toArray}) (hi:IntsAre vs ns) (hl:ns.length<=sizeLine) (hr:Room k callerA)
 (F:∀ base:Heap,K.In base->base.Ns mainGlobals mg->FnOk P w K mg base CX k fa fd [x] sp) (hbind:∀ (s:Shared) (u:Value),BindsTo s fd ⟨[u],[]⟩ [(x,u)])
 (hsp:∀ H:Hp,Only H->SqL K H a (ns.map V.int)->sp [.ref a] H (fun v _=>v = .bl true) fun _ _ _=>False)
 (hCX:∀ H e s',CX [] H s₁ (fun _ _ _=>False) e s'->False) :
 codeAny (model P w) callerA (.call (.ref fa) ⟨[.ref a],[]⟩) (fun r s'=>r = .ok (.ret (.bool true))/\OldK s₁.heap s'.heap/\s'.os=s₁.os/\AllBare s'.gens) s₁:=by
 have rv:=vals_ints hi
 have lenV:=hi.length
 have core:∀ H:Hp,Only H->SqL K H a (ns.map V.int)->HOk P w H s₁.heap->(∀ b,H b≠none->b=a)->(H a≠none->K.lookup a=none) →
  codeAny (model P w) callerA (.call (.ref fa) ⟨[.ref a],[]⟩) (fun r s'=>r = .ok (.ret (.bool true))/\OldK s₁.heap s'.heap/\s'.os=s₁.os/\AllBare s'.gens) s₁:=by
  intro H hO hS hok hA hK
  have base_of:∀ {b:Addr} {o:Obj},s₁.heap.get? b=some o->H b=none->(hidT s₁.heap H).get? b=some o:=fun e n=>hidT_get e n
  have noA:∀ {b:Addr} {o:Obj} {es:Array DictEntry} {ep:Nat},s₁.heap.get? b=some o->o.data = .dict es ep->H b=none:=fun {b o es ep} e d=>by
   cases q:H b with
   |none=>rfl
   |some u =>
    have e':b=a:=hA b (by rw[q];simp)
    subst e'
    rw[ha] at e;cases e
    have d':Data.seq vs.toArray _=Data.dict es ep:=d
    cases d'
  have nsK:∀ {b:Addr} {m:Str->Option Value},s₁.heap.Ns b m->(hidT s₁.heap H).Ns b m:=fun {b m} ⟨o,es,ep,e,d,r⟩=>⟨o,es,ep,base_of e (noA e d),d,r⟩
  have hKb:K.In (hidT s₁.heap H):=fun b o e=>base_of (KX b o e) (by
   cases q:H b with
   |none=>rfl
   |some u =>
    have e':b=a:=hA b (by rw[q];simp)
    subst e'
    rw[hK (by rw[q];simp)] at e;cases e)
  have hM:Mod K mg (hidT s₁.heap H):=⟨hKb,nsK hns,⟨mb,nsK hb,hbb⟩,let ⟨mc,h1,h2⟩:=hlim;⟨mc,nsK h1,h2⟩⟩
  have e0:Env0 P w K mg (hidT s₁.heap H) callerA [] s₁ H:=⟨rfl,hM,fun b o e=>of_hidT e,Nat.le_of_eq (hidT_size _ _),trivial,fun b hb=>absurd (show b∈([]:List Addr) from hb) (by simp),hok,.of_eq hg⟩
  refine codeAny_mono ((F _ hKb (nsK hns)).run callerA [] s₁ H ⟨[.ref a],[]⟩ [.ref a] [.ref a] _ _ hr e0 (hbind s₁ (.ref a)) (.cons rfl .nil) (hsp H hO hS)) fun r s' h => ?_
  cases r with
  |error e=>exact(hCX H e s' h).elim
  |ok fl =>
   cases fl with
   |next=>exact False.elim h
   |brk=>exact False.elim h
   |cont=>exact False.elim h
   |ret u =>
    obtain⟨v,H',os,bare,un,hok',r',q⟩:=h
    have q':v = .bl true:=q
    subst q'
    obtain rfl:u=Value.bool true:=r'
    refine⟨rfl,OldK.of_keep fun b o e => ?_,os,bare⟩
    cases q:H b with
    |none=>exact un.keep b o e q (by intro z;exact absurd (show b∈([]:List Addr) from z) (by simp)) (by simp)
    |some u =>
     rcases hO b with z | ⟨ob,xs,z⟩
     ·rw[q] at z;cases z
     ·have z2:=un.frzs b ob _ z
      obtain⟨e1,_⟩:=hok b _ z
      obtain⟨e2,_⟩:=hok' b _ z2
      rw[e] at e1;cases e1
      exact e2
 cases hk:K.lookup a with
 |some o =>
  have e:=KX a o hk
  rw[ha] at e
  cases e
  refine core (fun _=>none) (fun _=>.inl rfl) (.inr ⟨_,vs.toArray,_,hk,rfl,rfl,rfl,by rw[List.size_toArray,lenV];exact hl,by simpa using rv⟩) (fun b u z=>by have z':(none:Option HO)=some u:=z;cases z') (fun b z=>absurd rfl z) fun z=>absurd rfl z
 |none =>
  refine core (fun b=>if b=a then some (.frz {cls:=.type "list",data:=.seq vs.toArray} (.lst (ns.map V.int))) else none) (fun b => ?_) (.inl (.inr ⟨{cls:=.type "list",data:=.seq vs.toArray},if_pos rfl⟩)) (fun b u z => ?_) (fun b z => ?_) fun _=>hk
  ·by_cases hb:b=a
   ·exact .inr ⟨_,_,if_pos hb⟩
   ·exact .inl (if_neg hb)
  ·by_cases hb:b=a
   ·have z':=(if_pos hb).symm.trans z
    cases z'
    subst hb
    exact⟨ha,by rw[List.length_map];exact hl,vs,_,rv,ha⟩
   ·have z':=(if_neg hb).symm.trans z
    cases z'
  ·by_cases hb:b=a
   ·exact hb
   ·exact absurd (if_neg hb) z
end L2
namespace L2
open PySem PySem.Spec PyProof.Rows
theorem walk_of{l:PySem.W.OpenLaw}{n k:Nat}{q:Program}{loose:List Str}{XP:(Str->Option Value)->Heap->Prop}{YP:World->Heap->Prop}{d:DefRec}{K:Params->PySem.W.Frag}{CX:World->CXT}{sp:World->Sp}{x:Str}
 (hn:l.most=some n) (hn2:n<=sizeLine) (hdf:d.params.defaults=[]) (hr:Room k callerA)
 (hY:∀ (w:World) (h:Heap),YP w h->(K w.params).In h)
 (F:∀ (w:World) (mg:Str->Option Value) (fa:Addr) (h:Heap),(K w.params).In h->h.Ns mainGlobals mg->mg d.name=some (.ref fa) →
   ∃ fd:FuncData,(∀ (s:Shared) (u:Value),BindsTo s fd ⟨[u],[]⟩ [(x,u)]) ∧
    ∀ base:Heap,(K w.params).In base->base.Ns mainGlobals mg->FnOk l.prog w (K w.params) mg base (CX w) k fa fd [x] (sp w))
 (hsp:∀ (w:World) (H:Hp) (a:Addr) (ns:List Int),ns.length<=n->Only H->SqL (K w.params) H a (ns.map V.int)->sp w [.ref a] H (fun v _=>v = .bl true) fun _ _ _=>False)
 (hCX:∀ (w:World) (H:Hp) (s:Shared) (e:Value) (s':Shared),CX w [] H s (fun _ _ _=>False) e s'->False) :
 PySem.W.WalkO q loose XP YP l.row.toRowW d [] (fun f vs=>PySem.call f vs):=by
 refine Att.attach_call hn hdf fun w s₀ s₁ mg mb fa o pm cd doc a vs ns G Y ho hd hcd hmg hobj hints hlen hg => ?_
 have KX:=hY w _ Y
 obtain⟨fd,hb,hF⟩:=F w mg fa _ KX G.T.g hmg
 exact law_call KX G.T.g G.T.b G.T.builtins G.T.nolimit hg hobj hints (Nat.le_trans hlen hn2) hr hF hb (fun H hO hS=>hsp w H a ns hlen hO hS) fun H e s'=>hCX w H s₁ e s'
end L2
namespace L2
open PySem PySem.Spec PyProof.Rows
noncomputable def defArgs(s:Stmt):Arguments:=match s with
 | .FunctionDef _ a _ _ _ _ _ _ _ _=>a
 |_=>{posonlyargs:=[],args:=[],vararg:=none,kwonlyargs:=[],kw_defaults:=[],kwarg:=none,defaults:=[]}
noncomputable def defBody(s:Stmt):List Stmt:=match s with
 | .FunctionDef _ _ b _ _ _ _ _ _ _=>b
 |_=>[]
noncomputable def defScope(s:Stmt):Scope:=match s with
 | .FunctionDef _ _ _ _ _ _ sc _ _ _=>sc
 |_=>{kind:=.function,names:=[],isGenerator:=false,isCoroutine:=false}
noncomputable abbrev CX0:CXT:=fun _ _ _ _ _ _=>False
noncomputable abbrev E0:XK:=fun _ _ _=>False
structure Fun(K:PySem.W.Frag)(x qual:Str)(st:Stmt)(f:Addr)(fd:FuncData):Prop where
 ex:∃ (oc:Value) (od:Option Addr) (kV doc pm:Value) (an:Option Addr) (cdv ct:Value) (osl:Array (Option Value)),
  fd=PySem.W.fnOf x qual (defArgs st) (defBody st) (defScope st) .none kV doc pm an cdv ct/\K.lookup f=some ⟨oc,od,.func fd,osl⟩/\PySem.W.codeIn K cdv qual=true
 kp:PySem.W.keepIn K (.ref f)=true
section
variable {P:Program}{w:World}{K:PySem.W.Frag}{mg:Str->Option Value}{base:Heap}
theorem Fun.ok{x qual:Str}{st:Stmt}{f:Addr}{fd:FuncData}{N ps:List Str}{k:Nat}{sp:Sp}(F:Fun K x qual st f fd)(S:FnScope N ps (defScope st))(len:∀ vs H Q E,sp vs H Q E->vs.length=ps.length)
 (hbody:∀ (cdv:Value) (A:Around) (outer:List Env) (s:Shared) (H:Hp) (vs:List V) (Q:VK) (E:XK),Room k (A.deeper (envOfC qual (defScope st) s.heap.objs.size f cdv))->sp vs H Q E →
   ∃ t,PSs (cxOf CX0 P w K mg base N qual (defScope st) f cdv A outer s H E).nox (defBody st) t/\t {nx:=fun _ H'=>Q .non H',rt:=Q} (start N vs) H):FnOk P w K mg base CX0 (k+1) f fd ps sp:=by
 obtain⟨oc,od,kV,doc,pm,an,cdv,ct,osl,rfl,lk,hcd⟩:=F.ex
 refine fn_of lk hcd S len fun A outer s H vs Q E hr hsp => ?_
 obtain⟨t,h,q⟩:=hbody cdv A outer s H vs Q E hr hsp
 exact⟨t,h.nox,q⟩
theorem Fun.binds{x qual:Str}{st:Stmt}{f:Addr}{fd:FuncData}{ps:List Str}(F:Fun K x qual st f fd)
 (h:∀ (kV doc pm:Value) (an:Option Addr) (cdv ct:Value) (us:List Value),us.length=ps.length->bindArgs (PySem.W.fnOf x qual (defArgs st) (defBody st) (defScope st) .none kV doc pm an cdv ct) ⟨us,[]⟩=pure (ps.zip us)):Binds K fd ps []:=by
 obtain⟨oc,od,kV,doc,pm,an,cdv,ct,osl,rfl,lk,hcd⟩:=F.ex
 exact .all (h kV doc pm an cdv ct)
theorem fun_mk{x qual:Str}{st:Stmt}{f:Addr}{oc:Value}{od an:Option Addr}{osl:Array (Option Value)}{kV doc pm cdv ct:Value}(l:K.lookup f=some ⟨oc,od,.func (PySem.W.fnOf x qual (defArgs st) (defBody st) (defScope st) .none kV doc pm an cdv ct),osl⟩)
 (c:PySem.W.codeIn K cdv qual=true) (k:PySem.W.keepIn K (.ref f)=true):Fun K x qual st f (PySem.W.fnOf x qual (defArgs st) (defBody st) (defScope st) .none kV doc pm an cdv ct):=⟨⟨oc,od,kV,doc,pm,an,cdv,ct,osl,rfl,l,c⟩,k⟩
end
section
variable {X:Cx}
end
theorem iteF{A B:Prop}(h:B):if false=true then A else B:=by
 rw[if_neg Bool.false_ne_true]
 exact h
theorem iteT{A B:Prop}(h:A):if true=true then A else B:=by
 rw[if_pos rfl]
 exact h
noncomputable def Same(H H':Hp):Prop:=∀ b o,H b=some o->H' b=some o
theorem Same.refl(H:Hp):Same H H:=fun _ _ h=>h
theorem Same.trans{H H1 H2:Hp}(a:Same H H1)(b:Same H1 H2):Same H H2:=fun c o h=>b c o (a c o h)
theorem Same.free{H H':Hp}(e:Same H H'){l:Addr}(h:H' l=Option.none):H l=Option.none:=by
 cases q:H l with
 |none=>rfl
 |some o =>
  rw[e l o q] at h
  cases h
theorem Same.seq{K:PySem.W.Frag}{H H':Hp}{a:Addr}{xs:List V}(e:Same H H')(h:SqL K H a xs):SqL K H' a xs:=by
 rcases h with(h | ⟨o,h⟩)|h
 ·exact .inl (.inl (e _ _ h))
 ·exact .inl (.inr ⟨o,e _ _ h⟩)
 ·exact .inr h
end L2
namespace L2
open PySem PySem.Spec PyProof.Rows
section
variable {κ:Type}[DecidableEq κ]
noncomputable def valV(kvs:List (κ × V))(k:κ):Option V:=(kvs.find? fun kv=>decide (kv.1=k)).map (·.2)
noncomputable def putK(kvs:List (κ × V))(k:κ)(v:V):List (κ × V) :=
 if (kvs.any fun kv=>decide (kv.1=k))=true then kvs.map (fun kv=>if kv.1=k then (kv.1,v) else kv) else kvs++[(k,v)]
noncomputable def dropK(kvs:List (κ × V))(k:κ):List (κ × V):=kvs.filter fun kv=>decide (kv.1≠k)
theorem valV_pos{p:κ × V}{r:List (κ × V)}{k:κ}(e:p.1=k):valV (p::r) k=some p.2:=by simp[valV,List.find?_cons,e]
theorem valV_neg{p:κ × V}{r:List (κ × V)}{k:κ}(e:¬ p.1=k):valV (p::r) k=valV r k:=by simp[valV,List.find?_cons,e]
theorem valV_any(k:κ):∀ kvs:List (κ × V),(kvs.any fun kv=>decide (kv.1=k))=(valV kvs k).isSome
 | []=>rfl
 |p::r=>by
  rw[List.any_cons]
  by_cases e:p.1=k
  ·simp only[valV_pos e,decide_eq_true e,Bool.true_or,Option.isSome_some]
  ·rw[valV_neg e,decide_eq_false e,Bool.false_or];exact valV_any k r
theorem length_putK(kvs:List (κ × V))(k:κ)(v:V):(putK kvs k v).length<=kvs.length+1:=by
 unfold putK
 split
 ·rw[List.length_map];omega
 ·rw[List.length_append,List.length_cons,List.length_nil];omega
theorem putK_new{kvs:List (κ × V)}{k:κ}(v:V)(h:valV kvs k=none):putK kvs k v=kvs++[(k,v)]:=by
 unfold putK
 rw[valV_any,h]
 exact if_neg (by decide)
theorem RelO.isSome_eq{o:Option V}{u:Option Value}(r:RelO o u):o.isSome=u.isSome:=by
 cases o with
 |none=>cases u with
  |none=>rfl
  |some _=>exact(show False from r).elim
 |some _=>cases u with
  |none=>exact(show False from r).elim
  |some _=>rfl
theorem RelO.getD{o:Option V}{u:Option Value}{d:V}{d':Value}(r:RelO o u)(rd:RelV d d'):RelV (o.getD d) (u.getD d'):=by
 cases o with
 |none=>cases u with
  |none=>exact rd
  |some _=>exact(show False from r).elim
 |some _=>cases u with
  |none=>exact(show False from r).elim
  |some _=>exact r
theorem KV.val{kvs:List (κ × V)}{vs:List (κ × Value)}(r:KV kvs vs)(k:κ):RelO (valV kvs k) (valueAt vs k):=by
 unfold KV at r
 induction r with
 |nil=>exact True.intro
 | @cons p q ps qs h t ih =>
  obtain⟨h1,h2⟩:=h
  by_cases e:p.1=k
  ·have e':q.1=k:=h1.symm.trans e
   have b:valueAt (q::qs) k=some q.2:=by simp[valueAt,List.find?_cons,e']
   rw[valV_pos e,b];exact h2
  ·have e':¬ q.1=k:=fun z=>e (h1.trans z)
   have b:valueAt (q::qs) k=valueAt qs k:=by simp[valueAt,List.find?_cons,e']
   rw[valV_neg e,b];exact ih
theorem KV.any{kvs:List (κ × V)}{vs:List (κ × Value)}(r:KV kvs vs)(k:κ):(kvs.any fun kv=>decide (kv.1=k))=vs.any fun kv=>decide (kv.1=k):=by
 unfold KV at r
 induction r with
 |nil=>rfl
 |cons h t ih=>rw[List.any_cons,List.any_cons,ih,h.1]
theorem KV.repl{kvs:List (κ × V)}{vs:List (κ × Value)}(r:KV kvs vs)(k:κ){y:V}{u:Value}(ry:RelV y u) :
 KV (kvs.map fun kv=>if kv.1=k then (kv.1,y) else kv) (vs.map fun kv=>if kv.1=k then (kv.1,u) else kv):=by
 unfold KV at r ⊢
 induction r with
 |nil=>exact .nil
 | @cons p q ps qs h t ih =>
  rw[List.map_cons,List.map_cons]
  refine .cons ?_ ih
  obtain⟨h1,h2⟩:=h
  by_cases e:p.1=k
  ·rw[if_pos e,if_pos (h1.symm.trans e)];exact⟨h1,ry⟩
  ·rw[if_neg e,if_neg (fun z=>e (h1.trans z))];exact⟨h1,h2⟩
theorem KV.put{kvs:List (κ × V)}{vs:List (κ × Value)}(r:KV kvs vs)(k:κ){y:V}{u:Value}(ry:RelV y u):KV (putK kvs k y) (stored vs k u):=by
 unfold putK stored
 rw[r.any k]
 by_cases e:(vs.any fun kv=>decide (kv.1=k))=true
 ·rw[if_pos e,if_pos e];exact r.repl k ry
 ·rw[if_neg e,if_neg e];exact Paired.snoc r ⟨rfl,ry⟩
theorem KV.drop{kvs:List (κ × V)}{vs:List (κ × Value)}(r:KV kvs vs)(k:κ):KV (dropK kvs k) (without vs k):=by
 unfold KV at r ⊢
 unfold dropK without
 induction r with
 |nil=>exact .nil
 | @cons p q ps qs h t ih =>
  obtain⟨h1,h2⟩:=h
  rw[List.filter_cons,List.filter_cons]
  by_cases e:p.1=k
  ·have a:¬ decide (p.1≠k)=true:=by simp[e]
   have b:¬ decide (q.1≠k)=true:=by simp[h1.symm.trans e]
   rw[if_neg a,if_neg b];exact ih
  ·have e':¬ q.1=k:=fun z=>e (h1.trans z)
   have a:decide (p.1≠k)=true:=by simp[e]
   have b:decide (q.1≠k)=true:=by simp[e']
   rw[if_pos a,if_pos b];exact .cons ⟨h1,h2⟩ ih
theorem KV.keys{kvs:List (κ × V)}{vs:List (κ × Value)}(r:KV kvs vs):kvs.map (·.1)=vs.map (·.1):=by
 unfold KV at r
 induction r with
 |nil=>rfl
 |cons h t ih=>rw[List.map_cons,List.map_cons,ih,h.1]
theorem KV.length{kvs:List (κ × V)}{vs:List (κ × Value)}(r:KV kvs vs):kvs.length=vs.length:=Paired.length r
end
theorem kV_is{P:Program}{w:World}{k:Key}{u:Value}(r:RelV (kV k) u):(mixKind P w).is k u=true:=by
 cases k with
 |inl i=>obtain⟨t,e⟩:=(show ∃ t,u=Value.int i t from r);subst e;exact mixKind_int P w i t
 |inr x=>obtain⟨t,e⟩:=(show ∃ t,u=Value.str x t from r);subst e;exact mixKind_str P w x t
theorem items_are{P:Program}{w:World}:∀ {ks:List Key} {us:List Value},Vals (ks.map kV) us->ItemsAre (mixKind P w) ks us
 | [],_,r=>by rw[List.map_nil] at r;cases r;exact .nil
 |k::ks,_,r=>by
  rw[List.map_cons] at r
  cases r with
  |cons h t=>exact .cons (kV_is h) (items_are t)
noncomputable abbrev KT(H:Hp):List (List Key × V)->List (List Key × Addr × Value)->Prop:=Paired fun p q=>p.1=q.1/\H q.2.1=some (.tup (p.1.map kV))/\RelV p.2 q.2.2
theorem KT.val{H:Hp}{kvs:List (List Key × V)}{xs:List (List Key × Addr × Value)}(r:KT H kvs xs)(k:List Key):RelO (valV kvs k) ((atKey xs k).map (·.2)):=by
 induction r with
 |nil=>exact True.intro
 | @cons p q ps qs h t ih =>
  obtain⟨h1,_,h2⟩:=h
  by_cases e:p.1=k
  ·have e':q.1=k:=h1.symm.trans e
   have b:atKey (q::qs) k=some q.2:=by simp[atKey,List.find?_cons,e']
   rw[valV_pos e,b];exact h2
  ·have e':¬ q.1=k:=fun z=>e (h1.trans z)
   have b:atKey (q::qs) k=atKey qs k:=by simp[atKey,List.find?_cons,e']
   rw[valV_neg e,b];exact ih
theorem KT.repl{H:Hp}{kvs:List (List Key × V)}{xs:List (List Key × Addr × Value)}(r:KT H kvs xs)(k:List Key){y:V}{u:Value}(ry:RelV y u) :
 KT H (kvs.map fun kv=>if kv.1=k then (kv.1,y) else kv) (xs.map (putAt k u)):=by
 induction r with
 |nil=>exact .nil
 | @cons p q ps qs h t ih =>
  rw[List.map_cons,List.map_cons]
  refine .cons ?_ ih
  obtain⟨h1,h2,h3⟩:=h
  unfold putAt
  by_cases e:p.1=k
  ·rw[if_pos e,if_pos (h1.symm.trans e)];exact⟨h1,h2,ry⟩
  ·rw[if_neg e,if_neg (fun z=>e (h1.trans z))];exact⟨h1,h2,h3⟩
theorem KT.put{H:Hp}{kvs:List (List Key × V)}{xs:List (List Key × Addr × Value)}(r:KT H kvs xs)(k:List Key){b:Addr}{y:V}{u:Value}(hb:H b=some (.tup (k.map kV)))(ry:RelV y u) :
 KT H (putK kvs k y) (storedH xs k b u):=by
 have e:(kvs.any fun kv=>decide (kv.1=k))=(atKey xs k).isSome:=by
  rw[valV_any,(r.val k).isSome_eq,Option.isSome_map]
 unfold putK storedH
 rw[e]
 by_cases q:(atKey xs k).isSome=true
 ·rw[if_pos q,if_pos q];exact r.repl k ry
 ·rw[if_neg q,if_neg q];exact Paired.snoc r ⟨rfl,hb,ry⟩
theorem KT.keeps{H H':Hp}{kvs:List (List Key × V)}{xs:List (List Key × Addr × Value)}(r:KT H kvs xs)(ht:∀ b ys,H b=some (.tup ys)->H' b=some (.tup ys)):KT H' kvs xs :=
 Paired.mapP r fun _ _ z=>⟨z.1,ht _ _ z.2.1,z.2.2⟩
section
variable {P:Program}{w:World}{H:Hp}{h:Heap}{a:Addr}
theorem rd_of{u:HO}(ok:HOk P w H h)(e:Rd H a u):ObjOk P w H h a u:=e.ok ok
theorem dk_rd{kvs:List (Key × V)}(ok:HOk P w H h)(e:Rd H a (.dK kvs)):kvs.length<=sizeLine/\(a == sysModules)=false/\∃ vs,KV kvs vs/\h.DictOf (mixKind P w) a vs :=
 show ObjOk P w H h a (.dK kvs) from rd_of ok e
theorem dk_of{kvs:List (Key × V)}(ok:HOk P w H h)(e:H a=some (.dK kvs)):kvs.length<=sizeLine/\(a == sysModules)=false/\∃ vs,KV kvs vs/\h.DictOf (mixKind P w) a vs:=dk_rd ok (.inl e)
theorem key_of{ks:List Key}(ok:HOk P w H h)(e:H a=some (.tup (ks.map kV))):(tupleKind (mixKind P w)).is h ks a:=by
 obtain⟨_,its,r,o,h1,h2,n,h3⟩:=(show ObjOk P w H h a (.tup (ks.map kV)) from ok a _ e)
 exact⟨o,its.toArray,n,h1,h2,h3,by simpa using items_are r⟩
theorem dt_rd{kvs:List (List Key × V)}(ok:HOk P w H h)(e:Rd H a (.dT kvs)):kvs.length<=sizeLine/\(a == sysModules)=false ∧
 ∃ xs,KT H kvs xs/\h.DictOfH (tupleKind (mixKind P w)) a xs:=by
 obtain⟨z,y,xs,r,o,es,ep,h1,h2,h3,h4,h5⟩:=(show ObjOk P w H h a (.dT kvs) from rd_of ok e)
 refine⟨z,y,xs,r,o,es,ep,h1,h2,h3,h4,fun x hx => ?_,h5⟩
 have all:∀ {l:List (List Key × V)} {m:List (List Key × Addr × Value)},KT H l m->∀ x∈m,(tupleKind (mixKind P w)).is h x.1 x.2.1:=by
  intro l m q
  induction q with
  |nil=>intro x hx;exact nomatch hx
  | @cons p q ps qs hq t ih =>
   intro x hx
   rcases List.mem_cons.mp hx with e|hx
   ·subst e
    exact key_of ok (by rw[← hq.1];exact hq.2.1)
   ·exact ih x hx
 exact all r x hx
theorem dt_of{kvs:List (List Key × V)}(ok:HOk P w H h)(e:H a=some (.dT kvs)):kvs.length<=sizeLine/\(a == sysModules)=false ∧
 ∃ xs,KT H kvs xs/\h.DictOfH (tupleKind (mixKind P w)) a xs:=dt_rd ok (.inl e)
end
noncomputable def DGet(H:Hp)(a:Addr)(y:V)(r:Option V):Prop :=
 (∃ kvs k,Rd H a (.dK kvs)/\y=kV k/\r=valV kvs k)\/∃ kvs k b,Rd H a (.dT kvs)/\y = .ref b/\H b=some (.tup (k.map kV))/\r=valV kvs k
noncomputable def DPut(H:Hp)(a:Addr)(y v:V)(H':Hp):Prop :=
 (∃ kvs k,H a=some (.dK kvs)/\y=kV k/\kvs.length<sizeLine/\H'=upd H a (.dK (putK kvs k v))) ∨
 ∃ kvs k b,H a=some (.dT kvs)/\y = .ref b/\H b=some (.tup (k.map kV))/\kvs.length<sizeLine/\H'=upd H a (.dT (putK kvs k v))
theorem DGet.k{H:Hp}{a:Addr}{kvs:List (Key × V)}{k:Key}(e:H a=some (.dK kvs)):DGet H a (kV k) (valV kvs k):=.inl ⟨kvs,k,.inl e,rfl,rfl⟩
theorem DGet.t{H:Hp}{a b:Addr}{kvs:List (List Key × V)}{k:List Key}(e:H a=some (.dT kvs))(eb:H b=some (.tup (k.map kV))):DGet H a (.ref b) (valV kvs k):=.inr ⟨kvs,k,b,.inl e,rfl,eb,rfl⟩
theorem DPut.k{H:Hp}{a:Addr}{kvs:List (Key × V)}{k:Key}{v:V}(e:H a=some (.dK kvs))(hl:kvs.length<sizeLine):DPut H a (kV k) v (upd H a (.dK (putK kvs k v))):=.inl ⟨kvs,k,e,rfl,hl,rfl⟩
theorem DPut.t{H:Hp}{a b:Addr}{kvs:List (List Key × V)}{k:List Key}{v:V}(e:H a=some (.dT kvs))(eb:H b=some (.tup (k.map kV)))(hl:kvs.length<sizeLine) :
 DPut H a (.ref b) v (upd H a (.dT (putK kvs k v))):=.inr ⟨kvs,k,b,e,rfl,eb,hl,rfl⟩
section
variable {X:Cx}{pins:List (Addr × Obj)}{σ:St}{H:Hp}{s:Shared}{a:Addr}{y v:V}{u r:Value}{o:Option V}{A:Around}{E:Value->Shared->Prop}
theorem Inv.big(I:Inv X pins σ H s):sysModules<s.heap.objs.size:=by
 have h:mainGlobals<s.heap.objs.size:=(I.mod.glob.keeps I.bk).lt
 exact Nat.lt_trans (by decide) h
theorem d_getItem{Q:Value->Shared->Prop}(hu:A.units+1<cLine)(I:Inv X pins σ H s)(g:DGet H a y (some v))(ry:RelV y u)(h:∀ w' s',Inv X pins σ H s'->RelV v w'->Q w' s') :
 wpAny (model X.prog X.w) A (getItem (.ref a) u) Q E s:=by
 rcases g with⟨kvs,k,e,ey,l⟩ | ⟨kvs,k,b,e,ey,eb,l⟩
 ·subst ey
  obtain⟨z,hd,vs,rel,dd⟩:=dk_rd I.hok e
  obtain⟨w',hw,rw'⟩:=RelO.some_of (v:=v) (o:=valueAt vs k) (by rw[l];exact rel.val k)
  exact wpAny_getItem_of (kV_is ry) dd.mapOf hw (h w' _ (I.tok _) rw')
 ·subst ey
  cases(show u=Value.ref b from ry)
  obtain⟨z,hd,xs,rel,dd⟩:=dt_rd I.hok e
  obtain⟨w',hw,rw'⟩:=RelO.some_of (v:=v) (o:=(atKey xs k).map (·.2)) (by rw[l];exact rel.val k)
  obtain⟨p,hp,hp2⟩:=Option.map_eq_some_iff.mp hw
  refine wpAny_getItem_heap (tupleKind_room_in1 hu) (key_of I.hok eb) dd hp ?_
  rw[hp2]
  exact h w' _ (I.tok _) rw'
theorem d_in{Q:Value->Shared->Prop}(hu:A.units+1<cLine)(I:Inv X pins σ H s)(g:DGet H a y o)(ry:RelV y u)(h:∀ s',Inv X pins σ H s'->Q (.bool o.isSome) s') :
 wpAny (model X.prog X.w) A (compareOp .In u (.ref a)) Q E s:=by
 rcases g with⟨kvs,k,e,ey,l⟩ | ⟨kvs,k,b,e,ey,eb,l⟩
 ·subst ey
  obtain⟨z,hd,vs,rel,dd⟩:=dk_rd I.hok e
  refine wpAny_in_of (kV_is ry) hd dd.mapOf ?_
  rw[← (rel.val k).isSome_eq, ← l]
  exact h _ (I.tok _)
 ·subst ey
  cases(show u=Value.ref b from ry)
  obtain⟨z,hd,xs,rel,dd⟩:=dt_rd I.hok e
  refine wpAny_in_heap (tupleKind_room_in1 hu) (key_of I.hok eb) hd dd ?_
  have q:=(rel.val k).isSome_eq
  rw[Option.isSome_map] at q
  rw[← q, ← l]
  exact h _ (I.tok _)
theorem d_notIn{Q:Value->Shared->Prop}(hu:A.units+1<cLine)(I:Inv X pins σ H s)(g:DGet H a y o)(ry:RelV y u)(h:∀ s',Inv X pins σ H s'->Q (.bool (!o.isSome)) s') :
 wpAny (model X.prog X.w) A (compareOp .NotIn u (.ref a)) Q E s:=by
 rcases g with⟨kvs,k,e,ey,l⟩ | ⟨kvs,k,b,e,ey,eb,l⟩
 ·subst ey
  obtain⟨z,hd,vs,rel,dd⟩:=dk_rd I.hok e
  refine wpAny_notIn_of (kV_is ry) hd dd.mapOf ?_
  rw[← (rel.val k).isSome_eq, ← l]
  exact h _ (I.tok _)
 ·subst ey
  cases(show u=Value.ref b from ry)
  obtain⟨z,hd,xs,rel,dd⟩:=dt_rd I.hok e
  refine wpAny_notIn_heap (tupleKind_room_in1 hu) (key_of I.hok eb) hd dd ?_
  have q:=(rel.val k).isSome_eq
  rw[Option.isSome_map] at q
  rw[← q, ← l]
  exact h _ (I.tok _)
theorem d_write{h':Heap}{t':Nat}{ob:HO}(I:Inv X pins σ H s)(mu:Mut (H a))(hs:Heap.SameBut a s.heap h')(he:∃ q,h'.get? a=some q)(new:ObjOk X.prog X.w (upd H a ob) h' a ob) :
 Inv X pins σ (upd H a ob) {s with heap:=h',toks:=t'} :=
 I.write (x:=a) (e:=a) mu (.inl rfl) (fun b q hb z=>(hs.2 b hb).trans z) he new
theorem dk_new{P:Program}{w:World}{H':Hp}{h':Heap}{kvs:List (Key × V)}{vs:List (Key × Value)}(z:kvs.length<=sizeLine)(hd:(a == sysModules)=false)(rel:KV kvs vs)(dd:h'.DictOf (mixKind P w) a vs) :
 ObjOk P w H' h' a (.dK kvs):=⟨z,hd,vs,rel,dd⟩
theorem d_setItem{H':Hp}{Q:Unit->Shared->Prop}(hu:A.units+1<cLine)(I:Inv X pins σ H s)(g:DPut H a y v H')(ry:RelV y u)(rv:RelV v r)(h:∀ s',Inv X pins σ H' s'->Q () s') :
 wpAny (model X.prog X.w) A (setItem (.ref a) u r) Q E s:=by
 rcases g with⟨kvs,k,e,ey,l,eH⟩ | ⟨kvs,k,b,e,ey,eb,l,eH⟩
 ·subst ey eH
  obtain⟨z,hd,vs,rel,dd⟩:=dk_of I.hok e
  have hz:vs.length<=sizeLine:=by rw[← rel.length];exact z
  have hl:(putK kvs k v).length<=sizeLine:=by have:=length_putK kvs k v;omega
  refine wpAny_setItem_pairs (hsz:=hz) (kV_is ry) dd fun h' dd' hs=>h _ ?_
  have he:∃ q,h'.get? a=some q:=let ⟨q,_,_,hq,_⟩:=dd';⟨q,hq⟩
  exact d_write I (by rw[e];exact True.intro) hs he (dk_new hl hd (rel.put k rv) dd')
 ·subst ey eH
  cases(show u=Value.ref b from ry)
  obtain⟨z,hd,xs,rel,dd⟩:=dt_of I.hok e
  have hz:xs.length<=sizeLine:=by rw[← Paired.length rel];exact z
  have hl:(putK kvs k v).length<=sizeLine:=by have:=length_putK kvs k v;omega
  refine wpAny_setItem_heap (hsz:=hz) (tupleKind_room_in1 hu) (key_of I.hok eb) dd fun h' dd' hs=>h _ ?_
  obtain⟨q,es,ep,hq,h2,h3,h4,_,h5⟩:=dd'
  refine d_write I (by rw[e];exact True.intro) hs ⟨q,hq⟩ ⟨hl,hd,_,(rel.put k eb rv).keeps fun c ys ec => ?_,q,es,ep,hq,h2,h3,h4,h5⟩
  rw[upd_ne (ne_of ec e (fun z=>nomatch z))]
  exact ec
end
section
variable {X:Cx}{pins:List (Addr × Obj)}{σ:St}{H:Hp}{s:Shared}{a:Addr}{kvs:List (Key × V)}{k:Key}{u:Value}{A:Around}{E:Value->Shared->Prop}
theorem d_len{Q:Value->Shared->Prop}(I:Inv X pins σ H s)(e:Rd H a (.dK kvs))(h:∀ t s',Inv X pins σ H s'->Q (.int kvs.length t) s'):wpAny (model X.prog X.w) A (call (.builtin "len") [.ref a]) Q E s:=by
 obtain⟨z,hd,vs,rel,dd⟩:=dk_rd I.hok e
 refine call_len_dict hd dd (by rw[← rel.length];rw[sizeLine_eq] at z;omega) ?_
 rw[← rel.length]
 exact h _ _ (I.tok _)
end
theorem dict_typeIs{X:Cx}{pins:List (Addr × Obj)}{σ:St}{H:Hp}{s:Shared}{a:Addr}{y:V}{o:Option V}(I:Inv X pins σ H s)(g:DGet H a y o):s.TypeIs (.ref a) "dict":=by
 rcases g with⟨kvs,k,e,_,_⟩ | ⟨kvs,k,b,e,_,_,_⟩
 ·obtain⟨_,_,vs,_,dd⟩:=dk_rd I.hok e
  exact dd.typeIs
 ·obtain⟨_,_,xs,_,dd⟩:=dt_rd I.hok e
  exact dd.typeIs
section
variable {X:Cx}{o i e value:Expr}{pos pos' tpos:Pos}{td ty tv:TE}
end
theorem dk_empty{P:Program}{w:World}{H:Hp}(h:Heap)(hb:sysModules<h.objs.size):ObjOk P w H (h.push {cls:=.type "dict",data:=.dict #[]}) h.objs.size (.dK []) :=
 ⟨Nat.zero_le _,beq_eq_false_iff_ne.mpr (Ne.symm (Nat.ne_of_lt hb)),[],.nil,Heap.DictOf.new h⟩
noncomputable def tDNewK:TE:=fun _ H Q=>∀ p,H p=none->Q (.ref p) (upd H p (.dK []))
section
variable {X:Cx}{pos:Pos}
theorem pe_dnewK:PE X (.Dict [] [] pos) tDNewK:=fun pins s σ H Q I h =>
 wpAny_Dict_empty ⟨.ref s.heap.objs.size,_,I.laid (a:=s.heap.objs.size) (o:=.dK []) (t':=s.toks) (fun _ _ q=>Heap.get?_push_of_some _ q) (Nat.le_refl _) (dk_empty s.heap I.big),rfl,h _ (I.hok.fresh (Nat.le_refl _))⟩
end
structure M1(X:Cx)(o:Expr)(m:Str)(apos:Pos)(e:Expr)(cpos:Pos):Prop where
 base:attributeBase o m X.env (eval o X.env)=eval o X.env
 few:((backTo cpos (starEach [e] X.env)).all (fun x => !x.1) && (backToKw cpos (keywordEach [] X.env)).all (fun x=>x.1.isSome)
  && decide (([e]:List Expr).length+([]:List Keyword).length+(if ([]:List Keyword).isEmpty then 0 else 1)<30))=true
 line:(apos.endLine == cpos.line)=true
 trees:backTo cpos (starEach [e] X.env)=[(false,eval e X.env)]
structure M2(X:Cx)(o:Expr)(m:Str)(apos:Pos)(e f:Expr)(cpos:Pos):Prop where
 base:attributeBase o m X.env (eval o X.env)=eval o X.env
 few:((backTo cpos (starEach [e,f] X.env)).all (fun x => !x.1) && (backToKw cpos (keywordEach [] X.env)).all (fun x=>x.1.isSome)
  && decide (([e,f]:List Expr).length+([]:List Keyword).length+(if ([]:List Keyword).isEmpty then 0 else 1)<30))=true
 line:(apos.endLine == cpos.line)=true
 trees:backTo cpos (starEach [e,f] X.env)=[(false,eval e X.env),(false,eval f X.env)]
section
variable {X:Cx}{pins:List (Addr × Obj)}{σ:St}{H:Hp}{s:Shared}{a:Addr}{y d:V}{u r:Value}{o:Option V}{A:Around}{E:Value->Shared->Prop}
theorem d_get2{Q:Value->Shared->Prop}(hu:A.units+1<cLine)(I:Inv X pins σ H s)(g:DGet H a y o)(ry:RelV y u)(rd:RelV d r)(h:∀ w' s',Inv X pins σ H s'->RelV (o.getD d) w'->Q w' s') :
 wpAny (model X.prog X.w) A (call (.builtin "dict.get") [.ref a,u,r]) Q E s:=by
 rcases g with⟨kvs,k,e,ey,l⟩ | ⟨kvs,k,b,e,ey,eb,l⟩
 ·subst ey
  obtain⟨z,hd,vs,rel,dd⟩:=dk_rd I.hok e
  refine call_meetsIn PySem.F.slot_dict_get dd.typeIs PySem.F.entry_dict_get (PySem.F.args_dict_get_3 _ _ _) (meets_dict_get_default (mixKind X.prog X.w) a (kV_is ry) hd r) ⟨_,dd.mapOf,h _ _ (I.tok _) ?_⟩
  rw[l]
  exact(rel.val k).getD rd
 ·subst ey
  cases(show u=Value.ref b from ry)
  obtain⟨z,hd,xs,rel,dd⟩:=dt_rd I.hok e
  refine call_meetsIn PySem.F.slot_dict_get dd.typeIs PySem.F.entry_dict_get (PySem.F.args_dict_get_3 _ _ _) (meetsH_dict_get_default (tupleKind (mixKind X.prog X.w)) a b hd r) ⟨tupleKind_room_in1 hu,k,xs,key_of I.hok eb,dd,h _ _ (I.tok _) ?_⟩
  rw[l]
  exact(rel.val k).getD rd
end
section
variable {X:Cx}{o e f:Expr}{apos cpos:Pos}{td ty tx:TE}
end
section
variable {X:Cx}{pins:List (Addr × Obj)}{σ:St}{H:Hp}{s:Shared}{a:Addr}{kvs:List (Key × V)}{A:Around}{E:Value->Shared->Prop}
end
section
variable {X:Cx}{pins:List (Addr × Obj)}{σ:St}{H:Hp}{s:Shared}{a:Addr}{y:V}{u:Value}{A:Around}{E:Value->Shared->Prop}
end
end L2
namespace L2
open PySem PySem.Spec PyProof.Rows
section
variable {X:Cx}
end
end L2
set_option genSizeOf false
namespace MP
inductive G where
 |non|bl (b:Bool)|int (i:Int)|str (x:List Nat)|tup (xs:List G)
 deriving Inhabited
mutual
def geq:G->G->Bool
 | .non,.non=>true
 | .bl a,.bl b=>a == b
 | .int i,.int j=>i == j
 | .str x,.str y=>x == y
 | .tup xs,.tup ys=>geqs xs ys
 |_,_=>false
def geqs:List G->List G->Bool
 | [],[]=>true
 |x::xs,y::ys=>geq x y && geqs xs ys
 |_,_=>false
end
mutual
theorem geq_iff:∀ a b:G,geq a b=true↔a=b
 | .non,b=>by cases b<;>simp[geq]
 | .bl a,b=>by cases b<;>simp[geq]
 | .int a,b=>by cases b<;>simp[geq]
 | .str a,b=>by cases b<;>simp[geq]
 | .tup xs,b=>by
  cases b with
  |tup ys=>simp[geq,geqs_iff xs ys]
  |_=>simp[geq]
theorem geqs_iff:∀ xs ys:List G,geqs xs ys=true↔xs=ys
 | [],ys=>by cases ys<;>simp[geqs]
 |x::xs,ys=>by
  cases ys with
  |nil=>simp[geqs]
  |cons y ys=>simp[geqs,geq_iff x y,geqs_iff xs ys]
end
instance:DecidableEq G:=fun a b=>decidable_of_iff _ (geq_iff a b)
inductive R where
 |g (x:G)|ref (i:Nat)|tr (xs:List R)
 deriving Inhabited
mutual
def req:R->R->Bool
 | .g a,.g b=>geq a b
 | .ref i,.ref j=>i == j
 | .tr xs,.tr ys=>reqs xs ys
 |_,_=>false
def reqs:List R->List R->Bool
 | [],[]=>true
 |x::xs,y::ys=>req x y && reqs xs ys
 |_,_=>false
end
mutual
theorem req_iff:∀ a b:R,req a b=true↔a=b
 | .g a,b=>by cases b<;>simp[req,geq_iff]
 | .ref a,b=>by cases b<;>simp[req]
 | .tr xs,b=>by
  cases b with
  |tr ys=>simp[req,reqs_iff xs ys]
  |_=>simp[req]
theorem reqs_iff:∀ xs ys:List R,reqs xs ys=true↔xs=ys
 | [],ys=>by cases ys<;>simp[reqs]
 |x::xs,ys=>by
  cases ys with
  |nil=>simp[reqs]
  |cons y ys=>simp[reqs,req_iff x y,reqs_iff xs ys]
end
instance:DecidableEq R:=fun a b=>decidable_of_iff _ (req_iff a b)
inductive Cell where
 |lst (xs:List G)|rdl (xs:List G)|dct (kvs:List (G × G))|rls (xs:List R)|rdd (kvs:List (G × G))|dtg (kvs:List (G × G))|rdt (kvs:List (G × G))
 deriving DecidableEq,Inhabited
noncomputable abbrev Store:=List Cell
noncomputable abbrev Env:=List (Option R)
inductive Res (α:Type) where
 |ok (a:α) (σ:Store)|exc (c:String) (σ:Store)|stuck
 deriving Inhabited
noncomputable def Res.bind{α β:Type}:Res α->(α->Store->Res β)->Res β
 | .ok a σ,f=>f a σ
 | .exc c σ,_=>.exc c σ
 | .stuck,_=>.stuck
@[simp] theorem bind_ok{α β:Type}(a:α)(σ:Store)(f:α->Store->Res β):(Res.ok a σ).bind f=f a σ:=rfl
@[simp] theorem bind_exc{α β:Type}(c:String)(σ:Store)(f:α->Store->Res β):(Res.exc c σ:Res α).bind f = .exc c σ:=rfl
@[simp] theorem bind_stuck{α β:Type}(f:α->Store->Res β):(Res.stuck:Res α).bind f = .stuck:=rfl
noncomputable def b2i(b:Bool):Int:=if b then 1 else 0
mutual
noncomputable def peq:G->G->Bool
 | .non,.non=>true
 | .bl a,.bl b=>a == b
 | .bl a,.int i=>b2i a == i
 | .int i,.bl a=>i == b2i a
 | .int i,.int j=>i == j
 | .str x,.str y=>x == y
 | .tup xs,.tup ys=>peqs xs ys
 |_,_=>false
noncomputable def peqs:List G->List G->Bool
 | [],[]=>true
 |x::xs,y::ys=>peq x y && peqs xs ys
 |_,_=>false
end
mutual
noncomputable def gdep:G->Nat
 | .tup xs=>gdeps xs+1
 |_=>0
noncomputable def gdeps:List G->Nat
 | []=>0
 |x::r=>max (gdep x) (gdeps r)
end
noncomputable def shal(x:G):Bool:=decide (gdep x<=150)
noncomputable def ixOf(n:Nat)(i:Int):Option Nat:=if 0<=i then (if i<n then some i.toNat else none) else if -(n:Int)<=i then some (i+n).toNat else none
noncomputable def at?{α:Type}(xs:List α)(i:Int):Option α:=(ixOf xs.length i).bind fun j=>xs[j]?
noncomputable def isKey:G->Bool
 | .int _=>true
 | .str _=>true
 |_=>false
mutual
noncomputable def keyG:G->Bool
 | .int _=>true
 | .str _=>true
 | .tup xs=>keyGs xs
 |_=>false
noncomputable def keyGs:List G->Bool
 | []=>true
 |x::r=>keyG x && keyGs r
end
noncomputable def tkey:G->Bool
 | .tup xs=>keyGs xs
 |_=>false
noncomputable def tells(kvs:List (G × G))(k:G):Bool:=(kvs.isEmpty && decide (gdep k<=100)) || (decide (gdep k<=8) && kvs.all fun p=>decide (gdep p.1<=8))
noncomputable def tell8(kvs:List (G × G))(k:G):Bool:=decide (gdep k<=8) && kvs.all fun p=>decide (gdep p.1<=8)
noncomputable def dget:List (G × G)->G->Option G
 | [],_=>none
 | (k,v)::r,j=>if k=j then some v else dget r j
noncomputable def dput:List (G × G)->G->G->List (G × G)
 | [],k,v=>[(k,v)]
 | (j,u)::r,k,v=>if j=k then (j,v)::r else (j,u)::dput r k v
noncomputable def dictEq(a b:List (G × G)):Bool:=a.length == b.length && a.all fun p=>match dget b p.1 with
 |some v=>peq p.2 v
 |none=>false
noncomputable def big:Nat:=100000
noncomputable def asG:R->Option G
 | .g x=>some x
 |_=>none
noncomputable def allG:List R->Option (List G)
 | []=>some []
 | .g x::r=>(allG r).map (x :: ·)
 |_::_=>none
inductive Ty where
 |int|bool|str|tuple|list|dict
 deriving DecidableEq
inductive Prim where
 |add|sub|mul|fdiv|mod|pow
 |eq|ne|lt|le|gt|ge|isN|notN|inn|notin
 |idx|len|tup|lst|dct0|dtg0|setdefT|lenT|innT|notinT|idxT|pop|zipL
 |strOf|join|cutS|starts|intOf|innS
 |tupleOf|listOf|dictOf
 |get1|get2|setdef|append|extend|clear|index
 |sum|max1|maxd|max2|min2|all
 |isInst (t:Ty)
 |slice (lo hi:Bool)
noncomputable def okG(x:G)(σ:Store):Res R:=.ok (.g x) σ
noncomputable def pAdd:List R->Store->Res R
 | [.g (.int i),.g (.int j)],σ=>okG (.int (i+j)) σ
 | [.g (.str x),.g (.str y)],σ=>if x.length+y.length<=big then okG (.str (x++y)) σ else .stuck
 | [.g (.tup x),.g (.tup y)],σ=>if x.length+y.length<=big then okG (.tup (x++y)) σ else .stuck
 | [.ref i,.ref j],σ=>match σ[i]?,σ[j]? with
  |some (.lst x),some (.lst y)=>if x.length+y.length<=big then .ok (.ref σ.length) (σ++[.lst (x++y)]) else .stuck
  |_,_=>.stuck
 |_,_=>.stuck
noncomputable def pSub:List R->Store->Res R
 | [.g (.int i),.g (.int j)],σ=>okG (.int (i-j)) σ
 |_,_=>.stuck
noncomputable def pMul:List R->Store->Res R
 | [.g (.int i),.g (.int j)],σ=>if (-(2 ^ 64)<i/\i<2 ^ 64)\/(-(2 ^ 64)<j/\j<2 ^ 64) then okG (.int (i*j)) σ else .stuck
 |_,_=>.stuck
noncomputable def pFdiv:List R->Store->Res R
 | [.g (.int i),.g (.int j)],σ=>if 0<j/\j<1073741824 then okG (.int (i / j)) σ else .stuck
 |_,_=>.stuck
noncomputable def pMod:List R->Store->Res R
 | [.g (.int i),.g (.int j)],σ=>if 0<j then okG (.int (i % j)) σ else .stuck
 |_,_=>.stuck
noncomputable def pPow:List R->Store->Res R
 | [.g (.int i),.g (.int j)],σ=>if 0<=j/\j<=1000000/\i.natAbs<2 ^ 64 then okG (.int (i ^ j.toNat)) σ else .stuck
 |_,_=>.stuck
noncomputable def cellEq:Cell->Cell->Option Bool
 | .lst x,.lst y=>if x.all shal then some (peqs x y) else none
 | .lst x,.rdl y=>if x.all shal then some (peqs x y) else none
 | .rdl x,.lst y=>if x.all shal then some (peqs x y) else none
 | .dct x,.dct y=>if x.all (fun p=>shal p.2) then some (dictEq x y) else none
 | .rdd x,.dct y=>if x.all (fun p=>shal p.2) then some (dictEq x y) else none
 | .dct x,.rdd y=>if x.all (fun p=>shal p.2) then some (dictEq x y) else none
 | .rdd x,.rdd y=>if x.all (fun p=>shal p.2) then some (dictEq x y) else none
 |_,_=>none
noncomputable def intKeys(xs:List (G × G)):Bool:=xs.all fun p=>match p.1 with
 | .int _=>true
 |_=>false
noncomputable def asD:Cell->Option (List (G × G))
 | .dct x=>some x
 | .rdd x=>some x
 |_=>none
noncomputable def dctEq(c d:Cell):Option Bool:=match asD c,asD d with
 |some x,some y=>if x.all (fun p=>shal p.2) && (intKeys x && intKeys y) then some (dictEq x y) else none
 |_,_=>none
noncomputable def refsEq(σ:Store):List R->List R->Option Bool
 | [],[]=>some true
 | .ref i::r,.ref j::t=>match σ[i]?,σ[j]? with
  |some c,some d=>match dctEq c d with
   |some b=>match refsEq σ r t with
    |some b'=>some (b && b')
    |none=>none
   |none=>none
  |_,_=>none
 |_,_=>none
noncomputable def cellsR(σ:Store):Cell->Cell->Option Bool
 |_,_=>none
noncomputable def reqv(σ:Store):R->R->Option Bool
 | .g x,.g y=>if shal x then some (peq x y) else none
 | .ref i,.ref j=>match σ[i]?,σ[j]? with
  |some c,some d=>match cellEq c d with
   |some b=>some b
   |none=>cellsR σ c d
  |_,_=>none
 |_,_=>none
noncomputable def pEq:List R->Store->Res R
 | [x,y],σ=>match reqv σ x y with
  |some b=>okG (.bl b) σ
  |none=>.stuck
 |_,_=>.stuck
noncomputable def pNe:List R->Store->Res R
 | [x,y],σ=>match reqv σ x y with
  |some b=>okG (.bl (!b)) σ
  |none=>.stuck
 |_,_=>.stuck
noncomputable def pLt:List R->Store->Res R
 | [.g (.int i),.g (.int j)],σ=>okG (.bl (decide (i<j))) σ
 |_,_=>.stuck
noncomputable def pLe:List R->Store->Res R
 | [.g (.int i),.g (.int j)],σ=>okG (.bl (decide (i<=j))) σ
 |_,_=>.stuck
noncomputable def pGt:List R->Store->Res R
 | [.g (.int i),.g (.int j)],σ=>okG (.bl (decide (j<i))) σ
 |_,_=>.stuck
noncomputable def pGe:List R->Store->Res R
 | [.g (.int i),.g (.int j)],σ=>okG (.bl (decide (j<=i))) σ
 |_,_=>.stuck
noncomputable def isNon:R->Bool
 | .g .non=>true
 |_=>false
noncomputable def pIsN:List R->Store->Res R
 | [x,.g .non],σ=>okG (.bl (isNon x)) σ
 |_,_=>.stuck
noncomputable def pNotN:List R->Store->Res R
 | [x,.g .non],σ=>okG (.bl (!isNon x)) σ
 |_,_=>.stuck
noncomputable def hasIn(σ:Store):R->R->Option Bool
 | .g x,.g (.tup ys)=>if ys.all shal then some (ys.any fun y=>peq y x) else none
 | .g x,.ref i=>match σ[i]? with
  |some (.lst ys)=>if ys.all shal then some (ys.any fun y=>peq y x) else none
  |some (.dct kvs)=>if isKey x then some (dget kvs x).isSome else none
  |some (.rdd kvs)=>if isKey x then some (dget kvs x).isSome else none
  |_=>none
 |_,_=>none
noncomputable def pIn:List R->Store->Res R
 | [x,y],σ=>match hasIn σ x y with
  |some b=>okG (.bl b) σ
  |none=>.stuck
 |_,_=>.stuck
noncomputable def pNotIn:List R->Store->Res R
 | [x,y],σ=>match hasIn σ x y with
  |some b=>okG (.bl (!b)) σ
  |none=>.stuck
 |_,_=>.stuck
noncomputable def ofO{α:Type}(o:Option α)(f:α->Res R):Res R:=match o with
 |some x=>f x
 |none=>.stuck
noncomputable def pIdx:List R->Store->Res R
 | [.g (.tup xs),.g (.int i)],σ=>ofO (at? xs i) fun x=>okG x σ
 | [.g (.str xs),.g (.int i)],σ=>ofO (at? xs i) fun c=>okG (.str [c]) σ
 | [.tr xs,.g (.int i)],σ=>ofO (at? xs i) fun r=>.ok r σ
 | [.ref k,.g i],σ=>match σ[k]?,i with
  |some (.lst xs),.int i=>ofO (at? xs i) fun x=>okG x σ
  |some (.rdl xs),.int i=>ofO (at? xs i) fun x=>okG x σ
  |some (.rls xs),.int i=>ofO (at? xs i) fun r=>.ok r σ
  |some (.dct kvs),i=>if isKey i then ofO (dget kvs i) fun x=>okG x σ else .stuck
  |some (.rdd kvs),i=>if isKey i then ofO (dget kvs i) fun x=>okG x σ else .stuck
  |_,_=>.stuck
 |_,_=>.stuck
noncomputable def lenOf(σ:Store):R->Option Nat
 | .g (.tup xs)=>some xs.length
 | .g (.str xs)=>some xs.length
 | .tr xs=>some xs.length
 | .ref k=>match σ[k]? with
  |some (.lst xs)=>some xs.length
  |some (.rdl xs)=>some xs.length
  |some (.rls xs)=>some xs.length
  |some (.dct xs)=>some xs.length
  |some (.rdd xs)=>some xs.length
  |some (.dtg _)=>none
  |some (.rdt _)=>none
  |none=>none
 |_=>none
noncomputable def pLen:List R->Store->Res R
 | [x],σ=>ofO (lenOf σ x) fun n=>okG (.int n) σ
 |_,_=>.stuck
noncomputable def mkTup(xs:List R):R:=match allG xs with
 |some gs=>.g (.tup gs)
 |none=>.tr xs
noncomputable def mkLst(xs:List R):Cell:=match allG xs with
 |some gs=>.lst gs
 |none=>.rls xs
noncomputable def pTup(xs:List R)(σ:Store):Res R:=if xs.length<=1000 then .ok (mkTup xs) σ else .stuck
noncomputable def pLst(xs:List R)(σ:Store):Res R:=if xs.length<=1000 then .ok (.ref σ.length) (σ++[mkLst xs]) else .stuck
noncomputable def pDct0:List R->Store->Res R
 | [],σ=>.ok (.ref σ.length) (σ++[.dct []])
 |_,_=>.stuck
noncomputable def pDtg0:List R->Store->Res R
 | [],σ=>.ok (.ref σ.length) (σ++[.dtg []])
 |_,_=>.stuck
noncomputable def pSetdefT:List R->Store->Res R
 | [.ref k,.g i,.g d],σ=>match σ[k]? with
  |some (.dtg kvs)=>if tkey i && tells kvs i && decide (kvs.length<big) then (match dget kvs i with
   |some v=>okG v σ
   |none=>.ok (.g d) (σ.set k (.dtg (kvs++[(i,d)])))) else .stuck
  |_=>.stuck
 |_,_=>.stuck
noncomputable def pLenT:List R->Store->Res R
 | [.ref k],σ=>match σ[k]? with
  |some (.dtg kvs)=>okG (.int kvs.length) σ
  |_=>.stuck
 |_,_=>.stuck
noncomputable def pInnT:List R->Store->Res R
 | [.g i,.ref k],σ=>match σ[k]? with
  |some (.dtg kvs)=>if tkey i && tell8 kvs i then okG (.bl (dget kvs i).isSome) σ else .stuck
  |_=>.stuck
 |_,_=>.stuck
noncomputable def pNotInT:List R->Store->Res R
 | [.g i,.ref k],σ=>match σ[k]? with
  |some (.dtg kvs)=>if tkey i && tell8 kvs i then okG (.bl (!(dget kvs i).isSome)) σ else .stuck
  |_=>.stuck
 |_,_=>.stuck
noncomputable def pIdxT:List R->Store->Res R
 | [.ref k,.g i],σ=>match σ[k]? with
  |some (.dtg kvs)=>if tkey i && tell8 kvs i then (match dget kvs i with
   |some v=>okG v σ
   |none=>.stuck) else .stuck
  |_=>.stuck
 |_,_=>.stuck
noncomputable def pPop:List R->Store->Res R
 | [.ref k],σ=>match σ[k]? with
  |some (.lst xs)=>(match xs.getLast? with
   |some x=>.ok (.g x) (σ.set k (.lst xs.dropLast))
   |none=>.stuck)
  |_=>.stuck
 |_,_=>.stuck
noncomputable def zipG:List G->List G->List G
 |x::r,y::t=>.tup [x,y]::zipG r t
 |_,_=>[]
noncomputable def pZipL:List R->Store->Res R
 | [.g (.tup xs),.g (.tup ys)],σ=>.ok (.ref σ.length) (σ++[.lst (zipG xs ys)])
 |_,_=>.stuck
noncomputable def pTupleOf:List R->Store->Res R
 | [.g (.tup xs)],σ=>okG (.tup xs) σ
 | [.ref k],σ=>match σ[k]? with
  |some (.lst xs)=>okG (.tup xs) σ
  |some (.rdl xs)=>okG (.tup xs) σ
  |_=>.stuck
 |_,_=>.stuck
noncomputable def pListOf:List R->Store->Res R
 | [.g (.tup xs)],σ=>.ok (.ref σ.length) (σ++[.lst xs])
 | [.ref k],σ=>match σ[k]? with
  |some (.lst xs)=>.ok (.ref σ.length) (σ++[.lst xs])
  |some (.rdl xs)=>.ok (.ref σ.length) (σ++[.lst xs])
  |some (.dct kvs)=>if intKeys kvs then .ok (.ref σ.length) (σ++[.lst (kvs.map fun p=>p.1)]) else .stuck
  |_=>.stuck
 |_,_=>.stuck
noncomputable def pDictOf:List R->Store->Res R
 | [.ref k],σ=>match σ[k]? with
  |some (.dct xs)=>.ok (.ref σ.length) (σ++[.dct xs])
  |some (.rdd xs)=>.ok (.ref σ.length) (σ++[.dct xs])
  |_=>.stuck
 |_,_=>.stuck
noncomputable def pGet1:List R->Store->Res R
 | [.ref k,.g i],σ=>match σ[k]? with
  |some (.dct kvs)=>if isKey i then okG ((dget kvs i).getD .non) σ else .stuck
  |some (.rdd kvs)=>if isKey i then okG ((dget kvs i).getD .non) σ else .stuck
  |_=>.stuck
 |_,_=>.stuck
noncomputable def pGet2:List R->Store->Res R
 | [.ref k,.g i,.g d],σ=>match σ[k]? with
  |some (.dct kvs)=>if isKey i then okG ((dget kvs i).getD d) σ else .stuck
  |some (.rdd kvs)=>if isKey i then okG ((dget kvs i).getD d) σ else .stuck
  |_=>.stuck
 |_,_=>.stuck
noncomputable def pSetdef:List R->Store->Res R
 | [.ref k,.g i,.g d],σ=>match σ[k]? with
  |some (.dct kvs)=>if isKey i && decide (kvs.length<big) then (match dget kvs i with
   |some v=>okG v σ
   |none=>.ok (.g d) (σ.set k (.dct (dput kvs i d)))) else .stuck
  |_=>.stuck
 |_,_=>.stuck
noncomputable def pAppend:List R->Store->Res R
 | [.ref k,.g x],σ=>match σ[k]? with
  |some (.lst xs)=>if xs.length<big then .ok (.g .non) (σ.set k (.lst (xs++[x]))) else .stuck
  |_=>.stuck
 |_,_=>.stuck
noncomputable def pExtend:List R->Store->Res R
 | [.ref k,.ref j],σ=>match σ[k]?,σ[j]? with
  |some (.lst xs),some (.lst ys)=>if xs.length+ys.length<=big then .ok (.g .non) (σ.set k (.lst (xs++ys))) else .stuck
  |_,_=>.stuck
 |_,_=>.stuck
noncomputable def pClear:List R->Store->Res R
 | [.ref k],σ=>match σ[k]? with
  |some (.dct _)=>.ok (.g .non) (σ.set k (.dct []))
  |_=>.stuck
 |_,_=>.stuck
noncomputable def pIndex:List R->Store->Res R
 | [.ref k,.g x],σ=>match σ[k]? with
  |some (.lst xs)=>if xs.all shal then (match xs.findIdx? (fun y=>peq y x) with
   |some i=>okG (.int i) σ
   |none=>.stuck) else .stuck
  |_=>.stuck
 |_,_=>.stuck
noncomputable def intsOf:List G->Option (List Int)
 | []=>some []
 | .int i::r=>(intsOf r).map (i :: ·)
 |_::_=>none
noncomputable def bools:List G->Option (List Bool)
 | []=>some []
 | .bl i::r=>(bools r).map (i :: ·)
 |_::_=>none
noncomputable def pSum:List R->Store->Res R
 | [.ref k],σ=>match σ[k]? with
  |some (.lst xs)=>ofO (intsOf xs) fun is=>okG (.int is.sum) σ
  |_=>.stuck
 |_,_=>.stuck
noncomputable def maxL:Int->List Int->Int
 |m,[]=>m
 |m,x::r=>maxL (if x > m then x else m) r
noncomputable def pMax1:List R->Store->Res R
 | [.ref k],σ=>match σ[k]? with
  |some (.lst xs)=>match intsOf xs with
   |some (i::is)=>okG (.int (maxL i is)) σ
   |_=>.stuck
  |_=>.stuck
 |_,_=>.stuck
noncomputable def pMaxd:List R->Store->Res R
 | [.ref k,.g d],σ=>match σ[k]? with
  |some (.lst xs)=>match intsOf xs with
   |some (i::is)=>okG (.int (maxL i is)) σ
   |some []=>okG d σ
   |none=>.stuck
  |_=>.stuck
 |_,_=>.stuck
noncomputable def pMax2:List R->Store->Res R
 | [.g (.int i),.g (.int j)],σ=>okG (.int (if j > i then j else i)) σ
 |_,_=>.stuck
noncomputable def pMin2:List R->Store->Res R
 | [.g (.int i),.g (.int j)],σ=>okG (.int (if j<i then j else i)) σ
 |_,_=>.stuck
noncomputable def pAll:List R->Store->Res R
 | [.ref k],σ=>match σ[k]? with
  |some (.lst xs)=>ofO (bools xs) fun bs=>okG (.bl (bs.all id)) σ
  |_=>.stuck
 |_,_=>.stuck
noncomputable def tyOf(σ:Store):R->Option (List Ty)
 | .g (.int _)=>some [.int]
 | .g (.bl _)=>some [.bool,.int]
 | .g (.str _)=>some [.str]
 | .g (.tup _)=>some [.tuple]
 | .g .non=>some []
 | .tr _=>some [.tuple]
 | .ref k=>match σ[k]? with
  |some (.lst _)=>some [.list]
  |some (.rdl _)=>some [.list]
  |some (.rls _)=>some [.list]
  |some (.dct _)=>some [.dict]
  |some (.rdd _)=>none
  |some (.dtg _)=>none
  |some (.rdt _)=>none
  |none=>none
noncomputable def pIsInst(t:Ty):List R->Store->Res R
 | [x],σ=>ofO (tyOf σ x) fun ts=>okG (.bl (ts.contains t)) σ
 |_,_=>.stuck
noncomputable def cutIx(n d:Nat):Option Int->Nat
 |none=>d
 |some v=>if v<0 then (max (v+(n:Int)) 0).toNat else (min v (n:Int)).toNat
noncomputable def cut{α:Type}(xs:List α)(lo hi:Option Int):List α:=(xs.drop (cutIx xs.length 0 lo)).take (cutIx xs.length xs.length hi-cutIx xs.length 0 lo)
noncomputable def bounds:Bool->Bool->List R->Option (Option Int × Option Int)
 |false,false,[]=>some (none,none)
 |true,false,[.g (.int i)]=>some (some i,none)
 |false,true,[.g (.int j)]=>some (none,some j)
 |true,true,[.g (.int i),.g (.int j)]=>some (some i,some j)
 |_,_,_=>none
noncomputable def pSlice(lo hi:Bool):List R->Store->Res R
 | .g (.tup xs)::r,σ=>ofO (bounds lo hi r) fun b=>if cutIx xs.length 0 b.1=0/\cutIx xs.length xs.length b.2=xs.length then .stuck else okG (.tup (cut xs b.1 b.2)) σ
 | .ref k::r,σ=>match σ[k]? with
  |some (.lst xs)=>ofO (bounds lo hi r) fun b=>.ok (.ref σ.length) (σ++[.lst (cut xs b.1 b.2)])
  |_=>.stuck
 |_,_=>.stuck
noncomputable def dec(i:Int):List Nat:=(toString i).toList.map Char.toNat
noncomputable def pStrOf:List R->Store->Res R
 | [.g (.int i)],σ=>if 0<=i/\i<1000000000 then okG (.str (dec i)) σ else .stuck
 |_,_=>.stuck
noncomputable def joinL(sep:List Nat):List (List Nat)->List Nat
 | []=>[]
 | [x]=>x
 |x::r=>x++sep++joinL sep r
noncomputable def strsOf:List G->Option (List (List Nat))
 | []=>some []
 | .str x::r=>(strsOf r).map (x :: ·)
 |_::_=>none
noncomputable def lens:List (List Nat)->Nat
 | []=>0
 |x::r=>x.length+lens r
noncomputable def pJoin:List R->Store->Res R
 | [.g (.str sep),.ref k],σ=>match σ[k]? with
  |some (.lst xs)=>ofO (strsOf xs) fun ys=>if lens ys+ys.length*sep.length<=big then okG (.str (joinL sep ys)) σ else .stuck
  |_=>.stuck
 |_,_=>.stuck
noncomputable def pCutS:List R->Store->Res R
 | [.g (.str xs),.g (.int i),.g (.int j)],σ=>if 0<=i/\i<=j then okG (.str ((xs.drop i.toNat).take (j.toNat-i.toNat))) σ else .stuck
 |_,_=>.stuck
noncomputable def pStarts:List R->Store->Res R
 | [.g (.str x),.g (.str y)],σ=>okG (.bl (y.isPrefixOf x)) σ
 |_,_=>.stuck
noncomputable def valD(x:List Nat):Int:=((x.foldl (fun a c=>a*10+(c-48)) 0:Nat):Int)
noncomputable def pIntOf:List R->Store->Res R
 | [.g (.str x)],σ=>if dec (valD x)=x/\valD x<1000000000 then okG (.int (valD x)) σ else .stuck
 |_,_=>.stuck
noncomputable def pInnS:List R->Store->Res R
 | [.g (.str [c]),.g (.str y)],σ=>okG (.bl (y.contains c)) σ
 |_,_=>.stuck
noncomputable def prim:Prim->List R->Store->Res R
 | .add=>pAdd | .sub=>pSub | .mul=>pMul | .fdiv=>pFdiv | .mod=>pMod | .pow=>pPow
 | .eq=>pEq | .ne=>pNe | .lt=>pLt | .le=>pLe | .gt=>pGt | .ge=>pGe | .isN=>pIsN | .notN=>pNotN | .inn=>pIn | .notin=>pNotIn
 | .idx=>pIdx | .len=>pLen | .tup=>pTup | .lst=>pLst | .dct0=>pDct0 | .dtg0=>pDtg0 | .setdefT=>pSetdefT | .lenT=>pLenT | .innT=>pInnT | .notinT=>pNotInT | .idxT=>pIdxT | .pop=>pPop | .zipL=>pZipL
 | .strOf=>pStrOf | .join=>pJoin | .cutS=>pCutS | .starts=>pStarts | .intOf=>pIntOf | .innS=>pInnS
 | .tupleOf=>pTupleOf | .listOf=>pListOf | .dictOf=>pDictOf
 | .get1=>pGet1 | .get2=>pGet2 | .setdef=>pSetdef | .append=>pAppend | .extend=>pExtend | .clear=>pClear | .index=>pIndex
 | .sum=>pSum | .max1=>pMax1 | .maxd=>pMaxd | .max2=>pMax2 | .min2=>pMin2 | .all=>pAll
 | .isInst t=>pIsInst t
 | .slice lo hi=>pSlice lo hi
noncomputable def tru(σ:Store):R->Option Bool
 | .g .non=>some false
 | .g (.bl b)=>some b
 | .g (.int i)=>some (i !=0)
 | .g (.str x)=>some (!x.isEmpty)
 | .g (.tup x)=>some (!x.isEmpty)
 | .tr x=>some (!x.isEmpty)
 | .ref k=>match σ[k]? with
  |some (.lst x)=>some (!x.isEmpty)
  |some (.rdl x)=>some (!x.isEmpty)
  |some (.rls x)=>some (!x.isEmpty)
  |some (.dct x)=>some (!x.isEmpty)
  |some (.rdd _)=>none
  |some (.dtg _)=>none
  |some (.rdt _)=>none
  |none=>none
mutual
inductive Tm where
 |var (i:Nat)
 |con (x:G)
 |glb (f:String) (x:G)
 |op (p:Prim) (as:Tms)
 |meth (p:Prim) (a:Tm) (as:Tms)
 |call (f:String) (as:Tms)
 |andT (a b:Tm)
 |orT (a b:Tm)
 |notT (a:Tm)
 |ifT (c a b:Tm)
 |chain (p q:Prim) (a b c:Tm)
 |comp (k:Nat) (caps:List Nat) (s:Src) (conds:Tms) (elt:Tm)
inductive Tms where
 |nil
 |cons (a:Tm) (as:Tms)
inductive Src where
 |over (e:Tm)
 |range1 (e:Tm)
 |range2 (a b:Tm)
 |items (e:Tm)
 |itemsT (e:Tm)
 |enum (e s:Tm)
 |zip (a b:Tm)
 |keys (e:Tm)
 |chars (e:Tm)
end
structure Walk where
 items:List R
 guard:Option (Nat × Cell)
noncomputable def okW(xs:List R)(σ:Store):Res Walk:=.ok ⟨xs,none⟩ σ
noncomputable def rangeL(lo n:Int):List R:=(List.range (n-lo).toNat).map fun(k:Nat)=>.g (.int (lo+(k:Int)))
noncomputable def wOver:R->Store->Res Walk
 | .g (.tup xs),σ=>okW (xs.map .g) σ
 | .ref k,σ=>match σ[k]? with
  |some (.lst xs)=>.ok ⟨xs.map .g,some (k,.lst xs)⟩ σ
  |some (.rdl xs)=>.ok ⟨xs.map .g,some (k,.rdl xs)⟩ σ
  |_=>.stuck
 |_,_=>.stuck
noncomputable def wChars:R->Store->Res Walk
 | .g (.str xs),σ=>okW (xs.map fun c=>.g (.str [c])) σ
 |_,_=>.stuck
noncomputable def wKeys:R->Store->Res Walk
 | .ref k,σ=>match σ[k]? with
  |some (.dct xs)=>if intKeys xs then .ok ⟨xs.map fun p=>.g p.1,some (k,.dct xs)⟩ σ else .stuck
  |some (.rdd xs)=>if intKeys xs then .ok ⟨xs.map fun p=>.g p.1,some (k,.rdd xs)⟩ σ else .stuck
  |_=>.stuck
 |_,_=>.stuck
noncomputable def small(i:Int):Bool:=decide (-(2 ^ 62)<=i) && decide (i<2 ^ 62)
noncomputable def wRange:R->R->Store->Res Walk
 | .g (.int i),.g (.int j),σ=>if small i && small j && decide ((j-i).toNat<=big) then okW (rangeL i j) σ else .stuck
 |_,_,_=>.stuck
noncomputable def wItems:R->Store->Res Walk
 | .ref k,σ=>match σ[k]? with
  |some (.dct xs)=>if intKeys xs then .ok ⟨xs.map fun p=>.g (.tup [p.1,p.2]),some (k,.dct xs)⟩ σ else .stuck
  |some (.rdd xs)=>if intKeys xs then .ok ⟨xs.map fun p=>.g (.tup [p.1,p.2]),some (k,.rdd xs)⟩ σ else .stuck
  |_=>.stuck
 |_,_=>.stuck
noncomputable def wItemsT:R->Store->Res Walk
 | .ref k,σ=>match σ[k]? with
  |some (.dtg xs)=>.ok ⟨xs.map fun p=>.g (.tup [p.1,p.2]),some (k,.rdt xs)⟩ (σ.set k (.rdt xs))
  |_=>.stuck
 |_,_=>.stuck
noncomputable def enumL:Int->List G->List R
 |_,[]=>[]
 |n,x::r=>.g (.tup [.int n,x])::enumL (n+1) r
noncomputable def wEnum:R->R->Store->Res Walk
 | .ref k,.g (.int n),σ=>match σ[k]? with
  |some (.lst xs)=>if small n && decide (xs.length<=big) then .ok ⟨enumL n xs,some (k,.lst xs)⟩ σ else .stuck
  |_=>.stuck
 |_,_,_=>.stuck
noncomputable def zipR:List G->List G->List R
 |x::r,y::t=>.g (.tup [x,y])::zipR r t
 |_,_=>[]
noncomputable def wZip:R->R->Store->Res Walk
 | .g (.tup xs),.g (.tup ys),σ=>okW (zipR xs ys) σ
 |_,_,_=>.stuck
noncomputable def intact(w:Option (Nat × Cell))(σ:Store):Bool:=match w with
 |none=>true
 |some (_,.dct _)=>false
 |some (k,c)=>decide (σ[k]?=some c)
noncomputable abbrev CallH:=String->List R->Store->Res R
noncomputable def compL(f:R->Store->Res (Option R))(w:Option (Nat × Cell)):List R->Store->Res (List R)
 | [],σ=>if intact w σ then .ok [] σ else .stuck
 |x::r,σ=>if intact w σ then (f x σ).bind fun o σ1=>(compL f w r σ1).bind fun ys σ2=>.ok (match o with|some y=>y::ys|none=>ys) σ2 else .stuck
noncomputable def truR(t:Bool)(r:R)(σ:Store):Res R:=if t then ofO (tru σ r) fun b=>okG (.bl b) σ else .ok r σ
noncomputable def parts:R->Option (List R)
 | .g (.tup xs)=>some (xs.map .g)
 | .tr xs=>some xs
 |_=>none
noncomputable def bindC(k:Nat)(x:R):Option (List (Option R)):=if k=1 then some [some x] else match parts x with
 |some rs=>if rs.length=k then some (rs.map some) else none
 |none=>none
noncomputable def turnC(k:Nat)(ce:Env)(fc:Env->Store->Res Bool)(fe:Env->Store->Res R)(x:R)(σ:Store):Res (Option R):=match bindC k x with
 |some bs=>(fc (bs++ce) σ).bind fun b σ1=>if b then (fe (bs++ce) σ1).bind fun y σ2=>.ok (some y) σ2 else .ok none σ1
 |none=>.stuck
noncomputable def capsE(ε:Env)(caps:List Nat):Env:=caps.map fun i=>(ε[i]?).getD none
noncomputable def recvOk(p:Prim)(r:R)(σ:Store):Bool:=match r with
 | .g (.str _)=>(match p with
  | .join=>true
  | .starts=>true
  |_=>false)
 | .ref k=>(match p,σ[k]? with
  | .append,some (.lst _)=>true
  | .extend,some (.lst _)=>true
  | .index,some (.lst _)=>true
  | .clear,some (.dct _)=>true
  | .get1,some (.dct _)=>true
  | .get2,some (.dct _)=>true
  | .setdef,some (.dct _)=>true
  | .setdefT,some (.dtg _)=>true
  | .pop,some (.lst _)=>true
  |_,_=>false)
 |_=>false
mutual
noncomputable def ev(cl:CallH):Bool->Tm->Env->Store->Res R
 |t,.var i,ε,σ=>match ε[i]? with
  |some (some r)=>truR t r σ
  |_=>.stuck
 |t,.con x,_,σ=>truR t (.g x) σ
 |t,.glb _ x,_,σ=>truR t (.g x) σ
 |t,.op p as,ε,σ=>(evs cl as ε σ).bind fun xs σ1=>(prim p xs σ1).bind fun r σ2=>truR t r σ2
 |t,.meth p a as,ε,σ=>(ev cl false a ε σ).bind fun x σ1=>if recvOk p x σ1 then (evs cl as ε σ1).bind fun xs σ2=>(prim p (x::xs) σ2).bind fun r σ3=>truR t r σ3 else .stuck
 |t,.call f as,ε,σ=>(evs cl as ε σ).bind fun xs σ1=>(cl f xs σ1).bind fun r σ2=>truR t r σ2
 |t,.andT a b,ε,σ=>(ev cl t a ε σ).bind fun r σ1=>match r with
  | .g (.bl true)=>ev cl t b ε σ1
  | .g (.bl false)=>okG (.bl false) σ1
  |_=>.stuck
 |t,.orT a b,ε,σ=>(ev cl t a ε σ).bind fun r σ1=>match r with
  | .g (.bl false)=>ev cl t b ε σ1
  | .g (.bl true)=>okG (.bl true) σ1
  |_=>.stuck
 |t,.notT a,ε,σ=>(ev cl t a ε σ).bind fun r σ1=>ofO (tru σ1 r) fun b=>okG (.bl (!b)) σ1
 |t,.ifT c a b,ε,σ=>(ev cl true c ε σ).bind fun r σ1=>match r with
  | .g (.bl true)=>ev cl t a ε σ1
  | .g (.bl false)=>ev cl t b ε σ1
  |_=>.stuck
 |t,.chain p q a b c,ε,σ=>(ev cl false a ε σ).bind fun x σ1=>(ev cl false b ε σ1).bind fun y σ2=>(prim p [x,y] σ2).bind fun r σ3=>match r with
  | .g (.bl true)=>(ev cl false c ε σ3).bind fun z σ4=>(prim q [y,z] σ4).bind fun r σ5=>truR t r σ5
  | .g (.bl false)=>okG (.bl false) σ3
  |_=>.stuck
 |t,.comp k caps s conds elt,ε,σ=>(evW cl s ε σ).bind fun w σ1 =>
  (compL (turnC k (capsE ε caps) (evC cl conds) (ev cl false elt)) w.guard w.items σ1).bind fun ys σ2 =>
  truR t (.ref σ2.length) (σ2++[mkLst ys])
noncomputable def evs(cl:CallH):Tms->Env->Store->Res (List R)
 | .nil,_,σ=>.ok [] σ
 | .cons a as,ε,σ=>(ev cl false a ε σ).bind fun x σ1=>(evs cl as ε σ1).bind fun xs σ2=>.ok (x::xs) σ2
noncomputable def evC(cl:CallH):Tms->Env->Store->Res Bool
 | .nil,_,σ=>.ok true σ
 | .cons a as,ε,σ=>(ev cl true a ε σ).bind fun r σ1=>match r with
  | .g (.bl true)=>evC cl as ε σ1
  | .g (.bl false)=>.ok false σ1
  |_=>.stuck
noncomputable def evW(cl:CallH):Src->Env->Store->Res Walk
 | .over e,ε,σ=>(ev cl false e ε σ).bind wOver
 | .range1 e,ε,σ=>(ev cl false e ε σ).bind fun r σ1=>wRange (.g (.int 0)) r σ1
 | .range2 a b,ε,σ=>(ev cl false a ε σ).bind fun x σ1=>(ev cl false b ε σ1).bind fun y σ2=>wRange x y σ2
 | .items e,ε,σ=>(ev cl false e ε σ).bind wItems
 | .itemsT e,ε,σ=>(ev cl false e ε σ).bind wItemsT
 | .enum e s,ε,σ=>(ev cl false e ε σ).bind fun x σ1=>(ev cl false s ε σ1).bind fun y σ2=>wEnum x y σ2
 | .zip a b,ε,σ=>(ev cl false a ε σ).bind fun x σ1=>(ev cl false b ε σ1).bind fun y σ2=>wZip x y σ2
 | .keys e,ε,σ=>(ev cl false e ε σ).bind wKeys
 | .chars e,ε,σ=>(ev cl false e ε σ).bind wChars
end
mutual
inductive Stm where
 |set (i:Nat) (e:Tm)
 |unpack (is:List Nat) (e:Tm)
 |setIdx (a i v:Tm)
 |expr (e:Tm)
 |ret (e:Tm)
 |retN
 |ite (c:Tm) (a b:Blk)
 |forS (tg:List Nat) (s:Src) (b:Blk)
 |whileS (c:Tm) (b:Blk)
 |brk
 |cont
 |pass
 |raise (c:String) (a:Tm)
 |callX (tg:Option (Option Nat)) (f:String) (as:Tms)
 |tryM (tg:Option Nat) (f:String) (as:Tms) (c:String) (e i:Nat) (cs:List String)
 |tryR (f:String) (as:Tms) (c d:String) (a:Tm)
inductive Blk where
 |nil
 |cons (s:Stm) (b:Blk)
end
inductive Out where
 |next (ε:Env)|ret (r:R)|brk (ε:Env)|cont (ε:Env)|exc (c:String)
 deriving Inhabited
noncomputable def isA(c d:String):Bool:=c == d || (["FormError","NoForm","TooMany","NoForms","BadNote"].contains c && (d == "ValueError" || d == "FormError"))
noncomputable def setSlot(ε:Env)(i:Nat)(r:R):Option Env:=if i<ε.length then some (ε.set i (some r)) else none
noncomputable def setSlots:List Nat->List R->Env->Option Env
 | [],[],ε=>some ε
 |i::is,r::rs,ε=>(setSlot ε i r).bind (setSlots is rs)
 |_,_,_=>none
noncomputable def bindTg:List Nat->R->Env->Option Env
 | [i],r,ε=>setSlot ε i r
 |is,r,ε=>(parts r).bind fun rs=>setSlots is rs ε
noncomputable def ofE(o:Option Env)(f:Env->Res Out):Res Out:=match o with
 |some ε=>f ε
 |none=>.stuck
noncomputable def forL(tg:List Nat)(body:Env->Store->Res Out)(w:Option (Nat × Cell)):List R->Env->Store->Res Out
 | [],ε,σ=>if intact w σ then .ok (.next ε) σ else .stuck
 |x::r,ε,σ=>if intact w σ then ofE (bindTg tg x ε) fun ε1=>(body ε1 σ).bind fun o σ1=>match o with
  | .next ε2=>forL tg body w r ε2 σ1
  | .cont ε2=>forL tg body w r ε2 σ1
  | .brk ε2=>.ok (.next ε2) σ1
  | .ret v=>.ok (.ret v) σ1
  | .exc c=>.ok (.exc c) σ1
  else .stuck
noncomputable def thaw(k:Nat)(kvs:List (G × G)):Res Out->Res Out
 | .ok (.exc _) _=>.stuck
 | .ok o σ=>if σ[k]?=some (.rdd kvs) then .ok o (σ.set k (.dct kvs)) else .stuck
 | .exc _ _=>.stuck
 | .stuck=>.stuck
noncomputable def forW(tg:List Nat)(body:Env->Store->Res Out)(w:Walk)(ε:Env)(σ:Store):Res Out:=match w.guard with
 |some (k,.dct kvs)=>thaw k kvs (forL tg body (some (k,.rdd kvs)) w.items ε (σ.set k (.rdd kvs)))
 |g=>forL tg body g w.items ε σ
noncomputable def whileL(test:Env->Store->Res R)(body:Env->Store->Res Out):Nat->Env->Store->Res Out
 |0,_,_=>.stuck
 |n+1,ε,σ=>(test ε σ).bind fun r σ1=>match r with
  | .g (.bl false)=>.ok (.next ε) σ1
  | .g (.bl true)=>(body ε σ1).bind fun o σ2=>match o with
   | .next ε2=>whileL test body n ε2 σ2
   | .cont ε2=>whileL test body n ε2 σ2
   | .brk ε2=>.ok (.next ε2) σ2
   | .ret v=>.ok (.ret v) σ2
   | .exc c=>.ok (.exc c) σ2
  |_=>.stuck
noncomputable def putAt:R->R->R->Store->Option Store
 | .ref k,.g i,.g v,σ=>match σ[k]?,i with
  |some (.lst xs),.int i=>(ixOf xs.length i).map fun j=>σ.set k (.lst (xs.set j v))
  |some (.dct kvs),i=>if isKey i && decide (kvs.length<big) then some (σ.set k (.dct (dput kvs i v))) else none
  |some (.dtg kvs),i=>if tkey i && tell8 kvs i && decide (kvs.length<big) then some (σ.set k (.dtg (dput kvs i v))) else none
  |_,_=>none
 |_,_,_,_=>none
noncomputable def kX(tg:Option (Option Nat))(ε:Env):Res R->Res Out
 | .ok r σ=>(match tg with
  |none=>.ok (.next ε) σ
  |some none=>.ok (.ret r) σ
  |some (some i)=>ofE (setSlot ε i r) fun ε1=>.ok (.next ε1) σ)
 | .exc c σ=>.ok (.exc c) σ
 | .stuck=>.stuck
noncomputable def kTM(tg:Option Nat)(c:String)(e i:Nat)(cs:List String)(ε:Env):Res R->Res Out
 | .ok r σ=>(match tg with
  |none=>.ok (.next ε) σ
  |some j=>ofE (setSlot ε j r) fun ε1=>.ok (.next ε1) σ)
 | .exc x σ=>if isA x c then ofE (setSlot ε i (.ref σ.length)) fun ε1=>.ok (.next (ε1.set e none)) (σ++[.lst (cs.map fun d=>.bl (isA x d))]) else .stuck
 | .stuck=>.stuck
mutual
noncomputable def evS(cl:CallH)(W:Nat):Stm->Env->Store->Res Out
 | .set i e,ε,σ=>(ev cl false e ε σ).bind fun r σ1=>ofE (setSlot ε i r) fun ε1=>.ok (.next ε1) σ1
 | .unpack is e,ε,σ=>(ev cl false e ε σ).bind fun r σ1=>match parts r with
  |some rs=>ofE (setSlots is rs ε) fun ε1=>.ok (.next ε1) σ1
  |none=>.stuck
 | .setIdx a i v,ε,σ=>(ev cl false v ε σ).bind fun z σ1=>(ev cl false a ε σ1).bind fun x σ2=>(ev cl false i ε σ2).bind fun y σ3=>match putAt x y z σ3 with
  |some σ4=>.ok (.next ε) σ4
  |none=>.stuck
 | .expr e,ε,σ=>(ev cl false e ε σ).bind fun _ σ1=>.ok (.next ε) σ1
 | .ret e,ε,σ=>(ev cl false e ε σ).bind fun r σ1=>.ok (.ret r) σ1
 | .retN,_,σ=>.ok (.ret (.g .non)) σ
 | .ite c a b,ε,σ=>(ev cl true c ε σ).bind fun r σ1=>match r with
  | .g (.bl true)=>evB cl W a ε σ1
  | .g (.bl false)=>evB cl W b ε σ1
  |_=>.stuck
 | .forS tg s b,ε,σ=>(evW cl s ε σ).bind fun w σ1=>forW tg (fun ε σ=>evB cl W b ε σ) w ε σ1
 | .whileS c b,ε,σ=>whileL (fun ε σ=>ev cl true c ε σ) (fun ε σ=>evB cl W b ε σ) W ε σ
 | .brk,ε,σ=>.ok (.brk ε) σ
 | .cont,ε,σ=>.ok (.cont ε) σ
 | .pass,ε,σ=>.ok (.next ε) σ
 | .raise c a,ε,σ=>(ev cl false a ε σ).bind fun _ σ1=>.ok (.exc c) σ1
 | .callX tg f as,ε,σ=>(evs cl as ε σ).bind fun xs σ1=>kX tg ε (cl f xs σ1)
 | .tryM tg f as c e i cs,ε,σ=>(evs cl as ε σ).bind fun xs σ1=>kTM tg c e i cs ε (cl f xs σ1)
 | .tryR f as c d a,ε,σ=>(evs cl as ε σ).bind fun xs σ1=>match cl f xs σ1 with
  | .ok _ σ2=>.ok (.next ε) σ2
  | .exc _ _=>.stuck
  | .stuck=>.stuck
noncomputable def evB(cl:CallH)(W:Nat):Blk->Env->Store->Res Out
 | .nil,ε,σ=>.ok (.next ε) σ
 | .cons s b,ε,σ=>(evS cl W s ε σ).bind fun o σ1=>match o with
  | .next ε1=>evB cl W b ε1 σ1
  |o=>.ok o σ1
end
structure Fn where
 name:String
 np:Nat
 nl:Nat
 body:Blk
noncomputable def look:List Fn->String->Option Fn
 | [],_=>none
 |d::r,f=>if d.name=f then some d else look r f
mutual
noncomputable def refsGe(n:Nat):R->List Nat->List Nat
 | .g _,acc=>acc
 | .ref i,acc=>if i<n then acc else if acc.contains i then acc else acc++[i]
 | .tr xs,acc=>refsGes n xs acc
noncomputable def refsGes(n:Nat):List R->List Nat->List Nat
 | [],acc=>acc
 |x::r,acc=>refsGes n r (refsGe n x acc)
end
mutual
noncomputable def ren(n:Nat)(ks:List Nat):R->R
 | .g x=>.g x
 | .ref i=>if i<n then .ref i else .ref (n+ks.idxOf i)
 | .tr xs=>.tr (rens n ks xs)
noncomputable def rens(n:Nat)(ks:List Nat):List R->List R
 | []=>[]
 |x::r=>ren n ks x::rens n ks r
end
noncomputable def flatCell:Cell->Bool
 | .rls _=>false
 |_=>true
noncomputable def cellsAt(σ:Store):List Nat->Option (List Cell)
 | []=>some []
 |k::r=>match σ[k]? with
  |some c=>if flatCell c then (cellsAt σ r).map (c :: ·) else none
  |none=>none
noncomputable def fin(n:Nat):Res Out->Res R
 | .ok (.ret r) σ=>match cellsAt σ (refsGe n r []) with
  |some cs=>.ok (ren n (refsGe n r []) r) (σ.take n++cs)
  |none=>.stuck
 | .ok (.next _) σ=>okG .non (σ.take n)
 | .ok (.exc c) σ=>.exc c (σ.take n)
 | .ok _ _=>.stuck
 | .exc _ _=>.stuck
 | .stuck=>.stuck
noncomputable def run(P:List Fn)(W:Nat):Nat->CallH
 |0,_,_,_=>.stuck
 |n+1,f,as,σ=>match look P f with
  |none=>.stuck
  |some d=>if as.length=d.np then fin σ.length (evB (run P W n) W d.body (as.map some++List.replicate (d.nl-d.np) none) σ) else .stuck
end MP
namespace MP
variable {cl:CallH}{W:Nat}{ε:Env}{σ:Store}
noncomputable def kB(cl:CallH)(W:Nat)(b:Blk):Res Out->Res Out
 | .ok (.next ε) σ=>evB cl W b ε σ
 | .ok o σ=>.ok o σ
 | .exc c σ=>.exc c σ
 | .stuck=>.stuck
@[simp] theorem evB_cons(s:Stm)(b:Blk):evB cl W (.cons s b) ε σ=kB cl W b (evS cl W s ε σ):=by
 rw[evB];cases evS cl W s ε σ with
 |ok o σ=>cases o<;>rfl
 |exc c σ=>rfl
 |stuck=>rfl
@[simp] theorem evB_nil:evB cl W .nil ε σ = .ok (.next ε) σ:=by rw[evB]
@[simp] theorem kB_next(b:Blk):kB cl W b (.ok (.next ε) σ)=evB cl W b ε σ:=rfl
@[simp] theorem kB_ret(b:Blk)(r:R):kB cl W b (.ok (.ret r) σ) = .ok (.ret r) σ:=rfl
@[simp] theorem kB_brk(b:Blk):kB cl W b (.ok (.brk ε) σ) = .ok (.brk ε) σ:=rfl
@[simp] theorem kB_cont(b:Blk):kB cl W b (.ok (.cont ε) σ) = .ok (.cont ε) σ:=rfl
@[simp] theorem kB_raise(b:Blk)(c:String):kB cl W b (.ok (.exc c) σ) = .ok (.exc c) σ:=rfl
@[simp] theorem kB_exc(b:Blk)(c:String):kB cl W b (.exc c σ) = .exc c σ:=rfl
noncomputable def kT(t:Bool):Res R->Res R
 | .ok r σ=>truR t r σ
 |x=>x
@[simp] theorem kT_f(x:Res R):kT false x=x:=by cases x<;>rfl
@[simp] theorem kT_bl(b:Bool):kT true (.ok (.g (.bl b)) σ) = .ok (.g (.bl b)) σ:=rfl
theorem kT_ok(r:R):kT true (.ok r σ)=ofO (tru σ r) fun b=>.ok (.g (.bl b)) σ:=rfl
@[simp] theorem truR_f(r:R):truR false r σ = .ok r σ:=rfl
@[simp] theorem truR_t(r:R):truR true r σ=ofO (tru σ r) fun b=>.ok (.g (.bl b)) σ:=rfl
@[simp] theorem ofO_some{α:Type}(a:α)(f:α->Res R):ofO (some a) f=f a:=rfl
noncomputable def kOp(t:Bool)(p:Prim):Res (List R)->Res R
 | .ok xs σ=>kT t (prim p xs σ)
 | .exc c σ=>.exc c σ
 | .stuck=>.stuck
@[simp] theorem ev_op(t:Bool)(p:Prim)(as:Tms):ev cl t (.op p as) ε σ=kOp t p (evs cl as ε σ):=by
 rw[ev];cases evs cl as ε σ with
 |ok xs σ=>show(prim p xs σ).bind _=kT t (prim p xs σ);cases prim p xs σ<;>rfl
 |exc c σ=>rfl
 |stuck=>rfl
@[simp] theorem kOp_ok(t:Bool)(p:Prim)(xs:List R):kOp t p (.ok xs σ)=kT t (prim p xs σ):=rfl
noncomputable def kM2(t:Bool)(p:Prim)(r:R):Res (List R)->Res R
 | .ok xs σ=>kT t (prim p (r::xs) σ)
 | .exc c σ=>.exc c σ
 | .stuck=>.stuck
noncomputable def kM1(cl:CallH)(t:Bool)(p:Prim)(as:Tms)(ε:Env):Res R->Res R
 | .ok x σ=>if recvOk p x σ then kM2 t p x (evs cl as ε σ) else .stuck
 | .exc c σ=>.exc c σ
 | .stuck=>.stuck
@[simp] theorem ev_meth(t:Bool)(p:Prim)(a:Tm)(as:Tms):ev cl t (.meth p a as) ε σ=kM1 cl t p as ε (ev cl false a ε σ):=by
 rw[ev];cases ev cl false a ε σ with
 |ok x σ =>
  show(if recvOk p x σ then _ else _)=if recvOk p x σ then _ else _
  cases recvOk p x σ with
  |false=>rfl
  |true =>
   simp only[if_true]
   cases evs cl as ε σ with
   |ok xs σ=>show(prim p (x::xs) σ).bind _=kT t (prim p (x::xs) σ);cases prim p (x::xs) σ<;>rfl
   |exc c σ=>rfl
   |stuck=>rfl
 |exc c σ=>rfl
 |stuck=>rfl
@[simp] theorem kM1_ok(t:Bool){p:Prim}(as:Tms){x:R}(h:recvOk p x σ=true):kM1 cl t p as ε (.ok x σ)=kM2 t p x (evs cl as ε σ):=by simp[kM1,h]
@[simp] theorem kM2_ok(t:Bool)(p:Prim)(x:R)(xs:List R):kM2 t p x (.ok xs σ)=kT t (prim p (x::xs) σ):=rfl
theorem recv_append{k:Nat}{xs:List G}(h:σ[k]?=some (.lst xs)):recvOk .append (.ref k) σ=true:=by simp[recvOk,h]
theorem recv_extend{k:Nat}{xs:List G}(h:σ[k]?=some (.lst xs)):recvOk .extend (.ref k) σ=true:=by simp[recvOk,h]
theorem recv_index{k:Nat}{xs:List G}(h:σ[k]?=some (.lst xs)):recvOk .index (.ref k) σ=true:=by simp[recvOk,h]
theorem recv_clear{k:Nat}{xs:List (G × G)}(h:σ[k]?=some (.dct xs)):recvOk .clear (.ref k) σ=true:=by simp[recvOk,h]
theorem recv_get1{k:Nat}{xs:List (G × G)}(h:σ[k]?=some (.dct xs)):recvOk .get1 (.ref k) σ=true:=by simp[recvOk,h]
theorem recv_setdef{k:Nat}{xs:List (G × G)}(h:σ[k]?=some (.dct xs)):recvOk .setdef (.ref k) σ=true:=by simp[recvOk,h]
theorem recv_get2{k:Nat}{xs:List (G × G)}(h:σ[k]?=some (.dct xs)):recvOk .get2 (.ref k) σ=true:=by simp[recvOk,h]
noncomputable def kCall(cl:CallH)(t:Bool)(f:String):Res (List R)->Res R
 | .ok xs σ=>kT t (cl f xs σ)
 | .exc c σ=>.exc c σ
 | .stuck=>.stuck
@[simp] theorem ev_call(t:Bool)(f:String)(as:Tms):ev cl t (.call f as) ε σ=kCall cl t f (evs cl as ε σ):=by
 rw[ev];cases evs cl as ε σ with
 |ok xs σ=>show(cl f xs σ).bind _=kT t (cl f xs σ);cases cl f xs σ<;>rfl
 |exc c σ=>rfl
 |stuck=>rfl
@[simp] theorem kCall_ok(t:Bool)(f:String)(xs:List R):kCall cl t f (.ok xs σ)=kT t (cl f xs σ):=rfl
noncomputable def kCons(x:R):Res (List R)->Res (List R)
 | .ok xs σ=>.ok (x::xs) σ
 |y=>y
noncomputable def kArg(cl:CallH)(as:Tms)(ε:Env):Res R->Res (List R)
 | .ok x σ=>kCons x (evs cl as ε σ)
 | .exc c σ=>.exc c σ
 | .stuck=>.stuck
@[simp] theorem evs_nil:evs cl .nil ε σ = .ok [] σ:=by rw[evs]
@[simp] theorem evs_cons(a:Tm)(as:Tms):evs cl (.cons a as) ε σ=kArg cl as ε (ev cl false a ε σ):=by
 rw[evs];cases ev cl false a ε σ with
 |ok x σ=>show(evs cl as ε σ).bind _=kCons x (evs cl as ε σ);cases evs cl as ε σ<;>rfl
 |exc c σ=>rfl
 |stuck=>rfl
@[simp] theorem kArg_ok(as:Tms)(x:R):kArg cl as ε (.ok x σ)=kCons x (evs cl as ε σ):=rfl
@[simp] theorem kCons_ok(x:R)(xs:List R):kCons x (.ok xs σ) = .ok (x::xs) σ:=rfl
noncomputable def kVar(t:Bool)(σ:Store):Option (Option R)->Res R
 |some (some r)=>truR t r σ
 |_=>.stuck
@[simp] theorem ev_var(t:Bool)(i:Nat):ev cl t (.var i) ε σ=kVar t σ (ε[i]?):=by
 rw[ev]
 cases ε[i]? with
 |none=>rfl
 |some o=>cases o<;>rfl
@[simp] theorem kVar_some(t:Bool)(r:R):kVar t σ (some (some r))=truR t r σ:=rfl
@[simp] theorem ev_con(t:Bool)(x:G):ev cl t (.con x) ε σ=truR t (.g x) σ:=by rw[ev]
@[simp] theorem ev_glb(t:Bool)(f:String)(x:G):ev cl t (.glb f x) ε σ=truR t (.g x) σ:=by rw[ev]
noncomputable def kAnd(cl:CallH)(t:Bool)(b:Tm)(ε:Env):Res R->Res R
 | .ok (.g (.bl true)) σ=>ev cl t b ε σ
 | .ok (.g (.bl false)) σ=>okG (.bl false) σ
 | .ok _ _=>.stuck
 | .exc c σ=>.exc c σ
 | .stuck=>.stuck
@[simp] theorem ev_and(t:Bool)(a b:Tm):ev cl t (.andT a b) ε σ=kAnd cl t b ε (ev cl t a ε σ):=by
 rw[ev];cases ev cl t a ε σ with
 |ok r σ=>cases r with
  |g x=>cases x with
   |bl c=>cases c<;>rfl
   |_=>rfl
  |_=>rfl
 |exc c σ=>rfl
 |stuck=>rfl
@[simp] theorem kAnd_t(t:Bool)(b:Tm):kAnd cl t b ε (.ok (.g (.bl true)) σ)=ev cl t b ε σ:=rfl
@[simp] theorem kAnd_f(t:Bool)(b:Tm):kAnd cl t b ε (.ok (.g (.bl false)) σ) = .ok (.g (.bl false)) σ:=rfl
noncomputable def kOr(cl:CallH)(t:Bool)(b:Tm)(ε:Env):Res R->Res R
 | .ok (.g (.bl false)) σ=>ev cl t b ε σ
 | .ok (.g (.bl true)) σ=>okG (.bl true) σ
 | .ok _ _=>.stuck
 | .exc c σ=>.exc c σ
 | .stuck=>.stuck
@[simp] theorem ev_or(t:Bool)(a b:Tm):ev cl t (.orT a b) ε σ=kOr cl t b ε (ev cl t a ε σ):=by
 rw[ev];cases ev cl t a ε σ with
 |ok r σ=>cases r with
  |g x=>cases x with
   |bl c=>cases c<;>rfl
   |_=>rfl
  |_=>rfl
 |exc c σ=>rfl
 |stuck=>rfl
@[simp] theorem kOr_f(t:Bool)(b:Tm):kOr cl t b ε (.ok (.g (.bl false)) σ)=ev cl t b ε σ:=rfl
@[simp] theorem kOr_t(t:Bool)(b:Tm):kOr cl t b ε (.ok (.g (.bl true)) σ) = .ok (.g (.bl true)) σ:=rfl
noncomputable def kNot:Res R->Res R
 | .ok r σ=>ofO (tru σ r) fun b=>okG (.bl (!b)) σ
 |x=>x
@[simp] theorem ev_not(t:Bool)(a:Tm):ev cl t (.notT a) ε σ=kNot (ev cl t a ε σ):=by
 rw[ev];cases ev cl t a ε σ<;>rfl
@[simp] theorem kNot_bl(b:Bool):kNot (.ok (.g (.bl b)) σ) = .ok (.g (.bl (!b))) σ:=rfl
theorem kNot_ok(r:R):kNot (.ok r σ)=ofO (tru σ r) fun b=>.ok (.g (.bl (!b))) σ:=rfl
noncomputable def kIf(cl:CallH)(t:Bool)(a b:Tm)(ε:Env):Res R->Res R
 | .ok (.g (.bl true)) σ=>ev cl t a ε σ
 | .ok (.g (.bl false)) σ=>ev cl t b ε σ
 | .ok _ _=>.stuck
 | .exc c σ=>.exc c σ
 | .stuck=>.stuck
@[simp] theorem ev_if(t:Bool)(c a b:Tm):ev cl t (.ifT c a b) ε σ=kIf cl t a b ε (ev cl true c ε σ):=by
 rw[ev];cases ev cl true c ε σ with
 |ok r σ=>cases r with
  |g x=>cases x with
   |bl c=>cases c<;>rfl
   |_=>rfl
  |_=>rfl
 |exc c σ=>rfl
 |stuck=>rfl
@[simp] theorem kIf_t(t:Bool)(a b:Tm):kIf cl t a b ε (.ok (.g (.bl true)) σ)=ev cl t a ε σ:=rfl
@[simp] theorem kIf_f(t:Bool)(a b:Tm):kIf cl t a b ε (.ok (.g (.bl false)) σ)=ev cl t b ε σ:=rfl
noncomputable def kCh4(t:Bool)(q:Prim)(y:R):Res R->Res R
 | .ok z σ=>kT t (prim q [y,z] σ)
 |x=>x
noncomputable def kCh3(cl:CallH)(t:Bool)(q:Prim)(c:Tm)(ε:Env)(y:R):Res R->Res R
 | .ok (.g (.bl true)) σ=>kCh4 t q y (ev cl false c ε σ)
 | .ok (.g (.bl false)) σ=>okG (.bl false) σ
 | .ok _ _=>.stuck
 |x=>x
noncomputable def kCh2(cl:CallH)(t:Bool)(p q:Prim)(c:Tm)(ε:Env)(x:R):Res R->Res R
 | .ok y σ=>kCh3 cl t q c ε y (prim p [x,y] σ)
 |r=>r
noncomputable def kCh1(cl:CallH)(t:Bool)(p q:Prim)(b c:Tm)(ε:Env):Res R->Res R
 | .ok x σ=>kCh2 cl t p q c ε x (ev cl false b ε σ)
 |r=>r
@[simp] theorem ev_chain(t:Bool)(p q:Prim)(a b c:Tm):ev cl t (.chain p q a b c) ε σ=kCh1 cl t p q b c ε (ev cl false a ε σ):=by
 rw[ev];cases ev cl false a ε σ with
 |ok x σ =>
  show(ev cl false b ε σ).bind _=kCh2 cl t p q c ε x (ev cl false b ε σ)
  cases ev cl false b ε σ with
  |ok y σ =>
   show(prim p [x,y] σ).bind _=kCh3 cl t q c ε y (prim p [x,y] σ)
   cases prim p [x,y] σ with
   |ok r σ=>cases r with
    |g z=>cases z with
     |bl d=>cases d with
      |true =>
       show(ev cl false c ε σ).bind _=kCh4 t q y (ev cl false c ε σ)
       cases ev cl false c ε σ with
       |ok z σ=>show(prim q [y,z] σ).bind _=kT t (prim q [y,z] σ);cases prim q [y,z] σ<;>rfl
       |exc c σ=>rfl
       |stuck=>rfl
      |false=>rfl
     |_=>rfl
    |_=>rfl
   |exc c σ=>rfl
   |stuck=>rfl
  |exc c σ=>rfl
  |stuck=>rfl
 |exc c σ=>rfl
 |stuck=>rfl
@[simp] theorem kCh1_ok(t:Bool)(p q:Prim)(b c:Tm)(x:R):kCh1 cl t p q b c ε (.ok x σ)=kCh2 cl t p q c ε x (ev cl false b ε σ):=rfl
@[simp] theorem kCh2_ok(t:Bool)(p q:Prim)(c:Tm)(x y:R):kCh2 cl t p q c ε x (.ok y σ)=kCh3 cl t q c ε y (prim p [x,y] σ):=rfl
@[simp] theorem kCh3_t(t:Bool)(q:Prim)(c:Tm)(y:R):kCh3 cl t q c ε y (.ok (.g (.bl true)) σ)=kCh4 t q y (ev cl false c ε σ):=rfl
@[simp] theorem kCh3_f(t:Bool)(q:Prim)(c:Tm)(y:R):kCh3 cl t q c ε y (.ok (.g (.bl false)) σ) = .ok (.g (.bl false)) σ:=rfl
@[simp] theorem kCh4_ok(t:Bool)(q:Prim)(y z:R):kCh4 t q y (.ok z σ)=kT t (prim q [y,z] σ):=rfl
noncomputable def kW(f:R->Store->Res Walk):Res R->Res Walk
 | .ok r σ=>f r σ
 | .exc c σ=>.exc c σ
 | .stuck=>.stuck
@[simp] theorem evW_over(e:Tm):evW cl (.over e) ε σ=kW wOver (ev cl false e ε σ):=by rw[evW];cases ev cl false e ε σ<;>rfl
@[simp] theorem evW_range1(e:Tm):evW cl (.range1 e) ε σ=kW (wRange (.g (.int 0))) (ev cl false e ε σ):=by rw[evW];cases ev cl false e ε σ<;>rfl
@[simp] theorem evW_items(e:Tm):evW cl (.items e) ε σ=kW wItems (ev cl false e ε σ):=by rw[evW];cases ev cl false e ε σ<;>rfl
@[simp] theorem evW_keys(e:Tm):evW cl (.keys e) ε σ=kW wKeys (ev cl false e ε σ):=by rw[evW];cases ev cl false e ε σ<;>rfl
@[simp] theorem evW_chars(e:Tm):evW cl (.chars e) ε σ=kW wChars (ev cl false e ε σ):=by rw[evW];cases ev cl false e ε σ<;>rfl
noncomputable def kW2(cl:CallH)(f:R->R->Store->Res Walk)(b:Tm)(ε:Env):Res R->Res Walk
 | .ok x σ=>kW (f x) (ev cl false b ε σ)
 | .exc c σ=>.exc c σ
 | .stuck=>.stuck
@[simp] theorem evW_range2(a b:Tm):evW cl (.range2 a b) ε σ=kW2 cl wRange b ε (ev cl false a ε σ):=by
 rw[evW];cases ev cl false a ε σ with
 |ok x σ=>show(ev cl false b ε σ).bind _=kW (wRange x) (ev cl false b ε σ);cases ev cl false b ε σ<;>rfl
 |exc c σ=>rfl
 |stuck=>rfl
@[simp] theorem evW_enum(a b:Tm):evW cl (.enum a b) ε σ=kW2 cl wEnum b ε (ev cl false a ε σ):=by
 rw[evW];cases ev cl false a ε σ with
 |ok x σ=>show(ev cl false b ε σ).bind _=kW (wEnum x) (ev cl false b ε σ);cases ev cl false b ε σ<;>rfl
 |exc c σ=>rfl
 |stuck=>rfl
@[simp] theorem evW_zip(a b:Tm):evW cl (.zip a b) ε σ=kW2 cl wZip b ε (ev cl false a ε σ):=by
 rw[evW];cases ev cl false a ε σ with
 |ok x σ=>show(ev cl false b ε σ).bind _=kW (wZip x) (ev cl false b ε σ);cases ev cl false b ε σ<;>rfl
 |exc c σ=>rfl
 |stuck=>rfl
@[simp] theorem kW_ok(f:R->Store->Res Walk)(r:R):kW f (.ok r σ)=f r σ:=by rw[kW]
@[simp] theorem kW2_ok(f:R->R->Store->Res Walk)(b:Tm)(x:R):kW2 cl f b ε (.ok x σ)=kW (f x) (ev cl false b ε σ):=by rw[kW2]
@[simp] theorem wOver_tup(xs:List G):wOver (.g (.tup xs)) σ = .ok ⟨xs.map .g,none⟩ σ:=rfl
@[simp] theorem wChars_str(xs:List Nat):wChars (.g (.str xs)) σ = .ok ⟨xs.map fun c=>.g (.str [c]),none⟩ σ:=rfl
theorem wOver_lst{k:Nat}{xs:List G}(h:σ[k]?=some (.lst xs)):wOver (.ref k) σ = .ok ⟨xs.map .g,some (k,.lst xs)⟩ σ:=by simp only[wOver,h]
theorem wOver_rdl{k:Nat}{xs:List G}(h:σ[k]?=some (.rdl xs)):wOver (.ref k) σ = .ok ⟨xs.map .g,some (k,.rdl xs)⟩ σ:=by simp only[wOver,h]
theorem wKeys_dct{k:Nat}{xs:List (G × G)}(h:σ[k]?=some (.dct xs))(hi:intKeys xs=true):wKeys (.ref k) σ = .ok ⟨xs.map fun p=>.g p.1,some (k,.dct xs)⟩ σ:=by simp only[wKeys,h,hi,if_true]
theorem wItems_dct{k:Nat}{xs:List (G × G)}(h:σ[k]?=some (.dct xs))(hi:intKeys xs=true):wItems (.ref k) σ = .ok ⟨xs.map fun p=>.g (.tup [p.1,p.2]),some (k,.dct xs)⟩ σ:=by simp only[wItems,h,hi,if_true]
theorem wEnum_lst{k:Nat}{xs:List G}{n:Int}(h:σ[k]?=some (.lst xs))(hn:(small n && decide (xs.length<=big))=true):wEnum (.ref k) (.g (.int n)) σ = .ok ⟨enumL n xs,some (k,.lst xs)⟩ σ:=by simp only[wEnum,h,hn,if_true]
@[simp] theorem wZip_tup(xs ys:List G):wZip (.g (.tup xs)) (.g (.tup ys)) σ = .ok ⟨zipR xs ys,none⟩ σ:=rfl
theorem wRange_ok{i j:Int}(h:(small i && small j && decide ((j-i).toNat<=big))=true):wRange (.g (.int i)) (.g (.int j)) σ = .ok ⟨rangeL i j,none⟩ σ:=by simp only[wRange,h,if_true,okW]
noncomputable def compF(cl:CallH)(k:Nat)(caps:List Nat)(conds:Tms)(elt:Tm)(ε:Env)(x:R)(σ:Store):Res (Option R):=turnC k (capsE ε caps) (evC cl conds) (ev cl false elt) x σ
noncomputable def kC2(t:Bool):Res (List R)->Res R
 | .ok ys σ=>truR t (.ref σ.length) (σ++[mkLst ys])
 | .exc c σ=>.exc c σ
 | .stuck=>.stuck
noncomputable def kC1(cl:CallH)(t:Bool)(k:Nat)(caps:List Nat)(conds:Tms)(elt:Tm)(ε:Env):Res Walk->Res R
 | .ok w σ=>kC2 t (compL (compF cl k caps conds elt ε) w.guard w.items σ)
 | .exc c σ=>.exc c σ
 | .stuck=>.stuck
@[simp] theorem ev_comp(t:Bool)(k:Nat)(caps:List Nat)(s:Src)(conds:Tms)(elt:Tm):ev cl t (.comp k caps s conds elt) ε σ=kC1 cl t k caps conds elt ε (evW cl s ε σ):=by
 rw[ev];cases evW cl s ε σ with
 |ok w σ =>
  show(compL (compF cl k caps conds elt ε) w.guard w.items σ).bind _=kC2 t (compL (compF cl k caps conds elt ε) w.guard w.items σ)
  cases compL (compF cl k caps conds elt ε) w.guard w.items σ<;>rfl
 |exc c σ=>rfl
 |stuck=>rfl
@[simp] theorem kC1_ok(t:Bool)(k:Nat)(caps:List Nat)(conds:Tms)(elt:Tm)(w:Walk):kC1 cl t k caps conds elt ε (.ok w σ)=kC2 t (compL (compF cl k caps conds elt ε) w.guard w.items σ):=rfl
@[simp] theorem kC2_ok(t:Bool)(ys:List R):kC2 t (.ok ys σ)=truR t (.ref σ.length) (σ++[mkLst ys]):=rfl
noncomputable def kSome:Res R->Res (Option R)
 | .ok y σ=>.ok (some y) σ
 | .exc c σ=>.exc c σ
 | .stuck=>.stuck
@[simp] theorem kSome_ok(y:R):kSome (.ok y σ) = .ok (some y) σ:=rfl
noncomputable def turnN(cl:CallH)(caps:List Nat)(elt:Tm)(ε:Env)(σ:Store):Option (List (Option R))->Res (Option R)
 |some bs=>kSome (ev cl false elt (bs++capsE ε caps) σ)
 |none=>.stuck
@[simp] theorem compF_nil(k:Nat)(caps:List Nat)(elt:Tm)(x:R):compF cl k caps .nil elt ε x σ=turnN cl caps elt ε σ (bindC k x):=by
 unfold compF turnC
 cases bindC k x with
 |none=>rfl
 |some bs =>
  simp only[evC,bind_ok,if_true,turnN]
  cases ev cl false elt (bs++capsE ε caps) σ<;>rfl
@[simp] theorem turnN_some(caps:List Nat)(elt:Tm)(bs:List (Option R)):turnN cl caps elt ε σ (some bs)=kSome (ev cl false elt (bs++capsE ε caps) σ):=rfl
@[simp] theorem capsE_nil:capsE ε []=[]:=rfl
@[simp] theorem capsE_cons(i:Nat)(r:List Nat):capsE ε (i::r)=(ε[i]?).getD none::capsE ε r:=rfl
@[simp] theorem bindC_one(x:R):bindC 1 x=some [some x]:=rfl
@[simp] theorem bindC_two(x y:G):bindC 2 (.g (.tup [x,y]))=some [some (.g x),some (.g y)]:=rfl
noncomputable def kCond(cl:CallH)(elt:Tm)(ε:Env):Res R->Res (Option R)
 | .ok (.g (.bl true)) σ=>kSome (ev cl false elt ε σ)
 | .ok (.g (.bl false)) σ=>.ok none σ
 | .ok _ _=>.stuck
 | .exc c σ=>.exc c σ
 | .stuck=>.stuck
noncomputable def turnO(cl:CallH)(caps:List Nat)(c elt:Tm)(ε:Env)(σ:Store):Option (List (Option R))->Res (Option R)
 |some bs=>kCond cl elt (bs++capsE ε caps) (ev cl true c (bs++capsE ε caps) σ)
 |none=>.stuck
@[simp] theorem turnO_some(caps:List Nat)(c elt:Tm)(bs:List (Option R)):turnO cl caps c elt ε σ (some bs)=kCond cl elt (bs++capsE ε caps) (ev cl true c (bs++capsE ε caps) σ):=rfl
@[simp] theorem compF_one(k:Nat)(caps:List Nat)(c elt:Tm)(x:R):compF cl k caps (.cons c .nil) elt ε x σ=turnO cl caps c elt ε σ (bindC k x):=by
 unfold compF turnC
 cases bindC k x with
 |none=>rfl
 |some bs =>
  simp only[turnO]
  rw[evC]
  cases ev cl true c (bs++capsE ε caps) σ with
  |ok r σ=>cases r with
   |g z=>cases z with
    |bl d=>cases d with
     |true =>
      simp only[bind_ok,evC,if_true]
      show _=kSome (ev cl false elt (bs++capsE ε caps) σ)
      cases ev cl false elt (bs++capsE ε caps) σ<;>rfl
     |false=>rfl
    |_=>rfl
   |_=>rfl
  |exc c σ=>rfl
  |stuck=>rfl
@[simp] theorem kCond_t(elt:Tm):kCond cl elt ε (.ok (.g (.bl true)) σ)=kSome (ev cl false elt ε σ):=rfl
@[simp] theorem kCond_f(elt:Tm):kCond cl elt ε (.ok (.g (.bl false)) σ) = .ok none σ:=rfl
theorem compL_map{α:Type}{f:R->Store->Res (Option R)}{w:Option (Nat × Cell)}(a b:α->R){σ:Store}(hw:intact w σ=true):∀ (xs:List α),(∀ x∈xs,f (a x) σ = .ok (some (b x)) σ)->compL f w (xs.map a) σ = .ok (xs.map b) σ
 | [],_=>by simp[compL,hw]
 |x::r,h=>by
  simp only[List.map_cons,compL,hw,if_true]
  rw[h x List.mem_cons_self,bind_ok,compL_map a b hw r fun y hy=>h y (List.mem_cons_of_mem _ hy)]
  rfl
theorem compL_filter{α:Type}{f:R->Store->Res (Option R)}{w:Option (Nat × Cell)}(a b:α->R)(p:α->Bool){σ:Store}(hw:intact w σ=true):∀ (xs:List α),(∀ x∈xs,f (a x) σ = .ok (if p x then some (b x) else none) σ)->compL f w (xs.map a) σ = .ok ((xs.filter p).map b) σ
 | [],_=>by simp[compL,hw]
 |x::r,h=>by
  simp only[List.map_cons,compL,hw,if_true]
  rw[h x List.mem_cons_self,bind_ok,compL_filter a b p hw r fun y hy=>h y (List.mem_cons_of_mem _ hy)]
  cases hp:p x<;>simp[hp]
theorem allG_map(l:List G):allG (l.map R.g)=some l:=by
 induction l with
 |nil=>rfl
 |cons x r ih=>simp[allG,ih]
theorem mkLst_map{α:Type}(f:α->G)(l:List α):mkLst (l.map fun x=>R.g (f x)) = .lst (l.map f):=by
 have:=allG_map (l.map f)
 rw[List.map_map] at this
 simp only[mkLst]
 rw[show(l.map fun x=>R.g (f x))=l.map (R.g ∘ f) from rfl,this]
theorem mkLst_nil:mkLst [] = .lst []:=rfl
noncomputable def kSet(ε:Env)(i:Nat):Res R->Res Out
 | .ok r σ=>ofE (setSlot ε i r) fun ε1=>.ok (.next ε1) σ
 | .exc c σ=>.exc c σ
 | .stuck=>.stuck
@[simp] theorem evS_set(i:Nat)(e:Tm):evS cl W (.set i e) ε σ=kSet ε i (ev cl false e ε σ):=by rw[evS];cases ev cl false e ε σ<;>rfl
@[simp] theorem kSet_ok(i:Nat)(r:R):kSet ε i (.ok r σ)=ofE (setSlot ε i r) fun ε1=>.ok (.next ε1) σ:=rfl
noncomputable def kUnp(ε:Env)(is:List Nat):Res R->Res Out
 | .ok r σ=>(match parts r with
  |some rs=>ofE (setSlots is rs ε) fun ε1=>.ok (.next ε1) σ
  |none=>.stuck)
 | .exc c σ=>.exc c σ
 | .stuck=>.stuck
@[simp] theorem evS_unpack(is:List Nat)(e:Tm):evS cl W (.unpack is e) ε σ=kUnp ε is (ev cl false e ε σ):=by rw[evS];cases ev cl false e ε σ<;>rfl
@[simp] theorem kUnp_tup(is:List Nat)(xs:List G):kUnp ε is (.ok (.g (.tup xs)) σ)=ofE (setSlots is (xs.map .g) ε) fun ε1=>.ok (.next ε1) σ:=rfl
@[simp] theorem kUnp_tr(is:List Nat)(xs:List R):kUnp ε is (.ok (.tr xs) σ)=ofE (setSlots is xs ε) fun ε1=>.ok (.next ε1) σ:=rfl
@[simp] theorem ofE_some(ε1:Env)(f:Env->Res Out):ofE (some ε1) f=f ε1:=rfl
noncomputable def kPut3(x z:R)(ε:Env):Res R->Res Out
 | .ok y σ=>(match putAt x y z σ with
  |some σ4=>.ok (.next ε) σ4
  |none=>.stuck)
 | .exc c σ=>.exc c σ
 | .stuck=>.stuck
noncomputable def kPut2(cl:CallH)(i:Tm)(z:R)(ε:Env):Res R->Res Out
 | .ok x σ=>kPut3 x z ε (ev cl false i ε σ)
 | .exc c σ=>.exc c σ
 | .stuck=>.stuck
noncomputable def kPut1(cl:CallH)(a i:Tm)(ε:Env):Res R->Res Out
 | .ok z σ=>kPut2 cl i z ε (ev cl false a ε σ)
 | .exc c σ=>.exc c σ
 | .stuck=>.stuck
@[simp] theorem evS_setIdx(a i v:Tm):evS cl W (.setIdx a i v) ε σ=kPut1 cl a i ε (ev cl false v ε σ):=by
 rw[evS];cases ev cl false v ε σ with
 |ok z σ =>
  show(ev cl false a ε σ).bind _=kPut2 cl i z ε (ev cl false a ε σ)
  cases ev cl false a ε σ with
  |ok x σ=>show(ev cl false i ε σ).bind _=kPut3 x z ε (ev cl false i ε σ);cases ev cl false i ε σ<;>rfl
  |exc c σ=>rfl
  |stuck=>rfl
 |exc c σ=>rfl
 |stuck=>rfl
@[simp] theorem kPut1_ok(a i:Tm)(z:R):kPut1 cl a i ε (.ok z σ)=kPut2 cl i z ε (ev cl false a ε σ):=rfl
@[simp] theorem kPut2_ok(i:Tm)(z x:R):kPut2 cl i z ε (.ok x σ)=kPut3 x z ε (ev cl false i ε σ):=rfl
theorem kPut3_lst{k:Nat}{xs:List G}{i:Int}{v:G}{j:Nat}(h:σ[k]?=some (.lst xs))(hi:ixOf xs.length i=some j):kPut3 (.ref k) (.g v) ε (.ok (.g (.int i)) σ) = .ok (.next ε) (σ.set k (.lst (xs.set j v))):=by
 simp[kPut3,putAt,h,hi]
theorem kPut3_dct{k:Nat}{xs:List (G × G)}{i v:G}(h:σ[k]?=some (.dct xs))(hi:isKey i=true)(hl:xs.length<big):kPut3 (.ref k) (.g v) ε (.ok (.g i) σ) = .ok (.next ε) (σ.set k (.dct (dput xs i v))):=by
 cases i<;>simp_all [kPut3,putAt,isKey]
noncomputable def kExpr(ε:Env):Res R->Res Out
 | .ok _ σ=>.ok (.next ε) σ
 | .exc c σ=>.exc c σ
 | .stuck=>.stuck
@[simp] theorem evS_expr(e:Tm):evS cl W (.expr e) ε σ=kExpr ε (ev cl false e ε σ):=by rw[evS];cases ev cl false e ε σ<;>rfl
@[simp] theorem kExpr_ok(r:R):kExpr ε (.ok r σ) = .ok (.next ε) σ:=rfl
noncomputable def kRet:Res R->Res Out
 | .ok r σ=>.ok (.ret r) σ
 | .exc c σ=>.exc c σ
 | .stuck=>.stuck
@[simp] theorem evS_ret(e:Tm):evS cl W (.ret e) ε σ=kRet (ev cl false e ε σ):=by rw[evS];cases ev cl false e ε σ<;>rfl
@[simp] theorem kRet_ok(r:R):kRet (.ok r σ) = .ok (.ret r) σ:=rfl
@[simp] theorem evS_retN:evS cl W .retN ε σ = .ok (.ret (.g .non)) σ:=by rw[evS]
noncomputable def kIte(cl:CallH)(W:Nat)(a b:Blk)(ε:Env):Res R->Res Out
 | .ok (.g (.bl true)) σ=>evB cl W a ε σ
 | .ok (.g (.bl false)) σ=>evB cl W b ε σ
 | .ok _ _=>.stuck
 | .exc c σ=>.exc c σ
 | .stuck=>.stuck
@[simp] theorem evS_ite(c:Tm)(a b:Blk):evS cl W (.ite c a b) ε σ=kIte cl W a b ε (ev cl true c ε σ):=by
 rw[evS];cases ev cl true c ε σ with
 |ok r σ=>cases r with
  |g x=>cases x with
   |bl c=>cases c<;>rfl
   |_=>rfl
  |_=>rfl
 |exc c σ=>rfl
 |stuck=>rfl
@[simp] theorem kIte_t(a b:Blk):kIte cl W a b ε (.ok (.g (.bl true)) σ)=evB cl W a ε σ:=rfl
@[simp] theorem kIte_f(a b:Blk):kIte cl W a b ε (.ok (.g (.bl false)) σ)=evB cl W b ε σ:=rfl
theorem kIte_b(a b:Blk)(c:Bool):kIte cl W a b ε (.ok (.g (.bl c)) σ)=if c=true then evB cl W a ε σ else evB cl W b ε σ:=by cases c<;>rfl
noncomputable def kFor(cl:CallH)(W:Nat)(tg:List Nat)(b:Blk)(ε:Env):Res Walk->Res Out
 | .ok w σ=>forW tg (evB cl W b) w ε σ
 | .exc c σ=>.exc c σ
 | .stuck=>.stuck
@[simp] theorem evS_for(tg:List Nat)(s:Src)(b:Blk):evS cl W (.forS tg s b) ε σ=kFor cl W tg b ε (evW cl s ε σ):=by rw[evS];cases evW cl s ε σ<;>rfl
@[simp] theorem kFor_ok(tg:List Nat)(b:Blk)(w:Walk):kFor cl W tg b ε (.ok w σ)=forW tg (evB cl W b) w ε σ:=rfl
@[simp] theorem forW_none(tg:List Nat)(body:Env->Store->Res Out)(xs:List R):forW tg body ⟨xs,none⟩ ε σ=forL tg body none xs ε σ:=rfl
@[simp] theorem forW_lst(tg:List Nat)(body:Env->Store->Res Out)(xs:List R)(k:Nat)(l:List G):forW tg body ⟨xs,some (k,.lst l)⟩ ε σ=forL tg body (some (k,.lst l)) xs ε σ:=rfl
@[simp] theorem forW_rdl(tg:List Nat)(body:Env->Store->Res Out)(xs:List R)(k:Nat)(l:List G):forW tg body ⟨xs,some (k,.rdl l)⟩ ε σ=forL tg body (some (k,.rdl l)) xs ε σ:=rfl
@[simp] theorem forW_rdd(tg:List Nat)(body:Env->Store->Res Out)(xs:List R)(k:Nat)(l:List (G × G)):forW tg body ⟨xs,some (k,.rdd l)⟩ ε σ=forL tg body (some (k,.rdd l)) xs ε σ:=rfl
@[simp] theorem forW_dct(tg:List Nat)(body:Env->Store->Res Out)(xs:List R)(k:Nat)(l:List (G × G)):forW tg body ⟨xs,some (k,.dct l)⟩ ε σ=thaw k l (forL tg body (some (k,.rdd l)) xs ε (σ.set k (.rdd l))):=rfl
@[simp] theorem thaw_ok(k:Nat)(l:List (G × G))(ε:Env)(h:σ[k]?=some (.rdd l)):thaw k l (.ok (.next ε) σ) = .ok (.next ε) (σ.set k (.dct l)):=if_pos h
theorem evS_while(c:Tm)(b:Blk):evS cl W (.whileS c b) ε σ=whileL (ev cl true c) (evB cl W b) W ε σ:=by rw[evS]
@[simp] theorem evS_pass:evS cl W .pass ε σ = .ok (.next ε) σ:=by rw[evS]
@[simp] theorem evS_brk:evS cl W .brk ε σ = .ok (.brk ε) σ:=by rw[evS]
@[simp] theorem evS_cont:evS cl W .cont ε σ = .ok (.cont ε) σ:=by rw[evS]
noncomputable def kFT(tg:List Nat)(body:Env->Store->Res Out)(w:Option (Nat × Cell))(r:List R):Res Out->Res Out
 | .ok (.next ε) σ=>forL tg body w r ε σ
 | .ok (.cont ε) σ=>forL tg body w r ε σ
 | .ok (.brk ε) σ=>.ok (.next ε) σ
 | .ok (.ret v) σ=>.ok (.ret v) σ
 | .ok (.exc c) σ=>.ok (.exc c) σ
 | .exc c σ=>.exc c σ
 | .stuck=>.stuck
noncomputable def kFB(tg:List Nat)(body:Env->Store->Res Out)(w:Option (Nat × Cell))(r:List R)(σ:Store):Option Env->Res Out
 |some ε=>kFT tg body w r (body ε σ)
 |none=>.stuck
theorem forL_nil(tg:List Nat)(body:Env->Store->Res Out)(w:Option (Nat × Cell))(h:intact w σ=true):forL tg body w [] ε σ = .ok (.next ε) σ:=by simp only[forL,h,if_true]
theorem forL_cons(tg:List Nat)(body:Env->Store->Res Out)(w:Option (Nat × Cell))(x:R)(r:List R)(h:intact w σ=true):forL tg body w (x::r) ε σ=kFB tg body w r σ (bindTg tg x ε):=by
 simp only[forL,h,if_true]
 cases bindTg tg x ε with
 |none=>rfl
 |some ε1 =>
  show(body ε1 σ).bind _=kFT tg body w r (body ε1 σ)
  cases body ε1 σ with
  |ok o σ=>cases o<;>rfl
  |exc c σ=>rfl
  |stuck=>rfl
@[simp] theorem kFB_some(tg:List Nat)(body:Env->Store->Res Out)(w:Option (Nat × Cell))(r:List R)(ε1:Env):kFB tg body w r σ (some ε1)=kFT tg body w r (body ε1 σ):=rfl
@[simp] theorem kFT_next(tg:List Nat)(body:Env->Store->Res Out)(w:Option (Nat × Cell))(r:List R):kFT tg body w r (.ok (.next ε) σ)=forL tg body w r ε σ:=rfl
@[simp] theorem kFT_cont(tg:List Nat)(body:Env->Store->Res Out)(w:Option (Nat × Cell))(r:List R):kFT tg body w r (.ok (.cont ε) σ)=forL tg body w r ε σ:=rfl
@[simp] theorem kFT_brk(tg:List Nat)(body:Env->Store->Res Out)(w:Option (Nat × Cell))(r:List R):kFT tg body w r (.ok (.brk ε) σ) = .ok (.next ε) σ:=rfl
@[simp] theorem kFT_ret(tg:List Nat)(body:Env->Store->Res Out)(w:Option (Nat × Cell))(r:List R)(v:R):kFT tg body w r (.ok (.ret v) σ) = .ok (.ret v) σ:=rfl
@[simp] theorem kFT_exc(tg:List Nat)(body:Env->Store->Res Out)(w:Option (Nat × Cell))(r:List R)(c:String):kFT tg body w r (.ok (.exc c) σ) = .ok (.exc c) σ:=rfl
noncomputable def kRs(c:String):Res R->Res Out
 | .ok _ σ=>.ok (.exc c) σ
 | .exc c σ=>.exc c σ
 | .stuck=>.stuck
@[simp] theorem evS_raise(c:String)(a:Tm):evS cl W (.raise c a) ε σ=kRs c (ev cl false a ε σ):=by rw[evS];cases ev cl false a ε σ<;>rfl
@[simp] theorem kRs_ok(c:String)(r:R):kRs c (.ok r σ) = .ok (.exc c) σ:=rfl
noncomputable def kXa(cl:CallH)(tg:Option (Option Nat))(ε:Env)(f:String):Res (List R)->Res Out
 | .ok xs σ=>kX tg ε (cl f xs σ)
 | .exc c σ=>.exc c σ
 | .stuck=>.stuck
@[simp] theorem evS_callX(tg:Option (Option Nat))(f:String)(as:Tms):evS cl W (.callX tg f as) ε σ=kXa cl tg ε f (evs cl as ε σ):=by rw[evS];cases evs cl as ε σ<;>rfl
@[simp] theorem kXa_ok(tg:Option (Option Nat))(f:String)(xs:List R):kXa cl tg ε f (.ok xs σ)=kX tg ε (cl f xs σ):=rfl
@[simp] theorem kX_none(r:R):kX none ε (.ok r σ) = .ok (.next ε) σ:=rfl
@[simp] theorem kX_ret(r:R):kX (some none) ε (.ok r σ) = .ok (.ret r) σ:=rfl
@[simp] theorem kX_set(i:Nat)(r:R):kX (some (some i)) ε (.ok r σ)=ofE (setSlot ε i r) fun ε1=>.ok (.next ε1) σ:=rfl
@[simp] theorem kX_exc(tg:Option (Option Nat))(c:String):kX tg ε (.exc c σ) = .ok (.exc c) σ:=rfl
noncomputable def kTa(cl:CallH)(tg:Option Nat)(c:String)(e i:Nat)(cs:List String)(ε:Env)(f:String):Res (List R)->Res Out
 | .ok xs σ=>kTM tg c e i cs ε (cl f xs σ)
 | .exc c σ=>.exc c σ
 | .stuck=>.stuck
@[simp] theorem evS_tryM(tg:Option Nat)(f:String)(as:Tms)(c:String)(e i:Nat)(cs:List String):evS cl W (.tryM tg f as c e i cs) ε σ=kTa cl tg c e i cs ε f (evs cl as ε σ):=by rw[evS];cases evs cl as ε σ<;>rfl
@[simp] theorem kTa_ok(tg:Option Nat)(c:String)(e i:Nat)(cs:List String)(f:String)(xs:List R):kTa cl tg c e i cs ε f (.ok xs σ)=kTM tg c e i cs ε (cl f xs σ):=rfl
@[simp] theorem kTM_none(c:String)(e i:Nat)(cs:List String)(r:R):kTM none c e i cs ε (.ok r σ) = .ok (.next ε) σ:=rfl
@[simp] theorem kTM_set(j:Nat)(c:String)(e i:Nat)(cs:List String)(r:R):kTM (some j) c e i cs ε (.ok r σ)=ofE (setSlot ε j r) fun ε1=>.ok (.next ε1) σ:=rfl
theorem kTM_exc(tg:Option Nat){c x:String}(e i:Nat)(cs:List String)(h:isA x c=true):kTM tg c e i cs ε (.exc x σ)=ofE (setSlot ε i (.ref σ.length)) fun ε1=>.ok (.next (ε1.set e none)) (σ++[.lst (cs.map fun d=>.bl (isA x d))]):=by simp[kTM,h]
noncomputable def kTR(cl:CallH)(c d:String)(a:Tm)(ε:Env):Res R->Res Out
 | .ok _ σ=>.ok (.next ε) σ
 | .exc _ _=>.stuck
 | .stuck=>.stuck
noncomputable def kTb(cl:CallH)(c d:String)(a:Tm)(ε:Env)(f:String):Res (List R)->Res Out
 | .ok xs σ=>kTR cl c d a ε (cl f xs σ)
 | .exc c σ=>.exc c σ
 | .stuck=>.stuck
@[simp] theorem evS_tryR(f:String)(as:Tms)(c d:String)(a:Tm):evS cl W (.tryR f as c d a) ε σ=kTb cl c d a ε f (evs cl as ε σ):=by
 rw[evS];cases evs cl as ε σ with
 |ok xs σ =>
  show _=kTR cl c d a ε (cl f xs σ)
  rw[bind_ok]
  cases cl f xs σ with
  |ok r σ=>rfl
  |exc x σ=>rfl
  |stuck=>rfl
 |exc c σ=>rfl
 |stuck=>rfl
@[simp] theorem kTb_ok(c d:String)(a:Tm)(f:String)(xs:List R):kTb cl c d a ε f (.ok xs σ)=kTR cl c d a ε (cl f xs σ):=rfl
@[simp] theorem kTR_ok(c d:String)(a:Tm)(r:R):kTR cl c d a ε (.ok r σ) = .ok (.next ε) σ:=rfl
variable {P:List Fn}
theorem run_call{f:String}{d:Fn}(h:look P f=some d)(n:Nat)(as:List R)(σ:Store)(hl:as.length=d.np) :
 run P W (n+1) f as σ=fin σ.length (evB (run P W n) W d.body (as.map some++List.replicate (d.nl-d.np) none) σ):=by
 simp only[run,h,hl,if_true]
@[simp] theorem fin_g(n:Nat)(x:G):fin n (.ok (.ret (.g x)) σ) = .ok (.g x) (σ.take n):=by
 simp[fin,refsGe,cellsAt,ren]
@[simp] theorem fin_exc(n:Nat)(c:String):fin n (.ok (.exc c) σ) = .exc c (σ.take n):=rfl
@[simp] theorem fin_next(n:Nat):fin n (.ok (.next ε) σ) = .ok (.g .non) (σ.take n):=rfl
theorem fin_new{n k:Nat}{c:Cell}(hk:n<=k)(h:σ[k]?=some c)(hf:flatCell c=true):fin n (.ok (.ret (.ref k)) σ) = .ok (.ref n) (σ.take n++[c]):=by
 have:¬ k<n:=by omega
 simp[fin,refsGe,cellsAt,ren,this,h,hf]
theorem fin_old{n k:Nat}(hk:k<n):fin n (.ok (.ret (.ref k)) σ) = .ok (.ref k) (σ.take n):=by
 simp[fin,refsGe,cellsAt,ren,hk]
theorem take_app(σ g:Store):(σ++g).take σ.length=σ:=by simp
theorem take_self(σ:Store):σ.take σ.length=σ:=by simp
@[simp] theorem p_add(i j:Int):prim .add [.g (.int i),.g (.int j)] σ = .ok (.g (.int (i+j))) σ:=rfl
theorem p_addS(x y:List Nat)(h:x.length+y.length<=big):prim .add [.g (.str x),.g (.str y)] σ = .ok (.g (.str (x++y))) σ:=by simp[prim,pAdd,h,okG]
theorem p_addT(x y:List G)(h:x.length+y.length<=big):prim .add [.g (.tup x),.g (.tup y)] σ = .ok (.g (.tup (x++y))) σ:=by simp[prim,pAdd,h,okG]
theorem p_addL{i j:Nat}{x y:List G}(hi:σ[i]?=some (.lst x))(hj:σ[j]?=some (.lst y))(h:x.length+y.length<=big):prim .add [.ref i,.ref j] σ = .ok (.ref σ.length) (σ++[.lst (x++y)]):=by simp[prim,pAdd,hi,hj,h]
@[simp] theorem p_sub(i j:Int):prim .sub [.g (.int i),.g (.int j)] σ = .ok (.g (.int (i-j))) σ:=rfl
theorem p_mul{i j:Int}(h:(-(2 ^ 64)<i/\i<2 ^ 64)\/(-(2 ^ 64)<j/\j<2 ^ 64)):prim .mul [.g (.int i),.g (.int j)] σ = .ok (.g (.int (i*j))) σ:=by
 simp only[prim,pMul,if_pos h,okG]
theorem p_fdiv{i j:Int}(h:0<j/\j<1073741824):prim .fdiv [.g (.int i),.g (.int j)] σ = .ok (.g (.int (i / j))) σ:=by
 simp only[prim,pFdiv,if_pos h,okG]
theorem p_mod{i j:Int}(h:0<j):prim .mod [.g (.int i),.g (.int j)] σ = .ok (.g (.int (i % j))) σ:=by
 simp only[prim,pMod,if_pos h,okG]
@[simp] theorem p_eq{x:G}(y:G)(h:shal x=true):prim .eq [.g x,.g y] σ = .ok (.g (.bl (peq x y))) σ:=by simp[prim,pEq,reqv,h,okG]
@[simp] theorem p_ne{x:G}(y:G)(h:shal x=true):prim .ne [.g x,.g y] σ = .ok (.g (.bl (!peq x y))) σ:=by simp[prim,pNe,reqv,h,okG]
@[simp] theorem p_lt(i j:Int):prim .lt [.g (.int i),.g (.int j)] σ = .ok (.g (.bl (decide (i<j)))) σ:=rfl
@[simp] theorem p_le(i j:Int):prim .le [.g (.int i),.g (.int j)] σ = .ok (.g (.bl (decide (i<=j)))) σ:=rfl
@[simp] theorem p_gt(i j:Int):prim .gt [.g (.int i),.g (.int j)] σ = .ok (.g (.bl (decide (j<i)))) σ:=rfl
@[simp] theorem p_ge(i j:Int):prim .ge [.g (.int i),.g (.int j)] σ = .ok (.g (.bl (decide (j<=i)))) σ:=rfl
@[simp] theorem p_isN(x:R):prim .isN [x,.g .non] σ = .ok (.g (.bl (isNon x))) σ:=rfl
@[simp] theorem p_notN(x:R):prim .notN [x,.g .non] σ = .ok (.g (.bl (!isNon x))) σ:=rfl
theorem p_in{k:Nat}{xs:List G}{x:G}(h:σ[k]?=some (.lst xs))(hs:xs.all shal=true):prim .inn [.g x,.ref k] σ = .ok (.g (.bl (xs.any fun y=>peq y x))) σ:=by cases x<;>simp[prim,pIn,hasIn,h,hs,okG]
theorem p_notin{k:Nat}{xs:List G}{x:G}(h:σ[k]?=some (.lst xs))(hs:xs.all shal=true):prim .notin [.g x,.ref k] σ = .ok (.g (.bl (!xs.any fun y=>peq y x))) σ:=by
 cases x<;>simp[prim,pNotIn,hasIn,h,hs,okG]
theorem p_inD{k:Nat}{xs:List (G × G)}{x:G}(h:σ[k]?=some (.dct xs))(hk:isKey x=true):prim .inn [.g x,.ref k] σ = .ok (.g (.bl (dget xs x).isSome)) σ:=by cases x<;>simp_all [prim,pIn,hasIn,okG,isKey]
theorem p_notinD{k:Nat}{xs:List (G × G)}{x:G}(h:σ[k]?=some (.dct xs))(hk:isKey x=true):prim .notin [.g x,.ref k] σ = .ok (.g (.bl (!(dget xs x).isSome))) σ:=by cases x<;>simp_all [prim,pNotIn,hasIn,okG,isKey]
@[simp] theorem p_idxT(xs:List G)(i:Int):prim .idx [.g (.tup xs),.g (.int i)] σ=ofO (at? xs i) fun x=>.ok (.g x) σ:=rfl
@[simp] theorem p_idxS(xs:List Nat)(i:Int):prim .idx [.g (.str xs),.g (.int i)] σ=ofO (at? xs i) fun x=>.ok (.g (.str [x])) σ:=rfl
@[simp] theorem p_idxR(xs:List R)(i:Int):prim .idx [.tr xs,.g (.int i)] σ=ofO (at? xs i) fun x=>.ok x σ:=rfl
theorem p_idxL{k:Nat}{xs:List G}(h:σ[k]?=some (.lst xs))(i:Int):prim .idx [.ref k,.g (.int i)] σ=ofO (at? xs i) fun x=>.ok (.g x) σ:=by simp[prim,pIdx,h,okG]
theorem p_idxB{k:Nat}{xs:List G}(h:σ[k]?=some (.rdl xs))(i:Int):prim .idx [.ref k,.g (.int i)] σ=ofO (at? xs i) fun x=>.ok (.g x) σ:=by simp[prim,pIdx,h,okG]
theorem p_idxQ{k:Nat}{xs:List R}(h:σ[k]?=some (.rls xs))(i:Int):prim .idx [.ref k,.g (.int i)] σ=ofO (at? xs i) fun x=>.ok x σ:=by simp[prim,pIdx,h]
theorem p_idxD{k:Nat}{xs:List (G × G)}{i:G}(h:σ[k]?=some (.dct xs))(hk:isKey i=true):prim .idx [.ref k,.g i] σ=ofO (dget xs i) fun x=>.ok (.g x) σ:=by cases i<;>simp_all [prim,pIdx,okG,isKey]
theorem p_len{x:R}{n:Nat}(h:lenOf σ x=some n):prim .len [x] σ = .ok (.g (.int n)) σ:=by simp[prim,pLen,h,ofO,okG]
theorem p_tup{xs:List R}(h:xs.length<=1000):prim .tup xs σ = .ok (mkTup xs) σ:=by
 show pTup xs σ=_
 unfold pTup
 rw[if_pos h]
theorem p_lst{xs:List R}(h:xs.length<=1000):prim .lst xs σ = .ok (.ref σ.length) (σ++[mkLst xs]):=by
 show pLst xs σ=_
 unfold pLst
 rw[if_pos h]
@[simp] theorem p_dct0:prim .dct0 [] σ = .ok (.ref σ.length) (σ++[.dct []]):=rfl
theorem p_tupleL{k:Nat}{xs:List G}(h:σ[k]?=some (.lst xs)):prim .tupleOf [.ref k] σ = .ok (.g (.tup xs)) σ:=by simp[prim,pTupleOf,h,okG]
@[simp] theorem p_tupleT(xs:List G):prim .tupleOf [.g (.tup xs)] σ = .ok (.g (.tup xs)) σ:=rfl
@[simp] theorem p_listT(xs:List G):prim .listOf [.g (.tup xs)] σ = .ok (.ref σ.length) (σ++[.lst xs]):=rfl
theorem p_listL{k:Nat}{xs:List G}(h:σ[k]?=some (.lst xs)):prim .listOf [.ref k] σ = .ok (.ref σ.length) (σ++[.lst xs]):=by simp[prim,pListOf,h]
theorem p_dictOf{k:Nat}{xs:List (G × G)}(h:σ[k]?=some (.dct xs)):prim .dictOf [.ref k] σ = .ok (.ref σ.length) (σ++[.dct xs]):=by simp[prim,pDictOf,h]
theorem p_get1{k:Nat}{xs:List (G × G)}{i:G}(h:σ[k]?=some (.dct xs))(hk:isKey i=true):prim .get1 [.ref k,.g i] σ = .ok (.g ((dget xs i).getD .non)) σ:=by simp[prim,pGet1,h,hk,okG]
theorem p_get2{k:Nat}{xs:List (G × G)}{i d:G}(h:σ[k]?=some (.dct xs))(hk:isKey i=true):prim .get2 [.ref k,.g i,.g d] σ = .ok (.g ((dget xs i).getD d)) σ:=by simp[prim,pGet2,h,hk,okG]
theorem p_setdefY{k:Nat}{xs:List (G × G)}{i d v:G}(h:σ[k]?=some (.dct xs))(hk:isKey i=true)(hl:xs.length<big)(hv:dget xs i=some v):prim .setdef [.ref k,.g i,.g d] σ = .ok (.g v) σ:=by simp[prim,pSetdef,h,hk,hl,hv,okG]
theorem p_setdefN{k:Nat}{xs:List (G × G)}{i d:G}(h:σ[k]?=some (.dct xs))(hk:isKey i=true)(hl:xs.length<big)(hv:dget xs i=none):prim .setdef [.ref k,.g i,.g d] σ = .ok (.g d) (σ.set k (.dct (dput xs i d))):=by simp[prim,pSetdef,h,hk,hl,hv]
theorem p_listD{k:Nat}{xs:List (G × G)}(h:σ[k]?=some (.dct xs))(hi:intKeys xs=true):prim .listOf [.ref k] σ = .ok (.ref σ.length) (σ++[.lst (xs.map fun p=>p.1)]):=by simp[prim,pListOf,h,hi]
theorem p_all{k:Nat}{xs:List G}{bs:List Bool}(h:σ[k]?=some (.lst xs))(hb:bools xs=some bs):prim .all [.ref k] σ = .ok (.g (.bl (bs.all id))) σ:=by simp[prim,pAll,h,hb,ofO,okG]
@[simp] theorem p_sliceT1(x:G)(r:List G):prim (.slice true false) [.g (.tup (x::r)),.g (.int 1)] σ = .ok (.g (.tup (cut (x::r) (some 1) none))) σ:=by
 have:cutIx (x::r).length 0 (some 1)≠0:=by simp[cutIx];omega
 simp only[prim,pSlice,bounds,ofO,this,false_and,if_false,okG]
theorem p_append{k:Nat}{xs:List G}{x:G}(h:σ[k]?=some (.lst xs))(hl:xs.length<big):prim .append [.ref k,.g x] σ = .ok (.g .non) (σ.set k (.lst (xs++[x]))):=by simp[prim,pAppend,h,hl]
theorem p_extend{k j:Nat}{xs ys:List G}(h:σ[k]?=some (.lst xs))(h2:σ[j]?=some (.lst ys))(hl:xs.length+ys.length<=big):prim .extend [.ref k,.ref j] σ = .ok (.g .non) (σ.set k (.lst (xs++ys))):=by simp[prim,pExtend,h,h2,hl]
theorem p_clearD{k:Nat}{xs:List (G × G)}(h:σ[k]?=some (.dct xs)):prim .clear [.ref k] σ = .ok (.g .non) (σ.set k (.dct [])):=by simp[prim,pClear,h]
theorem p_sum{k:Nat}{xs:List G}{is:List Int}(h:σ[k]?=some (.lst xs))(hi:intsOf xs=some is):prim .sum [.ref k] σ = .ok (.g (.int is.sum)) σ:=by simp[prim,pSum,h,hi,ofO,okG]
theorem p_isInst{x:R}{ts:List Ty}(t:Ty)(h:tyOf σ x=some ts):prim (.isInst t) [x] σ = .ok (.g (.bl (ts.contains t))) σ:=by simp[prim,pIsInst,h,ofO,okG]
theorem p_inB{k:Nat}{xs:List (G × G)}{x:G}(h:σ[k]?=some (.rdd xs))(hk:isKey x=true):prim .inn [.g x,.ref k] σ = .ok (.g (.bl (dget xs x).isSome)) σ:=by cases x<;>simp_all [prim,pIn,hasIn,okG,isKey]
theorem p_idxE{k:Nat}{xs:List (G × G)}{i:G}(h:σ[k]?=some (.rdd xs))(hk:isKey i=true):prim .idx [.ref k,.g i] σ=ofO (dget xs i) fun x=>.ok (.g x) σ:=by cases i<;>simp_all [prim,pIdx,okG,isKey]
theorem p_get2B{k:Nat}{xs:List (G × G)}{i d:G}(h:σ[k]?=some (.rdd xs))(hk:isKey i=true):prim .get2 [.ref k,.g i,.g d] σ = .ok (.g ((dget xs i).getD d)) σ:=by simp[prim,pGet2,h,hk,okG]
@[simp] theorem shal_non:shal .non=true:=(show shal .non=true from rfl).trans (Eq.symm (Eq.refl true))
@[simp] theorem shal_bl(b:Bool):shal (.bl b)=true:=(show shal (.bl b)=true from rfl).trans (Eq.symm (Eq.refl true))
@[simp] theorem shal_int(i:Int):shal (.int i)=true:=(show shal (.int i)=true from rfl).trans (Eq.symm (Eq.refl true))
@[simp] theorem shal_str(x:List Nat):shal (.str x)=true:=(show shal (.str x)=true from rfl).trans (Eq.symm (Eq.refl true))
@[simp] theorem isKey_int(i:Int):isKey (.int i)=true:=(show isKey (.int i)=true from rfl).trans (Eq.symm (Eq.refl true))
@[simp] theorem isKey_str(i:List Nat):isKey (.str i)=true:=(show isKey (.str i)=true from rfl).trans (Eq.symm (Eq.refl true))
end MP
namespace MP
inductive F where
 |gap (n:Int)|tie (w:List Nat) (ps:List F)
 deriving Inhabited
noncomputable abbrev sGap:List Nat:=[103,97,112]
noncomputable abbrev sTie:List Nat:=[116,105,101]
mutual
noncomputable def enc:F->G
 | .gap n=>.tup [.str sGap,.int n]
 | .tie w ps=>.tup [.str sTie,.str w,.tup (encs ps)]
noncomputable def encs:List F->List G
 | []=>[]
 |x::r=>enc x::encs r
end
theorem encs_map:∀ l,encs l=l.map enc
 | []=>rfl
 |x::r=>by simp[encs,encs_map r]
mutual
theorem enc_inj:∀ {a b:F},enc a=enc b->a=b
 | .gap n,.gap m,h=>by simp[enc] at h;rw[h]
 | .gap n,.tie w ps,h=>by simp[enc] at h
 | .tie w ps,.gap n,h=>by simp[enc] at h
 | .tie w ps,.tie v qs,h=>by
  simp[enc] at h
  rw[h.1,encs_inj h.2]
theorem encs_inj:∀ {a b:List F},encs a=encs b->a=b
 | [],[],_=>rfl
 | [],_::_,h=>by simp[encs] at h
 |_::_,[],h=>by simp[encs] at h
 |x::r,y::t,h=>by
  simp[encs] at h
  rw[enc_inj h.1,encs_inj h.2]
end
mutual
theorem peq_enc:∀ (a b:F),peq (enc a) (enc b)=decide (enc a=enc b)
 | .gap n,.gap m=>by by_cases h:n=m<;>simp[enc,peq,peqs,h]
 | .gap n,.tie w ps=>by simp[enc,peq,peqs]
 | .tie w ps,.gap n=>by simp[enc,peq,peqs]
 | .tie w ps,.tie v qs=>by
  have ih:=peqs_enc ps qs
  by_cases h:w=v<;>simp[enc,peq,peqs,h,ih]
theorem peqs_enc:∀ (a b:List F),peqs (encs a) (encs b)=decide (encs a=encs b)
 | [],[]=>by simp[encs,peqs]
 | [],_::_=>by simp[encs,peqs]
 |_::_,[]=>by simp[encs,peqs]
 |x::r,y::t=>by
  have h1:=peq_enc x y
  have h2:=peqs_enc r t
  simp[encs,peqs,h1,h2]
end
noncomputable abbrev Fg:=List (Int × F)
noncomputable def encD(m:Fg):List (G × G):=m.map fun p=>(.int p.1,enc p.2)
noncomputable def dval(m:Fg)(n:Int):Option F:=match m with
 | []=>none
 | (k,f)::r=>if k=n then some f else dval r n
noncomputable def dset:Fg->Int->F->Fg
 | [],n,f=>[(n,f)]
 | (k,g)::r,n,f=>if k=n then (k,f)::r else (k,g)::dset r n f
mutual
noncomputable def fill(m:Fg):F->F
 | .gap n=>(dval m n).getD (.gap n)
 | .tie w ps=>.tie w (fills m ps)
noncomputable def fills(m:Fg):List F->List F
 | []=>[]
 |x::r=>fill m x::fills m r
end
theorem fills_map(m):∀ l,fills m l=l.map (fill m)
 | []=>rfl
 |x::r=>by simp[fills,fills_map m r]
mutual
noncomputable def dep:F->Nat
 | .gap _=>1
 | .tie _ ps=>deps ps+1
noncomputable def deps:List F->Nat
 | []=>0
 |x::r=>max (dep x) (deps r)
end
theorem dep_pos:∀ f:F,1<=dep f
 | .gap _=>by simp[dep]
 | .tie _ _=>by simp[dep]
theorem dep_le{f:F}:∀ {ps:List F},f∈ps->dep f<=deps ps
 |x::r,h=>by
  rcases List.mem_cons.mp h with e|h
  ·subst e;simp only[deps];omega
  ·have:=dep_le h;simp only[deps];omega
theorem deps_le{n:Nat}:∀ {ps:List F},(∀ f∈ps,dep f<=n)->deps ps<=n
 | [],_=>by simp[deps]
 |x::r,h=>by
  have h1:=h x List.mem_cons_self
  have h2:=deps_le fun f hf=>h f (List.mem_cons_of_mem _ hf)
  simp only[deps];omega
mutual
theorem gdep_enc:∀ f:F,gdep (enc f)<=2*dep f
 | .gap n=>by simp[enc,gdep,gdeps,dep]
 | .tie w ps=>by
  have:=gdeps_encs ps
  simp only[enc,gdep,gdeps,dep];omega
theorem gdeps_encs:∀ ps:List F,gdeps (encs ps)<=2*deps ps
 | []=>by simp[encs,gdeps]
 |x::r=>by
  have h1:=gdep_enc x
  have h2:=gdeps_encs r
  simp only[encs,gdeps,deps];omega
end
theorem shal_enc{f:F}(h:dep f<=75):shal (enc f)=true:=by
 have:=gdep_enc f
 unfold shal
 exact decide_eq_true (by omega)
theorem dget_encD(m:Fg)(n:Int):dget (encD m) (.int n)=(dval m n).map enc:=by
 induction m with
 |nil=>rfl
 |cons p r ih =>
  obtain⟨k,f⟩:=p
  simp only[encD,List.map_cons,dget,dval] at ih ⊢
  by_cases h:k=n
  ·simp[h]
  ·simp[h,ih]
theorem dput_encD(m:Fg)(n:Int)(f:F):dput (encD m) (.int n) (enc f)=encD (dset m n f):=by
 induction m with
 |nil=>rfl
 |cons p r ih =>
  obtain⟨k,g⟩:=p
  simp only[encD,List.map_cons,dput,dset] at ih ⊢
  by_cases h:k=n
  ·simp[h,encD]
  ·simp[h,ih,encD]
theorem dset_len(m:Fg)(n:Int)(f:F):(dset m n f).length<=m.length+1:=by
 induction m with
 |nil=>simp[dset]
 |cons p r ih =>
  obtain⟨k,g⟩:=p
  simp only[dset]
  split<;>simp<;>omega
noncomputable def keys(m:Fg):List Int:=m.map (·.1)
theorem dval_some_mem{m:Fg}{n:Int}{f:F}(h:dval m n=some f):(n,f)∈m:=by
 induction m with
 |nil=>simp[dval] at h
 |cons p r ih =>
  obtain⟨k,g⟩:=p
  simp only[dval] at h
  split at h
  ·rename_i e;cases h;subst e;exact List.mem_cons_self
  ·exact List.mem_cons_of_mem _ (ih h)
theorem dset_mem{m:Fg}{n k:Int}{f g:F}(h:(k,g)∈dset m n f):(k,g)∈m\/(k=n/\g=f):=by
 induction m with
 |nil=>simp[dset] at h;exact .inr h
 |cons p r ih =>
  obtain⟨j,e⟩:=p
  simp only[dset] at h
  split at h
  ·rcases List.mem_cons.mp h with q|q
   ·cases q;rename_i z;exact .inr ⟨z,rfl⟩
   ·exact .inl (List.mem_cons_of_mem _ q)
  ·rcases List.mem_cons.mp h with q|q
   ·cases q;exact .inl List.mem_cons_self
   ·rcases ih q with z|z
    ·exact .inl (List.mem_cons_of_mem _ z)
    ·exact .inr z
theorem dset_keys_mem{m:Fg}{n k:Int}{f:F}(h:k∈keys (dset m n f)):k∈keys m\/k=n:=by
 obtain⟨p,hp,e⟩:=List.mem_map.mp h
 obtain⟨a,b⟩:=p
 rcases dset_mem hp with z|z
 ·exact .inl (List.mem_map.mpr ⟨_,z,e⟩)
 ·exact .inr (by rw[← e];exact z.1)
theorem dset_nodup{m:Fg}{n:Int}{f:F}(nd:(keys m).Nodup):(keys (dset m n f)).Nodup:=by
 induction m with
 |nil=>simp[dset,keys]
 |cons p r ih =>
  obtain⟨j,e⟩:=p
  simp only[keys,List.map_cons,List.nodup_cons] at nd
  simp only[dset]
  split
  ·simp only[keys,List.map_cons,List.nodup_cons];exact nd
  ·rename_i hj
   simp only[keys,List.map_cons,List.nodup_cons]
   refine⟨fun h => ?_,ih nd.2⟩
   rcases dset_keys_mem h with z|z
   ·exact nd.1 z
   ·exact hj z
theorem dval_dset(m:Fg)(n k:Int)(f:F):dval (dset m n f) k=if n=k then some f else dval m k:=by
 induction m with
 |nil=>simp[dset,dval]
 |cons p r ih =>
  obtain⟨j,e⟩:=p
  by_cases h:j=n
  ·subst h
   by_cases h2:j=k<;>simp[dset,dval,h2]
  ·by_cases h2:j=k
   ·subst h2
    simp[dset,dval,h,Ne.symm h]
   ·simp[dset,dval,h,h2,ih]
variable {P:List Fn}{W:Nat}
noncomputable def fn_is_gap:Fn:=⟨"is_gap",1,1,
 (.cons (.ret (.op .eq (.cons (.op .idx (.cons (.var 0) (.cons (.con (.int 0)) .nil))) (.cons (.con (.str [103,97,112])) .nil))))
 .nil)⟩
noncomputable def fn_filled:Fn:=⟨"filled",2,3,
 (.cons (.ite (.call "is_gap" (.cons (.var 0) .nil)) (.cons (.ret (.meth .get2 (.var 1) (.cons (.op .idx (.cons (.var 0) (.cons (.con (.int 1)) .nil))) (.cons (.var 0) .nil))))
 .nil) .nil)
 (.cons (.set 2 (.comp 1 [1] (.over (.op .idx (.cons (.var 0) (.cons (.con (.int 2)) .nil)))) .nil (.call "filled" (.cons (.var 0) (.cons (.var 1) .nil)))))
 (.cons (.ret (.op .tup (.cons (.con (.str [116,105,101])) (.cons (.op .idx (.cons (.var 0) (.cons (.con (.int 1)) .nil))) (.cons (.op .tupleOf (.cons (.var 2) .nil)) .nil)))))
 .nil)))⟩
theorem run_is_gap(h1:look P "is_gap"=some fn_is_gap){n:Nat}(f:F)(σ:Store) :
 run P W (n+1) "is_gap" [.g (enc f)] σ = .ok (.g (.bl (match f with | .gap _=>true|_=>false))) σ:=by
 rw[run_call h1 n _ _ rfl]
 cases f with
 |gap k=>simp[fn_is_gap,enc,at?,ixOf,peq]
 |tie w ps=>simp[fn_is_gap,enc,at?,ixOf,peq]
theorem run_filled(h1:look P "is_gap"=some fn_is_gap)(h2:look P "filled"=some fn_filled):∀ (n:Nat) (f:F) (m:Fg) (d:Nat) (σ:Store),dep f+1<=n->σ[d]?=some (.dct (encD m)) →
 run P W n "filled" [.g (enc f),.ref d] σ = .ok (.g (enc (fill m f))) σ
 |0,_,_,_,_,h,_=>by omega
 |n+1,f,m,d,σ,h,hd=>by
  have hdl:d<σ.length:=(List.getElem?_eq_some_iff.mp hd).1
  obtain⟨k,rfl⟩:∃ k,n=k+1:=⟨n-1,by cases f<;>simp only[dep] at h<;>omega⟩
  have ih:=run_filled h1 h2 (k+1)
  have e:=run_is_gap (W:=W) h1 (n:=k) f σ
  rw[run_call h2 _ _ _ rfl]
  generalize run P W (k+1)=cl at ih e
  cases f with
  |gap j =>
   simp only[enc] at e
   simp[fn_filled,enc,at?,ixOf,e,recv_get2 hd,p_get2 hd,dget_encD,fill]
   cases dval m j<;>simp[enc]
  |tie w ps =>
   simp only[dep] at h
   have hc:∀ x∈ps,cl "filled" [.g (enc x),.ref d] σ = .ok (.g (enc (fill m x))) σ:=fun x hx=>ih x m d σ (by have:=dep_le hx;omega) hd
   simp only[enc,encs_map] at e
   have q:=compL_map (α:=F) (f:=compF cl 1 [1] .nil (.call "filled" (.cons (.var 0) (.cons (.var 1) .nil))) [some (R.g (G.tup [G.str sTie,G.str w,G.tup (List.map enc ps)])),some (R.ref d),none]) (w:=none)
    (fun x=>R.g (enc x)) (fun x=>R.g (enc (fill m x))) (σ:=σ) rfl ps (fun x hx=>by simp[hc x hx])
   simp[fn_filled,enc,at?,ixOf,e,encs_map,fill,fills_map,setSlot,Function.comp_def,q,mkLst_map]
   rw[p_tupleL (xs:=ps.map fun x=>enc (fill m x)) (by simp)]
   simp[p_tup,mkTup,allG]
end MP
namespace MP
variable {P:List Fn}{W:Nat}
noncomputable def fn__law_cell_at:Fn:=⟨"_law_cell_at",2,2,
 (.cons (.ite (.op .lt (.cons (.var 1) (.cons (.op .len (.cons (.var 0) .nil)) .nil))) (.cons (.ret (.op .idx (.cons (.var 0) (.cons (.var 1) .nil))))
 .nil) .nil)
 (.cons (.ret (.con (.int 0)))
 .nil))⟩
noncomputable def fn__law_form:Fn:=⟨"_law_form",3,8,
 (.cons (.setIdx (.var 0) (.con (.int 0)) (.op .mod (.cons (.op .add (.cons (.op .mul (.cons (.op .idx (.cons (.var 0) (.cons (.con (.int 0)) .nil))) (.cons (.con (.int 48271)) .nil))) (.cons (.con (.int 29)) .nil))) (.cons (.con (.int 2147483647)) .nil))))
 (.cons (.set 3 (.op .fdiv (.cons (.op .idx (.cons (.var 0) (.cons (.con (.int 0)) .nil))) (.cons (.con (.int 7)) .nil))))
 (.cons (.setIdx (.var 0) (.con (.int 1)) (.op .sub (.cons (.op .idx (.cons (.var 0) (.cons (.con (.int 1)) .nil))) (.cons (.con (.int 1)) .nil))))
 (.cons (.ite (.andT (.op .eq (.cons (.op .mod (.cons (.var 3) (.cons (.con (.int 3)) .nil))) (.cons (.con (.int 0)) .nil))) (.op .gt (.cons (.var 1) (.cons (.con (.int 0)) .nil)))) (.cons (.ret (.op .tup (.cons (.con (.str [103,97,112])) (.cons (.op .mod (.cons (.op .fdiv (.cons (.var 3) (.cons (.con (.int 3)) .nil))) (.cons (.var 1) .nil))) .nil))))
 .nil) .nil)
 (.cons (.set 4 (.op .lst (.cons (.con (.str [97])) (.cons (.con (.str [97,98])) (.cons (.con (.str [102])) (.cons (.con (.str [102,103])) .nil))))))
 (.cons (.set 5 (.op .mod (.cons (.op .fdiv (.cons (.var 3) (.cons (.con (.int 3)) .nil))) (.cons (.con (.int 5)) .nil))))
 (.cons (.ite (.orT (.op .lt (.cons (.var 2) (.cons (.con (.int 2)) .nil))) (.op .lt (.cons (.op .idx (.cons (.var 0) (.cons (.con (.int 1)) .nil))) (.cons (.con (.int 4)) .nil)))) (.cons (.ret (.op .tup (.cons (.con (.str [116,105,101])) (.cons (.op .idx (.cons (.var 4) (.cons (.op .mod (.cons (.op .fdiv (.cons (.var 3) (.cons (.con (.int 15)) .nil))) (.cons (.con (.int 2)) .nil))) .nil))) (.cons (.op .tup .nil) .nil)))))
 .nil) .nil)
 (.cons (.set 6 (.op .lst .nil))
 (.cons (.forS [7] (.range1 (.var 5)) (.cons (.expr (.meth .append (.var 6) (.cons (.call "_law_form" (.cons (.var 0) (.cons (.var 1) (.cons (.op .sub (.cons (.var 2) (.cons (.con (.int 1)) .nil))) .nil)))) .nil)))
 .nil))
 (.cons (.ret (.op .tup (.cons (.con (.str [116,105,101])) (.cons (.op .idx (.cons (.var 4) (.cons (.op .mod (.cons (.op .fdiv (.cons (.var 3) (.cons (.con (.int 15)) .nil))) (.cons (.con (.int 4)) .nil))) .nil))) (.cons (.op .tupleOf (.cons (.var 6) .nil)) .nil)))))
 .nil))))))))))⟩
noncomputable def fn__law_filled:Fn:=⟨"_law_filled",2,2,
 (.cons (.ite (.op .eq (.cons (.op .idx (.cons (.var 0) (.cons (.con (.int 0)) .nil))) (.cons (.con (.str [103,97,112])) .nil))) (.cons (.ite (.op .inn (.cons (.op .idx (.cons (.var 0) (.cons (.con (.int 1)) .nil))) (.cons (.var 1) .nil))) (.cons (.ret (.op .idx (.cons (.var 1) (.cons (.op .idx (.cons (.var 0) (.cons (.con (.int 1)) .nil))) .nil))))
 .nil) .nil)
 (.cons (.ret (.var 0))
 .nil)) .nil)
 (.cons (.ret (.op .tup (.cons (.con (.str [116,105,101])) (.cons (.op .idx (.cons (.var 0) (.cons (.con (.int 1)) .nil))) (.cons (.op .tupleOf (.cons (.comp 1 [1] (.over (.op .idx (.cons (.var 0) (.cons (.con (.int 2)) .nil)))) .nil (.call "_law_filled" (.cons (.var 0) (.cons (.var 1) .nil)))) .nil)) .nil)))))
 .nil))⟩
theorem at_nat{α:Type}{xs:List α}{j:Nat}{v:α}(h:xs[j]?=some v):at? xs (j:Int)=some v:=by
 have hl:j<xs.length:=(List.getElem?_eq_some_iff.mp h).1
 have:(j:Int)<xs.length:=by omega
 simp[at?,ixOf,this,h]
noncomputable def cellAt(ns:List Int)(k:Nat):Int:=ns.getD k 0
theorem run_cell_at(h1:look P "_law_cell_at"=some fn__law_cell_at){n:Nat}{s:Nat}{ns:List Int}(k:Nat)(σ:Store)(hs:σ[s]?=some (.rdl (ns.map .int))) :
 run P W (n+1) "_law_cell_at" [.ref s,.g (.int k)] σ = .ok (.g (.int (cellAt ns k))) σ:=by
 rw[run_call h1 n _ _ rfl]
 generalize run P W n=cl
 have hl:prim .len [.ref s] σ = .ok (.g (.int (ns.length:Nat))) σ:=p_len (by simp[lenOf,hs])
 by_cases h:k<ns.length
 ·have hi:(k:Int)<ns.length:=by omega
  have ha:at? (ns.map G.int) (k:Int)=some (.int (cellAt ns k)):=at_nat (by simp[cellAt,h])
  simp[fn__law_cell_at,hl,hi,p_idxB hs,ha]
 ·have hi:¬ (k:Int)<ns.length:=by omega
  have hc:cellAt ns k=0:=by simp[cellAt,h]
  simp[fn__law_cell_at,hl,hi,hc]
noncomputable def w4:List (List Nat):=[[97],[97,98],[102],[102,103]]
mutual
noncomputable def okF(many:Int):F->Prop
 | .gap n=>0<=n/\n<many
 | .tie w ps=>w∈w4/\ps.length<=4/\okFs many ps
noncomputable def okFs(many:Int):List F->Prop
 | []=>True
 |x::r=>okF many x/\okFs many r
end
theorem okFs_iff{many:Int}:∀ {ps:List F},okFs many ps↔∀ f∈ps,okF many f
 | []=>by simp[okFs]
 |x::r=>by simp[okFs,okFs_iff (ps:=r)]
theorem okFs_snoc{many:Int}{ps:List F}{f:F}(h:okFs many ps)(hf:okF many f):okFs many (ps++[f]):=by
 rw[okFs_iff] at h ⊢
 intro g hg
 rcases List.mem_append.mp hg with z|z
 ·exact h g z
 ·simp at z;subst z;exact hf
theorem words_at{x:Int}(k:Nat)(hk:k=2\/k=4)(h0:0<=x)(h1:x<k):∃ w,at? (w4.map G.str) x=some (.str w)/\w∈w4:=by
 have:x=0\/x=1\/x=2\/x=3:=by omega
 rcases this with e|e|e|e<;>subst e<;>simp[at?,ixOf,w4]
theorem set_len(σ:Store)(i:Nat)(c:Cell):(σ.set i c).length=σ.length:=List.length_set
theorem get_app{σ:Store}{i:Nat}{c:Cell}(g:Store)(h:σ[i]?=some c):(σ++g)[i]?=some c:=by
 rw[List.getElem?_append_left (List.getElem?_eq_some_iff.mp h).1];exact h
theorem get_set{σ:Store}{i:Nat}{c d:Cell}(h:σ[i]?=some d):(σ.set i c)[i]?=some c:=by
 rw[List.getElem?_set_self (List.getElem?_eq_some_iff.mp h).1]
theorem take_set(σ:Store)(i:Nat)(c:Cell):(σ.set i c).take σ.length=σ.set i c:=List.take_of_length_le (by simp)
theorem take_set_app(σ:Store)(i:Nat)(c:Cell)(g:Store):(σ.set i c++g).take σ.length=σ.set i c:=by
 have:=List.take_left (l₁:=σ.set i c) (l₂:=g)
 rwa [List.length_set] at this
theorem lt_of_get{σ:Store}{i:Nat}{c:Cell}(h:σ[i]?=some c):i<σ.length:=(List.getElem?_eq_some_iff.mp h).1
mutual
noncomputable def sz:F->Nat
 | .gap _=>1
 | .tie _ ps=>szs ps+1
noncomputable def szs:List F->Nat
 | []=>0
 |x::r=>sz x+szs r
end
noncomputable def Bud(d:Nat)(c:Int)(f:F)(c':Int):Prop:=(sz f:Int)=c-c'/\(c<=4->c'=c-1)/\(1<=d->5<=c->4-4*((d:Int)-1)<=c')
noncomputable def Buds(d:Nat)(c:Int)(j:Nat)(c':Int):Prop:=1<=d->4<=c->4-4*((d:Int)-1)-(j:Int)<=c'
theorem szs_app:∀ (a b:List F),szs (a++b)=szs a+szs b
 | [],b=>by simp[szs]
 |x::r,b=>by simp[szs,szs_app r b];omega
noncomputable def spotC(s c:Int):Cell:=.lst [.int s,.int c]
noncomputable abbrev formLoop:Blk:=(.cons (.expr (.meth .append (.var 6) (.cons (.call "_law_form" (.cons (.var 0) (.cons (.var 1) (.cons (.op .sub (.cons (.var 2) (.cons (.con (.int 1)) .nil))) .nil)))) .nil))) .nil)
theorem form_loop{cl:CallH}{i:Nat}{many:Int}{d:Nat}{τ:Store}{wd:Cell}{x3 x5:R}{D:Int}(hD:D-1=(d:Int))
 (hc:∀ (σ:Store) (s c:Int),σ[i]?=some (spotC s c)->∃ f s' c',cl "_law_form" [.ref i,.g (.int many),.g (.int d)] σ = .ok (.g (enc f)) (σ.set i (spotC s' c'))/\dep f<=max d 1/\okF many f/\Bud d c f c') {c0:Int} :
 ∀ (xs:List R) (fs:List F) (s c:Int) (o:Option R),i<τ.length->fs.length+xs.length<=4->(∀ f∈fs,dep f<=max d 1)->okFs many fs->((szs fs:Int)=c0-c/\Buds d c0 fs.length c) →
  ∃ gs s' c' o',forL [7] (evB cl W formLoop) none xs [some (.ref i),some (.g (.int many)),some (.g (.int D)),some x3,some (.ref τ.length),some x5,some (.ref (τ.length+1)),o] (τ.set i (spotC s c)++[wd,.lst (encs fs)])
   = .ok (.next [some (.ref i),some (.g (.int many)),some (.g (.int D)),some x3,some (.ref τ.length),some x5,some (.ref (τ.length+1)),o']) (τ.set i (spotC s' c')++[wd,.lst (encs gs)])
   ∧ gs.length<=4/\(∀ f∈gs,dep f<=max d 1)/\okFs many gs/\((szs gs:Int)=c0-c'/\Buds d c0 gs.length c')
 | [],fs,s,c,o,hi,hl,hd,hk,hq=>⟨fs,s,c,o,by rw[forL_nil];rfl,by simpa using hl,hd,hk,hq⟩
 |x::r,fs,s,c,o,hi,hl,hd,hk,hq=>by
  have hg:(τ.set i (spotC s c)++[wd,.lst (encs fs)])[i]?=some (spotC s c):=get_app _ (by simp[hi])
  obtain⟨f,s',c',e,e1,e2,e3⟩:=hc _ s c hg
  have hq':(szs (fs++[f]):Int)=c0-c'/\Buds d c0 (fs++[f]).length c':=by
   obtain⟨q1,q2⟩:=hq
   obtain⟨b1,b2,b3⟩:=e3
   refine⟨by rw[szs_app];simp only[szs];omega,fun h1 h2 => ?_⟩
   have:=q2 h1 h2
   simp only[List.length_append,List.length_cons,List.length_nil]
   by_cases h5:5<=c
   ·have:=b3 h1 h5;omega
   ·have:=b2 (by omega);omega
  have hs:(τ.set i (spotC s c)++[wd,.lst (encs fs)]).set i (spotC s' c')=τ.set i (spotC s' c')++[wd,.lst (encs fs)]:=by
   rw[List.set_append_left _ _ (by simpa using hi),List.set_set]
  rw[hs] at e
  have hp:(τ.set i (spotC s' c')++[wd,.lst (encs fs)])[τ.length+1]?=some (.lst (encs fs)):=by
   rw[List.getElem?_append_right (by simp)];simp
  have hp2:(τ.set i (spotC s' c')++[wd,.lst (encs fs)]).set (τ.length+1) (.lst (encs fs++[enc f]))=τ.set i (spotC s' c')++[wd,.lst (encs (fs++[f]))]:=by
   rw[List.set_append_right _ _ (by simp)];simp[encs_map]
  have hp0:(τ.set i (spotC s c)++[wd,.lst (encs fs)])[τ.length+1]?=some (.lst (encs fs)):=by
   rw[List.getElem?_append_right (by simp)];simp
  have hlen:(encs fs).length<big:=by simp[encs_map,big];simp at hl;omega
  obtain⟨gs,s2,c2,o2,ih,h1,h2,h3⟩:=form_loop hD hc (c0:=c0) (wd:=wd) (x3:=x3) (x5:=x5) r (fs++[f]) s' c' (some x) hi (by simp at hl ⊢;omega)
   (fun g hg=>by rcases List.mem_append.mp hg with z|z;exact hd g z;simp at z;subst z;exact e1) (okFs_snoc hk e2) hq'
  refine⟨gs,s2,c2,o2,?_,h1,h2,h3⟩
  rw[forL_cons _ _ _ _ _ rfl]
  simp only[bindTg,setSlot,List.length_cons,List.length_nil]
  simp[kFB_some,recv_append hp0,hD,e,p_append hp hlen,hp2]
  simpa using ih
theorem run_formB(h1:look P "_law_form"=some fn__law_form):∀ (n d:Nat) (many:Int) (i:Nat) (σ:Store) (s c:Int),d+1<=n->σ[i]?=some (spotC s c) →
 ∃ f s' c',run P W n "_law_form" [.ref i,.g (.int many),.g (.int d)] σ = .ok (.g (enc f)) (σ.set i (spotC s' c'))/\dep f<=max d 1/\okF many f/\Bud d c f c'
 |0,d,_,_,_,_,_,h,_=>by omega
 |n+1,d,many,i,σ,s,c,h,hs=>by
  have hi:=lt_of_get hs
  rw[run_call h1 n _ _ rfl]
  have ih:∀ d',d=d'+1->∀ (σ:Store) (s c:Int),σ[i]?=some (spotC s c)->∃ f s' c',run P W n "_law_form" [.ref i,.g (.int many),.g (.int d')] σ = .ok (.g (enc f)) (σ.set i (spotC s' c'))/\dep f<=max d' 1/\okF many f/\Bud d' c f c' :=
   fun d' e σ s c hs=>run_formB h1 n d' many i σ s c (by omega) hs
  generalize run P W n=cl at ih
  generalize hs1:(s*48271+29) % 2147483647=s1
  have hS1:(σ.set i (.lst [.int s1,.int c]))[i]?=some (.lst [.int s1,.int c]):=get_set hs
  have hS2:(σ.set i (.lst [.int s1,.int (c-1)]))[i]?=some (.lst [.int s1,.int (c-1)]):=get_set hs
  have hs':σ[i]?=some (.lst [.int s,.int c]):=hs
  have m1:prim .mul [.g (.int s),.g (.int 48271)] σ = .ok (.g (.int (s*48271))) σ:=p_mul (by omega)
  have m2:prim .mod [.g (.int (s*48271+29)),.g (.int 2147483647)] σ = .ok (.g (.int s1)) σ:=by rw[p_mod (by omega),hs1]
  have i0:∀ (a b:Int),at? [G.int a,G.int b] 0=some (.int a):=fun a b=>rfl
  have i1:∀ (a b:Int),at? [G.int a,G.int b] 1=some (.int b):=fun a b=>rfl
  have k0:∀ (a b:Int),ixOf [G.int a,G.int b].length 0=some 0:=fun a b=>rfl
  have k1:∀ (a b:Int),ixOf [G.int a,G.int b].length 1=some 1:=fun a b=>rfl
  have dv:∀ (σ:Store) (a b:Int),0<b->b<1073741824->prim .fdiv [.g (.int a),.g (.int b)] σ = .ok (.g (.int (a / b))) σ:=fun σ a b h1 h2=>p_fdiv ⟨h1,h2⟩
  have md:∀ (σ:Store) (a b:Int),0<b->prim .mod [.g (.int a),.g (.int b)] σ = .ok (.g (.int (a % b))) σ:=fun σ a b h=>p_mod h
  by_cases hg:s1 / 7 % 3=0/\0<many
  ·refine⟨.gap (s1 / 7 / 3 % many),s1,c-1,?_,by simp[dep];omega,⟨Int.emod_nonneg _ (by omega),Int.emod_lt_of_pos _ hg.2⟩,⟨by simp only[sz];omega,fun _=>rfl,fun h1 h2=>by omega⟩⟩
   simp[fn__law_form,p_idxL hs',i0,i1,m1,m2,kPut3_lst hs' (k0 _ _),p_idxL hS1,kPut3_lst hS1 (k1 _ _),p_idxL hS2,dv,md,setSlot,peq,hg.1,hg.2,p_tup,mkTup,allG,enc,spotC,take_set]
  ·have hb:kAnd cl true (.op .gt (.cons (.var 1) (.cons (.con (.int 0)) .nil))) [some (.ref i),some (.g (.int many)),some (.g (.int d)),some (.g (.int (s1 / 7))),none,none,none,none] (.ok (.g (.bl (s1 / 7 % 3 == 0))) (σ.set i (.lst [.int s1,.int (c-1)]))) = .ok (.g (.bl false)) (σ.set i (.lst [.int s1,.int (c-1)])):=by
    by_cases h0:s1 / 7 % 3=0
    ·have:¬ 0<many:=fun z=>hg ⟨h0,z⟩
     rw[h0]
     simp[this]
    ·rw[beq_eq_false_iff_ne.mpr h0]
     rfl
   have hw:mkLst [R.g (.str [97]),R.g (.str [97,98]),R.g (.str [102]),R.g (.str [102,103])] = .lst (w4.map G.str):=rfl
   have hW:∀ (τ:Store),τ.length=σ.length->(τ++[Cell.lst (w4.map G.str)])[σ.length]?=some (.lst (w4.map G.str)):=fun τ e=>by rw[← e];simp
   have hS3:(σ.set i (.lst [.int s1,.int (c-1)])++[Cell.lst (w4.map G.str)])[i]?=some (.lst [.int s1,.int (c-1)]):=get_app _ hS2
   by_cases hl:d<2\/c-1<4
   ·obtain⟨w,e1,e2⟩:=words_at (x:=s1 / 7 / 15 % 2) 2 (.inl rfl) (Int.emod_nonneg _ (by omega)) (Int.emod_lt_of_pos _ (by omega))
    refine⟨.tie w [],s1,c-1,?_,by simp[dep,deps];omega,⟨e2,by simp,by simp[okFs]⟩,⟨by simp only[sz,szs];omega,fun _=>rfl,fun h1 h2=>by omega⟩⟩
    have hb2:kOr cl true (.op .lt (.cons (.op .idx (.cons (.var 0) (.cons (.con (.int 1)) .nil))) (.cons (.con (.int 4)) .nil))) [some (.ref i),some (.g (.int many)),some (.g (.int d)),some (.g (.int (s1 / 7))),some (.ref σ.length),some (.g (.int (s1 / 7 / 3 % 5))),none,none] (.ok (.g (.bl (decide ((d:Int)<2)))) (σ.set i (.lst [.int s1,.int (c-1)])++[Cell.lst (w4.map G.str)])) = .ok (.g (.bl true)) (σ.set i (.lst [.int s1,.int (c-1)])++[Cell.lst (w4.map G.str)]):=by
     by_cases h2:(d:Int)<2
     ·simp[h2]
     ·have:c-1<4:=by omega
      simp[h2,p_idxL hS3,i1,this]
    simp[fn__law_form,p_idxL hs',i0,i1,m1,m2,kPut3_lst hs' (k0 _ _),p_idxL hS1,kPut3_lst hS1 (k1 _ _),p_idxL hS2,dv,md,setSlot,peq,hb,p_lst,hw,hb2,p_idxL (hW _ (set_len _ _ _)),e1,p_tup,mkTup,allG,enc,encs,spotC,take_set_app]
   ·obtain⟨d',rfl⟩:∃ d',d=d'+1:=⟨d-1,by omega⟩
    have hDD:((d'+1:Nat):Int)-1=d':=by omega
    have hD2:¬ ((d'+1:Nat):Int)<2:=by omega
    generalize ((d'+1:Nat):Int)=D at *
    have hb2:kOr cl true (.op .lt (.cons (.op .idx (.cons (.var 0) (.cons (.con (.int 1)) .nil))) (.cons (.con (.int 4)) .nil))) [some (.ref i),some (.g (.int many)),some (.g (.int D)),some (.g (.int (s1 / 7))),some (.ref σ.length),some (.g (.int (s1 / 7 / 3 % 5))),none,none] (.ok (.g (.bl (decide (D<2)))) (σ.set i (.lst [.int s1,.int (c-1)])++[Cell.lst (w4.map G.str)])) = .ok (.g (.bl false)) (σ.set i (.lst [.int s1,.int (c-1)])++[Cell.lst (w4.map G.str)]):=by
     have h3:¬ c-1<4:=by omega
     rw[decide_eq_false hD2]
     simp[p_idxL hS3,i1,h3]
    obtain⟨w,e1,e2⟩:=words_at (x:=s1 / 7 / 15 % 4) 4 (.inr rfl) (Int.emod_nonneg _ (by omega)) (Int.emod_lt_of_pos _ (by omega))
    have hz0:0<=s1 / 7 / 3 % 5:=Int.emod_nonneg _ (by omega)
    have hz5:s1 / 7 / 3 % 5<5:=Int.emod_lt_of_pos _ (by omega)
    generalize hz:s1 / 7 / 3 % 5=z at *
    have hr:wRange (.g (.int 0)) (.g (.int z)) (σ.set i (.lst [.int s1,.int (c-1)])++[Cell.lst (w4.map G.str),.lst []]) = .ok ⟨rangeL 0 z,none⟩ (σ.set i (.lst [.int s1,.int (c-1)])++[Cell.lst (w4.map G.str),.lst []]) :=
     wRange_ok (by simp[small,big];omega)
    obtain⟨gs,s2,c2,o2,lp,g1,g2,g3,g4,g5⟩:=form_loop (W:=W) (c0:=c-1) (D:=D) (τ:=σ) (i:=i) (many:=many) (d:=d') (wd:=.lst (w4.map G.str)) (x3:=.g (.int (s1 / 7))) (x5:=.g (.int z)) hDD (ih d' rfl) (rangeL 0 z) [] s1 (c-1) none hi (by simp[rangeL];omega) (by simp) (by simp[okFs]) ⟨by simp[szs],fun h1 h2=>by simp only[List.length_nil];omega⟩
    have lp':forL [7] (evB cl W formLoop) none (rangeL 0 z) [some (.ref i),some (.g (.int many)),some (.g (.int D)),some (.g (.int (s1 / 7))),some (.ref σ.length),some (.g (.int z)),some (.ref (σ.length+1)),none] (σ.set i (.lst [.int s1,.int (c-1)])++[Cell.lst (w4.map G.str),.lst []])=_:=lp
    have hp:(σ.set i (spotC s2 c2)++[Cell.lst (w4.map G.str),.lst (encs gs)])[σ.length+1]?=some (.lst (encs gs)):=by
     rw[List.getElem?_append_right (by simp)];simp
    have hq:(σ.set i (spotC s2 c2)++[Cell.lst (w4.map G.str),.lst (encs gs)])[σ.length]?=some (.lst (w4.map G.str)):=by
     rw[List.getElem?_append_right (by simp)];simp
    refine⟨.tie w gs,s2,c2,?_,?_,⟨e2,g1,g3⟩,?_⟩
    ·simp[fn__law_form,p_idxL hs',i0,i1,m1,m2,kPut3_lst hs' (k0 _ _),p_idxL hS1,kPut3_lst hS1 (k1 _ _),p_idxL hS2,dv,md,setSlot,peq,hb,p_lst,hw,hz,mkLst_nil,hb2,hr,lp',p_tupleL hp,p_idxL hq,e1,p_tup,mkTup,allG,enc,take_set_app]
    ·have:=deps_le g2
     simp only[dep];omega
    ·refine⟨by simp only[sz];omega,fun z=>by omega,fun h1 h2 => ?_⟩
     have:=g5 (by omega) (by omega)
     omega
theorem run_lfilled(h2:look P "_law_filled"=some fn__law_filled):∀ (n:Nat) (f:F) (m:Fg) (d:Nat) (σ:Store),dep f<=n->σ[d]?=some (.dct (encD m)) →
 run P W n "_law_filled" [.g (enc f),.ref d] σ = .ok (.g (enc (fill m f))) σ
 |0,f,_,_,_,h,_=>by have:=dep_pos f;omega
 |n+1,f,m,d,σ,h,hd=>by
  have ih:=run_lfilled h2 n
  rw[run_call h2 _ _ _ rfl]
  generalize run P W n=cl at ih
  cases f with
  |gap j =>
   cases e:dval m j with
   |none=>simp[fn__law_filled,enc,at?,ixOf,peq,p_inD hd,dget_encD,e,fill]
   |some g=>simp[fn__law_filled,enc,at?,ixOf,peq,p_inD hd,p_idxD hd,dget_encD,e,fill]
  |tie w ps =>
   simp only[dep] at h
   have hc:∀ x∈ps,cl "_law_filled" [.g (enc x),.ref d] σ = .ok (.g (enc (fill m x))) σ:=fun x hx=>ih x m d σ (by have:=dep_le hx;omega) hd
   have q:=compL_map (α:=F) (f:=compF cl 1 [1] .nil (.call "_law_filled" (.cons (.var 0) (.cons (.var 1) .nil))) [some (R.g (G.tup [G.str sTie,G.str w,G.tup (List.map enc ps)])),some (R.ref d)]) (w:=none)
    (fun x=>R.g (enc x)) (fun x=>R.g (enc (fill m x))) (σ:=σ) rfl ps (fun x hx=>by simp[hc x hx])
   have hp:(σ++[Cell.lst (ps.map fun x=>enc (fill m x))])[σ.length]?=some (.lst (ps.map fun x=>enc (fill m x))):=by simp
   simp[fn__law_filled,enc,at?,ixOf,peq,encs_map,fill,fills_map,Function.comp_def,q,mkLst_map,p_tupleL hp,p_tup,mkTup,allG]
structure OkFg(many:Int)(d:Nat)(ns:List Int)(m:Fg):Prop where
 nd:(keys m).Nodup
 sub:∀ k∈keys m,k∈ns
 form:∀ p∈m,dep p.2<=max d 1/\okF many p.2
theorem OkFg.set{many:Int}{d:Nat}{ns:List Int}{m:Fg}(h:OkFg many d ns m){k:Int}{f:F}(hk:k∈ns)(h1:dep f<=max d 1)(h2:okF many f):OkFg many d ns (dset m k f):=by
 refine⟨dset_nodup h.nd,fun j hj => ?_,fun p hp => ?_⟩
 ·rcases dset_keys_mem hj with z|z
  ·exact h.sub j z
  ·subst z;exact hk
 ·obtain⟨a,b⟩:=p
  rcases dset_mem hp with z | ⟨_,z⟩
  ·exact h.form _ z
  ·subst z;exact⟨h1,h2⟩
end MP
namespace MP
variable {P:List Fn}{W:Nat}
end MP
namespace MP
theorem nodup_len:∀ {xs ys:List Int},xs.Nodup->(∀ x∈xs,x∈ys)->xs.length<=ys.length
 | [],_,_,_=>Nat.zero_le _
 |x::r,ys,nd,h=>by
  have hx:=h x List.mem_cons_self
  obtain⟨h1,h2⟩:=List.nodup_cons.mp nd
  have:=nodup_len (ys:=ys.erase x) h2 fun y hy=>(List.mem_erase_of_ne fun z=>h1 (by rw[← z];exact hy)).mpr (h y (List.mem_cons_of_mem _ hy))
  rw[List.length_erase_of_mem hx] at this
  have:=List.length_pos_of_mem hx
  simp
  omega
noncomputable def Low(d:Nat)(m:Fg):Prop:=∀ p∈m,dep p.2<=d
theorem Low.val{d:Nat}{m:Fg}(h:Low d m){n:Int}{f:F}(e:dval m n=some f):dep f<=d:=h _ (dval_some_mem e)
variable {P:List Fn}{W:Nat}
end MP
namespace MP
variable {P:List Fn}{W:Nat}
theorem OkFg.low{many:Int}{d:Nat}{ns:List Int}{m:Fg}(h:OkFg many d ns m):Low (max d 1) m:=fun p hp=>(h.form p hp).1
theorem OkFg.len{many:Int}{d:Nat}{ns:List Int}{m:Fg}(h:OkFg many d ns m):m.length<=ns.length:=by
 have:=nodup_len h.nd h.sub
 simpa[keys] using this
end MP
namespace MP
variable {P:List Fn}{W:Nat}
theorem sz_pos:∀ f:F,1<=sz f
 | .gap _=>by simp[sz]
 | .tie _ _=>by simp[sz]
mutual
noncomputable def slim:F->Prop
 | .gap _=>True
 | .tie _ ps=>ps.length<=4/\slims ps
noncomputable def slims:List F->Prop
 | []=>True
 |x::r=>slim x/\slims r
end
theorem slims_iff:∀ {ps:List F},slims ps↔∀ f∈ps,slim f
 | []=>by simp[slims]
 |x::r=>by simp[slims,slims_iff (ps:=r)]
mutual
theorem okF_slim{many:Int}:∀ {f:F},okF many f->slim f
 | .gap _,_=>trivial
 | .tie _ ps,h=>⟨h.2.1,okFs_slim h.2.2⟩
theorem okFs_slim{many:Int}:∀ {ps:List F},okFs many ps->slims ps
 | [],_=>trivial
 |_::_,h=>⟨okF_slim h.1,okFs_slim h.2⟩
end
mutual
theorem sz_le:∀ {f:F},slim f->3*sz f+1<=4 ^ dep f
 | .gap _,_=>by simp[sz,dep]
 | .tie _ ps,h=>by
  have:=szs_le (d:=deps ps) h.2 (Nat.le_refl _)
  have h2:=h.1
  have h3:ps.length*(4 ^ deps ps)<=4*4 ^ deps ps:=Nat.mul_le_mul_right _ h2
  have h4:1<=4 ^ deps ps:=Nat.pos_of_ne_zero (by simp)
  have h5:ps.length*(4 ^ deps ps-1)<=4*(4 ^ deps ps-1):=Nat.mul_le_mul_right _ h2
  simp only[sz,dep,Nat.pow_succ]
  omega
theorem szs_le:∀ {ps:List F} {d:Nat},slims ps->deps ps<=d->3*szs ps<=ps.length*(4 ^ d-1)
 | [],d,_,_=>by simp[szs]
 |x::r,d,h,hd=>by
  simp only[deps] at hd
  have h1:=sz_le h.1
  have h2:=szs_le (d:=d) h.2 (by omega)
  have h3:4 ^ dep x<=4 ^ d:=Nat.pow_le_pow_right (by decide) (by omega)
  simp only[szs,List.length_cons,Nat.add_mul,Nat.one_mul]
  omega
end
theorem sz_small{f:F}(h:slim f)(hd:dep f<=8):sz f<=30000:=by
 have h1:=sz_le h
 have h2:4 ^ dep f<=4 ^ 8:=Nat.pow_le_pow_right (by decide) hd
 have:(4:Nat) ^ 8=65536:=by decide
 omega
mutual
noncomputable def fit:F->F->Fg->Bool × Fg
 | .gap n,g,m=>match dval m n with
  |some f=>(decide (enc f=enc g),m)
  |none=>(true,dset m n g)
 | .tie _ _,.gap _,m=>(false,m)
 | .tie w ps,.tie v qs,m=>if w=v/\ps.length=qs.length then (fits ps qs m) else (false,m)
noncomputable def fits:List F->List F->Fg->Bool × Fg
 |x::r,y::t,m=>((fit x y m).1 && (fits r t (fit x y m).2).1,(fits r t (fit x y m).2).2)
 |_,_,m=>(true,m)
end
mutual
theorem fit_len:∀ (f g:F) (m:Fg),(fit f g m).2.length<=m.length+sz f
 | .gap n,g,m=>by
  simp only[fit,sz]
  cases dval m n with
  |some f=>simp
  |none=>exact dset_len m n g
 | .tie _ _,.gap _,m=>by simp[fit]
 | .tie w ps,.tie v qs,m=>by
  simp only[fit,sz]
  split
  ·have:=fits_len ps qs m;omega
  ·simp
theorem fits_len:∀ (ps qs:List F) (m:Fg),(fits ps qs m).2.length<=m.length+szs ps
 |x::r,y::t,m=>by
  simp only[fits,szs]
  have h1:=fit_len x y m
  have h2:=fits_len r t (fit x y m).2
  omega
 | [],_,m=>by simp[fits]
 |_::_,[],m=>by simp[fits]
end
mutual
theorem fit_low{d:Nat}:∀ (f g:F) (m:Fg),Low d m->dep g<=d->Low d (fit f g m).2
 | .gap n,g,m,h,hg=>by
  simp only[fit]
  cases dval m n with
  |some f=>exact h
  |none =>
   intro p hp
   obtain⟨a,b⟩:=p
   rcases dset_mem hp with z|z
   ·exact h _ z
   ·rw[z.2];exact hg
 | .tie _ _,.gap _,m,h,hg=>by simpa[fit] using h
 | .tie w ps,.tie v qs,m,h,hg=>by
  simp only[fit]
  split
  ·exact fits_low ps qs m h (by simp only[dep] at hg;omega)
  ·exact h
theorem fits_low{d:Nat}:∀ (ps qs:List F) (m:Fg),Low d m->deps qs<=d->Low d (fits ps qs m).2
 |x::r,y::t,m,h,hg=>by
  simp only[fits,deps] at hg ⊢
  exact fits_low r t _ (fit_low x y m h (by omega)) (by omega)
 | [],_,m,h,_=>by simpa[fits] using h
 |_::_,[],m,h,_=>by simpa[fits] using h
end
noncomputable def fn_of_one_kind:Fn:=⟨"of_one_kind",2,2,
 (.cons (.ite (.orT (.call "is_gap" (.cons (.var 0) .nil)) (.call "is_gap" (.cons (.var 1) .nil))) (.cons (.ret (.con (.bl false)))
 .nil) .nil)
 (.cons (.ret (.andT (.op .eq (.cons (.op .idx (.cons (.var 0) (.cons (.con (.int 1)) .nil))) (.cons (.op .idx (.cons (.var 1) (.cons (.con (.int 1)) .nil))) .nil))) (.op .eq (.cons (.op .len (.cons (.op .idx (.cons (.var 0) (.cons (.con (.int 2)) .nil))) .nil)) (.cons (.op .len (.cons (.op .idx (.cons (.var 1) (.cons (.con (.int 2)) .nil))) .nil)) .nil)))))
 .nil))⟩
noncomputable def kin:F->F->Bool
 | .tie w ps,.tie v qs=>decide (w=v) && decide (ps.length=qs.length)
 |_,_=>false
theorem encs_len(ps:List F):(encs ps).length=ps.length:=by rw[encs_map,List.length_map]
theorem run_kind(h1:look P "is_gap"=some fn_is_gap)(h2:look P "of_one_kind"=some fn_of_one_kind){n:Nat}(f g:F)(σ:Store) :
 run P W (n+2) "of_one_kind" [.g (enc f),.g (enc g)] σ = .ok (.g (.bl (kin f g))) σ:=by
 have e1:=run_is_gap (W:=W) h1 (n:=n) f σ
 have e2:=run_is_gap (W:=W) h1 (n:=n) g σ
 rw[run_call h2 (n+1) _ _ rfl]
 generalize run P W (n+1)=cl at e1 e2
 cases f with
 |gap a=>simp[fn_of_one_kind,e1,kin]
 |tie w ps =>
  cases g with
  |gap b=>simp[fn_of_one_kind,e1,e2,kin]
  |tie v qs =>
   have l:∀ (xs:List F) (σ:Store),prim .len [.g (.tup (encs xs))] σ = .ok (.g (.int xs.length)) σ:=fun xs σ=>by rw[p_len (n:=xs.length)];simp[lenOf,encs_len]
   simp only[enc] at e1 e2
   by_cases hw:w=v
   ·subst hw
    simp[fn_of_one_kind,e1,e2,enc,at?,ixOf,peq,kin,l]
    by_cases hl:ps.length=qs.length<;>simp[hl]
    omega
   ·have hb:(w == v)=false:=beq_eq_false_iff_ne.mpr hw
    simp[fn_of_one_kind,e1,e2,enc,at?,ixOf,peq,kin,hw,hb]
noncomputable abbrev fitsE:Tm:=(.call "fits" (.cons (.var 0) (.cons (.var 1) (.cons (.var 2) .nil))))
noncomputable def fn_fits:Fn:=⟨"fits",3,3,
 (.cons (.ite (.call "is_gap" (.cons (.var 0) .nil)) (.cons (.ret (.op .eq (.cons (.meth .setdef (.var 2) (.cons (.op .idx (.cons (.var 0) (.cons (.con (.int 1)) .nil))) (.cons (.var 1) .nil))) (.cons (.var 1) .nil))))
 .nil) .nil)
 (.cons (.ite (.notT (.call "of_one_kind" (.cons (.var 0) (.cons (.var 1) .nil)))) (.cons (.ret (.con (.bl false)))
 .nil) .nil)
 (.cons (.ret (.op .all (.cons (.comp 2 [2] (.zip (.op .idx (.cons (.var 0) (.cons (.con (.int 2)) .nil))) (.op .idx (.cons (.var 1) (.cons (.con (.int 2)) .nil)))) .nil fitsE) .nil)))
 .nil)))⟩
noncomputable def fitL:List F->List F->Fg->List Bool × Fg
 |x::r,y::t,m=>((fit x y m).1::(fitL r t (fit x y m).2).1,(fitL r t (fit x y m).2).2)
 |_,_,m=>([],m)
theorem fitL_fits:∀ (ps qs:List F) (m:Fg),(fitL ps qs m).1.all id=(fits ps qs m).1/\(fitL ps qs m).2=(fits ps qs m).2
 |x::r,y::t,m=>by
  have:=fitL_fits r t (fit x y m).2
  simp only[fitL,fits,List.all_cons,id_eq]
  exact⟨by rw[this.1],this.2⟩
 | [],_,m=>by simp[fitL,fits]
 |_::_,[],m=>by simp[fitL,fits]
theorem bools_map:∀ bs:List Bool,bools (bs.map G.bl)=some bs
 | []=>rfl
 |b::r=>by simp[bools,bools_map r]
theorem set_same{σ:Store}{i:Nat}{c:Cell}(h:σ[i]?=some c):σ.set i c=σ:=by
 have:=List.getElem?_eq_some_iff.mp h
 obtain⟨h1,h2⟩:=this
 rw[← h2,List.set_getElem_self]
theorem fits_loop{cl:CallH}{d:Nat}{σ0:Store}{e0 e1:Option R} :
 ∀ (ps qs:List F) (m:Fg) (τ:Store),τ[d]?=some (.dct (encD m))->m.length+szs ps<big->Low 75 m->deps qs<=75 →
 (∀ x∈ps,∀ (y:F) (m:Fg) (τ:Store),y∈qs->Low 75 m->τ[d]?=some (.dct (encD m))->m.length+sz x<big->cl "fits" [.g (enc x),.g (enc y),.ref d] τ = .ok (.g (.bl (fit x y m).1)) (τ.set d (.dct (encD (fit x y m).2)))) →
 compL (compF cl 2 [2] .nil fitsE [e0,e1,some (.ref d)]) none (zipR (encs ps) (encs qs)) τ = .ok ((fitL ps qs m).1.map fun b=>R.g (.bl b)) (τ.set d (.dct (encD (fitL ps qs m).2)))
 |x::r,y::t,m,τ,h,hl,hm,hq,hc=>by
  simp only[szs] at hl
  simp only[deps] at hq
  have e:=hc x List.mem_cons_self y m τ List.mem_cons_self hm h (by omega)
  have hs:(τ.set d (.dct (encD (fit x y m).2)))[d]?=some (.dct (encD (fit x y m).2)):=get_set h
  have ln:=fit_len x y m
  have ih:=fits_loop (cl:=cl) (σ0:=σ0) (e0:=e0) (e1:=e1) r t (fit x y m).2 _ hs (by omega) (fit_low x y m hm (by omega)) (by omega) fun x' hx y' m' τ' hy=>hc x' (List.mem_cons_of_mem _ hx) y' m' τ' (List.mem_cons_of_mem _ hy)
  rw[List.set_set] at ih
  simp only[encs,zipR,compL,intact,if_true]
  simp[e,ih,fitL]
 | [],qs,m,τ,h,hl,hm,hq,hc=>by simp[encs,zipR,compL,intact,fitL,set_same h]
 |x::r,[],m,τ,h,hl,hm,hq,hc=>by simp[encs,zipR,compL,intact,fitL,set_same h]
theorem run_fits(h1:look P "is_gap"=some fn_is_gap)(h2:look P "of_one_kind"=some fn_of_one_kind)(h3:look P "fits"=some fn_fits):∀ (n:Nat) (f g:F) (m:Fg) (d:Nat) (σ:Store),dep f+2<=n->dep g<=75->Low 75 m->m.length+sz f<big->σ[d]?=some (.dct (encD m)) →
 run P W n "fits" [.g (enc f),.g (enc g),.ref d] σ = .ok (.g (.bl (fit f g m).1)) (σ.set d (.dct (encD (fit f g m).2)))
 |0,_,_,_,_,_,h,_,_,_,_=>by omega
 |n+1,f,g,m,d,σ,h,hg,hm,hl,hd=>by
  have hdl:d<σ.length:=lt_of_get hd
  obtain⟨k,rfl⟩:∃ k,n=k+2:=⟨n-2,by have:=dep_pos f;omega⟩
  have ih:=run_fits h1 h2 h3 (k+2)
  have e:=run_is_gap (W:=W) h1 (n:=k+1) f σ
  have e2:=run_kind (W:=W) h1 h2 (n:=k) f g σ
  rw[run_call h3 _ _ _ rfl]
  generalize run P W (k+2)=cl at ih e e2
  cases f with
  |gap j =>
   simp only[enc] at e
   cases hv:dval m j with
   |some x =>
    have hv':dget (encD m) (.int j)=some (enc x):=by rw[dget_encD,hv];rfl
    have hx:dep x<=75:=hm.val hv
    simp[fn_fits,enc,at?,ixOf,e,recv_setdef hd,p_setdefY hd rfl (by simp[encD,sz] at hl ⊢;omega) hv',fit,hv,p_eq _ (shal_enc hx),peq_enc,set_same hd]
   |none =>
    have hv':dget (encD m) (.int j)=none:=by rw[dget_encD,hv];rfl
    simp[fn_fits,enc,at?,ixOf,e,recv_setdef hd,p_setdefN hd rfl (by simp[encD,sz] at hl ⊢;omega) hv',fit,hv,p_eq _ (shal_enc hg),peq_enc,dput_encD,take_set]
  |tie w ps =>
   simp only[dep,sz] at h hl
   cases g with
   |gap b=>simp[fn_fits,e,e2,kin,fit,set_same hd]
   |tie v qs =>
    by_cases hk:w=v/\ps.length=qs.length
    ·obtain⟨rfl,hk⟩:=hk
     have hkin:kin (.tie w ps) (.tie w qs)=true:=by simp[kin,hk]
     rw[hkin] at e2
     simp only[dep] at hg
     have lp:=fits_loop (cl:=cl) (d:=d) (σ0:=σ) (e0:=some (R.g (enc (.tie w ps)))) (e1:=some (R.g (enc (.tie w qs)))) ps qs m σ hd (by omega) hm (by omega) fun x hx y m' τ hy hm' hτ hlen=>by
      exact ih x y m' d τ (by have:=dep_le hx;omega) (by have:=dep_le hy;omega) hm' hlen hτ
     obtain⟨f1,f2⟩:=fitL_fits ps qs m
     have hp:(σ.set d (.dct (encD (fitL ps qs m).2))++[Cell.lst ((fitL ps qs m).1.map G.bl)])[σ.length]?=some (.lst ((fitL ps qs m).1.map G.bl)):=by
      rw[List.getElem?_append_right (by simp)];simp
     rw[f2] at lp hp
     simp only[enc] at e e2 lp
     simp[fn_fits,e,e2,enc,at?,ixOf,lp,mkLst_map,p_all hp (bools_map _),fit,hk,f1,f2,take_set_app]
    ·have hkin:kin (.tie w ps) (.tie v qs)=false:=by
      simp[kin]
      intro a;exact fun b=>hk ⟨a,b⟩
     rw[hkin] at e2
     simp[fn_fits,e,e2,fit,hk,set_same hd]
noncomputable def fn_covers:Fn:=⟨"covers",2,3,
 (.cons (.set 2 (.op .dct0 .nil))
 (.cons (.ret (.ifT (.call "fits" (.cons (.var 0) (.cons (.var 1) (.cons (.var 2) .nil)))) (.var 2) (.con .non)))
 .nil))⟩
noncomputable def fn_alike:Fn:=⟨"alike",2,2,
 (.cons (.ret (.andT (.op .notN (.cons (.call "covers" (.cons (.var 0) (.cons (.var 1) .nil))) (.cons (.con .non) .nil))) (.op .notN (.cons (.call "covers" (.cons (.var 1) (.cons (.var 0) .nil))) (.cons (.con .non) .nil)))))
 .nil)⟩
theorem low_nil(d:Nat):Low d []:=fun _ h=>by simp at h
theorem run_covers(h1:look P "is_gap"=some fn_is_gap)(h2:look P "of_one_kind"=some fn_of_one_kind)(h3:look P "fits"=some fn_fits)(h4:look P "covers"=some fn_covers){n:Nat}{f g:F}(σ:Store)(hn:dep f+3<=n)(hg:dep g<=75)(hl:sz f<big) :
 run P W n "covers" [.g (enc f),.g (enc g)] σ=if (fit f g []).1 then .ok (.ref σ.length) (σ++[.dct (encD (fit f g []).2)]) else .ok (.g .non) σ:=by
 obtain⟨k,rfl⟩:∃ k,n=k+1:=⟨n-1,by omega⟩
 have hs:(σ++[Cell.dct []])[σ.length]?=some (.dct (encD [])):=by simp[encD]
 have e:=run_fits (W:=W) h1 h2 h3 k f g [] σ.length (σ++[.dct []]) (by omega) hg (low_nil _) (by simpa using hl) hs
 rw[run_call h4 _ _ _ rfl]
 generalize run P W k=cl at e
 have hx:(σ++[Cell.dct []]).set σ.length (.dct (encD (fit f g []).2))=σ++[.dct (encD (fit f g []).2)]:=by simp
 rw[hx] at e
 cases hb:(fit f g []).1 with
 |true =>
  rw[hb] at e
  simp[fn_covers,setSlot,e]
  rw[fin_new (c:=.dct (encD (fit f g []).2)) (Nat.le_refl _) (by simp) rfl]
  simp
 |false =>
  rw[hb] at e
  simp[fn_covers,setSlot,e]
theorem run_alike(h1:look P "is_gap"=some fn_is_gap)(h2:look P "of_one_kind"=some fn_of_one_kind)(h3:look P "fits"=some fn_fits)(h4:look P "covers"=some fn_covers)(h5:look P "alike"=some fn_alike){n:Nat}{f g:F}(σ:Store)(hn:dep f+4<=n)(hn2:dep g+4<=n)(hf:dep f<=75)(hg:dep g<=75)(hl:sz f<big)(hl2:sz g<big) :
 run P W n "alike" [.g (enc f),.g (enc g)] σ = .ok (.g (.bl ((fit f g []).1 && (fit g f []).1))) σ:=by
 obtain⟨k,rfl⟩:∃ k,n=k+1:=⟨n-1,by omega⟩
 have e1:=fun σ=>run_covers (W:=W) h1 h2 h3 h4 (n:=k) σ (by omega:dep f+3<=k) hg hl
 have e2:=fun σ=>run_covers (W:=W) h1 h2 h3 h4 (n:=k) σ (by omega:dep g+3<=k) hf hl2
 rw[run_call h5 _ _ _ rfl]
 generalize run P W k=cl at e1 e2
 cases hb:(fit f g []).1<;>cases hc:(fit g f []).1<;>rw[hb] at e1<;>rw[hc] at e2<;>simp at e1 e2<;>simp[fn_alike,e1,e2,isNon]
end MP
namespace MP
variable {P:List Fn}{W:Nat}
noncomputable def addN(acc:List Int)(n:Int):List Int:=if n∈acc then acc else acc++[n]
mutual
noncomputable def lgaps:F->List Int
 | .gap n=>[n]
 | .tie _ ps=>lgapsL ps []
noncomputable def lgapsL:List F->List Int->List Int
 | [],acc=>acc
 |x::r,acc=>lgapsL r ((lgaps x).foldl addN acc)
end
theorem addN_len(acc:List Int)(n:Int):(addN acc n).length<=acc.length+1:=by
 unfold addN;split<;>simp
theorem foldN_len:∀ (l acc:List Int),(l.foldl addN acc).length<=acc.length+l.length
 | [],acc=>by simp
 |x::r,acc=>by
  have h1:=foldN_len r (addN acc x)
  have h2:=addN_len acc x
  simp only[List.foldl_cons,List.length_cons];omega
mutual
theorem lgaps_len:∀ f:F,(lgaps f).length<=sz f
 | .gap n=>by simp[lgaps,sz]
 | .tie w ps=>by have:=lgapsL_len ps [];simp only[lgaps,sz,List.length_nil] at this ⊢;omega
theorem lgapsL_len:∀ (ps:List F) (acc:List Int),(lgapsL ps acc).length<=acc.length+szs ps
 | [],acc=>by simp[lgapsL,szs]
 |x::r,acc=>by
  have h1:=lgaps_len x
  have h2:=foldN_len (lgaps x) acc
  have h3:=lgapsL_len r ((lgaps x).foldl addN acc)
  simp only[lgapsL,szs];omega
end
theorem any_int(acc:List Int)(n:Int):((acc.map G.int).any fun y=>peq y (.int n))=decide (n∈acc):=by
 induction acc with
 |nil=>simp
 |cons x r ih =>
  simp only[List.map_cons,List.any_cons,ih,peq,List.mem_cons]
  by_cases h:x=n
  ·simp[h]
  ·have h':¬ n=x:=fun z=>h z.symm
   by_cases h2:n∈r<;>simp[h,h',h2]
theorem shal_ints(acc:List Int):(acc.map G.int).all shal=true:=by
 simp[shal,gdep]
noncomputable abbrev gapsB:Blk:=(.cons (.ite (.op .notin (.cons (.var 3) (.cons (.var 1) .nil))) (.cons (.expr (.meth .append (.var 1) (.cons (.var 3) .nil)))
 .nil) .nil)
 .nil)
noncomputable abbrev gapsA:Blk:=(.cons (.forS [3] (.over (.call "_law_gaps" (.cons (.var 2) .nil))) gapsB)
 .nil)
noncomputable def fn__law_gaps:Fn:=⟨"_law_gaps",1,4,
 (.cons (.ite (.op .eq (.cons (.op .idx (.cons (.var 0) (.cons (.con (.int 0)) .nil))) (.cons (.con (.str [103,97,112])) .nil))) (.cons (.ret (.op .lst (.cons (.op .idx (.cons (.var 0) (.cons (.con (.int 1)) .nil))) .nil)))
 .nil) .nil)
 (.cons (.set 1 (.op .lst .nil))
 (.cons (.forS [2] (.over (.op .idx (.cons (.var 0) (.cons (.con (.int 2)) .nil)))) gapsA)
 (.cons (.ret (.var 1))
 .nil))))⟩
theorem gaps_inner{cl:CallH}{τ:Store}{k:Nat}{e0 e2:Option R}{ys:List Int}{junk:Store}(hk:k=τ.length){j:Nat}(hj:∀ acc:List Int,(τ ++ .lst (acc.map .int)::junk)[j]?=some (.lst (ys.map .int)))(hjk:j≠k) :
 ∀ (xs:List Int) (acc:List Int) (o:Option R),acc.length+xs.length<=big->∃ o',
  forL [3] (evB cl W gapsB) (some (j,.lst (ys.map .int))) (xs.map fun n=>.g (.int n)) [e0,some (.ref k),e2,o] (τ ++ .lst (acc.map .int)::junk)
   = .ok (.next [e0,some (.ref k),e2,o']) (τ ++ .lst ((xs.foldl addN acc).map .int)::junk)
 | [],acc,o,h=>⟨o,by rw[List.map_nil,forL_nil _ _ _ (by simp[intact,hj acc])];rfl⟩
 |x::r,acc,o,h=>by
  have hg:(τ ++ .lst (acc.map .int)::junk)[k]?=some (.lst (acc.map .int)):=by subst hk;simp
  have hset:∀ c,(τ ++ .lst (acc.map .int)::junk).set k c=τ++c::junk:=fun c=>by subst hk;rw[List.set_append_right _ _ (Nat.le_refl _)];simp
  simp only[List.length_cons] at h
  obtain⟨o',ih⟩:=gaps_inner hk hj hjk r (addN acc x) (some (.g (.int x))) (by have:=addN_len acc x;omega)
  refine⟨o',?_⟩
  rw[List.map_cons,forL_cons _ _ _ _ _ (by simp[intact,hj acc])]
  have hp:=p_notin (x:=.int x) hg (shal_ints acc)
  rw[any_int] at hp
  by_cases hm:x∈acc
  ·simp only[addN,hm,if_true] at ih
   simp[bindTg,setSlot,hp,hm,addN]
   exact ih
  ·simp only[addN,hm,if_false,List.map_append,List.map_cons,List.map_nil] at ih
   have hl:(acc.map G.int).length<big:=by simp;omega
   simp[bindTg,setSlot,hp,hm,addN,recv_append hg,p_append hg hl,hset]
   exact ih
theorem gaps_outer{cl:CallH}{τ:Store}{e0:Option R}:∀ (ps:List F) (acc:List Int) (o2 o3:Option R) (J:Store),acc.length+szs ps<=big →
 (∀ x∈ps,∀ σ,cl "_law_gaps" [.g (enc x)] σ = .ok (.ref σ.length) (σ++[.lst ((lgaps x).map .int)])) →
 ∃ o2' o3' J',forL [2] (evB cl W gapsA) none (ps.map fun x=>.g (enc x)) [e0,some (.ref τ.length),o2,o3] (τ ++ .lst (acc.map .int)::J)
  = .ok (.next [e0,some (.ref τ.length),o2',o3']) (τ ++ .lst ((lgapsL ps acc).map .int)::J')
 | [],acc,o2,o3,J,h,hc=>⟨o2,o3,J,by rw[List.map_nil,forL_nil _ _ _ rfl];simp[lgapsL]⟩
 |x::r,acc,o2,o3,J,h,hc=>by
  simp only[szs] at h
  have hlx:=lgaps_len x
  have h2:=foldN_len (lgaps x) acc
  have hj:∀ acc:List Int,(τ ++ .lst (acc.map .int)::(J++[.lst ((lgaps x).map .int)]))[τ.length+1+J.length]?=some (.lst ((lgaps x).map .int)):=fun acc=>by
   rw[List.getElem?_append_right (by omega)]
   rw[show τ.length+1+J.length-τ.length=J.length+1 by omega]
   simp
  obtain⟨o',mk⟩:=gaps_inner (W:=W) (cl:=cl) (τ:=τ) (e0:=e0) (e2:=some (.g (enc x))) (ys:=lgaps x) (junk:=J++[.lst ((lgaps x).map .int)]) rfl (j:=τ.length+1+J.length) hj (by omega) (lgaps x) acc o3 (by omega)
  obtain⟨o2',o3',J',ih⟩:=gaps_outer r ((lgaps x).foldl addN acc) (some (.g (enc x))) o' (J++[.lst ((lgaps x).map .int)]) (by omega) fun y hy=>hc y (List.mem_cons_of_mem _ hy)
  refine⟨o2',o3',J',?_⟩
  have e:=hc x List.mem_cons_self (τ ++ .lst (acc.map .int)::J)
  have hl:(τ++Cell.lst (acc.map .int)::J).length=τ.length+1+J.length:=by simp;omega
  have ha:(τ++Cell.lst (acc.map .int)::J)++[.lst ((lgaps x).map .int)]=τ++Cell.lst (acc.map .int)::(J++[.lst ((lgaps x).map .int)]):=by simp
  rw[hl,ha] at e
  have hw:=wOver_lst (hj acc)
  rw[List.map_map] at hw
  have hw:wOver (.ref (τ.length+1+J.length)) (τ ++ .lst (acc.map .int)::(J++[.lst ((lgaps x).map .int)])) = .ok ⟨(lgaps x).map fun n=>.g (.int n),some (τ.length+1+J.length,.lst ((lgaps x).map .int))⟩ (τ ++ .lst (acc.map .int)::(J++[.lst ((lgaps x).map .int)])):=hw
  rw[List.map_cons,forL_cons _ _ _ _ _ rfl]
  simp[bindTg,setSlot,e,hw,mk,lgapsL]
  exact ih
theorem szs_len(ps:List F):ps.length<=szs ps:=by
 induction ps with
 |nil=>simp
 |cons x r ih=>have:=sz_pos x;simp only[szs,List.length_cons];omega
theorem szs_mem(ps:List F):∀ x∈ps,sz x<=szs ps:=by
 intro x hx
 induction ps with
 |nil=>simp at hx
 |cons y r ih =>
  rcases List.mem_cons.mp hx with z|z
  ·subst z;simp[szs]
  ·have:=ih z;simp only[szs];omega
theorem run_lgaps(h1:look P "_law_gaps"=some fn__law_gaps):∀ (n:Nat) (f:F) (σ:Store),dep f<=n->sz f<=big →
 run P W n "_law_gaps" [.g (enc f)] σ = .ok (.ref σ.length) (σ++[.lst ((lgaps f).map .int)])
 |0,f,_,h,_=>by have:=dep_pos f;omega
 |n+1,f,σ,h,hs=>by
  have ih:=run_lgaps h1 n
  rw[run_call h1 _ _ _ rfl]
  generalize run P W n=cl at ih
  cases f with
  |gap j =>
   simp[fn__law_gaps,enc,at?,ixOf,peq,p_lst]
   rw[fin_new (c:=.lst [.int j]) (Nat.le_refl _) (by simp[mkLst,allG]) rfl]
   simp[lgaps]
  |tie w ps =>
   simp only[dep,sz] at h hs
   have hz:=szs_mem ps
   obtain⟨o2,o3,J,lp⟩:=gaps_outer (W:=W) (cl:=cl) (τ:=σ) (e0:=some (.g (enc (.tie w ps)))) ps [] none none [] (by simp;omega) fun x hx σ=>ih x σ (by have:=dep_le hx;omega) (by have:=hz x hx;omega)
   simp only[enc,encs_map] at lp
   have lp':forL [2] (evB cl W gapsA) none (ps.map fun x=>.g (enc x)) [some (R.g (G.tup [G.str sTie,G.str w,G.tup (List.map enc ps)])),some (.ref σ.length),none,none] (σ++[Cell.lst []])=_:=lp
   simp[fn__law_gaps,enc,at?,ixOf,peq,p_lst,mkLst_nil,setSlot,encs_map,Function.comp_def,lp']
   rw[fin_new (c:=.lst ((lgapsL ps []).map .int)) (Nat.le_refl _) (by simp) rfl]
   simp[lgaps]
theorem rangeL_cons{i j:Int}(h:i<j):rangeL i j = .g (.int i)::rangeL (i+1) j:=by
 unfold rangeL
 obtain⟨k,hk⟩:∃ k:Nat,(j-i).toNat=k+1:=⟨(j-i).toNat-1,by omega⟩
 have h2:(j-(i+1)).toNat=k:=by omega
 rw[hk,h2,List.range_succ_eq_map,List.map_cons,List.map_map]
 have e:List.map (fun(k:Nat)=>R.g (.int (i+(k:Int)))) (List.range k |>.map Nat.succ)=List.map (fun(k:Nat)=>R.g (.int (i+1+(k:Int)))) (List.range k):=by
  rw[List.map_map]
  refine List.map_congr_left fun x _ => ?_
  simp;omega
 rw[List.map_map] at e
 rw[e]
 simp
theorem rangeL_nil{i j:Int}(h:j<=i):rangeL i j=[]:=by
 unfold rangeL
 rw[show(j-i).toNat=0 by omega];rfl
noncomputable abbrev lcovC:Tm:=(.notT (.call "_law_covers" (.cons (.op .idx (.cons (.op .idx (.cons (.var 2) (.cons (.con (.int 2)) .nil))) (.cons (.var 0) .nil))) (.cons (.op .idx (.cons (.op .idx (.cons (.var 3) (.cons (.con (.int 2)) .nil))) (.cons (.var 0) .nil))) (.cons (.var 1) .nil)))))
noncomputable def fn__law_covers:Fn:=⟨"_law_covers",3,3,
 (.cons (.ite (.op .eq (.cons (.op .idx (.cons (.var 0) (.cons (.con (.int 0)) .nil))) (.cons (.con (.str [103,97,112])) .nil))) (.cons (.ite (.op .notin (.cons (.op .idx (.cons (.var 0) (.cons (.con (.int 1)) .nil))) (.cons (.var 2) .nil))) (.cons (.setIdx (.var 2) (.op .idx (.cons (.var 0) (.cons (.con (.int 1)) .nil))) (.var 1))
 .nil) .nil)
 (.cons (.ret (.op .eq (.cons (.op .idx (.cons (.var 2) (.cons (.op .idx (.cons (.var 0) (.cons (.con (.int 1)) .nil))) .nil))) (.cons (.var 1) .nil))))
 .nil)) .nil)
 (.cons (.ite (.orT (.op .eq (.cons (.op .idx (.cons (.var 1) (.cons (.con (.int 0)) .nil))) (.cons (.con (.str [103,97,112])) .nil))) (.orT (.op .ne (.cons (.op .idx (.cons (.var 0) (.cons (.con (.int 1)) .nil))) (.cons (.op .idx (.cons (.var 1) (.cons (.con (.int 1)) .nil))) .nil))) (.op .ne (.cons (.op .len (.cons (.op .idx (.cons (.var 0) (.cons (.con (.int 2)) .nil))) .nil)) (.cons (.op .len (.cons (.op .idx (.cons (.var 1) (.cons (.con (.int 2)) .nil))) .nil)) .nil))))) (.cons (.ret (.con (.bl false)))
 .nil) .nil)
 (.cons (.ret (.op .eq (.cons (.op .len (.cons (.comp 1 [2,0,1] (.range1 (.op .len (.cons (.op .idx (.cons (.var 0) (.cons (.con (.int 2)) .nil))) .nil))) (.cons lcovC .nil) (.var 0)) .nil)) (.cons (.con (.int 0)) .nil))))
 .nil)))⟩
theorem at_encs{ps:List F}{i:Nat}{x:F}(h:ps[i]?=some x):at? (encs ps) (i:Int)=some (enc x):=by
 apply at_nat
 rw[encs_map,List.getElem?_map,h];rfl
theorem drop_cons{α:Type}{ps r:List α}{x:α}{i:Nat}(h:ps.drop i=x::r):ps[i]?=some x/\ps.drop (i+1)=r/\i<ps.length:=by
 have hi:i<ps.length:=by
  by_cases hi:i<ps.length
  ·exact hi
  ·rw[List.drop_eq_nil_of_le (by omega)] at h;cases h
 rw[List.drop_eq_getElem_cons hi] at h
 cases h
 exact⟨List.getElem?_eq_getElem hi,rfl,hi⟩
theorem drop_nil{α:Type}{ps:List α}{i:Nat}(h:ps.drop i=[]):ps.length<=i:=by simpa using h
theorem lcov_loop{cl:CallH}{d:Nat}{w v:List Nat}{ps qs:List F}(hpq:ps.length=qs.length) :
 ∀ (i:Nat) (rs ts:List F) (m:Fg) (τ:Store),ps.drop i=rs->qs.drop i=ts->τ[d]?=some (.dct (encD m))->m.length+szs rs<big->Low 75 m->deps ts<=75 →
 (∀ x∈rs,∀ (y:F) (m:Fg) (τ:Store),y∈ts->Low 75 m->τ[d]?=some (.dct (encD m))->m.length+sz x<big->cl "_law_covers" [.g (enc x),.g (enc y),.ref d] τ = .ok (.g (.bl (fit x y m).1)) (τ.set d (.dct (encD (fit x y m).2)))) →
 ∃ is:List Int,compL (compF cl 1 [2,0,1] (.cons lcovC .nil) (.var 0) [some (.g (enc (.tie w ps))),some (.g (enc (.tie v qs))),some (.ref d)]) none (rangeL (i:Int) (ps.length:Int)) τ = .ok (is.map fun n=>R.g (.int n)) (τ.set d (.dct (encD (fits rs ts m).2)))/\(is=[]↔(fits rs ts m).1=true)
 |i,x::r,y::t,m,τ,hr,ht,h,hl,hm,hq,hc=>by
  simp only[szs] at hl
  simp only[deps] at hq
  obtain⟨a1,a2,a3⟩:=drop_cons hr
  obtain⟨b1,b2,b3⟩:=drop_cons ht
  have e:=hc x List.mem_cons_self y m τ List.mem_cons_self hm h (by omega)
  have hs:(τ.set d (.dct (encD (fit x y m).2)))[d]?=some (.dct (encD (fit x y m).2)):=get_set h
  have ln:=fit_len x y m
  obtain⟨is,ih,ih2⟩:=lcov_loop (cl:=cl) (w:=w) (v:=v) hpq (i+1) r t (fit x y m).2 _ a2 b2 hs (by omega) (fit_low x y m hm (by omega)) (by omega) fun x' hx y' m' τ' hy=>hc x' (List.mem_cons_of_mem _ hx) y' m' τ' (List.mem_cons_of_mem _ hy)
  rw[List.set_set] at ih
  have x1:=at_encs a1
  have y1:=at_encs b1
  rw[rangeL_cons (by omega)]
  have hii:((i+1:Nat):Int)=(i:Int)+1:=by omega
  rw[hii] at ih
  have i2:∀ (a b c:G),at? [a,b,c] 2=some c:=fun _ _ _=>rfl
  simp only[enc] at ih
  cases hb:(fit x y m).1 with
  |true =>
   rw[hb] at e
   refine⟨is,?_,by simp[fits,hb,ih2]⟩
   simp only[compL,intact,if_true]
   simp[enc,i2,x1,y1,e,ih,fits]
  |false =>
   rw[hb] at e
   refine⟨i::is,?_,by simp[fits,hb]⟩
   simp only[compL,intact,if_true]
   simp[enc,i2,x1,y1,e,ih,fits]
 |i,[],ts,m,τ,hr,ht,h,hl,hm,hq,hc=>⟨[],by rw[rangeL_nil (by have:=drop_nil hr;omega)];simp[compL,intact,fits,set_same h],by simp[fits]⟩
 |i,x::r,[],m,τ,hr,ht,h,hl,hm,hq,hc=>by
  have h1:=(drop_cons hr).2.2
  have h2:=drop_nil ht
  omega
theorem run_lcovers(h1:look P "_law_covers"=some fn__law_covers):∀ (n:Nat) (f g:F) (m:Fg) (d:Nat) (σ:Store),dep f<=n->dep g<=75->Low 75 m->m.length+sz f<big->σ[d]?=some (.dct (encD m)) →
 run P W n "_law_covers" [.g (enc f),.g (enc g),.ref d] σ = .ok (.g (.bl (fit f g m).1)) (σ.set d (.dct (encD (fit f g m).2)))
 |0,f,_,_,_,_,h,_,_,_,_=>by have:=dep_pos f;omega
 |n+1,f,g,m,d,σ,h,hg,hm,hl,hd=>by
  have hdl:d<σ.length:=lt_of_get hd
  have ih:=run_lcovers h1 n
  rw[run_call h1 _ _ _ rfl]
  generalize run P W n=cl at ih
  have l:∀ (xs:List F) (σ:Store),prim .len [.g (.tup (encs xs))] σ = .ok (.g (.int xs.length)) σ:=fun xs σ=>by rw[p_len (n:=xs.length)];simp[lenOf,encs_len]
  cases f with
  |gap j =>
   cases hv:dval m j with
   |some x =>
    have hv':dget (encD m) (.int j)=some (enc x):=by rw[dget_encD,hv];rfl
    have hx:dep x<=75:=hm.val hv
    simp[fn__law_covers,enc,at?,ixOf,peq,p_notinD hd,p_idxD hd,hv',fit,hv,p_eq _ (shal_enc hx),peq_enc,set_same hd]
   |none =>
    have hv':dget (encD m) (.int j)=none:=by rw[dget_encD,hv];rfl
    have hml:(encD m).length<big:=by simp only[encD,List.length_map,sz] at hl ⊢;omega
    have hs:(σ.set d (.dct (encD (dset m j g))))[d]?=some (.dct (encD (dset m j g))):=get_set hd
    have hv2:dget (encD (dset m j g)) (.int j)=some (enc g):=by rw[dget_encD,dval_dset];simp
    simp[fn__law_covers,enc,at?,ixOf,peq,p_notinD hd,hv',fit,hv,kPut3_dct (i:=.int j) (v:=enc g) hd rfl hml,dput_encD,p_idxD hs,hv2,p_eq _ (shal_enc hg),peq_enc,take_set]
  |tie w ps =>
   simp only[dep,sz] at h hl
   cases g with
   |gap b=>simp[fn__law_covers,enc,at?,ixOf,peq,fit,set_same hd]
   |tie v qs =>
    by_cases hk:w=v/\ps.length=qs.length
    ·obtain⟨rfl,hk⟩:=hk
     simp only[dep] at hg
     obtain⟨is,lp,lp2⟩:=lcov_loop (cl:=cl) (d:=d) (w:=w) (v:=w) (ps:=ps) (qs:=qs) hk 0 ps qs m σ rfl rfl hd (by omega) hm (by omega) fun x hx y m' τ hy hm' hτ hlen=>by
      exact ih x y m' d τ (by have:=dep_le hx;omega) (by have:=dep_le hy;omega) hm' hlen hτ
     have hr:wRange (.g (.int 0)) (.g (.int (ps.length:Int))) σ = .ok ⟨rangeL 0 ps.length,none⟩ σ :=
      wRange_ok (by
       have:=szs_len ps
       have hb:ps.length<=100000:=by unfold big at hl;omega
       simp[small,big];omega)
     have hp:lenOf (σ.set d (.dct (encD (fits ps qs m).2))++[Cell.lst (is.map G.int)]) (.ref σ.length)=some is.length:=by
      simp only[lenOf]
      rw[List.getElem?_append_right (by simp)];simp
     simp only[enc] at lp
     have lp':compL (compF cl 1 [2,0,1] (.cons lcovC .nil) (.var 0) [some (R.g (G.tup [G.str sTie,G.str w,G.tup (encs ps)])),some (R.g (G.tup [G.str sTie,G.str w,G.tup (encs qs)])),some (.ref d)]) none (rangeL 0 (ps.length:Int)) σ=_:=lp
     have hend:decide (is.length=0)=(fits ps qs m).1:=by
      cases hb:(fits ps qs m).1 with
      |true=>rw[lp2.mpr hb];rfl
      |false =>
       have:is ≠ []:=fun z=>by rw[lp2.mp z] at hb;cases hb
       simp[this]
     have hend':((is.length:Int) == 0)=(fits ps qs m).1:=by
      rw[← hend]
      by_cases z:is.length=0
      ·simp[z]
      ·simp[z]
     have i0:∀ (a b c:G),at? [a,b,c] 0=some a:=fun _ _ _=>rfl
     have i1:∀ (a b c:G),at? [a,b,c] 1=some b:=fun _ _ _=>rfl
     have i2:∀ (a b c:G),at? [a,b,c] 2=some c:=fun _ _ _=>rfl
     have q1:peq (.str sTie) (.str [103,97,112])=false:=rfl
     have q2:peq (.str w) (.str w)=true:=by simp[peq]
     have q3:peq (.int (ps.length:Int)) (.int (qs.length:Int))=true:=by simp[peq,hk]
     have q4:peq (.int (is.length:Int)) (.int 0)=(fits ps qs m).1:=by simp only[peq];exact hend'
     have hf:fit (.tie w ps) (.tie w qs) m=fits ps qs m:=by simp[fit,hk]
     rw[hf]
     simp[fn__law_covers,enc,i0,i1,i2,q1,q2,q3,l,hr,lp',mkLst_map,p_len hp,q4,take_set_app]
    ·have hf:fit (.tie w ps) (.tie v qs) m=(false,m):=by simp only[fit,if_neg hk]
     rw[hf]
     by_cases hw:w=v
     ·subst hw
      have hlen:¬ ps.length=qs.length:=fun z=>hk ⟨rfl,z⟩
      have q3:peq (.int (ps.length:Int)) (.int (qs.length:Int))=false:=by
       simp only[peq,beq_eq_false_iff_ne];omega
      have q4:((ps.length:Int) == (qs.length:Int))=false:=by simp only[beq_eq_false_iff_ne];omega
      simp[fn__law_covers,enc,at?,ixOf,peq,l,q4,set_same hd]
     ·have hb:(w == v)=false:=beq_eq_false_iff_ne.mpr hw
      simp[fn__law_covers,enc,at?,ixOf,peq,hb,set_same hd]
mutual
noncomputable def spots:F->List Int->List (List Int × F)
 | .gap n,p=>[(p,.gap n)]
 | .tie w ps,p=>(p,.tie w ps)::spotsL ps p 0
noncomputable def spotsL:List F->List Int->Nat->List (List Int × F)
 | [],_,_=>[]
 |x::r,p,i=>spots x (p++[(i:Int)])++spotsL r p (i+1)
end
mutual
theorem spots_len:∀ (f:F) (p:List Int),(spots f p).length=sz f
 | .gap n,p=>by simp[spots,sz]
 | .tie w ps,p=>by simp[spots,sz,spotsL_len ps p 0]
theorem spotsL_len:∀ (ps:List F) (p:List Int) (i:Nat),(spotsL ps p i).length=szs ps
 | [],_,_=>by simp[spotsL,szs]
 |x::r,p,i=>by simp[spotsL,szs,spots_len x,spotsL_len r p (i+1)]
end
noncomputable def encP(p:List Int):G:=.tup (p.map .int)
noncomputable def encS(s:List Int × F):G:=.tup [encP s.1,enc s.2]
noncomputable abbrev spotsB:Blk:=(.cons (.expr (.call "_law_spots" (.cons (.op .idx (.cons (.op .idx (.cons (.var 0) (.cons (.con (.int 2)) .nil))) (.cons (.var 3) .nil))) (.cons (.op .add (.cons (.var 1) (.cons (.op .tup (.cons (.var 3) .nil)) .nil))) (.cons (.var 2) .nil)))))
 .nil)
noncomputable def fn__law_spots:Fn:=⟨"_law_spots",3,4,
 (.cons (.expr (.meth .append (.var 2) (.cons (.op .tup (.cons (.var 1) (.cons (.var 0) .nil))) .nil)))
 (.cons (.ite (.op .eq (.cons (.op .idx (.cons (.var 0) (.cons (.con (.int 0)) .nil))) (.cons (.con (.str [116,105,101])) .nil))) (.cons (.forS [3] (.range1 (.op .len (.cons (.op .idx (.cons (.var 0) (.cons (.con (.int 2)) .nil))) .nil))) spotsB)
 .nil) .nil)
 (.cons (.ret (.var 2))
 .nil)))⟩
theorem spots_loop{cl:CallH}{d:Nat}{w:List Nat}{ps:List F}{p:List Int}(hp:p.length<50000) :
 ∀ (i:Nat) (rs:List F) (acc:List (List Int × F)) (τ:Store) (o:Option R),ps.drop i=rs->τ[d]?=some (.lst (acc.map encS))->acc.length+szs rs<=big →
 (∀ x∈rs,∀ (q:List Int) (acc:List (List Int × F)) (τ:Store),q.length<=p.length+1->τ[d]?=some (.lst (acc.map encS))->acc.length+sz x<=big->cl "_law_spots" [.g (enc x),.g (encP q),.ref d] τ = .ok (.ref d) (τ.set d (.lst ((acc++spots x q).map encS)))) →
 ∃ o',forL [3] (evB cl W spotsB) none (rangeL (i:Int) (ps.length:Int)) [some (.g (enc (.tie w ps))),some (.g (encP p)),some (.ref d),o] τ = .ok (.next [some (.g (enc (.tie w ps))),some (.g (encP p)),some (.ref d),o']) (τ.set d (.lst ((acc++spotsL rs p i).map encS)))
 |i,[],acc,τ,o,hr,h,hl,hc=>⟨o,by rw[rangeL_nil (by have:=drop_nil hr;omega),forL_nil _ _ _ rfl];simp[spotsL,set_same h]⟩
 |i,x::r,acc,τ,o,hr,h,hl,hc=>by
  simp only[szs] at hl
  obtain⟨a1,a2,a3⟩:=drop_cons hr
  have e:=hc x List.mem_cons_self (p++[(i:Int)]) acc τ (by simp) h (by omega)
  have hs:(τ.set d (.lst ((acc++spots x (p++[(i:Int)])).map encS)))[d]?=some (.lst ((acc++spots x (p++[(i:Int)])).map encS)):=get_set h
  obtain⟨o',ih⟩:=spots_loop (cl:=cl) (w:=w) hp (i+1) r (acc++spots x (p++[(i:Int)])) _ (some (.g (.int i))) a2 hs (by simp[spots_len];omega) fun x' hx=>hc x' (List.mem_cons_of_mem _ hx)
  refine⟨o',?_⟩
  rw[List.set_set] at ih
  rw[rangeL_cons (by omega),forL_cons _ _ _ _ _ rfl]
  have hii:((i+1:Nat):Int)=(i:Int)+1:=by omega
  rw[hii] at ih
  have x1:=at_encs a1
  have i2:∀ (a b c:G),at? [a,b,c] 2=some c:=fun _ _ _=>rfl
  have ha:prim .add [.g (encP p),.g (.tup [.int (i:Int)])] τ = .ok (.g (encP (p++[(i:Int)]))) τ:=by
   unfold encP
   rw[p_addT _ _ (by simp[big];omega)];simp
  simp only[enc] at ih ⊢
  simp[bindTg,setSlot,i2,x1,p_tup,mkTup,allG,ha,e,spotsL]
  rw[← List.append_assoc, ← List.map_append]
  simpa using ih
theorem run_spots(h1:look P "_law_spots"=some fn__law_spots):∀ (n:Nat) (f:F) (p:List Int) (acc:List (List Int × F)) (d:Nat) (σ:Store),dep f<=n->p.length+n<40000->acc.length+sz f<=big->σ[d]?=some (.lst (acc.map encS)) →
 run P W n "_law_spots" [.g (enc f),.g (encP p),.ref d] σ = .ok (.ref d) (σ.set d (.lst ((acc++spots f p).map encS)))
 |0,f,_,_,_,_,h,_,_,_=>by have:=dep_pos f;omega
 |n+1,f,p,acc,d,σ,h,hpn,hl,hd=>by
  have hdl:d<σ.length:=lt_of_get hd
  have ih:=run_spots h1 n
  rw[run_call h1 _ _ _ rfl]
  generalize run P W n=cl at ih
  have hap:(acc.map encS).length<big:=by simp;have:=sz_pos f;omega
  have ht:prim .tup [.g (encP p),.g (enc f)] σ = .ok (.g (encS (p,f))) σ:=by rw[p_tup (by simp)];rfl
  cases f with
  |gap j =>
   simp only[enc] at ht
   simp[fn__law_spots,enc,at?,ixOf,peq,ht,recv_append hd,p_append hd hap]
   rw[fin_old hdl,take_set]
   simp[spots]
  |tie w ps =>
   simp only[dep,sz] at h hl
   have hs:(σ.set d (.lst ((acc++[(p,F.tie w ps)]).map encS)))[d]?=some (.lst ((acc++[(p,F.tie w ps)]).map encS)):=get_set hd
   obtain⟨o',lp⟩:=spots_loop (W:=W) (cl:=cl) (w:=w) (ps:=ps) (p:=p) (by omega) 0 ps (acc++[(p,F.tie w ps)]) _ none rfl hs (by simp;omega) fun x hx q acc' τ hq hτ hl'=>ih x q acc' d τ (by have:=dep_le hx;omega) (by omega) hl' hτ
   rw[List.set_set] at lp
   simp only[enc] at lp ht
   have l:∀ (xs:List F) (σ:Store),prim .len [.g (.tup (encs xs))] σ = .ok (.g (.int xs.length)) σ:=fun xs σ=>by rw[p_len (n:=xs.length)];simp[lenOf,encs_len]
   have hr:∀ τ,wRange (.g (.int 0)) (.g (.int (ps.length:Int))) τ = .ok ⟨rangeL 0 ps.length,none⟩ τ:=fun τ =>
    wRange_ok (by
     have:=szs_len ps
     have hb:ps.length<=100000:=by unfold big at hl;omega
     simp[small,big];omega)
   have h0:((0:Nat):Int)=0:=rfl
   have lp':=lp
   rw[h0] at lp'
   simp only[List.map_append,List.map_cons,List.map_nil] at lp'
   simp[fn__law_spots,enc,at?,ixOf,peq,ht,recv_append hd,p_append hd hap,l,hr,lp']
   rw[fin_old hdl,take_set]
   simp[spots]
end MP
namespace MP
variable {P:List Fn}{W:Nat}
noncomputable def inP:F->List Int->Prop
 |_,[]=>True
 | .tie _ ps,i::p=>∃ (k:Nat) (x:F),i=(k:Int)/\ps[k]?=some x/\inP x p
 | .gap _,_::_=>False
noncomputable def openF(n:Int):F->List Int->F
 |_,[]=>.gap n
 | .tie w ps,i::p=>.tie w (ps.set i.toNat (openF n (ps.getD i.toNat (.gap 0)) p))
 | .gap k,_::_=>.gap k
mutual
theorem spots_in:∀ (f:F) (p:List Int) (s:List Int × F),s∈spots f p->∃ q,s.1=p++q/\inP f q
 | .gap n,p,s,h=>by simp only[spots,List.mem_singleton] at h;subst h;exact⟨[],by simp,by simp[inP]⟩
 | .tie w ps,p,s,h=>by
  simp only[spots,List.mem_cons] at h
  rcases h with h|h
  ·subst h;exact⟨[],by simp,by simp[inP]⟩
  ·obtain⟨k,x,q,e1,e2,e3⟩:=spotsL_in ps p 0 s h
   refine⟨((0+k:Nat):Int)::q,e2,k,x,by simp,e1,e3⟩
theorem spotsL_in:∀ (ps:List F) (p:List Int) (i:Nat) (s:List Int × F),s∈spotsL ps p i->∃ (k:Nat) (x:F) (q:List Int),ps[k]?=some x/\s.1=p++((i+k:Nat):Int)::q/\inP x q
 | [],_,_,s,h=>by simp[spotsL] at h
 |y::r,p,i,s,h=>by
  simp only[spotsL,List.mem_append] at h
  rcases h with h|h
  ·obtain⟨q,e1,e2⟩:=spots_in y _ s h
   exact⟨0,y,q,rfl,by simp[e1],e2⟩
  ·obtain⟨k,x,q,e1,e2,e3⟩:=spotsL_in r p (i+1) s h
   exact⟨k+1,x,q,by simpa using e1,by rw[e2,show i+1+k=i+(k+1) by omega],e3⟩
end
theorem inP_len:∀ {f:F} {p:List Int},inP f p->p.length+1<=dep f
 |f,[],_=>by have:=dep_pos f;simpa using this
 | .tie w ps,i::p,h=>by
  obtain⟨k,x,rfl,hx,hp⟩:=h
  have:=inP_len hp
  have:=dep_le (List.mem_of_getElem? hx)
  simp only[List.length_cons,dep];omega
theorem deps_set{n:Nat}{y:F}(hy:dep y<=n):∀ {ps:List F} (k:Nat),deps ps<=n->deps (ps.set k y)<=n
 | [],_,h=>by simpa using h
 |x::r,0,h=>by simp only[deps,List.set_cons_zero] at h ⊢;omega
 |x::r,k+1,h=>by
  simp only[deps,List.set_cons_succ] at h ⊢
  have:=deps_set hy (ps:=r) k (by omega)
  omega
theorem dep_open(n:Int):∀ {f:F} {p:List Int},inP f p->dep (openF n f p)<=dep f
 |f,[],_=>by have:=dep_pos f;simpa[openF,dep] using this
 | .tie w ps,i::p,h=>by
  obtain⟨k,x,rfl,hx,hp⟩:=h
  have h1:=dep_open n hp
  have h2:=dep_le (List.mem_of_getElem? hx)
  have h3:ps.getD k (.gap 0)=x:=by simp[List.getD,hx]
  simp only[openF,dep,Int.toNat_natCast,h3]
  have:=deps_set (y:=openF n x p) (n:=deps ps) (by omega) (ps:=ps) k (Nat.le_refl _)
  omega
theorem slim_open(n:Int):∀ {f:F} {p:List Int},inP f p->slim f->slim (openF n f p)
 |f,[],_,_=>by simp[openF,slim]
 | .tie w ps,i::p,h,hs=>by
  obtain⟨k,x,rfl,hx,hp⟩:=h
  have h3:ps.getD k (.gap 0)=x:=by simp[List.getD,hx]
  have h4:=slim_open n hp (slims_iff.mp hs.2 x (List.mem_of_getElem? hx))
  simp only[openF,slim,Int.toNat_natCast,h3,List.length_set]
  refine⟨hs.1,slims_iff.mpr fun f hf => ?_⟩
  rcases List.mem_or_eq_of_mem_set hf with z|z
  ·exact slims_iff.mp hs.2 f z
  ·rw[z];exact h4
noncomputable def fn__law_opened:Fn:=⟨"_law_opened",3,4,
 (.cons (.ite (.op .eq (.cons (.var 1) (.cons (.op .tup .nil) .nil))) (.cons (.ret (.op .tup (.cons (.con (.str [103,97,112])) (.cons (.var 2) .nil))))
 .nil) .nil)
 (.cons (.set 3 (.op .listOf (.cons (.op .idx (.cons (.var 0) (.cons (.con (.int 2)) .nil))) .nil)))
 (.cons (.setIdx (.var 3) (.op .idx (.cons (.var 1) (.cons (.con (.int 0)) .nil))) (.call "_law_opened" (.cons (.op .idx (.cons (.var 3) (.cons (.op .idx (.cons (.var 1) (.cons (.con (.int 0)) .nil))) .nil))) (.cons (.op (.slice true false) (.cons (.var 1) (.cons (.con (.int 1)) .nil))) (.cons (.var 2) .nil)))))
 (.cons (.ret (.op .tup (.cons (.con (.str [116,105,101])) (.cons (.op .idx (.cons (.var 0) (.cons (.con (.int 1)) .nil))) (.cons (.op .tupleOf (.cons (.var 3) .nil)) .nil)))))
 .nil))))⟩
theorem shal_encP(p:List Int):shal (encP p)=true:=by
 have:∀ l:List Int,gdeps (l.map G.int)=0:=fun l=>by
  induction l with
  |nil=>rfl
  |cons x r ih=>simp[gdeps,gdep,ih]
 simp[shal,encP,gdep,this]
theorem cut_tail{α:Type}(x:α)(r:List α):cut (x::r) (some 1) none=r:=by
 have h1:cutIx (x::r).length 0 (some 1)=1:=by simp[cutIx];omega
 have h2:cutIx (x::r).length (x::r).length none=(x::r).length:=rfl
 simp only[cut,h1,h2]
 simp
theorem run_opened(h1:look P "_law_opened"=some fn__law_opened)(num:Int):∀ (n:Nat) (f:F) (p:List Int) (σ:Store),inP f p->p.length+1<=n →
 run P W n "_law_opened" [.g (enc f),.g (encP p),.g (.int num)] σ = .ok (.g (enc (openF num f p))) σ
 |0,_,_,_,_,h=>by omega
 |n+1,f,[],σ,hi,h=>by
  rw[run_call h1 _ _ _ rfl]
  have hq:peq (encP []) (.tup [])=true:=rfl
  have ht:∀ τ,prim .tup [] τ = .ok (.g (.tup [])) τ:=fun τ=>rfl
  simp[fn__law_opened,ht,p_eq _ (shal_encP []),hq,p_tup,mkTup,allG,enc,openF]
 |n+1,.gap j,i::p,σ,hi,h=>by simp[inP] at hi
 |n+1,.tie w ps,i::p,σ,hi,h=>by
  obtain⟨k,x,rfl,hx,hp⟩:=hi
  have h3:ps.getD k (.gap 0)=x:=by simp[List.getD,hx]
  have ih:=run_opened h1 num n x p (σ++[.lst (encs ps)]) hp (by simp at h;omega)
  rw[run_call h1 _ _ _ rfl]
  generalize run P W n=cl at ih
  have hq:peq (encP ((k:Int)::p)) (.tup [])=false:=rfl
  have ht:∀ τ,prim .tup [] τ = .ok (.g (.tup [])) τ:=fun τ=>rfl
  have hg:(σ++[Cell.lst (encs ps)])[σ.length]?=some (.lst (encs ps)):=by simp
  have x1:=at_encs hx
  have hk:k<ps.length:=(List.getElem?_eq_some_iff.mp hx).1
  have hix:ixOf (encs ps).length (k:Int)=some k:=by
   simp[ixOf,encs_len,hk]
  have hset:(σ++[Cell.lst (encs ps)]).set σ.length (.lst ((encs ps).set k (enc (openF num x p))))=σ++[.lst (encs (ps.set k (openF num x p)))]:=by
   simp[encs_map,List.map_set]
  have hg2:(σ++[Cell.lst (encs (ps.set k (openF num x p)))])[σ.length]?=some (.lst (encs (ps.set k (openF num x p)))):=by simp
  have i0:at? ((((k:Int)::p).map G.int)) 0=some (.int k):=at_nat (j:=0) rfl
  have hc:cut (((k:Int)::p).map G.int) (some 1) none=p.map G.int:=cut_tail _ _
  have j1:∀ (a b c:G),at? [a,b,c] 1=some b:=fun _ _ _=>rfl
  have j2:∀ (a b c:G),at? [a,b,c] 2=some c:=fun _ _ _=>rfl
  have pe:∀ τ,prim .eq [.g (encP ((k:Int)::p)),.g (.tup [])] τ = .ok (.g (.bl false)) τ:=fun τ=>by rw[p_eq _ (shal_encP _),hq]
  simp only[encP,List.map_cons] at ih pe i0 hc
  simp[fn__law_opened,ht,encP,pe,enc,j1,j2,setSlot,i0,hc,p_idxL hg,x1,ih,kPut3_lst hg hix,hset,p_tupleL hg2,p_tup,mkTup,allG,openF,hx]
theorem run_spots_any(h1:look P "_law_spots"=some fn__law_spots)(n:Nat)(f:F)(τ:Store)(h:dep f<=n)(hn:n<=1000)(hb:sz f<=big) :
 run P W n "_law_spots" [.g (enc f),.g (.tup []),.ref τ.length] (τ++[.lst []]) = .ok (.ref τ.length) (τ++[.lst ((spots f []).map encS)]):=by
 have:=run_spots (W:=W) h1 n f [] [] τ.length (τ++[.lst []]) h (by simp;omega) (by simpa using hb) (by simp)
 simpa[encP] using this
inductive LoosN (base:Int):Nat->F->F->Prop where
 |refl (f:F):LoosN base 0 f f
 |step {k:Nat} {f g:F} {p:List Int}:LoosN base k f g->inP g p->LoosN base (k+1) f (openF (base+k) g p)
theorem LoosN.dep{base:Int}{k:Nat}{f g:F}(h:LoosN base k f g):MP.dep g<=MP.dep f:=by
 induction h with
 |refl=>exact Nat.le_refl _
 |step _ hp ih=>exact Nat.le_trans (dep_open _ hp) ih
theorem LoosN.slim{base:Int}{k:Nat}{f g:F}(h:LoosN base k f g)(hs:MP.slim f):MP.slim g:=by
 induction h with
 |refl=>exact hs
 |step _ hp ih=>exact slim_open _ hp (ih hs)
noncomputable def Loos(base:Int)(f g:F):Prop:=∃ k,k<=4/\LoosN base k f g
theorem Loos.dep{base:Int}{f g:F}(h:Loos base f g):MP.dep g<=MP.dep f:=h.elim fun _ q=>q.2.dep
theorem Loos.slim{base:Int}{f g:F}(h:Loos base f g)(hs:MP.slim f):MP.slim g:=h.elim fun _ q=>q.2.slim hs
noncomputable abbrev looseB:Blk:=(.cons (.set 1 (.op .mod (.cons (.op .add (.cons (.op .mul (.cons (.var 1) (.cons (.con (.int 48271)) .nil))) (.cons (.con (.int 23)) .nil))) (.cons (.con (.int 2147483647)) .nil))))
 (.cons (.set 4 (.call "_law_spots" (.cons (.var 0) (.cons (.op .tup .nil) (.cons (.op .lst .nil) .nil)))))
 (.cons (.set 0 (.call "_law_opened" (.cons (.var 0) (.cons (.op .idx (.cons (.op .idx (.cons (.var 4) (.cons (.op .mod (.cons (.op .fdiv (.cons (.var 1) (.cons (.con (.int 5)) .nil))) (.cons (.op .len (.cons (.var 4) .nil)) .nil))) .nil))) (.cons (.con (.int 0)) .nil))) (.cons (.op .add (.cons (.var 2) (.cons (.var 3) .nil))) .nil)))))
 .nil)))
noncomputable def fn__law_looser:Fn:=⟨"_law_looser",3,5,
 (.cons (.forS [3] (.range1 (.op .mod (.cons (.var 1) (.cons (.con (.int 4)) .nil)))) looseB)
 (.cons (.ret (.var 0))
 .nil))⟩
theorem loose_loop{cl:CallH}{base:Int}{σ:Store}{f:F}{N:Nat}(hN:N<=30)
 (hsp:∀ (g:F) (τ:Store),dep g<=N->slim g->cl "_law_spots" [.g (enc g),.g (.tup []),.ref τ.length] (τ++[.lst []]) = .ok (.ref τ.length) (τ++[.lst ((spots g []).map encS)]))
 (hop:∀ (g:F) (p:List Int) (num:Int) (τ:Store),dep g<=N->inP g p->cl "_law_opened" [.g (enc g),.g (encP p),.g (.int num)] τ = .ok (.g (enc (openF num g p))) τ) (hf:dep f<=N) (hs:slim f) (hz:∀ g:F,dep g<=N->slim g->sz g<=1000000) :
 ∀ (i:Nat) (k:Nat) (g:F) (c:Int) (o3 o4:Option R) (J:Store),i+k<=4->LoosN base i f g->∃ g' c' o3' o4' J',LoosN base (i+k) f g' ∧
  forL [3] (evB cl W looseB) none (rangeL (i:Int) ((i+k:Nat):Int)) [some (.g (enc g)),some (.g (.int c)),some (.g (.int base)),o3,o4] (σ++J)
   = .ok (.next [some (.g (enc g')),some (.g (.int c')),some (.g (.int base)),o3',o4']) (σ++J')
 |i,0,g,c,o3,o4,J,hi,hL=>⟨g,c,o3,o4,J,hL,by rw[rangeL_nil (by omega),forL_nil _ _ _ rfl]⟩
 |i,k+1,g,c,o3,o4,J,hi,hL=>by
  have hg:dep g<=N:=Nat.le_trans hL.dep hf
  have hgs:=hL.slim hs
  generalize hc1:(c*48271+23) % 2147483647=c1
  have e1:=hsp g (σ++J) hg hgs
  have hn0:0<(spots g []).length:=by rw[spots_len];exact sz_pos g
  obtain⟨j,hj⟩:∃ j:Nat,c1 / 5 % ((spots g []).length:Int)=j:=⟨(c1 / 5 % ((spots g []).length:Int)).toNat,by have:=Int.emod_nonneg (c1 / 5) (b:=((spots g []).length:Int)) (by omega);omega⟩
  have hjl:j<(spots g []).length:=by have:=Int.emod_lt_of_pos (c1 / 5) (b:=((spots g []).length:Int)) (by omega);omega
  obtain⟨s,hsj⟩:∃ s,(spots g [])[j]?=some s:=⟨_,List.getElem?_eq_getElem hjl⟩
  obtain⟨q,eq,hq⟩:=spots_in g [] s (List.mem_of_getElem? hsj)
  rw[List.nil_append] at eq
  have hatj:at? ((spots g []).map encS) (j:Int)=some (encS s):=at_nat (by rw[List.getElem?_map,hsj];rfl)
  have e2:=hop g q (base+i) (σ++J++[.lst ((spots g []).map encS)]) hg hq
  obtain⟨g',c',o3',o4',J',hL',ih⟩:=loose_loop (cl:=cl) (base:=base) (σ:=σ) hN hsp hop hf hs hz (i+1) k (openF (base+i) g q) c1 (some (.g (.int i))) (some (.ref (σ++J).length)) (J++[.lst ((spots g []).map encS)]) (by omega) (hL.step hq)
  refine⟨g',c',o3',o4',J',by rw[show i+(k+1)=i+1+k by omega];exact hL',?_⟩
  rw[rangeL_cons (by omega),forL_cons _ _ _ _ _ rfl]
  have hii:((i+1:Nat):Int)=(i:Int)+1:=by omega
  have hik:((i+1+k:Nat):Int)=((i+(k+1):Nat):Int):=by omega
  rw[hii,hik] at ih
  have m1:∀ τ,prim .mul [.g (.int c),.g (.int 48271)] τ = .ok (.g (.int (c*48271))) τ:=fun τ=>p_mul (by omega)
  have m2:∀ τ,prim .mod [.g (.int (c*48271+23)),.g (.int 2147483647)] τ = .ok (.g (.int c1)) τ:=fun τ=>by rw[p_mod (by omega),hc1]
  have m3:∀ τ,prim .fdiv [.g (.int c1),.g (.int 5)] τ = .ok (.g (.int (c1 / 5))) τ:=fun τ=>p_fdiv (by omega)
  have hgl:(σ++J++[Cell.lst ((spots g []).map encS)])[(σ++J).length]?=some (.lst ((spots g []).map encS)):=by simp
  have m4:prim .mod [.g (.int (c1 / 5)),.g (.int ((spots g []).length:Int))] (σ++J++[.lst ((spots g []).map encS)]) = .ok (.g (.int j)) (σ++J++[.lst ((spots g []).map encS)]):=by rw[p_mod (by omega),hj]
  have m5:prim .len [.ref (σ++J).length] (σ++J++[.lst ((spots g []).map encS)]) = .ok (.g (.int ((spots g []).length:Int))) (σ++J++[.lst ((spots g []).map encS)]):=by rw[p_len (n:=(spots g []).length)];simp[lenOf]
  have ht:∀ τ,prim .tup [] τ = .ok (.g (.tup [])) τ:=fun τ=>rfl
  have hs0:at? [encP s.1,enc s.2] 0=some (encP q):=by rw[← eq];rfl
  have hes:encS s = .tup [encP s.1,enc s.2]:=rfl
  have hap:σ++(J++[Cell.lst ((spots g []).map encS)])=σ++J++[Cell.lst ((spots g []).map encS)]:=by simp
  rw[hap] at ih
  generalize hT:σ++J=T at *
  simp[bindTg,setSlot,m1,m2,ht,p_lst,mkLst_nil,e1,m3,m5,m4,p_idxL hgl,hatj,hes,hs0,e2]
  simpa using ih
theorem run_looser(h1:look P "_law_spots"=some fn__law_spots)(h2:look P "_law_opened"=some fn__law_opened)(h3:look P "_law_looser"=some fn__law_looser){n:Nat}(f:F)(c base:Int)(σ:Store)(hn:dep f+1<=n)(hn2:n<=1000)(hd:dep f<=8)(hs:slim f) :
 ∃ g,Loos base f g/\run P W n "_law_looser" [.g (enc f),.g (.int c),.g (.int base)] σ = .ok (.g (enc g)) σ:=by
 obtain⟨k,rfl⟩:∃ k,n=k+1:=⟨n-1,by omega⟩
 have hz:∀ g:F,dep g<=dep f->slim g->sz g<=30000:=fun g hg hs=>sz_small hs (by omega)
 have hsp:∀ (g:F) (τ:Store),dep g<=dep f->slim g->run P W k "_law_spots" [.g (enc g),.g (.tup []),.ref τ.length] (τ++[.lst []]) = .ok (.ref τ.length) (τ++[.lst ((spots g []).map encS)]):=fun g τ hg hs=>by
  have hz':=hz g hg hs
  obtain⟨j,hj⟩:∃ j,dep f=j:=⟨_,rfl⟩
  have:=run_spots_any (W:=W) h1 k g τ (by omega) (by omega) (by unfold big;omega)
  exact this
 have hop:∀ (g:F) (p:List Int) (num:Int) (τ:Store),dep g<=dep f->inP g p->run P W k "_law_opened" [.g (enc g),.g (encP p),.g (.int num)] τ = .ok (.g (enc (openF num g p))) τ:=fun g p num τ hg hp=>run_opened h2 num k g p τ hp (by have:=inP_len hp;omega)
 rw[run_call h3 _ _ _ rfl]
 generalize run P W k=cl at hsp hop
 obtain⟨j,hj⟩:∃ j:Nat,c % 4=j:=⟨(c % 4).toNat,by omega⟩
 have hj4:j<4:=by omega
 obtain⟨g',c',o3',o4',J',hL',lp⟩:=loose_loop (W:=W) (cl:=cl) (base:=base) (σ:=σ) (f:=f) (N:=dep f) (by omega) hsp hop (Nat.le_refl _) hs (fun g hg hs=>by have:=hz g hg hs;omega) 0 j f c none none [] (by omega) (.refl f)
 refine⟨g',⟨_,by omega,hL'⟩,?_⟩
 have h0:((0:Nat):Int)=0:=rfl
 rw[h0,Nat.zero_add,List.append_nil] at lp
 have hr:wRange (.g (.int 0)) (.g (.int (j:Int))) σ = .ok ⟨rangeL 0 j,none⟩ σ:=wRange_ok (by simp[small,big];omega)
 have m:prim .mod [.g (.int c),.g (.int 4)] σ = .ok (.g (.int j)) σ:=by rw[p_mod (by omega),hj]
 simp[fn__law_looser,m,hr,lp]
end MP
namespace MP
variable {P:List Fn}{W:Nat}
theorem OkFg.slim{many:Int}{d:Nat}{ns:List Int}{m:Fg}(h:OkFg many d ns m):∀ p∈m,MP.slim p.2:=fun p hp=>okF_slim (h.form p hp).2
end MP
namespace MP
mutual
noncomputable def sub(s:Int->F):F->F
 | .gap n=>s n
 | .tie w ps=>.tie w (subs s ps)
noncomputable def subs(s:Int->F):List F->List F
 | []=>[]
 |x::r=>sub s x::subs s r
end
noncomputable def asS(m:Fg)(n:Int):F:=(dval m n).getD (.gap n)
mutual
theorem fill_sub(m:Fg):∀ f:F,fill m f=sub (asS m) f
 | .gap n=>rfl
 | .tie w ps=>by simp only[fill,sub,fills_subs m ps]
theorem fills_subs(m:Fg):∀ ps:List F,fills m ps=subs (asS m) ps
 | []=>rfl
 |x::r=>by simp only[fills,subs,fill_sub m x,fills_subs m r]
end
mutual
noncomputable def gn:F->List Int
 | .gap n=>[n]
 | .tie _ ps=>gns ps
noncomputable def gns:List F->List Int
 | []=>[]
 |x::r=>gn x++gns r
end
mutual
theorem sub_congr{s t:Int->F}:∀ {f:F},(∀ n∈gn f,s n=t n)->sub s f=sub t f
 | .gap n,h=>h n (by simp[gn])
 | .tie w ps,h=>by simp only[sub];rw[subs_congr (ps:=ps) h]
theorem subs_congr{s t:Int->F}:∀ {ps:List F},(∀ n∈gns ps,s n=t n)->subs s ps=subs t ps
 | [],_=>rfl
 |x::r,h=>by
  simp only[gns,List.mem_append] at h
  simp only[subs]
  rw[sub_congr (f:=x) fun n hn=>h n (.inl hn),subs_congr (ps:=r) fun n hn=>h n (.inr hn)]
end
mutual
theorem sub_sub(s t:Int->F):∀ f:F,sub t (sub s f)=sub (fun n=>sub t (s n)) f
 | .gap n=>rfl
 | .tie w ps=>by simp only[sub,subs_subs s t ps]
theorem subs_subs(s t:Int->F):∀ ps:List F,subs t (subs s ps)=subs (fun n=>sub t (s n)) ps
 | []=>rfl
 |x::r=>by simp only[subs,sub_sub s t x,subs_subs s t r]
end
mutual
theorem sub_gap:∀ f:F,sub F.gap f=f
 | .gap n=>rfl
 | .tie w ps=>by simp only[sub,subs_gap ps]
theorem subs_gap:∀ ps:List F,subs F.gap ps=ps
 | []=>rfl
 |x::r=>by simp only[subs,sub_gap x,subs_gap r]
end
theorem subs_len(s:Int->F):∀ ps:List F,(subs s ps).length=ps.length
 | []=>rfl
 |x::r=>by simp[subs,subs_len s r]
noncomputable def Agr(m:Fg)(s:Int->F):Prop:=∀ n v,dval m n=some v->v=s n
theorem Agr.nil(s:Int->F):Agr [] s:=fun n v h=>by simp[dval] at h
mutual
theorem fit_of_sub{s:Int->F}:∀ (f:F) (m:Fg),Agr m s->(fit f (sub s f) m).1=true/\Agr (fit f (sub s f) m).2 s
 | .gap n,m,h=>by
  simp only[fit,sub]
  cases e:dval m n with
  |some v =>
   have:=h n v e
   subst this
   exact⟨by simp,h⟩
  |none =>
   refine⟨rfl,fun k v hv => ?_⟩
   rw[dval_dset] at hv
   split at hv
   ·rename_i z;cases hv;rw[z]
   ·exact h k v hv
 | .tie w ps,m,h=>by
  simp only[fit,sub,subs_len,and_self,if_true]
  exact fits_of_subs ps m h
theorem fits_of_subs{s:Int->F}:∀ (ps:List F) (m:Fg),Agr m s->(fits ps (subs s ps) m).1=true/\Agr (fits ps (subs s ps) m).2 s
 | [],m,h=>by simp only[fits,subs];exact⟨trivial,h⟩
 |x::r,m,h=>by
  obtain⟨h1,h2⟩:=fit_of_sub x m h
  obtain⟨h3,h4⟩:=fits_of_subs r _ h2
  simp only[fits,subs]
  exact⟨by rw[h1,h3];rfl,h4⟩
end
noncomputable def Kp(m m':Fg):Prop:=∀ n v,dval m n=some v->dval m' n=some v
mutual
theorem fit_kp:∀ (f g:F) (m:Fg),Kp m (fit f g m).2
 | .gap n,g,m=>by
  simp only[fit]
  cases e:dval m n with
  |some v=>exact fun _ _ h=>h
  |none =>
   intro k v hv
   rw[dval_dset]
   split
   ·rename_i z;subst z;rw[e] at hv;cases hv
   ·exact hv
 | .tie _ _,.gap _,m=>by simp only[fit];exact fun _ _ h=>h
 | .tie w ps,.tie v qs,m=>by
  simp only[fit]
  split
  ·exact fits_kp ps qs m
  ·exact fun _ _ h=>h
theorem fits_kp:∀ (ps qs:List F) (m:Fg),Kp m (fits ps qs m).2
 |x::r,y::t,m=>by
  simp only[fits]
  exact fun n v h=>fits_kp r t _ n v (fit_kp x y m n v h)
 | [],_,m=>by simp only[fits];exact fun _ _ h=>h
 |_::_,[],m=>by simp only[fits];exact fun _ _ h=>h
end
mutual
theorem fit_sound:∀ (f g:F) (m m':Fg),(fit f g m).1=true->Kp (fit f g m).2 m'->sub (asS m') f=g
 | .gap n,g,m,m',h,k=>by
  simp only[fit] at h k
  cases e:dval m n with
  |some v =>
   rw[e] at h k
   have hv:v=g:=enc_inj (of_decide_eq_true h)
   have:=k n v e
   simp only[sub,asS,this,hv,Option.getD_some]
  |none =>
   rw[e] at h k
   have:=k n g (by rw[dval_dset];simp)
   simp only[sub,asS,this,Option.getD_some]
 | .tie _ _,.gap _,m,m',h,k=>by simp[fit] at h
 | .tie w ps,.tie v qs,m,m',h,k=>by
  simp only[fit] at h k
  split at h
  ·rename_i z
   rw[if_pos z] at k
   simp only[sub]
   rw[fits_sound ps qs m m' z.2 h k,z.1]
  ·cases h
theorem fits_sound:∀ (ps qs:List F) (m m':Fg),ps.length=qs.length->(fits ps qs m).1=true->Kp (fits ps qs m).2 m'->subs (asS m') ps=qs
 |x::r,y::t,m,m',hl,h,k=>by
  simp only[fits,Bool.and_eq_true] at h k
  have h1:=fit_sound x y m m' h.1 fun n v hv=>k n v (fits_kp r t _ n v hv)
  have h2:=fits_sound r t _ m' (by simpa using hl) h.2 k
  simp only[subs,h1,h2]
 | [],[],m,m',hl,h,k=>rfl
 | [],_::_,m,m',hl,h,k=>by simp at hl
 |_::_,[],m,m',hl,h,k=>by simp at hl
end
theorem fit_iff(f g:F):(fit f g []).1=true↔∃ s,sub s f=g:=by
 constructor
 ·intro h
  exact⟨_,fit_sound f g [] _ h fun _ _ h=>h⟩
 ·rintro⟨s,rfl⟩
  exact(fit_of_sub f [] (Agr.nil s)).1
theorem mem_addN{acc:List Int}{n k:Int}:k∈addN acc n↔k∈acc\/k=n:=by
 unfold addN
 split
 ·rename_i h;constructor
  ·exact .inl
  ·rintro(z|z)
   ·exact z
   ·rw[z];exact h
 ·simp
theorem mem_foldN:∀ {l acc:List Int} {k:Int},k∈l.foldl addN acc↔k∈acc\/k∈l
 | [],acc,k=>by simp
 |x::r,acc,k=>by
  simp only[List.foldl_cons,List.mem_cons]
  rw[mem_foldN,mem_addN,or_assoc]
theorem nd_addN{acc:List Int}(n:Int)(h:acc.Nodup):(addN acc n).Nodup:=by
 unfold addN
 split
 ·exact h
 ·rename_i z
  rw[List.nodup_append]
  exact⟨h,by simp,fun a ha b hb e=>by simp at hb;subst hb e;exact z ha⟩
theorem nd_foldN:∀ (l:List Int) {acc:List Int},acc.Nodup->(l.foldl addN acc).Nodup
 | [],_,h=>h
 |x::r,_,h=>nd_foldN r (nd_addN x h)
theorem fold_there:∀ {l acc:List Int},(∀ k∈l,k∈acc)->l.foldl addN acc=acc
 | [],_,_=>rfl
 |x::r,acc,h=>by
  have hx:x∈acc:=h x List.mem_cons_self
  simp only[List.foldl_cons]
  rw[show addN acc x=acc by simp[addN,hx]]
  exact fold_there fun k hk=>h k (List.mem_cons_of_mem _ hk)
theorem addN_comm_aux{acc:List Int}{n:Int}(h:n∈acc):addN acc n=acc:=by simp[addN,h]
theorem fold_ded:∀ (l pre acc:List Int),(∀ k∈pre,k∈acc)->(l.foldl addN pre).foldl addN acc=l.foldl addN acc
 | [],pre,acc,h=>fold_there h
 |x::r,pre,acc,h=>by
  simp only[List.foldl_cons]
  by_cases hx:x∈pre
  ·rw[addN_comm_aux hx,addN_comm_aux (h x hx)]
   exact fold_ded r pre acc h
  ·have e:addN pre x=pre++[x]:=by simp[addN,hx]
   rw[e]
   have gen:∀ (r pre:List Int),∃ t,r.foldl addN pre=pre++t:=fun r=>by
    induction r with
    |nil=>exact fun pre=>⟨[],by simp⟩
    |cons y r ih =>
     intro pre
     simp only[List.foldl_cons]
     by_cases hy:y∈pre
     ·rw[addN_comm_aux hy];exact ih pre
     ·have e:addN pre y=pre++[y]:=by simp[addN,hy]
      rw[e]
      obtain⟨t,ht⟩:=ih (pre++[y])
      exact⟨y::t,by rw[ht];simp⟩
   obtain⟨t,ht⟩:=gen r (pre++[x])
   have e2:=fold_ded r (pre++[x]) (addN acc x) fun k hk=>by
    rw[mem_addN]
    rcases List.mem_append.mp hk with z|z
    ·exact .inl (h k z)
    ·simp at z;exact .inr z
   rw[← e2,ht]
   simp only[List.foldl_append,List.foldl_cons,List.foldl_nil]
   rw[fold_there h,fold_there (l:=pre) (acc:=addN acc x) fun k hk=>mem_addN.mpr (.inl (h k hk)),addN_comm_aux (acc:=addN acc x) (n:=x) (mem_addN.mpr (.inr rfl))]
mutual
theorem lgaps_gn:∀ f:F,lgaps f=(gn f).foldl addN []
 | .gap n=>by simp[lgaps,gn,addN]
 | .tie w ps=>by simp only[lgaps,gn];exact lgapsL_gns ps []
theorem lgapsL_gns:∀ (ps:List F) (acc:List Int),lgapsL ps acc=(gns ps).foldl addN acc
 | [],acc=>rfl
 |x::r,acc=>by
  simp only[lgapsL,gns,List.foldl_append]
  rw[lgapsL_gns r,lgaps_gn x,fold_ded (gn x) [] acc (by simp)]
end
theorem lgaps_nd(f:F):(lgaps f).Nodup:=by rw[lgaps_gn];exact nd_foldN _ List.nodup_nil
theorem mem_lgaps{f:F}{n:Int}:n∈lgaps f↔n∈gn f:=by rw[lgaps_gn,mem_foldN];simp
mutual
noncomputable def tn:F->Nat
 | .gap _=>0
 | .tie _ ps=>tns ps+1
noncomputable def tns:List F->Nat
 | []=>0
 |x::r=>tn x+tns r
end
mutual
theorem sz_gn:∀ f:F,sz f=tn f+(gn f).length
 | .gap _=>by simp[sz,tn,gn]
 | .tie _ ps=>by have:=szs_gn ps;simp only[sz,tn,gn];omega
theorem szs_gn:∀ ps:List F,szs ps=tns ps+(gns ps).length
 | []=>by simp[szs,tns,gns]
 |x::r=>by have h1:=sz_gn x;have h2:=szs_gn r;simp only[szs,tns,gns,List.length_append];omega
end
mutual
theorem gn_sub(s:Int->F):∀ f:F,gn (sub s f)=(gn f).flatMap fun n=>gn (s n)
 | .gap n=>by simp[sub,gn]
 | .tie w ps=>by simp only[sub,gn];exact gns_subs s ps
theorem gns_subs(s:Int->F):∀ ps:List F,gns (subs s ps)=(gns ps).flatMap fun n=>gn (s n)
 | []=>by simp[subs,gns]
 |x::r=>by simp only[subs,gns,List.flatMap_append,gn_sub s x,gns_subs s r]
end
noncomputable def sumT(s:Int->F):List Int->Nat
 | []=>0
 |x::r=>tn (s x)+sumT s r
theorem sumT_app(s:Int->F):∀ a b:List Int,sumT s (a++b)=sumT s a+sumT s b
 | [],b=>by simp[sumT]
 |x::r,b=>by simp only[List.cons_append,sumT,sumT_app s r b];omega
mutual
theorem tn_sub(s:Int->F):∀ f:F,tn (sub s f)=tn f+sumT s (gn f)
 | .gap n=>by simp[sub,tn,gn,sumT]
 | .tie w ps=>by have:=tns_subs s ps;simp only[sub,tn,gn];omega
theorem tns_subs(s:Int->F):∀ ps:List F,tns (subs s ps)=tns ps+sumT s (gns ps)
 | []=>by simp[subs,tns,gns,sumT]
 |x::r=>by have h1:=tn_sub s x;have h2:=tns_subs s r;simp only[subs,tns,gns,sumT_app];omega
end
noncomputable def dup:List Int->Nat
 | []=>0
 |x::r=>dup r+if x∈r then 1 else 0
noncomputable def dedr:List Int->List Int
 | []=>[]
 |x::r=>if x∈r then dedr r else x::dedr r
theorem mem_dedr:∀ {l:List Int} {k:Int},k∈dedr l↔k∈l
 | [],k=>by simp[dedr]
 |x::r,k=>by
  simp only[dedr]
  split
  ·rename_i h
   rw[mem_dedr,List.mem_cons]
   constructor
   ·exact .inr
   ·rintro(z|z)
    ·rw[z];exact h
    ·exact z
  ·simp[mem_dedr]
theorem nd_dedr:∀ l:List Int,(dedr l).Nodup
 | []=>by simp[dedr]
 |x::r=>by
  simp only[dedr]
  split
  ·exact nd_dedr r
  ·rename_i h
   rw[List.nodup_cons]
   exact⟨fun z=>h (mem_dedr.mp z),nd_dedr r⟩
theorem dedr_dup:∀ l:List Int,(dedr l).length+dup l=l.length
 | []=>rfl
 |x::r=>by
  have:=dedr_dup r
  simp only[dedr,dup]
  split<;>simp<;>omega
theorem lgaps_dup(f:F):(lgaps f).length+dup (gn f)=(gn f).length:=by
 have h1:(lgaps f).length<=(dedr (gn f)).length:=nodup_len (lgaps_nd f) fun x hx=>mem_dedr.mpr (mem_lgaps.mp hx)
 have h2:(dedr (gn f)).length<=(lgaps f).length:=nodup_len (nd_dedr _) fun x hx=>mem_lgaps.mpr (mem_dedr.mp hx)
 have:=dedr_dup (gn f)
 omega
noncomputable def rnk(f:F):Nat:=sz f-(lgaps f).length
theorem rnk_is(f:F):rnk f=tn f+dup (gn f):=by
 have h1:=sz_gn f
 have h2:=lgaps_dup f
 unfold rnk;omega
theorem dup_there:∀ (a b:List Int),(∀ k∈a,k∈b)->dup (a++b)=dup b+a.length
 | [],b,_=>by simp
 |x::r,b,h=>by
  have h1:=dup_there r b fun k hk=>h k (List.mem_cons_of_mem _ hk)
  have h2:x∈r++b:=List.mem_append_right _ (h x List.mem_cons_self)
  simp only[List.cons_append,dup,h1,if_pos h2,List.length_cons];omega
theorem dup_app_le:∀ (a b:List Int),dup b<=dup (a++b)
 | [],b=>by simp
 |x::r,b=>by have:=dup_app_le r b;simp only[List.cons_append,dup];omega
theorem tn_zero:∀ {f:F},tn f=0->∃ n,f = .gap n
 | .gap n,_=>⟨n,rfl⟩
 | .tie _ _,h=>by simp[tn] at h
theorem grow(s:Int->F):∀ l:List Int,dup l<=sumT s l+dup (l.flatMap fun n=>gn (s n)) ∧
 (dup l=sumT s l+dup (l.flatMap fun n=>gn (s n))->∃ t:Int->Int,(∀ n∈l,s n = .gap (t n))/\∀ n∈l,∀ k∈l,t n=t k->n=k)
 | []=>⟨by simp[dup,sumT],fun _=>⟨id,by simp,by simp⟩⟩
 |x::r=>by
  obtain⟨ih1,ih2⟩:=grow s r
  have hsz:=sz_gn (s x)
  have hpos:=sz_pos (s x)
  simp only[dup,sumT,List.flatMap_cons]
  by_cases hx:x∈r
  ·have hd:=dup_there (gn (s x)) (r.flatMap fun n=>gn (s n)) fun k hk=>List.mem_flatMap.mpr ⟨x,hx,hk⟩
   rw[if_pos hx,hd]
   refine⟨by omega,fun h => ?_⟩
   obtain⟨t,t1,t2⟩:=ih2 (by omega)
   refine⟨t,fun n hn => ?_,fun n hn k hk => ?_⟩
   ·rcases List.mem_cons.mp hn with z|z
    ·rw[z];exact t1 x hx
    ·exact t1 n z
   ·have hn':n∈r:=by rcases List.mem_cons.mp hn with z|z;rw[z];exact hx;exact z
    have hk':k∈r:=by rcases List.mem_cons.mp hk with z|z;rw[z];exact hx;exact z
    exact t2 n hn' k hk'
  ·have hle:=dup_app_le (gn (s x)) (r.flatMap fun n=>gn (s n))
   rw[if_neg hx]
   refine⟨by omega,fun h => ?_⟩
   obtain⟨t,t1,t2⟩:=ih2 (by omega)
   obtain⟨y,hy⟩:=tn_zero (f:=s x) (by omega)
   have hyn:¬ y∈r.flatMap fun n=>gn (s n):=fun z=>by
    rw[hy] at h
    simp only[tn,gn,List.cons_append,List.nil_append,dup,if_pos z] at h
    omega
   refine⟨fun n=>if n=x then y else t n,fun n hn => ?_,fun n hn k hk => ?_⟩
   ·by_cases e:n=x
    ·simp[e,hy]
    ·rcases List.mem_cons.mp hn with z|z
     ·exact absurd z e
     ·simp[e,t1 n z]
   ·have far:∀ k∈r,t k≠y:=fun k hk z=>hyn (List.mem_flatMap.mpr ⟨k,hk,by rw[t1 k hk,z];simp[gn]⟩)
    rcases List.mem_cons.mp hn with z1|z1<;>rcases List.mem_cons.mp hk with z2|z2
    ·intro _;rw[z1,z2]
    ·intro h
     subst z1
     have:k≠n:=fun q=>hx (q ▸ z2)
     simp only[if_true,if_neg this] at h
     exact absurd h.symm (far k z2)
    ·intro h
     subst z2
     have:n≠k:=fun q=>hx (q ▸ z1)
     simp only[if_true,if_neg this] at h
     exact absurd h (far n z1)
    ·intro h
     have a1:n≠x:=fun q=>hx (q ▸ z1)
     have a2:k≠x:=fun q=>hx (q ▸ z2)
     simp only[if_neg a1,if_neg a2] at h
     exact t2 n z1 k z2 h
theorem rnk_le(s:Int->F)(f:F):rnk f<=rnk (sub s f):=by
 rw[rnk_is,rnk_is,tn_sub,gn_sub]
 have:=(grow s (gn f)).1
 omega
theorem undo{t:Int->Int}{f:F}(h:∀ n∈gn f,∀ k∈gn f,t n=t k->n=k):∃ u:Int->F,sub u (sub (fun n=>.gap (t n)) f)=f:=by
 refine⟨fun y=>match (gn f).find? fun n=>decide (t n=y) with
  |some n=>.gap n
  |none=>.gap y,?_⟩
 rw[sub_sub]
 have:f=sub F.gap f:=(sub_gap f).symm
 conv=>rhs;rw[this]
 refine sub_congr fun n hn => ?_
 simp only[sub]
 cases e:(gn f).find? fun k=>decide (t k=t n) with
 |none =>
  have:=List.find?_eq_none.mp e n hn
  simp at this
 |some k =>
  have h1:=List.find?_some e
  have h2:=List.mem_of_find?_eq_some e
  simp only[decide_eq_true_eq] at h1
  simp only
  rw[h k h2 n hn h1]
end MP
namespace MP
variable {P:List Fn}{W:Nat}
mutual
noncomputable def sgn:F->List F
 | .gap n=>[.gap n]
 | .tie w ps=>.tie w ps::sgns ps
noncomputable def sgns:List F->List F
 | []=>[]
 |x::r=>sgn x++sgns r
end
mutual
theorem sgn_len:∀ f:F,(sgn f).length=sz f
 | .gap _=>rfl
 | .tie _ ps=>by simp[sgn,sz,sgns_len ps]
theorem sgns_len:∀ ps:List F,(sgns ps).length=szs ps
 | []=>rfl
 |x::r=>by simp[sgns,szs,sgn_len x,sgns_len r]
end
noncomputable def prt:F->List F
 | .gap _=>[]
 | .tie _ ps=>ps
theorem sgn_prt(f:F):sgn f=f::sgns (prt f):=by cases f<;>rfl
theorem sz_prt(f:F):sz f=szs (prt f)+1:=by cases f<;>rfl
noncomputable def fn_parts_of:Fn:=⟨"parts_of",1,1,
 (.cons (.ret (.ifT (.call "is_gap" (.cons (.var 0) .nil)) (.op .tup .nil) (.op .idx (.cons (.var 0) (.cons (.con (.int 2)) .nil)))))
 .nil)⟩
theorem run_parts(h1:look P "is_gap"=some fn_is_gap)(h2:look P "parts_of"=some fn_parts_of){n:Nat}(f:F)(σ:Store) :
 run P W (n+2) "parts_of" [.g (enc f)] σ = .ok (.g (.tup (encs (prt f)))) σ:=by
 have e1:=run_is_gap (W:=W) h1 (n:=n) f σ
 rw[run_call h2 (n+1) _ _ rfl]
 generalize run P W (n+1)=cl at e1
 have ht:∀ τ,prim .tup [] τ = .ok (.g (.tup [])) τ:=fun τ=>rfl
 cases f with
 |gap a=>simp[fn_parts_of,e1,ht,prt,encs]
 |tie w ps =>
  simp only[enc] at e1
  simp[fn_parts_of,e1,enc,at?,ixOf,prt]
noncomputable abbrev signsB:Blk:=(.cons (.expr (.meth .extend (.var 1) (.cons (.call "signs_of" (.cons (.var 2) .nil)) .nil)))
 .nil)
noncomputable def fn_signs_of:Fn:=⟨"signs_of",1,3,
 (.cons (.set 1 (.op .lst (.cons (.var 0) .nil)))
 (.cons (.forS [2] (.over (.call "parts_of" (.cons (.var 0) .nil))) signsB)
 (.cons (.ret (.var 1))
 .nil)))⟩
theorem signs_loop{cl:CallH}{τ:Store}{e0:Option R}:∀ (ps:List F) (acc:List F) (o:Option R) (J:Store),acc.length+szs ps<=big →
 (∀ x∈ps,∀ σ,cl "signs_of" [.g (enc x)] σ = .ok (.ref σ.length) (σ++[.lst (encs (sgn x))])) →
 ∃ o' J',forL [2] (evB cl W signsB) none (ps.map fun x=>.g (enc x)) [e0,some (.ref τ.length),o] (τ ++ .lst (encs acc)::J)
  = .ok (.next [e0,some (.ref τ.length),o']) (τ ++ .lst (encs (acc++sgns ps))::J')
 | [],acc,o,J,h,hc=>⟨o,J,by rw[List.map_nil,forL_nil _ _ _ rfl];simp[sgns]⟩
 |x::r,acc,o,J,h,hc=>by
  simp only[szs] at h
  have hlx:=sgn_len x
  obtain⟨o',J',ih⟩:=signs_loop (cl:=cl) (τ:=τ) (e0:=e0) r (acc++sgn x) (some (.g (enc x))) (J++[.lst (encs (sgn x))]) (by simp[hlx];omega) fun y hy=>hc y (List.mem_cons_of_mem _ hy)
  refine⟨o',J',?_⟩
  have e:=hc x List.mem_cons_self (τ ++ .lst (encs acc)::J)
  have hl:(τ++Cell.lst (encs acc)::J).length=τ.length+1+J.length:=by simp;omega
  have ha:(τ++Cell.lst (encs acc)::J)++[.lst (encs (sgn x))]=τ++Cell.lst (encs acc)::(J++[.lst (encs (sgn x))]):=by simp
  rw[hl,ha] at e
  have g0:(τ++Cell.lst (encs acc)::J)[τ.length]?=some (.lst (encs acc)):=by simp
  have g1:(τ++Cell.lst (encs acc)::(J++[.lst (encs (sgn x))]))[τ.length]?=some (.lst (encs acc)):=by simp
  have g2:(τ++Cell.lst (encs acc)::(J++[.lst (encs (sgn x))]))[τ.length+1+J.length]?=some (.lst (encs (sgn x))):=by
   rw[List.getElem?_append_right (by omega)]
   rw[show τ.length+1+J.length-τ.length=J.length+1 by omega]
   simp
  have s1:(τ++Cell.lst (encs acc)::(J++[.lst (encs (sgn x))])).set τ.length (.lst (encs acc++encs (sgn x)))=τ++Cell.lst (encs (acc++sgn x))::(J++[.lst (encs (sgn x))]):=by
   rw[List.set_append_right _ _ (Nat.le_refl _)];simp[encs_map]
  rw[List.map_cons,forL_cons _ _ _ _ _ rfl]
  simp[bindTg,setSlot,recv_extend g0,e,p_extend g1 g2 (by rw[encs_len,encs_len,hlx];omega),s1,sgns]
  rw[List.append_assoc] at ih
  exact ih
theorem run_signs(h1:look P "is_gap"=some fn_is_gap)(h2:look P "parts_of"=some fn_parts_of)(h3:look P "signs_of"=some fn_signs_of):∀ (n:Nat) (f:F) (σ:Store),dep f+2<=n->sz f<=big →
 run P W n "signs_of" [.g (enc f)] σ = .ok (.ref σ.length) (σ++[.lst (encs (sgn f))])
 |0,f,_,h,_=>by omega
 |n+1,f,σ,h,hs=>by
  obtain⟨k,rfl⟩:∃ k,n=k+2:=⟨n-2,by have:=dep_pos f;omega⟩
  have ih:=run_signs h1 h2 h3 (k+2)
  have e:=run_parts (W:=W) h1 h2 (n:=k) f (σ++[.lst [enc f]])
  rw[run_call h3 _ _ _ rfl]
  generalize run P W (k+2)=cl at ih e
  have hz:∀ x∈prt f,sz x<=szs (prt f):=szs_mem (prt f)
  have hd:∀ x∈prt f,dep x+1<=dep f:=fun x hx=>by
   cases f with
   |gap _=>simp[prt] at hx
   |tie w ps=>have:=dep_le (show x∈ps from hx);simp only[dep];omega
  have hsp:=sz_prt f
  obtain⟨o',J',lp⟩:=signs_loop (W:=W) (cl:=cl) (τ:=σ) (e0:=some (.g (enc f))) (prt f) [f] none [] (by simp;omega) fun x hx τ=>ih x τ (by have:=hd x hx;omega) (by have:=hz x hx;omega)
  have hm:mkLst [R.g (enc f)] = .lst [enc f]:=rfl
  simp only[encs] at lp
  simp[fn_signs_of,p_lst,hm,setSlot,e,encs_map,Function.comp_def,lp]
  rw[fin_new (c:=.lst (encs (f::sgns (prt f)))) (Nat.le_refl _) (by simp[encs_map]) rfl]
  simp[sgn_prt f,encs_map]
noncomputable abbrev gapsP:Blk:=(.cons (.ite (.call "is_gap" (.cons (.var 2) .nil)) (.cons (.setIdx (.var 1) (.op .idx (.cons (.var 2) (.cons (.con (.int 1)) .nil))) (.con (.bl true)))
 .nil) .nil)
 .nil)
noncomputable def fn_gaps:Fn:=⟨"gaps",1,3,
 (.cons (.set 1 (.op .dct0 .nil))
 (.cons (.forS [2] (.over (.call "signs_of" (.cons (.var 0) .nil))) gapsP)
 (.cons (.ret (.op .listOf (.cons (.var 1) .nil)))
 .nil)))⟩
noncomputable def seenD(l:List Int):List (G × G):=l.map fun n=>(.int n,.bl true)
theorem seenD_put:∀ (l:List Int) (n:Int),dput (seenD l) (.int n) (.bl true)=seenD (addN l n)
 | [],n=>rfl
 |x::r,n=>by
  have ih:=seenD_put r n
  simp only[seenD,List.map_cons,dput] at ih ⊢
  by_cases h:x=n
  ·subst h;simp[addN]
  ·have h':¬ n=x:=fun z=>h z.symm
   rw[if_neg (by simpa using h),ih]
   by_cases h2:n∈r<;>simp[addN,h',h2]
noncomputable def gap1:F->List Int
 | .gap n=>[n]
 | .tie _ _=>[]
mutual
theorem gn_sgn:∀ f:F,(sgn f).flatMap gap1=gn f
 | .gap n=>rfl
 | .tie w ps=>by simp only[sgn,List.flatMap_cons,gap1,List.nil_append,gn];exact gns_sgns ps
theorem gns_sgns:∀ ps:List F,(sgns ps).flatMap gap1=gns ps
 | []=>rfl
 |x::r=>by simp only[sgns,gns,List.flatMap_append,gn_sgn x,gns_sgns r]
end
theorem gaps_loop{cl:CallH}{τ:Store}{e0:Option R}{S:List F}(hc:∀ x σ,cl "is_gap" [.g (enc x)] σ = .ok (.g (.bl (match x with | .gap _=>true|_=>false))) σ) :
 ∀ (xs:List F) (acc:List Int) (o:Option R),acc.length+xs.length<big->∃ o',
  forL [2] (evB cl W gapsP) (some (τ.length+1,.lst (encs S))) (xs.map fun x=>.g (enc x)) [e0,some (.ref τ.length),o] (τ++[.dct (seenD acc),.lst (encs S)])
   = .ok (.next [e0,some (.ref τ.length),o']) (τ++[.dct (seenD ((xs.flatMap gap1).foldl addN acc)),.lst (encs S)])
 | [],acc,o,h=>⟨o,by rw[List.map_nil,forL_nil _ _ _ (by simp[intact])];simp⟩
 |x::r,acc,o,h=>by
  have g0:(τ++[Cell.dct (seenD acc),.lst (encs S)])[τ.length]?=some (.dct (seenD acc)):=by simp
  have s0:∀ c,(τ++[Cell.dct (seenD acc),.lst (encs S)]).set τ.length c=τ++[c,.lst (encs S)]:=fun c=>by
   rw[List.set_append_right _ _ (Nat.le_refl _)];simp
  simp only[List.length_cons] at h
  have e:=hc x (τ++[Cell.dct (seenD acc),.lst (encs S)])
  rw[List.map_cons,forL_cons _ _ _ _ _ (by simp[intact])]
  cases x with
  |gap n =>
   obtain⟨o',ih⟩:=gaps_loop hc r (addN acc n) (some (.g (enc (.gap n)))) (by have:=addN_len acc n;omega)
   refine⟨o',?_⟩
   simp only[enc] at e ih
   have hl:(seenD acc).length<big:=by simp[seenD];omega
   simp[bindTg,setSlot,e,enc,at?,ixOf,kPut3_dct (i:=.int n) (v:=.bl true) g0 rfl hl,seenD_put,s0,gap1]
   exact ih
  |tie w ps =>
   obtain⟨o',ih⟩:=gaps_loop hc r acc (some (.g (enc (.tie w ps)))) (by omega)
   refine⟨o',?_⟩
   simp[bindTg,setSlot,e,gap1]
   exact ih
theorem run_gaps(h1:look P "is_gap"=some fn_is_gap)(h2:look P "parts_of"=some fn_parts_of)(h3:look P "signs_of"=some fn_signs_of)(h4:look P "gaps"=some fn_gaps){n:Nat}(f:F)(σ:Store)(hn:dep f+3<=n)(hs:sz f<big) :
 run P W n "gaps" [.g (enc f)] σ = .ok (.ref σ.length) (σ++[.lst ((lgaps f).map .int)]):=by
 obtain⟨k,rfl⟩:∃ k,n=k+2:=⟨n-2,by omega⟩
 have e:=run_signs (W:=W) h1 h2 h3 (k+1) f (σ++[.dct []]) (by omega) (by omega)
 have hg:=fun x σ=>run_is_gap (W:=W) h1 (n:=k) x σ
 rw[run_call h4 _ _ _ rfl]
 generalize run P W (k+1)=cl at e hg
 obtain⟨o',lp⟩:=gaps_loop (W:=W) (cl:=cl) (τ:=σ) (e0:=some (.g (enc f))) (S:=sgn f) hg (sgn f) [] none (by simp[sgn_len];exact hs)
 rw[gn_sgn, ← lgaps_gn] at lp
 have hl:(σ++[Cell.dct []]).length=σ.length+1:=by simp
 have ha:(σ++[Cell.dct []])++[.lst (encs (sgn f))]=σ++[Cell.dct [],.lst (encs (sgn f))]:=by simp
 rw[hl,ha] at e
 have hw:wOver (.ref (σ.length+1)) (σ++[Cell.dct [],.lst (encs (sgn f))]) = .ok ⟨(sgn f).map fun x=>.g (enc x),some (σ.length+1,.lst (encs (sgn f)))⟩ (σ++[Cell.dct [],.lst (encs (sgn f))]):=by
  rw[wOver_lst (xs:=encs (sgn f)) (by simp),encs_map,List.map_map];rfl
 have lp':forL [2] (evB cl W gapsP) (some (σ.length+1,.lst (encs (sgn f)))) ((sgn f).map fun x=>.g (enc x)) [some (.g (enc f)),some (.ref σ.length),none] (σ++[.dct [],.lst (encs (sgn f))])=_:=lp
 have g0:(σ++[Cell.dct (seenD (lgaps f)),.lst (encs (sgn f))])[σ.length]?=some (.dct (seenD (lgaps f))):=by simp
 have hk:intKeys (seenD (lgaps f))=true:=by simp[intKeys,seenD]
 have hm:(seenD (lgaps f)).map (fun p=>p.1)=(lgaps f).map G.int:=by simp[seenD]
 simp[fn_gaps,setSlot,e,hw,lp',p_listD g0 hk,hm]
 rw[fin_new (c:=.lst ((lgaps f).map .int)) (by omega) (by rw[List.getElem?_append_right (by omega)];simp) rfl]
 simp
noncomputable def fn_rank:Fn:=⟨"rank",1,1,
 (.cons (.ret (.op .sub (.cons (.op .len (.cons (.call "signs_of" (.cons (.var 0) .nil)) .nil)) (.cons (.op .len (.cons (.call "gaps" (.cons (.var 0) .nil)) .nil)) .nil))))
 .nil)⟩
theorem rnk_int(f:F):((sz f:Int)-((lgaps f).length:Int))=(rnk f:Int):=by
 have:=lgaps_len f
 unfold rnk;omega
theorem run_rank(h1:look P "is_gap"=some fn_is_gap)(h2:look P "parts_of"=some fn_parts_of)(h3:look P "signs_of"=some fn_signs_of)(h4:look P "gaps"=some fn_gaps)(h5:look P "rank"=some fn_rank){n:Nat}(f:F)(σ:Store)(hn:dep f+4<=n)(hs:sz f<big) :
 run P W n "rank" [.g (enc f)] σ = .ok (.g (.int (rnk f))) σ:=by
 obtain⟨k,rfl⟩:∃ k,n=k+1:=⟨n-1,by omega⟩
 have e1:=fun σ=>run_signs (W:=W) h1 h2 h3 k f σ (by omega) (by omega)
 have e2:=fun σ=>run_gaps (W:=W) h1 h2 h3 h4 (n:=k) f σ (by omega) hs
 rw[run_call h5 _ _ _ rfl]
 generalize run P W k=cl at e1 e2
 have l1:prim .len [.ref σ.length] (σ++[.lst (encs (sgn f))]) = .ok (.g (.int (sz f))) (σ++[.lst (encs (sgn f))]):=by
  rw[p_len (n:=sz f)];simp[lenOf,encs_len,sgn_len]
 have l2:prim .len [.ref (σ.length+1)] (σ++[.lst (encs (sgn f)),.lst ((lgaps f).map .int)]) = .ok (.g (.int ((lgaps f).length:Int))) (σ++[.lst (encs (sgn f)),.lst ((lgaps f).map .int)]):=by
  rw[p_len (n:=(lgaps f).length)];simp[lenOf]
 simp[fn_rank,e1,l1,e2,l2,rnk_int]
end MP
namespace MP
variable {P:List Fn}{W:Nat}
end MP
namespace MP
variable {P:List Fn}{W:Nat}
noncomputable def nums:Int->List Int->Fg->Fg
 |_,[],acc=>acc
 |k,n::r,acc=>nums (k+1) r (dset acc n (.gap k))
theorem dval_nums:∀ (l:List Int) (k:Int) (acc:Fg) (n:Int),l.Nodup->dval (nums k l acc) n=if n∈l then some (.gap (k+l.idxOf n)) else dval acc n
 | [],_,_,n,_=>by simp[nums]
 |x::r,k,acc,n,h=>by
  rw[List.nodup_cons] at h
  rw[nums,dval_nums r _ _ n h.2,dval_dset]
  by_cases hx:x=n
  ·subst hx
   simp[h.1,List.idxOf_cons]
  ·have hx':¬ n=x:=fun z=>hx z.symm
   have hb:(x == n)=false:=beq_eq_false_iff_ne.mpr hx
   by_cases hr:n∈r
   ·simp[hr,List.idxOf_cons,hb];omega
   ·simp[hr,hx,hx']
noncomputable def plF(k:Int)(f:F):F:=fill (nums k (lgaps f) []) f
theorem plF_sub(k:Int)(f:F):plF k f=sub (fun n=>.gap (k+(lgaps f).idxOf n)) f:=by
 unfold plF
 rw[fill_sub]
 refine sub_congr fun n hn => ?_
 unfold asS
 rw[dval_nums _ _ _ _ (lgaps_nd f),if_pos (mem_lgaps.mpr hn)]
 rfl
theorem idx_inj{l:List Int}{a b:Int}(ha:a∈l)(hb:b∈l)(h:l.idxOf a=l.idxOf b):a=b:=by
 have h1:=List.getElem_idxOf (List.idxOf_lt_length_iff.mpr ha)
 have h2:=List.getElem_idxOf (List.idxOf_lt_length_iff.mpr hb)
 rw[← h1, ← h2]
 simp only[h]
theorem plF_back(k:Int)(f:F):∃ u,sub u (plF k f)=f:=by
 rw[plF_sub]
 exact undo (t:=fun n=>k+((lgaps f).idxOf n:Int)) fun n hn j hj h=>idx_inj (mem_lgaps.mpr hn) (mem_lgaps.mpr hj) (by omega)
noncomputable abbrev numB:Blk:=(.cons (.setIdx (.var 2) (.var 4) (.op .tup (.cons (.con (.str [103,97,112])) (.cons (.var 3) .nil))))
 .nil)
noncomputable def fn_numbered_from:Fn:=⟨"numbered_from",2,5,
 (.cons (.set 2 (.op .dct0 .nil))
 (.cons (.forS [3,4] (.enum (.call "gaps" (.cons (.var 0) .nil)) (.var 1)) numB)
 (.cons (.ret (.call "filled" (.cons (.var 0) (.cons (.var 2) .nil))))
 .nil)))⟩
noncomputable def fn_plain:Fn:=⟨"plain",1,1,
 (.cons (.ret (.call "numbered_from" (.cons (.var 0) (.cons (.con (.int 0)) .nil))))
 .nil)⟩
theorem num_loop{cl:CallH}{τ:Store}{e0 e1:Option R}{ys:List Int}:∀ (xs:List Int) (k:Int) (acc:Fg) (o3 o4:Option R),acc.length+xs.length<big->∃ o3' o4',
 forL [3,4] (evB cl W numB) (some (τ.length+1,.lst (ys.map .int))) (enumL k (xs.map .int)) [e0,e1,some (.ref τ.length),o3,o4] (τ++[.dct (encD acc),.lst (ys.map .int)])
  = .ok (.next [e0,e1,some (.ref τ.length),o3',o4']) (τ++[.dct (encD (nums k xs acc)),.lst (ys.map .int)])
 | [],k,acc,o3,o4,h=>⟨o3,o4,by simp only[List.map_nil,enumL];rw[forL_nil _ _ _ (by simp[intact])];simp[nums]⟩
 |n::r,k,acc,o3,o4,h=>by
  simp only[List.length_cons] at h
  have hl:=dset_len acc n (.gap k)
  obtain⟨o3',o4',ih⟩:=num_loop (cl:=cl) (τ:=τ) (e0:=e0) (e1:=e1) (ys:=ys) r (k+1) (dset acc n (.gap k)) (some (.g (.int k))) (some (.g (.int n))) (by omega)
  refine⟨o3',o4',?_⟩
  have g0:(τ++[Cell.dct (encD acc),.lst (ys.map .int)])[τ.length]?=some (.dct (encD acc)):=by simp
  have s0:∀ c,(τ++[Cell.dct (encD acc),.lst (ys.map .int)]).set τ.length c=τ++[c,.lst (ys.map .int)]:=fun c=>by
   rw[List.set_append_right _ _ (Nat.le_refl _)];simp
  have hb:(encD acc).length<big:=by simp[encD];omega
  have he:dput (encD acc) (.int n) (.tup [.str sGap,.int k])=encD (dset acc n (.gap k)):=dput_encD acc n (.gap k)
  simp only[List.map_cons,enumL]
  rw[forL_cons _ _ _ _ _ (by simp[intact])]
  simp[bindTg,parts,setSlots,setSlot,p_tup,mkTup,allG,kPut3_dct (i:=.int n) (v:=.tup [.str sGap,.int k]) g0 rfl hb,he,s0]
  exact ih
theorem run_numbered(h1:look P "is_gap"=some fn_is_gap)(h2:look P "parts_of"=some fn_parts_of)(h3:look P "signs_of"=some fn_signs_of)(h4:look P "gaps"=some fn_gaps)(h5:look P "filled"=some fn_filled)(h6:look P "numbered_from"=some fn_numbered_from){n:Nat}(f:F)(k:Int)(σ:Store)(hn:dep f+4<=n)(hs:sz f<big)(hk:small k=true) :
 run P W n "numbered_from" [.g (enc f),.g (.int k)] σ = .ok (.g (enc (plF k f))) σ:=by
 obtain⟨j,rfl⟩:∃ j,n=j+1:=⟨n-1,by omega⟩
 have hlg:=lgaps_len f
 have e:=run_gaps (W:=W) h1 h2 h3 h4 (n:=j) f (σ++[.dct []]) (by omega) hs
 have e2:=run_filled (W:=W) h1 h5 j f (nums k (lgaps f) []) σ.length (σ++[.dct (encD (nums k (lgaps f) [])),.lst ((lgaps f).map .int)]) (by omega) (by simp)
 rw[run_call h6 _ _ _ rfl]
 generalize run P W j=cl at e e2
 obtain⟨o3,o4,lp⟩:=num_loop (W:=W) (cl:=cl) (τ:=σ) (e0:=some (.g (enc f))) (e1:=some (.g (.int k))) (ys:=lgaps f) (lgaps f) k [] none none (by simp;omega)
 have hl:(σ++[Cell.dct []]).length=σ.length+1:=by simp
 have ha:(σ++[Cell.dct []])++[.lst ((lgaps f).map .int)]=σ++[Cell.dct [],.lst ((lgaps f).map .int)]:=by simp
 rw[hl,ha] at e
 have hw:wEnum (.ref (σ.length+1)) (.g (.int k)) (σ++[Cell.dct [],.lst ((lgaps f).map .int)]) = .ok ⟨enumL k ((lgaps f).map .int),some (σ.length+1,.lst ((lgaps f).map .int))⟩ (σ++[Cell.dct [],.lst ((lgaps f).map .int)]) :=
  wEnum_lst (by simp) (by rw[hk];simp;omega)
 have lp':forL [3,4] (evB cl W numB) (some (σ.length+1,.lst ((lgaps f).map .int))) (enumL k ((lgaps f).map .int)) [some (.g (enc f)),some (.g (.int k)),some (.ref σ.length),none,none] (σ++[.dct [],.lst ((lgaps f).map .int)])=_:=lp
 simp[fn_numbered_from,setSlot,e,hw,lp',e2,plF]
theorem run_plain(h1:look P "is_gap"=some fn_is_gap)(h2:look P "parts_of"=some fn_parts_of)(h3:look P "signs_of"=some fn_signs_of)(h4:look P "gaps"=some fn_gaps)(h5:look P "filled"=some fn_filled)(h6:look P "numbered_from"=some fn_numbered_from)(h7:look P "plain"=some fn_plain){n:Nat}(f:F)(σ:Store)(hn:dep f+5<=n)(hs:sz f<big) :
 run P W n "plain" [.g (enc f)] σ = .ok (.g (enc (plF 0 f))) σ:=by
 obtain⟨j,rfl⟩:∃ j,n=j+1:=⟨n-1,by omega⟩
 have e:=run_numbered (W:=W) h1 h2 h3 h4 h5 h6 (n:=j) f 0 σ (by omega) hs (by decide)
 rw[run_call h7 _ _ _ rfl]
 generalize run P W j=cl at e
 simp[fn_plain,e]
end MP
namespace MP
variable {P:List Fn}{W:Nat}
noncomputable abbrev Pr:=List (F × F)
noncomputable def encK(p:F × F):G:=.tup [enc p.1,enc p.2]
noncomputable def pidx:Pr->F × F->Option Nat
 | [],_=>none
 |p::r,q=>if encK p=encK q then some 0 else (pidx r q).map (· + 1)
noncomputable def gapP(f g:F)(m:Pr):F × Pr:=match pidx m (f,g) with
 |some i=>(.gap (i:Int),m)
 |none=>(.gap (m.length:Int),m++[(f,g)])
mutual
noncomputable def cm:F->F->Pr->F × Pr
 | .tie w ps,.tie v qs,m=>if w=v/\ps.length=qs.length then (.tie w (cms ps qs m).1,(cms ps qs m).2) else gapP (.tie w ps) (.tie v qs) m
 | .gap a,g,m=>gapP (.gap a) g m
 | .tie w ps,.gap b,m=>gapP (.tie w ps) (.gap b) m
noncomputable def cms:List F->List F->Pr->List F × Pr
 |x::r,y::t,m=>((cm x y m).1::(cms r t (cm x y m).2).1,(cms r t (cm x y m).2).2)
 |_,_,m=>([],m)
end
mutual
noncomputable def nr(d:Nat):F->F->Prop
 | .tie w ps,.tie v qs=>(w=v/\ps.length=qs.length/\nrs d ps qs)\/(¬ (w=v/\ps.length=qs.length)/\deps ps+1<=d/\deps qs+1<=d)
 | .gap _,g=>1<=d/\dep g<=d
 | .tie _ ps,.gap _=>deps ps+1<=d
noncomputable def nrs(d:Nat):List F->List F->Prop
 |x::r,y::t=>nr d x y/\nrs d r t
 |_,_=>True
end
mutual
theorem nr_low{d:Nat}:∀ (f g:F),dep f<=d->dep g<=d->nr d f g
 | .gap a,g,h1,h2=>by simp only[dep] at h1;exact⟨h1,h2⟩
 | .tie w ps,.gap b,h1,h2=>by simpa[nr,dep] using h1
 | .tie w ps,.tie v qs,h1,h2=>by
  simp only[dep] at h1 h2
  by_cases h:w=v/\ps.length=qs.length
  ·exact .inl ⟨h.1,h.2,nrs_low ps qs (by omega) (by omega)⟩
  ·exact .inr ⟨h,h1,h2⟩
theorem nrs_low{d:Nat}:∀ (ps qs:List F),deps ps<=d->deps qs<=d->nrs d ps qs
 |x::r,y::t,h1,h2=>by
  simp only[deps] at h1 h2
  exact⟨nr_low x y (by omega) (by omega),nrs_low r t (by omega) (by omega)⟩
 | [],_,_,_=>by simp[nrs]
 |_::_,[],_,_=>by simp[nrs]
end
mutual
theorem keyG_enc:∀ f:F,keyG (enc f)=true
 | .gap n=>by simp[enc,keyG,keyGs]
 | .tie w ps=>by simp[enc,keyG,keyGs,keyGs_encs ps]
theorem keyGs_encs:∀ ps:List F,keyGs (encs ps)=true
 | []=>by simp[encs,keyGs]
 |x::r=>by simp[encs,keyGs,keyG_enc x,keyGs_encs r]
end
end MP
namespace MP
variable {P:List Fn}{W:Nat}
noncomputable def lf:Nat->Pr->Fg
 |_,[]=>[]
 |i,p::r=>((i:Int),p.1)::lf (i+1) r
noncomputable def rt:Nat->Pr->Fg
 |_,[]=>[]
 |i,p::r=>((i:Int),p.2)::rt (i+1) r
@[simp] theorem evW_itemsT{cl:CallH}{ε:Env}{σ:Store}(a:Tm):evW cl (.itemsT a) ε σ=kW wItemsT (ev cl false a ε σ):=by
 rw[evW]
 cases ev cl false a ε σ<;>simp[kW]
@[simp] theorem forW_rdt{ε:Env}{σ:Store}(tg:List Nat)(body:Env->Store->Res Out)(xs:List R)(k:Nat)(l:List (G × G)):forW tg body ⟨xs,some (k,.rdt l)⟩ ε σ=forL tg body (some (k,.rdt l)) xs ε σ:=rfl
@[simp] theorem p_dtg0{σ:Store}:prim .dtg0 [] σ = .ok (.ref σ.length) (σ++[.dtg []]):=rfl
end MP
namespace MP
variable {P:List Fn}{W:Nat}
end MP
namespace MP
noncomputable def ix(M:Pr)(q:F × F):Int:=match pidx M q with
 |some i=>(i:Int)
 |none=>0
mutual
noncomputable def rd(M:Pr):F->F->F
 | .tie w ps,.tie v qs=>if w=v/\ps.length=qs.length then .tie w (rds M ps qs) else .gap (ix M (.tie w ps,.tie v qs))
 | .gap a,g=>.gap (ix M (.gap a,g))
 | .tie w ps,.gap b=>.gap (ix M (.tie w ps,.gap b))
noncomputable def rds(M:Pr):List F->List F->List F
 |x::r,y::t=>rd M x y::rds M r t
 |_,_=>[]
end
theorem pidx_app:∀ {m:Pr} {q:F × F} {i:Nat} (r:Pr),pidx m q=some i->pidx (m++r) q=some i
 | [],q,i,r,h=>by simp[pidx] at h
 |p::m,q,i,r,h=>by
  simp only[List.cons_append,pidx] at h ⊢
  split at h
  ·rename_i e;cases h;simp[e]
  ·rename_i e
   obtain⟨j,e1,rfl⟩:=Option.map_eq_some_iff.mp h
   simp[e,pidx_app r e1]
theorem pidx_end:∀ {m:Pr} {q:F × F},pidx m q=none->pidx (m++[q]) q=some m.length
 | [],q,h=>by simp[pidx]
 |p::r,q,h=>by
  simp only[pidx] at h
  split at h
  ·cases h
  ·rename_i e
   simp only[Option.map_eq_none_iff] at h
   simp[pidx,e,pidx_end h]
theorem gapP_ix(f g:F)(m r:Pr):(gapP f g m).1 = .gap (ix ((gapP f g m).2++r) (f,g))/\∃ i:Nat,pidx ((gapP f g m).2++r) (f,g)=some i/\(gapP f g m).1 = .gap (i:Int):=by
 unfold gapP
 cases e:pidx m (f,g) with
 |some i =>
  have:=pidx_app r e
  simp[ix,this]
 |none =>
  have:=pidx_app r (pidx_end e)
  simp only[ix,this,true_and]
  exact⟨m.length,rfl,rfl⟩
theorem gapP_ext(f g:F)(m:Pr):∃ r,(gapP f g m).2=m++r:=by
 unfold gapP
 split
 ·exact⟨[],by simp⟩
 ·exact⟨[(f,g)],rfl⟩
mutual
theorem cm_ext:∀ (f g:F) (m:Pr),∃ r,(cm f g m).2=m++r
 | .gap a,g,m=>by simp only[cm];exact gapP_ext _ _ _
 | .tie w ps,.gap b,m=>by simp only[cm];exact gapP_ext _ _ _
 | .tie w ps,.tie v qs,m=>by
  simp only[cm]
  split
  ·exact cms_ext ps qs m
  ·exact gapP_ext _ _ _
theorem cms_ext:∀ (ps qs:List F) (m:Pr),∃ r,(cms ps qs m).2=m++r
 |x::r,y::t,m=>by
  obtain⟨a,ea⟩:=cm_ext x y m
  obtain⟨b,eb⟩:=cms_ext r t (cm x y m).2
  exact⟨a++b,by simp only[cms];rw[eb,ea,List.append_assoc]⟩
 | [],_,m=>⟨[],by simp[cms]⟩
 |_::_,[],m=>⟨[],by simp[cms]⟩
end
mutual
theorem cm_rd:∀ (f g:F) (m r:Pr),(cm f g m).1=rd ((cm f g m).2++r) f g
 | .gap a,g,m,r=>by simp only[cm,rd];exact(gapP_ix _ _ _ _).1
 | .tie w ps,.gap b,m,r=>by simp only[cm,rd];exact(gapP_ix _ _ _ _).1
 | .tie w ps,.tie v qs,m,r=>by
  by_cases h:w=v/\ps.length=qs.length
  ·simp only[cm,rd,if_pos h]
   rw[cms_rd ps qs m r]
  ·simp only[cm,rd,if_neg h]
   exact(gapP_ix _ _ _ _).1
theorem cms_rd:∀ (ps qs:List F) (m r:Pr),(cms ps qs m).1=rds ((cms ps qs m).2++r) ps qs
 |x::ps,y::qs,m,r=>by
  obtain⟨b,eb⟩:=cms_ext ps qs (cm x y m).2
  have h1:=cm_rd x y m (b++r)
  have h2:=cms_rd ps qs (cm x y m).2 r
  simp only[cms,rds]
  rw[← h2]
  congr 1
  rw[eb,List.append_assoc]
  exact h1
 | [],_,m,r=>by simp[cms,rds]
 |_::_,[],m,r=>by simp[cms,rds]
end
mutual
theorem rd_sub(M:Pr)(s t:Int->F):∀ h:F,rd M (sub s h) (sub t h)=sub (fun n=>rd M (s n) (t n)) h
 | .gap n=>by simp[sub]
 | .tie w ps=>by
  have hl:(subs s ps).length=(subs t ps).length:=by rw[subs_len,subs_len]
  simp[sub,rd,hl,rds_sub M s t ps]
theorem rds_sub(M:Pr)(s t:Int->F):∀ ps:List F,rds M (subs s ps) (subs t ps)=subs (fun n=>rd M (s n) (t n)) ps
 | []=>by simp[subs,rds]
 |x::r=>by simp[subs,rds,rd_sub M s t x,rds_sub M s t r]
end
end MP
namespace MP
variable {P:List Fn}{W:Nat}
noncomputable def fn__law_above:Fn:=⟨"_law_above",2,2,
 (.cons (.ret (.call "_law_covers" (.cons (.var 0) (.cons (.var 1) (.cons (.op .dct0 .nil) .nil)))))
 .nil)⟩
theorem run_above(h1:look P "_law_covers"=some fn__law_covers)(h2:look P "_law_above"=some fn__law_above){n:Nat}{f g:F}(σ:Store)(hn:dep f+1<=n)(hg:dep g<=75)(hl:sz f<big) :
 run P W n "_law_above" [.g (enc f),.g (enc g)] σ = .ok (.g (.bl (fit f g []).1)) σ:=by
 obtain⟨k,rfl⟩:∃ k,n=k+1:=⟨n-1,by omega⟩
 have e:=run_lcovers (W:=W) h1 k f g [] σ.length (σ++[.dct []]) (by omega) hg (low_nil _) (by simpa using hl) (by simp[encD])
 rw[run_call h2 _ _ _ rfl]
 generalize run P W k=cl at e
 have hx:(σ++[Cell.dct []]).set σ.length (.dct (encD (fit f g []).2))=σ++[.dct (encD (fit f g []).2)]:=by simp
 rw[hx] at e
 simp[fn__law_above,e]
end MP
namespace MP
theorem idx_app:∀ {l r:List Int} {n:Int},n∈l->(l++r).idxOf n=l.idxOf n
 |x::l,r,n,h=>by
  simp only[List.cons_append,List.idxOf_cons]
  by_cases e:x=n
  ·simp[e]
  ·rw[beq_eq_false_iff_ne.mpr e]
   have hl:n∈l:=by rcases List.mem_cons.mp h with z|z;exact absurd z.symm e;exact z
   simp[idx_app hl]
theorem idx_end:∀ {l:List Int} {n:Int},¬ n∈l->(l++[n]).idxOf n=l.length
 | [],n,_=>by simp
 |x::l,n,h=>by
  have e:¬ x=n:=fun z=>h (by simp[z])
  simp only[List.cons_append,List.idxOf_cons]
  rw[beq_eq_false_iff_ne.mpr e]
  simp[idx_end fun z=>h (List.mem_cons_of_mem _ z)]
noncomputable def Abv(f g:F):Prop:=∃ s,sub s f=g
theorem Abv.trans{f g h:F}(a:Abv f g)(b:Abv g h):Abv f h:=by
 obtain⟨s,rfl⟩:=a
 obtain⟨t,rfl⟩:=b
 exact⟨_,(sub_sub s t f).symm⟩
noncomputable def Ins(h f:F):Prop:=∃ s:Int->F,(∀ n,dep (s n)<=3)/\sub s h=f
mutual
theorem nr_sub{s t:Int->F}(hs:∀ n,dep (s n)<=3)(ht:∀ n,dep (t n)<=3):∀ f:F,nr 3 (sub s f) (sub t f)
 | .gap n=>nr_low _ _ (hs n) (ht n)
 | .tie w ps=>by
  show nr 3 (.tie w (subs s ps)) (.tie w (subs t ps))
  exact .inl ⟨rfl,by rw[subs_len,subs_len],nrs_sub hs ht ps⟩
theorem nrs_sub{s t:Int->F}(hs:∀ n,dep (s n)<=3)(ht:∀ n,dep (t n)<=3):∀ ps:List F,nrs 3 (subs s ps) (subs t ps)
 | []=>by simp[subs,nrs]
 |x::r=>⟨nr_sub hs ht x,nrs_sub hs ht r⟩
end
theorem Ins.nr{h f g:F}(a:Ins h f)(b:Ins h g):nr 3 f g:=by
 obtain⟨s,hs,rfl⟩:=a
 obtain⟨t,ht,rfl⟩:=b
 exact nr_sub hs ht h
mutual
theorem dep_ren(t:Int->Int):∀ f:F,dep (sub (fun n=>.gap (t n)) f)=dep f
 | .gap n=>rfl
 | .tie w ps=>by simp[sub,dep,deps_ren t ps]
theorem deps_ren(t:Int->Int):∀ ps:List F,deps (subs (fun n=>.gap (t n)) ps)=deps ps
 | []=>rfl
 |x::r=>by simp[subs,deps,dep_ren t x,deps_ren t r]
end
mutual
theorem sz_ren(t:Int->Int):∀ f:F,sz (sub (fun n=>.gap (t n)) f)=sz f
 | .gap n=>rfl
 | .tie w ps=>by simp[sub,sz,szs_ren t ps]
theorem szs_ren(t:Int->Int):∀ ps:List F,szs (subs (fun n=>.gap (t n)) ps)=szs ps
 | []=>rfl
 |x::r=>by simp[subs,szs,sz_ren t x,szs_ren t r]
end
theorem Ins.plain{h f:F}(a:Ins h f):Ins h (plF 0 f):=by
 obtain⟨s,hs,rfl⟩:=a
 rw[plF_sub,sub_sub]
 exact⟨_,fun n=>by rw[dep_ren];exact hs n,rfl⟩
mutual
theorem dep_rd(M:Pr):∀ f g:F,dep (rd M f g)<=dep f
 | .gap a,g=>by simp[rd,dep]
 | .tie w ps,.gap b=>by simp[rd,dep]
 | .tie w ps,.tie v qs=>by
  simp only[rd]
  split
  ·have:=deps_rds M ps qs
   simp only[dep];omega
  ·simp[dep]
theorem deps_rds(M:Pr):∀ ps qs:List F,deps (rds M ps qs)<=deps ps
 |x::r,y::t=>by
  have h1:=dep_rd M x y
  have h2:=deps_rds M r t
  simp only[rds,deps];omega
 | [],_=>by simp[rds,deps]
 |_::_,[]=>by simp[rds,deps]
end
theorem Ins.cm{h f g:F}(a:Ins h f)(b:Ins h g):Ins h (cm f g []).1:=by
 obtain⟨s,hs,rfl⟩:=a
 obtain⟨t,ht,rfl⟩:=b
 have:=cm_rd (sub s h) (sub t h) [] []
 rw[rd_sub] at this
 exact⟨_,fun n=>Nat.le_trans (dep_rd _ _ _) (hs n),this.symm⟩
end MP
namespace MP
variable {P:List Fn}{W:Nat}
noncomputable abbrev az:List Nat:=[97,98,99,100,101,102,103,104,105,106,107,108,109,110,111,112,113,114,115,116,117,118,119,120,121,122]
noncomputable abbrev d09:List Nat:=[48,49,50,51,52,53,54,55,56,57]
end MP
namespace MP
variable {P:List Fn}{W:Nat}
noncomputable def fn_sign_at:Fn:=⟨"sign_at",2,2,
 (.cons (.ret (.op .cutS (.cons (.var 0) (.cons (.var 1) (.cons (.op .add (.cons (.var 1) (.cons (.con (.int 1)) .nil))) .nil)))))
 .nil)⟩
noncomputable abbrev reT:Tm:=(.andT (.op .lt (.cons (.var 3) (.cons (.op .len (.cons (.var 0) .nil)) .nil))) (.op .innS (.cons (.op .idx (.cons (.var 0) (.cons (.var 3) .nil))) (.cons (.var 2) .nil))))
noncomputable abbrev reB:Blk:=(.cons (.set 3 (.op .add (.cons (.var 3) (.cons (.con (.int 1)) .nil))))
 .nil)
noncomputable def fn_run_end:Fn:=⟨"run_end",3,4,
 (.cons (.set 3 (.var 1))
 (.cons (.whileS reT reB)
 (.cons (.ret (.var 3))
 .nil)))⟩
noncomputable def fn_read_gap:Fn:=⟨"read_gap",2,4,
 (.cons (.set 2 (.call "run_end" (.cons (.var 0) (.cons (.var 1) (.cons (.glb "FIGURES" (.str d09)) .nil)))))
 (.cons (.set 3 (.op .cutS (.cons (.var 0) (.cons (.var 1) (.cons (.var 2) .nil)))))
 (.cons (.ite (.op .eq (.cons (.var 3) (.cons (.con (.str [])) .nil))) (.cons (.raise "BadNote" (.con (.str [97,32,103,97,112,32,119,105,116,104,111,117,116,32,97,32,110,117,109,98,101,114])))
 .nil) .nil)
 (.cons (.ite (.andT (.meth .starts (.var 3) (.cons (.con (.str [48])) .nil)) (.op .ne (.cons (.var 3) (.cons (.con (.str [48])) .nil)))) (.cons (.raise "BadNote" (.con (.str [97,32,110,117,109,98,101,114,32,119,105,116,104,32,97,32,110,101,101,100,108,101,115,115,32,110,111,117,103,104,116])))
 .nil) .nil)
 (.cons (.ret (.op .tup (.cons (.op .tup (.cons (.con (.str [103,97,112])) (.cons (.op .intOf (.cons (.var 3) .nil)) .nil))) (.cons (.var 2) .nil))))
 .nil)))))⟩
noncomputable def fn_read_tie:Fn:=⟨"read_tie",2,5,
 (.cons (.set 2 (.call "run_end" (.cons (.var 0) (.cons (.var 1) (.cons (.glb "LETTERS" (.str az)) .nil)))))
 (.cons (.set 3 (.op .cutS (.cons (.var 0) (.cons (.var 1) (.cons (.var 2) .nil)))))
 (.cons (.ite (.op .eq (.cons (.var 3) (.cons (.con (.str [])) .nil))) (.cons (.raise "BadNote" (.con (.str [110,101,105,116,104,101,114,32,97,32,103,97,112,32,110,111,114,32,97,32,119,111,114,100,32,119,104,101,114,101,32,97,32,102,111,114,109,32,115,104,111,117,108,100,32,98,101,103,105,110])))
 .nil) .nil)
 (.cons (.ite (.op .ne (.cons (.call "sign_at" (.cons (.var 0) (.cons (.var 2) .nil))) (.cons (.con (.str [40])) .nil))) (.cons (.ret (.op .tup (.cons (.op .tup (.cons (.con (.str [116,105,101])) (.cons (.var 3) (.cons (.op .tup .nil) .nil)))) (.cons (.var 2) .nil))))
 .nil) .nil)
 (.cons (.callX (some (some 4)) "read_parts" (.cons (.var 0) (.cons (.op .add (.cons (.var 2) (.cons (.con (.int 1)) .nil))) .nil)))
 (.cons (.ret (.op .tup (.cons (.op .tup (.cons (.con (.str [116,105,101])) (.cons (.var 3) (.cons (.op .idx (.cons (.var 4) (.cons (.con (.int 0)) .nil))) .nil)))) (.cons (.op .idx (.cons (.var 4) (.cons (.con (.int 1)) .nil))) .nil))))
 .nil))))))⟩
noncomputable abbrev rpB:Blk:=(.cons (.callX (some (some 4)) "read_form" (.cons (.var 0) (.cons (.var 3) .nil)))
 (.cons (.expr (.meth .append (.var 2) (.cons (.op .idx (.cons (.var 4) (.cons (.con (.int 0)) .nil))) .nil)))
 (.cons (.set 5 (.call "sign_at" (.cons (.var 0) (.cons (.op .idx (.cons (.var 4) (.cons (.con (.int 1)) .nil))) .nil))))
 (.cons (.set 3 (.op .add (.cons (.op .idx (.cons (.var 4) (.cons (.con (.int 1)) .nil))) (.cons (.con (.int 1)) .nil))))
 (.cons (.ite (.op .eq (.cons (.var 5) (.cons (.con (.str [41])) .nil))) (.cons (.ret (.op .tup (.cons (.op .tupleOf (.cons (.var 2) .nil)) (.cons (.var 3) .nil))))
 .nil) .nil)
 (.cons (.ite (.op .ne (.cons (.var 5) (.cons (.con (.str [44])) .nil))) (.cons (.raise "BadNote" (.con (.str [110,101,105,116,104,101,114,32,97,32,99,111,109,109,97,32,110,111,114,32,97,32,99,108,111,115,105,110,103,32,98,114,97,99,107,101,116,32,98,101,104,105,110,100,32,97,32,112,97,114,116])))
 .nil) .nil)
 .nil))))))
noncomputable def fn_read_parts:Fn:=⟨"read_parts",2,6,
 (.cons (.set 2 (.op .lst .nil))
 (.cons (.set 3 (.var 1))
 (.cons (.whileS (.con (.bl true)) rpB)
 .nil)))⟩
noncomputable def fn_read_form:Fn:=⟨"read_form",2,2,
 (.cons (.ite (.op .eq (.cons (.call "sign_at" (.cons (.var 0) (.cons (.var 1) .nil))) (.cons (.con (.str [63])) .nil))) (.cons (.callX (some none) "read_gap" (.cons (.var 0) (.cons (.op .add (.cons (.var 1) (.cons (.con (.int 1)) .nil))) .nil)))
 .nil) .nil)
 (.cons (.callX (some none) "read_tie" (.cons (.var 0) (.cons (.var 1) .nil)))
 .nil))⟩
theorem whileL_end{test:Env->Store->Res R}{body:Env->Store->Res Out}{n:Nat}{ε:Env}{σ σ1:Store}(h:test ε σ = .ok (.g (.bl false)) σ1):whileL test body (n+1) ε σ = .ok (.next ε) σ1:=by simp[whileL,h]
theorem whileL_next{test:Env->Store->Res R}{body:Env->Store->Res Out}{n:Nat}{ε ε2:Env}{σ σ1 σ2:Store}(h:test ε σ = .ok (.g (.bl true)) σ1)(hb:body ε σ1 = .ok (.next ε2) σ2):whileL test body (n+1) ε σ=whileL test body n ε2 σ2:=by simp[whileL,h,hb]
noncomputable def stop(post:List Nat):Prop:=∀ c r,post=c::r->c=44\/c=41
structure Rd(P:List Fn):Prop where
 a:look P "sign_at"=some fn_sign_at
 b:look P "run_end"=some fn_run_end
 c:look P "read_gap"=some fn_read_gap
 d:look P "read_tie"=some fn_read_tie
 e:look P "read_parts"=some fn_read_parts
 f:look P "read_form"=some fn_read_form
end MP
namespace MP
noncomputable instance:DecidableEq F:=fun a b=>decidable_of_iff (enc a=enc b) ⟨enc_inj,congrArg enc⟩
noncomputable abbrev Hs:=List (F × F)
noncomputable def rep:Hs->F->F
 | [],f=>f
 |p::h,f=>if rep h f=p.1 then p.2 else rep h f
noncomputable def Vd:Hs->Prop
 | []=>True
 |p::h=>Vd h/\rep h p.1=p.1/\rep h p.2=p.2/\p.1≠p.2
noncomputable def hval:Hs->F->Option F
 | [],_=>none
 |p::h,f=>if p.1=f then some p.2 else hval h f
theorem rep_idem:∀ {h:Hs},Vd h->∀ f,rep h (rep h f)=rep h f
 | [],_,f=>rfl
 | (x,y)::h,⟨v,h1,h2,h3⟩,f=>by
  have ih:=rep_idem v f
  simp only at h1 h2 h3
  simp only[rep]
  by_cases e:rep h f=x
  ·simp only[e,if_true,h2]
   rw[if_neg (Ne.symm h3)]
  ·simp only[e,if_false,ih]
theorem root_none:∀ {h:Hs},Vd h->∀ {f:F},rep h f=f->hval h f=none
 | [],_,f,_=>rfl
 | (x,y)::h,⟨v,h1,h2,h3⟩,f,e=>by
  simp only at h1 h2 h3
  simp only[rep] at e
  simp only[hval]
  by_cases z:x=f
  ·subst z
   rw[h1,if_pos rfl] at e
   exact absurd e.symm h3
  ·rw[if_neg z]
   by_cases q:rep h f=x
   ·rw[if_pos q] at e
    subst e
    rw[h2] at q
    exact absurd q.symm z
   ·rw[if_neg q] at e
    exact root_none v e
inductive Path (h:Hs):F->F->Nat->Prop
 |stop {f:F}:hval h f=none->Path h f f 0
 |step {f g r:F} {k:Nat}:hval h f=some g->Path h g r k->Path h f r (k+1)
theorem path_more{h:Hs}{a b:F}(ha:hval h a=none)(hb:hval h b=none)(ne:a≠b){f r:F}{k:Nat}(p:Path h f r k):∃ j,j<=k+1/\Path ((a,b)::h) f (if r=a then b else r) j:=by
 induction p with
 |stop e =>
  rename_i f
  by_cases z:f=a
  ·subst z
   rw[if_pos rfl]
   exact⟨1,by omega,.step (g:=b) (by simp[hval]) (.stop (by simp only[hval];rw[if_neg ne];exact hb))⟩
  ·rw[if_neg z]
   exact⟨0,by omega,.stop (by simp only[hval];rw[if_neg (Ne.symm z)];exact e)⟩
 |step e _ ih =>
  rename_i f g r k _
  obtain⟨j,h1,h2⟩:=ih
  refine⟨j+1,by omega,.step (g:=g) ?_ h2⟩
  simp only[hval]
  rw[if_neg fun z=>by rw[← z,ha] at e;cases e]
  exact e
theorem path_of:∀ {h:Hs},Vd h->∀ f,∃ k,k<=h.length/\Path h f (rep h f) k
 | [],_,f=>⟨0,Nat.le_refl _,.stop rfl⟩
 | (x,y)::h,⟨v,h1,h2,h3⟩,f=>by
  obtain⟨k,hk,p⟩:=path_of v f
  obtain⟨j,hj,q⟩:=path_more (root_none v h1) (root_none v h2) h3 p
  exact⟨j,by simp only[List.length_cons];omega,q⟩
noncomputable def encH:Hs->List (G × G)
 | []=>[]
 |p::h=>encH h++[(enc p.1,enc p.2)]
theorem dget_app:∀ (l:List (G × G)) (k v j:G),dget (l++[(k,v)]) j=match dget l j with|some u=>some u|none=>if k=j then some v else none
 | [],k,v,j=>by simp[dget]
 | (a,u)::r,k,v,j=>by
  simp only[List.cons_append,dget]
  by_cases z:a=j
  ·simp[z]
  ·simp[z,dget_app r k v j]
theorem dput_app:∀ {l:List (G × G)} {k v:G},dget l k=none->dput l k v=l++[(k,v)]
 | [],k,v,_=>rfl
 | (a,u)::r,k,v,h=>by
  simp only[dget] at h
  by_cases z:a=k
  ·rw[if_pos z] at h;cases h
  ·rw[if_neg z] at h
   simp only[dput,if_neg z,List.cons_append,dput_app h]
theorem dget_encH:∀ {h:Hs},Vd h->∀ f,dget (encH h) (enc f)=(hval h f).map enc
 | [],_,f=>rfl
 | (x,y)::h,⟨v,h1,h2,h3⟩,f=>by
  have ih:=dget_encH v f
  simp only[encH,dget_app,ih,hval]
  by_cases z:x=f
  ·subst z
   rw[root_none v h1]
   simp
  ·rw[if_neg z,if_neg fun e=>z (enc_inj e)]
   cases hval h f<;>rfl
theorem encH_len:∀ h:Hs,(encH h).length=h.length
 | []=>rfl
 |p::h=>by simp[encH,encH_len h]
theorem encH_mem:∀ {h:Hs} {x:G × G},x∈encH h->∃ p∈h,x=(enc p.1,enc p.2)
 | [],x,m=>by simp[encH] at m
 |p::h,x,m=>by
  simp only[encH,List.mem_append,List.mem_singleton] at m
  rcases m with m|m
  ·obtain⟨q,h1,h2⟩:=encH_mem m
   exact⟨q,List.mem_cons_of_mem _ h1,h2⟩
  ·exact⟨p,List.mem_cons_self,m⟩
theorem tkey_enc(f:F):tkey (enc f)=true:=by
 have:=keyG_enc f
 cases f<;>simpa[enc,tkey,keyG] using this
theorem rep_same{h:Hs}{a b:F}(p:F × F)(e:rep h a=rep h b):rep (p::h) a=rep (p::h) b:=by simp only[rep,e]
theorem rep_sub{θ:Int->F}:∀ {h:Hs},(∀ p∈h,sub θ p.1=sub θ p.2)->∀ t,sub θ (rep h t)=sub θ t
 | [],_,t=>rfl
 | (x,y)::h,hp,t=>by
  have ih:=rep_sub (fun p m=>hp p (List.mem_cons_of_mem _ m)) t
  simp only[rep]
  split
  ·rename_i e
   have:=hp (x,y) List.mem_cons_self
   simp only at this
   rw[← this, ← e,ih]
  ·exact ih
noncomputable def zp:List F->List F->List (F × F)
 |x::r,y::t=>(x,y)::zp r t
 |_,_=>[]
theorem zp_at:∀ {ps qs:List F} {i:Nat} {p q:F},ps[i]?=some p->qs[i]?=some q->(p,q)∈zp ps qs
 | [],_,i,p,q,h,_=>by simp at h
 |_::_,[],i,p,q,_,h=>by simp at h
 |x::r,y::t,0,p,q,h1,h2=>by
  simp at h1 h2
  subst h1 h2
  exact List.mem_cons_self
 |x::r,y::t,i+1,p,q,h1,h2=>List.mem_cons_of_mem _ (zp_at (by simpa using h1) (by simpa using h2))
theorem zp_mem:∀ {ps qs:List F} {z:F × F},z∈zp ps qs->z.1∈ps/\z.2∈qs
 | [],_,z,h=>by simp[zp] at h
 |_::_,[],z,h=>by simp[zp] at h
 |x::r,y::t,z,h=>by
  simp only[zp,List.mem_cons] at h
  rcases h with rfl|h
  ·exact⟨List.mem_cons_self,List.mem_cons_self⟩
  ·exact⟨List.mem_cons_of_mem _ (zp_mem h).1,List.mem_cons_of_mem _ (zp_mem h).2⟩
theorem zp_len:∀ ps qs:List F,(zp ps qs).length<=ps.length
 | [],_=>by simp[zp]
 |_::_,[]=>by simp[zp]
 |x::r,y::t=>by simp[zp,zp_len r t]
theorem zp_sub{θ:Int->F}:∀ {ps qs:List F},subs θ ps=subs θ qs->∀ z∈zp ps qs,sub θ z.1=sub θ z.2
 | [],_,_,z,h=>by simp[zp] at h
 |_::_,[],_,z,h=>by simp[zp] at h
 |x::r,y::t,e,z,h=>by
  simp only[subs,List.cons.injEq] at e
  simp only[zp,List.mem_cons] at h
  rcases h with rfl|h
  ·exact e.1
  ·exact zp_sub e.2 z h
noncomputable abbrev Ls:=List (F × F)
noncomputable def ustep(h:Hs)(a b:F)(ls:Ls):Option (Hs × Ls) :=
 if rep h a=rep h b then some (h,ls) else match rep h a,rep h b with
  | .gap n,q=>some ((.gap n,q)::h,ls)
  | .tie w ps,.gap n=>some ((.gap n,.tie w ps)::h,ls)
  | .tie w ps,.tie v qs=>if w=v/\ps.length=qs.length then some ((.tie v qs,.tie w ps)::h,(zp ps qs).reverse++ls) else none
structure UI(U:List F)(f g:F)(h:Hs)(ls:Ls):Prop where
 vd:Vd h
 inH:∀ p∈h,p.1∈U/\p.2∈U
 inL:∀ p∈ls,p.1∈U/\p.2∈U
 same:∀ θ,sub θ f=sub θ g->(∀ p∈h,sub θ p.1=sub θ p.2)/\∀ p∈ls,sub θ p.1=sub θ p.2
 top:rep h f=rep h g\/(f,g)∈ls
 cls:∀ p∈h,(∃ n,p.1 = .gap n)\/∃ (w:List Nat) (ps qs:List F),p.1 = .tie w ps/\p.2 = .tie w qs/\ps.length=qs.length/\∀ (i:Nat) (x y:F),ps[i]?=some x->qs[i]?=some y->rep h x=rep h y\/(y,x)∈ls
noncomputable def Clo(U:List F):Prop:=∀ w ps,F.tie w ps∈U->ps.length<=4/\∀ p∈ps,p∈U
theorem rep_in{U:List F}:∀ {h:Hs},(∀ p∈h,p.1∈U/\p.2∈U)->∀ {f:F},f∈U->rep h f∈U
 | [],_,f,m=>m
 | (x,y)::h,hp,f,m=>by
  have ih:=rep_in (fun p m=>hp p (List.mem_cons_of_mem _ m)) m
  simp only[rep]
  split
  ·exact(hp (x,y) List.mem_cons_self).2
  ·exact ih
theorem keys_nd:∀ {h:Hs},Vd h->(h.map (·.1)).Nodup
 | [],_=>List.nodup_nil
 | (x,y)::h,⟨v,h1,_,_⟩=>by
  simp only[List.map_cons,List.nodup_cons]
  refine⟨fun m => ?_,keys_nd v⟩
  have h0:=root_none v h1
  simp only at h0
  clear h1 v
  rename_i z _
  clear z
  induction h with
  |nil=>simp at m
  |cons p t ih =>
   simp only[hval] at h0
   simp only[List.map_cons,List.mem_cons] at m
   split at h0
   ·cases h0
   ·rename_i ne
    rcases m with m|m
    ·exact ne m.symm
    ·exact ih m h0
theorem nd_len{α:Type}[DecidableEq α]:∀ {xs ys:List α},xs.Nodup->(∀ x∈xs,x∈ys)->xs.length<=ys.length
 | [],_,_,_=>by simp
 |x::r,ys,nd,h=>by
  rw[List.nodup_cons] at nd
  have h1:x∈ys:=h x List.mem_cons_self
  have h2:=nd_len (xs:=r) (ys:=ys.erase x) nd.2 fun z m=>(List.mem_erase_of_ne fun e=>nd.1 (by rw[← e];exact m)).mpr (h z (List.mem_cons_of_mem _ m))
  rw[List.length_erase_of_mem h1] at h2
  have:0<ys.length:=List.length_pos_of_mem h1
  simp only[List.length_cons]
  omega
theorem UI.len{U:List F}{f g:F}{h:Hs}{ls:Ls}(I:UI U f g h ls):h.length<=U.length:=by
 have:=nd_len (keys_nd I.vd) (ys:=U) fun x m=>by
  obtain⟨p,h1,rfl⟩:=List.mem_map.mp m
  exact(I.inH p h1).1
 simpa using this
theorem UI.link{U:List F}{f g:F}{h:Hs}{a b x y:F}{ls:Ls}{more:Ls}(I:UI U f g h ((a,b)::ls))(hxy:(x=rep h a/\y=rep h b)\/(x=rep h b/\y=rep h a))(ne:rep h a≠rep h b)
 (hl:∀ p∈more,p.1∈U/\p.2∈U) (hs:∀ θ,sub θ x=sub θ y->∀ p∈more,sub θ p.1=sub θ p.2)
 (hc:(∃ n,x = .gap n)\/∃ (w:List Nat) (ps qs:List F),x = .tie w ps/\y = .tie w qs/\ps.length=qs.length/\∀ (i:Nat) (u v:F),ps[i]?=some u->qs[i]?=some v->(v,u)∈more):UI U f g ((x,y)::h) (more++ls):=by
 have ia:=rep_idem I.vd a
 have ib:=rep_idem I.vd b
 have ab:rep ((x,y)::h) a=rep ((x,y)::h) b:=by
  simp only[rep]
  rcases hxy with⟨rfl,rfl⟩ | ⟨rfl,rfl⟩
  ·rw[if_pos rfl,if_neg fun z=>ne z.symm]
  ·rw[if_neg ne,if_pos rfl]
 have ea:=I.inL (a,b) List.mem_cons_self
 have ux:x∈U/\y∈U:=by
  rcases hxy with⟨rfl,rfl⟩ | ⟨rfl,rfl⟩
  ·exact⟨rep_in I.inH ea.1,rep_in I.inH ea.2⟩
  ·exact⟨rep_in I.inH ea.2,rep_in I.inH ea.1⟩
 have step:∀ u v:F,rep h u=rep h v\/(u,v)∈(a,b)::ls->rep ((x,y)::h) u=rep ((x,y)::h) v\/(u,v)∈more++ls:=fun u v z=>by
  rcases z with z|z
  ·exact .inl (rep_same _ z)
  ·rcases List.mem_cons.mp z with z|z
   ·cases z;exact .inl ab
   ·exact .inr (List.mem_append_right _ z)
 refine⟨⟨I.vd,?_,?_,?_⟩,?_,?_,fun θ e => ?_,step f g I.top,?_⟩
 ·rcases hxy with⟨rfl,rfl⟩ | ⟨rfl,rfl⟩<;>assumption
 ·rcases hxy with⟨rfl,rfl⟩ | ⟨rfl,rfl⟩<;>assumption
 ·rcases hxy with⟨rfl,rfl⟩ | ⟨rfl,rfl⟩
  ·exact ne
  ·exact Ne.symm ne
 ·intro p m
  rcases List.mem_cons.mp m with rfl|m
  ·exact ux
  ·exact I.inH p m
 ·intro p m
  rcases List.mem_append.mp m with m|m
  ·exact hl p m
  ·exact I.inL p (List.mem_cons_of_mem _ m)
 ·obtain⟨s1,s2⟩:=I.same θ e
  have e1:=rep_sub s1 a
  have e2:=rep_sub s1 b
  have e3:=s2 (a,b) List.mem_cons_self
  have exy:sub θ x=sub θ y:=by
   simp only at e3
   rcases hxy with⟨rfl,rfl⟩ | ⟨rfl,rfl⟩
   ·rw[e1,e2,e3]
   ·rw[e1,e2,e3]
  refine⟨fun p m => ?_,fun p m => ?_⟩
  ·rcases List.mem_cons.mp m with rfl|m
   ·exact exy
   ·exact s1 p m
  ·rcases List.mem_append.mp m with m|m
   ·exact hs θ exy p m
   ·exact s2 p (List.mem_cons_of_mem _ m)
 ·intro p m
  rcases List.mem_cons.mp m with rfl|m
  ·rcases hc with hc | ⟨w,ps,qs,h1,h2,h3,h4⟩
   ·exact .inl hc
   ·exact .inr ⟨w,ps,qs,h1,h2,h3,fun i u v g1 g2=>.inr (List.mem_append_left _ (h4 i u v g1 g2))⟩
  ·rcases I.cls p m with hc | ⟨w,ps,qs,h1,h2,h3,h4⟩
   ·exact .inl hc
   ·exact .inr ⟨w,ps,qs,h1,h2,h3,fun i u v g1 g2=>by
     rcases h4 i u v g1 g2 with z|z
     ·exact .inl (rep_same _ z)
     ·exact(step v u (.inr z)).imp (fun q=>q.symm) fun q=>q⟩
theorem UI.drop{U:List F}{f g:F}{h:Hs}{a b:F}{ls:Ls}(I:UI U f g h ((a,b)::ls))(e:rep h a=rep h b):UI U f g h ls:=by
 have step:∀ u v:F,rep h u=rep h v\/(u,v)∈(a,b)::ls->rep h u=rep h v\/(u,v)∈ls:=fun u v z=>by
  rcases z with z|z
  ·exact .inl z
  ·rcases List.mem_cons.mp z with z|z
   ·cases z;exact .inl e
   ·exact .inr z
 refine⟨I.vd,I.inH,fun p m=>I.inL p (List.mem_cons_of_mem _ m),fun θ e=>⟨(I.same θ e).1,fun p m=>(I.same θ e).2 p (List.mem_cons_of_mem _ m)⟩,step f g I.top,fun p m => ?_⟩
 rcases I.cls p m with hc | ⟨w,ps,qs,h1,h2,h3,h4⟩
 ·exact .inl hc
 ·exact .inr ⟨w,ps,qs,h1,h2,h3,fun i u v g1 g2=>by
   rcases h4 i u v g1 g2 with z|z
   ·exact .inl z
   ·exact(step v u (.inr z)).imp (fun q=>q.symm) fun q=>q⟩
theorem ustep_ok{U:List F}{f g:F}{h:Hs}{a b:F}{ls:Ls}(C:Clo U)(I:UI U f g h ((a,b)::ls)){θ:Int->F}(e:sub θ f=sub θ g) :
 ∃ h' ls',ustep h a b ls=some (h',ls')/\UI U f g h' ls'/\ls'.length+4*(U.length-h'.length)<ls.length+1+4*(U.length-h.length):=by
 unfold ustep
 by_cases z:rep h a=rep h b
 ·rw[if_pos z]
  exact⟨h,ls,rfl,I.drop z,by omega⟩
 ·rw[if_neg z]
  have s1:=(I.same θ e).1
  have s3:sub θ a=sub θ b:=(I.same θ e).2 (a,b) List.mem_cons_self
  have e1:=rep_sub s1 a
  have e2:=rep_sub s1 b
  have ea:=I.inL (a,b) List.mem_cons_self
  have ua:rep h a∈U:=rep_in I.inH ea.1
  have ub:rep h b∈U:=rep_in I.inH ea.2
  have exy:sub θ (rep h a)=sub θ (rep h b):=by rw[e1,e2,s3]
  cases ra:rep h a with
  |gap n =>
   have I2:=I.link (x:=.gap n) (y:=rep h b) (more:=[]) (.inl ⟨ra.symm,rfl⟩) z (fun _ m=>by simp at m) (fun _ _ _ m=>by simp at m) (.inl ⟨n,rfl⟩)
   have:=I2.len
   simp only[List.length_cons] at this
   exact⟨_,_,rfl,I2,by simp only[List.nil_append,List.length_cons];omega⟩
  |tie w ps =>
   cases rb:rep h b with
   |gap n =>
    have I2:=I.link (x:=.gap n) (y:=.tie w ps) (more:=[]) (.inr ⟨rb.symm,ra.symm⟩) z (fun _ m=>by simp at m) (fun _ _ _ m=>by simp at m) (.inl ⟨n,rfl⟩)
    have:=I2.len
    simp only[List.length_cons] at this
    exact⟨_,_,rfl,I2,by simp only[List.nil_append,List.length_cons];omega⟩
   |tie v qs =>
    rw[ra,rb] at exy
    simp only[sub,F.tie.injEq] at exy
    have hl:ps.length=qs.length:=by
     have:=congrArg List.length exy.2
     rwa [subs_len,subs_len] at this
    rw[ra] at ua
    rw[rb] at ub
    have cp:=C w ps ua
    have cq:=C v qs ub
    simp only
    rw[if_pos ⟨exy.1,hl⟩]
    have I2:=I.link (x:=.tie v qs) (y:=.tie w ps) (more:=(zp ps qs).reverse) (.inr ⟨rb.symm,ra.symm⟩) z
     (fun p m=>⟨cp.2 _ (zp_mem (List.mem_reverse.mp m)).1,cq.2 _ (zp_mem (List.mem_reverse.mp m)).2⟩)
     (fun η e p m=>by
       simp only[sub,F.tie.injEq] at e
       exact zp_sub e.2.symm p (List.mem_reverse.mp m))
     (.inr ⟨v,qs,ps,rfl,by rw[exy.1],hl.symm,fun i u x g1 g2=>List.mem_reverse.mpr (zp_at g2 g1)⟩)
    have:=I2.len
    simp only[List.length_cons] at this
    have hz:=zp_len ps qs
    exact⟨_,_,rfl,I2,by simp only[List.length_append,List.length_reverse,List.length_cons];omega⟩
theorem ui_start{U:List F}{f g:F}(hf:f∈U)(hg:g∈U):UI U f g [] [(f,g)] :=
 ⟨trivial,fun _ m=>by simp at m,fun p m=>by simp at m;subst m;exact⟨hf,hg⟩,fun θ e=>⟨fun _ m=>by simp at m,fun p m=>by simp at m;subst m;exact e⟩,.inr (by simp),fun _ m=>by simp at m⟩
noncomputable def resK(h:Hs):Nat->F->F
 |0,t=>t
 |k+1,t=>match rep h t with
  | .gap n=>.gap n
  | .tie w ps=>.tie w (ps.map (resK h k))
theorem resK_rep{h:Hs}{a b:F}{k:Nat}(hk:1<=k)(e:rep h a=rep h b):resK h k a=resK h k b:=by
 cases k with
 |zero=>omega
 |succ k=>simp only[resK,e]
theorem dep_part{θ:Int->F}{w:List Nat}{ps:List F}{p:F}(m:p∈ps):dep (sub θ p)+1<=dep (sub θ (.tie w ps)):=by
 have:sub θ p∈subs θ ps:=by
  induction ps with
  |nil=>simp at m
  |cons x r ih =>
   rcases List.mem_cons.mp m with rfl|m
   ·simp[subs]
   ·simp only[subs,List.mem_cons]
    exact .inr (ih m)
 have:=dep_le this
 simp only[sub,dep]
 omega
theorem resK_more{θ:Int->F}{h:Hs}(hs:∀ p∈h,sub θ p.1=sub θ p.2):∀ {k j:Nat} {t:F},dep (sub θ t)<=k->k<=j->resK h k t=resK h j t
 |0,j,t,h1,_=>by have:=dep_pos (sub θ t);omega
 |k+1,0,t,_,h2=>by omega
 |k+1,j+1,t,h1,h2=>by
  have e:=rep_sub hs t
  simp only[resK]
  cases r:rep h t with
  |gap n=>rfl
  |tie w ps =>
   simp only[F.tie.injEq,true_and]
   refine List.map_congr_left fun p m => ?_
   rw[r] at e
   have:=dep_part (θ:=θ) (w:=w) m
   rw[e] at this
   exact resK_more hs (by omega) (by omega)
theorem resK_sub{θ η:Int->F}{h:Hs}(hs:∀ p∈h,sub θ p.1=sub θ p.2)(hη:∀ p∈h,sub η p.1=sub η p.2):∀ {k:Nat} {t:F},dep (sub θ t)<=k->sub η (resK h k t)=sub η t
 |0,t,h1=>by have:=dep_pos (sub θ t);omega
 |k+1,t,h1=>by
  have e:=rep_sub hs t
  have e2:=rep_sub hη t
  simp only[resK]
  cases r:rep h t with
  |gap n=>rw[← e2,r]
  |tie w ps =>
   rw[← e2,r]
   simp only[sub,F.tie.injEq,true_and]
   rw[r] at e
   have hd:∀ p∈ps,dep (sub θ p)<=k:=fun p m=>by
    have:=dep_part (θ:=θ) (w:=w) m
    rw[e] at this
    omega
   clear r e
   induction ps with
   |nil=>rfl
   |cons x r ih =>
    simp only[List.map_cons,subs,List.cons.injEq]
    exact⟨resK_sub hs hη (hd x List.mem_cons_self),ih fun p m=>hd p (List.mem_cons_of_mem _ m)⟩
theorem rep_tie{H:Hs}(hc:∀ p∈H,(∃ n,p.1 = .gap n)\/∃ (w:List Nat) (ps qs:List F),p.1 = .tie w ps/\p.2 = .tie w qs/\ps.length=qs.length/\∀ (i:Nat) (x y:F),ps[i]?=some x->qs[i]?=some y->rep H x=rep H y) :
 ∀ {h:Hs},(∀ p∈h,p∈H)->∀ (w:List Nat) (ps:List F),∃ qs,rep h (.tie w ps) = .tie w qs/\ps.length=qs.length/\∀ (i:Nat) (x y:F),ps[i]?=some x->qs[i]?=some y->rep H x=rep H y
 | [],_,w,ps=>⟨ps,rfl,rfl,fun i x y h1 h2=>by rw[h1] at h2;cases h2;rfl⟩
 | (x,y)::h,hh,w,ps=>by
  obtain⟨qs,e,hl,hq⟩:=rep_tie hc (h:=h) (fun p m=>hh p (List.mem_cons_of_mem _ m)) w ps
  simp only[rep,e]
  by_cases z:F.tie w qs=x
  ·rw[if_pos z]
   rcases hc (x,y) (hh _ List.mem_cons_self) with⟨n,q⟩ | ⟨v,as,bs,h1,h2,h3,h4⟩
   ·simp only at q
    rw[q] at z
    cases z
   ·simp only at h1 h2
    rw[h1] at z
    cases z
    refine⟨bs,h2,hl.trans h3,fun i p q g1 g2 => ?_⟩
    have:i<qs.length:=by rw[← hl];exact(List.getElem?_eq_some_iff.mp g1).1
    exact(hq i p _ g1 (List.getElem?_eq_getElem this)).trans (h4 i _ q (List.getElem?_eq_getElem this) g2)
  ·rw[if_neg z]
   exact⟨qs,rfl,hl,hq⟩
section
variable {U:List F}{f g:F}{h:Hs}{θ:Int->F}
theorem map_eq_at{α β:Type}{φ ψ:α->β}:∀ {ps qs:List α},ps.length=qs.length->(∀ (i:Nat) (x y:α),ps[i]?=some x->qs[i]?=some y->φ x=ψ y)->ps.map φ=qs.map ψ
 | [],[],_,_=>rfl
 | [],_::_,h,_=>by simp at h
 |_::_,[],h,_=>by simp at h
 |x::r,y::t,h,e=>by
  simp only[List.map_cons,List.cons.injEq]
  exact⟨e 0 x y rfl rfl,map_eq_at (by simpa using h) fun i u v g1 g2=>e (i+1) u v (by simpa using g1) (by simpa using g2)⟩
theorem UI.joined(I:UI U f g h []):∀ p∈h,(∃ n,p.1 = .gap n)\/∃ (w:List Nat) (ps qs:List F),p.1 = .tie w ps/\p.2 = .tie w qs/\ps.length=qs.length/\∀ (i:Nat) (x y:F),ps[i]?=some x->qs[i]?=some y->rep h x=rep h y:=fun p m=>by
 rcases I.cls p m with z | ⟨w,ps,qs,h1,h2,h3,h4⟩
 ·exact .inl z
 ·exact .inr ⟨w,ps,qs,h1,h2,h3,fun i x y g1 g2=>by
   rcases h4 i x y g1 g2 with z|z
   ·exact z
   ·simp at z⟩
mutual
theorem res_sub(I:UI U f g h [])(e:sub θ f=sub θ g):∀ (t:F) {k:Nat},dep (sub θ t)<=k->resK h k t=sub (fun n=>resK h k (.gap n)) t
 | .gap n,k,_=>rfl
 | .tie w ps,0,hk=>by have:=dep_pos (sub θ (.tie w ps));omega
 | .tie w ps,k+1,hk=>by
  have hs:=(I.same θ e).1
  obtain⟨qs,e1,hl,hq⟩:=rep_tie I.joined (fun p m=>m) w ps
  have e2:=rep_sub hs (.tie w ps)
  rw[e1] at e2
  have ih:=ress_sub I e ps (k:=k+1) fun p m=>by have:=dep_part (θ:=θ) (w:=w) m;omega
  have e3:resK h (k+1) (.tie w ps) = .tie w (qs.map (resK h k)):=by simp only[resK,e1]
  rw[e3]
  simp only[sub,F.tie.injEq,true_and]
  rw[← ih]
  refine(map_eq_at hl fun i x y g1 g2 => ?_).symm
  have mx:x∈ps:=List.mem_of_getElem? g1
  have my:y∈qs:=List.mem_of_getElem? g2
  have d1:=dep_part (θ:=θ) (w:=w) mx
  have d2:=dep_part (θ:=θ) (w:=w) my
  rw[e2] at d2
  have k1:1<=k:=by have:=dep_pos (sub θ x);omega
  rw[← resK_more hs (k:=k) (j:=k+1) (t:=x) (by omega) (by omega)]
  exact resK_rep k1 (hq i x y g1 g2)
theorem ress_sub(I:UI U f g h [])(e:sub θ f=sub θ g):∀ (ps:List F) {k:Nat},(∀ p∈ps,dep (sub θ p)<=k)->ps.map (resK h k)=subs (fun n=>resK h k (.gap n)) ps
 | [],k,_=>rfl
 |x::r,k,hk=>by
  simp only[List.map_cons,subs,List.cons.injEq]
  exact⟨res_sub I e x (hk x List.mem_cons_self),ress_sub I e r fun p m=>hk p (List.mem_cons_of_mem _ m)⟩
end
theorem res_below(I:UI U f g h [])(e:sub θ f=sub θ g){k:Nat}(hk:dep (sub θ f)<=k):Abv f (resK h k f)/\Abv g (resK h k f):=by
 have e1:rep h f=rep h g:=by
  rcases I.top with z|z
  ·exact z
  ·simp at z
 have k1:1<=k:=by have:=dep_pos (sub θ f);omega
 refine⟨⟨fun n=>resK h k (.gap n),(res_sub I e f hk).symm⟩,⟨fun n=>resK h k (.gap n),?_⟩⟩
 rw[resK_rep k1 e1]
 exact(res_sub I e g (by rw[← e];exact hk)).symm
theorem res_nearest(I:UI U f g h [])(e:sub θ f=sub θ g){k:Nat}(hk:dep (sub θ f)<=k){η:Int->F}(q:sub η f=sub η g):sub η (resK h k f)=sub η f :=
 resK_sub (I.same θ e).1 (I.same η q).1 hk
end
end MP
namespace MP
variable {P:List Fn}{W:Nat}
noncomputable abbrev ldT:Tm:=(.op .innT (.cons (.var 2) (.cons (.var 1) .nil)))
noncomputable abbrev ldB:Blk:=(.cons (.set 2 (.op .idxT (.cons (.var 1) (.cons (.var 2) .nil)))) .nil)
noncomputable def fn_leader_of:Fn:=⟨"leader_of",2,3,
 (.cons (.set 2 (.var 0))
 (.cons (.whileS ldT ldB)
 (.cons (.ret (.var 2))
 .nil)))⟩
noncomputable abbrev lsT:Tm:=(.op .gt (.cons (.op .len (.cons (.var 3) .nil)) (.cons (.con (.int 0)) .nil)))
noncomputable abbrev lsB:Blk:=(.cons (.set 4 (.meth .pop (.var 3) .nil))
 (.cons (.set 5 (.call "leader_of" (.cons (.op .idx (.cons (.var 4) (.cons (.con (.int 0)) .nil))) (.cons (.var 2) .nil))))
 (.cons (.set 6 (.call "leader_of" (.cons (.op .idx (.cons (.var 4) (.cons (.con (.int 1)) .nil))) (.cons (.var 2) .nil))))
 (.cons (.ite (.op .eq (.cons (.var 5) (.cons (.var 6) .nil))) (.cons .cont
 .nil) .nil)
 (.cons (.ite (.call "is_gap" (.cons (.var 5) .nil)) (.cons (.setIdx (.var 2) (.var 5) (.var 6))
 .nil) (.cons (.ite (.call "is_gap" (.cons (.var 6) .nil)) (.cons (.setIdx (.var 2) (.var 6) (.var 5))
 .nil) (.cons (.ite (.call "of_one_kind" (.cons (.var 5) (.cons (.var 6) .nil))) (.cons (.setIdx (.var 2) (.var 6) (.var 5))
 (.cons (.expr (.meth .extend (.var 3) (.cons (.op .zipL (.cons (.op .idx (.cons (.var 5) (.cons (.con (.int 2)) .nil))) (.cons (.op .idx (.cons (.var 6) (.cons (.con (.int 2)) .nil))) .nil))) .nil)))
 .nil)) (.cons (.ret (.con .non))
 .nil))
 .nil))
 .nil))
 .nil)))))
noncomputable def fn_leaders_of:Fn:=⟨"leaders_of",2,7,
 (.cons (.set 2 (.op .dtg0 .nil))
 (.cons (.set 3 (.op .lst (.cons (.op .tup (.cons (.var 0) (.cons (.var 1) .nil))) .nil)))
 (.cons (.whileS lsT lsB)
 (.cons (.ret (.var 2))
 .nil))))⟩
theorem tells_encH{h:Hs}{f:F}(hh:∀ p∈h,dep p.1<=4)(hf:dep f<=4):tell8 (encH h) (enc f)=true:=by
 have h1:=gdep_enc f
 simp only[tell8,Bool.and_eq_true,decide_eq_true_eq,List.all_eq_true]
 refine⟨by omega,fun x m => ?_⟩
 obtain⟨p,hp,rfl⟩:=encH_mem m
 have:=gdep_enc p.1
 have:=hh p hp
 show gdep (enc p.1)<=8
 omega
theorem p_innT{σ:Store}{k:Nat}{xs:List (G × G)}{i:G}(h:σ[k]?=some (.dtg xs))(hk:tkey i=true)(ht:tell8 xs i=true):prim .innT [.g i,.ref k] σ = .ok (.g (.bl (dget xs i).isSome)) σ:=by simp[prim,pInnT,h,hk,ht,okG]
theorem p_notinT{σ:Store}{k:Nat}{xs:List (G × G)}{i:G}(h:σ[k]?=some (.dtg xs))(hk:tkey i=true)(ht:tell8 xs i=true):prim .notinT [.g i,.ref k] σ = .ok (.g (.bl (!(dget xs i).isSome))) σ:=by simp[prim,pNotInT,h,hk,ht,okG]
theorem p_ixT{σ:Store}{k:Nat}{xs:List (G × G)}{i v:G}(h:σ[k]?=some (.dtg xs))(hk:tkey i=true)(ht:tell8 xs i=true)(hv:dget xs i=some v):prim .idxT [.ref k,.g i] σ = .ok (.g v) σ:=by simp[prim,pIdxT,h,hk,ht,hv,okG]
theorem kPut3_dtg{σ:Store}{ε:Env}{k:Nat}{xs:List (G × G)}{i v:G}(h:σ[k]?=some (.dtg xs))(hk:tkey i=true)(ht:tell8 xs i=true)(hl:xs.length<big):kPut3 (.ref k) (.g v) ε (.ok (.g i) σ) = .ok (.next ε) (σ.set k (.dtg (dput xs i v))):=by
 cases i<;>simp_all [kPut3,putAt]
noncomputable def LoH(d:Nat)(h:Hs):Prop:=∀ p∈h,dep p.1<=d/\dep p.2<=d
theorem hval_mem:∀ {h:Hs} {f g:F},hval h f=some g->(f,g)∈h
 | [],f,g,e=>by simp[hval] at e
 | (x,y)::h,f,g,e=>by
  simp only[hval] at e
  split at e
  ·rename_i z
   cases e
   rw[← z]
   exact List.mem_cons_self
  ·exact List.mem_cons_of_mem _ (hval_mem e)
theorem leader_loop{cl:CallH}{σ:Store}{d:Nat}{h:Hs}{e0:Option R}(hd:σ[d]?=some (.dtg (encH h)))(v:Vd h)(lo:LoH 4 h){f r:F}{k:Nat}(p:Path h f r k):∀ n,k<n->dep f<=4 →
 whileL (ev cl true ldT) (evB cl W ldB) n [e0,some (.ref d),some (.g (enc f))] σ = .ok (.next [e0,some (.ref d),some (.g (enc r))]) σ:=by
 induction p with
 |stop e =>
  rename_i f
  intro n hn hf
  obtain⟨m,rfl⟩:∃ m,n=m+1:=⟨n-1,by omega⟩
  have t:=p_innT (i:=enc f) hd (tkey_enc f) (tells_encH (fun p m=>(lo p m).1) hf)
  rw[dget_encH v,e] at t
  exact whileL_end (by simp[t])
 |step e _ ih =>
  rename_i f g r k _
  intro n hn hf
  obtain⟨m,rfl⟩:∃ m,n=m+1:=⟨n-1,by omega⟩
  have tl:=tells_encH (fun p m=>(lo p m).1) hf
  have t:=p_innT (i:=enc f) hd (tkey_enc f) tl
  rw[dget_encH v,e] at t
  have t2:=p_ixT (i:=enc f) (v:=enc g) hd (tkey_enc f) tl (by rw[dget_encH v,e];rfl)
  rw[whileL_next (σ1:=σ) (σ2:=σ) (ε2:=[e0,some (.ref d),some (.g (enc g))]) (by simp[t]) (by simp[setSlot,t2])]
  exact ih m (by omega) (lo _ (hval_mem e)).2
theorem run_leader(h1:look P "leader_of"=some fn_leader_of){n d:Nat}{σ:Store}{h:Hs}(hd:σ[d]?=some (.dtg (encH h)))(v:Vd h)(lo:LoH 4 h){f:F}(hf:dep f<=4)(hW:h.length<W) :
 run P W (n+1) "leader_of" [.g (enc f),.ref d] σ = .ok (.g (enc (rep h f))) σ:=by
 obtain⟨k,hk,p⟩:=path_of v f
 rw[run_call h1 _ _ _ rfl]
 have lp:=leader_loop (W:=W) (cl:=run P W n) (e0:=some (.g (enc f))) hd v lo p W (by omega) hf
 simp[fn_leader_of,setSlot,evS_while,lp]
theorem p_pop{σ:Store}{k:Nat}{xs:List G}{x:G}(h:σ[k]?=some (.lst (xs++[x]))):prim .pop [.ref k] σ = .ok (.g x) (σ.set k (.lst xs)):=by simp[prim,pPop,h]
theorem recv_pop{σ:Store}{k:Nat}{xs:List G}(h:σ[k]?=some (.lst xs)):recvOk .pop (.ref k) σ=true:=by simp[recvOk,h]
theorem zipG_encs:∀ ps qs:List F,zipG (encs ps) (encs qs)=(zp ps qs).map encK
 | [],_=>by simp[encs,zipG,zp]
 |_::_,[]=>by simp[encs,zipG,zp]
 |x::r,y::t=>by simp[encs,zipG,zp,zipG_encs r t,encK]
theorem p_zipL{σ:Store}(ps qs:List F):prim .zipL [.g (.tup (encs ps)),.g (.tup (encs qs))] σ = .ok (.ref σ.length) (σ++[.lst ((zp ps qs).map encK)]):=by simp[prim,pZipL,zipG_encs]
theorem whileL_cont{test:Env->Store->Res R}{body:Env->Store->Res Out}{n:Nat}{ε ε2:Env}{σ σ1 σ2:Store}(h:test ε σ = .ok (.g (.bl true)) σ1)(hb:body ε σ1 = .ok (.cont ε2) σ2):whileL test body (n+1) ε σ=whileL test body n ε2 σ2:=by simp[whileL,h,hb]
theorem UI.lo{U:List F}{f g:F}{h:Hs}{ls:Ls}(I:UI U f g h ls)(hU:∀ x∈U,dep x<=4):LoH 4 h:=fun p m=>⟨hU _ (I.inH p m).1,hU _ (I.inH p m).2⟩
theorem eq_enc{σ:Store}{a b:F}(ha:dep a<=4):prim .eq [.g (enc a),.g (enc b)] σ = .ok (.g (.bl (decide (a=b)))) σ:=by
 have:shal (enc a)=true:=shal_enc (by omega)
 have e:decide (enc a=enc b)=decide (a=b):=by
  by_cases z:a=b
  ·simp[z]
  ·have:¬ enc a=enc b:=fun q=>z (enc_inj q)
   simp[z,this]
 simp[prim,pEq,reqv,this,peq_enc,e,okG]
section
variable {cl:CallH}{U:List F}{f g:F}{θ:Int->F}{σ:Store}{e0 e1:Option R}
theorem leaders_loop(C:Clo U)(hU:∀ x∈U,dep x<=4)(hl:U.length<200)(e:sub θ f=sub θ g)
 (hc:∀ (h:Hs) (x:F) (τ:Store),Vd h->LoH 4 h->h.length<200->dep x<=4->τ[σ.length]?=some (.dtg (encH h))->cl "leader_of" [.g (enc x),.ref σ.length] τ = .ok (.g (enc (rep h x))) τ)
 (hg:∀ x τ,cl "is_gap" [.g (enc x)] τ = .ok (.g (.bl (match x with | .gap _=>true|_=>false))) τ)
 (hk:∀ x y τ,cl "of_one_kind" [.g (enc x),.g (enc y)] τ = .ok (.g (.bl (kin x y))) τ) :
 ∀ (n:Nat) (h:Hs) (ls:Ls) (J:Store) (o4 o5 o6:Option R),UI U f g h ls->ls.length+4*(U.length-h.length)<n->n<=10000 →
 ∃ h' J' o4' o5' o6',UI U f g h' []/\whileL (ev cl true lsT) (evB cl W lsB) n [e0,e1,some (.ref σ.length),some (.ref (σ.length+1)),o4,o5,o6] (σ ++ .dtg (encH h) :: .lst (ls.reverse.map encK)::J)
  = .ok (.next [e0,e1,some (.ref σ.length),some (.ref (σ.length+1)),o4',o5',o6']) (σ ++ .dtg (encH h') :: .lst []::J')
 |0,h,ls,J,o4,o5,o6,I,hn,_=>by omega
 |n+1,h,[],J,o4,o5,o6,I,hn,_=>by
  refine⟨h,J,o4,o5,o6,I,?_⟩
  show whileL (ev cl true lsT) (evB cl W lsB) (n+1) _ (σ ++ .dtg (encH h) :: .lst []::J)=_
  have e2:(σ ++ .dtg (encH h) :: .lst []::J)[σ.length+1]?=some (.lst []):=by simp[List.getElem?_append_right]
  refine whileL_end ?_
  have ln:prim .len [.ref (σ.length+1)] (σ ++ .dtg (encH h) :: .lst []::J) = .ok (.g (.int 0)) _:=p_len (by simp[lenOf,e2])
  simp[ln]
 |n+1,h,(a,b)::ls,J,o4,o5,o6,I,hn,hb=>by
  obtain⟨h',ls',es,I',hm⟩:=ustep_ok C I e
  obtain⟨h'',J',o4',o5',o6',I'',ih⟩:=leaders_loop C hU hl e hc hg hk n h' ls' (if rep h a=rep h b then J else match rep h a,rep h b with | .tie w ps,.tie v qs=>J++[.lst ((zp ps qs).map encK)]|_,_=>J)
   (some (.g (encK (a,b)))) (some (.g (enc (rep h a)))) (some (.g (enc (rep h b)))) I' (by simp only[List.length_cons] at hn;omega) (by omega)
  refine⟨h'',J',o4',o5',o6',I'',?_⟩
  rw[← ih]
  generalize hS:σ ++ .dtg (encH h) :: .lst (((a,b)::ls).reverse.map encK)::J=S
  have k1:S[σ.length]?=some (.dtg (encH h)):=by rw[← hS];simp
  have k2:S[σ.length+1]?=some (.lst (ls.reverse.map encK++[encK (a,b)])):=by rw[← hS];simp[List.getElem?_append_right]
  have t:ev cl true lsT [e0,e1,some (.ref σ.length),some (.ref (σ.length+1)),o4,o5,o6] S = .ok (.g (.bl true)) S:=by
   have ln:prim .len [.ref (σ.length+1)] S = .ok (.g (.int ((ls.length+1:Nat):Int))) S:=p_len (by simp[lenOf,k2])
   have:(0:Int)<((ls.length+1:Nat):Int):=by omega
   simp only[Int.natCast_add] at ln this
   simp[ln]
  generalize hT:σ ++ .dtg (encH h) :: .lst (ls.reverse.map encK)::J=T
  have k3:T[σ.length]?=some (.dtg (encH h)):=by rw[← hT];simp
  have k4:T[σ.length+1]?=some (.lst (ls.reverse.map encK)):=by rw[← hT];simp[List.getElem?_append_right]
  have k5:T.length=σ.length+2+J.length:=by rw[← hT];simp;omega
  have pp:prim .pop [.ref (σ.length+1)] S = .ok (.g (encK (a,b))) T:=by
   rw[p_pop k2, ← hS, ← hT]
   simp[List.set_append]
  have ea:=I.inL (a,b) List.mem_cons_self
  have da:dep a<=4:=hU _ ea.1
  have db:dep b<=4:=hU _ ea.2
  have ra:dep (rep h a)<=4:=hU _ (rep_in I.inH ea.1)
  have rb:dep (rep h b)<=4:=hU _ (rep_in I.inH ea.2)
  have lo:=I.lo hU
  have il:=I.len
  have c1:=hc h a T I.vd lo (by omega) da k3
  have c2:=hc h b T I.vd lo (by omega) db k3
  have q:=eq_enc (σ:=T) (b:=rep h b) ra
  have i0:prim .idx [.g (encK (a,b)),.g (.int 0)] T = .ok (.g (enc a)) T:=rfl
  have i1:prim .idx [.g (encK (a,b)),.g (.int 1)] T = .ok (.g (enc b)) T:=rfl
  have hlen:(encH h).length<big:=by rw[encH_len];unfold big;omega
  have put:∀ x y:F,dep x<=4->rep h x=x->dput (encH h) (enc x) (enc y)=encH ((x,y)::h):=fun x y _ r=>dput_app (by rw[dget_encH I.vd,root_none I.vd r];rfl)
  have ia:=rep_idem I.vd a
  have ib:=rep_idem I.vd b
  unfold ustep at es
  by_cases z:rep h a=rep h b
  ·rw[if_pos z] at es
   cases es
   simp only[z,if_true]
   rw[hT]
   rw[z] at q
   simp only[decide_true] at q
   refine whileL_cont t ?_
   simp[setSlot,recv_pop k2,pp,i0,i1,c1,c2,q,z]
  ·rw[if_neg z] at es
   simp only[z,if_false]
   cases xa:rep h a with
   |gap m =>
    rw[xa] at es ia
    simp only[Option.some.injEq,Prod.mk.injEq] at es
    obtain⟨rfl,rfl⟩:=es
    simp only[xa] at c1 q z ra ⊢
    have g1:=hg (.gap m) T
    have pt:=kPut3_dtg (ε:=[e0,e1,some (.ref σ.length),some (.ref (σ.length+1)),some (.g (encK (a,b))),some (.g (enc (.gap m))),some (.g (enc (rep h b)))]) (v:=enc (rep h b)) k3 (tkey_enc (.gap m)) (tells_encH (fun p m=>(lo p m).1) (by simp[dep])) hlen
    rw[put _ _ (by simp[dep]) ia] at pt
    have st:T.set σ.length (.dtg (encH ((.gap m,rep h b)::h)))=σ ++ .dtg (encH ((.gap m,rep h b)::h)) :: .lst (ls.reverse.map encK)::J:=by rw[← hT];simp[List.set_append]
    rw[st] at pt
    refine whileL_next t ?_
    simp[setSlot,recv_pop k2,pp,i0,i1,c1,c2,q,z,g1,pt]
   |tie w ps =>
    cases xb:rep h b with
    |gap m =>
     rw[xa,xb] at es
     rw[xb] at ib
     simp only[Option.some.injEq,Prod.mk.injEq] at es
     obtain⟨rfl,rfl⟩:=es
     simp only[xa,xb] at c1 c2 q z ra ⊢
     have g1:=hg (.tie w ps) T
     have g2:=hg (.gap m) T
     have pt:=kPut3_dtg (ε:=[e0,e1,some (.ref σ.length),some (.ref (σ.length+1)),some (.g (encK (a,b))),some (.g (enc (.tie w ps))),some (.g (enc (.gap m)))]) (v:=enc (.tie w ps)) k3 (tkey_enc (.gap m)) (tells_encH (fun p m=>(lo p m).1) (by simp[dep])) hlen
     rw[put _ _ (by simp[dep]) ib] at pt
     have st:T.set σ.length (.dtg (encH ((.gap m,.tie w ps)::h)))=σ ++ .dtg (encH ((.gap m,.tie w ps)::h)) :: .lst (ls.reverse.map encK)::J:=by rw[← hT];simp[List.set_append]
     rw[st] at pt
     refine whileL_next t ?_
     simp[setSlot,recv_pop k2,pp,i0,i1,c1,c2,q,z,g1,g2,pt]
    |tie v qs =>
     rw[xa,xb] at es
     simp only at es
     rw[xb] at ib rb
     by_cases y:w=v/\ps.length=qs.length
     ·rw[if_pos y] at es
      simp only[Option.some.injEq,Prod.mk.injEq] at es
      obtain⟨rfl,rfl⟩:=es
      simp only[xa,xb] at c1 c2 q z ra ⊢
      have g1:=hg (.tie w ps) T
      have g2:=hg (.tie v qs) T
      have g3:=hk (.tie w ps) (.tie v qs) T
      have kn:kin (.tie w ps) (.tie v qs)=true:=by simp[kin,y.1,y.2]
      rw[kn] at g3
      have pt:=kPut3_dtg (ε:=[e0,e1,some (.ref σ.length),some (.ref (σ.length+1)),some (.g (encK (a,b))),some (.g (enc (.tie w ps))),some (.g (enc (.tie v qs)))]) (v:=enc (.tie w ps)) k3 (tkey_enc (.tie v qs)) (tells_encH (fun p m=>(lo p m).1) rb) hlen
      rw[put _ _ rb ib] at pt
      have st:T.set σ.length (.dtg (encH ((.tie v qs,.tie w ps)::h)))=σ ++ .dtg (encH ((.tie v qs,.tie w ps)::h)) :: .lst (ls.reverse.map encK)::J:=by rw[← hT];simp[List.set_append]
      rw[st] at pt
      generalize hR:σ ++ .dtg (encH ((.tie v qs,.tie w ps)::h)) :: .lst (ls.reverse.map encK)::J=R at pt
      have r2:R[σ.length+1]?=some (.lst (ls.reverse.map encK)):=by rw[← hR];simp[List.getElem?_append_right]
      have ip:prim .idx [.g (enc (.tie w ps)),.g (.int 2)] R = .ok (.g (.tup (encs ps))) R:=rfl
      have iq:prim .idx [.g (enc (.tie v qs)),.g (.int 2)] R = .ok (.g (.tup (encs qs))) R:=rfl
      have zl:=p_zipL (σ:=R) ps qs
      have hz:=zp_len ps qs
      have cp:=C w ps (by rw[← xa];exact rep_in I.inH ea.1)
      have x2:(R++[Cell.lst ((zp ps qs).map encK)])[σ.length+1]?=some (.lst (ls.reverse.map encK)):=get_app _ r2
      have x3:(R++[Cell.lst ((zp ps qs).map encK)])[R.length]?=some (.lst ((zp ps qs).map encK)):=by simp
      have ex:=p_extend x2 x3 (by simp only[List.length_map,List.length_reverse,List.length_cons] at hn ⊢;unfold big;omega)
      have st2:(R++[Cell.lst ((zp ps qs).map encK)]).set (σ.length+1) (.lst (ls.reverse.map encK++(zp ps qs).map encK))=σ ++ .dtg (encH ((.tie v qs,.tie w ps)::h)) :: .lst (((zp ps qs).reverse++ls).reverse.map encK)::(J++[.lst ((zp ps qs).map encK)]):=by
       rw[← hR];simp[List.set_append]
      rw[st2] at ex
      refine whileL_next t ?_
      simp[setSlot,recv_pop k2,pp,i0,i1,c1,c2,q,z,g1,g2,g3,pt,recv_extend r2,ip,iq,zl,ex]
     ·rw[if_neg y] at es
      cases es
end
theorem run_leaders(h1:look P "is_gap"=some fn_is_gap)(h2:look P "of_one_kind"=some fn_of_one_kind)(h3:look P "leader_of"=some fn_leader_of)(h4:look P "leaders_of"=some fn_leaders_of){n:Nat}{U:List F}{f g:F}{θ:Int->F}(σ:Store)
 (C:Clo U) (hU:∀ x∈U,dep x<=4) (hl:U.length<200) (e:sub θ f=sub θ g) (hf:f∈U) (hg:g∈U) (hW:1000<=W) (hW2:W<=10000) :
 ∃ h,UI U f g h []/\run P W (n+4) "leaders_of" [.g (enc f),.g (enc g)] σ = .ok (.ref σ.length) (σ++[.dtg (encH h)]):=by
 obtain⟨h,J,o4,o5,o6,I,lp⟩:=leaders_loop (W:=W) (cl:=run P W (n+3)) (σ:=σ) (e0:=some (.g (enc f))) (e1:=some (.g (enc g))) C hU hl e (fun h x τ v lo hh hx hd=>run_leader (n:=n+2) h3 hd v lo hx (by omega)) (fun x τ=>run_is_gap h1 (n:=n+2) x τ) (fun x y τ=>run_kind h1 h2 (n:=n+1) x y τ)
  W [] [(f,g)] [] none none none (ui_start hf hg) (by simp;omega) hW2
 refine⟨h,I,?_⟩
 rw[run_call h4 _ _ _ rfl]
 have lp':whileL (ev (run P W (n+3)) true lsT) (evB (run P W (n+3)) W lsB) W [some (.g (enc f)),some (.g (enc g)),some (.ref σ.length),some (.ref (σ.length+1)),none,none,none] (σ++[.dtg [],.lst [.tup [enc f,enc g]]])=_:=lp
 have k1:(σ ++ .dtg (encH h) :: .lst []::J)[σ.length]?=some (.dtg (encH h)):=by simp
 have d0:prim .dtg0 [] σ = .ok (.ref σ.length) (σ++[.dtg []]):=rfl
 have m0:mkLst [R.g (.tup [enc f,enc g])] = .lst [.tup [enc f,enc g]]:=rfl
 have fn:=fin_new (n:=σ.length) (Nat.le_refl _) k1 rfl
 simp[fn_leaders_of,setSlot,d0,p_tup,mkTup,allG,p_lst,m0,evS_while,lp',fn]
end MP
namespace MP
variable {P:List Fn}{W:Nat}
noncomputable abbrev mdE:Tm:=(.call "made_whole" (.cons (.var 0) (.cons (.var 1) (.cons (.var 2) (.cons (.var 3) .nil)))))
noncomputable def fn_made_whole:Fn:=⟨"made_whole",4,6,
 (.cons (.set 4 (.call "leader_of" (.cons (.var 0) (.cons (.var 1) .nil))))
 (.cons (.ite (.call "is_gap" (.cons (.var 4) .nil)) (.cons (.ret (.op .tup (.cons (.con (.str [103,97,112])) (.cons (.meth .setdef (.var 3) (.cons (.op .idx (.cons (.var 4) (.cons (.con (.int 1)) .nil))) (.cons (.op .len (.cons (.var 3) .nil)) .nil))) .nil))))
 .nil) .nil)
 (.cons (.ite (.op .notinT (.cons (.var 4) (.cons (.var 2) .nil))) (.cons (.setIdx (.var 2) (.var 4) (.con .non))
 (.cons (.set 5 (.comp 1 [1,2,3] (.over (.op .idx (.cons (.var 4) (.cons (.con (.int 2)) .nil)))) .nil mdE))
 (.cons (.ite (.op .notin (.cons (.con .non) (.cons (.var 5) .nil))) (.cons (.setIdx (.var 2) (.var 4) (.op .tup (.cons (.con (.str [116,105,101])) (.cons (.op .idx (.cons (.var 4) (.cons (.con (.int 1)) .nil))) (.cons (.op .tupleOf (.cons (.var 5) .nil)) .nil)))))
 .nil) .nil)
 .nil))) .nil)
 (.cons (.ret (.op .idxT (.cons (.var 2) (.cons (.var 4) .nil))))
 .nil))))⟩
noncomputable def numD:Nat->List Int->List (G × G)
 |_,[]=>[]
 |i,n::r=>(.int n,.int (i:Int))::numD (i+1) r
theorem numD_len:∀ (l:List Int) (i:Nat),(numD i l).length=l.length
 | [],_=>rfl
 |n::r,i=>by simp[numD,numD_len r]
theorem numD_get:∀ (l:List Int) (i:Nat) (n:Int),dget (numD i l) (.int n)=if n∈l then some (.int ((i+l.idxOf n:Nat):Int)) else none
 | [],i,n=>by simp[numD,dget]
 |x::r,i,n=>by
  by_cases h:x=n
  ·subst h
   simp[numD,dget]
  ·have h':¬ n=x:=fun z=>h z.symm
   simp only[numD,dget,G.int.injEq,h,if_false,numD_get r (i+1) n,List.mem_cons,h',false_or]
   by_cases m:n∈r
   ·have:(x == n)=false:=by simpa using h
    simp only[m,if_true,List.idxOf_cons,this,cond_false,Option.some.injEq,G.int.injEq]
    omega
   ·simp[m]
theorem numD_app:∀ (l:List Int) (i:Nat) (n:Int),numD i (l++[n])=numD i l++[(.int n,.int ((i+l.length:Nat):Int))]
 | [],i,n=>by simp[numD]
 |x::r,i,n=>by
  simp only[List.cons_append,numD,numD_app r (i+1) n,List.length_cons]
  rw[show i+1+r.length=i+(r.length+1) by omega]
noncomputable def numS(l:List Int)(n:Int):F:=.gap (l.idxOf n)
theorem addN_ext(l:List Int)(n:Int):∃ r,addN l n=l++r:=by
 unfold addN
 split
 ·exact⟨[],by simp⟩
 ·exact⟨[n],rfl⟩
theorem foldN_ext:∀ (xs l:List Int),∃ r,xs.foldl addN l=l++r
 | [],l=>⟨[],by simp⟩
 |x::r,l=>by
  obtain⟨a,ha⟩:=addN_ext l x
  obtain⟨b,hb⟩:=foldN_ext r (addN l x)
  exact⟨a++b,by rw[List.foldl_cons,hb,ha,List.append_assoc]⟩
theorem numS_keep{l:List Int}(xs:List Int){t:F}(h:∀ n∈gn t,n∈l):sub (numS (xs.foldl addN l)) t=sub (numS l) t:=by
 obtain⟨r,e⟩:=foldN_ext xs l
 rw[e]
 exact sub_congr fun n m=>by simp only[numS,idx_app (h n m)]
theorem mem_keep{l:List Int}(xs:List Int){n:Int}(h:n∈l):n∈xs.foldl addN l:=mem_foldN.mpr (.inl h)
noncomputable abbrev Md:=List (F × Option F)
noncomputable def encO:Option F->G
 |none=>.non
 |some f=>enc f
noncomputable def encM(m:Md):List (G × G):=m.map fun p=>(enc p.1,encO p.2)
noncomputable def mval:Md->F->Option (Option F)
 | [],_=>none
 |p::m,f=>if p.1=f then some p.2 else mval m f
noncomputable def mset:Md->F->Option F->Md
 | [],f,v=>[(f,v)]
 |p::m,f,v=>if p.1=f then (p.1,v)::m else p::mset m f v
theorem dget_encM:∀ (m:Md) (f:F),dget (encM m) (enc f)=(mval m f).map encO
 | [],f=>rfl
 | (x,v)::m,f=>by
  have ih:=dget_encM m f
  simp only[encM,List.map_cons,dget,mval] at ih ⊢
  by_cases h:x=f
  ·simp[h]
  ·rw[if_neg h,if_neg fun z=>h (enc_inj z)]
   exact ih
theorem dput_encM:∀ (m:Md) (f:F) (v:Option F),dput (encM m) (enc f) (encO v)=encM (mset m f v)
 | [],f,v=>rfl
 | (x,u)::m,f,v=>by
  have ih:=dput_encM m f v
  simp only[encM,List.map_cons,dput,mset] at ih ⊢
  by_cases h:x=f
  ·simp[h]
  ·rw[if_neg h,if_neg fun z=>h (enc_inj z),ih]
   simp
theorem mval_mset:∀ (m:Md) (f:F) (v:Option F) (x:F),mval (mset m f v) x=if f=x then some v else mval m x
 | [],f,v,x=>by simp[mset,mval]
 | (y,u)::m,f,v,x=>by
  have ih:=mval_mset m f v x
  by_cases h:y=f
  ·subst h
   simp only[mset,if_true,mval]
   by_cases h2:y=x<;>simp[h2]
  ·simp only[mset,if_neg h,mval,ih]
   by_cases h2:y=x
   ·subst h2
    have:¬ f=y:=fun z=>h z.symm
    simp[this]
   ·simp[h2]
noncomputable def mkeys(m:Md):List F:=m.map (·.1)
theorem mset_keys:∀ (m:Md) (f:F) (v:Option F) (x:F),x∈mkeys (mset m f v)->x∈mkeys m\/x=f
 | [],f,v,x,h=>by simp[mset,mkeys] at h;exact .inr h
 | (y,u)::m,f,v,x,h=>by
  by_cases z:y=f
  ·simp only[mset,if_pos z,mkeys,List.map_cons,List.mem_cons] at h
   exact .inl (by simpa[mkeys] using h)
  ·simp only[mset,if_neg z,mkeys,List.map_cons,List.mem_cons] at h
   rcases h with h|h
   ·exact .inl (by simp[mkeys,h])
   ·rcases mset_keys m f v x h with q|q
    ·exact .inl (by simp only[mkeys,List.map_cons,List.mem_cons];exact .inr q)
    ·exact .inr q
theorem mset_nd:∀ (m:Md) (f:F) (v:Option F),(mkeys m).Nodup->(mkeys (mset m f v)).Nodup
 | [],f,v,_=>by simp[mset,mkeys]
 | (y,u)::m,f,v,h=>by
  simp only[mkeys,List.map_cons,List.nodup_cons] at h
  by_cases z:y=f
  ·simp only[mset,if_pos z,mkeys,List.map_cons,List.nodup_cons]
   exact h
  ·simp only[mset,if_neg z,mkeys,List.map_cons,List.nodup_cons]
   refine⟨fun q => ?_,mset_nd m f v h.2⟩
   rcases mset_keys m f v y q with w|w
   ·exact h.1 w
   ·exact z w
section
variable {U:List F}{h:Hs}{R:F->F}{δ:F->Nat}
structure Cs(U:List F)(h:Hs)(R:F->F)(δ:F->Nat):Prop where
 vd:Vd h
 inU:∀ p∈h,p.1∈U/\p.2∈U
 clo:Clo U
 low:∀ x∈U,dep x<=4
 few:U.length<200
 gapR:∀ t n,rep h t = .gap n->R t = .gap n
 tieR:∀ t w ps,t∈U->rep h t = .tie w ps->R t = .tie w (ps.map R)
 same:∀ t,δ (rep h t)=δ t
 part:∀ w ps p,p∈ps->δ p<δ (.tie w ps)
 pos:∀ t,1<=δ t
structure MI(U:List F)(h:Hs)(R:F->F)(M:Md)(l:List Int):Prop where
 nd:(mkeys M).Nodup
 inU:∀ x∈mkeys M,x∈U/\rep h x=x
 made:∀ x v,mval M x=some (some v)->v=sub (numS l) (R x)/\∀ n∈gn (R x),n∈l
 lnd:l.Nodup
 lU:∀ n∈l,F.gap n∈U
theorem MI.len{M:Md}{l:List Int}(I:MI U h R M l):M.length<=U.length/\l.length<=U.length:=by
 constructor
 ·have:=nd_len I.nd (ys:=U) fun x m=>(I.inU x m).1
  simpa[mkeys] using this
 ·have:=nd_len (xs:=l.map F.gap) (ys:=U) (by
   rw[List.Nodup,List.pairwise_map]
   exact I.lnd.imp fun a b=>a (by simpa using b)) fun x m=>by
    obtain⟨n,h1,rfl⟩:=List.mem_map.mp m
    exact I.lU n h1
  simpa using this
noncomputable def Wait(δ:F->Nat)(b:Nat)(M:Md):Prop:=∀ x,mval M x=some none->b<δ x
theorem tells_encM{M:Md}{f:F}(hh:∀ x∈mkeys M,dep x<=4)(hf:dep f<=4):tell8 (encM M) (enc f)=true:=by
 have h1:=gdep_enc f
 simp only[tell8,Bool.and_eq_true,decide_eq_true_eq,List.all_eq_true]
 refine⟨by omega,fun x m => ?_⟩
 obtain⟨p,hp,rfl⟩:=List.mem_map.mp m
 have:=gdep_enc p.1
 have:=hh p.1 (List.mem_map.mpr ⟨p,hp,rfl⟩)
 show gdep (enc p.1)<=8
 omega
noncomputable abbrev mdS(σ:Store)(m q:Nat)(M:Md)(l:List Int):Store:=(σ.set m (.dtg (encM M))).set q (.dct (numD 0 l))
noncomputable def MadeAt(P:List Fn)(W:Nat)(U:List F)(h:Hs)(R:F->F)(δ:F->Nat)(d m q n:Nat)(t:F):Prop:=∀ (M:Md) (l:List Int) (σ:Store),MI U h R M l->Wait δ (δ t) M->σ[d]?=some (.dtg (encH h))->σ[m]?=some (.dtg (encM M))->σ[q]?=some (.dct (numD 0 l)) →
 ∃ M',MI U h R M' ((gn (R t)).foldl addN l)/\(∀ x,mval M' x=some none↔mval M x=some none)/\(∀ n∈gn (R t),n∈(gn (R t)).foldl addN l) ∧
  run P W n "made_whole" [.g (enc t),.ref d,.ref m,.ref q] σ = .ok (.g (enc (sub (numS ((gn (R t)).foldl addN l)) (R t)))) (mdS σ m q M' ((gn (R t)).foldl addN l))
theorem mdS_at{σ:Store}{d m q:Nat}{M:Md}{l:List Int}(dm:d≠m)(dq:d≠q)(mq:m≠q){c:Cell}{cm cq:Cell}(hd:σ[d]?=some c)(hm:σ[m]?=some cm)(hq:σ[q]?=some cq) :
 (mdS σ m q M l)[d]?=some c/\(mdS σ m q M l)[m]?=some (.dtg (encM M))/\(mdS σ m q M l)[q]?=some (.dct (numD 0 l)):=by
 have l1:=lt_of_get hm
 have l2:=lt_of_get hq
 refine⟨?_,?_,?_⟩
 ·rw[List.getElem?_set_ne (Ne.symm dq),List.getElem?_set_ne (Ne.symm dm)]
  exact hd
 ·rw[List.getElem?_set_ne (Ne.symm mq)]
  exact List.getElem?_set_self l1
 ·exact List.getElem?_set_self (by simpa using l2)
theorem mdS_mdS{σ:Store}{m q:Nat}(mq:m≠q)(M M':Md)(l l':List Int):mdS (mdS σ m q M l) m q M' l'=mdS σ m q M' l':=by
 unfold mdS
 rw[List.set_comm _ _ (Ne.symm mq),List.set_set,List.set_set]
theorem parts_loop{d m q n:Nat}(dm:d≠m)(dq:d≠q)(mq:m≠q){e0 e4 e5:Option MP.R}{b:Nat}:∀ (ps:List F),(∀ p∈ps,δ p<=b/\MadeAt P W U h R δ d m q n p)->∀ (M:Md) (l:List Int) (σ:Store),MI U h R M l->Wait δ b M->σ[d]?=some (.dtg (encH h))->σ[m]?=some (.dtg (encM M))->σ[q]?=some (.dct (numD 0 l)) →
 ∃ M',MI U h R M' ((gns (ps.map R)).foldl addN l)/\(∀ x,mval M' x=some none↔mval M x=some none)/\(∀ p∈ps,∀ n∈gn (R p),n∈(gns (ps.map R)).foldl addN l) ∧
  compL (compF (run P W n) 1 [1,2,3] .nil mdE [e0,some (.ref d),some (.ref m),some (.ref q),e4,e5]) none ((encs ps).map .g) σ = .ok ((ps.map fun p=>sub (numS ((gns (ps.map R)).foldl addN l)) (R p)).map fun x=>MP.R.g (enc x)) (mdS σ m q M' ((gns (ps.map R)).foldl addN l))
 | [],_,M,l,σ,I,w,hd,hm,hq=>by
  refine⟨M,I,fun _=>Iff.rfl,fun _ z=>by simp at z,?_⟩
  simp only[List.map_nil,gns,List.foldl_nil,encs,compL,intact,if_true]
  rw[mdS,set_same hm,set_same hq]
 |p::r,hp,M,l,σ,I,w,hd,hm,hq=>by
  obtain⟨hb,ha⟩:=hp p List.mem_cons_self
  obtain⟨M1,I1,w1,g1,e1⟩:=ha M l σ I (fun x z=>Nat.lt_of_le_of_lt hb (w x z)) hd hm hq
  obtain⟨d1,m1,q1⟩:=mdS_at (M:=M1) (l:=(gn (R p)).foldl addN l) dm dq mq hd hm hq
  obtain⟨M2,I2,w2,g2,e2⟩:=parts_loop (e0:=e0) (e4:=e4) (e5:=e5) dm dq mq r (fun p' m'=>hp p' (List.mem_cons_of_mem _ m')) M1 _ _ I1 (fun x z=>w x ((w1 x).mp z)) d1 m1 q1
  rw[mdS_mdS mq] at e2
  have hg:gns ((p::r).map R)=gn (R p)++gns (r.map R):=by simp[gns]
  rw[hg,List.foldl_append]
  refine⟨M2,I2,fun x=>(w2 x).trans (w1 x),fun p' m' n' z => ?_,?_⟩
  ·rcases List.mem_cons.mp m' with rfl|m'
   ·exact mem_keep _ (g1 n' z)
   ·exact g2 p' m' n' z
  ·simp only[encs,List.map_cons,compL,intact,if_true]
   rw[numS_keep (gns (r.map R)) (t:=R p) g1]
   simp[e1,e2]
theorem numS_fold(l:List Int)(n:Int):numS (addN l n) n = .gap (((if n∈l then l.idxOf n else l.length:Nat)):Int):=by
 unfold numS addN
 by_cases h:n∈l
 ·simp[h]
 ·simp only[if_neg h,idx_end h]
theorem notin_none{σ:Store}{k:Nat}{fs:List F}(h:σ[k]?=some (.lst (fs.map enc)))(hs:∀ f∈fs,dep f<=75):prim .notin [.g .non,.ref k] σ = .ok (.g (.bl true)) σ:=by
 rw[p_notin h (by
  simp only[List.all_eq_true,List.mem_map]
  rintro x ⟨f,hf,rfl⟩
  exact shal_enc (hs f hf))]
 have:((fs.map enc).any fun y=>peq y .non)=false:=by
  simp only[List.any_eq_false,List.mem_map]
  rintro x ⟨f,hf,rfl⟩
  cases f<;>simp[enc,peq]
 rw[this]
 rfl
theorem made_at(h1:look P "is_gap"=some fn_is_gap)(h2:look P "leader_of"=some fn_leader_of)(h3:look P "made_whole"=some fn_made_whole)(C:Cs U h R δ)(hR:∀ t∈U,dep (R t)<=75)(hW:1000<=W){d m q:Nat}(dm:d≠m)(dq:d≠q)(mq:m≠q) :
 ∀ (n:Nat) (t:F),t∈U->δ t+2<=n->MadeAt P W U h R δ d m q n t
 |0,t,_,hn=>by omega
 |n+1,t,tU,hn=>by
  intro M l σ I w hd hm hq
  obtain⟨j,rfl⟩:∃ j,n=j+1:=⟨n-1,by omega⟩
  have hl:h.length<=U.length:=by
   have:=nd_len (keys_nd C.vd) (ys:=U) fun x z=>by
    obtain⟨p,q1,rfl⟩:=List.mem_map.mp z
    exact(C.inU p q1).1
   simpa using this
  have lo:LoH 4 h:=fun p z=>⟨C.low _ (C.inU p z).1,C.low _ (C.inU p z).2⟩
  have hf:=C.few
  have ld:=run_leader (W:=W) h2 (n:=j) hd C.vd lo (C.low t tU) (by omega)
  have rU:rep h t∈U:=rep_in C.inU tU
  have ri:=rep_idem C.vd t
  have ig:=run_is_gap (W:=W) h1 (n:=j) (rep h t) σ
  obtain⟨il,jl⟩:=I.len
  cases r:rep h t with
  |gap k =>
   rw[r] at ld ig rU
   have eR:=C.gapR t k r
   rw[eR]
   have hg:(gn (F.gap k)).foldl addN l=addN l k:=rfl
   rw[hg]
   have i1:prim .idx [.g (enc (.gap k)),.g (.int 1)] σ = .ok (.g (.int k)) σ:=rfl
   have ln:prim .len [.ref q] σ = .ok (.g (.int l.length)) σ:=p_len (by simp[lenOf,hq,numD_len])
   have hb:(numD 0 l).length<big:=by rw[numD_len];unfold big;omega
   refine⟨M,⟨I.nd,I.inU,fun x v z => ?_,nd_addN k I.lnd,fun n z => ?_⟩,fun _=>Iff.rfl,fun n z => ?_,?_⟩
   ·obtain⟨a,b⟩:=I.made x v z
    exact⟨by rw[a];exact(numS_keep [k] b).symm,fun n z=>mem_keep [k] (b n z)⟩
   ·rcases mem_addN.mp z with z|z
    ·exact I.lU n z
    ·rw[z];exact rU
   ·simp only[gn,List.mem_singleton] at z
    exact mem_addN.mpr (.inr z)
   ·have es:sub (numS (addN l k)) (F.gap k)=numS (addN l k) k:=rfl
    rw[es,numS_fold]
    show run P W (j+1+1) _ _ _=Res.ok (MP.R.g (.tup [.str [103,97,112],.int _])) _
    have sv:=numD_get l 0 k
    by_cases z:k∈l
    ·rw[if_pos z] at sv
     have ps:=p_setdefY (d:=.int l.length) hq (by rfl) hb sv
     have ea:addN l k=l:=addN_comm_aux z
     rw[run_call h3 _ _ _ rfl]
     generalize run P W (j+1)=cl at ld ig
     simp only[ea,mdS,set_same hm,set_same hq]
     simp[fn_made_whole,setSlot,ld,ig,recv_setdef hq,i1,ln,ps,p_tup,mkTup,allG,z]
    ·rw[if_neg z] at sv
     have ps:=p_setdefN (d:=.int l.length) hq (by rfl) hb sv
     rw[dput_app sv] at ps
     have ea:addN l k=l++[k]:=by simp[addN,z]
     have en:=numD_app l 0 k
     rw[run_call h3 _ _ _ rfl]
     generalize run P W (j+1)=cl at ld ig
     simp only[ea,mdS,set_same hm,en]
     simp[fn_made_whole,setSlot,ld,ig,recv_setdef hq,i1,ln,ps,p_tup,mkTup,allG,z,take_set]
  |tie v ps =>
   have hδ:δ (.tie v ps)=δ t:=by rw[← r];exact C.same t
   have eR:=C.tieR t v ps tU r
   have eRr:R (.tie v ps)=R t:=by rw[eR];exact C.tieR _ v ps (by rw[← r];exact rU) (by rw[← r];exact ri)
   have dr:dep (F.tie v ps)<=4:=by rw[← r];exact C.low _ rU
   have tU':F.tie v ps∈U:=by rw[← r];exact rU
   have ri':rep h (.tie v ps) = .tie v ps:=by rw[← r];exact ri
   rw[r] at ld ig
   have kl:∀ x∈mkeys M,dep x<=4:=fun x z=>C.low x (I.inU x z).1
   have tl:=tells_encM kl dr
   have ni:=p_notinT hm (tkey_enc (.tie v ps)) tl
   rw[dget_encM] at ni
   have hmb:(encM M).length<big:=by simp only[encM,List.length_map];unfold big;omega
   have gR:gn (R t)=gns (ps.map R):=by rw[eR];rfl
   cases mv:mval M (.tie v ps) with
   |some o =>
    cases o with
    |none =>
     have:=w _ mv
     omega
    |some u =>
     obtain⟨a,b⟩:=I.made _ u mv
     rw[eRr] at a b
     have fl:(gn (R t)).foldl addN l=l:=fold_there b
     rw[fl]
     refine⟨M,I,fun _=>Iff.rfl,b,?_⟩
     rw[mv] at ni
     have ix:=p_ixT (v:=enc u) hm (tkey_enc (.tie v ps)) tl (by rw[dget_encM,mv];rfl)
     rw[run_call h3 _ _ _ rfl]
     generalize run P W (j+1)=cl at ld ig
     simp only[mdS,set_same hm,set_same hq]
     simp[fn_made_whole,setSlot,ld,ig,ni,ix,a]
   |none =>
    rw[mv] at ni
    have hput:=kPut3_dtg (ε:=[some (.g (enc t)),some (.ref d),some (.ref m),some (.ref q),some (.g (enc (.tie v ps))),none]) (v:=.non) hm (tkey_enc (.tie v ps)) tl hmb
    rw[show G.non=encO none from rfl,dput_encM] at hput
    change kPut3 (.ref m) (.g .non) _ _=_ at hput
    have hmx:∀ x o,mval (mset M (.tie v ps) o) x=if F.tie v ps=x then some o else mval M x:=fun x o=>mval_mset M _ o x
    have I0:MI U h R (mset M (.tie v ps) none) l:=by
     refine⟨mset_nd _ _ _ I.nd,fun x z => ?_,fun x u z => ?_,I.lnd,I.lU⟩
     ·rcases mset_keys _ _ _ _ z with z|z
      ·exact I.inU x z
      ·rw[z];exact⟨tU',ri'⟩
     ·rw[hmx] at z
      split at z
      ·cases z
      ·exact I.made x u z
    have hmlt:=lt_of_get hm
    have s1:(σ.set m (.dtg (encM (mset M (.tie v ps) none))))[d]?=some (.dtg (encH h)):=by rw[List.getElem?_set_ne (Ne.symm dm)];exact hd
    have s2:(σ.set m (.dtg (encM (mset M (.tie v ps) none))))[m]?=some (.dtg (encM (mset M (.tie v ps) none))):=List.getElem?_set_self hmlt
    have s3:(σ.set m (.dtg (encM (mset M (.tie v ps) none))))[q]?=some (.dct (numD 0 l)):=by rw[List.getElem?_set_ne mq];exact hq
    have cp:=C.clo v ps tU'
    obtain⟨M2,I2,w2,g2,e2⟩:=parts_loop (P:=P) (W:=W) (n:=j+1) (e0:=some (.g (enc t))) (e4:=some (.g (enc (.tie v ps)))) (e5:=none) dm dq mq (b:=δ t-1) ps
     (fun p z=>by
       have:=C.part v ps p z
       exact⟨by omega,made_at h1 h2 h3 C hR hW dm dq mq (j+1) p (cp.2 p z) (by omega)⟩)
     (mset M (.tie v ps) none) l _ I0 (fun x z=>by
       rw[hmx] at z
       split at z
       ·rename_i e
        rw[← e,hδ]
        have:=C.pos t
        omega
       ·have:=w x z;omega) s1 s2 s3
    rw[← gR] at I2 g2 e2
    generalize hl':(gn (R t)).foldl addN l=l' at I2 g2 e2 ⊢
    have fE:∀ qs:List F,subs (numS l') (qs.map R)=qs.map fun p=>sub (numS l') (R p):=fun qs=>by
     induction qs with
     |nil=>rfl
     |cons y ys ih=>simp[subs,ih]
    have eN:sub (numS l') (R t) = .tie v (ps.map fun p=>sub (numS l') (R p)):=by rw[eR];simp only[sub,fE]
    generalize hfs:(ps.map fun p=>sub (numS l') (R p))=fs at e2 eN
    have dfs:∀ f∈fs,dep f<=75:=fun f z=>by
     rw[← hfs] at z
     obtain⟨p,hp,rfl⟩:=List.mem_map.mp z
     have:dep (sub (numS l') (R p))=dep (R p):=dep_ren (fun n=>(l'.idxOf n:Int)) (R p)
     rw[this]
     exact hR p (cp.2 p hp)
    have lfs:fs.length<=4:=by rw[← hfs];simpa using cp.1
    obtain⟨d2,m2,q2⟩:=mdS_at (M:=M2) (l:=l') dm dq mq s1 s2 s3
    have eS:mdS (σ.set m (.dtg (encM (mset M (.tie v ps) none)))) m q M2 l'=mdS σ m q M2 l':=by unfold mdS;rw[List.set_set]
    rw[eS] at e2 d2 m2 q2
    have lenS:(mdS σ m q M2 l').length=σ.length:=by simp[mdS]
    generalize hS:mdS σ m q M2 l'=S at e2 d2 m2 q2 lenS
    have m3:(S++[Cell.lst (fs.map enc)])[m]?=some (.dtg (encM M2)):=get_app _ m2
    have k3:(S++[Cell.lst (fs.map enc)])[S.length]?=some (.lst (fs.map enc)):=by simp
    have nn:=notin_none k3 dfs
    have kl2:∀ x∈mkeys M2,dep x<=4:=fun x z=>C.low x (I2.inU x z).1
    have tl2:=tells_encM kl2 dr
    have hmb2:(encM M2).length<big:=by
     have:=I2.len.1
     simp only[encM,List.length_map];unfold big;omega
    have i1:∀ τ:Store,prim .idx [.g (enc (.tie v ps)),.g (.int 1)] τ = .ok (.g (.str v)) τ:=fun _=>rfl
    have i2:∀ τ:Store,prim .idx [.g (enc (.tie v ps)),.g (.int 2)] τ = .ok (.g (.tup (encs ps))) τ:=fun _=>rfl
    have tf:=p_tupleL k3
    have hput2:=kPut3_dtg (ε:=[some (.g (enc t)),some (.ref d),some (.ref m),some (.ref q),some (.g (enc (.tie v ps))),some (.ref S.length)]) (v:=.tup [.str [116,105,101],.str v,.tup (fs.map enc)]) m3 (tkey_enc (.tie v ps)) tl2 hmb2
    have eo:G.tup [.str [116,105,101],.str v,.tup (fs.map enc)]=encO (some (.tie v fs)):=by simp[encO,enc,encs_map]
    rw[eo,dput_encM] at hput2
    rw[eo.symm] at hput2
    have m4:((S++[Cell.lst (fs.map enc)]).set m (.dtg (encM (mset M2 (.tie v ps) (some (.tie v fs))))))[m]?=some (.dtg (encM (mset M2 (.tie v ps) (some (.tie v fs))))):=List.getElem?_set_self (lt_of_get m3)
    have hmx2:∀ x,mval (mset M2 (.tie v ps) (some (.tie v fs))) x=if F.tie v ps=x then some (some (.tie v fs)) else mval M2 x:=fun x=>mval_mset M2 _ _ x
    have kl3:∀ x∈mkeys (mset M2 (.tie v ps) (some (.tie v fs))),dep x<=4:=fun x z=>by
     rcases mset_keys _ _ _ _ z with z|z
     ·exact kl2 x z
     ·rw[z];exact dr
    have ix:=p_ixT (v:=enc (.tie v fs)) m4 (tkey_enc (.tie v ps)) (tells_encM kl3 dr) (by rw[dget_encM,hmx2,if_pos rfl];rfl)
    refine⟨mset M2 (.tie v ps) (some (.tie v fs)),⟨mset_nd _ _ _ I2.nd,fun x z => ?_,fun x u z => ?_,I2.lnd,I2.lU⟩,fun x => ?_,fun n z => ?_,?_⟩
    ·rcases mset_keys _ _ _ _ z with z|z
     ·exact I2.inU x z
     ·rw[z];exact⟨tU',ri'⟩
    ·rw[hmx2] at z
     split at z
     ·rename_i e
      cases z
      rw[← e,eRr,eN]
      refine⟨rfl,fun n z => ?_⟩
      rw[← hl']
      exact mem_foldN.mpr (.inr z)
     ·exact I2.made x u z
    ·rw[hmx2]
     split
     ·rename_i e
      rw[← e,mv]
      simp
     ·rename_i e
      rw[w2 x,hmx,if_neg e]
    ·rw[← hl']
     exact mem_foldN.mpr (.inr z)
    ·rw[eN,run_call h3 _ _ _ rfl]
     generalize run P W (j+1)=cl at ld ig e2
     have fs_out:((S++[Cell.lst (fs.map enc)]).set m (.dtg (encM (mset M2 (.tie v ps) (some (.tie v fs)))))).take σ.length=mdS σ m q (mset M2 (.tie v ps) (some (.tie v fs))) l':=by
      rw[List.set_append,if_pos (lt_of_get m2), ← lenS,List.take_append_of_le_length (by simp)]
      rw[show S.length=(S.set m (.dtg (encM (mset M2 (.tie v ps) (some (.tie v fs)))))).length by simp,List.take_length, ← hS]
      unfold mdS
      rw[List.set_comm _ _ (Ne.symm mq),List.set_set]
     have mk:mkLst (fs.map fun x=>MP.R.g (enc x)) = .lst (fs.map enc):=mkLst_map enc fs
     simp[fn_made_whole,setSlot,ld,ig,ni,hput,i1,i2,wOver_tup,e2,mk,nn,tf,p_tup,mkTup,allG,hput2,ix,fs_out]
end
end MP
namespace MP
variable {P:List Fn}{W:Nat}
mutual
theorem dep_sub_le(s:Int->F):∀ f:F,dep f<=dep (sub s f)
 | .gap n=>by have:=dep_pos (s n);simpa[sub,dep] using this
 | .tie w ps=>by
  have:=deps_subs_le s ps
  simp only[sub,dep];omega
theorem deps_subs_le(s:Int->F):∀ ps:List F,deps ps<=deps (subs s ps)
 | []=>by simp[subs]
 |x::r=>by
  have:=dep_sub_le s x
  have:=deps_subs_le s r
  simp only[subs,deps];omega
end
mutual
theorem sz_sub_le(s:Int->F):∀ f:F,sz f<=sz (sub s f)
 | .gap n=>by have:=sz_pos (s n);simpa[sub,sz] using this
 | .tie w ps=>by
  have:=szs_subs_le s ps
  simp only[sub,sz];omega
theorem szs_subs_le(s:Int->F):∀ ps:List F,szs ps<=szs (subs s ps)
 | []=>by simp[subs]
 |x::r=>by
  have:=sz_sub_le s x
  have:=szs_subs_le s r
  simp only[subs,szs];omega
end
theorem Abv.dep{f g:F}(h:Abv f g):MP.dep f<=MP.dep g:=by obtain⟨s,rfl⟩:=h;exact dep_sub_le s f
theorem Abv.sz{f g:F}(h:Abv f g):MP.sz f<=MP.sz g:=by obtain⟨s,rfl⟩:=h;exact sz_sub_le s f
theorem gns_mem:∀ {ps:List F} {n:Int},n∈gns ps↔∃ p∈ps,n∈gn p
 | [],n=>by simp[gns]
 |x::r,n=>by simp[gns,gns_mem (ps:=r)]
theorem subs_map(s:Int->F):∀ ps:List F,subs s ps=ps.map (sub s)
 | []=>rfl
 |x::r=>by simp[subs,subs_map s r]
theorem open_sub{n:Int}(s:Int->F):∀ {g:F} {p:List Int},inP g p->¬ n∈gn g->∃ v,sub (fun m=>if m=n then v else s m) (openF n g p)=sub s g
 |g,[],_,_=>⟨sub s g,by cases g<;>simp[openF,sub]⟩
 | .tie w ps,i::p,h,hn=>by
  obtain⟨k,x,rfl,hx,hp⟩:=h
  have mx:x∈ps:=List.mem_of_getElem? hx
  have hn':∀ y∈ps,¬ n∈gn y:=fun y my z=>hn (gns_mem.mpr ⟨y,my,z⟩)
  obtain⟨v,e⟩:=open_sub s hp (hn' x mx)
  refine⟨v,?_⟩
  have h3:ps.getD k (.gap 0)=x:=by simp[List.getD,hx]
  have hsub:∀ y∈ps,sub (fun m=>if m=n then v else s m) y=sub s y:=fun y my=>sub_congr fun m hm=>if_neg fun(z:m=n)=>hn' y my (by rw[← z];exact hm)
  simp only[openF,sub,Int.toNat_natCast,h3,F.tie.injEq,true_and,subs_map]
  refine List.ext_getElem? fun j => ?_
  simp only[List.getElem?_map,List.getElem?_set]
  have hk:k<ps.length:=(List.getElem?_eq_some_iff.mp hx).1
  by_cases z:k=j
  ·subst z
   have hx':ps[k]=x:=by
    have:=List.getElem?_eq_getElem hk
    rw[hx] at this
    exact(Option.some.inj this).symm
   simp[hk,e,hx']
  ·simp only[z,if_false]
   cases q:ps[j]? with
   |none=>rfl
   |some y=>simp[hsub y (List.mem_of_getElem? q)]
theorem gn_open{n:Int}:∀ {g:F} {p:List Int},inP g p->∀ m∈gn (openF n g p),m∈gn g\/m=n
 |g,[],_,m,h=>by cases g<;>simp[openF,gn] at h<;>exact .inr h
 | .tie w ps,i::p,h,m,hm=>by
  obtain⟨k,x,rfl,hx,hp⟩:=h
  have h3:ps.getD k (.gap 0)=x:=by simp[List.getD,hx]
  simp only[openF,gn,Int.toNat_natCast,h3] at hm
  obtain⟨y,my,hy⟩:=gns_mem.mp hm
  rcases List.mem_or_eq_of_mem_set my with z|z
  ·exact .inl (gns_mem.mpr ⟨y,z,hy⟩)
  ·rw[z] at hy
   rcases gn_open hp m hy with q|q
   ·exact .inl (gns_mem.mpr ⟨x,List.mem_of_getElem? hx,q⟩)
   ·exact .inr q
theorem LoosN.above{base:Int}{k:Nat}{f g:F}(h:LoosN base k f g)(hf:∀ n∈gn f,n<base/\0<=n)(hb:0<=base):Abv g f/\∀ n∈gn g,n<base+k/\0<=n:=by
 induction h with
 |refl=>exact⟨⟨F.gap,sub_gap _⟩,fun n m=>⟨by have:=(hf n m).1;omega,(hf n m).2⟩⟩
 |step _ hp ih =>
  obtain⟨⟨s,e⟩,hg⟩:=ih hf
  rename_i k _ g p _
  obtain⟨v,e2⟩:=open_sub (n:=base+k) s hp fun z=>by have:=(hg _ z).1;omega
  refine⟨⟨_,e2.trans e⟩,fun n m => ?_⟩
  rcases gn_open hp n m with z|z
  ·have:=hg n z;exact⟨by omega,this.2⟩
  ·omega
theorem Loos.above{base:Int}{f g:F}(h:Loos base f g)(hf:∀ n∈gn f,n<base/\0<=n)(hb:0<=base):Abv g f/\∀ n∈gn g,n<base+4/\0<=n:=by
 obtain⟨k,hk,q⟩:=h
 obtain⟨a,b⟩:=q.above hf hb
 exact⟨a,fun n m=>by have:=b n m;omega⟩
mutual
theorem okF_gn{many:Int}:∀ {f:F},okF many f->∀ n∈gn f,0<=n/\n<many
 | .gap n,h,m,hm=>by
  simp only[gn,List.mem_singleton] at hm
  subst hm
  exact h
 | .tie w ps,h,m,hm=>okFs_gn h.2.2 m hm
theorem okFs_gn{many:Int}:∀ {ps:List F},okFs many ps->∀ n∈gns ps,0<=n/\n<many
 | [],_,m,hm=>by simp[gns] at hm
 |x::r,h,m,hm=>by
  simp only[gns,List.mem_append] at hm
  rcases hm with hm|hm
  ·exact okF_gn h.1 m hm
  ·exact okFs_gn h.2 m hm
end
mutual
theorem sgn_clo:∀ {f:F},slim f->∀ w ps,F.tie w ps∈sgn f->ps.length<=4/\∀ p∈ps,p∈sgn f
 | .gap n,_,w,ps,h=>by simp[sgn] at h
 | .tie v qs,hs,w,ps,h=>by
  simp only[sgn,List.mem_cons,F.tie.injEq] at h
  rcases h with⟨rfl,rfl⟩|h
  ·exact⟨hs.1,fun p m=>by simp only[sgn];exact List.mem_cons_of_mem _ (sgns_self m)⟩
  ·obtain⟨a,b⟩:=sgns_clo hs.2 w ps h
   exact⟨a,fun p m=>by simp only[sgn];exact List.mem_cons_of_mem _ (b p m)⟩
theorem sgns_clo:∀ {qs:List F},slims qs->∀ w ps,F.tie w ps∈sgns qs->ps.length<=4/\∀ p∈ps,p∈sgns qs
 | [],_,w,ps,h=>by simp[sgns] at h
 |x::r,hs,w,ps,h=>by
  simp only[sgns,List.mem_append] at h ⊢
  rcases h with h|h
  ·obtain⟨a,b⟩:=sgn_clo hs.1 w ps h
   exact⟨a,fun p m=>.inl (b p m)⟩
  ·obtain⟨a,b⟩:=sgns_clo hs.2 w ps h
   exact⟨a,fun p m=>.inr (b p m)⟩
theorem sgns_self:∀ {qs:List F} {p:F},p∈qs->p∈sgns qs
 | [],p,h=>by simp at h
 |x::r,p,h=>by
  simp only[sgns,List.mem_append]
  rcases List.mem_cons.mp h with h|h
  ·rw[h,sgn_prt]
   exact .inl List.mem_cons_self
  ·exact .inr (sgns_self h)
end
theorem sgn_self(f:F):f∈sgn f:=by rw[sgn_prt];exact List.mem_cons_self
mutual
theorem sgn_dep(θ:Int->F):∀ {f t:F},t∈sgn f->dep (sub θ t)<=dep (sub θ f)
 | .gap n,t,h=>by
  simp only[sgn,List.mem_singleton] at h
  rw[h]
  exact Nat.le_refl _
 | .tie w ps,t,h=>by
  simp only[sgn,List.mem_cons] at h
  rcases h with h|h
  ·rw[h]
   exact Nat.le_refl _
  ·have:=sgns_dep θ h
   simp only[sub,dep]
   omega
theorem sgns_dep(θ:Int->F):∀ {ps:List F} {t:F},t∈sgns ps->dep (sub θ t)<=deps (subs θ ps)
 | [],t,h=>by simp[sgns] at h
 |x::r,t,h=>by
  simp only[sgns,List.mem_append] at h
  simp only[subs,deps]
  rcases h with h|h
  ·have:=sgn_dep θ h
   omega
  ·have:=sgns_dep θ h
   omega
end
theorem sgn_low{f t:F}(h:t∈sgn f):dep t<=dep f:=by
 have:=sgn_dep F.gap h
 rwa [sub_gap,sub_gap] at this
mutual
theorem slim_ren(t:Int->Int):∀ {f:F},slim f->slim (sub (fun n=>.gap (t n)) f)
 | .gap n,_=>by simp[sub,slim]
 | .tie w ps,h=>by
  simp only[sub,slim,subs_len]
  exact⟨h.1,slims_ren t h.2⟩
theorem slims_ren(t:Int->Int):∀ {ps:List F},slims ps->slims (subs (fun n=>.gap (t n)) ps)
 | [],_=>by simp[subs,slims]
 |x::r,h=>by
  simp only[subs,slims]
  exact⟨slim_ren t h.1,slims_ren t h.2⟩
end
theorem getD_idx:∀ {l:List Int} {n:Int},n∈l->l.getD (l.idxOf n) 0=n
 | [],n,h=>by simp at h
 |x::r,n,h=>by
  by_cases z:x=n
  ·subst z
   simp
  ·have zb:(x == n)=false:=by simpa using z
   have:n∈r:=by
    rcases List.mem_cons.mp h with q|q
    ·exact absurd q.symm z
    ·exact q
   have ih:=getD_idx this
   rw[List.idxOf_cons,zb]
   simpa using ih
theorem idx_lt:∀ {l:List Int} {n:Int},n∈l->l.idxOf n<l.length:=fun h=>List.idxOf_lt_length_of_mem h
theorem apart{a b g:F}(ha:Abv a g)(hb:Abv b g):∃ θ,sub θ (plF 0 a)=g/\sub θ (plF (lgaps a).length b)=g:=by
 obtain⟨s,es⟩:=ha
 obtain⟨t,et⟩:=hb
 refine⟨fun m=>if m<((lgaps a).length:Int) then s ((lgaps a).getD m.toNat 0) else t ((lgaps b).getD (m-(lgaps a).length).toNat 0),?_,?_⟩
 ·rw[plF_sub,sub_sub, ← es]
  refine sub_congr fun n hn => ?_
  have m:=mem_lgaps.mpr hn
  have hl:=idx_lt m
  have h1:(0:Int)+((lgaps a).idxOf n:Int)<((lgaps a).length:Int):=by omega
  have h2:((0:Int)+((lgaps a).idxOf n:Int)).toNat=(lgaps a).idxOf n:=by omega
  simp only[sub,h1,if_true,h2,getD_idx m]
 ·rw[plF_sub,sub_sub, ← et]
  refine sub_congr fun n hn => ?_
  have m:=mem_lgaps.mpr hn
  have h1:¬ (((lgaps a).length:Int)+((lgaps b).idxOf n:Int)<((lgaps a).length:Int)):=by omega
  have h2:(((lgaps a).length:Int)+((lgaps b).idxOf n:Int)-((lgaps a).length:Int)).toNat=(lgaps b).idxOf n:=by omega
  simp only[sub,h1,if_false,h2,getD_idx m]
theorem plF_abv(k:Int)(f:F):Abv f (plF k f):=⟨_,(plF_sub k f).symm⟩
theorem plF_abv'(k:Int)(f:F):Abv (plF k f) f:=plF_back k f
noncomputable def fn_nearest:Fn:=⟨"nearest",2,5,
 (.cons (.set 2 (.call "plain" (.cons (.var 0) .nil)))
 (.cons (.set 3 (.call "numbered_from" (.cons (.var 1) (.cons (.op .len (.cons (.call "gaps" (.cons (.var 0) .nil)) .nil)) .nil))))
 (.cons (.set 4 (.call "leaders_of" (.cons (.var 2) (.cons (.var 3) .nil))))
 (.cons (.ite (.op .isN (.cons (.var 4) (.cons (.con .non) .nil))) (.cons (.ret (.con .non))
 .nil) .nil)
 (.cons (.ret (.call "made_whole" (.cons (.var 2) (.cons (.var 4) (.cons (.op .dtg0 .nil) (.cons (.op .dct0 .nil) .nil))))))
 .nil)))))⟩
noncomputable def Near(a b N:F):Prop:=Abv a N/\Abv b N/\∀ g,Abv a g->Abv b g->Abv N g
section
variable (h1:look P "is_gap"=some fn_is_gap)(h2:look P "parts_of"=some fn_parts_of)(h3:look P "signs_of"=some fn_signs_of)(h4:look P "gaps"=some fn_gaps)(h5:look P "filled"=some fn_filled)(h6:look P "numbered_from"=some fn_numbered_from)(h7:look P "plain"=some fn_plain)
 (h8:look P "of_one_kind"=some fn_of_one_kind) (h9:look P "leader_of"=some fn_leader_of) (h10:look P "leaders_of"=some fn_leaders_of) (h11:look P "made_whole"=some fn_made_whole) (h12:look P "nearest"=some fn_nearest)
include h1 h2 h3 h4 h5 h6 h7 h8 h9 h10 h11 h12
theorem run_nearest{n:Nat}{a b g:F}(hn:12<=n)(sa:slim a)(sb:slim b)(ha:Abv a g)(hb:Abv b g)(dg:dep g<=4)(zg:sz g<=60)(hW:1000<=W)(hW2:W<=10000)(σ:Store) :
 ∃ N,Near a b N/\run P W n "nearest" [.g (enc a),.g (enc b)] σ = .ok (.g (enc N)) σ:=by
 obtain⟨j,rfl⟩:∃ j,n=j+12:=⟨n-12,by omega⟩
 have da:=ha.dep
 have db:=hb.dep
 have za:=ha.sz
 have zb:=hb.sz
 have eP:=run_plain (W:=W) h1 h2 h3 h4 h5 h6 h7 (n:=j+11) a σ (by omega) (by unfold big;omega)
 have hla:=lgaps_len a
 generalize hτ:σ++[Cell.lst ((lgaps a).map .int)]=τ
 have eN:=run_numbered (W:=W) h1 h2 h3 h4 h5 h6 (n:=j+11) b (lgaps a).length τ (by omega) (by unfold big;omega) (by simp[small];omega)
 have eG:=run_gaps (W:=W) h1 h2 h3 h4 (n:=j+11) a σ (by omega) (by unfold big;omega)
 generalize hfst:plF 0 a=f at eP
 generalize hsnd:plF (lgaps a).length b=s at eN
 have df:dep f<=4:=by rw[← hfst,plF_sub,dep_ren];omega
 have ds:dep s<=4:=by rw[← hsnd,plF_sub,dep_ren];omega
 have zf:sz f<=60:=by rw[← hfst,plF_sub,sz_ren];omega
 have zs:sz s<=60:=by rw[← hsnd,plF_sub,sz_ren];omega
 have slf:slim f:=by rw[← hfst,plF_sub];exact slim_ren _ sa
 have sls:slim s:=by rw[← hsnd,plF_sub];exact slim_ren _ sb
 obtain⟨θ,e1,e2⟩:=apart ha hb
 rw[hfst] at e1
 rw[hsnd] at e2
 have eq:sub θ f=sub θ s:=e1.trans e2.symm
 have C:Clo (sgn f++sgn s):=fun w ps m=>by
  rcases List.mem_append.mp m with m|m
  ·obtain⟨p,q⟩:=sgn_clo slf w ps m
   exact⟨p,fun x mx=>List.mem_append_left _ (q x mx)⟩
  ·obtain⟨p,q⟩:=sgn_clo sls w ps m
   exact⟨p,fun x mx=>List.mem_append_right _ (q x mx)⟩
 have hU:∀ x∈sgn f++sgn s,dep x<=4:=fun x m=>by
  rcases List.mem_append.mp m with m|m
  ·exact Nat.le_trans (sgn_low m) df
  ·exact Nat.le_trans (sgn_low m) ds
 have hUl:(sgn f++sgn s).length<200:=by rw[List.length_append,sgn_len,sgn_len];omega
 have fU:f∈sgn f++sgn s:=List.mem_append_left _ (sgn_self f)
 have sU:s∈sgn f++sgn s:=List.mem_append_right _ (sgn_self s)
 have hK:∀ x∈sgn f++sgn s,dep (sub θ x)<=dep (sub θ f):=fun x m=>by
  rcases List.mem_append.mp m with m|m
  ·exact sgn_dep θ m
  ·rw[eq];exact sgn_dep θ m
 obtain⟨h,I,eL⟩:=run_leaders (W:=W) h1 h8 h9 h10 (n:=j+7) τ C hU hUl eq fU sU hW hW2
 have hs:=(I.same θ eq).1
 generalize hKK:dep (sub θ f)=K at hK
 have K1:1<=K:=by rw[← hKK];exact dep_pos _
 have K4:K<=4:=by rw[← hKK,e1];exact dg
 have Cc:Cs (sgn f++sgn s) h (resK h K) fun t=>dep (sub θ t):=by
  obtain⟨k,rfl⟩:∃ k,K=k+1:=⟨K-1,by omega⟩
  refine⟨I.vd,I.inH,C,hU,hUl,fun t n e=>by simp only[resK,e],fun t w ps tU e => ?_,fun t=>by rw[rep_sub hs],fun w ps p m=>dep_part m,fun t=>dep_pos _⟩
  have e3:resK h (k+1) t = .tie w (ps.map (resK h k)):=by simp only[resK,e]
  rw[e3]
  simp only[F.tie.injEq,true_and]
  refine List.map_congr_left fun p m=>resK_more hs ?_ (by omega)
  have d1:=dep_part (θ:=θ) (w:=w) m
  rw[← e,rep_sub hs] at d1
  have:=hK t tU
  omega
 have dR:∀ t∈sgn f++sgn s,dep (resK h K t)<=75:=fun t m=>by
  have e4:=resK_sub hs hs (hK t m)
  have:=dep_sub_le θ (resK h K t)
  rw[e4] at this
  have:=hK t m
  omega
 obtain⟨M',_,_,_,eM⟩:=made_at (P:=P) (W:=W) h1 h9 h11 Cc dR hW (d:=τ.length) (m:=τ.length+1) (q:=τ.length+2) (by omega) (by omega) (by omega) (j+11) f fU (by rw[hKK];omega) [] [] (τ++[.dtg (encH h)]++[.dtg []]++[.dct []])
  ⟨by simp[mkeys],fun x m=>by simp[mkeys] at m,fun x v m=>by simp[mval] at m,by simp,fun n m=>by simp at m⟩ (fun x m=>by simp[mval] at m) (by simp[List.getElem?_append_right]) (by simp[List.getElem?_append_right,encM]) (by simp[List.getElem?_append_right,numD])
 generalize hl':(gn (resK h K f)).foldl addN []=l' at eM
 have hlg:l'=lgaps (resK h K f):=by rw[← hl',lgaps_gn]
 have eF:sub (numS l') (resK h K f)=plF 0 (resK h K f):=by
  rw[plF_sub,hlg]
  exact sub_congr fun n _=>by simp[numS]
 rw[eF] at eM
 refine⟨plF 0 (resK h K f),⟨?_,?_,fun g' ga gb => ?_⟩,?_⟩
 ·have:=(res_below I eq (k:=K) (by omega)).1
  rw[← hfst] at this
  have q:=plF_abv 0 (resK h K (plF 0 a))
  rw[← hfst]
  exact((plF_abv 0 a).trans this).trans q
 ·have:=(res_below I eq (k:=K) (by omega)).2
  rw[← hsnd] at this
  exact((plF_abv _ b).trans this).trans (plF_abv 0 _)
 ·obtain⟨η,q1,q2⟩:=apart ga gb
  rw[hfst] at q1
  rw[hsnd] at q2
  have:=res_nearest I eq (k:=K) (by omega) (q1.trans q2.symm)
  rw[q1] at this
  exact(plF_abv' 0 _).trans ⟨η,this⟩
 ·rw[run_call h12 _ _ _ rfl]
  have d1:prim .dtg0 [] (τ++[.dtg (encH h)]) = .ok (.ref (τ.length+1)) (τ++[.dtg (encH h)]++[.dtg []]):=by simp[prim,pDtg0]
  have d2:prim .dct0 [] (τ++[.dtg (encH h)]++[.dtg []]) = .ok (.ref (τ.length+2)) (τ++[.dtg (encH h)]++[.dtg []]++[.dct []]):=by simp[prim,pDct0]
  have ln:prim .len [.ref σ.length] τ = .ok (.g (.int (lgaps a).length)) τ:=p_len (by rw[← hτ];simp[lenOf])
  have tk:(mdS (τ++[.dtg (encH h)]++[.dtg []]++[.dct []]) (τ.length+1) (τ.length+2) M' l').take σ.length=σ:=by
   rw[← hτ]
   unfold mdS
   rw[List.take_set_of_le (by simp;omega),List.take_set_of_le (by simp;omega)]
   simp
  have isn:prim .isN [.ref τ.length,.g .non] (τ++[.dtg (encH h)]) = .ok (.g (.bl false)) (τ++[.dtg (encH h)]):=rfl
  rw[hτ] at eG
  simp only[List.append_assoc,List.cons_append,List.nil_append] at d1 d2 eM tk
  generalize run P W (j+11)=cl at *
  simp[fn_nearest,setSlot,eP,eG,ln,eN,eL,isn,d1,d2,eM,tk]
end
noncomputable abbrev sprB:Blk:=(.cons (.setIdx (.var 2) (.var 3) (.op .tup (.cons (.con (.str [103,97,112])) (.cons (.op .mod (.cons (.op .add (.cons (.var 3) (.cons (.var 1) .nil))) (.cons (.con (.int 1000)) .nil))) .nil))))
 .nil)
noncomputable def fn__law_spread:Fn:=⟨"_law_spread",2,4,
 (.cons (.set 2 (.op .dct0 .nil))
 (.cons (.forS [3] (.over (.call "_law_gaps" (.cons (.var 0) .nil))) sprB)
 (.cons (.ret (.call "_law_filled" (.cons (.var 0) (.cons (.var 2) .nil))))
 .nil)))⟩
noncomputable def spr(c:Int):List Int->Fg->Fg
 | [],acc=>acc
 |n::r,acc=>spr c r (dset acc n (.gap ((n+c) % 1000)))
theorem dval_spr(c:Int):∀ (l:List Int) (acc:Fg) (n:Int),dval (spr c l acc) n=if n∈l then some (.gap ((n+c) % 1000)) else dval acc n
 | [],_,n=>by simp[spr]
 |x::r,acc,n=>by
  rw[spr,dval_spr c r _ n,dval_dset]
  by_cases hx:x=n
  ·subst hx
   simp
  ·have hx':¬ n=x:=fun z=>hx z.symm
   simp[hx,hx']
theorem spr_loop{cl:CallH}{τ:Store}{e0:Option R}{c:Int}{ys:List Int}:∀ (xs:List Int) (acc:Fg) (o:Option R),acc.length+xs.length<big->∃ o',
 forL [3] (evB cl W sprB) (some (τ.length+1,.lst (ys.map .int))) (xs.map fun n=>.g (.int n)) [e0,some (.g (.int c)),some (.ref τ.length),o] (τ++[.dct (encD acc),.lst (ys.map .int)])
  = .ok (.next [e0,some (.g (.int c)),some (.ref τ.length),o']) (τ++[.dct (encD (spr c xs acc)),.lst (ys.map .int)])
 | [],acc,o,h=>⟨o,by rw[List.map_nil,forL_nil _ _ _ (by simp[intact])];simp[spr]⟩
 |n::r,acc,o,h=>by
  simp only[List.length_cons] at h
  have hl:=dset_len acc n (.gap ((n+c) % 1000))
  obtain⟨o',ih⟩:=spr_loop (cl:=cl) (τ:=τ) (e0:=e0) (c:=c) (ys:=ys) r (dset acc n (.gap ((n+c) % 1000))) (some (.g (.int n))) (by omega)
  refine⟨o',?_⟩
  have g0:(τ++[Cell.dct (encD acc),.lst (ys.map .int)])[τ.length]?=some (.dct (encD acc)):=by simp
  have s0:∀ c,(τ++[Cell.dct (encD acc),.lst (ys.map .int)]).set τ.length c=τ++[c,.lst (ys.map .int)]:=fun c=>by
   rw[List.set_append_right _ _ (Nat.le_refl _)];simp
  have hb:(encD acc).length<big:=by simp[encD];omega
  have he:dput (encD acc) (.int n) (.tup [.str sGap,.int ((n+c) % 1000)])=encD (dset acc n (.gap ((n+c) % 1000))):=dput_encD acc n (.gap ((n+c) % 1000))
  have m2:∀ τ,prim .mod [.g (.int (n+c)),.g (.int 1000)] τ = .ok (.g (.int ((n+c) % 1000))) τ:=fun τ=>p_mod (by omega)
  rw[List.map_cons,forL_cons _ _ _ _ _ (by simp[intact])]
  simp[bindTg,setSlot,m2,p_tup,mkTup,allG,kPut3_dct (i:=.int n) (v:=.tup [.str sGap,.int ((n+c) % 1000)]) g0 rfl hb,he,s0]
  exact ih
noncomputable def spF(c:Int)(f:F):F:=fill (spr c (lgaps f) []) f
theorem spF_sub(c:Int)(f:F):spF c f=sub (fun n=>.gap ((n+c) % 1000)) f:=by
 unfold spF
 rw[fill_sub]
 refine sub_congr fun n hn => ?_
 simp only[asS,dval_spr,mem_lgaps.mpr hn,if_true,Option.getD_some]
theorem run_spread(h1:look P "_law_gaps"=some fn__law_gaps)(h2:look P "_law_filled"=some fn__law_filled)(h3:look P "_law_spread"=some fn__law_spread){n:Nat}(f:F)(c:Int)(σ:Store)(hn:dep f+1<=n)(hs:sz f<big) :
 run P W n "_law_spread" [.g (enc f),.g (.int c)] σ = .ok (.g (enc (spF c f))) σ:=by
 obtain⟨j,rfl⟩:∃ j,n=j+1:=⟨n-1,by omega⟩
 have hlg:=lgaps_len f
 have e:=run_lgaps (W:=W) h1 j f (σ++[.dct []]) (by omega) (by omega)
 have e2:=run_lfilled (W:=W) h2 j f (spr c (lgaps f) []) σ.length (σ++[.dct (encD (spr c (lgaps f) [])),.lst ((lgaps f).map .int)]) (by omega) (by simp)
 rw[run_call h3 _ _ _ rfl]
 generalize run P W j=cl at e e2
 obtain⟨o,lp⟩:=spr_loop (W:=W) (cl:=cl) (τ:=σ) (e0:=some (.g (enc f))) (c:=c) (ys:=lgaps f) (lgaps f) [] none (by simp;omega)
 have hl:(σ++[Cell.dct []]).length=σ.length+1:=by simp
 have ha:(σ++[Cell.dct []])++[.lst ((lgaps f).map .int)]=σ++[Cell.dct [],.lst ((lgaps f).map .int)]:=by simp
 rw[hl,ha] at e
 have hw:wOver (.ref (σ.length+1)) (σ++[Cell.dct [],.lst ((lgaps f).map .int)]) = .ok ⟨(lgaps f).map fun n=>.g (.int n),some (σ.length+1,.lst ((lgaps f).map .int))⟩ (σ++[Cell.dct [],.lst ((lgaps f).map .int)]):=by
  rw[wOver_lst (xs:=(lgaps f).map .int) (by simp),List.map_map];rfl
 have lp':forL [3] (evB cl W sprB) (some (σ.length+1,.lst ((lgaps f).map .int))) ((lgaps f).map fun n=>.g (.int n)) [some (.g (enc f)),some (.g (.int c)),some (.ref σ.length),none] (σ++[.dct [],.lst ((lgaps f).map .int)])=_:=lp
 simp[fn__law_spread,setSlot,e,hw,lp',e2,spF]
noncomputable def fn_law11:Fn:=⟨"law",1,5,
 (.cons (.set 1 (.call "_law_form" (.cons (.op .lst (.cons (.op .mod (.cons (.call "_law_cell_at" (.cons (.var 0) (.cons (.con (.int 0)) .nil))) (.cons (.con (.int 2147483647)) .nil))) (.cons (.con (.int 12)) .nil))) (.cons (.con (.int 3)) (.cons (.con (.int 4)) .nil)))))
 (.cons (.set 2 (.call "_law_spread" (.cons (.call "_law_looser" (.cons (.var 1) (.cons (.call "_law_cell_at" (.cons (.var 0) (.cons (.con (.int 1)) .nil))) (.cons (.con (.int 20)) .nil)))) (.cons (.op .mod (.cons (.call "_law_cell_at" (.cons (.var 0) (.cons (.con (.int 3)) .nil))) (.cons (.con (.int 1000)) .nil))) .nil))))
 (.cons (.set 3 (.call "_law_spread" (.cons (.call "_law_looser" (.cons (.var 1) (.cons (.call "_law_cell_at" (.cons (.var 0) (.cons (.con (.int 2)) .nil))) (.cons (.con (.int 20)) .nil)))) (.cons (.op .mod (.cons (.call "_law_cell_at" (.cons (.var 0) (.cons (.con (.int 4)) .nil))) (.cons (.con (.int 1000)) .nil))) .nil))))
 (.cons (.set 4 (.call "nearest" (.cons (.var 2) (.cons (.var 3) .nil))))
 (.cons (.ite (.orT (.op .isN (.cons (.var 4) (.cons (.con .non) .nil))) (.orT (.notT (.call "_law_above" (.cons (.var 2) (.cons (.var 4) .nil)))) (.orT (.notT (.call "_law_above" (.cons (.var 3) (.cons (.var 4) .nil)))) (.notT (.call "_law_above" (.cons (.var 4) (.cons (.var 1) .nil))))))) (.cons (.ret (.con (.bl false)))
 .nil) .nil)
 (.cons (.ite (.notT (.chain .le .le (.op .max2 (.cons (.call "rank" (.cons (.var 2) .nil)) (.cons (.call "rank" (.cons (.var 3) .nil)) .nil))) (.call "rank" (.cons (.var 4) .nil)) (.call "rank" (.cons (.var 1) .nil)))) (.cons (.ret (.con (.bl false)))
 .nil) .nil)
 (.cons (.ret (.call "alike" (.cons (.var 4) (.cons (.call "nearest" (.cons (.var 3) (.cons (.var 2) .nil))) .nil))))
 .nil)))))))⟩
noncomputable def P11:List Fn:=[fn_is_gap,fn_parts_of,fn_of_one_kind,fn_signs_of,fn_filled,fn_gaps,fn_rank,fn_numbered_from,fn_plain,fn_leader_of,fn_leaders_of,fn_made_whole,fn_nearest,fn_fits,fn_covers,fn_alike,
 fn__law_cell_at,fn__law_form,fn__law_gaps,fn__law_covers,fn__law_above,fn__law_spots,fn__law_opened,fn__law_looser,fn__law_filled,fn__law_spread,fn_law11]
theorem spread_abv{base c:Int}{f g:F}(h:Loos base f g)(hf:∀ n∈gn f,n<base/\0<=n)(hb:0<=base)(hb2:base<=900):Abv (spF c g) f/\(slim f->slim (spF c g)):=by
 obtain⟨a,b⟩:=h.above hf hb
 constructor
 ·rw[spF_sub]
  obtain⟨u,e⟩:=undo (t:=fun n=>(n+c) % 1000) (f:=g) fun n hn k hk e=>by
   have:=b n hn
   have:=b k hk
   omega
  exact Abv.trans ⟨u,e⟩ a
 ·intro s
  rw[spF_sub]
  exact slim_ren _ (h.slim s)
theorem p_max2{σ:Store}{i j:Int}:prim .max2 [.g (.int i),.g (.int j)] σ = .ok (.g (.int (if j > i then j else i))) σ:=rfl
theorem law11(hW:1000<=W)(hW2:W<=10000)(ns:List Int):∃ σ',run P11 W 20 "law" [.ref 0] [.rdl (ns.map .int)] = .ok (.g (.bl true)) σ':=by
 have lL:look P11 "law"=some fn_law11:=rfl
 have h1:look P11 "is_gap"=some fn_is_gap:=rfl
 have h2:look P11 "parts_of"=some fn_parts_of:=rfl
 have h3:look P11 "signs_of"=some fn_signs_of:=rfl
 have h4:look P11 "gaps"=some fn_gaps:=rfl
 have h5:look P11 "filled"=some fn_filled:=rfl
 have h6:look P11 "numbered_from"=some fn_numbered_from:=rfl
 have h7:look P11 "plain"=some fn_plain:=rfl
 have h8:look P11 "of_one_kind"=some fn_of_one_kind:=rfl
 have h9:look P11 "leader_of"=some fn_leader_of:=rfl
 have h10:look P11 "leaders_of"=some fn_leaders_of:=rfl
 have h11:look P11 "made_whole"=some fn_made_whole:=rfl
 have h12:look P11 "nearest"=some fn_nearest:=rfl
 have h13:look P11 "fits"=some fn_fits:=rfl
 have h14:look P11 "covers"=some fn_covers:=rfl
 have h15:look P11 "alike"=some fn_alike:=rfl
 have h16:look P11 "rank"=some fn_rank:=rfl
 have k1:look P11 "_law_cell_at"=some fn__law_cell_at:=rfl
 have k2:look P11 "_law_form"=some fn__law_form:=rfl
 have k3:look P11 "_law_gaps"=some fn__law_gaps:=rfl
 have k4:look P11 "_law_covers"=some fn__law_covers:=rfl
 have k5:look P11 "_law_above"=some fn__law_above:=rfl
 have k6:look P11 "_law_spots"=some fn__law_spots:=rfl
 have k7:look P11 "_law_opened"=some fn__law_opened:=rfl
 have k8:look P11 "_law_looser"=some fn__law_looser:=rfl
 have k9:look P11 "_law_filled"=some fn__law_filled:=rfl
 have k10:look P11 "_law_spread"=some fn__law_spread:=rfl
 rw[run_call lL 19 _ _ rfl]
 generalize hσ:[Cell.rdl (ns.map .int)]=σ
 have hs:σ[0]?=some (.rdl (ns.map .int)):=by rw[← hσ];rfl
 have hl:σ.length=1:=by rw[← hσ];rfl
 have c0:run P11 W 19 "_law_cell_at" [.ref 0,.g (.int 0)] σ=_:=run_cell_at (W:=W) k1 (n:=18) (s:=0) (ns:=ns) 0 σ hs
 generalize hx:cellAt ns 0=x at c0
 obtain⟨f,s',c',e0,df,okf,bud⟩:=run_formB (W:=W) k2 19 4 3 1 (σ++[spotC (x % 2147483647) 12]) (x % 2147483647) 12 (by omega) (by rw[show(1:Nat)=σ.length from hl.symm];simp)
 generalize hτ:(σ++[spotC (x % 2147483647) 12]).set 1 (spotC s' c')=τ at e0
 change run P11 W 19 "_law_form" [.ref 1,.g (.int 3),.g (.int 4)] _=_ at e0
 have hts:τ[0]?=some (.rdl (ns.map .int)):=by rw[← hτ,List.getElem?_set_ne (by omega)];exact get_app _ hs
 have df4:dep f<=4:=by omega
 have zf:sz f<=20:=by obtain⟨b1,_,b3⟩:=bud;have:=b3 (by omega) (by omega);omega
 have sf:=okF_slim okf
 have gf:∀ n∈gn f,n<20/\0<=n:=fun n m=>by have:=okF_gn okf n m;omega
 have c1:run P11 W 19 "_law_cell_at" [.ref 0,.g (.int 1)] τ=_:=run_cell_at (W:=W) k1 (n:=18) (s:=0) (ns:=ns) 1 τ hts
 have c2:run P11 W 19 "_law_cell_at" [.ref 0,.g (.int 2)] τ=_:=run_cell_at (W:=W) k1 (n:=18) (s:=0) (ns:=ns) 2 τ hts
 have c3:run P11 W 19 "_law_cell_at" [.ref 0,.g (.int 3)] τ=_:=run_cell_at (W:=W) k1 (n:=18) (s:=0) (ns:=ns) 3 τ hts
 have c4:run P11 W 19 "_law_cell_at" [.ref 0,.g (.int 4)] τ=_:=run_cell_at (W:=W) k1 (n:=18) (s:=0) (ns:=ns) 4 τ hts
 obtain⟨g1,L1,e1⟩:=run_looser (W:=W) k6 k7 k8 (n:=19) f (cellAt ns 1) 20 τ (by omega) (by omega) (by omega) sf
 obtain⟨g2,L2,e2⟩:=run_looser (W:=W) k6 k7 k8 (n:=19) f (cellAt ns 2) 20 τ (by omega) (by omega) (by omega) sf
 have z1:=(L1.above gf (by omega)).1.sz
 have z2:=(L2.above gf (by omega)).1.sz
 have d1:=L1.dep
 have d2:=L2.dep
 have e3:=run_spread (W:=W) k3 k9 k10 (n:=19) g1 (cellAt ns 3 % 1000) τ (by omega) (by unfold big;omega)
 have e4:=run_spread (W:=W) k3 k9 k10 (n:=19) g2 (cellAt ns 4 % 1000) τ (by omega) (by unfold big;omega)
 obtain⟨a1,s1⟩:=spread_abv (c:=cellAt ns 3 % 1000) L1 gf (by omega) (by omega)
 obtain⟨a2,s2⟩:=spread_abv (c:=cellAt ns 4 % 1000) L2 gf (by omega) (by omega)
 have s1:=s1 sf
 have s2:=s2 sf
 generalize spF (cellAt ns 3 % 1000) g1=one at e3 a1 s1
 generalize spF (cellAt ns 4 % 1000) g2=other at e4 a2 s2
 obtain⟨N,⟨n1,n2,n3⟩,e5⟩:=run_nearest (P:=P11) (W:=W) h1 h2 h3 h4 h5 h6 h7 h8 h9 h10 h11 h12 (n:=19) (by omega) s1 s2 a1 a2 df4 (by omega) hW hW2 τ
 obtain⟨M,⟨m1,m2,m3⟩,e6⟩:=run_nearest (P:=P11) (W:=W) h1 h2 h3 h4 h5 h6 h7 h8 h9 h10 h11 h12 (n:=19) (by omega) s2 s1 a2 a1 df4 (by omega) hW hW2 τ
 have nf:Abv N f:=n3 f a1 a2
 have mf:Abv M f:=m3 f a2 a1
 have NM:Abv N M:=n3 M m2 m1
 have MN:Abv M N:=m3 N n2 n1
 have dN:=nf.dep
 have dM:=mf.dep
 have zN:=nf.sz
 have zM:=mf.sz
 have do1:=a1.dep
 have do2:=a2.dep
 have zo1:=a1.sz
 have zo2:=a2.sz
 have u1:=run_above (W:=W) k4 k5 (n:=19) (f:=one) (g:=N) τ (by omega) (by omega) (by unfold big;omega)
 have u2:=run_above (W:=W) k4 k5 (n:=19) (f:=other) (g:=N) τ (by omega) (by omega) (by unfold big;omega)
 have u3:=run_above (W:=W) k4 k5 (n:=19) (f:=N) (g:=f) τ (by omega) (by omega) (by unfold big;omega)
 rw[(fit_iff _ _).mpr n1] at u1
 rw[(fit_iff _ _).mpr n2] at u2
 rw[(fit_iff _ _).mpr nf] at u3
 have r1:=run_rank (W:=W) h1 h2 h3 h4 h16 (n:=19) one τ (by omega) (by unfold big;omega)
 have r2:=run_rank (W:=W) h1 h2 h3 h4 h16 (n:=19) other τ (by omega) (by unfold big;omega)
 have r3:=run_rank (W:=W) h1 h2 h3 h4 h16 (n:=19) N τ (by omega) (by unfold big;omega)
 have r4:=run_rank (W:=W) h1 h2 h3 h4 h16 (n:=19) f τ (by omega) (by unfold big;omega)
 have q1:rnk one<=rnk N:=by obtain⟨s,rfl⟩:=n1;exact rnk_le s one
 have q2:rnk other<=rnk N:=by obtain⟨s,rfl⟩:=n2;exact rnk_le s other
 have q3:rnk N<=rnk f:=by obtain⟨s,rfl⟩:=nf;exact rnk_le s N
 have al:=run_alike (W:=W) h1 h8 h13 h14 h15 (n:=19) (f:=N) (g:=M) τ (by omega) (by omega) (by omega) (by omega) (by unfold big;omega) (by unfold big;omega)
 rw[(fit_iff _ _).mpr NM,(fit_iff _ _).mpr MN] at al
 generalize run P11 W 19=cl at *
 have m0:∀ τ,prim .mod [.g (.int x),.g (.int 2147483647)] τ = .ok (.g (.int (x % 2147483647))) τ:=fun τ=>p_mod (by omega)
 have m1:∀ (x:Int) τ,prim .mod [.g (.int x),.g (.int 1000)] τ = .ok (.g (.int (x % 1000))) τ:=fun x τ=>p_mod (by omega)
 have hl2:mkLst [R.g (.int (x % 2147483647)),R.g (.int 12)]=spotC (x % 2147483647) 12:=rfl
 have isn:prim .isN [.g (enc N),.g .non] τ = .ok (.g (.bl false)) τ:=by cases N<;>rfl
 have le1:(if rnk one<rnk other then (rnk other:Int) else rnk one)<=rnk N:=by split<;>omega
 have le2:(rnk N:Int)<=rnk f:=by omega
 exact⟨τ.take 1,by simp[fn_law11,setSlot,c0,m0,p_lst,hl2,hl,e0,c1,c2,c3,c4,e1,e2,m1,e3,e4,e5,isn,u1,u2,u3,r1,r2,r3,r4,p_max2,le1,le2,e6,al]⟩
end MP
namespace SN
open PySem PySem.Spec PyProof.Rows L2 MP
noncomputable def sOf(x:List Nat):Str:=⟨x.toArray⟩
theorem sOf_inj{x y:List Nat}(h:sOf x=sOf y):x=y:=by
 unfold sOf at h
 have:=congrArg (fun z=>z.cps.toList) h
 simpa using this
theorem sOf_len(x:List Nat):(sOf x).length=x.length:=by
 unfold sOf Str.length
 simp
noncomputable def okS(x:List Nat):Bool:=decide (x.length<=16777216) && x.all fun c=>decide (c<1114112)
theorem okS_len{x:List Nat}(h:okS x=true):x.length<=16777216:=by
 simp only[okS,Bool.and_eq_true,decide_eq_true_eq] at h
 exact h.1
theorem okS_all{x:List Nat}(h:okS x=true):(x.all fun c=>decide (c<1114112))=true:=by
 simp only[okS,Bool.and_eq_true] at h
 exact h.2
theorem okS_of{x:List Nat}(h1:x.length<=16777216)(h2:(x.all fun c=>decide (c<1114112))=true):okS x=true:=by
 simp only[okS,Bool.and_eq_true,decide_eq_true_eq]
 exact⟨h1,h2⟩
inductive TupAt (H:Hp) (v:V) (P:List V->Prop):Prop
 |mk (a:Addr) (vs:List V) (e:v = .ref a) (h:H a=some (.tup vs)) (p:P vs)
inductive ConsAt (vs:List V) (P:V->Prop) (Q:List V->Prop):Prop
 |mk (v:V) (r:List V) (e:vs=v::r) (p:P v) (q:Q r)
mutual
noncomputable def RG(H:Hp):G->V->Prop
 | .non,v=>v = .non
 | .bl b,v=>v = .bl b
 | .int i,v=>v = .int i
 | .str x,v=>v = .str (sOf x)/\okS x=true
 | .tup xs,v=>TupAt H v fun vs=>RGs H xs vs
noncomputable def RGs(H:Hp):List G->List V->Prop
 | [],vs=>vs=[]
 |x::xs,vs=>ConsAt vs (fun v=>RG H x v) fun r=>RGs H xs r
end
noncomputable def TPk(H H':Hp):Prop:=∀ a vs,H a=some (.tup vs)->H' a=some (.tup vs)
mutual
theorem RG.mono{H H':Hp}(t:TPk H H'):∀ (x:G) {v:V},RG H x v->RG H' x v
 | .non,_,h=>h
 | .bl _,_,h=>h
 | .int _,_,h=>h
 | .str _,_,h=>h
 | .tup xs,_,h=>by
  obtain⟨a,vs,e,ha,r⟩:=h
  exact⟨a,vs,e,t a vs ha,RGs.mono t xs r⟩
theorem RGs.mono{H H':Hp}(t:TPk H H'):∀ (xs:List G) {vs:List V},RGs H xs vs->RGs H' xs vs
 | [],_,h=>h
 |x::xs,_,h=>by
  obtain⟨v,r,e,h1,h2⟩:=h
  exact⟨v,r,e,RG.mono t x h1,RGs.mono t xs h2⟩
end
theorem RGs.length{H:Hp}:∀ {xs:List G} {vs:List V},RGs H xs vs->vs.length=xs.length
 | [],_,h=>by cases h;rfl
 |x::xs,_,h=>by
  obtain⟨v,r,rfl,_,h2⟩:=h
  rw[List.length_cons,List.length_cons,RGs.length h2]
theorem RGs.get{H:Hp}:∀ {xs:List G} {vs:List V} {i:Nat} {x:G},RGs H xs vs->xs[i]?=some x->∃ v,vs[i]?=some v/\RG H x v
 | [],_,_,_,_,e=>by simp at e
 |y::xs,_,0,x,h,e=>by
  obtain⟨v,r,rfl,h1,h2⟩:=h
  simp at e;subst e
  exact⟨v,rfl,h1⟩
 |y::xs,_,i+1,x,h,e=>by
  obtain⟨v,r,rfl,h1,h2⟩:=h
  obtain⟨u,h3,h4⟩:=RGs.get (i:=i) (x:=x) h2 (by simpa using e)
  exact⟨u,by simpa using h3,h4⟩
theorem RGs.append{H:Hp}:∀ {xs ys:List G} {vs us:List V},RGs H xs vs->RGs H ys us->RGs H (xs++ys) (vs++us)
 | [],_,_,_,h,k=>by cases h;exact k
 |x::xs,_,_,_,h,k=>by
  obtain⟨v,r,rfl,h1,h2⟩:=h
  exact⟨v,r++_,rfl,h1,RGs.append h2 k⟩
theorem RGs.drop{H:Hp}:∀ {xs:List G} {vs:List V} (n:Nat),RGs H xs vs->RGs H (xs.drop n) (vs.drop n)
 |_,_,0,h=>h
 | [],_,n+1,h=>by cases h;rfl
 |x::xs,_,n+1,h=>by
  obtain⟨v,r,rfl,h1,h2⟩:=h
  exact RGs.drop n h2
theorem RGs.take{H:Hp}:∀ {xs:List G} {vs:List V} (n:Nat),RGs H xs vs->RGs H (xs.take n) (vs.take n)
 |_,_,0,_=>by simp[RGs]
 | [],_,n+1,h=>by cases h;simp[RGs]
 |x::xs,_,n+1,h=>by
  obtain⟨v,r,rfl,h1,h2⟩:=h
  exact⟨v,r.take n,rfl,h1,RGs.take n h2⟩
theorem RGs.set{H:Hp}{y:G}{u:V}(hy:RG H y u):∀ {xs:List G} {vs:List V} (n:Nat),RGs H xs vs->RGs H (xs.set n y) (vs.set n u)
 | [],_,_,h=>by cases h;rfl
 |x::xs,_,0,h=>by
  obtain⟨v,r,rfl,h1,h2⟩:=h
  exact⟨u,r,rfl,hy,h2⟩
 |x::xs,_,n+1,h=>by
  obtain⟨v,r,rfl,h1,h2⟩:=h
  exact⟨v,r.set n u,rfl,h1,RGs.set hy n h2⟩
mutual
noncomputable def RR(H:Hp)(ρ:Nat->Addr)(n:Nat):R->V->Prop
 | .g x,v=>RG H x v
 | .ref i,v=>i<n/\v = .ref (ρ i)
 | .tr xs,v=>TupAt H v fun vs=>RRs H ρ n xs vs
noncomputable def RRs(H:Hp)(ρ:Nat->Addr)(n:Nat):List R->List V->Prop
 | [],vs=>vs=[]
 |x::xs,vs=>ConsAt vs (fun v=>RR H ρ n x v) fun r=>RRs H ρ n xs r
end
mutual
theorem RR.mono{H H':Hp}{ρ ρ':Nat->Addr}{n n':Nat}(t:TPk H H')(hn:n<=n')(ag:∀ i,i<n->ρ' i=ρ i):∀ (x:R) {v:V},RR H ρ n x v->RR H' ρ' n' x v
 | .g x,_,h=>RG.mono t x h
 | .ref i,_,h=>⟨Nat.lt_of_lt_of_le h.1 hn,by rw[ag i h.1];exact h.2⟩
 | .tr xs,_,h=>by
  obtain⟨a,vs,e,ha,r⟩:=h
  exact⟨a,vs,e,t a vs ha,RRs.mono t hn ag xs r⟩
theorem RRs.mono{H H':Hp}{ρ ρ':Nat->Addr}{n n':Nat}(t:TPk H H')(hn:n<=n')(ag:∀ i,i<n->ρ' i=ρ i):∀ (xs:List R) {vs:List V},RRs H ρ n xs vs->RRs H' ρ' n' xs vs
 | [],_,h=>h
 |x::xs,_,h=>by
  obtain⟨v,r,e,h1,h2⟩:=h
  exact⟨v,r,e,RR.mono t hn ag x h1,RRs.mono t hn ag xs h2⟩
end
theorem RRs.length{H:Hp}{ρ:Nat->Addr}{n:Nat}:∀ {xs:List R} {vs:List V},RRs H ρ n xs vs->vs.length=xs.length
 | [],_,h=>by cases h;rfl
 |x::xs,_,h=>by
  obtain⟨v,r,rfl,_,h2⟩:=h
  rw[List.length_cons,List.length_cons,RRs.length h2]
theorem RRs.get{H:Hp}{ρ:Nat->Addr}{n:Nat}:∀ {xs:List R} {vs:List V} {i:Nat} {x:R},RRs H ρ n xs vs->xs[i]?=some x->∃ v,vs[i]?=some v/\RR H ρ n x v
 | [],_,_,_,_,e=>by simp at e
 |y::xs,_,0,x,h,e=>by
  obtain⟨v,r,rfl,h1,h2⟩:=h
  simp at e;subst e
  exact⟨v,rfl,h1⟩
 |y::xs,_,i+1,x,h,e=>by
  obtain⟨v,r,rfl,h1,h2⟩:=h
  obtain⟨u,h3,h4⟩:=RRs.get (i:=i) (x:=x) h2 (by simpa using e)
  exact⟨u,by simpa using h3,h4⟩
theorem RRs.ofG{H:Hp}{ρ:Nat->Addr}{n:Nat}:∀ {xs:List R} {gs:List G} {vs:List V},allG xs=some gs->RRs H ρ n xs vs->RGs H gs vs
 | [],_,_,e,h=>by simp[allG] at e;subst e;exact h
 | .g x::r,gs,_,e,h=>by
  obtain⟨v,us,rfl,h1,h2⟩:=h
  simp only[allG,Option.map_eq_some_iff] at e
  obtain⟨t,e1,rfl⟩:=e
  exact⟨v,us,rfl,h1,RRs.ofG e1 h2⟩
 | .ref _::_,_,_,e,_=>by simp[allG] at e
 | .tr _::_,_,_,e,_=>by simp[allG] at e
theorem RRs.toG{H:Hp}{ρ:Nat->Addr}{n:Nat}:∀ {gs:List G} {vs:List V},RGs H gs vs->RRs H ρ n (gs.map .g) vs
 | [],_,h=>h
 |x::xs,_,h=>by
  obtain⟨v,r,e,h1,h2⟩:=h
  exact⟨v,r,e,h1,RRs.toG h2⟩
noncomputable def keyOf:G->Option Key
 | .int i=>some (.inl i)
 | .str x=>some (.inr (sOf x))
 |_=>none
inductive KvAt (ws:List (Key × V)) (g:Option Key) (P:V->Prop) (Q:List (Key × V)->Prop):Prop
 |mk (k:Key) (v:V) (r:List (Key × V)) (e:ws=(k,v)::r) (h:g=some k) (p:P v) (q:Q r)
noncomputable def RKs(H:Hp):List (G × G)->List (Key × V)->Prop
 | [],ws=>ws=[]
 |p::kvs,ws=>KvAt ws (keyOf p.1) (fun v=>RG H p.2 v) fun r=>RKs H kvs r
theorem RKs.mono{H H':Hp}(t:TPk H H'):∀ (kvs:List (G × G)) {ws:List (Key × V)},RKs H kvs ws->RKs H' kvs ws
 | [],_,h=>h
 |p::kvs,_,h=>by
  obtain⟨k,v,r,e,h1,h2,h3⟩:=h
  exact⟨k,v,r,e,h1,RG.mono t _ h2,RKs.mono t kvs h3⟩
theorem RKs.length{H:Hp}:∀ {kvs:List (G × G)} {ws:List (Key × V)},RKs H kvs ws->ws.length=kvs.length
 | [],_,h=>by cases h;rfl
 |p::kvs,_,h=>by
  obtain⟨k,v,r,rfl,_,_,h3⟩:=h
  rw[List.length_cons,List.length_cons,RKs.length h3]
mutual
noncomputable def nkH(w:World):G->Int
 | .int i=>hashInt i
 | .str x=>hashStr w (sOf x)
 | .tup xs=>reduceHash (Builtin.Tuple.tupleHashOf (nkHs w xs))
 |_=>0
noncomputable def nkHs(w:World):List G->List Int
 | []=>[]
 |x::r=>nkH w x::nkHs w r
end
noncomputable def nent(w:World)(x:G × Addr × Value):DictEntry:=⟨nkH w x.1,.ref x.2.1,x.2.2⟩
noncomputable def RawO(w:World)(o:Obj)(xs:List (G × Addr × Value)):Prop:=o.ExactDict/\∃ es ep,o.data = .dict es ep/\es.toList=xs.map (nent w)
class Wd where
 w:World
variable [Wd]
noncomputable def dG(a:Addr)(o:Obj):HO:=.ext fun h=>h.get? a=some o
inductive NAt (g:G) (xs:List (G × Addr × Value)) (P:V->Prop) (P':V->Prop) (Q:List (G × Addr × Value)->Prop):Prop
 |mk (a:Addr) (v:V) (u:Value) (r:List (G × Addr × Value)) (e:xs=(g,a,u)::r) (p:P (.ref a)) (p':P' v) (h:RelV v u) (q:Q r)
noncomputable def RN(H:Hp):List (G × G)->List (G × Addr × Value)->Prop
 | [],xs=>xs=[]
 |p::kvs,xs=>NAt p.1 xs (fun v=>RG H p.1 v) (fun v=>RG H p.2 v) fun r=>RN H kvs r
theorem RN.mono{H H':Hp}(t:TPk H H'):∀ (kvs:List (G × G)) {xs:List (G × Addr × Value)},RN H kvs xs->RN H' kvs xs
 | [],_,h=>h
 |p::kvs,_,h=>by
  obtain⟨a,v,u,r,e,h1,h2,h3,h4⟩:=h
  exact⟨a,v,u,r,e,RG.mono t _ h1,RG.mono t _ h2,h3,RN.mono t kvs h4⟩
noncomputable def DT(a:Addr)(kvs:List (G × G))(o:Obj)(xs:List (G × Addr × Value)):Prop:=RawO Wd.w o xs/\(a == sysModules)=false/\(xs.map (·.1)).Nodup/\(kvs.all fun p=>tkey p.1)=true/\kvs.length<=100000
inductive HAt {α:Type} (P Q:α->Prop):Prop
 |mk (x:α) (p:P x) (q:Q x)
inductive HAt2 {α β:Type} (P Q:α->β->Prop):Prop
 |mk (x:α) (y:β) (p:P x y) (q:Q x y)
noncomputable def RC(H:Hp)(ρ:Nat->Addr)(i:Nat):Cell->Prop
 | .lst xs=>HAt (fun vs=>H (ρ i)=some (.lst vs)) fun vs=>RGs H xs vs
 | .rdl xs=>HAt (fun vs=>Rd H (ρ i) (.lst vs)) fun vs=>RGs H xs vs
 | .dct kvs=>HAt (fun ws=>H (ρ i)=some (.dK ws)) fun ws=>RKs H kvs ws/\(ws.map (·.1)).Nodup
 | .rls xs=>HAt (fun vs=>H (ρ i)=some (.lst vs)) fun vs=>RRs H ρ i xs vs
 | .rdd kvs=>HAt2 (fun ws o=>H (ρ i)=some (.frz o (.dK ws))) fun ws _=>RKs H kvs ws/\(ws.map (·.1)).Nodup
 | .dtg kvs=>HAt2 (fun o _=>H (ρ i)=some (dG (ρ i) o)) fun o xs=>RN H kvs xs/\DT (ρ i) kvs o xs
 | .rdt kvs=>HAt2 (fun o _=>H (ρ i)=some (.frz o (dG (ρ i) o))) fun o xs=>RN H kvs xs/\DT (ρ i) kvs o xs
structure SR(H:Hp)(ρ:Nat->Addr)(σ:Store):Prop where
 cell:∀ i c,σ[i]?=some c->RC H ρ i c
 inj:∀ i j,i<σ.length->j<σ.length->ρ i=ρ j->i=j
theorem RC.at{H:Hp}{ρ:Nat->Addr}{i:Nat}{c:Cell}(h:RC H ρ i c):∃ o,H (ρ i)=some o/\∀ vs,o ≠ .tup vs:=by
 cases c with
 |lst xs=>obtain⟨vs,e,_⟩:=h;exact⟨_,e,fun _ z=>by cases z⟩
 |rdl xs =>
  obtain⟨vs,e,_⟩:=h
  rcases e with e | ⟨o,e⟩
  ·exact⟨_,e,fun _ z=>by cases z⟩
  ·exact⟨_,e,fun _ z=>by cases z⟩
 |dct kvs=>obtain⟨vs,e,_⟩:=h;exact⟨_,e,fun _ z=>by cases z⟩
 |rls xs=>obtain⟨vs,e,_⟩:=h;exact⟨_,e,fun _ z=>by cases z⟩
 |rdd xs=>obtain⟨vs,o,e,_⟩:=h;exact⟨_,e,fun _ z=>by cases z⟩
 |dtg xs=>obtain⟨o,xs,e,_⟩:=h;exact⟨_,e,fun _ z=>by cases z⟩
 |rdt xs=>obtain⟨o,xs,e,_⟩:=h;exact⟨_,e,fun _ z=>by cases z⟩
theorem SR.at{H:Hp}{ρ:Nat->Addr}{σ:Store}(S:SR H ρ σ){i:Nat}(hi:i<σ.length):∃ o,H (ρ i)=some o/\∀ vs,o ≠ .tup vs :=
 (S.cell i σ[i] (by simp[hi])).at
theorem SR.lt{σ:Store}{i:Nat}{c:Cell}(e:σ[i]?=some c):i<σ.length:=by
 have:=List.getElem?_eq_some_iff.mp e
 exact this.1
structure Ext(ρ:Nat->Addr)(n:Nat)(H:Hp)(ρ':Nat->Addr)(n':Nat)(H':Hp):Prop where
 le:n<=n'
 ag:∀ i,i<n->ρ' i=ρ i
 fr:∀ i,n<=i->i<n'->H (ρ' i)=none
 kp:∀ a o,H a=some o->(∀ i,i<n->ρ i≠a)->H' a=some o
 fz:∀ a o u,H a=some (.frz o u)->H' a=some (.frz o u)
theorem Ext.refl(ρ:Nat->Addr)(n:Nat)(H:Hp):Ext ρ n H ρ n H:=⟨Nat.le_refl _,fun _ _=>rfl,fun i h1 h2=>absurd h2 (Nat.not_lt.mpr h1),fun _ _ e _=>e,fun _ _ _ e=>e⟩
theorem Ext.trans{ρ ρ1 ρ2:Nat->Addr}{n n2:Nat}{σ1:Store}{H H1 H2:Hp}(a:Ext ρ n H ρ1 σ1.length H1)(S:SR H1 ρ1 σ1)(b:Ext ρ1 σ1.length H1 ρ2 n2 H2):Ext ρ n H ρ2 n2 H2 where
 le:=Nat.le_trans a.le b.le
 ag:=fun i h=>by rw[b.ag i (Nat.lt_of_lt_of_le h a.le),a.ag i h]
 fr:=fun i h1 h2=>by
  by_cases h:i<σ1.length
  ·rw[b.ag i h];exact a.fr i h1 h
  ·have q:=b.fr i (Nat.not_lt.mp h) h2
   cases e:H (ρ2 i) with
   |none=>rfl
   |some o =>
    exfalso
    by_cases z:∃ j,j<n/\ρ j=ρ2 i
    ·obtain⟨j,hj,ej⟩:=z
     obtain⟨o',e',_⟩:=S.at (Nat.lt_of_lt_of_le hj a.le)
     rw[a.ag j hj,ej,q] at e'
     cases e'
    ·have:=a.kp (ρ2 i) o e fun j hj ej=>z ⟨j,hj,ej⟩
     rw[q] at this
     cases this
 kp:=fun x o e h=>by
  refine b.kp x o (a.kp x o e h) fun i hi ei => ?_
  by_cases hn:i<n
  ·exact h i hn (by rw[← a.ag i hn];exact ei)
  ·have q:=a.fr i (Nat.not_lt.mp hn) hi
   rw[ei,e] at q
   cases q
 fz:=fun x o u e=>b.fz x o u (a.fz x o u e)
theorem Ext.tp{ρ ρ':Nat->Addr}{n':Nat}{σ:Store}{H H':Hp}(e:Ext ρ σ.length H ρ' n' H')(S:SR H ρ σ):TPk H H':=fun a vs h =>
 e.kp a _ h fun i hi ei=>by
  obtain⟨o,e',ne⟩:=S.at hi
  rw[ei,h] at e'
  cases e'
  exact ne vs rfl
structure RE(H:Hp)(ρ:Nat->Addr)(n:Nat)(ε:MP.Env)(st:L2.St):Prop where
 len:ε.length=st.length
 val:∀ (i:Nat) (r:R),ε[i]?=some (some r)->∃ v,st[i]?=some (some v)/\RR H ρ n r v
theorem RE.mono{H H':Hp}{ρ ρ':Nat->Addr}{n':Nat}{σ:Store}{ε:MP.Env}{st:L2.St}(h:RE H ρ σ.length ε st)(S:SR H ρ σ)(e:Ext ρ σ.length H ρ' n' H'):RE H' ρ' n' ε st :=
 ⟨h.len,fun i r q=>by
  obtain⟨v,h1,h2⟩:=h.val i r q
  exact⟨v,h1,RR.mono (e.tp S) e.le e.ag r h2⟩⟩
theorem RE.set{H:Hp}{ρ:Nat->Addr}{n:Nat}{ε:MP.Env}{st:L2.St}{i:Nat}{r:R}{v:V}(h:RE H ρ n ε st)(q:RR H ρ n r v):RE H ρ n (ε.set i (some r)) (st.set i (some v)):=by
 refine⟨by rw[List.length_set,List.length_set,h.len],fun j s e => ?_⟩
 rw[List.getElem?_set] at e ⊢
 by_cases hij:i=j
 ·subst hij
  rw[if_pos rfl] at e ⊢
  by_cases hl:i<ε.length
  ·rw[if_pos hl] at e
   rw[if_pos (by rw[← h.len];exact hl)]
   cases e
   exact⟨v,rfl,q⟩
  ·rw[if_neg hl] at e
   cases e
 ·rw[if_neg hij] at e ⊢
  exact h.val j s e
noncomputable def Fin(ρ:Nat->Addr)(n:Nat)(H:Hp)(r:R)(σ':Store)(Q:VK):Prop :=
 ∀ ρ' v H',Ext ρ n H ρ' σ'.length H'->SR H' ρ' σ'->RR H' ρ' σ'.length r v->Q v H'
inductive TEv (f:MP.Env->Store->Res R) (st:L2.St) (H:Hp) (Q:VK):Prop
 |mk (ρ:Nat->Addr) (ε:MP.Env) (σ:Store) (r:R) (σ':Store) (hE:RE H ρ σ.length ε st) (hS:SR H ρ σ) (e:f ε σ = .ok r σ') (q:Fin ρ σ.length H r σ' Q)
inductive TTv (f:MP.Env->Store->Res R) (st:L2.St) (H:Hp) (Q:Bool->Hp->Prop):Prop
 |mk (ρ:Nat->Addr) (ε:MP.Env) (σ:Store) (b:Bool) (σ':Store) (hE:RE H ρ σ.length ε st) (hS:SR H ρ σ) (e:f ε σ = .ok (.g (.bl b)) σ') (q:∀ ρ' H',Ext ρ σ.length H ρ' σ'.length H'->SR H' ρ' σ'->Q b H')
inductive TAv (f:MP.Env->Store->Res (List R)) (st:L2.St) (H:Hp) (Q:List V->Hp->Prop):Prop
 |mk (ρ:Nat->Addr) (ε:MP.Env) (σ:Store) (rs:List R) (σ':Store) (hE:RE H ρ σ.length ε st) (hS:SR H ρ σ) (e:f ε σ = .ok rs σ') (q:∀ ρ' vs H',Ext ρ σ.length H ρ' σ'.length H'->SR H' ρ' σ'->RRs H' ρ' σ'.length rs vs->Q vs H')
theorem PE.imp{X:Cx}{e:Expr}{t t':TE}(h:PE X e t)(w:∀ σ H Q,t' σ H Q->t σ H Q):PE X e t':=fun pins s σ H Q I q=>h pins s σ H Q I (w σ H Q q)
theorem PT.imp{X:Cx}{e:Expr}{t t':TT}(h:PT X e t)(w:∀ σ H Q,t' σ H Q->t σ H Q):PT X e t':=fun pins s σ H Q I q=>h pins s σ H Q I (w σ H Q q)
theorem PA.imp{X:Cx}{e:List Expr}{t t':TA}(h:PA X e t)(w:∀ σ H Q,t' σ H Q->t σ H Q):PA X e t':=fun p pins s σ H Q I q=>h p pins s σ H Q I (w σ H Q q)
theorem PS.imp{X:Cx}{e:Stmt}{t t':TS}(h:PS X e t)(w:∀ D σ H,t' D σ H->t D σ H):PS X e t':=fun pins s σ H D I q=>h pins s σ H D I (w D σ H q)
theorem PSs.imp{X:Cx}{e:List Stmt}{t t':TS}(h:PSs X e t)(w:∀ D σ H,t' D σ H->t D σ H):PSs X e t':=fun pins s σ H D I q=>h pins s σ H D I (w D σ H q)
theorem bind_inv{α β:Type}{x:Res α}{f:α->Store->Res β}{b:β}{σ':Store}(h:x.bind f = .ok b σ'):∃ a σ1,x = .ok a σ1/\f a σ1 = .ok b σ':=by
 cases x with
 |ok a σ=>exact⟨a,σ,rfl,h⟩
 |exc c σ=>cases h
 |stuck=>cases h
theorem ofO_inv{α:Type}{o:Option α}{f:α->Res R}{r:R}{σ:Store}(h:ofO o f = .ok r σ):∃ a,o=some a/\f a = .ok r σ:=by
 cases o with
 |none=>cases h
 |some a=>exact⟨a,rfl,h⟩
theorem SR.push{H:Hp}{ρ:Nat->Addr}{σ:Store}(S:SR H ρ σ){p:Addr}(hp:H p=none){o:HO}{c:Cell}(ht:∀ vs,o ≠ .tup vs)
 (hc:∀ H' ρ',TPk H H'->H' p=some o->ρ' σ.length=p->(∀ i,i<σ.length->ρ' i=ρ i)->RC H' ρ' σ.length c) :
 ∃ ρ',Ext ρ σ.length H ρ' (σ++[c]).length (upd H p o)/\SR (upd H p o) ρ' (σ++[c])/\ρ' σ.length=p:=by
 have tp:TPk H (upd H p o):=fun a vs e=>by rw[upd_ne (ne_of_none e hp)];exact e
 refine⟨fun i=>if i=σ.length then p else ρ i,⟨by simp,fun i hi=>by simp[Nat.ne_of_lt hi],fun i h1 h2 => ?_,fun a b e _=>by rw[upd_ne (ne_of_none e hp)];exact e,fun a _ _ e=>by rw[upd_ne (ne_of_none e hp)];exact e⟩,⟨fun i d e => ?_,fun i j hi hj e => ?_⟩,by simp⟩
 ·have:i=σ.length:=by simp at h2;omega
  simp[this,hp]
 ·by_cases hi:i<σ.length
  ·have e':σ[i]?=some d:=by rw[List.getElem?_append_left hi] at e;exact e
   have q:=S.cell i d e'
   have ni:i≠σ.length:=Nat.ne_of_lt hi
   obtain⟨o',eo,_⟩:=S.at hi
   have hne:ρ i≠p:=ne_of_none eo hp
   cases d with
   |lst xs=>obtain⟨vs,h1,h2⟩:=q;exact⟨vs,by simp only[ni,if_false];rw[upd_ne hne];exact h1,RGs.mono tp xs h2⟩
   |rdl xs =>
    obtain⟨vs,h1,h2⟩:=q
    refine⟨vs,?_,RGs.mono tp xs h2⟩
    simp only[ni,if_false]
    rcases h1 with h1 | ⟨ob,h1⟩
    ·exact .inl (by rw[upd_ne hne];exact h1)
    ·exact .inr ⟨ob,by rw[upd_ne hne];exact h1⟩
   |dct xs=>obtain⟨vs,h1,h2⟩:=q;exact⟨vs,by simp only[ni,if_false];rw[upd_ne hne];exact h1,RKs.mono tp xs h2.1,h2.2⟩
   |rdd xs=>obtain⟨vs,ob,h1,h2⟩:=q;exact⟨vs,ob,by simp only[ni,if_false];rw[upd_ne hne];exact h1,RKs.mono tp xs h2.1,h2.2⟩
   |dtg xs=>obtain⟨o,ys,h1,h2,h3⟩:=q;exact⟨o,ys,by simp only[ni,if_false];rw[upd_ne hne];exact h1,RN.mono tp xs h2,by simp only[ni,if_false];exact h3⟩
   |rdt xs=>obtain⟨o,ys,h1,h2,h3⟩:=q;exact⟨o,ys,by simp only[ni,if_false];rw[upd_ne hne];exact h1,RN.mono tp xs h2,by simp only[ni,if_false];exact h3⟩
   |rls xs =>
    obtain⟨vs,h1,h2⟩:=q
    exact⟨vs,by simp only[ni,if_false];rw[upd_ne hne];exact h1,RRs.mono tp (Nat.le_refl _) (fun j hj=>by simp[Nat.ne_of_lt (Nat.lt_trans hj hi)]) xs h2⟩
  ·have hil:=SR.lt e
   have ei:i=σ.length:=by simp at hil;omega
   subst ei
   rw[List.getElem?_append_right (Nat.le_refl _)] at e
   simp at e
   subst e
   exact hc _ _ tp upd_same (by simp) fun j hj=>by simp[Nat.ne_of_lt hj]
 ·simp at hi hj
  by_cases h1:i=σ.length
  ·by_cases h2:j=σ.length
   ·omega
   ·obtain⟨o',eo,_⟩:=S.at (show j<σ.length by omega)
    simp[h1,h2] at e
    rw[← e,hp] at eo
    cases eo
  ·by_cases h2:j=σ.length
   ·obtain⟨o',eo,_⟩:=S.at (show i<σ.length by omega)
    simp[h1,h2] at e
    rw[e,hp] at eo
    cases eo
   ·simp[h1,h2] at e
    exact S.inj i j (by omega) (by omega) e
theorem nfz_l{H:Hp}{a:Addr}{vs:List V}(h:H a=some (.lst vs)):∀ ob u,H a≠some (.frz ob u):=fun _ _ z=>by rw[h] at z;cases z
theorem nfz_d{H:Hp}{a:Addr}{vs:List (Key × V)}(h:H a=some (.dK vs)):∀ ob u,H a≠some (.frz ob u):=fun _ _ z=>by rw[h] at z;cases z
theorem SR.write{H:Hp}{ρ:Nat->Addr}{σ:Store}(S:SR H ρ σ){k:Nat}(hk:k<σ.length){o:HO}{c:Cell}(hz:∀ ob u,H (ρ k)≠some (.frz ob u))
 (hc:∀ H',TPk H H'->H' (ρ k)=some o->RC H' ρ k c) :
 Ext ρ σ.length H ρ (σ.set k c).length (upd H (ρ k) o)/\SR (upd H (ρ k) o) ρ (σ.set k c):=by
 obtain⟨ok,ek,nk⟩:=S.at hk
 have tp:TPk H (upd H (ρ k) o):=fun a vs e=>by
  rw[upd_ne fun z => ?_]
  ·exact e
  ·rw[z,ek] at e;cases e;exact nk vs rfl
 refine⟨⟨by simp,fun _ _=>rfl,fun i h1 h2=>by simp at h2;omega,fun a b e h => ?_,fun a ob u e=>by rw[upd_ne fun z=>hz ob u (by rw[← z];exact e)];exact e⟩,⟨fun i d e => ?_,fun i j hi hj e=>S.inj i j (by simpa using hi) (by simpa using hj) e⟩⟩
 ·rw[upd_ne fun z=>h k hk z.symm];exact e
 ·by_cases hik:k=i
  ·subst hik
   rw[List.getElem?_set_self hk] at e
   cases e
   exact hc _ tp upd_same
  ·rw[List.getElem?_set_ne hik] at e
   have hi:=SR.lt e
   have hne:ρ i≠ρ k:=fun z=>hik (S.inj i k hi hk z).symm
   have q:=S.cell i d e
   cases d with
   |lst xs=>obtain⟨vs,h1,h2⟩:=q;exact⟨vs,by rw[upd_ne hne];exact h1,RGs.mono tp xs h2⟩
   |rdl xs =>
    obtain⟨vs,h1,h2⟩:=q
    refine⟨vs,?_,RGs.mono tp xs h2⟩
    rcases h1 with h1 | ⟨ob,h1⟩
    ·exact .inl (by rw[upd_ne hne];exact h1)
    ·exact .inr ⟨ob,by rw[upd_ne hne];exact h1⟩
   |dct xs=>obtain⟨vs,h1,h2⟩:=q;exact⟨vs,by rw[upd_ne hne];exact h1,RKs.mono tp xs h2.1,h2.2⟩
   |rdd xs=>obtain⟨vs,ob,h1,h2⟩:=q;exact⟨vs,ob,by rw[upd_ne hne];exact h1,RKs.mono tp xs h2.1,h2.2⟩
   |dtg xs=>obtain⟨o,ys,h1,h2,h3⟩:=q;exact⟨o,ys,by rw[upd_ne hne];exact h1,RN.mono tp xs h2,h3⟩
   |rdt xs=>obtain⟨o,ys,h1,h2,h3⟩:=q;exact⟨o,ys,by rw[upd_ne hne];exact h1,RN.mono tp xs h2,h3⟩
   |rls xs=>obtain⟨vs,h1,h2⟩:=q;exact⟨vs,by rw[upd_ne hne];exact h1,RRs.mono tp (Nat.le_refl _) (fun _ _=>rfl) xs h2⟩
theorem SR.tup{H:Hp}{ρ:Nat->Addr}{σ:Store}(S:SR H ρ σ){p:Addr}(hp:H p=none)(o:HO):Ext ρ σ.length H ρ σ.length (upd H p o)/\SR (upd H p o) ρ σ/\TPk H (upd H p o):=by
 have tp:TPk H (upd H p o):=fun a vs e=>by rw[upd_ne (ne_of_none e hp)];exact e
 refine⟨⟨Nat.le_refl _,fun _ _=>rfl,fun i h1 h2=>absurd h2 (Nat.not_lt.mpr h1),fun a b e _=>by rw[upd_ne (ne_of_none e hp)];exact e,fun a _ _ e=>by rw[upd_ne (ne_of_none e hp)];exact e⟩,⟨fun i d e => ?_,S.inj⟩,tp⟩
 obtain⟨o',eo,_⟩:=S.at (SR.lt e)
 have hne:ρ i≠p:=ne_of_none eo hp
 have q:=S.cell i d e
 cases d with
 |lst xs=>obtain⟨vs,h1,h2⟩:=q;exact⟨vs,by rw[upd_ne hne];exact h1,RGs.mono tp xs h2⟩
 |rdl xs =>
  obtain⟨vs,h1,h2⟩:=q
  refine⟨vs,?_,RGs.mono tp xs h2⟩
  rcases h1 with h1 | ⟨ob,h1⟩
  ·exact .inl (by rw[upd_ne hne];exact h1)
  ·exact .inr ⟨ob,by rw[upd_ne hne];exact h1⟩
 |dct xs=>obtain⟨vs,h1,h2⟩:=q;exact⟨vs,by rw[upd_ne hne];exact h1,RKs.mono tp xs h2.1,h2.2⟩
 |rdd xs=>obtain⟨vs,ob,h1,h2⟩:=q;exact⟨vs,ob,by rw[upd_ne hne];exact h1,RKs.mono tp xs h2.1,h2.2⟩
 |dtg xs=>obtain⟨o,ys,h1,h2,h3⟩:=q;exact⟨o,ys,by rw[upd_ne hne];exact h1,RN.mono tp xs h2,h3⟩
 |rdt xs=>obtain⟨o,ys,h1,h2,h3⟩:=q;exact⟨o,ys,by rw[upd_ne hne];exact h1,RN.mono tp xs h2,h3⟩
 |rls xs=>obtain⟨vs,h1,h2⟩:=q;exact⟨vs,by rw[upd_ne hne];exact h1,RRs.mono tp (Nat.le_refl _) (fun _ _=>rfl) xs h2⟩
end SN
namespace SN
open PySem PySem.Spec PyProof.Rows L2 MP
variable [Wd]
noncomputable def frees(cells:List (Str × Addr)):List (Str × NameKind)->List (Str × Addr)->List (Str × Addr)
 | [],acc=>acc
 | (n,k)::r,acc=>if (k == NameKind.free)=true then frees cells r ((n,(cells.lookup n).getD 0)::acc) else frees cells r acc
theorem closure_go{env:PySem.Env}:∀ (names:List (Str × NameKind)) (acc:List (Str × Addr)),(∀ y∈names,y.2 = .free->∃ c,env.cells.lookup y.1=some c) →
 (forIn names acc fun(x:Str × NameKind) (r:List (Str × Addr))=>(match x with
   | (name,kind)=>if (kind == NameKind.free)=true then do let y ← cellOf env name;pure (ForInStep.yield ((name,y)::r)) else pure (ForInStep.yield r):Sem (ForInStep (List (Str × Addr)))))=(pure (frees env.cells names acc):Sem _)
 | [],acc,_=>by simp[frees]
 | (n,k)::r,acc,h=>by
  rw[List.forIn_cons]
  cases hk:(k == NameKind.free) with
  |true =>
   have hk':k = .free:=by simpa using hk
   obtain⟨c,e⟩:=h (n,k) List.mem_cons_self hk'
   have ec:cellOf env n=pure c:=by unfold cellOf;rw[e]
   simp only[hk,if_true,ec,pure_bind,frees,e,Option.getD_some]
   exact closure_go r _ fun y hy=>h y (List.mem_cons_of_mem _ hy)
  |false =>
   simp only[hk,Bool.false_eq_true,if_false,pure_bind,frees]
   exact closure_go r _ fun y hy=>h y (List.mem_cons_of_mem _ hy)
theorem closure_is{scope:Scope}{env:PySem.Env}(h:∀ y∈scope.names,y.2 = .free->∃ c,env.cells.lookup y.1=some c):closureFor scope env=pure (frees env.cells scope.names []):=by
 unfold closureFor
 have q:=closure_go (env:=env) scope.names [] h
 first
  | (rw[q];rfl)
  | (simp only[q];rfl)
  | (erw [q];rfl)
theorem frees_lookup{cells:List (Str × Addr)}:∀ (names:List (Str × NameKind)) (acc:List (Str × Addr)),(∀ y∈names,y.2 = .free->∃ c,cells.lookup y.1=some c)->(∀ x c,acc.lookup x=some c->cells.lookup x=some c) →
 (∀ x c,(frees cells names acc).lookup x=some c->cells.lookup x=some c)
 | [],acc,_,h,x,c,e=>h x c e
 | (n,k)::r,acc,hf,h,x,c,e=>by
  unfold frees at e
  split at e
  ·rename_i hk
   have hk':k = .free:=by simpa using hk
   obtain⟨d,ed⟩:=hf (n,k) List.mem_cons_self hk'
   refine frees_lookup r _ (fun y hy=>hf y (List.mem_cons_of_mem _ hy)) (fun y c' e' => ?_) x c e
   rw[List.lookup_cons] at e'
   cases hy:y == n with
   |true =>
    rw[hy] at e'
    have:y=n:=by simpa using hy
    subst this
    simp only[ed,Option.getD_some] at e'
    rw[ed];exact e'
   |false=>rw[hy] at e';exact h y c' e'
  ·exact frees_lookup r _ (fun y hy=>hf y (List.mem_cons_of_mem _ hy)) h x c e
theorem frees_keep{cells:List (Str × Addr)}:∀ (names:List (Str × NameKind)) (acc:List (Str × Addr)) (x:Str),(∃ c,acc.lookup x=some c)->∃ c,(frees cells names acc).lookup x=some c
 | [],_,_,h=>h
 | (n,k)::r,acc,x,h=>by
  unfold frees
  split
  ·refine frees_keep r _ x ?_
   rw[List.lookup_cons]
   cases x == n with
   |true=>exact⟨_,rfl⟩
   |false=>exact h
  ·exact frees_keep r _ x h
theorem frees_has{cells:List (Str × Addr)}:∀ (names:List (Str × NameKind)) (acc:List (Str × Addr)) (x:Str),(x,NameKind.free)∈names->∃ c,(frees cells names acc).lookup x=some c
 | (n,k)::r,acc,x,h=>by
  unfold frees
  rcases List.mem_cons.mp h with e|h
  ·have e1:x=n:=congrArg Prod.fst e
   have e2:NameKind.free=k:=congrArg Prod.snd e
   subst e1
   subst e2
   rw[if_pos (by simp)]
   refine frees_keep r _ x ?_
   rw[List.lookup_cons]
   simp
  ·split
   ·exact frees_has r _ x h
   ·exact frees_has r _ x h
noncomputable def cxC(X:Cx)(N':List Str)(scope:Scope)(cl:List (Str × Addr))(C:Addr)(fp:List Addr)(s:Shared)(H:Hp):Cx :=
 {X with N:=N',s₀:=s,H₀:=H,env:=compEnvC scope cl C X.env,outer:=X.stack,ex:=fp,fn:=fun _=>false,pn:=[],xe:=fun _ _=>False}
noncomputable def PCs(X:Cx)(ifs:List Expr)(t:TT):Prop :=
 ∀ (pins:List (Addr × Obj)) (s:Shared) (σ:L2.St) (H:Hp) (Q:Bool->Hp->Prop),Inv X pins σ H s->t σ H Q →
  wpAny (model X.prog X.w) X.A (forIn ifs true fun c r=>if r=true then do let ok ← isTrue c X.env (eval c X.env);pure (ForInStep.yield ok) else pure (ForInStep.yield r)) (TP X pins σ Q) X.xe s
theorem conds_false{env:PySem.Env}:∀ ifs:List Expr,(forIn ifs false fun c r=>if r=true then do let ok ← isTrue c env (eval c env);pure (ForInStep.yield ok) else pure (ForInStep.yield r):Sem Bool)=pure false
 | []=>by simp
 |c::r=>by
  rw[List.forIn_cons]
  simp only[Bool.false_eq_true,if_false,pure_bind]
  exact conds_false r
noncomputable def tTrue:TT:=fun _ H Q=>Q true H
theorem pcs_nil{X:Cx}:PCs X [] tTrue:=fun pins s σ H Q I h=>by
 simp only[List.forIn_nil]
 exact wpAny_pure ⟨H,I,h⟩
theorem pcs_cons{X:Cx}{c:Expr}{cs:List Expr}{t u:TT}(h1:PT X c t)(h2:PCs X cs u):PCs X (c::cs) (tAnd t u):=fun pins s σ H Q I h=>by
 rw[List.forIn_cons]
 simp only[if_true,bind_assoc,pure_bind]
 refine wpAny_bind (thn (h1 pins s σ H _ I h) fun b s1 ⟨H1,I1,q1⟩ => ?_)
 cases b with
 |true=>exact h2 pins s1 σ H1 Q I1 q1
 |false =>
  rw[conds_false cs]
  exact wpAny_pure ⟨H1,I1,q1⟩
noncomputable def blockW(B:V->Hp->L2.St->Prop)(J:It)(vals:List (Option V))(tc:TT)(te:TE)(D:Addr)(H1:Hp)(Q:VK):Prop :=
 ∃ W:Nat->Nat->List V->Hp->Prop,(∃ m,W 0 m [] (upd H1 D (.lst [])))/\∀ i m acc H,W i m acc H->H D=some (.lst acc) ∧
  ((J.stop i H/\Q (.ref D) H)\/(J.go i H/\∀ x H',J.yld i H x H'->∃ bs,B x H' bs/\tc (bs++vals) H' fun b H2 =>
    if b=true then te (bs++vals) H2 fun y H3=>H3 D=some (.lst acc)/\acc.length<=i/\∃ m',m'<m/\W (i+1) m' (acc++[y]) (upd H3 D (.lst (acc++[y])))
    else ∃ m',m'<m/\W (i+1) m' acc H2))
noncomputable def BJ(K:PySem.W.Frag)(J:It):Prop:=∀ (X:Cx) (pins:List (Addr × Obj)) (σ:L2.St) (H:Hp) (s:Shared) (i:Nat),X.K=K->Inv X pins σ H s->J.go i H->i<sizeLine
noncomputable def tLC(K:PySem.W.Frag)(B:V->Hp->L2.St->Prop)(wi:TI)(caps:List Nat)(tc:TT)(te:TE):TE:=fun σ H Q=>wi σ H fun J H1=>BJ K J/\∀ D,H1 D=none->blockW B J (caps.map fun j=>(σ[j]?).getD none) tc te D H1 Q
theorem comp_turns{prog:Program}{w:World}{A:Around}{R:Result->Shared->Prop}{s:Shared}{elt target iter:Expr}{ifs:List Expr}{scope:Scope}{pos:Pos}{it acc:Value}{env:PySem.Env}(I:Nat->Shared->Prop)
 (step:∀ n s,I n s->wpAny (model prog w) A (pyNext it) (fun r s₁=>match r with
   |none=>R (.ok .next) s₁
   |some v=>wpAny (model prog w) A (letOwnedTupleGo target it v) (fun _ s₂=>wpAny (model prog w) A (assign target env v) (fun _ s₃ =>
    wpAny (model prog w) A (forIn ifs true fun c r=>if r=true then do let ok ← isTrue c env (eval c env);pure (ForInStep.yield ok) else pure (ForInStep.yield r)) (fun ok s₄ =>
     if ok=true then wpAny (model prog w) A (eval elt env) (fun x s₅=>wpAny (model prog w) A (call (.builtin "list.append") [acc,x]) (fun _ s₆=>∃ m,m<n/\I m s₆) (notedBy (model prog w) A env fun e s'=>R (.error e) s') s₅) (notedBy (model prog w) A env fun e s'=>R (.error e) s') s₄
     else ∃ m,m<n/\I m s₄) (notedBy (model prog w) A env fun e s'=>R (.error e) s') s₃) (notedBy (model prog w) A env fun e s'=>R (.error e) s') s₂) (notedBy (model prog w) A env fun e s'=>R (.error e) s') s₁) (notedBy (model prog w) A env fun e s'=>R (.error e) s') s)
 (n:Nat) (h:I n s):codeAny (model prog w) A (.compLoop (.ListComp elt [⟨target,iter,ifs,0⟩] scope pos) 0 it acc env) R s:=by
 refine codeAny_loop rfl I (fun n s hn => ?_) n h
 show wpAny _ A ((compTurn (.ListComp elt [⟨target,iter,ifs,0⟩] scope pos) 0 it acc env).onRaise fun x=>do noteFrame x env;theTreesLotGoes x) _ _ s
 refine wpAny_noted ?_
 rw[compTurn_list]
 refine wpAny_bind (wpAny_standAt (wpAny_bind (wpAny_mono (step n s hn) (fun r s₁ q => ?_) fun _ _ z=>z)))
 cases r with
 |none=>exact wpAny_pure q
 |some v =>
  refine wpAny_bind (wpAny_mono q (fun _ s₂ q2=>wpAny_bind (wpAny_mono q2 (fun _ s₃ q3=>wpAny_bind (wpAny_mono q3 (fun ok s₄ q4 => ?_) fun _ _ z=>z)) fun _ _ z=>z)) fun _ _ z=>z)
  cases ok with
  |true=>exact wpAny_bind (wpAny_bind (wpAny_mono q4 (fun x s₅ q5=>wpAny_bind (wpAny_mono q5 (fun _ s₆ q6=>wpAny_pure (wpAny_pure ⟨rfl,q6⟩)) fun _ _ z=>z)) fun _ _ z=>z))
  |false=>exact wpAny_pure ⟨rfl,q4⟩
structure CompOk(X:Cx)(xs:List Str)(caps:List Nat)(names:List Str)(scope:Scope):Prop where
 kind:scope.kind = .function
 cell:∀ y∈scope.names,y.2 ≠ .cell
 loc:∀ y∈scope.names,y.2 = .local->scope.names.lookup y.1=some .local
 tgt:∀ x∈xs,scope.names.lookup x=some .local
 fre:∀ y∈scope.names,y.2 = .free->X.env.kindOf y.1=some .cell\/X.env.kindOf y.1=some .free
 nod:(xs++names).Nodup
 lenC:names.length=caps.length
 capN:∀ (j:Nat) (y:Str),names[j]?=some y->∃ i:Nat,caps[j]?=some i/\X.N[i]?=some y/\scope.names.lookup y=some .free
theorem lookup_map_kind{f:Str × NameKind->Str × NameKind}(hf:∀ p,(f p).1=p.1):∀ (l:List (Str × NameKind)) (x:Str),(l.map f).lookup x=((l.find? fun p=>x == p.1).map fun p=>(f p).2)
 | [],_=>rfl
 | (n,k)::r,x=>by
  have ih:=lookup_map_kind hf r x
  rw[List.map_cons]
  have e1:f (n,k)=(n,(f (n,k)).2):=by
   have:=hf (n,k)
   cases q:f (n,k) with
   |mk a b=>rw[q] at this;cases this;rfl
  rw[e1,List.lookup_cons,List.find?_cons]
  cases hx:x == n with
  |true=>rfl
  |false=>exact ih
theorem lookup_find:∀ (l:List (Str × NameKind)) (x:Str),l.lookup x=((l.find? fun p=>x == p.1).map (·.2))
 | [],_=>rfl
 | (n,k)::r,x=>by
  rw[List.lookup_cons,List.find?_cons]
  cases hx:x == n with
  |true=>rfl
  |false=>exact lookup_find r x
theorem relabel_lookup(scope:Scope)(env:PySem.Env)(x:Str):(relabel scope env).names.lookup x=(scope.names.lookup x).map fun k=>if (k == .free && env.scope.kind == .function && env.kindOf x == some .cell)=true then .cell else k:=by
 unfold relabel
 show(scope.names.map _).lookup x=_
 rw[lookup_map_kind (f:=fun p=>if (p.2 == NameKind.free && env.scope.kind == .function && env.kindOf p.1 == some .cell)=true then (p.1,.cell) else (p.1,p.2)) (fun p=>by split<;>rfl),lookup_find,Option.map_map]
 cases e:scope.names.find? (fun p=>x == p.1) with
 |none=>rfl
 |some p =>
  have hx:x=p.1:=by
   have:=List.find?_some e
   simpa using this
  subst hx
  simp only[Option.map_some,Function.comp]
  split<;>rfl
section
variable {X:Cx}{pins:List (Addr × Obj)}{σ:L2.St}{elt iter tg:Expr}{xs:List Str}{pos:Pos}{B:V->Hp->L2.St->Prop}{g:TG}{ifs:List Expr}{scope:Scope}{caps:List Nat}{names:List Str}{tc:TT}{te:TE}
theorem comp_core(hc:X.calm=true)(ok:CompOk X xs caps names scope){cl:List (Str × Addr)}(ecl:cl=frees X.env.cells scope.names [])
 (hC:∀ C fp s H,PCs (cxC X (xs++names) scope cl C fp s H) ifs tc) (hE:∀ C fp s H,PE (cxC X (xs++names) scope cl C fp s H) elt te)
 (hG:∀ C fp s H,PG (cxC X (xs++names) scope cl C fp s H) tg g) (hBl:∀ y H bs,B y H bs->bs.length=xs.length) (hBg:∀ y H bs os vals,B y H bs->os.length=xs.length->g y (os++vals) H fun σ' H'=>σ'=bs++vals/\H'=H)
 {J:It} {fp:List Addr} {it:Addr} {tn:Nat->Heap->Prop} {H2:Hp} {s2:Shared} {Q:VK} {E:Value->Shared->Prop} {RR:Value->Addr->Result->Shared->Prop}
 (I2:Inv X pins σ H2 s2) (T:Turn X.prog X.w X.K tg J fp it tn) (t0:tn 0 s2.heap) (f2:∀ b∈fp,FpOk X pins H2 b) (hB:BJ X.K J)
 (hq:∀ D,H2 D=none->blockW B J (caps.map fun j=>(σ[j]?).getD none) tc te D H2 Q)
 (hRR:∀ D C H' s1 m oC,Inv X pins σ H' s1->s1.heap.Ns C m->s1.heap.get? C=some oC->(∀ v,oC.data ≠ .cell v)->H' C=none->s2.heap.objs.size<=C->Q (.ref D) H'->RR (.ref D) C (.ok .next) s1) :
 wpAny (model X.prog X.w) X.A (newList []) (fun acc s₃=>wpAny (model X.prog X.w) X.A (newFunctionEnv scope X.env.globals cl [] X.env.qual none .none (some X.env)) (fun cenv s₄ =>
  codeAny (model X.prog X.w) X.A (.compStart (.ListComp elt [⟨tg,iter,ifs,0⟩] scope pos) 0 (.ref it) acc {cenv with scope:=relabel scope X.env}) (RR acc cenv.locals) s₄) E s₃) E s2:=by
 refine wpAny_newObj_type (wpAny_newFunctionEnv ok.cell (by intro y hy;simp at hy) (fun h₁ hns hsb => ?_) ok.kind)
 have fD:H2 s2.heap.objs.size=none:=I2.fresh
 obtain⟨W,⟨m0,w0⟩,turn⟩:=hq _ fD
 let D:=s2.heap.objs.size
 let s3:Shared:={s2 with heap:=s2.heap.push {cls:=.type "list",dict:=none,data:=.seq ([]:List Value).toArray}}
 let H3:Hp:=upd H2 D (.lst [])
 have I3:Inv X pins σ H3 s3:=I2.lnew (ys:=[]) (its:=[]) (t':=s2.toks) .nil (Nat.zero_le _)
 let C:=s3.heap.objs.size
 have sz3:C=D+1:=Heap.size_push ..
 let s4:Shared:={s3 with heap:=h₁,toks:=s3.toks+([]:List (Str × Value)).length}
 have old:∀ b o,s3.heap.get? b=some o->h₁.get? b=some o:=fun b o e=>hsb.extBut b o (Nat.ne_of_lt (Heap.lt_size e)) (Heap.get?_push_of_some _ e)
 have I4:Inv X pins σ H3 s4:=I3.kept (h':=h₁) (t':=s3.toks+([]:List (Str × Value)).length) old
 have u23:Un (frs X.stack) fp H2 H3 s2.heap s3.heap:=Un.laid (fun b u e=>Heap.get?_push_of_some _ e) (Nat.le_refl _) fD
 have hfr:∀ y∈scope.names,y.2 = .free->∃ c,X.env.cells.lookup y.1=some c:=fun y hy e=>I2.ok.has y.1 (ok.fre y hy e)
 have hcl:∀ y c,cl.lookup y=some c->X.env.cells.lookup y=some c:=fun y c e=>by
  rw[ecl] at e
  exact frees_lookup scope.names [] hfr (fun _ _ z=>by simp at z) y c e
 have hcf:∀ y,(y,NameKind.free)∈scope.names->∃ c,cl.lookup y=some c:=fun y hy=>by
  rw[ecl];exact frees_has scope.names [] y hy
 let X':Cx:=cxC X (xs++names) scope cl C fp s3 H3
 have fpC:∀ b∈fp,b≠C/\b∉frs X.stack/\(∀ y c,cl.lookup y=some c->c≠b):=fun b hb=>by
  obtain⟨f0,f1,f2',f3,f4,f5⟩:=f2 b hb
  obtain⟨o,e,_⟩:=T.obj _ _ t0 b hb
  refine⟨?_,fun z => ?_,fun y c e=>f4 y c (hcl y c e)⟩
  ·have:=Heap.lt_size e
   rw[sz3]
   exact Nat.ne_of_lt (Nat.lt_succ_of_lt this)
  ·rcases List.mem_cons.mp (I2.stkSub b z) with z|z
   ·exact f1 z
   ·exact f2' z
 have ok':X'.Ok:={
  mod:=I2.ok.mod
  kind:=ok.kind
  glob:=I2.ok.glob
  blt:=I2.ok.blt
  above:=Nat.le_refl _
  inj:=fun y z c e1 e2=>I2.ok.inj y z c (hcl y c e1) (hcl z c e2)
  has:=fun y hy=>by
   have hy:(relabel scope X.env).names.lookup y=some .cell\/(relabel scope X.env).names.lookup y=some .free:=hy
   rw[relabel_lookup] at hy
   have hm:scope.names.lookup y=some .free:=by
    cases e:scope.names.lookup y with
    |none=>rw[e] at hy;rcases hy with z|z<;>cases z
    |some k =>
     rw[e] at hy
     cases k with
     |free=>rfl
     |cell=>exact absurd rfl (ok.cell _ (PySem.mem_of_lookup e))
     | «local» => rcases hy with z|z<;>simp at z
     |globalExplicit=>rcases hy with z|z<;>simp at z
     |globalImplicit=>rcases hy with z|z<;>simp at z
   exact hcf y (PySem.mem_of_lookup hm)
  cab:=fun _ _ z=>absurd (show(false:Bool)=true from z) Bool.false_ne_true
  hd:=I2.ok.hd
  frames:=I2.ok.frames
  stk:=.inl rfl
  exf:=fun b hb=>⟨(fpC b hb).1,(fpC b hb).2.2⟩
  bs:=fun b o e=>⟨(I3.bs b o e).1,(I3.bs b o e).2⟩
  bsz:=Nat.le_trans I3.ok.bsz I3.sz
  noex:=fun b o e z=>by
   obtain⟨_,_,_,f3,_⟩:=f2 b z
   rcases f3 with q|q
   ·exact I2.ok.noex b o e q
   ·exact absurd (Heap.lt_size (I2.ok.bs b o e).1) (Nat.not_lt.mpr q)
  exfs:=fun b hb=>(fpC b hb).2.1
  funs:=I3.stack
  frf:=I3.stkFree}
 let vals:List (Option V):=caps.map fun j=>(σ[j]?).getD none
 have I5:Inv X' [] (List.replicate xs.length none++vals) H3 s4:={
  ok:=ok'
  os:=rfl
  bare:=I4.bare
  base:=Un.kept old
  loc:=by
   refine⟨_,hns,fun i y v e1 e2 e3 => ?_⟩
   by_cases hi:i<xs.length
   ·rw[List.getElem?_append_left (by simpa using hi),List.getElem?_replicate] at e2
    rw[if_pos hi] at e2
    cases e2
   ·obtain⟨j,rfl⟩:∃ j,i=xs.length+j:=⟨i-xs.length,by omega⟩
    have e1:(xs++names)[xs.length+j]?=some y:=e1
    rw[List.getElem?_append_right (by omega),Nat.add_sub_cancel_left] at e1
    rw[List.getElem?_append_right (by simp),List.length_replicate,Nat.add_sub_cancel_left] at e2
    obtain⟨k,ek,eN,ef⟩:=ok.capN j y e1
    have e2:σ[k]?=some (some v):=by
     simp only[vals,List.getElem?_map,ek,Option.map_some] at e2
     cases q:σ[k]? with
     |none=>rw[q] at e2;simp at e2
     |some o=>rw[q] at e2;simp at e2;rw[e2]
    obtain⟨m,hn,hl⟩:=I4.loc
    have hk:=ok.fre _ (PySem.mem_of_lookup ef) rfl
    have hvis:Vis X.env.scope y:=.inr hk
    obtain⟨u,r,l⟩:=hl k y v eN e2 hvis
    refine⟨u,r,.inr ?_⟩
    obtain⟨c,ec,hc4⟩:∃ c,X.env.cells.lookup y=some c/\s4.heap.IsCell c (some u):=by
     rcases l with⟨z,_⟩ | ⟨_,c,ec,hc⟩
     ·rcases hk with q|q<;>(rw[show X.env.kindOf y=_ from z] at q;cases q)
     ·exact⟨c,ec,hc⟩
    obtain⟨c',ec'⟩:=hcf y (PySem.mem_of_lookup ef)
    have:=hcl y c' ec'
    rw[ec] at this
    cases this
    refine⟨?_,c,ec',hc4⟩
    show(relabel scope X.env).names.lookup y=_\/(relabel scope X.env).names.lookup y=_
    rw[relabel_lookup,ef]
    simp only[Option.map_some]
    split
    ·exact .inl rfl
    ·exact .inr rfl
  cell:=fun y c e=>I4.cell y c (hcl y c e)
  free:=I3.fresh
  freeC:=fun y c e=>I4.freeC y c (hcl y c e)
  pin:=fun p hp=>absurd (show p∈([]:List (Addr × Obj)) from hp) (by simp)
  hok:=I4.hok
  len:=by show(List.replicate xs.length none++vals).length=(xs++names).length;simp[vals,ok.lenC]}
 have fpok:∀ {H':Hp},(∀ b∈fp,H' b=none)->∀ b∈fp,FpOk X' [] H' b:=fun hn b hb=>⟨hn b hb,(fpC b hb).1,(fpC b hb).2.1,.inl hb,(fpC b hb).2.2,fun p hp=>absurd (show p∈([]:List (Addr × Obj)) from hp) (by simp)⟩
 have leave:∀ {σ':L2.St} {H':Hp} {s1:Shared},Inv X' [] σ' H' s1->Inv X pins σ H' s1:=fun I'=>I2.call' (ch:=fp) I'.os (u23.trans I'.base) I'.hok I'.bare fun b hb=>by
  obtain⟨f0,f1,f2',f3,f4,f5⟩:=f2 b hb
  exact⟨f3,f1,f4,f5⟩
 have fp3:∀ b∈fp,H3 b=none:=fun b hb=>by
  obtain⟨o,e,_⟩:=T.obj _ _ t0 b hb
  show upd H2 D _ b=none
  rw[upd_ne (Nat.ne_of_lt (Heap.lt_size e))]
  exact(f2 b hb).1
 have tn4:tn 0 s4.heap:=T.keep _ _ _ t0 fun b hb o e=>old b o (Heap.get?_push_of_some _ e)
 have loop:codeAny (model X.prog X.w) X.A (.compLoop (.ListComp elt [⟨tg,iter,ifs,0⟩] scope pos) 0 (.ref it) (.ref D) X'.env) (RR (.ref D) C) s4:=by
  refine comp_turns (fun n s=>∃ i acc os H',os.length=xs.length/\Inv X' [] (os++vals) H' s/\tn i s.heap/\(∀ b∈fp,H' b=none)/\W i n acc H') ?_ m0 ⟨0,[],List.replicate xs.length none,H3,by simp,I5,tn4,fp3,w0⟩
  rintro n s ⟨i,acc,os,H6,ho6,I6,t6,fr6,w6⟩
  obtain⟨hD6,st⟩:=turn i n acc H6 w6
  rcases st with⟨stop,q⟩ | ⟨go,step⟩
  ·refine thn (T.done X' rfl rfl rfl hc i [] s (os++vals) H6 _ I6 (fpok fr6) t6 stop) fun r s1 ⟨hr,I7⟩ => ?_
   subst hr
   obtain⟨m,hn,_⟩:=id I7.loc
   obtain⟨oC,es,ep,ho,hdat,_⟩:=id hn
   exact hRR D C H6 s1 m oC (leave I7) hn ho (fun v z=>by rw[hdat] at z;cases z) I7.free (by show D<=C;omega) q
  ·refine thn (T.item X' rfl rfl rfl hc i [] s (os++vals) H6 _ I6 (fpok fr6) t6 go) fun r s1 ⟨u,hr,h1⟩ => ?_
   subst hr
   refine thn h1 fun _ s2' ⟨y,H7,I7,r7,y7,t7,fr7⟩ => ?_
   have I7p:=I7.pinned (fpok fr7) (T.obj _ _ t7)
   obtain⟨bs,hbs,stp⟩:=step y H7 y7
   refine wpAny_mono (hG C fp s3 H3 _ s2' (os++vals) H7 y u (fun σ' H'=>σ'=bs++vals/\H'=H7) I7p r7 (hBg y H7 bs os vals hbs ho6)) (fun _ s8 ⟨σ8,H8,I8,e8,e8'⟩ => ?_) fun _ _ z=>z.elim
   subst e8 e8'
   have hbl:=hBl y H8 bs hbs
   have back:∀ {H':Hp} {s':Shared},Inv X' ([]++pinsAt fp s2'.heap) (bs++vals) H' s'->Inv X' [] (bs++vals) H' s'/\tn (i+1) s'.heap/\∀ b∈fp,H' b=none:=fun {H' s'} I'=>by
    refine⟨I'.unpinned,T.keep _ _ _ t7 fun b hb o e=>(I'.pin (b,o) (List.mem_append_right _ (List.mem_append_right _ (mem_pinsAt hb e)))).1,fun b hb => ?_⟩
    obtain⟨o,e,d⟩:=T.obj _ _ t7 b hb
    exact(I'.pin (b,o) (List.mem_append_right _ (List.mem_append_right _ (mem_pinsAt hb e)))).2.1
   refine wpAny_mono (hC C fp s3 H3 _ s8 (bs++vals) H8 _ I8 stp) (fun okb s9 ⟨H9,I9,q9⟩ => ?_) fun _ _ z=>z.elim
   cases okb with
   |false =>
    rw[if_neg Bool.false_ne_true] at q9 ⊢
    obtain⟨m',hm,w'⟩:=q9
    obtain⟨b1,b2,b3⟩:=back I9
    exact⟨m',hm,i+1,acc,bs,H9,hbl,b1,b2,b3,w'⟩
   |true =>
    rw[if_pos rfl] at q9 ⊢
    refine wpAny_mono (hE C fp s3 H3 _ s9 (bs++vals) H9 _ I9 q9) (fun v s10 ⟨z,H10,I10,rz,hD10,hlen,m',hm,w'⟩ => ?_) fun _ _ z=>z.elim
    refine wpAny_mono (mt_append (X:=X') _ s10 (bs++vals) H10 (.ref D) [z] (.ref D) [v] (fun _ H'=>H'=upd H10 D (.lst (acc++[z]))) I10 rfl (.cons rz .nil) ⟨D,acc,z,rfl,rfl,hD10,Nat.lt_of_le_of_lt hlen (hB X' _ _ _ _ i rfl I6 go),rfl⟩) (fun _ s11 ⟨_,H11,I11,_,e11⟩ => ?_) fun _ _ z=>z.elim
    subst e11
    obtain⟨b1,b2,b3⟩:=back I11
    exact⟨m',hm,i+1,acc++[z],bs,_,hbl,b1,b2,b3,w'⟩
 exact codeAny_compStart_list loop (T.self X.A 0 s4 _ _ tn4 loop)
theorem pe_comp{wi:TI}(hc:X.calm=true)(ok:CompOk X xs caps names scope)
 (hI:PI X tg iter wi)
 (hG:∀ C fp s H,PG (cxC X (xs++names) scope (frees X.env.cells scope.names []) C fp s H) tg g) (hBl:∀ y H bs,B y H bs->bs.length=xs.length) (hBg:∀ y H bs os vals,B y H bs->os.length=xs.length->g y (os++vals) H fun σ' H'=>σ'=bs++vals/\H'=H)
 (hC:∀ C fp s H,PCs (cxC X (xs++names) scope (frees X.env.cells scope.names []) C fp s H) ifs tc) (hE:∀ C fp s H,PE (cxC X (xs++names) scope (frees X.env.cells scope.names []) C fp s H) elt te)
 (hs:∀ x,foldedSetIterable iter X.env x=pure x):PE X (.ListComp elt [⟨tg,iter,ifs,0⟩] scope pos) (tLC X.K B wi caps tc te):=by
 intro pins s σ H Q I h
 rw[eval_ListComp]
 have hfr:∀ y∈scope.names,y.2 = .free->∃ c,X.env.cells.lookup y.1=some c:=fun y hy e=>I.ok.has y.1 (ok.fre y hy e)
 refine wpAny_comprehension_free (use:=none) rfl hs (closure_is hfr) ok.kind ok.loc (thn (hI pins s σ H _ I h) fun v s1 h1=>thn h1 fun itv s2 h2 => ?_)
 obtain⟨it,fp,tn,J,H2,e,I2,T,t0,f2,hB,q⟩:=h2
 subst e
 refine comp_core (RR:=fun acc C=>compPost (model X.prog X.w) X.A X.xe none (EP X pins σ Q) acc C) hc ok rfl hC hE hG hBl hBg I2 T t0 f2 hB q fun D C H' s1 m oC I' hn hC' hcell hfree hle q' => ?_
 refine⟨m,hn,fun h' hsb=>⟨.ref D,H',?_,rfl,q'⟩⟩
 have hL:C≠X.env.locals:=Nat.ne_of_gt (Nat.lt_of_lt_of_le I2.lt hle)
 exact I'.turned (t':=s1.toks) (fun b o hb e=>hsb.extBut b o hb e) hfree hL (.inr (Nat.le_trans I2.sz hle)) (fun y c e z=>by
  obtain⟨v,qq⟩:=I2.cell y c e
  exact absurd (Nat.lt_of_lt_of_le qq.lt (by rw[z];exact hle)) (Nat.lt_irrefl _)) fun p hp z=>absurd (Nat.lt_of_lt_of_le (Heap.lt_size (I2.pin p hp).1) (by rw[z];exact hle)) (Nat.lt_irrefl _)
theorem ps_comp{wi:TI}{y:Str}{py spos:Pos}{i:Nat}(hc:X.calm=true)(ok:CompOk X xs caps names scope)
 (hI:PI X tg iter wi)
 (hG:∀ C fp s H,PG (cxC X (xs++names) scope (frees X.env.cells scope.names []) C fp s H) tg g) (hBl:∀ y H bs,B y H bs->bs.length=xs.length) (hBg:∀ y H bs os vals,B y H bs->os.length=xs.length->g y (os++vals) H fun σ' H'=>σ'=bs++vals/\H'=H)
 (hC:∀ C fp s H,PCs (cxC X (xs++names) scope (frees X.env.cells scope.names []) C fp s H) ifs tc) (hE:∀ C fp s H,PE (cxC X (xs++names) scope (frees X.env.cells scope.names []) C fp s H) elt te)
 (hs:∀ x,foldedSetIterable iter X.env x=pure x) (hsw:swapsWith (.ListComp elt [⟨tg,iter,ifs,0⟩] scope pos) (some (.Name y py)) spos.line X.env=pure true)
 (hN:X.N.Nodup) (hi:X.N[i]?=some y) (hy:Loc X.env.scope y) (hf:X.fn y=true\/X.env.scope.names.lookup y=some .local) :
 PS X (.Assign [.Name y py] (.ListComp elt [⟨tg,iter,ifs,0⟩] scope pos) spos) (fun D σ H=>tLC X.K B wi caps tc te σ H fun v H'=>D.nx (σ.set i (some v)) H'):=by
 intro pins s σ H D I h
 rw[exec_Assign_Name_used _ _ _ _ hsw]
 refine wpAny_bind (wpAny_standAt (wpAny_bind ?_))
 show wpAny _ X.A (do let _ ← comprehension (.ListComp elt [⟨tg,iter,ifs,0⟩] scope pos) scope X.env _ (newList []) false (eval iter X.env) (some (assign (.Name y py) X.env))) _ _ s
 have hfr:∀ y∈scope.names,y.2 = .free->∃ c,X.env.cells.lookup y.1=some c:=fun y hy e=>I.ok.has y.1 (ok.fre y hy e)
 refine wpAny_bind (thn (wpAny_comprehension_free (use:=some (assign (.Name y py) X.env)) (Q:=fun _ s'=>SP X pins D .next s') rfl hs (closure_is hfr) ok.kind ok.loc
  (thn (hI pins s σ H _ I h) fun v s1 h1=>thn h1 fun itv s2 h2 => ?_)) fun _ s' hq=>wpAny_pure (wpAny_pure hq))
 obtain⟨it,fp,tn,J,H2,e,I2,T,t0,f2,hB,q⟩:=h2
 subst e
 refine comp_core (RR:=fun acc C=>compPost (model X.prog X.w) X.A X.xe (some (assign (.Name y py) X.env)) (fun _ s'=>SP X pins D .next s') acc C) hc ok rfl hC hE hG hBl hBg I2 T t0 f2 hB q fun Da C H' s1 m oC I' hn hC' hcell hfree hle q' => ?_
 have hL:C≠X.env.locals:=Nat.ne_of_gt (Nat.lt_of_lt_of_le I2.lt hle)
 have I1:Inv X (pins++[(C,oC)]) σ H' s1:=I'.pins_of fun p hp=>by
  rcases List.mem_append.mp hp with z|z
  ·exact I'.pin p (List.mem_append_right _ z)
  ·simp at z
   subst z
   exact⟨hC',hfree,hL,I2.nofs hle,hcell⟩
 show wpAny _ X.A (assign (.Name y py) X.env (.ref Da)) _ _ s1
 refine thn (pg_name hN hi hy hf _ s1 σ H' (.ref Da) (.ref Da) (fun σ' H''=>σ'=σ.set i (some (.ref Da))/\H''=H') I1 rfl ⟨rfl,rfl⟩) fun _ s2' ⟨σ2,H2',I2',e1,e2⟩ => ?_
 subst e1 e2
 obtain⟨p1,p2,p3,p4,p5⟩:=I2'.pin (C,oC) (List.mem_append_right _ (List.mem_append_right _ (by simp)))
 have hn2:s2'.heap.Ns C m:=hn.at' fun o e=>by rw[hC'] at e;cases e;exact p1
 refine⟨m,hn2,fun h' hsb=>⟨_,_,?_,q'⟩⟩
 have I3:Inv X pins (σ.set i (some (.ref Da))) H2' s2':=I2'.unpinned
 exact I3.turned (t':=s2'.toks) (fun b o hb e=>hsb.extBut b o hb e) p2 hL (.inr (Nat.le_trans I2.sz hle)) (fun y c e z=>by
  obtain⟨v,qq⟩:=I2.cell y c e
  exact absurd (Nat.lt_of_lt_of_le qq.lt (by rw[z];exact hle)) (Nat.lt_irrefl _)) fun p hp z=>absurd (Nat.lt_of_lt_of_le (Heap.lt_size (I2.pin p hp).1) (by rw[z];exact hle)) (Nat.lt_irrefl _)
end
end SN
namespace SN
open PySem PySem.Spec PyProof.Rows L2 MP
variable [Wd]
mutual
noncomputable def dOf:G->PyData
 | .non=>.none
 | .bl b=>.bool b
 | .int i=>.int i
 | .str x=>.str (sOf x)
 | .tup xs=>.tuple (dOfs xs)
noncomputable def dOfs:List G->List PyData
 | []=>[]
 |x::r=>dOf x::dOfs r
end
mutual
theorem dOf_depth:∀ x:G,(dOf x).depth=gdep x
 | .non=>by simp[dOf,PyData.depth,gdep]
 | .bl _=>by simp[dOf,PyData.depth,gdep]
 | .int _=>by simp[dOf,PyData.depth,gdep]
 | .str _=>by simp[dOf,PyData.depth,gdep]
 | .tup xs=>by simp[dOf,PyData.depth,gdep,dOfs_depth xs]
theorem dOfs_depth:∀ xs:List G,PyData.depthAll (dOfs xs)=gdeps xs
 | []=>by simp[dOfs,PyData.depthAll,gdeps]
 |x::r=>by simp[dOfs,PyData.depthAll,gdeps,dOf_depth x,dOfs_depth r]
end
theorem sOf_beq(x y:List Nat):(sOf x == sOf y)=(x == y):=by
 by_cases h:x=y
 ·subst h;simp
 ·have:sOf x≠sOf y:=fun e=>h (sOf_inj e)
  rw[beq_eq_false_iff_ne.mpr this,beq_eq_false_iff_ne.mpr h]
mutual
theorem dOf_eqv:∀ x y:G,PyData.eqv (dOf x) (dOf y)=peq x y
 | .non,y=>by cases y<;>simp[dOf,PyData.eqv,peq]
 | .bl a,y=>by cases y<;>simp[dOf,PyData.eqv,peq,MP.b2i]
 | .int a,y=>by cases y<;>simp[dOf,PyData.eqv,peq,MP.b2i]
 | .str a,y=>by cases y<;>simp[dOf,PyData.eqv,peq,sOf_beq]
 | .tup xs,y=>by
  cases y with
  |tup ys=>simp[dOf,PyData.eqv,peq,dOfs_eqv xs ys]
  |_=>simp[dOf,PyData.eqv,peq]
theorem dOfs_eqv:∀ xs ys:List G,PyData.eqvAll (dOfs xs) (dOfs ys)=peqs xs ys
 | [],ys=>by cases ys<;>simp[dOfs,PyData.eqvAll,peqs]
 |x::r,ys=>by
  cases ys with
  |nil=>simp[dOfs,PyData.eqvAll,peqs]
  |cons y t=>simp[dOfs,PyData.eqvAll,peqs,dOf_eqv x y,dOfs_eqv r t]
end
section
variable {X:Cx}{pins:List (Addr × Obj)}{σ:L2.St}{H:Hp}{s:Shared}
mutual
theorem RG.reads(I:Inv X pins σ H s):∀ (x:G) {v:V} {u:Value},RG H x v->RelV v u->(∃ as,Reads s.heap u (dOf x) as)/\(dOf x).canLay0=true
 | .non,_,_,h,r=>by cases h;cases r;exact⟨⟨_,.none⟩,rfl⟩
 | .bl b,_,_,h,r=>by cases h;cases r;exact⟨⟨_,.bool _⟩,rfl⟩
 | .int i,_,_,h,r=>by cases h;obtain⟨t,rfl⟩:=r;exact⟨⟨_,.int _ _⟩,rfl⟩
 | .str x,_,_,h,r=>by
  obtain⟨rfl,hx⟩:=h
  obtain⟨t,rfl⟩:=r
  refine⟨⟨_,.str _ _⟩,?_⟩
  show PyData.strOk (sOf x)=true
  unfold PyData.strOk sOf
  simpa using okS_all hx
 | .tup xs,_,_,h,r=>by
  obtain⟨a,vs,rfl,ha,hs⟩:=h
  cases r
  obtain⟨_,its,rv,o,ho,hc,n,hd⟩:=I.hok a _ ha
  obtain⟨⟨as,ra⟩,hk⟩:=RGs.reads I xs hs rv
  exact⟨⟨_,.tuple ho hc hd (by simpa using ra)⟩,hk⟩
theorem RGs.reads(I:Inv X pins σ H s):∀ (xs:List G) {vs:List V} {us:List Value},RGs H xs vs->Vals vs us->(∃ as,ReadsAll s.heap us (dOfs xs) as)/\PyData.canLayAll0 (dOfs xs)=true
 | [],_,_,h,r=>by cases h;cases r;exact⟨⟨_,.nil⟩,rfl⟩
 |x::xs,_,_,h,r=>by
  obtain⟨v,vs,rfl,h1,h2⟩:=h
  cases r with
  |cons r1 r2 =>
   obtain⟨⟨as,ra⟩,k1⟩:=RG.reads I x h1 r1
   obtain⟨⟨bs,rb⟩,k2⟩:=RGs.reads I xs h2 r2
   exact⟨⟨_,.cons ra rb⟩,by simp[dOfs,PyData.canLayAll0,k1,k2]⟩
end
theorem shal_le{x:G}(h:shal x=true):gdep x<=150:=of_decide_eq_true h
theorem RG.eqAt(I:Inv X pins σ H s){A:Around}(hu:A.units+160<cLine){x y:G}{v w:V}{u z:Value}(hx:RG H x v)(hy:RG H y w)(hs:shal x=true)(rv:RelV v u)(rw':RelV w z):SeqAt.EqAt A s u z (peq x y):=by
 obtain⟨⟨as,ra⟩,ka⟩:=RG.reads I x hx rv
 obtain⟨⟨bs,rb⟩,kb⟩:=RG.reads I y hy rw'
 have:=SeqAt.eqAt_reads (dOf x) (dOf y) A s u z as bs ra rb ka kb (by rw[dOf_depth];have:=shal_le hs;have h2:=Nat.min_le_left (gdep x) (dOf y).depth;omega)
 rwa [dOf_eqv] at this
noncomputable def rEqG(neg:Bool):R2:=fun x y H Q=>∃ gx gy,RG H gx x/\RG H gy y/\shal gx=true/\Q (.bl (if neg then !peq gx gy else peq gx gy)) H
theorem op_eqG(hu:X.A.units+160<cLine):OpR X (compareOp .Eq) (rEqG false):=by
 intro pins s σ H x y v u Q I rx ry h
 obtain⟨gx,gy,hx,hy,hs,q⟩:=h
 obtain⟨⟨as,ra⟩,ka⟩:=RG.reads I gx hx rx
 obtain⟨⟨bs,rb⟩,kb⟩:=RG.reads I gy hy ry
 refine SeqAt.compareEq_reads ra rb ka kb (by rw[dOf_depth];have:=shal_le hs;have h2:=Nat.min_le_left (gdep gx) (dOf gy).depth;omega) ?_
 rw[dOf_eqv]
 exact⟨.bl _,H,I,rfl,q⟩
theorem op_neG(hu:X.A.units+160<cLine):OpR X (compareOp .NotEq) (rEqG true):=by
 intro pins s σ H x y v u Q I rx ry h
 obtain⟨gx,gy,hx,hy,hs,q⟩:=h
 obtain⟨⟨as,ra⟩,ka⟩:=RG.reads I gx hx rx
 obtain⟨⟨bs,rb⟩,kb⟩:=RG.reads I gy hy ry
 refine SeqAt.compareNe_reads ra rb ka kb (by rw[dOf_depth];have:=shal_le hs;have h2:=Nat.min_le_left (gdep gx) (dOf gy).depth;omega) ?_
 rw[dOf_eqv]
 exact⟨.bl _,H,I,rfl,q⟩
noncomputable def rEqL(neg:Bool):R2:=fun x y H Q=>∃ a b xs ys vs ws,x = .ref a/\y = .ref b/\Rd H a (.lst vs)/\Rd H b (.lst ws)/\RGs H xs vs/\RGs H ys ws/\xs.all shal=true/\Q (.bl (if neg then !peqs xs ys else peqs xs ys)) H
theorem gdeps_le{xs:List G}(h:xs.all shal=true):gdeps xs<=150:=by
 induction xs with
 |nil=>simp[gdeps]
 |cons x r ih =>
  simp only[List.all_cons,Bool.and_eq_true] at h
  have h1:=shal_le h.1
  have h2:=ih h.2
  simp only[gdeps];omega
theorem RL.reads(I:Inv X pins σ H s){a:Addr}{xs:List G}{vs:List V}(ha:Rd H a (.lst vs))(hs:RGs H xs vs):(∃ as,Reads s.heap (.ref a) (.list (dOfs xs)) as)/\(PyData.list (dOfs xs)).canLay0=true:=by
 obtain⟨_,its,n,rv,e⟩:=ha.ok I.hok
 obtain⟨⟨as,ra⟩,hk⟩:=RGs.reads I xs hs rv
 exact⟨⟨_,.list e rfl rfl (by simpa using ra)⟩,by simpa[PyData.canLay0] using hk⟩
theorem op_eqL(hu:X.A.units+160<cLine):OpR X (compareOp .Eq) (rEqL false):=by
 intro pins s σ H x y v u Q I rx ry h
 obtain⟨a,b,xs,ys,vs,ws,rfl,rfl,ha,hb,hx,hy,hs,q⟩:=h
 cases rx
 cases ry
 obtain⟨⟨as,ra⟩,ka⟩:=RL.reads I ha hx
 obtain⟨⟨bs,rb⟩,kb⟩:=RL.reads I hb hy
 refine SeqAt.compareEq_reads ra rb ka kb (by
  have h1:=gdeps_le hs
  have h2:=Nat.min_le_left (PyData.list (dOfs xs)).depth (PyData.list (dOfs ys)).depth
  have h3:(PyData.list (dOfs xs)).depth=gdeps xs+1:=by simp[PyData.depth,dOfs_depth]
  omega) ?_
 rw[show PyData.eqv (.list (dOfs xs)) (.list (dOfs ys))=peqs xs ys by simp[PyData.eqv,dOfs_eqv]]
 exact⟨.bl _,H,I,rfl,q⟩
theorem op_neL(hu:X.A.units+160<cLine):OpR X (compareOp .NotEq) (rEqL true):=by
 intro pins s σ H x y v u Q I rx ry h
 obtain⟨a,b,xs,ys,vs,ws,rfl,rfl,ha,hb,hx,hy,hs,q⟩:=h
 cases rx
 cases ry
 obtain⟨⟨as,ra⟩,ka⟩:=RL.reads I ha hx
 obtain⟨⟨bs,rb⟩,kb⟩:=RL.reads I hb hy
 refine SeqAt.compareNe_reads ra rb ka kb (by
  have h1:=gdeps_le hs
  have h2:=Nat.min_le_left (PyData.list (dOfs xs)).depth (PyData.list (dOfs ys)).depth
  have h3:(PyData.list (dOfs xs)).depth=gdeps xs+1:=by simp[PyData.depth,dOfs_depth]
  omega) ?_
 rw[show PyData.eqv (.list (dOfs xs)) (.list (dOfs ys))=peqs xs ys by simp[PyData.eqv,dOfs_eqv]]
 exact⟨.bl _,H,I,rfl,q⟩
theorem keyOf_inj{k j:G}{a:Key}(h1:keyOf k=some a)(h2:keyOf j=some a):k=j:=by
 cases k<;>cases j<;>simp[keyOf] at h1 h2
 ·subst h1;cases h2;rfl
 ·subst h1;cases h2
 ·subst h1;cases h2
 ·subst h1
  have:sOf _=sOf _:=Sum.inr.inj h2
  rw[sOf_inj this]
theorem isKey_keyOf{k:G}(h:isKey k=true):∃ a,keyOf k=some a:=by
 cases k<;>simp[isKey] at h<;>exact⟨_,rfl⟩
theorem keyOf_rep{k:G}{a:Key}{v:V}(h:keyOf k=some a)(hv:RG H k v):v=kV a:=by
 cases k<;>simp[keyOf] at h
 ·subst h;exact hv
 ·subst h;exact hv.1
theorem RKs.val{kvs:List (G × G)}{ws:List (Key × V)}(h:RKs H kvs ws){k:G}{a:Key}(hk:keyOf k=some a) :
 (dget kvs k=none->valV ws a=none)/\∀ x,dget kvs k=some x->∃ v,valV ws a=some v/\RG H x v:=by
 induction kvs generalizing ws with
 |nil=>cases h;exact⟨fun _=>rfl,fun x e=>by simp[dget] at e⟩
 |cons p r ih =>
  obtain⟨j,x⟩:=p
  obtain⟨b,v,t,rfl,h1,h2,h3⟩:=h
  have ih:=ih h3
  by_cases e:j=k
  ·subst e
   have:b=a:=by
    have h1:keyOf j=some b:=h1
    rw[hk] at h1;cases h1;rfl
   subst this
   refine⟨fun z=>by simp[dget] at z,fun y z => ?_⟩
   simp[dget] at z
   subst z
   exact⟨v,valV_pos rfl,h2⟩
  ·have ne:¬ b=a:=fun z=>by
    subst z
    exact e (keyOf_inj h1 hk)
   simp only[dget,e,if_false]
   rw[valV_neg (p:=(b,v)) ne]
   exact ih
theorem RKs.put{kvs:List (G × G)}{ws:List (Key × V)}(h:RKs H kvs ws){k x:G}{a:Key}{v:V}(hk:keyOf k=some a)(hx:RG H x v)(nd:(ws.map (·.1)).Nodup):RKs H (dput kvs k x) (putK ws a v):=by
 induction kvs generalizing ws with
 |nil=>cases h;exact⟨a,v,[],rfl,hk,hx,rfl⟩
 |cons p r ih =>
  obtain⟨j,y⟩:=p
  obtain⟨b,u,t,rfl,h1,h2,h3⟩:=h
  have nd':b∉t.map (·.1)/\(t.map (·.1)).Nodup:=by simpa using nd
  by_cases e:j=k
  ·subst e
   have e2:b=a:=by
    have h1:keyOf j=some b:=h1
    rw[hk] at h1;cases h1;rfl
   subst e2
   have hn:t.map (fun kv=>if kv.1=b then (kv.1,v) else kv)=t:=by
    have:∀ kv∈t,(fun kv:Key × V=>if kv.1=b then (kv.1,v) else kv) kv=kv:=fun kv hkv=>if_neg fun z=>nd'.1 (List.mem_map.mpr ⟨kv,hkv,z⟩)
    exact PySem.map_eq_self this
   have:putK ((b,u)::t) b v=(b,v)::t:=by
    unfold putK
    rw[if_pos (by simp)]
    simp[hn]
   rw[this]
   simp only[dput,if_true]
   exact⟨b,v,t,rfl,h1,hx,h3⟩
  ·have ne:¬ b=a:=fun z=>by
    subst z
    exact e (keyOf_inj h1 hk)
   have:putK ((b,u)::t) a v=(b,u)::putK t a v:=by
    unfold putK
    simp only[List.any_cons,ne,decide_false,Bool.false_or]
    split
    ·simp[ne]
    ·rfl
   rw[this]
   simp only[dput,e,if_false]
   exact⟨b,u,putK t a v,rfl,h1,h2,ih h3 nd'.2⟩
noncomputable def rEqD(neg:Bool):R2:=fun x y H Q=>∃ a b xs ys vs ws,x = .ref a/\y = .ref b/\Rd H a (.dK vs)/\Rd H b (.dK ws)/\RKs H xs vs/\RKs H ys ws/\(xs.all fun p=>shal p.2)=true/\Q (.bl (if neg then !dictEq xs ys else dictEq xs ys)) H
theorem keq_hits(I:Inv X pins σ H s){A:Around}(hu:A.units+160<cLine){ys:List (G × G)}{ws:List (Key × V)}{zs:List (Key × Value)}(hy:RKs H ys ws)(kz:KV ws zs) :
 ∀ {xs:List (G × G)} {vs:List (Key × V)} {us:List (Key × Value)},RKs H xs vs->KV vs us->(xs.all fun p=>shal p.2)=true->PySem.W.KeqHits A s zs us (xs.all fun p=>match dget ys p.1 with|some v=>peq p.2 v|none=>false)
 | [],_,_,h,k,_=>by cases h;cases k;exact .nil
 |p::r,_,_,h,k,hs=>by
  obtain⟨j,x⟩:=p
  obtain⟨b,v,t,rfl,h1,h2,h3⟩:=h
  simp only[List.all_cons,Bool.and_eq_true] at hs
  cases k with
  | @cons _ q _ us' kq kr =>
   obtain⟨b',u⟩:=q
   obtain⟨e1,e2⟩:=kq
   simp only at e1 e2
   subst e1
   have ih:=keq_hits I hu hy kz h3 kr hs.2
   have hv:=hy.val (k:=j) h1
   cases e:dget ys j with
   |none =>
    have hn:valueAt zs b=none:=RelO.none_of (by rw[← hv.1 e];exact kz.val b)
    simp only[List.all_cons,e,Bool.false_and]
    exact .miss hn
   |some y =>
    obtain⟨w',hw,hyw⟩:=hv.2 y e
    obtain⟨z,ez,rz⟩:=RelO.some_of (by rw[← hw];exact kz.val b)
    simp only[List.all_cons,e]
    exact .hit ez (RG.eqAt I hu h2 hyw hs.1 e2 rz) ih
theorem kv_len{vs:List (Key × V)}{us:List (Key × Value)}(k:KV vs us):us.length=vs.length:=(Paired.length k).symm
theorem op_eqD(hu:X.A.units+170<cLine):OpR X (compareOp .Eq) (rEqD false):=by
 intro pins s σ H x y v u Q I rx ry h
 obtain⟨a,b,xs,ys,vs,ws,rfl,rfl,ha,hb,hx,hy,hs,q⟩:=h
 cases rx
 cases ry
 obtain⟨_,sa,us,ku,da⟩:=dk_rd I.hok ha
 obtain⟨_,sb,zs,kz,db⟩:=dk_rd I.hok hb
 refine PySem.W.keq_eq sa sb da db (by omega) (fun _=>keq_hits I (by show X.A.units+1+160<cLine;omega) hy kz hx ku hs) ?_
 rw[kv_len ku,kv_len kz,hx.length,hy.length]
 exact⟨.bl _,H,I,rfl,q⟩
theorem op_neD(hu:X.A.units+170<cLine):OpR X (compareOp .NotEq) (rEqD true):=by
 intro pins s σ H x y v u Q I rx ry h
 obtain⟨a,b,xs,ys,vs,ws,rfl,rfl,ha,hb,hx,hy,hs,q⟩:=h
 cases rx
 cases ry
 obtain⟨_,sa,us,ku,da⟩:=dk_rd I.hok ha
 obtain⟨_,sb,zs,kz,db⟩:=dk_rd I.hok hb
 refine PySem.W.keq_ne sa sb da db (by omega) (fun _=>keq_hits I (by show X.A.units+1+160<cLine;omega) hy kz hx ku hs) ?_
 rw[kv_len ku,kv_len kz,hx.length,hy.length]
 exact⟨.bl _,H,I,rfl,q⟩
mutual
theorem peq_refl:∀ x:G,peq x x=true
 | .non=>rfl
 | .bl _=>by simp[peq]
 | .int _=>by simp[peq]
 | .str _=>by simp[peq]
 | .tup xs=>by simp[peq,peqs_refl xs]
theorem peqs_refl:∀ xs:List G,peqs xs xs=true
 | []=>rfl
 |x::r=>by simp[peqs,peq_refl x,peqs_refl r]
end
mutual
theorem RG.inj{H:Hp}:∀ {x y:G} {v:V},RG H x v->RG H y v->x=y
 | .non,y,_,h,k=>by
  cases h
  cases y with
  |non=>cases k;rfl
  |bl _=>cases k
  |int _=>cases k
  |str _=>obtain⟨e,_⟩:=k;cases e
  |tup _=>obtain⟨_,_,e,_⟩:=k;cases e
 | .bl _,y,_,h,k=>by
  cases h
  cases y with
  |non=>cases k
  |bl _=>cases k;rfl
  |int _=>cases k
  |str _=>obtain⟨e,_⟩:=k;cases e
  |tup _=>obtain⟨_,_,e,_⟩:=k;cases e
 | .int _,y,_,h,k=>by
  cases h
  cases y with
  |non=>cases k
  |bl _=>cases k
  |int _=>cases k;rfl
  |str _=>obtain⟨e,_⟩:=k;cases e
  |tup _=>obtain⟨_,_,e,_⟩:=k;cases e
 | .str x,y,_,h,k=>by
  obtain⟨rfl,_⟩:=h
  cases y with
  |str z=>rw[sOf_inj (V.str.inj k.1)]
  |tup z=>obtain⟨_,_,e,_⟩:=k;cases e
  |non=>cases k
  |bl _=>cases k
  |int _=>cases k
 | .tup xs,y,_,h,k=>by
  obtain⟨a,vs,rfl,ha,hs⟩:=h
  cases y with
  |tup z =>
   obtain⟨b,ws,e,hb,hz⟩:=k
   cases e
   rw[ha] at hb
   cases hb
   rw[RGs.inj hs hz]
  |str z=>obtain⟨e,_⟩:=k;cases e
  |non=>cases k
  |bl _=>cases k
  |int _=>cases k
theorem RGs.inj{H:Hp}:∀ {xs ys:List G} {vs:List V},RGs H xs vs->RGs H ys vs->xs=ys
 | [],ys,_,h,k=>by
  cases h
  cases ys with
  |nil=>rfl
  |cons y t=>obtain⟨_,_,e,_⟩:=k;cases e
 |x::r,ys,_,h,k=>by
  obtain⟨v,vs,rfl,h1,h2⟩:=h
  cases ys with
  |nil=>cases k
  |cons y t =>
   obtain⟨_,_,e,k1,k2⟩:=k
   cases e
   rw[RG.inj h1 k1,RGs.inj h2 k2]
end
theorem RKs.inj{H:Hp}:∀ {xs ys:List (G × G)} {vs:List (Key × V)},RKs H xs vs->RKs H ys vs->xs=ys
 | [],ys,_,h,k=>by
  cases h
  cases ys with
  |nil=>rfl
  |cons y t=>obtain⟨_,_,_,e,_⟩:=k;cases e
 | (a,x)::r,ys,_,h,k=>by
  obtain⟨b,v,vs,rfl,h1,h2,h3⟩:=h
  cases ys with
  |nil=>cases k
  |cons y t =>
   obtain⟨c,y⟩:=y
   obtain⟨_,_,_,e,k1,k2,k3⟩:=k
   cases e
   have e1:a=c:=keyOf_inj h1 k1
   have e2:x=y:=RG.inj h2 k2
   rw[e1,e2,RKs.inj h3 k3]
theorem RKs.keys{H:Hp}{xs:List (G × G)}{vs:List (Key × V)}(h:RKs H xs vs)(nd:(vs.map (·.1)).Nodup):(xs.map (·.1)).Nodup:=by
 induction xs generalizing vs with
 |nil=>simp
 |cons p r ih =>
  obtain⟨a,x⟩:=p
  obtain⟨b,v,t,rfl,h1,h2,h3⟩:=h
  simp only[List.map_cons,List.nodup_cons] at nd ⊢
  refine⟨fun hm=>nd.1 ?_,ih h3 nd.2⟩
  clear ih nd
  induction r generalizing t with
  |nil=>simp at hm
  |cons q r ih =>
   obtain⟨c,y⟩:=q
   obtain⟨d,w,t',rfl,k1,k2,k3⟩:=h3
   simp only[List.map_cons,List.mem_cons] at hm ⊢
   rcases hm with rfl|hm
   ·left
    have h1:keyOf a=some b:=h1
    have k1:keyOf a=some d:=k1
    rw[h1] at k1
    exact Option.some.inj k1
   ·right
    exact ih t' k3 hm
theorem dictEq_refl{xs:List (G × G)}(nd:(xs.map (·.1)).Nodup):dictEq xs xs=true:=by
 simp only[dictEq,beq_self_eq_true,Bool.true_and,List.all_eq_true]
 intro p hp
 have:dget xs p.1=some p.2:=by
  induction xs with
  |nil=>simp at hp
  |cons q r ih =>
   obtain⟨k,v⟩:=q
   simp only[List.map_cons,List.nodup_cons] at nd
   rcases List.mem_cons.mp hp with rfl|hp
   ·simp[dget]
   ·have:k≠p.1:=fun z=>nd.1 (List.mem_map.mpr ⟨p,hp,z.symm⟩)
    simp only[dget,this,if_false]
    exact ih nd.2 hp
 rw[this]
 exact peq_refl _
theorem dk_nodupR{P:Program}{w:World}{h:Heap}{a:Addr}{ws:List (Key × V)}(ok:HOk P w H h)(e:Rd H a (.dK ws)):(ws.map (·.1)).Nodup:=by
 obtain⟨_,_,vs,rel,o,es,ep,_,_,_,_,hp,hn⟩:=dk_rd ok e
 have go:∀ {ws:List (Key × V)} {vs:List (Key × Value)},KV ws vs->ws.map (·.1)=vs.map (·.1):=fun {ws vs} rel=>by
  unfold KV at rel
  induction rel with
  |nil=>rfl
  |cons h1 _ ih=>simp only[List.map_cons,h1.1,ih]
 rw[go rel]
 exact hn
end
end SN
namespace SN
open PySem PySem.Spec PyProof.Rows L2 MP
variable [Wd]
section
variable {X:Cx}{pins:List (Addr × Obj)}{σ:L2.St}{H:Hp}{s:Shared}
theorem keyIs_inj{v:Value}{a b:Key}(ha:keyIs a v=true)(hb:keyIs b v=true):a=b:=by
 rcases keyIs_shape ha with⟨i,t,rfl,rfl⟩ | ⟨x,t,rfl,rfl⟩
 ·rcases keyIs_shape hb with⟨j,u,rfl,e⟩ | ⟨y,u,rfl,e⟩
  ·injection e with e1 _;rw[e1]
  ·exact nomatch e
 ·rcases keyIs_shape hb with⟨j,u,rfl,e⟩ | ⟨y,u,rfl,e⟩
  ·exact nomatch e
  ·injection e with e1 _;rw[e1]
theorem pairs_any{P P':Program}{w w':World}:∀ {es:List DictEntry} {kvs:List (Key × Value)},Pairs (mixKind P w) es kvs->Pairs (mixKind P' w') es kvs
 |_,_,.nil=>.nil
 |_,_,.cons h1 h2 h3=>.cons h1 h2 (pairs_any h3)
theorem pairs_key{P:Program}{w:World}:∀ {es:List DictEntry} {kvs:List (Key × Value)},Pairs (mixKind P w) es kvs->(∀ kv∈kvs,∃ i,kv.1 = .inl i)->∀ e∈es,∃ i,keyIs (.inl i) e.key=true
 |_,_,.nil,_,e,h=>by cases h
 |_,_,.cons h1 h2 h3,hi,e,h=>by
  rcases List.mem_cons.mp h with rfl|h
  ·obtain⟨i,ei⟩:=hi _ List.mem_cons_self
   exact⟨i,by rw[← ei];exact h1⟩
  ·exact pairs_key h3 (fun kv hk=>hi kv (List.mem_cons_of_mem _ hk)) e h
theorem dictOf_any{P P':Program}{w w':World}{h:Heap}{a:Addr}{kvs:List (Key × Value)}(d:h.DictOf (mixKind P w) a kvs)(hi:∀ kv∈kvs,∃ i,kv.1 = .inl i):h.DictOf (mixKind P' w') a kvs:=by
 obtain⟨o,es,ep,ho,hc,hd,hk,hp,hn⟩:=d
 refine⟨o,es,ep,ho,hc,hd,fun e he => ?_,pairs_any hp,hn⟩
 obtain⟨k,h1,h2⟩:=hk e he
 obtain⟨i,h3⟩:=pairs_key hp hi e (by simpa using he)
 have:k = .inl i:=keyIs_inj h1 h3
 subst this
 exact⟨.inl i,h3,h2⟩
theorem ints_of{xs:List (G × G)}{ws:List (Key × V)}(h:RKs H xs ws)(hi:intKeys xs=true):∀ kv∈ws,∃ i,kv.1=Sum.inl i:=by
 induction xs generalizing ws with
 |nil=>cases h;intro kv hk;cases hk
 |cons p r ih =>
  obtain⟨j,x⟩:=p
  obtain⟨b,v,t,rfl,h1,h2,h3⟩:=h
  simp only[intKeys,List.all_cons,Bool.and_eq_true] at hi
  intro kv hk
  rcases List.mem_cons.mp hk with rfl|hk
  ·cases j with
   |int i=>cases h1;exact⟨i,rfl⟩
   |_=>cases hi.1
  ·exact ih h3 hi.2 kv hk
theorem kv_ints{ws:List (Key × V)}{us:List (Key × Value)}(k:KV ws us)(hi:∀ kv∈ws,∃ i,kv.1=Sum.inl i):∀ kv∈us,∃ i,kv.1=Sum.inl i:=by
 intro kv hk
 have:kv.1∈us.map (·.1):=List.mem_map.mpr ⟨kv,hk,rfl⟩
 rw[← k.keys] at this
 obtain⟨q,hq,e⟩:=List.mem_map.mp this
 obtain⟨i,ei⟩:=hi q hq
 exact⟨i,by rw[← e,ei]⟩
noncomputable def DEq(H:Hp)(v w:V)(b:Bool):Prop:=∃ p q xs ys us zs,v = .ref p/\w = .ref q/\Rd H p (.dK us)/\Rd H q (.dK zs)/\RKs H xs us/\RKs H ys zs/\(xs.all fun p=>shal p.2)=true/\intKeys xs=true/\intKeys ys=true/\b=dictEq xs ys
theorem Rd.eq{a:Addr}{u v:HO}(h1:Rd H a u)(h2:Rd H a v)(nu:∀ o x,u ≠ .frz o x)(nv:∀ o x,v ≠ .frz o x):u=v:=by
 rcases h1 with h1 | ⟨o,h1⟩<;>rcases h2 with h2 | ⟨o',h2⟩<;>rw[h1] at h2<;>cases h2
 ·rfl
 ·exact absurd rfl (nu _ _)
 ·exact absurd rfl (nv _ _)
 ·rfl
theorem DEq.at(I:Inv X pins σ H s){A:Around}(hu:A.units+162<cLine){v w:V}{u z:Value}{b:Bool}(h:DEq H v w b)(rv:RelV v u)(rw':RelV w z):SeqAt.EqAt A s u z b:=by
 obtain⟨p,q,xs,ys,us,zs,rfl,rfl,h1,h2,h3,h4,h5,h6,h7,rfl⟩:=h
 cases rv
 cases rw'
 by_cases hpq:p=q
 ·subst hpq
  have e:=Rd.eq h1 h2 (fun _ _ z=>by cases z) (fun _ _ z=>by cases z)
  cases e
  have:=RKs.inj h3 h4
  subst this
  rw[dictEq_refl (RKs.keys h3 (dk_nodupR I.hok h1))]
  exact SeqAt.EqAt.same _
 ·refine SeqAt.EqAt.of_refs hpq fun prog w E Q hq => ?_
  obtain⟨_,sa,ua,ka,da⟩:=dk_rd I.hok h1
  obtain⟨_,sb,ub,kb,db⟩:=dk_rd I.hok h2
  have d1:=dictOf_any (P':=prog) (w':=w) da (kv_ints ka (ints_of h3 h6))
  have d2:=dictOf_any (P':=prog) (w':=w) db (kv_ints kb (ints_of h4 h7))
  refine PySem.W.keq_eq sa sb d1 d2 (by omega) (fun _=>keq_hits I (by show A.units+1+160<cLine;omega) h4 kb h3 ka h5) ?_
  rw[kv_len ka,kv_len kb,h3.length,h4.length]
  exact hq
inductive DEqs (H:Hp):List V->List V->List Bool->Prop where
 |nil:DEqs H [] [] []
 |cons {v w:V} {vs ws:List V} {b:Bool} {bs:List Bool}:DEq H v w b->DEqs H vs ws bs->DEqs H (v::vs) (w::ws) (b::bs)
theorem DEqs.at(I:Inv X pins σ H s){A:Around}(hu:A.units+162<cLine):∀ {vs ws:List V} {bs:List Bool} {us zs:List Value},DEqs H vs ws bs->Vals vs us->Vals ws zs →
 us.length=bs.length/\zs.length=bs.length/\∀ j (h1:j<us.length) (h2:j<zs.length),SeqAt.EqAt A s us[j] zs[j] (bs.getD j true)
 |_,_,_,_,_,.nil,.nil,.nil=>⟨rfl,rfl,fun j h1=>absurd h1 (Nat.not_lt_zero _)⟩
 |_,_,_,_,_,.cons d t,.cons r1 t1,.cons r2 t2=>by
  obtain⟨l1,l2,q⟩:=DEqs.at I hu t t1 t2
  refine⟨by simp[l1],by simp[l2],fun j h1 h2 => ?_⟩
  cases j with
  |zero=>exact d.at I hu r1 r2
  |succ j=>exact q j (by simpa using h1) (by simpa using h2)
end
end SN
namespace SN
open PySem PySem.Spec PyProof.Rows L2 MP
variable [Wd]
theorem at_atI{α:Type}(xs:List α)(i:Int):at? xs i=atI xs i:=rfl
theorem big_le:big<=sizeLine:=by rw[sizeLine_eq];decide
theorem thousand_le{n:Nat}(h:n<=1000):n<=sizeLine:=Nat.le_trans h (by rw[sizeLine_eq];decide)
theorem RGs.atI{H:Hp}{xs:List G}{vs:List V}{i:Int}{x:G}(h:RGs H xs vs)(e:L2.atI xs i=some x):∃ v,L2.atI vs i=some v/\RG H x v:=by
 unfold L2.atI at e ⊢
 rw[h.length]
 cases q:ixN xs.length i with
 |none=>rw[q] at e;cases e
 |some j =>
  rw[q] at e
  exact h.get e
theorem RRs.atI{H:Hp}{ρ:Nat->Addr}{n:Nat}{xs:List R}{vs:List V}{i:Int}{x:R}(h:RRs H ρ n xs vs)(e:L2.atI xs i=some x):∃ v,L2.atI vs i=some v/\RR H ρ n x v:=by
 unfold L2.atI at e ⊢
 rw[h.length]
 cases q:ixN xs.length i with
 |none=>rw[q] at e;cases e
 |some j =>
  rw[q] at e
  exact h.get e
theorem Fin.same{ρ:Nat->Addr}{σ:Store}{H:Hp}{r:R}{Q:VK}{v:V}(f:Fin ρ σ.length H r σ Q)(S:SR H ρ σ)(h:RR H ρ σ.length r v):Q v H:=f ρ v H (Ext.refl _ _ _) S h
theorem Fin.new{ρ:Nat->Addr}{σ:Store}{H:Hp}{Q:VK}{c:Cell}{o:HO}{p:Addr}(f:Fin ρ σ.length H (.ref σ.length) (σ++[c]) Q)(S:SR H ρ σ)(hp:H p=none)(ht:∀ vs,o ≠ .tup vs)
 (hc:∀ H' ρ',TPk H H'->H' p=some o->ρ' σ.length=p->(∀ i,i<σ.length->ρ' i=ρ i)->RC H' ρ' σ.length c):Q (.ref p) (upd H p o):=by
 obtain⟨ρ',e1,e2,e3⟩:=S.push hp ht hc
 exact f ρ' (.ref p) _ e1 e2 ⟨by simp,by rw[e3]⟩
section
variable {X:Cx}
noncomputable def Ok2(p:Prim)(rr:R2):Prop:=∀ (ρ:Nat->Addr) (σ:Store) (H:Hp) (x y:R) (vx vy:V) (r:R) (σ':Store) (Q:VK),SR H ρ σ->RR H ρ σ.length x vx->RR H ρ σ.length y vy->prim p [x,y] σ = .ok r σ'->Fin ρ σ.length H r σ' Q->rr vx vy H Q
noncomputable def OkN(p:Prim)(rr:List V->Hp->VK->Prop):Prop:=∀ (ρ:Nat->Addr) (σ:Store) (H:Hp) (xs:List R) (vs:List V) (r:R) (σ':Store) (Q:VK),SR H ρ σ->RRs H ρ σ.length xs vs->prim p xs σ = .ok r σ'->Fin ρ σ.length H r σ' Q->rr vs H Q
theorem two_int{p:Prim}{f:List R->Store->Res R}(hp:prim p=f){rr:R2}(h:∀ (ρ:Nat->Addr) (σ:Store) (H:Hp) (i j:Int) (r:R) (σ':Store) (Q:VK),SR H ρ σ->f [.g (.int i),.g (.int j)] σ = .ok r σ'->Fin ρ σ.length H r σ' Q->rr (.int i) (.int j) H Q)
 (hs:∀ x y σ,(∀ i j,x=R.g (.int i)->y=R.g (.int j)->False)->f [x,y] σ = .stuck):Ok2 p rr:=by
 intro ρ σ H x y vx vy r σ' Q S hx hy e q
 rw[hp] at e
 by_cases hi:∃ i j,x=R.g (.int i)/\y=R.g (.int j)
 ·obtain⟨i,j,rfl,rfl⟩:=hi
  cases(show vx = .int i from hx)
  cases(show vy = .int j from hy)
  exact h ρ σ H i j r σ' Q S e q
 ·rw[hs x y σ fun i j a b=>hi ⟨i,j,a,b⟩] at e
  cases e
theorem ok_sub:Ok2 .sub (rI0 fun i j=>.int (i-j)):=two_int (f:=pSub) rfl (fun ρ σ H i j r σ' Q S e q=>by cases e;exact⟨i,j,rfl,rfl,q.same S rfl⟩) (fun x y σ h=>by
 unfold pSub;split
 ·rename_i e;simp at e;exact(h _ _ e.1 e.2).elim
 ·rfl)
theorem ok_lt:Ok2 .lt (rI0 fun i j=>.bl (decide (i<j))):=two_int (f:=pLt) rfl (fun ρ σ H i j r σ' Q S e q=>by cases e;exact⟨i,j,rfl,rfl,q.same S rfl⟩) (fun x y σ h=>by
 unfold pLt;split
 ·rename_i e;simp at e;exact(h _ _ e.1 e.2).elim
 ·rfl)
theorem ok_le:Ok2 .le (rI0 fun i j=>.bl (decide (i<=j))):=two_int (f:=pLe) rfl (fun ρ σ H i j r σ' Q S e q=>by cases e;exact⟨i,j,rfl,rfl,q.same S rfl⟩) (fun x y σ h=>by
 unfold pLe;split
 ·rename_i e;simp at e;exact(h _ _ e.1 e.2).elim
 ·rfl)
theorem ok_gt:Ok2 .gt (rI0 fun i j=>.bl (decide (j<i))):=two_int (f:=pGt) rfl (fun ρ σ H i j r σ' Q S e q=>by cases e;exact⟨i,j,rfl,rfl,q.same S rfl⟩) (fun x y σ h=>by
 unfold pGt;split
 ·rename_i e;simp at e;exact(h _ _ e.1 e.2).elim
 ·rfl)
theorem ok_ge:Ok2 .ge (rI0 fun i j=>.bl (decide (j<=i))):=two_int (f:=pGe) rfl (fun ρ σ H i j r σ' Q S e q=>by cases e;exact⟨i,j,rfl,rfl,q.same S rfl⟩) (fun x y σ h=>by
 unfold pGe;split
 ·rename_i e;simp at e;exact(h _ _ e.1 e.2).elim
 ·rfl)
theorem ok_mul:Ok2 .mul (rI CMul fun i j=>.int (i*j)):=two_int (f:=pMul) rfl (fun ρ σ H i j r σ' Q S e q=>by
 unfold pMul at e
 simp only at e
 split at e
 ·rename_i c;cases e;exact⟨i,j,rfl,rfl,c,q.same S rfl⟩
 ·cases e) (fun x y σ h=>by
 unfold pMul;split
 ·rename_i e;simp at e;exact(h _ _ e.1 e.2).elim
 ·rfl)
theorem ok_fdiv:Ok2 .fdiv (rI CDiv fun i j=>.int (i / j)):=two_int (f:=pFdiv) rfl (fun ρ σ H i j r σ' Q S e q=>by
 unfold pFdiv at e
 simp only at e
 split at e
 ·rename_i c;cases e;exact⟨i,j,rfl,rfl,c,q.same S rfl⟩
 ·cases e) (fun x y σ h=>by
 unfold pFdiv;split
 ·rename_i e;simp at e;exact(h _ _ e.1 e.2).elim
 ·rfl)
theorem ok_mod:Ok2 .mod (rI (fun _ j=>0<j) fun i j=>.int (i % j)):=two_int (f:=pMod) rfl (fun ρ σ H i j r σ' Q S e q=>by
 unfold pMod at e
 simp only at e
 split at e
 ·rename_i c;cases e;exact⟨i,j,rfl,rfl,c,q.same S rfl⟩
 ·cases e) (fun x y σ h=>by
 unfold pMod;split
 ·rename_i e;simp at e;exact(h _ _ e.1 e.2).elim
 ·rfl)
noncomputable def rAddS:R2:=fun x y H Q=>∃ i j,x = .str i/\y = .str j/\i.length+j.length<=sizeLine/\Q (.str (i++j)) H
noncomputable def rCatT0(K:PySem.W.Frag):R2:=fun x y H Q=>∃ a b ys,x = .ref a/\y = .ref b/\SqT K H a []/\SqT K H b ys/\Q (.ref b) H
theorem op_catT0:OpR X (binaryOp .Add) (rCatT0 X.K):=by
 intro pins s σ H x y v u Q I rx ry h
 obtain⟨a,b,ys,rfl,rfl,ha,hb,q⟩:=h
 cases rx
 cases ry
 obtain⟨its,r1,p1,_⟩:=I.tuple ha
 obtain⟨its2,r2,p2,_⟩:=I.tuple hb
 cases r1
 obtain⟨⟨c1,d1,da1,sl1⟩,ho1,hc1,n1,hd1⟩:=id p1
 obtain⟨⟨c2,d2,da2,sl2⟩,ho2,hc2,n2,hd2⟩:=id p2
 simp only at hc1 hd1 hc2 hd2
 subst hc1 hd1 hc2 hd2
 exact concat_meets ⟨_,ho1,rfl⟩ ⟨_,ho2,rfl⟩ noFill_tuple_add seq_tuple_add PySem.F.slot_tuple_add PySem.F.entry_tuple_add (PySem.F.args_tuple_add_2 _ _)
  (tuple_addW0 a b _ _ n1 n2 d1 d2 sl1 sl2 (by rfl)) ⟨ho1,ho2,⟨.ref b,H,I,rfl,q⟩⟩
noncomputable def rAddAll(K:PySem.W.Frag):R2:=fun x y H Q=>(rI0 fun i j=>.int (i+j)) x y H Q\/rAddS x y H Q\/rCatT K x y H Q\/rCat x y H Q\/rCatT0 K x y H Q
theorem op_addAll:OpR X (binaryOp .Add) (rAddAll X.K):=op_add.or (op_add_str.or (op_catT.or (op_cat.or op_catT0)))
theorem sOf_app(xs ys:List Nat):sOf xs++sOf ys=sOf (xs++ys):=by
 unfold sOf
 show(⟨_++_⟩:Str)=_
 simp
theorem ok_add{K:PySem.W.Frag}:Ok2 .add (rAddAll K):=by
 intro ρ σ H x y vx vy r σ' Q S hx hy e q
 change pAdd [x,y] σ=_ at e
 cases x with
 |tr _=>simp[pAdd] at e
 |ref i =>
  cases y with
  |tr _=>simp[pAdd] at e
  |g _=>simp[pAdd] at e
  |ref j =>
   simp only[pAdd] at e
   split at e
   ·rename_i xs ys e1 e2
    split at e
    ·rename_i hl
     cases e
     obtain⟨hi,rfl⟩:=hx
     obtain⟨hj,rfl⟩:=hy
     obtain⟨vs,h1,h2⟩:=S.cell i _ e1
     obtain⟨ws,h3,h4⟩:=S.cell j _ e2
     refine .inr (.inr (.inr (.inl ⟨_,_,vs,ws,rfl,rfl,h1,h3,by rw[h2.length,h4.length];exact Nat.le_trans hl big_le,fun p hp => ?_⟩)))
     exact q.new S hp (fun _ z=>by cases z) fun H' ρ' tp e ep _=>⟨_,by rw[ep];exact e,(RGs.mono tp _ h2).append (RGs.mono tp _ h4)⟩
    ·cases e
   ·cases e
 |g gx =>
  cases y with
  |tr _=>cases gx<;>simp[pAdd] at e
  |ref _=>cases gx<;>simp[pAdd] at e
  |g gy =>
   cases gx with
   |non=>simp[pAdd] at e
   |bl _=>simp[pAdd] at e
   |int i =>
    cases gy with
    |int j =>
     cases e
     cases(show vx = .int _ from hx)
     cases(show vy = .int _ from hy)
     exact .inl ⟨_,_,rfl,rfl,q.same S rfl⟩
    |_=>simp[pAdd] at e
   |str xs =>
    cases gy with
    |str ys =>
     simp only[pAdd] at e
     split at e
     ·rename_i hl
      cases e
      obtain⟨rfl,h1⟩:=hx
      obtain⟨rfl,h2⟩:=hy
      refine .inr (.inl ⟨_,_,rfl,rfl,by rw[sOf_len,sOf_len];exact Nat.le_trans hl big_le,?_⟩)
      rw[sOf_app]
      exact q.same S ⟨rfl,okS_of (by rw[List.length_append];exact Nat.le_trans hl (by decide)) (by rw[List.all_append,okS_all h1,okS_all h2];rfl)⟩
     ·cases e
    |_=>simp[pAdd] at e
   |tup xs =>
    cases gy with
    |tup ys =>
     simp only[pAdd] at e
     split at e
     ·rename_i hl
      cases e
      obtain⟨a,vs,rfl,ha,h1⟩:=hx
      obtain⟨b,ws,rfl,hb,h2⟩:=hy
      have l1:=h1.length
      have l2:=h2.length
      by_cases he:vs=[]
      ·subst he
       have:xs=[]:=List.length_eq_zero_iff.mp (by simpa using l1.symm)
       subst this
       exact .inr (.inr (.inr (.inr ⟨a,b,ws,rfl,rfl,.of ha,.of hb,q.same S ⟨b,ws,rfl,hb,h2⟩⟩)))
      refine .inr (.inr (.inl ⟨a,b,vs,ws,rfl,rfl,.of ha,.of hb,he,by rw[l1,l2];exact Nat.le_trans hl big_le,fun z => ?_,fun z p hp => ?_⟩))
      ·subst z
       have:ys=[]:=List.length_eq_zero_iff.mp (by simpa using l2.symm)
       subst this
       rw[List.append_nil] at q
       exact q.same S ⟨a,vs,rfl,ha,h1⟩
      ·obtain⟨e1,e2,tp⟩:=S.tup hp (.tup (vs++ws))
       exact q ρ (.ref p) _ e1 e2 ⟨p,vs++ws,rfl,upd_same,(RGs.mono tp _ h1).append (RGs.mono tp _ h2)⟩
     ·cases e
    |_=>simp[pAdd] at e
noncomputable def rEqAll(neg:Bool):R2:=fun x y H Q=>rEqG neg x y H Q\/rEqL neg x y H Q\/rEqD neg x y H Q
theorem op_eqAll(hu:X.A.units+170<cLine):OpR X (compareOp .Eq) (rEqAll false):=(op_eqG (by omega)).or ((op_eqL (by omega)).or (op_eqD hu))
theorem op_neAll(hu:X.A.units+170<cLine):OpR X (compareOp .NotEq) (rEqAll true):=(op_neG (by omega)).or ((op_neL (by omega)).or (op_neD hu))
theorem SR.lst{H:Hp}{ρ:Nat->Addr}{σ:Store}(S:SR H ρ σ){k:Nat}{xs:List G}(e:σ[k]?=some (.lst xs)):RC H ρ k (.lst xs):=S.cell k _ e
theorem SR.rdl{H:Hp}{ρ:Nat->Addr}{σ:Store}(S:SR H ρ σ){k:Nat}{xs:List G}(e:σ[k]?=some (.rdl xs)):RC H ρ k (.rdl xs):=S.cell k _ e
theorem SR.rls{H:Hp}{ρ:Nat->Addr}{σ:Store}(S:SR H ρ σ){k:Nat}{xs:List R}(e:σ[k]?=some (.rls xs)):RC H ρ k (.rls xs):=S.cell k _ e
theorem SR.dct{H:Hp}{ρ:Nat->Addr}{σ:Store}(S:SR H ρ σ){k:Nat}{xs:List (G × G)}(e:σ[k]?=some (.dct xs)):∃ ws,H (ρ k)=some (.dK ws)/\RKs H xs ws:=let ⟨ws,h1,h2,_⟩:=S.cell k _ e;⟨ws,h1,h2⟩
theorem SR.dctN{H:Hp}{ρ:Nat->Addr}{σ:Store}(S:SR H ρ σ){k:Nat}{xs:List (G × G)}(e:σ[k]?=some (.dct xs)):RC H ρ k (.dct xs):=S.cell k _ e
theorem SR.rdd{H:Hp}{ρ:Nat->Addr}{σ:Store}(S:SR H ρ σ){k:Nat}{xs:List (G × G)}(e:σ[k]?=some (.rdd xs)):∃ ws o,H (ρ k)=some (.frz o (.dK ws))/\RKs H xs ws:=let ⟨ws,o,h1,h2,_⟩:=S.cell k _ e;⟨ws,o,h1,h2⟩
theorem SR.dR{H:Hp}{ρ:Nat->Addr}{σ:Store}(S:SR H ρ σ){k:Nat}{xs:List (G × G)}(e:σ[k]?=some (.dct xs)\/σ[k]?=some (.rdd xs)):∃ ws,Rd H (ρ k) (.dK ws)/\RKs H xs ws:=by
 rcases e with e|e
 ·obtain⟨ws,h1,h2⟩:=S.dct e
  exact⟨ws,.inl h1,h2⟩
 ·obtain⟨ws,o,h1,h2⟩:=S.rdd e
  exact⟨ws,.inr ⟨o,h1⟩,h2⟩
theorem SR.lR{H:Hp}{ρ:Nat->Addr}{σ:Store}(S:SR H ρ σ){k:Nat}{xs:List G}(e:σ[k]?=some (.lst xs)\/σ[k]?=some (.rdl xs)):RC H ρ k (.rdl xs):=by
 rcases e with e|e
 ·obtain⟨ws,h1,h2⟩:=S.lst e
  exact⟨ws,.inl h1,h2⟩
 ·exact S.rdl e
theorem cellEq_inv{c d:Cell}{b:Bool}(h:cellEq c d=some b) :
 (∃ xs ys,(c = .lst xs\/c = .rdl xs)/\(d = .lst ys\/d = .rdl ys)/\xs.all shal=true/\b=peqs xs ys) ∨
 (∃ xs ys,(c = .dct xs\/c = .rdd xs)/\(d = .dct ys\/d = .rdd ys)/\(xs.all fun p=>shal p.2)=true/\b=dictEq xs ys):=by
 cases c<;>cases d<;>simp only[cellEq] at h<;>first
  | (cases h;done)
  | (split at h
     ·rename_i c1
      cases h
      first
       |exact .inl ⟨_,_,by simp,by simp,c1,rfl⟩
       |exact .inr ⟨_,_,by simp,by simp,c1,rfl⟩
     ·cases h)
theorem reqv_ok{ρ:Nat->Addr}{σ:Store}{H:Hp}{x y:R}{vx vy:V}{b:Bool}{neg:Bool}{Q:VK}(S:SR H ρ σ)(hx:RR H ρ σ.length x vx)(hy:RR H ρ σ.length y vy)(e:reqv σ x y=some b)
 (q:Q (.bl (if neg then !b else b)) H):rEqAll neg vx vy H Q:=by
 cases x with
 |tr _=>simp[reqv] at e
 |g gx =>
  cases y with
  |tr _=>simp[reqv] at e
  |ref _=>simp[reqv] at e
  |g gy =>
   simp only[reqv] at e
   split at e
   ·rename_i c
    cases e
    exact .inl ⟨gx,gy,hx,hy,c,q⟩
   ·cases e
 |ref i =>
  cases y with
  |tr _=>simp[reqv] at e
  |g _=>simp[reqv] at e
  |ref j =>
   obtain⟨hi,rfl⟩:=hx
   obtain⟨hj,rfl⟩:=hy
   simp only[reqv] at e
   split at e
   ·rename_i c d e1 e2
    split at e
    ·rename_i b' ec
     cases e
     rcases cellEq_inv ec with⟨xs,ys,hc,hd,hs,rfl⟩ | ⟨xs,ys,hc,hd,hs,rfl⟩
     ·obtain⟨vs,h1,h2⟩:=S.lR (k:=i) (xs:=xs) (by rcases hc with z|z<;>subst z<;>first|exact .inl e1|exact .inr e1)
      obtain⟨ws,h3,h4⟩:=S.lR (k:=j) (xs:=ys) (by rcases hd with z|z<;>subst z<;>first|exact .inl e2|exact .inr e2)
      exact .inr (.inl ⟨_,_,xs,ys,vs,ws,rfl,rfl,h1,h3,h2,h4,hs,q⟩)
     ·obtain⟨vs,h1,h2⟩:=S.dR (k:=i) (xs:=xs) (by rcases hc with z|z<;>subst z<;>first|exact .inl e1|exact .inr e1)
      obtain⟨ws,h3,h4⟩:=S.dR (k:=j) (xs:=ys) (by rcases hd with z|z<;>subst z<;>first|exact .inl e2|exact .inr e2)
      exact .inr (.inr ⟨_,_,xs,ys,vs,ws,rfl,rfl,h1,h3,h2,h4,hs,q⟩)
    ·cases e
   ·cases e
end
end SN
namespace SN
open PySem PySem.Spec PyProof.Rows L2 MP
variable [Wd]
noncomputable abbrev E1(cl:CallH)(t:MP.Tm):TE:=TEv (ev cl false t)
noncomputable abbrev T1(cl:CallH)(t:MP.Tm):TT:=TTv (ev cl true t)
noncomputable abbrev A1(cl:CallH)(as:Tms):TA:=TAv (evs cl as)
theorem truR_f_inv{r r':R}{σ σ':Store}(h:truR false r σ = .ok r' σ'):r=r'/\σ=σ':=by cases h;exact⟨rfl,rfl⟩
theorem op_inv{cl:CallH}{p:Prim}{as:Tms}{ε:MP.Env}{σ σ':Store}{r:R}(h:ev cl false (.op p as) ε σ = .ok r σ'):∃ xs σ1,evs cl as ε σ = .ok xs σ1/\prim p xs σ1 = .ok r σ':=by
 rw[ev] at h
 obtain⟨xs,σ1,e1,h⟩:=bind_inv h
 obtain⟨r',σ2,e2,h⟩:=bind_inv h
 obtain⟨rfl,rfl⟩:=truR_f_inv h
 exact⟨xs,σ1,e1,e2⟩
theorem call_inv{cl:CallH}{f:String}{as:Tms}{ε:MP.Env}{σ σ':Store}{r:R}(h:ev cl false (.call f as) ε σ = .ok r σ'):∃ xs σ1,evs cl as ε σ = .ok xs σ1/\cl f xs σ1 = .ok r σ':=by
 rw[ev] at h
 obtain⟨xs,σ1,e1,h⟩:=bind_inv h
 obtain⟨r',σ2,e2,h⟩:=bind_inv h
 obtain⟨rfl,rfl⟩:=truR_f_inv h
 exact⟨xs,σ1,e1,e2⟩
theorem meth_inv{cl:CallH}{p:Prim}{a:MP.Tm}{as:Tms}{ε:MP.Env}{σ σ':Store}{r:R}(h:ev cl false (.meth p a as) ε σ = .ok r σ') :
 ∃ x σ1 xs σ2,ev cl false a ε σ = .ok x σ1/\recvOk p x σ1=true/\evs cl as ε σ1 = .ok xs σ2/\prim p (x::xs) σ2 = .ok r σ':=by
 rw[ev] at h
 obtain⟨x,σ1,e1,h⟩:=bind_inv h
 split at h
 ·rename_i hr
  obtain⟨xs,σ2,e2,h⟩:=bind_inv h
  obtain⟨r',σ3,e3,h⟩:=bind_inv h
  obtain⟨rfl,rfl⟩:=truR_f_inv h
  exact⟨x,σ1,xs,σ2,e1,hr,e2,e3⟩
 ·cases h
theorem evs_cons_inv{cl:CallH}{a:MP.Tm}{as:Tms}{ε:MP.Env}{σ σ':Store}{xs:List R}(h:evs cl (.cons a as) ε σ = .ok xs σ'):∃ x ys σ1,ev cl false a ε σ = .ok x σ1/\evs cl as ε σ1 = .ok ys σ'/\xs=x::ys:=by
 rw[evs] at h
 obtain⟨x,σ1,e1,h⟩:=bind_inv h
 obtain⟨ys,σ2,e2,h⟩:=bind_inv h
 cases h
 exact⟨x,ys,σ1,e1,e2,rfl⟩
theorem evs_nil_inv{cl:CallH}{ε:MP.Env}{σ σ':Store}{xs:List R}(h:evs cl .nil ε σ = .ok xs σ'):xs=[]/\σ'=σ:=by
 rw[evs] at h;cases h;exact⟨rfl,rfl⟩
theorem Fin.after{ρ ρ2:Nat->Addr}{n:Nat}{σ2:Store}{H H2:Hp}{r:R}{σ':Store}{Q:VK}(q:Fin ρ n H r σ' Q)(ex:Ext ρ n H ρ2 σ2.length H2)(S:SR H2 ρ2 σ2):Fin ρ2 σ2.length H2 r σ' Q :=
 fun ρ' v H' e S' rr=>q ρ' v H' (ex.trans S e) S' rr
section
variable {cl:CallH}
theorem lift2{a b:MP.Tm}{p:Prim}{rr:R2}(h:Ok2 p rr)(st:L2.St)(H:Hp)(Q:VK)(t:E1 cl (.op p (.cons a (.cons b .nil))) st H Q):tOp rr (E1 cl a) (E1 cl b) st H Q:=by
 obtain⟨ρ,ε,σ,r,σ',hE,hS,e,q⟩:=t
 obtain⟨xs,σ1,e1,e2⟩:=op_inv e
 obtain⟨x,ys,σ2,e3,e4,rfl⟩:=evs_cons_inv e1
 obtain⟨y,zs,σ3,e5,e6,rfl⟩:=evs_cons_inv e4
 obtain⟨rfl,rfl⟩:=evs_nil_inv e6
 refine⟨ρ,ε,σ,x,σ2,hE,hS,e3,fun ρ1 v1 H1 ex1 S1 r1 => ?_⟩
 refine⟨ρ1,ε,σ2,y,σ1,hE.mono hS ex1,S1,e5,fun ρ2 v2 H2 ex2 S2 r2 => ?_⟩
 exact h ρ2 σ1 H2 x y v1 v2 r σ' Q S2 (RR.mono (ex2.tp S1) ex2.le ex2.ag x r1) r2 e2 (q.after (ex1.trans S1 ex2) S2)
theorem liftN{as:Tms}{p:Prim}{rr:List V->Hp->VK->Prop}(h:OkN p rr)(st:L2.St)(H:Hp)(Q:VK)(t:E1 cl (.op p as) st H Q):tCB rr (A1 cl as) st H Q:=by
 obtain⟨ρ,ε,σ,r,σ',hE,hS,e,q⟩:=t
 obtain⟨xs,σ1,e1,e2⟩:=op_inv e
 exact⟨ρ,ε,σ,xs,σ1,hE,hS,e1,fun ρ1 vs H1 ex1 S1 r1=>h ρ1 σ1 H1 xs vs r σ' Q S1 r1 e2 (q.after ex1 S1)⟩
noncomputable def OkM(K:PySem.W.Frag)(T:String)(p:Prim)(rr:V->List V->Hp->VK->Prop):Prop :=
 (∀ (ρ:Nat->Addr) (σ:Store) (H:Hp) (x:R) (v:V),SR H ρ σ->RR H ρ σ.length x v->recvOk p x σ=true->tyV K T v H) ∧
 ∀ (ρ:Nat->Addr) (σ:Store) (H:Hp) (x:R) (xs:List R) (v:V) (vs:List V) (r:R) (σ':Store) (Q:VK),SR H ρ σ->RR H ρ σ.length x v->RRs H ρ σ.length xs vs->prim p (x::xs) σ = .ok r σ'->Fin ρ σ.length H r σ' Q->rr v vs H Q
theorem liftM{K:PySem.W.Frag}{T:String}{a:MP.Tm}{as:Tms}{p:Prim}{rr:V->List V->Hp->VK->Prop}(h:OkM K T p rr)(st:L2.St)(H:Hp)(Q:VK)(t:E1 cl (.meth p a as) st H Q):tBM K T rr (E1 cl a) (A1 cl as) st H Q:=by
 obtain⟨ρ,ε,σ,r,σ',hE,hS,e,q⟩:=t
 obtain⟨x,σ1,xs,σ2,e1,hr,e2,e3⟩:=meth_inv e
 refine⟨ρ,ε,σ,x,σ1,hE,hS,e1,fun ρ1 v1 H1 ex1 S1 r1=>⟨h.1 ρ1 σ1 H1 x v1 S1 r1 hr,?_⟩⟩
 refine⟨ρ1,ε,σ1,xs,σ2,hE.mono hS ex1,S1,e2,fun ρ2 vs H2 ex2 S2 r2 => ?_⟩
 exact h.2 ρ2 σ2 H2 x xs v1 vs r σ' Q S2 (RR.mono (ex2.tp S1) ex2.le ex2.ag x r1) r2 e3 (q.after (ex1.trans S1 ex2) S2)
theorem liftM0{K:PySem.W.Frag}{T:String}{a:MP.Tm}{p:Prim}{rr:V->List V->Hp->VK->Prop}(h:OkM K T p rr)(st:L2.St)(H:Hp)(Q:VK)(t:E1 cl (.meth p a .nil) st H Q):tBM0 K T rr (E1 cl a) st H Q:=by
 obtain⟨ρ,ε,σ,r,σ',hE,hS,e,q⟩:=t
 obtain⟨x,σ1,xs,σ2,e1,hr,e2,e3⟩:=meth_inv e
 obtain⟨rfl,rfl⟩:=evs_nil_inv e2
 exact⟨ρ,ε,σ,x,σ2,hE,hS,e1,fun ρ1 v1 H1 ex1 S1 r1=>⟨h.1 ρ1 σ2 H1 x v1 S1 r1 hr,h.2 ρ1 σ2 H1 x [] v1 [] r σ' Q S1 r1 rfl e3 (q.after ex1 S1)⟩⟩
end
noncomputable def notStar:Expr->Bool
 | .Starred .. => false
 |_=>true
theorem starEach_cons{e:Expr}{es:List Expr}{env:PySem.Env}(h:notStar e=true):starEach (e::es) env=(false,eval e env)::starEach es env:=by
 cases e<;>first|rfl|(simp[notStar] at h)
theorem backTo_plain{pos:Pos}{env:PySem.Env}:∀ {es:List Expr},(es.all notStar)=true->(backTo pos (starEach es env)).any (·.1)=false
 | [],_=>rfl
 |e::es,h=>by
  simp only[List.all_cons,Bool.and_eq_true] at h
  rw[starEach_cons h.1]
  show(false || (backTo pos (starEach es env)).any (·.1))=false
  rw[backTo_plain h.2];rfl
inductive PEl (X:Cx) (cl:CallH):List Expr->Tms->Prop where
 |nil:PEl X cl [] .nil
 |cons {e:Expr} {es:List Expr} {a:MP.Tm} {as:Tms}:notStar e=true->PE X e (E1 cl a)->PEl X cl es as->PEl X cl (e::es) (.cons a as)
theorem PEl.stars{X:Cx}{cl:CallH}{es:List Expr}{as:Tms}(h:PEl X cl es as):es.all notStar=true:=by
 induction h with
 |nil=>rfl
 |cons h1 _ _ ih=>simp[h1,ih]
theorem PEl.pa{X:Cx}{cl:CallH}{es:List Expr}{as:Tms}(h:PEl X cl es as):PA X es (A1 cl as):=by
 induction h with
 |nil =>
  refine PA.imp pa_nil fun st H Q ⟨ρ,ε,σ,rs,σ',hE,hS,e,q⟩ => ?_
  obtain⟨rfl,rfl⟩:=evs_nil_inv e
  exact q ρ [] H (Ext.refl _ _ _) hS rfl
 | @cons e es a as h1 h2 h3 ih =>
  refine PA.imp (pa_cons h2 ih (starEach_cons h1)) fun st H Q ⟨ρ,ε,σ,rs,σ',hE,hS,e,q⟩ => ?_
  obtain⟨x,ys,σ1,e1,e2,rfl⟩:=evs_cons_inv e
  refine⟨ρ,ε,σ,x,σ1,hE,hS,e1,fun ρ1 v1 H1 ex1 S1 r1 => ?_⟩
  refine⟨ρ1,ε,σ1,ys,σ',hE.mono hS ex1,S1,e2,fun ρ2 vs H2 ex2 S2 r2 => ?_⟩
  exact q ρ2 (v1::vs) H2 (ex1.trans S1 ex2) S2 ⟨v1,vs,rfl,RR.mono (ex2.tp S1) ex2.le ex2.ag x r1,r2⟩
end SN
namespace SN
open PySem PySem.Spec PyProof.Rows L2 MP
variable [Wd]
section
variable {X:Cx}
theorem ok_eq:Ok2 .eq (fun x y H Q=>rEqAll false x y H Q):=by
 intro ρ σ H x y vx vy r σ' Q S hx hy e q
 change pEq [x,y] σ=_ at e
 simp only[pEq] at e
 cases c:reqv σ x y with
 |none=>rw[c] at e;cases e
 |some b =>
  rw[c] at e
  cases e
  exact reqv_ok (neg:=false) S hx hy c (q.same S rfl)
theorem ok_ne:Ok2 .ne (fun x y H Q=>rEqAll true x y H Q):=by
 intro ρ σ H x y vx vy r σ' Q S hx hy e q
 change pNe [x,y] σ=_ at e
 simp only[pNe] at e
 cases c:reqv σ x y with
 |none=>rw[c] at e;cases e
 |some b =>
  rw[c] at e
  cases e
  exact reqv_ok (neg:=true) S hx hy c (q.same S rfl)
noncomputable def rInD(neg:Bool):R2:=fun y x H Q=>∃ a o,x = .ref a/\DGet H a y o/\Q (.bl (if neg then !o.isSome else o.isSome)) H
theorem op_inD(hu:X.A.units+1<cLine):OpR X (compareOp .In) (rInD false):=by
 intro pins s σ H y x v u Q I ry rx h
 obtain⟨a,o,rfl,g,q⟩:=h
 cases rx
 exact d_in hu I g ry fun s' I'=>⟨.bl _,H,I',rfl,q⟩
theorem op_notinD(hu:X.A.units+1<cLine):OpR X (compareOp .NotIn) (rInD true):=by
 intro pins s σ H y x v u Q I ry rx h
 obtain⟨a,o,rfl,g,q⟩:=h
 cases rx
 exact d_notIn hu I g ry fun s' I'=>⟨.bl _,H,I',rfl,q⟩
theorem dget_of{H:Hp}{a:Addr}{kvs:List (G × G)}{ws:List (Key × V)}{x:G}{vx:V}(h1:Rd H a (.dK ws))(h2:RKs H kvs ws)(hk:isKey x=true)(hx:RG H x vx) :
 ∃ o,DGet H a vx o/\((dget kvs x=none/\o=none)\/∃ y v,dget kvs x=some y/\o=some v/\RG H y v):=by
 obtain⟨k,ek⟩:=isKey_keyOf hk
 have ev:=keyOf_rep ek hx
 have hv:=h2.val ek
 refine⟨valV ws k,.inl ⟨ws,k,h1,ev,rfl⟩,?_⟩
 cases e:dget kvs x with
 |none=>exact .inl ⟨rfl,hv.1 e⟩
 |some y =>
  obtain⟨v,e1,e2⟩:=hv.2 y e
  exact .inr ⟨y,v,rfl,e1,e2⟩
open Classical in
noncomputable def eqW(H:Hp)(gx:G)(u:Value):Bool:=if h:∃ g v,RelV v u/\RG H g v then peq (Classical.choose h) gx else false
theorem eqW_is{H:Hp}{gx g:G}{v:V}{u:Value}(r:RelV v u)(h:RG H g v):eqW H gx u=peq g gx:=by
 have ex:∃ g v,RelV v u/\RG H g v:=⟨g,v,r,h⟩
 unfold eqW
 rw[dif_pos ex]
 obtain⟨v',r',h'⟩:=Classical.choose_spec ex
 have:v'=v:=r'.inj r
 subst this
 rw[RG.inj h' h]
theorem eqW_any{H:Hp}{gx:G}:∀ {xs:List G} {vs:List V} {us:List Value},RGs H xs vs->Vals vs us->us.any (eqW H gx)=xs.any fun y=>peq y gx
 | [],_,_,h,r=>by cases h;cases r;rfl
 |x::xs,_,_,h,r=>by
  obtain⟨v,vs,rfl,h1,h2⟩:=h
  cases r with
  |cons r1 r2=>rw[List.any_cons,List.any_cons,eqW_is r1 h1,eqW_any h2 r2]
theorem eqW_at{pins:List (Addr × Obj)}{σ:L2.St}{H:Hp}{s:Shared}(I:Inv X pins σ H s){A:Around}(hu:A.units+160<cLine){gx:G}{vx:V}{ux:Value}(hx:RG H gx vx)(rx:RelV vx ux) :
 ∀ {xs:List G} {vs:List V} {us:List Value},RGs H xs vs->Vals vs us->xs.all shal=true->∀ u∈us,SeqAt.EqAt A s u ux (eqW H gx u)
 | [],_,_,h,r,_,u,hm=>by cases h;cases r;simp at hm
 |x::xs,_,_,h,r,hs,u,hm=>by
  obtain⟨v,vs,rfl,h1,h2⟩:=h
  simp only[List.all_cons,Bool.and_eq_true] at hs
  cases r with
  |cons r1 r2 =>
   rcases List.mem_cons.mp hm with rfl|hm
   ·rw[eqW_is r1 h1]
    exact RG.eqAt I hu h1 hx hs.1 r1 rx
   ·exact eqW_at I hu hx rx h2 r2 hs.2 u hm
noncomputable def rInG(neg:Bool):R2:=fun x y H Q=>∃ gx p xs vs,RG H gx x/\y = .ref p/\(Rd H p (.lst vs)\/H p=some (.tup vs))/\RGs H xs vs/\xs.all shal=true/\Q (.bl (if neg then !(xs.any fun y=>peq y gx) else xs.any fun y=>peq y gx)) H
theorem op_inG(hu:X.A.units+170<cLine):OpR X (compareOp .In) (rInG false):=by
 intro pins s σ H x y v u Q I rx ry h
 obtain⟨gx,p,xs,vs,hx,rfl,hp,hs,hl,q⟩:=h
 cases ry
 have hu':X.A.in1.units+160<cLine:=by show X.A.units+1+160<cLine;omega
 rcases hp with hp|hp
 ·obtain⟨_,its,n,rv,e⟩:=hp.ok I.hok
  refine SeqAt.in_listAt (eqW H gx) (items:=its.toArray) ⟨_,e,rfl,n,rfl⟩ (fun w hw=>eqW_at I hu' hx rx hs rv hl w (by simpa using hw)) ⟨.bl _,H,I,rfl,?_⟩
  rw[show its.toArray.any (eqW H gx)=its.any (eqW H gx) by simp,eqW_any hs rv]
  exact q
 ·obtain⟨_,its,rv,pl⟩:=I.hok p _ hp
  refine SeqAt.in_tupleAt (eqW H gx) (items:=its.toArray) pl (fun w hw=>eqW_at I hu' hx rx hs rv hl w (by simpa using hw)) ⟨.bl _,H,I,rfl,?_⟩
  rw[show its.toArray.any (eqW H gx)=its.any (eqW H gx) by simp,eqW_any hs rv]
  exact q
theorem op_notinG(hu:X.A.units+170<cLine):OpR X (compareOp .NotIn) (rInG true):=by
 intro pins s σ H x y v u Q I rx ry h
 obtain⟨gx,p,xs,vs,hx,rfl,hp,hs,hl,q⟩:=h
 cases ry
 have hu':X.A.in1.units+160<cLine:=by show X.A.units+1+160<cLine;omega
 rcases hp with hp|hp
 ·obtain⟨_,its,n,rv,e⟩:=hp.ok I.hok
  refine SeqAt.notIn_listAt (eqW H gx) (items:=its.toArray) ⟨_,e,rfl,n,rfl⟩ (fun w hw=>eqW_at I hu' hx rx hs rv hl w (by simpa using hw)) ⟨.bl _,H,I,rfl,?_⟩
  rw[show its.toArray.any (eqW H gx)=its.any (eqW H gx) by simp,eqW_any hs rv]
  exact q
 ·obtain⟨_,its,rv,pl⟩:=I.hok p _ hp
  refine SeqAt.notIn_tupleAt (eqW H gx) (items:=its.toArray) pl (fun w hw=>eqW_at I hu' hx rx hs rv hl w (by simpa using hw)) ⟨.bl _,H,I,rfl,?_⟩
  rw[show its.toArray.any (eqW H gx)=its.any (eqW H gx) by simp,eqW_any hs rv]
  exact q
noncomputable def rInAll(neg:Bool):R2:=fun x y H Q=>rInG neg x y H Q\/rInD neg x y H Q
theorem op_inAll(hu:X.A.units+170<cLine):OpR X (compareOp .In) (rInAll false):=(op_inG hu).or (op_inD (by omega))
theorem op_notinAll(hu:X.A.units+170<cLine):OpR X (compareOp .NotIn) (rInAll true):=(op_notinG hu).or (op_notinD (by omega))
theorem hasIn_ok{ρ:Nat->Addr}{σ:Store}{H:Hp}{x y:R}{vx vy:V}{b neg:Bool}{Q:VK}(S:SR H ρ σ)(hx:RR H ρ σ.length x vx)(hy:RR H ρ σ.length y vy)(e:hasIn σ x y=some b)
 (q:Q (.bl (if neg then !b else b)) H):rInAll neg vx vy H Q:=by
 cases x with
 |ref _=>cases y with
  |g gy=>cases gy<;>simp[hasIn] at e
  |_=>simp[hasIn] at e
 |tr _=>cases y with
  |g gy=>cases gy<;>simp[hasIn] at e
  |_=>simp[hasIn] at e
 |g gx =>
  cases y with
  |tr _=>simp[hasIn] at e
  |g gy =>
   cases gy with
   |tup ys =>
    simp only[hasIn] at e
    split at e
    ·rename_i c
     cases e
     obtain⟨a,vs,rfl,ha,h1⟩:=hy
     exact .inl ⟨gx,a,ys,vs,hx,rfl,.inr ha,h1,c,q⟩
    ·cases e
   |_=>simp[hasIn] at e
  |ref i =>
   obtain⟨hi,rfl⟩:=hy
   simp only[hasIn] at e
   split at e
   ·rename_i ys e1
    split at e
    ·rename_i c
     cases e
     obtain⟨vs,h1,h2⟩:=S.lst e1
     exact .inl ⟨gx,_,ys,vs,hx,rfl,.inl (.inl h1),h2,c,q⟩
    ·cases e
   ·rename_i kvs e1
    split at e
    ·rename_i c
     cases e
     obtain⟨ws,h1,h2⟩:=S.dR (.inl e1)
     obtain⟨o,g,z⟩:=dget_of h1 h2 c hx
     refine .inr ⟨_,o,rfl,g,?_⟩
     have:o.isSome=(dget kvs gx).isSome:=by
      rcases z with⟨z,rfl⟩ | ⟨y,v,z,rfl,_⟩<;>rw[z]<;>rfl
     rw[this]
     exact q
    ·cases e
   ·rename_i kvs e1
    split at e
    ·rename_i c
     cases e
     obtain⟨ws,h1,h2⟩:=S.dR (.inr e1)
     obtain⟨o,g,z⟩:=dget_of h1 h2 c hx
     refine .inr ⟨_,o,rfl,g,?_⟩
     have:o.isSome=(dget kvs gx).isSome:=by
      rcases z with⟨z,rfl⟩ | ⟨y,v,z,rfl,_⟩<;>rw[z]<;>rfl
     rw[this]
     exact q
    ·cases e
   ·cases e
theorem ok_in:Ok2 .inn (rInAll false):=by
 intro ρ σ H x y vx vy r σ' Q S hx hy e q
 change pIn [x,y] σ=_ at e
 simp only[pIn] at e
 cases c:hasIn σ x y with
 |none=>rw[c] at e;cases e
 |some b=>rw[c] at e;cases e;exact hasIn_ok (neg:=false) S hx hy c (q.same S rfl)
theorem ok_notin:Ok2 .notin (rInAll true):=by
 intro ρ σ H x y vx vy r σ' Q S hx hy e q
 change pNotIn [x,y] σ=_ at e
 simp only[pNotIn] at e
 cases c:hasIn σ x y with
 |none=>rw[c] at e;cases e
 |some b=>rw[c] at e;cases e;exact hasIn_ok (neg:=true) S hx hy c (q.same S rfl)
noncomputable def rIxD:R2:=fun x y H Q=>∃ a v,x = .ref a/\DGet H a y (some v)/\Q v H
theorem ix_dict(hu:X.A.units+1<cLine):IxR X rIxD:=by
 intro value slice pins s σ H x y v u Q I rx ry h hs
 obtain⟨a,z,rfl,g,q⟩:=h
 cases rx
 exact tail_any (dict_typeIs I g) PySem.F.slot_dict_getitem.lookup (d_getItem hu I g ry fun w' s' I' rw'=>⟨z,H,I',rw',q⟩) hs
noncomputable def rIxAll(K:PySem.W.Frag):R2:=fun x y H Q=>rIx K x y H Q\/rIxD x y H Q
theorem ix_all(hu:X.A.units+1<cLine):IxR X (rIxAll X.K):=ix_seq.or (ix_dict hu)
theorem sOf_cps(x:List Nat):(sOf x).cps.toList=x:=by unfold sOf;simp
theorem ok_idx{K:PySem.W.Frag}:Ok2 .idx (rIxAll K):=by
 intro ρ σ H x y vx vy r σ' Q S hx hy e q
 change pIdx [x,y] σ=_ at e
 cases y with
 |ref _=>cases x with
  |g gx=>cases gx<;>simp[pIdx] at e
  |_=>simp[pIdx] at e
 |tr _=>cases x with
  |g gx=>cases gx<;>simp[pIdx] at e
  |_=>simp[pIdx] at e
 |g gy =>
  cases x with
  |g gx =>
   cases gx with
   |tup xs =>
    cases gy with
    |int i =>
     simp only[pIdx] at e
     obtain⟨z,e1,e2⟩:=ofO_inv e
     cases e2
     obtain⟨a,vs,rfl,ha,h1⟩:=hx
     cases(show vy = .int i from hy)
     obtain⟨v,e3,e4⟩:=h1.atI e1
     exact .inl (.inr (.inl ⟨a,vs,i,v,rfl,rfl,.of ha,e3,q.same S e4⟩))
    |_=>simp[pIdx] at e
   |str xs =>
    cases gy with
    |int i =>
     simp only[pIdx] at e
     obtain⟨c,e1,e2⟩:=ofO_inv e
     cases e2
     obtain⟨rfl,h1⟩:=hx
     cases(show vy = .int i from hy)
     have hm:c<1114112:=by
      have:=okS_all h1
      rw[List.all_eq_true] at this
      have hc:c∈xs:=by
       rw[at_atI] at e1
       obtain⟨j,_,hj,_⟩:=atI_get e1
       exact List.mem_of_getElem? hj
      simpa using this c hc
     refine .inl (.inr (.inr ⟨_,i,c,rfl,rfl,by rw[sOf_len,sizeLine_eq];exact okS_len h1,by rw[sOf_cps];exact e1,?_⟩))
     exact q.same S (v:=.str ⟨#[c]⟩) ⟨rfl,okS_of (by simp) (by simpa using hm)⟩
    |_=>simp[pIdx] at e
   |_=>simp[pIdx] at e
  |tr xs =>
   cases gy with
   |int i =>
    simp only[pIdx] at e
    obtain⟨z,e1,e2⟩:=ofO_inv e
    cases e2
    obtain⟨a,vs,rfl,ha,h1⟩:=hx
    cases(show vy = .int i from hy)
    obtain⟨v,e3,e4⟩:=h1.atI e1
    exact .inl (.inr (.inl ⟨a,vs,i,v,rfl,rfl,.of ha,e3,q.same S e4⟩))
   |_=>simp[pIdx] at e
  |ref k =>
   obtain⟨hk,rfl⟩:=hx
   simp only[pIdx] at e
   split at e
   ·rename_i xs i e1
    obtain⟨z,e2,e3⟩:=ofO_inv e
    cases e3
    cases(show vy = .int i from hy)
    obtain⟨vs,h1,h2⟩:=S.lst e1
    obtain⟨v,e4,e5⟩:=h2.atI e2
    exact .inl (.inl ⟨_,vs,i,v,rfl,rfl,.of h1,e4,q.same S e5⟩)
   ·rename_i xs i e1
    obtain⟨z,e2,e3⟩:=ofO_inv e
    cases e3
    cases(show vy = .int i from hy)
    obtain⟨vs,h1,h2⟩:=S.rdl e1
    obtain⟨v,e4,e5⟩:=h2.atI e2
    exact .inl (.inl ⟨_,vs,i,v,rfl,rfl,.inl h1,e4,q.same S e5⟩)
   ·rename_i xs i e1
    obtain⟨z,e2,e3⟩:=ofO_inv e
    cases e3
    cases(show vy = .int i from hy)
    obtain⟨vs,h1,h2⟩:=S.rls e1
    obtain⟨v,e4,e5⟩:=h2.atI e2
    exact .inl (.inl ⟨_,vs,i,v,rfl,rfl,.of h1,e4,q.same S (RR.mono (fun _ _ h=>h) (Nat.le_of_lt hk) (fun _ _=>rfl) _ e5)⟩)
   ·rename_i kvs i e1
    split at e
    ·rename_i c
     obtain⟨z,e2,e3⟩:=ofO_inv e
     cases e3
     obtain⟨ws,h1,h2⟩:=S.dR (.inl e1)
     obtain⟨o,g,z'⟩:=dget_of h1 h2 c hy
     rcases z' with⟨z',_⟩ | ⟨y,v,e4,rfl,e5⟩
     ·rw[e2] at z';cases z'
     ·rw[e2] at e4;cases e4
      exact .inr ⟨_,v,rfl,g,q.same S e5⟩
    ·cases e
   ·rename_i kvs i e1
    split at e
    ·rename_i c
     obtain⟨z,e2,e3⟩:=ofO_inv e
     cases e3
     obtain⟨ws,h1,h2⟩:=S.dR (.inr e1)
     obtain⟨o,g,z'⟩:=dget_of h1 h2 c hy
     rcases z' with⟨z',_⟩ | ⟨y,v,e4,rfl,e5⟩
     ·rw[e2] at z';cases z'
     ·rw[e2] at e4;cases e4
      exact .inr ⟨_,v,rfl,g,q.same S e5⟩
    ·cases e
   ·cases e
theorem call_lenAll:CallR X (.builtin "len") (fun xs H Q=>(∃ x n,xs=[x]/\LenV X.K x H n/\Q (.int n) H)\/∃ a kvs,xs=[V.ref a]/\Rd H a (.dK kvs)/\Q (.int kvs.length) H):=by
 refine call_len.or ?_
 intro pins s σ H xs us Q I r h
 obtain⟨a,kvs,rfl,ha,q⟩:=h
 obtain⟨u,rfl,ru⟩:=vals1 r
 cases ru
 exact d_len I ha fun t s' I'=>⟨.int kvs.length,H,I',⟨t,rfl⟩,q⟩
end
end SN
namespace SN
open PySem PySem.Spec PyProof.Rows L2 MP
variable [Wd]
section
variable {X:Cx}
noncomputable abbrev rLen(K:PySem.W.Frag):List V->Hp->VK->Prop:=fun xs H Q=>(∃ x n,xs=[x]/\LenV K x H n/\Q (.int n) H)\/∃ a kvs,xs=[V.ref a]/\Rd H a (.dK kvs)/\Q (.int kvs.length) H
theorem rrs1{H:Hp}{ρ:Nat->Addr}{n:Nat}{x:R}{vs:List V}(h:RRs H ρ n [x] vs):∃ v,vs=[v]/\RR H ρ n x v:=by
 obtain⟨v,r,rfl,h1,h2⟩:=h
 cases h2
 exact⟨v,rfl,h1⟩
theorem rrs2{H:Hp}{ρ:Nat->Addr}{n:Nat}{x y:R}{vs:List V}(h:RRs H ρ n [x,y] vs):∃ v w,vs=[v,w]/\RR H ρ n x v/\RR H ρ n y w:=by
 obtain⟨v,r,rfl,h1,h2⟩:=h
 obtain⟨w,rfl,h3⟩:=rrs1 h2
 exact⟨v,w,rfl,h1,h3⟩
theorem ok_len{K:PySem.W.Frag}:OkN .len (rLen K):=by
 intro ρ σ H xs vs r σ' Q S hx e q
 change pLen xs σ=_ at e
 match xs,hx,e with
 | [],_,e=>simp[pLen] at e
 |_::_::_,_,e=>simp[pLen] at e
 | [x],hx,e =>
  obtain⟨v,rfl,hv⟩:=rrs1 hx
  simp only[pLen] at e
  obtain⟨n,e1,e2⟩:=ofO_inv e
  cases e2
  have q':Q (.int n) H:=q.same S rfl
  cases x with
  |g gx =>
   cases gx with
   |tup ys =>
    cases e1
    obtain⟨a,ws,rfl,ha,h1⟩:=hv
    exact .inl ⟨_,_,rfl,.inr ⟨ws,.of ha,rfl⟩,by rw[h1.length];exact q'⟩
   |str ys =>
    cases e1
    obtain⟨rfl,h1⟩:=hv
    exact .inl ⟨_,_,rfl,⟨by rw[sOf_len,sizeLine_eq];exact okS_len h1,rfl⟩,by rw[sOf_len];exact q'⟩
   |_=>simp[lenOf] at e1
  |tr ys =>
   cases e1
   obtain⟨a,ws,rfl,ha,h1⟩:=hv
   exact .inl ⟨_,_,rfl,.inr ⟨ws,.of ha,rfl⟩,by rw[h1.length];exact q'⟩
  |ref k =>
   obtain⟨hk,rfl⟩:=hv
   simp only[lenOf] at e1
   split at e1
   ·rename_i ys e3
    cases e1
    obtain⟨ws,h1,h2⟩:=S.lst e3
    exact .inl ⟨_,_,rfl,.inl ⟨ws,.of h1,rfl⟩,by rw[h2.length];exact q'⟩
   ·rename_i ys e3
    cases e1
    obtain⟨ws,h1,h2⟩:=S.rdl e3
    exact .inl ⟨_,_,rfl,.inl ⟨ws,.inl h1,rfl⟩,by rw[h2.length];exact q'⟩
   ·rename_i ys e3
    cases e1
    obtain⟨ws,h1,h2⟩:=S.rls e3
    exact .inl ⟨_,_,rfl,.inl ⟨ws,.of h1,rfl⟩,by rw[h2.length];exact q'⟩
   ·rename_i ys e3
    cases e1
    obtain⟨ws,h1,h2⟩:=S.dR (.inl e3)
    exact .inr ⟨_,ws,rfl,h1,by rw[h2.length];exact q'⟩
   ·rename_i ys e3
    cases e1
    obtain⟨ws,h1,h2⟩:=S.dR (.inr e3)
    exact .inr ⟨_,ws,rfl,h1,by rw[h2.length];exact q'⟩
   ·cases e1
   ·cases e1
   ·cases e1
theorem RR_mkTup{H:Hp}{ρ:Nat->Addr}{n:Nat}{xs:List R}{vs:List V}{a:Addr}(ha:H a=some (.tup vs))(h:RRs H ρ n xs vs):RR H ρ n (mkTup xs) (.ref a):=by
 unfold mkTup
 cases e:allG xs with
 |some gs=>exact⟨a,vs,rfl,ha,RRs.ofG e h⟩
 |none=>exact⟨a,vs,rfl,ha,h⟩
theorem ok_tup:OkN .tup (fun xs H Q=>xs.length<=sizeLine/\∀ p,H p=none->Q (.ref p) (upd H p (.tup xs))):=by
 intro ρ σ H xs vs r σ' Q S hx e q
 change pTup xs σ=_ at e
 unfold pTup at e
 split at e
 ·rename_i hl
  cases e
  refine⟨by rw[hx.length];exact thousand_le hl,fun p hp => ?_⟩
  obtain⟨e1,e2,tp⟩:=S.tup hp (.tup vs)
  exact q ρ (.ref p) _ e1 e2 (RR_mkTup upd_same (RRs.mono tp (Nat.le_refl _) (fun _ _=>rfl) _ hx))
 ·cases e
theorem ok_lst:OkN .lst (fun xs H Q=>xs.length<=sizeLine/\∀ p,H p=none->Q (.ref p) (upd H p (.lst xs))):=by
 intro ρ σ H xs vs r σ' Q S hx e q
 change pLst xs σ=_ at e
 unfold pLst at e
 split at e
 ·rename_i hl
  cases e
  refine⟨by rw[hx.length];exact thousand_le hl,fun p hp => ?_⟩
  refine q.new S hp (fun _ z=>by cases z) fun H' ρ' tp e ep ag => ?_
  unfold mkLst
  cases c:allG xs with
  |some gs=>exact⟨vs,by rw[ep];exact e,RGs.mono tp _ (RRs.ofG c hx)⟩
  |none=>exact⟨vs,by rw[ep];exact e,RRs.mono tp (Nat.le_refl _) ag _ hx⟩
 ·cases e
noncomputable abbrev rTupleOf(K:PySem.W.Frag):List V->Hp->VK->Prop:=fun xs H Q=>∃ p ys,xs=[.ref p]/\((SqL K H p ys/\∀ l,H l=none->Q (.ref l) (upd H l (.tup ys)))\/(SqT K H p ys/\Q (.ref p) H))
theorem ok_tupleOf{K:PySem.W.Frag}:OkN .tupleOf (rTupleOf K):=by
 intro ρ σ H xs vs r σ' Q S hx e q
 change pTupleOf xs σ=_ at e
 match xs,hx,e with
 | [],_,e=>simp[pTupleOf] at e
 |_::_::_,_,e=>simp[pTupleOf] at e
 | [x],hx,e =>
  obtain⟨v,rfl,hv⟩:=rrs1 hx
  cases x with
  |tr _=>simp[pTupleOf] at e
  |g gx =>
   cases gx with
   |tup ys =>
    cases e
    obtain⟨a,ws,rfl,ha,h1⟩:=hv
    exact⟨a,ws,rfl,.inr ⟨.of ha,q.same S ⟨a,ws,rfl,ha,h1⟩⟩⟩
   |_=>simp[pTupleOf] at e
  |ref k =>
   obtain⟨hk,rfl⟩:=hv
   simp only[pTupleOf] at e
   have go:∀ ys ws,Rd H (ρ k) (.lst ws)->RGs H ys ws->Fin ρ σ.length H (.g (.tup ys)) σ Q->rTupleOf K [.ref (ρ k)] H Q:=fun ys ws h1 h2 q=>by
    refine⟨_,ws,rfl,.inl ⟨.inl h1,fun p hp => ?_⟩⟩
    obtain⟨e1,e2,tp⟩:=S.tup hp (.tup ws)
    exact q ρ (.ref p) _ e1 e2 ⟨p,ws,rfl,upd_same,RGs.mono tp _ h2⟩
   split at e
   ·rename_i ys e3
    cases e
    obtain⟨ws,h1,h2⟩:=S.lR (.inl e3)
    exact go ys ws h1 h2 q
   ·rename_i ys e3
    cases e
    obtain⟨ws,h1,h2⟩:=S.lR (.inr e3)
    exact go ys ws h1 h2 q
   ·cases e
noncomputable abbrev rListS(K:PySem.W.Frag):List V->Hp->VK->Prop:=fun xs H Q=>∃ p ys,xs=[.ref p]/\(SqL K H p ys\/SqT K H p ys)/\∀ l,H l=none->Q (.ref l) (upd H l (.lst ys))
noncomputable def rListD:List V->Hp->VK->Prop:=fun xs H Q=>∃ p kvs,xs=[.ref p]/\H p=some (.dK kvs)/\(∀ kv∈kvs,∃ i,kv.1=Sum.inl i)/\∀ l,H l=none->Q (.ref l) (upd H l (.lst (kvs.map fun kv=>kV kv.1)))
noncomputable abbrev rListOf(K:PySem.W.Frag):List V->Hp->VK->Prop:=fun xs H Q=>rListS K xs H Q\/rListD xs H Q
theorem keys_RGs{H:Hp}:∀ {kvs:List (G × G)} {ws:List (Key × V)},intKeys kvs=true->RKs H kvs ws->(∀ kv∈ws,∃ i,kv.1=Sum.inl i)/\RGs H (kvs.map fun p=>p.1) (ws.map fun kv=>kV kv.1)
 | [],_,_,h=>by cases h;exact⟨fun _ z=>by simp at z,rfl⟩
 | (k,v)::r,_,hi,h=>by
  obtain⟨a,w,t,rfl,h1,h2,h3⟩:=h
  simp only[intKeys,List.all_cons,Bool.and_eq_true] at hi
  obtain⟨g1,g2⟩:=keys_RGs (by simpa[intKeys] using hi.2) h3
  cases k with
  |int i =>
   cases h1
   refine⟨fun kv hkv => ?_,⟨_,_,rfl,rfl,g2⟩⟩
   rcases List.mem_cons.mp hkv with z|z
   ·subst z;exact⟨i,rfl⟩
   ·exact g1 kv z
  |_=>simp at hi
theorem ok_listOf{K:PySem.W.Frag}:OkN .listOf (rListOf K):=by
 intro ρ σ H xs vs r σ' Q S hx e q
 change pListOf xs σ=_ at e
 have go:∀ ys ws,RGs H ys ws->Fin ρ σ.length H (.ref σ.length) (σ++[.lst ys]) Q->∀ l,H l=none->Q (.ref l) (upd H l (.lst ws)):=fun ys ws h q p hp =>
  q.new S hp (fun _ z=>by cases z) fun H' ρ' tp e ep ag=>⟨ws,by rw[ep];exact e,RGs.mono tp _ h⟩
 match xs,hx,e with
 | [],_,e=>simp[pListOf] at e
 |_::_::_,_,e=>simp[pListOf] at e
 | [x],hx,e =>
  obtain⟨v,rfl,hv⟩:=rrs1 hx
  cases x with
  |tr _=>simp[pListOf] at e
  |g gx =>
   cases gx with
   |tup ys =>
    cases e
    obtain⟨a,ws,rfl,ha,h1⟩:=hv
    exact .inl ⟨a,ws,rfl,.inr (.of ha),go ys ws h1 q⟩
   |_=>simp[pListOf] at e
  |ref k =>
   obtain⟨hk,rfl⟩:=hv
   simp only[pListOf] at e
   split at e
   ·rename_i ys e3
    cases e
    obtain⟨ws,h1,h2⟩:=S.lR (.inl e3)
    exact .inl ⟨_,ws,rfl,.inl (.inl h1),go ys ws h2 q⟩
   ·rename_i ys e3
    cases e
    obtain⟨ws,h1,h2⟩:=S.lR (.inr e3)
    exact .inl ⟨_,ws,rfl,.inl (.inl h1),go ys ws h2 q⟩
   ·rename_i kvs e3
    split at e
    ·rename_i hi
     cases e
     obtain⟨ws,h1,h2⟩:=S.dct e3
     obtain⟨g1,g2⟩:=keys_RGs hi h2
     exact .inr ⟨_,ws,rfl,h1,g1,go _ _ g2 q⟩
    ·cases e
   ·cases e
theorem ok_dct0:OkN .dct0 (fun xs H Q=>xs=[]/\∀ p,H p=none->Q (.ref p) (upd H p (.dK []))):=by
 intro ρ σ H xs vs r σ' Q S hx e q
 change pDct0 xs σ=_ at e
 match xs,hx,e with
 |_::_,_,e=>simp[pDct0] at e
 | [],hx,e =>
  cases hx
  cases e
  exact⟨rfl,fun p hp=>q.new S hp (fun _ z=>by cases z) fun H' ρ' tp e ep ag=>⟨[],by rw[ep];exact e,rfl,List.nodup_nil⟩⟩
theorem recv_ty{K:PySem.W.Frag}{p:Prim}{ρ:Nat->Addr}{σ:Store}{H:Hp}{x:R}{v:V}(S:SR H ρ σ)(hv:RR H ρ σ.length x v)(np:p ≠ .setdefT)(nj:p ≠ .join)(ns:p ≠ .starts)(h:recvOk p x σ=true)(no:p ≠ .pop:=by intro z;cases z) :
 ((p = .append\/p = .extend\/p = .index)/\∃ k xs,x = .ref k/\σ[k]?=some (.lst xs))\/((p = .clear)/\∃ k xs,x = .ref k/\σ[k]?=some (.dct xs))\/((p = .get1\/p = .get2\/p = .setdef)/\∃ k xs,x = .ref k/\σ[k]?=some (.dct xs)):=by
 cases x with
 |g gx =>
  cases gx with
  |str _ =>
   simp only[recvOk] at h
   cases h
  |_=>simp[recvOk] at h
 |tr _=>simp[recvOk] at h
 |ref k =>
  simp only[recvOk] at h
  split at h
  ·rename_i xs e;exact .inl ⟨.inl rfl,k,xs,rfl,e⟩
  ·rename_i xs e;exact .inl ⟨.inr (.inl rfl),k,xs,rfl,e⟩
  ·rename_i xs e;exact .inl ⟨.inr (.inr rfl),k,xs,rfl,e⟩
  ·rename_i xs e;exact .inr (.inl ⟨rfl,k,xs,rfl,e⟩)
  ·rename_i xs e;exact .inr (.inr ⟨.inl rfl,k,xs,rfl,e⟩)
  ·rename_i xs e;exact .inr (.inr ⟨.inr (.inl rfl),k,xs,rfl,e⟩)
  ·rename_i xs e;exact .inr (.inr ⟨.inr (.inr rfl),k,xs,rfl,e⟩)
  ·exact absurd rfl np
  ·exact absurd rfl no
  ·cases h
theorem okm_append{K:PySem.W.Frag}:OkM K "list" .append rAppend:=by
 refine⟨fun ρ σ H x v S hv h => ?_,fun ρ σ H x xs v vs r σ' Q S hx hxs e q => ?_⟩
 ·rcases recv_ty (K:=K) S hv (fun z=>by cases z) (fun z=>by cases z) (fun z=>by cases z) h with⟨_,k,ys,rfl,e⟩ | ⟨z,_⟩ | ⟨z,_⟩
  ·obtain⟨ws,h1,h2⟩:=S.lst e
   obtain⟨hk,rfl⟩:=hv
   exact .inl ⟨rfl,ws,.of h1⟩
  ·cases z
  ·rcases z with z|z|z<;>cases z
 ·change pAppend (x::xs) σ=_ at e
  match x,xs,hx,hxs,e with
  | .g _,_,_,_,e=>simp[pAppend] at e
  | .tr _,_,_,_,e=>simp[pAppend] at e
  | .ref _,[],_,_,e=>simp[pAppend] at e
  | .ref _,_::_::_,_,_,e=>simp[pAppend] at e
  | .ref _,[.ref _],_,_,e=>simp[pAppend] at e
  | .ref _,[.tr _],_,_,e=>simp[pAppend] at e
  | .ref k,[.g y],hx,hxs,e =>
   obtain⟨hk,rfl⟩:=hx
   obtain⟨w,rfl,hw⟩:=rrs1 hxs
   simp only[pAppend] at e
   split at e
   ·rename_i ys e3
    split at e
    ·rename_i hl
     cases e
     obtain⟨ws,h1,h2⟩:=S.lst e3
     refine⟨_,ws,w,rfl,rfl,h1,by rw[h2.length];exact Nat.lt_of_lt_of_le hl big_le,?_⟩
     obtain⟨e1,e2⟩:=S.write hk (o:=.lst (ws++[w])) (c:=.lst (ys++[y])) (nfz_l h1) fun H' tp e=>⟨_,e,(RGs.mono tp _ h2).append ⟨w,[],rfl,RG.mono tp _ hw,rfl⟩⟩
     exact q ρ .non _ e1 e2 rfl
    ·cases e
   ·cases e
theorem rgs_init{H:Hp}:∀ {xs:List G} {vs:List V},RGs H xs vs->RGs H xs.dropLast vs.dropLast
 | [],_,h=>by cases h;exact rfl
 | [x],_,h=>by
  obtain⟨v,r,rfl,_,h2⟩:=h
  cases h2
  exact rfl
 |x::y::r,_,h=>by
  obtain⟨v,t,rfl,h1,h2⟩:=h
  obtain⟨u,t',rfl,h3,h4⟩:=h2
  exact⟨v,_,rfl,h1,rgs_init (xs:=y::r) (vs:=u::t') ⟨u,t',rfl,h3,h4⟩⟩
theorem okm_pop{K:PySem.W.Frag}:OkM K "list" .pop rPop:=by
 refine⟨fun ρ σ H x v S hv h => ?_,fun ρ σ H x xs v vs r σ' Q S hx hxs e q => ?_⟩
 ·cases x with
  |g gx=>cases gx<;>simp[recvOk] at h
  |tr _=>simp[recvOk] at h
  |ref k =>
   simp only[recvOk] at h
   split at h
   all_goals first|(rename_i z _;cases z;done)|skip
   ·rename_i ys _ e
    obtain⟨ws,h1,h2⟩:=S.lst e
    obtain⟨hk,rfl⟩:=hv
    exact .inl ⟨rfl,ws,.of h1⟩
   ·cases h
 ·change pPop (x::xs) σ=_ at e
  match x,xs,hx,hxs,e with
  | .g _,_,_,_,e=>simp[pPop] at e
  | .tr _,_,_,_,e=>simp[pPop] at e
  | .ref _,_::_,_,_,e=>simp[pPop] at e
  | .ref k,[],hx,hxs,e =>
   obtain⟨hk,rfl⟩:=hx
   cases hxs
   simp only[pPop] at e
   split at e
   ·rename_i ys e3
    split at e
    ·rename_i y ey
     cases e
     obtain⟨ws,h1,h2⟩:=S.lst e3
     rw[List.getLast?_eq_getElem?] at ey
     obtain⟨w,k1,k2⟩:=h2.get ey
     rw[← h2.length] at k1
     refine⟨_,ws,w,rfl,rfl,h1,k1,?_⟩
     obtain⟨e1,e2⟩:=S.write hk (o:=.lst ws.dropLast) (c:=.lst ys.dropLast) (nfz_l h1) fun H' tp e=>⟨_,e,rgs_init (RGs.mono tp _ h2)⟩
     exact q ρ w _ e1 e2 (RG.mono (e1.tp S) _ k2)
    ·cases e
   ·cases e
noncomputable def rGet2:V->List V->Hp->VK->Prop:=fun x vs H Q=>∃ a y d o,x = .ref a/\vs=[y,d]/\DGet H a y o/\Q (o.getD d) H
theorem mt_get2(hu:X.A.units+1<cLine):MtR X "dict.get" rGet2:=by
 intro pins s σ H x xs v us Q I rx rs h
 obtain⟨a,y,d,o,rfl,rfl,g,q⟩:=h
 cases rx
 obtain⟨u,w,rfl,ru,rw'⟩:=vals2 rs
 exact d_get2 hu I g ru rw' fun w' s' I' r'=>⟨_,H,I',r',q⟩
theorem okm_get2{K:PySem.W.Frag}:OkM K "dict" .get2 rGet2:=by
 refine⟨fun ρ σ H x v S hv h => ?_,fun ρ σ H x xs v vs r σ' Q S hx hxs e q => ?_⟩
 ·rcases recv_ty (K:=K) S hv (fun z=>by cases z) (fun z=>by cases z) (fun z=>by cases z) h with⟨z,_⟩ | ⟨z,_⟩ | ⟨_,k,ys,rfl,e⟩
  ·rcases z with z|z|z<;>cases z
  ·cases z
  ·obtain⟨ws,h1,h2⟩:=S.dct e
   obtain⟨hk,rfl⟩:=hv
   exact .inr (.inr (.inl ⟨rfl,.inl ⟨ws,h1⟩⟩))
 ·change pGet2 (x::xs) σ=_ at e
  match x,xs,hx,hxs,e with
  | .g _,_,_,_,e=>simp[pGet2] at e
  | .tr _,_,_,_,e=>simp[pGet2] at e
  | .ref _,[],_,_,e=>simp[pGet2] at e
  | .ref _,[_],_,_,e=>simp[pGet2] at e
  | .ref _,_::_::_::_,_,_,e=>simp[pGet2] at e
  | .ref _,[.ref _,_],_,_,e=>simp[pGet2] at e
  | .ref _,[.tr _,_],_,_,e=>simp[pGet2] at e
  | .ref _,[.g _,.ref _],_,_,e=>simp[pGet2] at e
  | .ref _,[.g _,.tr _],_,_,e=>simp[pGet2] at e
  | .ref k,[.g i,.g d],hx,hxs,e =>
   obtain⟨hk,rfl⟩:=hx
   obtain⟨vi,vd,rfl,hi,hd⟩:=rrs2 hxs
   simp only[pGet2] at e
   have go:∀ kvs ws,Rd H (ρ k) (.dK ws)->RKs H kvs ws->isKey i=true->Fin ρ σ.length H (.g ((dget kvs i).getD d)) σ Q->rGet2 (.ref (ρ k)) [vi,vd] H Q:=fun kvs ws h1 h2 c q=>by
    obtain⟨o,g,z⟩:=dget_of h1 h2 c hi
    refine⟨_,vi,vd,o,rfl,rfl,g,q.same S ?_⟩
    rcases z with⟨z,rfl⟩ | ⟨y,w,z,rfl,hy⟩
    ·rw[z];exact hd
    ·rw[z];exact hy
   split at e
   ·rename_i kvs e3
    split at e
    ·rename_i c
     cases e
     obtain⟨ws,h1,h2⟩:=S.dR (.inl e3)
     exact go kvs ws h1 h2 c q
    ·cases e
   ·rename_i kvs e3
    split at e
    ·rename_i c
     cases e
     obtain⟨ws,h1,h2⟩:=S.dR (.inr e3)
     exact go kvs ws h1 h2 c q
    ·cases e
   ·cases e
theorem tru_TruV{K:PySem.W.Frag}{ρ:Nat->Addr}{σ:Store}{H:Hp}{r:R}{v:V}{b:Bool}(S:SR H ρ σ)(hv:RR H ρ σ.length r v)(e:tru σ r=some b):TruV K v H b:=by
 have emp:∀ {α β:Type} {xs:List α} {ys:List β},ys.length=xs.length->(!xs.isEmpty) = !ys.isEmpty:=fun {α β xs ys} h=>by
  cases xs<;>cases ys<;>simp at h ⊢
 cases r with
 |g gx =>
  cases gx with
  |non=>cases e;cases hv;rfl
  |bl b=>cases e;cases hv;rfl
  |int i=>cases e;cases hv;rfl
  |str x =>
   cases e
   obtain⟨rfl,h1⟩:=hv
   refine⟨by rw[sOf_len,sizeLine_eq];exact okS_len h1,?_⟩
   rw[sOf_len]
   cases x<;>simp
   omega
  |tup xs =>
   cases e
   obtain⟨a,vs,rfl,ha,h1⟩:=hv
   exact .inr (.inl ⟨vs,.of ha,emp h1.length⟩)
 |tr xs =>
  cases e
  obtain⟨a,vs,rfl,ha,h1⟩:=hv
  exact .inr (.inl ⟨vs,.of ha,emp h1.length⟩)
 |ref k =>
  obtain⟨hk,rfl⟩:=hv
  simp only[tru] at e
  split at e
  ·rename_i xs e3
   cases e
   obtain⟨ws,h1,h2⟩:=S.lst e3
   exact .inl ⟨ws,.of h1,emp h2.length⟩
  ·rename_i xs e3
   cases e
   obtain⟨ws,h1,h2⟩:=S.rdl e3
   exact .inl ⟨ws,.inl h1,emp h2.length⟩
  ·rename_i xs e3
   cases e
   obtain⟨ws,h1,h2⟩:=S.rls e3
   exact .inl ⟨ws,.of h1,emp h2.length⟩
  ·rename_i xs e3
   cases e
   obtain⟨ws,h1,h2⟩:=S.dct e3
   exact .inr (.inr ⟨ws,h1,emp h2.length⟩)
  ·cases e
  ·cases e
  ·cases e
  ·cases e
end
end SN
namespace SN
open PySem PySem.Spec PyProof.Rows L2 MP
variable [Wd]
section
variable {X:Cx}
theorem isNon_of{H:Hp}{ρ:Nat->Addr}{n:Nat}{x:R}{v:V}(h:RR H ρ n x v):decide (v = .non)=isNon x:=by
 cases x with
 |ref k=>obtain⟨_,rfl⟩:=h;rfl
 |tr xs=>obtain⟨a,vs,rfl,_⟩:=h;rfl
 |g gx =>
  cases gx with
  |non=>cases(show v = .non from h);rfl
  |bl b=>cases(show v = .bl b from h);rfl
  |int i=>cases(show v = .int i from h);rfl
  |str x=>obtain⟨rfl,_⟩:=(show v = .str (sOf x)/\_ from h);rfl
  |tup xs=>obtain⟨a,vs,rfl,_⟩:=h;rfl
theorem ok_isN:Ok2 .isN (fun x y H Q=>y = .non/\Q (.bl (decide (x = .non))) H):=by
 intro ρ σ H x y vx vy r σ' Q S hx hy e q
 change pIsN [x,y] σ=_ at e
 unfold pIsN at e
 split at e
 ·rename_i x' heq
  cases heq
  cases e
  cases(show vy = .non from hy)
  exact⟨rfl,by rw[isNon_of hx];exact q.same S rfl⟩
 ·cases e
theorem ok_notN:Ok2 .notN (fun x y H Q=>y = .non/\Q (.bl (!decide (x = .non))) H):=by
 intro ρ σ H x y vx vy r σ' Q S hx hy e q
 change pNotN [x,y] σ=_ at e
 unfold pNotN at e
 split at e
 ·rename_i x' heq
  cases heq
  cases e
  cases(show vy = .non from hy)
  exact⟨rfl,by rw[isNon_of hx];exact q.same S rfl⟩
 ·cases e
theorem bools_of{H:Hp}:∀ {xs:List G} {vs:List V} {bs:List Bool},RGs H xs vs->bools xs=some bs->vs=bs.map V.bl
 | [],_,bs,h,e=>by cases h;cases e;rfl
 | .bl b::r,_,bs,h,e=>by
  obtain⟨v,us,rfl,h1,h2⟩:=h
  cases(show v = .bl b from h1)
  simp only[bools] at e
  cases c:bools r with
  |none=>rw[c] at e;cases e
  |some cs=>rw[c] at e;cases e;rw[bools_of h2 c];rfl
 | .non::_,_,_,_,e=>by simp[bools] at e
 | .int _::_,_,_,_,e=>by simp[bools] at e
 | .str _::_,_,_,_,e=>by simp[bools] at e
 | .tup _::_,_,_,_,e=>by simp[bools] at e
noncomputable def rAll:List V->Hp->VK->Prop:=fun xs H Q=>∃ a bs,xs=[V.ref a]/\H a=some (.lst (List.map V.bl bs))/\Q (.bl (bs.all id)) H
theorem vals_bl:∀ {bs:List Bool} {us:List Value},Vals (bs.map V.bl) us->us=bs.map Value.bool
 | [],_,h=>by cases h;rfl
 |b::r,_,h=>by
  cases h with
  |cons h1 h2 =>
   cases(show _=Value.bool b from h1)
   rw[vals_bl h2];rfl
theorem range_all'(bs:List Bool):(List.range bs.length).all (fun i=>bs.getD i true)=bs.all id:=by
 rw[Bool.eq_iff_iff,List.all_eq_true,List.all_eq_true]
 constructor
 ·intro h b hb
  obtain⟨i,hi,rfl⟩:=List.getElem_of_mem hb
  have:=h i (List.mem_range.mpr hi)
  simpa[List.getD,hi] using this
 ·intro h i hi
  rw[List.mem_range] at hi
  have:=h bs[i] (List.getElem_mem hi)
  simpa[List.getD,hi] using this
theorem call_allL(hc:X.calm=true):CallR X (.builtin "all") rAll:=by
 intro pins s σ H xs us Q I r h
 obtain⟨a,bs,rfl,ha,q⟩:=h
 obtain⟨u,rfl,ru⟩:=vals1 r
 cases ru
 obtain⟨z,its,n,rv,hl,e⟩:=I.lstM ha
 have hits:=vals_bl rv
 have hL:s.heap.IsList a its.toArray:=⟨_,e,rfl,n,rfl⟩
 have hlt:a<s.heap.objs.size:=Heap.lt_size e
 refine call_all_walk ?_
 refine wpAny_pyIter_list hL ?_
 refine⟨s.heap.objs.size,_,_,its.toArray.size,_,_,fun i=>bs.getD i true,rfl,Walks.list (A:=X.A.in1) (I.ok.hd hc) s.heap.objs.size a (Nat.ne_of_lt hlt) its.toArray,⟨⟨_,Heap.get?_push_size _ rfl,rfl,rfl⟩,hL.push _⟩,?_,fun h' tk kk => ?_⟩
 ·intro i v s' Q' E' hv hq
  subst hits
  have hv:(bs.map Value.bool)[i]?=some v:=by simpa using hv
  rw[List.getElem?_map] at hv
  cases c:bs[i]? with
  |none=>rw[c] at hv;cases hv
  |some b =>
   rw[c] at hv
   cases hv
   have hb:bs.getD i true=b:=by simp[List.getD,c]
   change Q' (bs.getD i true) s' at hq
   rw[hb] at hq
   exact wpAny_truthy_bool hq
 ·have hsz:its.toArray.size=bs.length:=by subst hits;simp
  rw[hsz,range_all']
  refine⟨.bl (bs.all id),H,?_,rfl,q⟩
  exact I.kept (t':=tk) fun b o eb=>kk b o (by simp only[List.mem_singleton];exact Nat.ne_of_lt (Heap.lt_size eb)) (Heap.get?_push_of_some _ eb)
theorem ok_all:OkN .all rAll:=by
 intro ρ σ H xs vs r σ' Q S hx e q
 change pAll xs σ=_ at e
 match xs,hx,e with
 | [],_,e=>simp[pAll] at e
 |_::_::_,_,e=>simp[pAll] at e
 | [.g _],_,e=>simp[pAll] at e
 | [.tr _],_,e=>simp[pAll] at e
 | [.ref k],hx,e =>
  obtain⟨v,rfl,hv⟩:=rrs1 hx
  obtain⟨hk,rfl⟩:=hv
  simp only[pAll] at e
  split at e
  ·rename_i ys e3
   obtain⟨bs,e1,e2⟩:=ofO_inv e
   cases e2
   obtain⟨ws,h1,h2⟩:=S.lst e3
   have:=bools_of h2 e1
   subst this
   exact⟨_,bs,rfl,h1,q.same S rfl⟩
  ·cases e
theorem rel_key{k:Key}{u:Value}(h:keyIs k u=true):RelV (kV k) u:=by
 rcases keyIs_shape h with⟨i,t,rfl,rfl⟩ | ⟨x,t,rfl,rfl⟩
 ·exact⟨t,rfl⟩
 ·exact⟨t,rfl⟩
theorem kv_get:∀ {ws:List (Key × V)} {vs:List (Key × Value)},KV ws vs->∀ {i:Nat} {p:Key × V},ws[i]?=some p->∃ u,vs[i]?=some (p.1,u)/\RelV p.2 u
 |_,_,.nil,i,p,h=>by simp at h
 | (k,v)::_,(k',u)::_,.cons h t,0,p,e=>by
  simp at e
  subst e
  obtain⟨h1,h2⟩:=h
  cases(show k=k' from h1)
  exact⟨u,rfl,h2⟩
 |_::_,_::_,.cons h t,i+1,p,e=>by
  simp only[List.getElem?_cons_succ] at e ⊢
  exact kv_get t e
theorem vals_of_get:∀ {xs:List V} {us:List Value},us.length=xs.length->(∀ (j:Nat) (x:V) (u:Value),xs[j]?=some x->us[j]?=some u->RelV x u)->Vals xs us
 | [],[],_,_=>.nil
 | [],_::_,h,_=>by simp at h
 |_::_,[],h,_=>by simp at h
 |x::r,u::t,h,g=>.cons (g 0 x u rfl rfl) (vals_of_get (by simpa using h) fun j x u h1 h2=>g (j+1) x u (by simpa using h1) (by simpa using h2))
theorem call_listAll(hc:X.calm=true):CallR X (.type "list") (rListOf X.K):=by
 intro pins s σ H xs us Q I r h
 rcases h with h|h
 ·exact call_list_of pins s σ H xs us Q I r h
 obtain⟨a,kvs,rfl,ha,hi,q⟩:=h
 obtain⟨u,rfl,ru⟩:=vals1 r
 cases ru
 obtain⟨z,hs,vs,rv,o,es,ep,ho,rd⟩:=I.hok a _ ha
 have dd:s.heap.DictAt (mixKind X.prog X.w) a vs ep:=⟨o,es,ho,rd⟩
 have hlen:=rv.length
 refine PySem.W.kdl_call (PySem.W.kdl_dict (knd:=mixKind X.prog X.w) (kvs:=vs) (ep:=ep) hs) (I.ok.hd hc) dd (by rw[← hlen];exact z) fun h' tk acc c kk hN hI => ?_
 obtain⟨hIl,hIv⟩:=hI
 have hv:Vals (kvs.map fun kv=>kV kv.1) acc.toList:=by
  refine vals_of_get (by simp;omega) fun j x u e1 e2 => ?_
  obtain⟨k,y,e3,e4⟩:=hIv j u (by simpa using e2)
  rw[List.getElem?_map] at e1
  cases c:kvs[j]? with
  |none=>rw[c] at e1;cases e1
  |some p =>
   rw[c] at e1
   cases e1
   obtain⟨u',e5,_⟩:=kv_get rv c
   rw[e3] at e5
   cases e5
   exact rel_key e4
 refine⟨.ref s.heap.objs.size,_,I.laid (t':=tk) kk (Nat.le_refl _) (show ObjOk X.prog X.w _ h' _ (.lst (kvs.map fun kv=>kV kv.1)) from⟨by rw[List.length_map];exact z,acc.toList,c,hv,by simpa using hN⟩),rfl,q _ (I.hok.fresh (Nat.le_refl _))⟩
theorem putK_nodup{ws:List (Key × V)}{k:Key}{v:V}(h:(ws.map (·.1)).Nodup):((putK ws k v).map (·.1)).Nodup:=by
 cases e:valV ws k with
 |none =>
  rw[putK_new v e,List.map_append,List.map_cons,List.map_nil]
  rw[List.nodup_append]
  refine⟨h,by simp,?_⟩
  intro a ha b hb
  simp at hb
  subst hb
  intro z
  subst z
  obtain⟨p,hp,rfl⟩:=List.mem_map.mp ha
  have:=valV_any p.1 ws
  rw[e] at this
  have hh:(ws.any fun kv=>decide (kv.1=p.1))=true:=List.any_eq_true.mpr ⟨p,hp,by simp⟩
  rw[hh] at this
  cases this
 |some x =>
  have hh:(ws.any fun kv=>decide (kv.1=k))=true:=by rw[valV_any,e];rfl
  unfold putK
  rw[if_pos hh,List.map_map]
  have:((fun x:Key × V=>x.1) ∘ fun kv:Key × V=>if kv.1=k then (kv.1,v) else kv)=fun x=>x.1:=by
   funext kv
   simp only[Function.comp]
   split<;>rfl
  rw[this]
  exact h
noncomputable def rSetdef:V->List V->Hp->VK->Prop:=fun x vs H Q=>∃ a k d kvs,x = .ref a/\vs=[kV k,d]/\H a=some (.dK kvs)/\kvs.length<sizeLine ∧
 (∀ v,valV kvs k=some v->Q v H)/\(valV kvs k=none->Q d (upd H a (.dK (putK kvs k d))))
theorem mt_setdef:MtR X "dict.setdefault" rSetdef:=by
 intro pins s σ H x xs v us Q I rx rs h
 obtain⟨a,k,d,kvs,rfl,rfl,ha,hl,q1,q2⟩:=h
 cases rx
 obtain⟨u,w,rfl,ru,rw'⟩:=vals2 rs
 obtain⟨z,hd,vs,rel,dd⟩:=dk_of I.hok ha
 have hT:s.TypeIs (.ref a) "dict":=dd.typeIs
 have hlen:=rel.length
 have hp:(putK kvs k d).length<=sizeLine:=by have:=length_putK kvs k d;omega
 refine call_meetsIn PySem.F.slot_dict_setdefault hT PySem.F.entry_dict_setdefault (PySem.F.args_dict_setdefault_3 _ _ _) (kt_meets_setdefault (mixKind X.prog X.w) a (kV_is ru) hd w) ⟨vs,dd,by rw[← hlen];exact z,fun v' hv => ?_,fun hn h' dd' sb => ?_⟩
 ·have:=rel.val k
  rw[hv] at this
  cases c:valV kvs k with
  |none=>rw[c] at this;cases this
  |some v0 =>
   rw[c] at this
   exact⟨v0,H,I.tok _,this,q1 v0 c⟩
 ·have:=rel.val k
  rw[hn] at this
  cases c:valV kvs k with
  |some v0=>rw[c] at this;cases this
  |none =>
   have he:∃ q,h'.get? a=some q:=let ⟨q,_,_,hq,_⟩:=dd';⟨q,hq⟩
   exact⟨d,_,d_write I (by rw[ha];exact True.intro) sb he (dk_new hp hd (rel.put k rw') dd'),rw',q2 c⟩
theorem okm_setdef{K:PySem.W.Frag}:OkM K "dict" .setdef rSetdef:=by
 refine⟨fun ρ σ H x v S hv h => ?_,fun ρ σ H x xs v vs r σ' Q S hx hxs e q => ?_⟩
 ·rcases recv_ty (K:=K) S hv (fun z=>by cases z) (fun z=>by cases z) (fun z=>by cases z) h with⟨z,_⟩ | ⟨z,_⟩ | ⟨_,k,ys,rfl,e⟩
  ·rcases z with z|z|z<;>cases z
  ·cases z
  ·obtain⟨ws,h1,h2⟩:=S.dct e
   obtain⟨hk,rfl⟩:=hv
   exact .inr (.inr (.inl ⟨rfl,.inl ⟨ws,h1⟩⟩))
 ·change pSetdef (x::xs) σ=_ at e
  match x,xs,hx,hxs,e with
  | .g _,_,_,_,e=>simp[pSetdef] at e
  | .tr _,_,_,_,e=>simp[pSetdef] at e
  | .ref _,[],_,_,e=>simp[pSetdef] at e
  | .ref _,[_],_,_,e=>simp[pSetdef] at e
  | .ref _,_::_::_::_,_,_,e=>simp[pSetdef] at e
  | .ref _,[.ref _,_],_,_,e=>simp[pSetdef] at e
  | .ref _,[.tr _,_],_,_,e=>simp[pSetdef] at e
  | .ref _,[.g _,.ref _],_,_,e=>simp[pSetdef] at e
  | .ref _,[.g _,.tr _],_,_,e=>simp[pSetdef] at e
  | .ref k,[.g i,.g d],hx,hxs,e =>
   obtain⟨hk,rfl⟩:=hx
   obtain⟨vi,vd,rfl,hi,hd⟩:=rrs2 hxs
   simp only[pSetdef] at e
   split at e
   ·rename_i kvs e3
    split at e
    ·rename_i c
     simp only[Bool.and_eq_true,decide_eq_true_eq] at c
     obtain⟨c1,c2⟩:=c
     obtain⟨ws,h1,h2,nd⟩:=S.dctN e3
     obtain⟨key,hkey⟩:=isKey_keyOf c1
     have hvi:vi=kV key:=keyOf_rep hkey hi
     subst hvi
     have hlw:ws.length<sizeLine:=by rw[h2.length];exact Nat.lt_of_lt_of_le c2 big_le
     have hval:=h2.val hkey
     refine⟨_,key,vd,ws,rfl,rfl,h1,hlw,fun v' hv => ?_,fun hn => ?_⟩
     ·cases c:dget kvs i with
      |none=>rw[hval.1 c] at hv;cases hv
      |some y =>
       obtain⟨w',z2,hy⟩:=hval.2 y c
       rw[z2] at hv
       cases hv
       rw[c] at e
       cases e
       exact q.same S hy
     ·cases c:dget kvs i with
      |some y =>
       obtain⟨w',z2,hy⟩:=hval.2 y c
       rw[z2] at hn;cases hn
      |none =>
       rw[c] at e
       cases e
       obtain⟨e1,e2⟩:=S.write hk (o:=.dK (putK ws key vd)) (c:=.dct (dput kvs i d)) (nfz_d h1) fun H' tp e=>⟨_,e,(RKs.mono tp _ h2).put hkey (RG.mono tp _ hd) nd,putK_nodup nd⟩
       exact q ρ vd _ e1 e2 (RG.mono (Ext.tp e1 S) _ hd)
    ·cases e
   ·cases e
theorem okm_extend{K:PySem.W.Frag}:OkM K "list" .extend rExtend:=by
 refine⟨fun ρ σ H x v S hv h => ?_,fun ρ σ H x xs v vs r σ' Q S hx hxs e q => ?_⟩
 ·rcases recv_ty (K:=K) S hv (fun z=>by cases z) (fun z=>by cases z) (fun z=>by cases z) h with⟨_,k,ys,rfl,e⟩ | ⟨z,_⟩ | ⟨z,_⟩
  ·obtain⟨ws,h1,h2⟩:=S.lst e
   obtain⟨hk,rfl⟩:=hv
   exact .inl ⟨rfl,ws,.of h1⟩
  ·cases z
  ·rcases z with z|z|z<;>cases z
 ·change pExtend (x::xs) σ=_ at e
  match x,xs,hx,hxs,e with
  | .g _,_,_,_,e=>simp[pExtend] at e
  | .tr _,_,_,_,e=>simp[pExtend] at e
  | .ref _,[],_,_,e=>simp[pExtend] at e
  | .ref _,_::_::_,_,_,e=>simp[pExtend] at e
  | .ref _,[.g _],_,_,e=>simp[pExtend] at e
  | .ref _,[.tr _],_,_,e=>simp[pExtend] at e
  | .ref k,[.ref j],hx,hxs,e =>
   obtain⟨hk,rfl⟩:=hx
   obtain⟨w,rfl,hw⟩:=rrs1 hxs
   obtain⟨hj,rfl⟩:=hw
   simp only[pExtend] at e
   split at e
   ·rename_i ys zs e3 e4
    split at e
    ·rename_i hl
     cases e
     obtain⟨ws,h1,h2⟩:=S.lst e3
     obtain⟨us,h3,h4⟩:=S.lst e4
     refine⟨_,_,ws,us,rfl,rfl,h1,h3,by rw[h2.length,h4.length];exact Nat.le_trans hl big_le,?_⟩
     obtain⟨e1,e2⟩:=S.write hk (o:=.lst (ws++us)) (c:=.lst (ys++zs)) (nfz_l h1) fun H' tp e=>⟨_,e,(RGs.mono tp _ h2).append (RGs.mono tp _ h4)⟩
     exact q ρ .non _ e1 e2 rfl
    ·cases e
   ·cases e
theorem cutIx_sIx(n d:Nat)(o:Option Int):cutIx n d o=HT.sIx n d o:=by
 cases o with
 |none=>rfl
 |some v =>
  simp only[cutIx,HT.sIx]
  split<;>omega
noncomputable def rSlA(K:PySem.W.Frag):V->Option Int->Option Int->Hp->VK->Prop:=fun x lo hi H Q=>rSlT K x lo hi H Q\/rSlL K x lo hi H Q
theorem sl_all:SlR X (rSlA X.K):=sl_tup.or sl_list
theorem cut_RGs{H:Hp}{xs:List G}{vs:List V}(h:RGs H xs vs)(lo hi:Option Int):RGs H (MP.cut xs lo hi) (cutV vs lo hi):=by
 unfold MP.cut cutV
 rw[h.length,cutIx_sIx,cutIx_sIx]
 exact(h.drop _).take _
theorem bnd_F(i:Int):bounds true false [.g (.int i)]=some (some i,none):=rfl
theorem bnd_F0(y:R)(h:bounds true false [y]≠none):∃ i,y = .g (.int i):=by
 cases y with
 |ref _=>exact absurd rfl h
 |tr _=>exact absurd rfl h
 |g gy =>
  cases gy with
  |int i=>exact⟨i,rfl⟩
  |_=>exact absurd rfl h
theorem ok_slice{K:PySem.W.Frag}{lo hi:Bool}{fl fh:Int->Option Int}(b1:∀ i,bounds lo hi [.g (.int i)]=some (fl i,fh i))(b0:∀ y,bounds lo hi [y]≠none->∃ i,y = .g (.int i)){ρ:Nat->Addr}{σ:Store}{H:Hp}{x y:R}{vx vy:V}{r:R}{σ':Store}{Q:VK}(S:SR H ρ σ)(hx:RR H ρ σ.length x vx)(hy:RR H ρ σ.length y vy)(e:prim (.slice lo hi) [x,y] σ = .ok r σ')(q:Fin ρ σ.length H r σ' Q) :
 ∃ i,vy = .int i/\rSlA K vx (fl i) (fh i) H Q:=by
 change pSlice lo hi [x,y] σ=_ at e
 obtain⟨i,rfl⟩:∃ i,y = .g (.int i):=b0 y fun z=>by
  cases x with
  |tr _=>simp[pSlice] at e
  |g gx =>
   cases gx with
   |tup xs=>simp[pSlice,z,ofO] at e
   |_=>simp[pSlice] at e
  |ref k =>
   simp only[pSlice,z] at e
   split at e<;>simp[ofO] at e
 cases(show vy = .int i from hy)
 have hb:=b1 i
 cases x with
 |tr _=>simp[pSlice] at e
 |g gx =>
  cases gx with
  |tup xs =>
   simp only[pSlice,hb,ofO] at e
   obtain⟨a,vs,rfl,ha,h1⟩:=hx
   split at e
   ·cases e
   ·rename_i hn
    cases e
    refine⟨i,rfl,.inl ⟨a,vs,rfl,.of ha,?_,fun p hp => ?_⟩⟩
    ·rw[h1.length, ← cutIx_sIx, ← cutIx_sIx];exact hn
    ·obtain⟨e1,e2,tp⟩:=S.tup hp (.tup (cutV vs (fl i) (fh i)))
     exact q ρ (.ref p) _ e1 e2 ⟨p,_,rfl,upd_same,RGs.mono tp _ (cut_RGs h1 _ _)⟩
  |_=>simp[pSlice] at e
 |ref k =>
  obtain⟨hk,rfl⟩:=hx
  simp only[pSlice] at e
  split at e
  ·rename_i xs e3
   simp only[hb,ofO] at e
   cases e
   obtain⟨ws,h1,h2⟩:=S.lst e3
   refine⟨i,rfl,.inr ⟨_,ws,rfl,.of h1,fun p hp => ?_⟩⟩
   exact q.new S hp (fun _ z=>by cases z) fun H' ρ' tp e ep ag=>⟨_,by rw[ep];exact e,RGs.mono tp _ (cut_RGs h2 _ _)⟩
  ·cases e
end
end SN
namespace SN
open PySem PySem.Spec PyProof.Rows L2 MP
variable [Wd]
mutual
noncomputable def NK(h:Heap):G->Value->Prop
 | .int i,v=>∃ t,v = .int i t
 | .str x,v=>(∃ t,v = .str (sOf x) t)/\okS x=true
 | .tup xs,v=>∃ a its,v = .ref a/\IsTup h a its.toArray/\NKs h xs its
 |_,_=>False
noncomputable def NKs(h:Heap):List G->List Value->Prop
 | [],vs=>vs=[]
 |x::xs,vs=>∃ v r,vs=v::r/\NK h x v/\NKs h xs r
end
mutual
noncomputable def nkD:G->Nat
 | .tup xs=>nkDs xs+1
 |_=>1
noncomputable def nkDs:List G->Nat
 | []=>0
 |x::r=>nkD x+nkDs r
end
section
variable {prog:Program}{w:World}{E:Value->Shared->Prop}
mutual
theorem nk_hash:∀ (x:G) (v:Value) (A:Around) (s:Shared) (Q:Int->Shared->Prop),NK s.heap x v->A.units+gdep x<cLine->Q (nkH w x) {s with toks:=s.toks+nkD x}->wpAny (model prog w) A (pyHash v) Q E s
 | .int i,_,A,s,Q,k,_,q=>by obtain⟨t,rfl⟩:=k;exact wpAny_pyHash_int q
 | .str x,_,A,s,Q,k,_,q=>by obtain⟨⟨t,rfl⟩,_⟩:=k;exact wpAny_pyHash_str q
 | .non,_,A,s,Q,k,_,q=>by simp[NK] at k
 | .bl _,_,A,s,Q,k,_,q=>by simp[NK] at k
 | .tup xs,_,A,s,Q,k,hu,q=>by
  obtain⟨a,its,rfl,⟨o,ho,hc,n,hd⟩,hs⟩:=k
  simp only[gdep] at hu
  have hT:s.TypeIs (.ref a) "tuple":=⟨o,ho,hc⟩
  refine PySem.W.pyHash_slot hT F.slot_tuple_hash F.entry_tuple_hash (F.args_tuple_hash_1 _) (beq_builtin_none _) (Or.inr (by omega)) ?_
  show wpAny _ _ (Builtin.Tuple.tupleItemsOf (.ref a) >>= _) _ E s
  refine wpAny_bind (wpAny_tupleItemsOf ho hd (wpAny_bind ?_))
  rw[← Array.forIn_toList]
  refine nk_hashes xs its A.in1 s #[] _ hs (by simp only[Around.in1_units];omega) fun b hb => ?_
  show wpAny _ _ (retInt (Builtin.Tuple.tupleHashOf b.toList)) _ E _
  rw[hb]
  refine wpAny_bind (wpAny_mkInt (wpAny_pure ⟨_,_,rfl,?_⟩))
  simpa[nkH,nkD,Nat.add_assoc] using q
theorem nk_hashes:∀ (xs:List G) (vs:List Value) (A:Around) (s:Shared) (b:Array Int) (Q:Array Int->Shared->Prop),NKs s.heap xs vs->A.units+gdeps xs<cLine →
 (∀ b':Array Int,b'.toList=b.toList++nkHs w xs->Q b' {s with toks:=s.toks+nkDs xs}) →
 wpAny (model prog w) A (forIn vs b fun x r=>do let h ← pyHash x;pure PUnit.unit;pure (ForInStep.yield (r.push h))) Q E s
 | [],_,A,s,b,Q,k,_,q=>by cases k;exact wpAny_pure (q b (by simp[nkHs]))
 |x::xs,_,A,s,b,Q,k,hu,q=>by
  obtain⟨v,r,rfl,k1,k2⟩:=k
  simp only[gdeps] at hu
  rw[List.forIn_cons]
  refine wpAny_bind (wpAny_bind (nk_hash x v A s _ k1 (by omega) (wpAny_bind (wpAny_pure (wpAny_pure ?_)))))
  refine nk_hashes xs r A {s with toks:=s.toks+nkD x} _ Q k2 (by omega) fun b' hb => ?_
  have:=q b' (by simp[hb,nkHs])
  simpa[nkDs,Nat.add_assoc] using this
end
end
mutual
theorem NK.inj{h:Heap}:∀ {x y:G} {v:Value},NK h x v->NK h y v->x=y
 | .int _,y,_,a,b=>by
  obtain⟨t,rfl⟩:=a
  cases y with
  |int j=>obtain⟨u,e⟩:=b;cases e;rfl
  |str _=>obtain⟨⟨u,e⟩,_⟩:=b;cases e
  |tup _=>obtain⟨_,_,e,_⟩:=b;cases e
  |non=>simp[NK] at b
  |bl _=>simp[NK] at b
 | .str x,y,_,a,b=>by
  obtain⟨⟨t,rfl⟩,_⟩:=a
  cases y with
  |int j=>obtain⟨u,e⟩:=b;cases e
  |str z=>obtain⟨⟨u,e⟩,_⟩:=b;injection e with e1 _;rw[sOf_inj e1]
  |tup _=>obtain⟨_,_,e,_⟩:=b;cases e
  |non=>simp[NK] at b
  |bl _=>simp[NK] at b
 | .tup xs,y,_,a,b=>by
  obtain⟨p,its,rfl,⟨o,ho,_,n,hd⟩,hs⟩:=a
  cases y with
  |int j=>obtain⟨u,e⟩:=b;cases e
  |str z=>obtain⟨⟨u,e⟩,_⟩:=b;cases e
  |tup ys =>
   obtain⟨p',its',e,⟨o',ho',_,n',hd'⟩,hs'⟩:=b
   cases e
   rw[ho] at ho'
   cases ho'
   rw[hd] at hd'
   injection hd' with e1 _
   have e2:its=its':=by simpa using congrArg Array.toList e1
   subst e2
   rw[NKs.inj hs hs']
  |non=>simp[NK] at b
  |bl _=>simp[NK] at b
 | .non,_,_,a,_=>by simp[NK] at a
 | .bl _,_,_,a,_=>by simp[NK] at a
theorem NKs.inj{h:Heap}:∀ {xs ys:List G} {vs:List Value},NKs h xs vs->NKs h ys vs->xs=ys
 | [],ys,_,a,b=>by
  cases a
  cases ys with
  |nil=>rfl
  |cons _ _=>obtain⟨_,_,e,_⟩:=b;cases e
 |x::xs,ys,_,a,b=>by
  obtain⟨v,r,rfl,a1,a2⟩:=a
  cases ys with
  |nil=>cases b
  |cons y ys =>
   obtain⟨v',r',e,b1,b2⟩:=b
   cases e
   rw[NK.inj a1 b1,NKs.inj a2 b2]
end
mutual
theorem NK.stay{h h':Heap}(k:∀ a its,IsTup h a its->IsTup h' a its):∀ {x:G} {v:Value},NK h x v->NK h' x v
 | .int _,_,a=>a
 | .str _,_,a=>a
 | .tup xs,_,a=>by
  obtain⟨p,its,e,t,hs⟩:=a
  exact⟨p,its,e,k _ _ t,NKs.stay k hs⟩
 | .non,_,a=>by simp[NK] at a
 | .bl _,_,a=>by simp[NK] at a
theorem NKs.stay{h h':Heap}(k:∀ a its,IsTup h a its->IsTup h' a its):∀ {xs:List G} {vs:List Value},NKs h xs vs->NKs h' xs vs
 | [],_,a=>a
 |x::xs,_,a=>by
  obtain⟨v,r,e,a1,a2⟩:=a
  exact⟨v,r,e,NK.stay k a1,NKs.stay k a2⟩
end
mutual
theorem NK.reads{h:Heap}:∀ {x:G} {v:Value},NK h x v->(∃ as,Reads h v (dOf x) as)/\(dOf x).canLay0=true
 | .int i,_,a=>by obtain⟨t,rfl⟩:=a;exact⟨⟨_,.int _ _⟩,rfl⟩
 | .str x,_,a=>by
  obtain⟨⟨t,rfl⟩,hx⟩:=a
  refine⟨⟨_,.str _ _⟩,?_⟩
  show PyData.strOk (sOf x)=true
  unfold PyData.strOk sOf
  simpa using okS_all hx
 | .tup xs,_,a=>by
  obtain⟨p,its,rfl,⟨o,ho,hc,n,hd⟩,hs⟩:=a
  obtain⟨⟨as,ra⟩,hk⟩:=NKs.reads hs
  exact⟨⟨_,.tuple ho hc hd (by simpa using ra)⟩,hk⟩
 | .non,_,a=>by simp[NK] at a
 | .bl _,_,a=>by simp[NK] at a
theorem NKs.reads{h:Heap}:∀ {xs:List G} {vs:List Value},NKs h xs vs->(∃ as,ReadsAll h vs (dOfs xs) as)/\PyData.canLayAll0 (dOfs xs)=true
 | [],_,a=>by cases a;exact⟨⟨_,.nil⟩,rfl⟩
 |x::xs,_,a=>by
  obtain⟨v,r,rfl,a1,a2⟩:=a
  obtain⟨⟨as,ra⟩,k1⟩:=NK.reads a1
  obtain⟨⟨bs,rb⟩,k2⟩:=NKs.reads a2
  exact⟨⟨_,.cons ra rb⟩,by simp[dOfs,PyData.canLayAll0,k1,k2]⟩
end
mutual
theorem NK.peq{h h':Heap}:∀ {x y:G} {v u:Value},NK h x v->NK h' y u->MP.peq x y=decide (x=y)
 | .int i,y,_,_,a,b=>by
  cases y with
  |int j=>by_cases e:i=j<;>simp[MP.peq,e]
  |str _=>simp[MP.peq]
  |tup _=>simp[MP.peq]
  |non=>simp[NK] at b
  |bl _=>simp[NK] at b
 | .str x,y,_,_,a,b=>by
  cases y with
  |int j=>simp[MP.peq]
  |str z=>by_cases e:x=z<;>simp[MP.peq,e]
  |tup _=>simp[MP.peq]
  |non=>simp[NK] at b
  |bl _=>simp[NK] at b
 | .tup xs,y,_,_,a,b=>by
  cases y with
  |int j=>simp[MP.peq]
  |str _=>simp[MP.peq]
  |tup ys =>
   obtain⟨_,_,_,_,hs⟩:=a
   obtain⟨_,_,_,_,hs'⟩:=b
   simp only[MP.peq,NKs.peqs hs hs',G.tup.injEq]
  |non=>simp[NK] at b
  |bl _=>simp[NK] at b
 | .non,_,_,_,a,_=>by simp[NK] at a
 | .bl _,_,_,_,a,_=>by simp[NK] at a
theorem NKs.peqs{h h':Heap}:∀ {xs ys:List G} {vs us:List Value},NKs h xs vs->NKs h' ys us->MP.peqs xs ys=decide (xs=ys)
 | [],ys,_,_,a,b=>by cases ys<;>simp[MP.peqs]
 |x::xs,ys,_,_,a,b=>by
  cases ys with
  |nil=>simp[MP.peqs]
  |cons y ys =>
   obtain⟨_,_,_,a1,a2⟩:=a
   obtain⟨_,_,_,b1,b2⟩:=b
   simp only[MP.peqs,NK.peq a1 b1,NKs.peqs a2 b2,List.cons.injEq,Bool.decide_and]
end
section
variable {prog:Program}{w:World}{E:Value->Shared->Prop}
theorem nk_quiet:∀ (m:Nat) (x:G) (v:Value) (A:Around) (s:Shared) (Q:Bool->Shared->Prop),NK s.heap x v->gdep x<=m->Q true s->wpAny (model prog w) A (eqIsQuiet m v) Q E s
 |m,.int i,_,A,s,Q,k,_,q=>by obtain⟨t,rfl⟩:=k;rw[eqIsQuiet_byValue m rfl];exact wpAny_pure q
 |m,.str i,_,A,s,Q,k,_,q=>by obtain⟨⟨t,rfl⟩,_⟩:=k;rw[eqIsQuiet_byValue m rfl];exact wpAny_pure q
 |m,.non,_,A,s,Q,k,_,q=>by simp[NK] at k
 |m,.bl _,_,A,s,Q,k,_,q=>by simp[NK] at k
 |0,.tup xs,_,A,s,Q,k,hm,q=>by simp[gdep] at hm
 |m+1,.tup xs,_,A,s,Q,k,hm,q=>by
  obtain⟨a,its,rfl,⟨o,ho,hc,n,hd⟩,hs⟩:=k
  have hT:s.TypeIs (.ref a) "tuple":=⟨o,ho,hc⟩
  unfold eqIsQuiet
  refine wpAny_bind (wpAny_specialOf hT F.slot_tuple_eq.lookup ?_)
  show wpAny _ _ (isInstance (.ref a) (.type "tuple") >>= _) Q E s
  refine wpAny_bind (wpAny_isInstance hT isSubtype_tuple_tuple ?_)
  simp only[Bool.not_true,Bool.false_eq_true,if_false]
  refine wpAny_bind (wpAny_seqItems ho hd (wpAny_bind ?_))
  show wpAny _ _ (forIn its.toArray _ _) _ E s
  rw[← Array.forIn_toList]
  refine wpAny_forIn_list _ (fun rest r s'=>r.1=none/\s'=s/\∃ ys,NKs s.heap ys rest/\gdeps ys<=m) _ ?_ ?_ _ _ ⟨rfl,rfl,xs,hs,by simp only[gdep] at hm;omega⟩
  ·rintro v rest r s' ⟨hr,rfl,ys,h1,h2⟩
   cases ys with
   |nil=>cases h1
   |cons y ys =>
    obtain⟨v',r',e,k1,k2⟩:=h1
    cases e
    simp only[gdeps] at h2
    refine wpAny_bind (nk_quiet m y v A s' _ k1 (by omega) ?_)
    simp only[Bool.not_true,Bool.false_eq_true,if_false]
    exact wpAny_pure ⟨rfl,rfl,ys,k2,by omega⟩
  ·rintro⟨r1,r2⟩ s' ⟨hr,rfl,_⟩
   simp only at hr
   subst hr
   exact wpAny_pure q
end
noncomputable def nestKind(prog:Program)(w:World):HeapKind prog w G where
 is:=fun h x a=>NK h x (.ref a)/\gdep x<=8
 hash:=nkH w
 draws:=nkD
 room:=fun A=>A.units+160<cLine
 inj:=fun a b=>NK.inj a.1 b.1
 keeps:=fun {h h' k a d o es ep} x ho hd hs=>⟨NK.stay (fun b its t=>by
  obtain⟨q,hq,hc,n,hdq⟩:=t
  have ne:b≠d:=fun z=>by rw[z,ho] at hq;cases hq;rw[hd] at hdq;cases hdq
  exact⟨q,(hs.2 b ne).trans hq,hc,n,hdq⟩) x.1,x.2⟩
 pyHash:=fun {A E s k a Q} hu x q=>nk_hash k _ A s Q x.1 (by have:=x.2;omega) q
 eqBool:=fun {A E s x y a b Q} hu hx hy q=>by
  obtain⟨⟨as,ra⟩,ka⟩:=NK.reads hx.1
  obtain⟨⟨bs,rb⟩,kb⟩:=NK.reads hy.1
  have h2:=Nat.min_le_left (gdep x) (dOf y).depth
  have:=SeqAt.eqAt_reads (dOf x) (dOf y) A s (.ref a) (.ref b) as bs ra rb ka kb (by rw[dOf_depth];have:=hx.2;omega)
  rw[dOf_eqv,NK.peq hx.1 hy.1] at this
  exact this prog w E Q q
 quiet:=fun {A E s k a Q} x q=>nk_quiet 8 k _ A s Q x.1 x.2 q
section
variable {prog:Program}{w:World}{A:Around}{E:Value->Shared->Prop}{s:Shared}
end
mutual
theorem NK.of{P:Program}{w:World}{H:Hp}{h:Heap}(hok:HOk P w H h):∀ {x:G} {v:V} {u:Value},RG H x v->RelV v u->keyG x=true->NK h x u
 | .int i,_,_,r,e,_=>by cases r;exact e
 | .str x,_,_,r,e,_=>by obtain⟨rfl,hx⟩:=r;exact⟨e,hx⟩
 | .tup xs,_,_,r,e,k=>by
  obtain⟨a,vs,rfl,ha,hs⟩:=r
  cases e
  obtain⟨_,its,rv,t⟩:=hok a _ ha
  exact⟨a,its,rfl,t,NKs.of hok hs rv k⟩
 | .non,_,_,_,_,k=>by simp[keyG] at k
 | .bl _,_,_,_,_,k=>by simp[keyG] at k
theorem NKs.of{P:Program}{w:World}{H:Hp}{h:Heap}(hok:HOk P w H h):∀ {xs:List G} {vs:List V} {us:List Value},RGs H xs vs->Vals vs us->keyGs xs=true->NKs h xs us
 | [],_,_,r,e,_=>by cases r;cases e;rfl
 |x::xs,_,_,r,e,k=>by
  obtain⟨v,vs,rfl,r1,r2⟩:=r
  simp only[keyGs,Bool.and_eq_true] at k
  cases e with
  |cons e1 e2=>exact⟨_,_,rfl,NK.of hok r1 e1 k.1,NKs.of hok r2 e2 k.2⟩
end
theorem tkey_keyG{x:G}(h:tkey x=true):keyG x=true:=by
 cases x with
 |tup xs=>exact h
 |_=>simp[tkey] at h
section
variable {X:Cx}{pins:List (Addr × Obj)}{σ:L2.St}{H:Hp}{s:Shared}{a:Addr}{ws:List (Key × V)}{ob:Obj}
theorem retag{u v:HO}(I:Inv X pins σ H s)(e:H a=some u)(nt:∀ xs,u ≠ .tup xs)(no:∀ y,u ≠ .own y)(nb:∀ ps,u ≠ .tbl ps)(nz:∀ o x,X.H₀ a≠some (.frz o x))(ok:∀ H',(∀ b xs,H b=some (.tup xs)->H' b=some (.tup xs))->(∀ b y,H b=some (.own y)->H' b=some (.own y))->ObjOk X.prog X.w H' s.heap a v):Inv X pins σ (upd H a v) s:=by
 have ne:∀ b,H b=none->b≠a:=fun b n z=>by rw[z,e] at n;cases n
 have tp:∀ b xs,H b=some (.tup xs)->upd H a v b=some (.tup xs):=fun b xs q=>by
  rw[upd_ne fun z=>by rw[z,e] at q;cases q;exact nt xs rfl];exact q
 have ow:∀ b y,H b=some (.own y)->upd H a v b=some (.own y):=fun b y q=>by
  rw[upd_ne fun z=>by rw[z,e] at q;cases q;exact no y rfl];exact q
 refine⟨I.ok,I.os,I.bare,⟨I.base.keep,I.base.slot,fun b o h n hx => ?_,I.base.there,fun b xs h=>tp b xs (I.base.tups b xs h),fun b o x h => ?_,fun b ps h => ?_⟩,I.loc,I.cell,?_,fun x c h => ?_,fun p hp => ?_,fun b x h => ?_,I.len⟩
 ·have:=I.base.free b o h n hx
  rw[upd_ne (ne b this)];exact this
 ·rw[upd_ne fun z=>nz o x (by rw[← z];exact h)]
  exact I.base.frzs b o x h
 ·obtain⟨m,q⟩:=I.base.tbls b ps h
  exact⟨m,by rw[upd_ne fun z=>by rw[z,e] at q;cases q;exact nb _ rfl];exact q⟩
 ·rw[upd_ne (ne _ I.free)];exact I.free
 ·have:=I.freeC x c h
  rw[upd_ne (ne c this)];exact this
 ·obtain⟨h1,h2,h3⟩:=I.pin p hp
  exact⟨h1,by rw[upd_ne (ne _ h2)];exact h2,h3⟩
 ·by_cases hb:b=a
  ·subst hb
   rw[upd_same] at h
   cases h
   exact ok _ tp ow
  ·rw[upd_ne hb] at h
   exact(I.hok b x h).stay (fun _ _ _ q=>q) (fun c q=>ow c _ q) tp
theorem noF(I:Inv X pins σ H s)(e:H a=some (.dK ws)):∀ o x,X.H₀ a≠some (.frz o x):=fun o x h=>by
 have:=I.base.frzs a o x h
 rw[e] at this
 cases this
theorem dg_at{o:Obj}(I:Inv X pins σ H s)(e:H a=some (dG a o)):s.heap.get? a=some o:=(I.hok a _ e).1
theorem dg_ok{P:Program}{w:World}{H:Hp}{h:Heap}{o:Obj}(e:h.get? a=some o):ObjOk P w H h a (dG a o):=⟨e,⟨o,e⟩,fun h1 h2 e1 k=>k o e1⟩
theorem RN.his{P:Program}{w:World}{h:Heap}(hok:HOk P w H h):∀ {kvs:List (G × G)} {xs:List (G × Addr × Value)},RN H kvs xs->(kvs.all fun p=>tkey p.1)=true->∀ x∈xs,NK h x.1 (.ref x.2.1)
 | [],_,r,_=>by cases r;intro x hx;cases hx
 |p::kvs,_,r,k=>by
  obtain⟨b,v,u,t,rfl,h1,h2,h3,h4⟩:=r
  simp only[List.all_cons,Bool.and_eq_true] at k
  intro x hx
  rcases List.mem_cons.mp hx with rfl|hx
  ·exact NK.of hok h1 rfl (tkey_keyG k.1)
  ·exact RN.his hok h4 k.2 x hx
theorem RN.keys:∀ {kvs:List (G × G)} {xs:List (G × Addr × Value)},RN H kvs xs->xs.map (·.1)=kvs.map (·.1)
 | [],_,r=>by cases r;rfl
 |p::kvs,_,r=>by
  obtain⟨b,v,u,t,rfl,_,_,_,h4⟩:=r
  simp[RN.keys h4]
theorem RN.len{kvs:List (G × G)}{xs:List (G × Addr × Value)}(r:RN H kvs xs):xs.length=kvs.length:=by
 have:=congrArg List.length r.keys
 simpa using this
theorem RN.yes{k w:G}:∀ {kvs:List (G × G)} {xs:List (G × Addr × Value)},RN H kvs xs->dget kvs k=some w->∃ b v u,atKey xs k=some (b,u)/\RG H w v/\RelV v u
 | [],_,r,e=>by simp[dget] at e
 |p::kvs,_,r,e=>by
  obtain⟨b,v,u,t,rfl,h1,h2,h3,h4⟩:=r
  obtain⟨j,g⟩:=p
  simp only[dget] at e
  split at e
  ·rename_i z
   cases e
   exact⟨b,v,u,by simp[atKey,z],h2,h3⟩
  ·rename_i z
   obtain⟨b',v',u',k1,k2,k3⟩:=RN.yes h4 e
   refine⟨b',v',u',?_,k2,k3⟩
   simpa[atKey,List.find?_cons,z] using k1
theorem RN.no{k:G}:∀ {kvs:List (G × G)} {xs:List (G × Addr × Value)},RN H kvs xs->dget kvs k=none->atKey xs k=none
 | [],_,r,e=>by cases r;rfl
 |p::kvs,_,r,e=>by
  obtain⟨b,v,u,t,rfl,h1,h2,h3,h4⟩:=r
  obtain⟨j,g⟩:=p
  simp only[dget] at e
  split at e
  ·cases e
  ·rename_i z
   have:=RN.no h4 e
   simpa[atKey,List.find?_cons,z] using this
theorem pe_dtg0{pos:Pos}:PE X (.Dict [] [] pos) (fun st H Q=>∀ p o,H p=none->RawO Wd.w o []->(p == sysModules)=false->Q (.ref p) (upd H p (dG p o))):=by
 intro pins s σ H Q I h
 refine thn (pe_dnewK pins s σ H (fun v H'=>∃ p,v = .ref p/\H p=none/\H'=upd H p (.dK [])) I fun p hp=>⟨p,rfl,hp,rfl⟩) fun v s1 ⟨x,H1,I1,r1,p,e,hp,e1⟩ => ?_
 subst e e1
 cases r1
 obtain⟨_,hs,vs,rv,o,es,ep,ho,hc,hd,_,hpr,_⟩:=I1.hok p _ upd_same
 cases rv
 have he:es.toList=[]:=by
  have:=hpr.length
  simpa using this
 have I2:=retag (v:=dG p o) I1 upd_same (fun _ z=>by cases z) (fun _ z=>by cases z) (fun _ z=>by cases z) (noF I1 upd_same) fun H' _ _=>dg_ok ho
 rw[upd_upd] at I2
 exact⟨.ref p,_,I2,rfl,h p o hp ⟨hc,es,ep,hd,by rw[he];rfl⟩ hs⟩
end
end SN
namespace SN
open PySem PySem.Spec PyProof.Rows L2
class Cl where
 cls:List String
 consts:List (String × MP.G)
variable [Cl]
structure Ch(fs ch:List Addr)(h h':Heap):Prop where
 keep:∀ b o,h.get? b=some o->b∉fs->b∉ch->h'.get? b=some o
 slot:∀ b o,h.get? b=some o->b∉ch->∃ sl,h'.get? b=some {o with slots:=sl}
 there:∀ b o,h.get? b=some o->∃ o',h'.get? b=some o'
theorem Ch.refl{fs ch:List Addr}{h:Heap}:Ch fs ch h h:=⟨fun _ _ e _ _=>e,fun _ o e _=>⟨o.slots,e⟩,fun _ o e=>⟨o,e⟩⟩
theorem Ch.trans{fs c1 c2:List Addr}{h h1 h2:Heap}(a:Ch fs c1 h h1)(b:Ch fs c2 h1 h2):Ch fs (c1++c2) h h2 where
 keep:=fun x o e hf hc=>b.keep x o (a.keep x o e hf fun z=>hc (List.mem_append_left _ z)) hf fun z=>hc (List.mem_append_right _ z)
 slot:=fun x o e hc=>by
  obtain⟨sl,e1⟩:=a.slot x o e fun z=>hc (List.mem_append_left _ z)
  obtain⟨sl',e2⟩:=b.slot x _ e1 fun z=>hc (List.mem_append_right _ z)
  exact⟨sl',e2⟩
 there:=fun x o e=>by
  obtain⟨o',e1⟩:=a.there x o e
  exact b.there x o' e1
theorem Ch.upd1{fs:List Addr}{h:Heap}{a:Addr}{o:Obj}{vs:Array Value}(f:Array Value->Array Value)(ho:h.get? a=some o)(hd:o.data = .fields vs):Ch fs [a] h (h.update a (Obj.mapFields f)) where
 keep:=fun b u e _ hc=>by rw[Heap.get?_update_other _ _ fun z=>hc (by simp[z])];exact e
 slot:=fun b u e hc=>⟨u.slots,by rw[Heap.get?_update_other _ _ fun z=>hc (by simp[z])];exact e⟩
 there:=fun b u e=>by
  by_cases z:a=b
  ·subst z
   exact⟨_,Heap.get?_update_self _ ho (Obj.isFreed_of_fields (Obj.data_mapFields hd _))⟩
  ·exact⟨u,by rw[Heap.get?_update_other _ _ z];exact e⟩
theorem Ch.push{fs ch:List Addr}{h:Heap}(o:Obj):Ch fs ch h (h.push o) :=
 ⟨fun _ _ e _ _=>Heap.get?_push_of_some _ e,fun _ u e _=>⟨u.slots,Heap.get?_push_of_some _ e⟩,fun _ u e=>⟨u,Heap.get?_push_of_some _ e⟩⟩
theorem Ch.slots{fs ch:List Addr}{h h':Heap}(x:Heap.SlotsOnly fs h h'):Ch fs ch h h' :=
 ⟨fun b o e hf _=>(x.2.1 b hf).trans e,fun b o e _=>x.2.2 b o e,fun b o e=>let ⟨_,q⟩:=x.2.2 b o e;⟨_,q⟩⟩
noncomputable def Tb(h:Heap)(H:Hp)(lo:Heap)(e:Addr)(v:Value):Prop:=v = .none\/∃ T oT ts fl,v = .ref T/\T≠e/\lo.get? T=none/\H T=none/\h.get? T=some oT/\oT.data = .fields ts/\ts[3]?=some fl
noncomputable def XO(h:Heap)(H:Hp)(lo:Heap)(e:Addr)(C:Value)(tb:Bool):Prop :=
 ∃ oe vs v,h.get? e=some oe/\(oe.cls=C/\oe.dict=none)/\oe.data = .fields vs/\lo.get? e=none/\H e=none/\vs[1]?=some v/\Tb h H lo e v/\(tb=true->v ≠ .none)
noncomputable def Rec(h:Heap)(H:Hp)(lo:Heap)(ch:List Addr):Prop:=∀ b∈ch,lo.get? b=none/\H b=none/\∃ ob vs,h.get? b=some ob/\ob.data = .fields vs
section
variable {M:Model}{A:Around}{E:Value->Shared->Prop}{s:Shared}{base:Heap}{env:PySem.Env}{outer:List PySem.Env}{L e:Addr}{H:Hp}{lo:Heap}{C:Value}{tb:Bool}{Q:Unit->Shared->Prop}
theorem mf_dict(f:Array Value->Array Value)(o:Obj):(o.mapFields f).dict=o.dict:=by
 obtain⟨c,d,dt,sl⟩:=o
 cases dt<;>rfl
theorem fr_rec(hl:s.heap.FunFrames base (env::outer)){oe:Obj}{vs:Array Value}(he:s.heap.get? e=some oe)(hd:oe.data = .fields vs):e∉frs (env::outer):=fun hm=>by
 obtain⟨_,o,ho,hn⟩:=hl.mem hm
 rw[he] at ho
 cases ho
 exact hn vs hd
theorem entry_x{head:Value}{hn:Bool}{oe:Obj}{vs:Array Value}(hfr:A.frames=some (env::outer))(hl:s.heap.FunFrames base (env::outer))(hf:env.frame=some L)(he:s.heap.get? e=some oe)(hc:oe.cls=C/\oe.dict=none)(hd:oe.data = .fields vs)
 (hv:1<vs.size) (h1:lo.get? e=none) (h2:H e=none) (hlo:∀ b,s.heap.objs.size<=b->lo.get? b=none) (hH:∀ b,s.heap.objs.size<=b->H b=none)
 (h:∀ h',Ch (frs (env::outer)) [e] s.heap h'->XO h' H lo e C true->Q () {s with heap:=h'}) :
 wpAny M A (do let fr ← frameOf env;let pl ← entryPlaceOf L hn;let tr ← EntryCells.newEntry head fr .none (rawInt L) .none pl;setField (.ref e) 1 tr) Q E s:=by
 have hne:=fr_rec hl he hd
 refine wpAny_bind (wpAny_frameOf_fun hfr hl hf fun k hk=>wpAny_bind (wpAny_entryPlaceOf fun pl hpl => ?_))
 delta EntryCells.newEntry newFields
 refine wpAny_bind (wpAny_newObj_type ?_ (hpl.sizeOk5 _ _ _ _ _))
 generalize hT:({cls:=.type "traceback",dict:=none,data:=.fields ([head,.ref L,.none,rawInt L,.none]++(if pl.isEmpty then List.replicate 6 Value.none else pl)).toArray}:Obj)=oT
 have ek:k.get? e=some oe:=(hk.2.1 e hne).trans he
 have ep:(k.push oT).get? e=some oe:=Heap.get?_push_of_some _ ek
 have hsz:k.objs.size=s.heap.objs.size:=hk.1
 have neq:k.objs.size≠e:=Nat.ne_of_gt (Heap.lt_size ek)
 refine wpAny_setField ep hd hv (h _ ?_ ?_)
 ·have q:=((Ch.slots (ch:=[]) hk).trans (Ch.push (ch:=[]) oT)).trans (Ch.upd1 (fs:=frs (env::outer)) (fun vs=>vs.setIfInBounds 1 (.ref k.objs.size)) ep hd)
  exact q
 ·have dm:=Obj.data_mapFields hd (·.setIfInBounds 1 (Value.ref k.objs.size))
  refine⟨_,_,.ref k.objs.size,Heap.get?_update_self _ ep (Obj.isFreed_of_fields dm),⟨(Obj.cls_mapFields _ _).trans hc.1,(mf_dict _ _).trans hc.2⟩,dm,h1,h2,by simp[hv],.inr ⟨k.objs.size,oT,_,rawInt L,rfl,neq,hlo _ (by omega),hH _ (by omega),?_,by rw[← hT],by simp⟩,fun _ z=>by cases z⟩
  rw[Heap.get?_update_other _ _ (Ne.symm neq)]
  exact Heap.get?_push_at rfl (by rw[← hT];rfl)
theorem note_x(hfr:A.frames=some (env::outer))(hl:s.heap.FunFrames base (env::outer))(hf:env.frame=some L)(hx:XO s.heap H lo e C tb)(hlo:∀ b,s.heap.objs.size<=b->lo.get? b=none)(hH:∀ b,s.heap.objs.size<=b->H b=none)
 (h:∀ h' ch,Rec s.heap H lo ch->Ch (frs (env::outer)) ch s.heap h'->XO h' H lo e C true->Q () {s with heap:=h'}):wpAny M A (noteFrame (.ref e) env) Q E s:=by
 obtain⟨oe,vs,v,he,hc,hd,l1,l2,h1,ht,_⟩:=hx
 have hv:1<vs.size:=(Array.getElem?_eq_some_iff.mp h1).1
 have r1:Rec s.heap H lo [e]:=fun b hb=>by
  have:=List.mem_singleton.mp hb
  subst this
  exact⟨l1,l2,oe,vs,he,hd⟩
 unfold noteFrame
 simp only[hf]
 refine wpAny_bind (wpAny_field he hd h1 ?_)
 rcases ht with rfl | ⟨T,oT,ts,fl,rfl,hTe,lT,hT,gT,dT,t3⟩
 ·rw[if_neg (by decide)]
  exact entry_x hfr hl hf he hc hd hv l1 l2 hlo hH fun h' q x=>h h' [e] r1 q x
 ·rw[if_pos (show(Value.ref T !=Value.none)=true by simp)]
  refine wpAny_bind (wpAny_field gT dT t3 ?_)
  have h3:3<ts.size:=(Array.getElem?_eq_some_iff.mp t3).1
  by_cases hq:(fl == rawInt L)=true
  ·rw[if_pos hq]
   exact wpAny_pure (h s.heap [] (fun b hb=>by simp at hb) Ch.refl ⟨oe,vs,_,he,hc,hd,l1,l2,h1,.inr ⟨T,oT,ts,fl,rfl,hTe,lT,hT,gT,dT,t3⟩,fun _ z=>by cases z⟩)
  ·rw[if_neg hq]
   refine wpAny_bind (wpAny_setField gT dT h3 ?_)
   have cT:=Ch.upd1 (fs:=frs (env::outer)) (fun vs=>vs.setIfInBounds 3 Value.none) gT dT
   have e2:(s.heap.update T (Obj.mapFields (·.setIfInBounds 3 Value.none))).get? e=some oe:=by rw[Heap.get?_update_other _ _ hTe];exact he
   have hl2:(s.heap.update T (Obj.mapFields (·.setIfInBounds 3 Value.none))).FunFrames base (env::outer):=hl.of_keeps fun b o hb hn=>⟨o,by
    rw[Heap.get?_update_other _ _ fun z=>by subst z;rw[gT] at hb;cases hb;exact hn ts dT];exact hb,rfl⟩
   refine entry_x (s:={s with heap:=s.heap.update T (Obj.mapFields (·.setIfInBounds 3 Value.none))}) hfr hl2 hf e2 hc hd hv l1 l2 (by simpa using hlo) (by simpa using hH) fun h' q x=>h h' ([T]++[e]) (fun b hb => ?_) (cT.trans q) x
   rcases List.mem_append.mp hb with z|z
   ·have:=List.mem_singleton.mp z
    subst this
    exact⟨lT,hT,oT,ts,gT,dT⟩
   ·exact r1 b z
theorem flight_x{fr:Option Addr}{fs:List Addr}(hx:XO s.heap H lo e C tb)(h:∀ h' ch,Rec s.heap H lo ch->Ch fs ch s.heap h'->XO h' H lo e C tb->Q () {s with heap:=h'}):wpAny M A (setFlight (.ref e) fr) Q E s:=by
 obtain⟨oe,vs,v,he,hc,hd,l1,l2,h1,ht,hb⟩:=hx
 unfold setFlight
 refine wpAny_bind (wpAny_field he hd h1 ?_)
 rcases ht with rfl | ⟨T,oT,ts,fl,rfl,hTe,lT,hT,gT,dT,t3⟩
 ·rw[if_neg (by decide)]
  exact wpAny_pure (h s.heap [] (fun b hb=>by simp at hb) Ch.refl ⟨oe,vs,_,he,hc,hd,l1,l2,h1,.inl rfl,hb⟩)
 ·rw[if_pos (show(Value.ref T !=Value.none)=true by simp)]
  have h3:3<ts.size:=(Array.getElem?_eq_some_iff.mp t3).1
  refine wpAny_setField gT dT h3 (h _ [T] (fun b hb => ?_) (Ch.upd1 _ gT dT) ?_)
  ·have:=List.mem_singleton.mp hb
   subst this
   exact⟨lT,hT,oT,ts,gT,dT⟩
  ·refine⟨oe,vs,_,by rw[Heap.get?_update_other _ _ hTe];exact he,hc,hd,l1,l2,h1,.inr ⟨T,_,_,fr.elim Value.none fun f=>rawInt f,rfl,hTe,lT,hT,Heap.get?_update_self _ gT (Obj.isFreed_of_fields (Obj.data_mapFields dT _)),Obj.data_mapFields dT _,by simp[h3]⟩,fun _ z=>by cases z⟩
theorem came_x{fs:List Addr}(hx:XO s.heap H lo e C true)(h:∀ h' ch,Rec s.heap H lo ch->Ch fs ch s.heap h'->XO h' H lo e C true->E (.ref e) {s with heap:=h'}):cameBackBy M A env E (.ref e) s:=by
 have hx2:=hx
 obtain⟨oe,vs,v,he,hc,hd,l1,l2,h1,ht,hb⟩:=hx2
 unfold cameBackBy
 refine wpAny_bind (wpAny_field he hd h1 ?_)
 have:(v == Value.none)=false:=by simpa using hb rfl
 rw[this]
 simp only[Bool.false_eq_true,if_false]
 exact flight_x hx h
end
section
variable {X:Cx}{σ:L2.St}{H:Hp}{s:Shared}{pins:List (Addr × Obj)}
noncomputable def Old(X:Cx)(pins:List (Addr × Obj))(g:Heap):Prop:=∀ b,g.get? b=none->X.s₀.heap.get? b=none/\∀ p∈pins,p.1≠b
theorem old0:Old X [] X.s₀.heap:=fun b n=>⟨n,fun p hp=>by simp at hp⟩
theorem inv_ch{ch:List Addr}{h' g:Heap}(I:Inv X pins σ H s)(hp:X.pn=[])(hg:Old X pins g)(hr:Rec s.heap H g ch)(c:Ch (frs X.stack) ch s.heap h'):Inv X pins σ H {s with heap:=h'}:=by
 have nch:∀ b u,H b=some u->b∉ch:=fun b u e z=>by rw[(hr b z).2.1] at e;cases e
 have nfs:∀ b u,H b=some u->b∉frs X.stack:=fun b u e z=>by rw[I.stkFree b z] at e;cases e
 refine I.call (g':=s.gens) (d':=s.drawn) (t':=s.toks) (ch:=ch) ⟨fun b o e _ hf hc=>c.keep b o e hf hc,fun b o e _ _ hc=>c.slot b o e hc,fun _ _ _ n _=>n,fun b o e _=>c.there b o e,fun _ _ q=>q,fun _ _ _ q=>q,fun _ ps q=>⟨#[],by rw[q];simp⟩⟩ (fun b u e => ?_) I.bare fun b hb => ?_
 ·refine(I.hok b u e).stay (fun d v hd q => ?_) (fun _ q=>q) fun _ _ q=>q
  rcases hd with z|z
  ·subst z;exact c.keep _ v q (nfs _ u e) (nch _ u e)
  ·exact c.keep d v q (nfs d _ z) (nch d _ z)
 ·obtain⟨l,n,ob,vs,g,hd⟩:=hr b hb
  refine⟨.inr (hg b l).1,fun z => ?_,fun x a ha z => ?_,fun p hp'=>(hg b l).2 p (by rw[hp] at hp';simpa using hp')⟩
  ·obtain⟨m,⟨o,es,ep,ho,hd',_⟩,_⟩:=I.loc
   rw[← z,g] at ho;cases ho;rw[hd] at hd';cases hd'
  ·obtain⟨v,o,ho,hd'⟩:=I.cell x a ha
   rw[z,g] at ho;cases ho;rw[hd] at hd';cases hd'
noncomputable def XE(X:Cx)(Ξ:String->Hp->Prop):Value->Shared->Prop:=fun v s'=>∃ e c C σ H tb,v = .ref e/\c∈Cl.cls/\X.mg (Str.ofString c)=some (.ref C)/\Inv X [] σ H s'/\XO s'.heap H X.s₀.heap e (.ref C) tb/\Ξ c H
structure Bdy(X:Cx):Prop where
 stk:X.stack=X.env::X.outer
 fr:X.env.frame=some X.env.locals
 pn:X.pn=[]
 ex:X.ex=[]
theorem passes_x{Ξ:String->Hp->Prop}(B:Bdy X):PassesOwn (model X.prog X.w) X.A X.env (XE X Ξ):=by
 rintro v s' ⟨e,c,C,σ,H,tb,rfl,hm,hc,I,x,q⟩
 unfold notedBy
 have hfr:=I.ok.frames
 have hl:=I.stack
 rw[B.stk] at hfr hl
 refine note_x hfr hl B.fr x (fun b hb=>Heap.get?_none_of_le (Nat.le_trans I.sz hb)) (fun b hb=>I.hok.fresh hb) fun h' ch r c' x' => ?_
 rw[← B.stk] at c'
 have I':=inv_ch I B.pn old0 r c'
 refine came_x (fs:=frs X.stack) x' fun h'' ch' r' c'' x'' => ?_
 exact⟨e,c,C,σ,H,true,rfl,hm,hc,inv_ch I' B.pn old0 r' c'',x'',q⟩
theorem leave_x{Ξ:String->Hp->Prop}{v:Value}{s':Shared}{E:Value->Shared->Prop}{Q:Unit->Shared->Prop}(B:Bdy X)(h:XE X Ξ v s')(k:∀ s'',XE X Ξ v s''->Q () s''):wpAny (model X.prog X.w) X.A (leaving X.env v) Q E s':=by
 obtain⟨e,c,C,σ,H,tb,rfl,hm,hc,I,x,q⟩:=h
 unfold leaving
 have hfr:=I.ok.frames
 have hl:=I.stack
 rw[B.stk] at hfr hl
 refine wpAny_bind (note_x hfr hl B.fr x (fun b hb=>Heap.get?_none_of_le (Nat.le_trans I.sz hb)) (fun b hb=>I.hok.fresh hb) fun h' ch r c' x' => ?_)
 rw[← B.stk] at c'
 have I':=inv_ch I B.pn old0 r c'
 exact flight_x (fs:=frs X.stack) x' fun h'' ch' r' c'' x''=>k _ ⟨e,c,C,σ,H,true,rfl,hm,hc,inv_ch I' B.pn old0 r' c'',x'',q⟩
end
noncomputable def CX1(P:Program)(w:World)(mg:Str->Option Value):CXT:=fun outer H s E v s'=>∃ e c C H' tb,v = .ref e/\c∈Cl.cls/\mg (Str.ofString c)=some (.ref C)/\s'.os=s.os/\AllBare s'.gens/\Un (frs outer) [] H H' s.heap s'.heap/\HOk P w H' s'.heap ∧
 XO s'.heap H' s.heap e (.ref C) tb/\E (.type c) none H'
section
variable {P:Program}{w:World}{K:PySem.W.Frag}{mg:Str->Option Value}{base:Heap}
theorem pass1{X:Cx}:Passes (CX1 P w mg) X E0:=fun _ _ _ _ _ _ _ h=>by
 obtain⟨e,c,C,H',tb,_,_,_,_,_,_,_,_,z⟩:=h
 exact z.elim
theorem fn_to0{k:Nat}{f:Addr}{fd:FuncData}{ps:List Str}{sp:Sp}(F:FnOk P w K mg base (CX1 P w mg) k f fd ps sp):FnOk P w K mg base CX0 k f fd ps (fun vs H Q _=>sp vs H Q E0):=by
 refine⟨fun vs H Q _ h=>F.len vs H Q E0 h,fun A outer s H args us vs Q E hr e0 hb hv hs => ?_⟩
 refine codeAny_mono (F.run A outer s H args us vs Q E0 hr e0 hb hv hs) fun r s' h => ?_
 cases r with
 |ok f=>cases f<;>exact h
 |error e =>
  obtain⟨_,_,_,_,_,_,_,_,_,_,_,_,_,z⟩:=h
  exact z.elim
theorem fn_okX{x qual:Str}{st:Stmt}{f:Addr}{fd:FuncData}{N ps:List Str}{k:Nat}{sp:Sp}(F:Fun K x qual st f fd)(S:FnScope N ps (defScope st))(len:∀ vs H Q E,sp vs H Q E->vs.length=ps.length)
 (hbody:∀ (cdv:Value) (A:Around) (outer:List PySem.Env) (s:Shared) (H:Hp) (vs:List V) (Q:VK) (E:XK),Room k (A.deeper (envOfC qual (defScope st) s.heap.objs.size f cdv))->sp vs H Q E →
   ∀ X0:Cx,X0=cxOf (CX1 P w mg) P w K mg base N qual (defScope st) f cdv A outer s H E->Bdy X0->∃ t,PSs (X0.wish (XE X0 fun c H'=>E (.type c) none H')) (defBody st) t/\t {nx:=fun _ H'=>Q .non H',rt:=Q} (L2.start N vs) H):FnOk P w K mg base (CX1 P w mg) (k+1) f fd ps sp:=by
 obtain⟨oc,od,kV,doc,pm,an,cdv,ct,osl,rfl,lk,hcd⟩:=F.ex
 refine fn_of lk hcd S len fun A outer s H vs Q E hr hsp => ?_
 have B:Bdy (cxOf (CX1 P w mg) P w K mg base N qual (defScope st) f cdv A outer s H E):=⟨rfl,rfl,rfl,rfl⟩
 obtain⟨t,h,q⟩:=hbody cdv A outer s H vs Q E hr hsp _ rfl B
 refine⟨t,fun pins s1 σ H1 D I hw => ?_,q⟩
 refine wpAny_mono (h pins s1 σ H1 D (I.wish _) hw) (fun _ _ q=>q.unwish) fun v s' z => ?_
 refine leave_x (X:=cxOf (CX1 P w mg) P w K mg base N qual (defScope st) f cdv A outer s H E) B z fun s'' z' => ?_
 obtain⟨e,c,C,σ',H',tb,rfl,hm,hc,I',x',q'⟩:=z'
 exact⟨e,c,C,H',tb,rfl,hm,hc,I'.os,I'.bare,I'.base,I'.hok,x',q'⟩
end
end SN
namespace SN
open PySem PySem.Spec PyProof.Rows L2 MP
noncomputable def gl(sc:Scope)(x:Str):Bool:=sc.names.lookup x == some .globalImplicit
noncomputable def isS(x:Str)(n:String):Bool:=decide (x=Str.ofString n)
noncomputable def visB(sc:Scope)(x:Str):Bool:=match sc.names.lookup x with
 |some .local=>true
 |some .cell=>true
 |some .free=>true
 |_=>false
noncomputable def notSet:Expr->Bool
 | .Set .. => false
 |_=>true
noncomputable def notSlice:Expr->Bool
 | .Slice .. => false
 |_=>true
noncomputable def whenS{α:Type}(o:Option α)(A:α->Bool):Bool:=match o with
 |some a=>A a
 |none=>false
theorem whenS_inv{α:Type}{o:Option α}{A:α->Bool}(h:whenS o A=true):∃ a,o=some a/\A a=true:=by
 cases o with
 |none=>cases h
 |some a=>exact⟨a,rfl,h⟩
noncomputable def l1{α:Type}:List α->Option α
 | []=>none
 |x::r=>if r.isEmpty then some x else none
theorem l1_inv{α:Type}{xs:List α}{x:α}(h:l1 xs=some x):xs=[x]:=by
 cases xs with
 |nil=>cases h
 |cons y r =>
  cases r with
  |nil=>cases h;rfl
  |cons _ _=>cases h
noncomputable def l2{α:Type}:List α->Option (α × α)
 | []=>none
 |x::r=>(l1 r).map fun y=>(x,y)
theorem l2_inv{α:Type}{xs:List α}{x y:α}(h:l2 xs=some (x,y)):xs=[x,y]:=by
 cases xs with
 |nil=>cases h
 |cons z r =>
  obtain⟨w,e,e2⟩:=Option.map_eq_some_iff.mp h
  cases e2
  rw[l1_inv e]
inductive Vw where
 |name (x:Str) (p:Pos)
 |con (c:Const)
 |bin (a:Expr) (op:Operator) (b:Expr)
 |un (op:UnaryOp) (a:Expr)
 |bool (op:BoolOp) (vs:List Expr) (p:Pos)
 |ife (c a b:Expr)
 |cmp (a:Expr) (ops:List CmpOp) (bs:List Expr)
 |sub (a b:Expr)
 |slice (l u s:Option Expr)
 |tup (es:List Expr)
 |lst (es:List Expr)
 |dct (ks:List (Option Expr)) (vs:List Expr)
 |call (f:Expr) (as:List Expr) (kw:List Keyword) (p:Pos)
 |attr (o:Expr) (m:Str) (p:Pos)
 |comp (el:Expr) (gens:List Comprehension) (scope:Scope) (p:Pos)
 |other
noncomputable def vw:Expr->Vw
 | .Name x p=>.name x p
 | .Constant c _ _=>.con c
 | .BinOp a op b _=>.bin a op b
 | .UnaryOp op a _=>.un op a
 | .BoolOp op vs p=>.bool op vs p
 | .IfExp c a b _=>.ife c a b
 | .Compare a ops bs _=>.cmp a ops bs
 | .Subscript a b _=>.sub a b
 | .Slice l u s _=>.slice l u s
 | .Tuple es _ _=>.tup es
 | .List es _=>.lst es
 | .Dict ks vs _=>.dct ks vs
 | .Call f as kw p=>.call f as kw p
 | .Attribute o m p=>.attr o m p
 | .ListComp el gens scope p=>.comp el gens scope p
 |_=>.other
noncomputable def VwOk(e:Expr):Vw->Prop
 | .name x p=>e = .Name x p
 | .con c=>∃ k p,e = .Constant c k p
 | .bin a op b=>∃ p,e = .BinOp a op b p
 | .un op a=>∃ p,e = .UnaryOp op a p
 | .bool op vs p=>e = .BoolOp op vs p
 | .ife c a b=>∃ p,e = .IfExp c a b p
 | .cmp a ops bs=>∃ p,e = .Compare a ops bs p
 | .sub a b=>∃ p,e = .Subscript a b p
 | .slice l u s=>∃ p,e = .Slice l u s p
 | .tup es=>∃ k p,e = .Tuple es k p
 | .lst es=>∃ p,e = .List es p
 | .dct ks vs=>∃ p,e = .Dict ks vs p
 | .call f as kw p=>e = .Call f as kw p
 | .attr o m p=>e = .Attribute o m p
 | .comp el gens scope p=>e = .ListComp el gens scope p
 | .other=>True
theorem vw_ok(e:Expr):VwOk e (vw e):=by
 cases e<;>first|exact trivial|exact rfl|exact⟨_,rfl⟩|exact⟨_,_,rfl⟩
noncomputable def vNameP:Vw->Option (Str × Pos)
 | .name x p=>some (x,p)
 |_=>none
theorem namePE{e:Expr}{x:Str}{p:Pos}(h:vNameP (vw e)=some (x,p)):e = .Name x p:=by
 have hv:=vw_ok e
 generalize vw e=v at h hv
 cases v<;>first|(cases h;done)|(cases h;exact hv)
noncomputable def vName(v:Vw):Option Str:=(vNameP v).map (·.1)
theorem nameE{e:Expr}{x:Str}(h:vName (vw e)=some x):∃ p,e = .Name x p:=by
 obtain⟨⟨y,p⟩,h1,h2⟩:=Option.map_eq_some_iff.mp h
 cases h2
 exact⟨p,namePE h1⟩
noncomputable def vCon:Vw->Option Const
 | .con c=>some c
 |_=>none
theorem conE{e:Expr}{c:Const}(h:vCon (vw e)=some c):∃ k p,e = .Constant c k p:=by
 have hv:=vw_ok e
 generalize vw e=v at h hv
 cases v<;>first|(cases h;done)|(cases h;exact hv)
noncomputable def vUn(op:UnaryOp):Vw->Option Expr
 | .un o a=>if o=op then some a else none
 |_=>none
theorem unE{op:UnaryOp}{e a:Expr}(h:vUn op (vw e)=some a):∃ p,e = .UnaryOp op a p:=by
 have hv:=vw_ok e
 generalize vw e=v at h hv
 cases v<;>first|(cases h;done)|skip
 rename_i o b
 by_cases z:o=op
 ·subst z
  rw[vUn,if_pos rfl] at h
  cases h
  exact hv
 ·rw[vUn,if_neg z] at h
  cases h
noncomputable def vTup:Vw->Option (List Expr)
 | .tup es=>some es
 |_=>none
theorem tupE{e:Expr}{es:List Expr}(h:vTup (vw e)=some es):∃ k p,e = .Tuple es k p:=by
 have hv:=vw_ok e
 generalize vw e=v at h hv
 cases v<;>first|(cases h;done)|(cases h;exact hv)
noncomputable def vLst:Vw->Option (List Expr)
 | .lst es=>some es
 |_=>none
theorem lstE{e:Expr}{es:List Expr}(h:vLst (vw e)=some es):∃ p,e = .List es p:=by
 have hv:=vw_ok e
 generalize vw e=v at h hv
 cases v<;>first|(cases h;done)|(cases h;exact hv)
noncomputable def vSub:Vw->Option (Expr × Expr)
 | .sub a b=>some (a,b)
 |_=>none
theorem subE{e a b:Expr}(h:vSub (vw e)=some (a,b)):∃ p,e = .Subscript a b p:=by
 have hv:=vw_ok e
 generalize vw e=v at h hv
 cases v<;>first|(cases h;done)|(cases h;exact hv)
noncomputable def vSlice:Vw->Option (Option Expr × Option Expr × Option Expr)
 | .slice l u s=>some (l,u,s)
 |_=>none
theorem sliceE{e:Expr}{l u s:Option Expr}(h:vSlice (vw e)=some (l,u,s)):∃ p,e = .Slice l u s p:=by
 have hv:=vw_ok e
 generalize vw e=v at h hv
 cases v<;>first|(cases h;done)|(cases h;exact hv)
noncomputable def vAttr:Vw->Option (Expr × Str × Pos)
 | .attr o m p=>some (o,m,p)
 |_=>none
theorem attrE{e o:Expr}{m:Str}{p:Pos}(h:vAttr (vw e)=some (o,m,p)):e = .Attribute o m p:=by
 have hv:=vw_ok e
 generalize vw e=v at h hv
 cases v<;>first|(cases h;done)|(cases h;exact hv)
noncomputable def vCall:Vw->Option (Expr × List Expr × Pos)
 | .call f as kw p=>if kw.isEmpty then some (f,as,p) else none
 |_=>none
theorem callE{e f:Expr}{as:List Expr}{p:Pos}(h:vCall (vw e)=some (f,as,p)):e = .Call f as [] p:=by
 have hv:=vw_ok e
 generalize vw e=v at h hv
 cases v<;>first|(cases h;done)|skip
 rename_i g bs kw q
 cases kw with
 |nil=>cases h;exact hv
 |cons _ _=>cases h
noncomputable def vCallN(v:Vw):Option (Str × List Expr):=(vCall v).bind fun q=>(vName (vw q.1)).map fun x=>(x,q.2.1)
theorem callNE{e:Expr}{x:Str}{as:List Expr}(h:vCallN (vw e)=some (x,as)):∃ pp p,e = .Call (.Name x pp) as [] p:=by
 obtain⟨⟨f,bs,p⟩,h1,h2⟩:=Option.bind_eq_some_iff.mp h
 obtain⟨y,h3,h4⟩:=Option.map_eq_some_iff.mp h2
 cases h4
 obtain⟨pp,rfl⟩:=nameE h3
 exact⟨pp,p,callE h1⟩
noncomputable def recvE(o:Expr):Bool:=(vName (vw o)).isSome || (vSub (vw o)).isSome
noncomputable def vMeth(v:Vw):Option (Expr × Str × List Expr):=(vCall v).bind fun q=>(vAttr (vw q.1)).bind fun a=>if recvE a.1 && a.2.2.endLine == q.2.2.line then some (a.1,a.2.1,q.2.1) else none
theorem methE{e o:Expr}{m:Str}{as:List Expr}(h:vMeth (vw e)=some (o,m,as)):∃ ap cp,recvE o=true/\(ap.endLine == cp.line)=true/\e = .Call (.Attribute o m ap) as [] cp:=by
 obtain⟨⟨f,bs,p⟩,h1,h2⟩:=Option.bind_eq_some_iff.mp h
 obtain⟨⟨o',m',ap⟩,h3,h4⟩:=Option.bind_eq_some_iff.mp h2
 cases attrE h3
 by_cases z:(recvE o' && ap.endLine == p.line)=true
 ·rw[if_pos z] at h4
  cases h4
  rw[Bool.and_eq_true] at z
  exact⟨ap,p,z.1,z.2,callE h1⟩
 ·rw[if_neg z] at h4
  cases h4
noncomputable def vBin(op:Operator):Vw->Option (List Expr)
 | .bin a o b=>if o=op then some [a,b] else none
 |_=>none
theorem binE{op:Operator}{e:Expr}{es:List Expr}(h:vBin op (vw e)=some es):∃ a b p,es=[a,b]/\e = .BinOp a op b p:=by
 have hv:=vw_ok e
 generalize vw e=v at h hv
 cases v<;>first|(cases h;done)|skip
 rename_i a o b
 obtain⟨p,rfl⟩:=hv
 by_cases z:o=op
 ·subst z
  rw[vBin,if_pos rfl] at h
  cases h
  exact⟨a,b,p,rfl,rfl⟩
 ·rw[vBin,if_neg z] at h
  cases h
noncomputable def vCmp(op:CmpOp):Vw->Option (List Expr)
 | .cmp a ops bs=>(l1 ops).bind fun o=>(l1 bs).bind fun b=>if o=op/\notSet b=true then some [a,b] else none
 |_=>none
theorem cmpE{op:CmpOp}{e:Expr}{es:List Expr}(h:vCmp op (vw e)=some es):∃ a b p,es=[a,b]/\notSet b=true/\e = .Compare a [op] [b] p:=by
 have hv:=vw_ok e
 generalize vw e=v at h hv
 cases v<;>first|(cases h;done)|skip
 rename_i a ops bs
 obtain⟨p,rfl⟩:=hv
 obtain⟨o,h1,h2⟩:=Option.bind_eq_some_iff.mp (show((l1 ops).bind fun o=>(l1 bs).bind fun b=>if o=op/\notSet b=true then some [a,b] else none)=some es from h)
 obtain⟨b,h3,h4⟩:=Option.bind_eq_some_iff.mp h2
 cases l1_inv h1
 cases l1_inv h3
 by_cases z:o=op/\notSet b=true
 ·rw[if_pos z] at h4
  cases h4
  obtain⟨rfl,z⟩:=z
  exact⟨a,b,p,rfl,z,rfl⟩
 ·rw[if_neg z] at h4
  cases h4
noncomputable def vIx(v:Vw):Option (List Expr):=(vSub v).bind fun q=>if notSlice q.2 then some [q.1,q.2] else none
theorem ixE{e:Expr}{es:List Expr}(h:vIx (vw e)=some es):∃ a b p,es=[a,b]/\notSlice b=true/\e = .Subscript a b p:=by
 obtain⟨⟨a,b⟩,h1,h2⟩:=Option.bind_eq_some_iff.mp h
 obtain⟨p,rfl⟩:=subE h1
 by_cases z:notSlice b=true
 ·rw[if_pos z] at h2
  cases h2
  exact⟨a,b,p,rfl,z,rfl⟩
 ·rw[if_neg z] at h2
  cases h2
noncomputable def vDct:Vw->Option (List Expr)
 | .dct ks vs=>if ks.isEmpty && vs.isEmpty then some [] else none
 |_=>none
theorem dctE{e:Expr}{es:List Expr}(h:vDct (vw e)=some es):es=[]/\∃ p,e = .Dict [] [] p:=by
 have hv:=vw_ok e
 generalize vw e=v at h hv
 cases v<;>first|(cases h;done)|skip
 rename_i ks vs
 cases ks with
 |cons _ _=>cases h
 |nil =>
  cases vs with
  |cons _ _=>cases h
  |nil=>cases h;exact⟨rfl,hv⟩
noncomputable def vBlt(sc:Scope)(f:String)(v:Vw):Option (List Expr):=(vCallN v).bind fun q=>if (l1 q.2).isSome && (gl sc q.1 && isS q.1 f) then some q.2 else none
theorem bltE{sc:Scope}{f:String}{e:Expr}{es:List Expr}(h:vBlt sc f (vw e)=some es):∃ a pp p,es=[a]/\gl sc (Str.ofString f)=true/\e = .Call (.Name (Str.ofString f) pp) [a] [] p:=by
 obtain⟨⟨x,as⟩,h1,h2⟩:=Option.bind_eq_some_iff.mp h
 obtain⟨pp,p,rfl⟩:=callNE h1
 by_cases z:((l1 as).isSome && (gl sc x && isS x f))=true
 ·rw[if_pos z] at h2
  cases h2
  rw[Bool.and_eq_true,Bool.and_eq_true] at z
  obtain⟨a,ha⟩:=Option.isSome_iff_exists.mp z.1
  cases l1_inv ha
  cases(of_decide_eq_true z.2.2:x=Str.ofString f)
  exact⟨a,pp,p,rfl,z.2.1,rfl⟩
 ·rw[if_neg z] at h2
  cases h2
noncomputable def vSlF(v:Vw):Option (List Expr):=(vSub v).bind fun q=>(vSlice (vw q.2)).bind fun r=>match r with
 | (some l,none,none)=>some [q.1,l]
 |_=>none
theorem slFE{e:Expr}{es:List Expr}(h:vSlF (vw e)=some es):∃ a l p p2,es=[a,l]/\e = .Subscript a (.Slice (some l) none none p2) p:=by
 obtain⟨⟨a,b⟩,h1,h2⟩:=Option.bind_eq_some_iff.mp h
 obtain⟨⟨l,u,s⟩,h3,h4⟩:=Option.bind_eq_some_iff.mp h2
 obtain⟨p,rfl⟩:=subE h1
 obtain⟨p2,rfl⟩:=sliceE h3
 cases l<;>cases u<;>cases s<;>first|(cases h4;done)|(cases h4;exact⟨_,_,_,_,rfl,rfl⟩)
noncomputable def vBlt2(sc:Scope)(f:String)(v:Vw):Option (List Expr):=(vCallN v).bind fun q=>if (l2 q.2).isSome && (gl sc q.1 && isS q.1 f) then some q.2 else none
theorem blt2E{sc:Scope}{f:String}{e:Expr}{es:List Expr}(h:vBlt2 sc f (vw e)=some es):∃ a b pp p,es=[a,b]/\gl sc (Str.ofString f)=true/\e = .Call (.Name (Str.ofString f) pp) [a,b] [] p:=by
 obtain⟨⟨x,as⟩,h1,h2⟩:=Option.bind_eq_some_iff.mp h
 obtain⟨pp,p,rfl⟩:=callNE h1
 by_cases z:((l2 as).isSome && (gl sc x && isS x f))=true
 ·rw[if_pos z] at h2
  cases h2
  rw[Bool.and_eq_true,Bool.and_eq_true] at z
  obtain⟨⟨a,b⟩,ha⟩:=Option.isSome_iff_exists.mp z.1
  cases l2_inv ha
  cases(of_decide_eq_true z.2.2:x=Str.ofString f)
  exact⟨a,b,pp,p,rfl,z.2.1,rfl⟩
 ·rw[if_neg z] at h2
  cases h2
noncomputable def vZipL(sc:Scope)(v:Vw):Option (List Expr):=(vBlt sc "list" v).bind fun es=>(l1 es).bind fun z=>vBlt2 sc "zip" (vw z)
theorem zipLE{sc:Scope}{e:Expr}{es:List Expr}(h:vZipL sc (vw e)=some es):∃ a b p1 p2 p3 p4,es=[a,b]/\gl sc (Str.ofString "list")=true/\gl sc (Str.ofString "zip")=true/\e = .Call (.Name (Str.ofString "list") p1) [.Call (.Name (Str.ofString "zip") p2) [a,b] [] p3] [] p4:=by
 obtain⟨as,h1,h3⟩:=Option.bind_eq_some_iff.mp h
 obtain⟨z,h2,h4⟩:=Option.bind_eq_some_iff.mp h3
 obtain⟨a',p1,p4,rfl,g1,rfl⟩:=bltE h1
 cases l1_inv h2
 obtain⟨a,b,p2,p3,rfl,g2,rfl⟩:=blt2E h4
 exact⟨a,b,p1,p2,p3,p4,rfl,g1,g2,rfl⟩
noncomputable def vCh:Vw->Option (Expr × Expr × Expr)
 | .cmp a ops bs=>(l2 ops).bind fun o=>(l2 bs).bind fun q=>if o.1 = .LtE/\o.2 = .LtE then some (a,q.1,q.2) else none
 |_=>none
theorem chE{e a b c:Expr}(h:vCh (vw e)=some (a,b,c)):∃ p,e = .Compare a [.LtE,.LtE] [b,c] p:=by
 have hv:=vw_ok e
 generalize vw e=v at h hv
 cases v<;>first|(cases h;done)|skip
 rename_i x ops bs
 obtain⟨p,rfl⟩:=hv
 obtain⟨⟨o1,o2⟩,h1,h⟩:=Option.bind_eq_some_iff.mp (show((l2 ops).bind fun o=>(l2 bs).bind fun q=>if o.1=CmpOp.LtE/\o.2=CmpOp.LtE then some (x,q.1,q.2) else none)=some (a,b,c) from h)
 obtain⟨⟨u,v⟩,h2,h⟩:=Option.bind_eq_some_iff.mp h
 by_cases z:o1=CmpOp.LtE/\o2=CmpOp.LtE
 ·rw[if_pos z] at h
  cases h
  obtain⟨rfl,rfl⟩:=z
  cases l2_inv h1
  cases l2_inv h2
  exact⟨p,rfl⟩
 ·rw[if_neg z] at h
  cases h
noncomputable def opArgs(sc:Scope)(p:Prim)(v:Vw):Option (List Expr):=match p with
 | .add=>vBin .Add v
 | .sub=>vBin .Sub v
 | .mul=>vBin .Mult v
 | .fdiv=>vBin .FloorDiv v
 | .mod=>vBin .Mod v
 | .eq=>vCmp .Eq v
 | .ne=>vCmp .NotEq v
 | .lt=>vCmp .Lt v
 | .le=>vCmp .LtE v
 | .gt=>vCmp .Gt v
 | .ge=>vCmp .GtE v
 | .inn=>vCmp .In v
 | .notin=>vCmp .NotIn v
 | .isN=>vCmp .Is v
 | .notN=>vCmp .IsNot v
 | .idx=>vIx v
 | .tup=>vTup v
 | .lst=>vLst v
 | .dct0=>vDct v
 | .dtg0=>vDct v
 | .len=>vBlt sc "len" v
 | .tupleOf=>vBlt sc "tuple" v
 | .listOf=>vBlt sc "list" v
 | .all=>vBlt sc "all" v
 | .slice true false=>vSlF v
 | .max2=>vBlt2 sc "max" v
 | .innT=>vCmp .In v
 | .notinT=>vCmp .NotIn v
 | .idxT=>vIx v
 | .zipL=>vZipL sc v
 |_=>none
noncomputable def vMt(m:String)(k:Nat)(v:Vw):Option (Expr × List Expr):=(vMeth v).bind fun q=>if isS q.2.1 m && decide (q.2.2.length=k) then some (q.1,q.2.2) else none
theorem mtE{m:String}{k:Nat}{e o:Expr}{es:List Expr}(h:vMt m k (vw e)=some (o,es)):es.length=k/\∃ ap cp,recvE o=true/\(ap.endLine == cp.line)=true/\e = .Call (.Attribute o (Str.ofString m) ap) es [] cp:=by
 obtain⟨⟨o',n,as⟩,h1,h2⟩:=Option.bind_eq_some_iff.mp h
 by_cases z:(isS n m && decide (as.length=k))=true
 ·rw[if_pos z] at h2
  cases h2
  rw[Bool.and_eq_true] at z
  cases(of_decide_eq_true z.1:n=Str.ofString m)
  exact⟨of_decide_eq_true z.2,methE h1⟩
 ·rw[if_neg z] at h2
  cases h2
noncomputable def methArgs(p:Prim)(v:Vw):Option (Expr × List Expr):=match p with
 | .append=>vMt "append" 1 v
 | .get2=>vMt "get" 2 v
 | .setdef=>vMt "setdefault" 2 v
 | .extend=>vMt "extend" 1 v
 | .pop=>vMt "pop" 0 v
 |_=>none
noncomputable def ofC:Const->Option G
 | .int j=>some (.int j)
 | .bool c=>some (.bl c)
 | .none=>some .non
 | .str y=>some (.str y.cps.toList)
 |_=>none
noncomputable def negC:Const->Option G
 | .int j=>some (.int (-j))
 |_=>none
noncomputable def cst(v:Vw):Option G:=match vCon v with
 |some c=>ofC c
 |none=>(vUn .USub v).bind fun a=>(vCon (vw a)).bind negC
noncomputable def okC:G->Bool
 | .str x=>okS x
 |_=>true
noncomputable def vBool(op:BoolOp):Vw->Option (Expr × Expr)
 | .bool o vs p=>(match vs with
  |x::y::r=>if o=op then some (x,if r.isEmpty then y else .BoolOp op (y::r) p) else none
  |_=>none)
 |_=>none
theorem boolE{op:BoolOp}{e x y:Expr}(h:vBool op (vw e)=some (x,y)):∃ p,e = .BoolOp op [x,y] p\/∃ u v r,y = .BoolOp op (u::v::r) p/\e = .BoolOp op (x::u::v::r) p:=by
 have hv:=vw_ok e
 generalize vw e=v at h hv
 cases v<;>first|(cases h;done)|skip
 rename_i o vs p
 cases(show e = .BoolOp o vs p from hv)
 cases vs with
 |nil=>cases h
 |cons a vs =>
  cases vs with
  |nil=>cases h
  |cons b r =>
   by_cases z:o=op
   ·subst z
    have h:(if o=o then some (a,if r.isEmpty then b else .BoolOp o (b::r) p) else none)=some (x,y):=h
    rw[if_pos rfl] at h
    cases r with
    |nil=>cases h;exact⟨p,.inl rfl⟩
    |cons c r=>cases h;exact⟨p,.inr ⟨b,c,r,rfl,rfl⟩⟩
   ·have h:(if o=op then some (a,if r.isEmpty then b else .BoolOp op (b::r) p) else none)=some (x,y):=h
    rw[if_neg z] at h
    cases h
noncomputable def vIf:Vw->Option (Expr × Expr × Expr)
 | .ife c a b=>some (c,a,b)
 |_=>none
theorem ifE{e c a b:Expr}(h:vIf (vw e)=some (c,a,b)):∃ p,e = .IfExp c a b p:=by
 have hv:=vw_ok e
 generalize vw e=v at h hv
 cases v<;>first|(cases h;done)|(cases h;exact hv)
noncomputable def vEnum(sc:Scope):Vw->Option (Expr × Expr)
 | .call f as kw _=>(vName (vw f)).bind fun x=>(l1 as).bind fun a=>(l1 kw).bind fun k=>k.arg.bind fun y=>if gl sc x && (isS x "enumerate" && isS y "start") then some (a,k.value) else none
 |_=>none
theorem enumE{sc:Scope}{e a b:Expr}(h:vEnum sc (vw e)=some (a,b)):gl sc (Str.ofString "enumerate")=true/\∃ pp kp p,e = .Call (.Name (Str.ofString "enumerate") pp) [a] [⟨some (Str.ofString "start"),b,kp⟩] p:=by
 have hv:=vw_ok e
 generalize vw e=v at h hv
 cases v<;>first|(cases h;done)|skip
 rename_i f as kw p
 cases(show e = .Call f as kw p from hv)
 obtain⟨x,h1,h⟩:=Option.bind_eq_some_iff.mp (show((vName (vw f)).bind _)=some (a,b) from h)
 obtain⟨u,h2,h⟩:=Option.bind_eq_some_iff.mp h
 obtain⟨⟨y,v,kp⟩,h3,h⟩:=Option.bind_eq_some_iff.mp h
 obtain⟨z,h4,h⟩:=Option.bind_eq_some_iff.mp h
 by_cases w:(gl sc x && (isS x "enumerate" && isS z "start"))=true
 ·rw[if_pos w] at h
  cases h
  rw[Bool.and_eq_true,Bool.and_eq_true] at w
  obtain⟨w1,w2,w3⟩:=w
  obtain⟨pp,rfl⟩:=nameE h1
  cases l1_inv h2
  cases l1_inv h3
  cases(of_decide_eq_true w2:x=Str.ofString "enumerate")
  cases(of_decide_eq_true w3:z=Str.ofString "start")
  cases(show y=some (Str.ofString "start") from h4)
  exact⟨w1,pp,kp,p,rfl⟩
 ·rw[if_neg w] at h
  cases h
noncomputable def vComp:Vw->Option (Expr × Comprehension × Scope × Pos)
 | .comp el gens scope p=>(l1 gens).map fun g=>(el,g,scope,p)
 |_=>none
theorem compE{e el:Expr}{g:Comprehension}{scope:Scope}{p:Pos}(h:vComp (vw e)=some (el,g,scope,p)):e = .ListComp el [g] scope p:=by
 have hv:=vw_ok e
 generalize vw e=v at h hv
 cases v<;>first|(cases h;done)|skip
 rename_i el' gens sc' p'
 obtain⟨g',h1,h2⟩:=Option.map_eq_some_iff.mp (show((l1 gens).map fun g=>(el',g,sc',p'))=some (el,g,scope,p) from h)
 cases h2
 cases l1_inv h1
 exact hv
noncomputable def relabS(sc scope:Scope):Scope:={scope with names:=scope.names.map fun(n,k)=>if (k == .free && sc.kind == .function && sc.names.lookup n == some .cell) then (n,.cell) else (n,k)}
noncomputable def capNames(N:List Str)(caps:List Nat):List Str:=caps.map fun i=>(N[i]?).getD ⟨#[]⟩
noncomputable def leP:Prim->Bool
 | .le=>true
 |_=>false
noncomputable def tgNames(e:Expr):Option (List Str):=match vName (vw e) with
 |some x=>some [x]
 |none=>(vTup (vw e)).bind fun es=>(l2 es).bind fun q=>(vName (vw q.1)).bind fun x=>(vName (vw q.2)).map fun y=>[x,y]
theorem tgE{e:Expr}{xs:List Str}(h:tgNames e=some xs):(∃ x p,xs=[x]/\e = .Name x p)\/∃ x y px py k p,xs=[x,y]/\e = .Tuple [.Name x px,.Name y py] k p:=by
 unfold tgNames at h
 cases c:vName (vw e) with
 |some x =>
  rw[c] at h
  cases h
  obtain⟨p,rfl⟩:=nameE c
  exact .inl ⟨x,p,rfl,rfl⟩
 |none =>
  rw[c] at h
  obtain⟨es,h1,h2⟩:=Option.bind_eq_some_iff.mp h
  obtain⟨⟨u,v⟩,h3,h4⟩:=Option.bind_eq_some_iff.mp h2
  obtain⟨x,h5,h6⟩:=Option.bind_eq_some_iff.mp h4
  obtain⟨y,h7,h8⟩:=Option.map_eq_some_iff.mp h6
  obtain⟨k,p,rfl⟩:=tupE h1
  cases l2_inv h3
  obtain⟨px,rfl⟩:=nameE h5
  obtain⟨py,rfl⟩:=nameE h7
  cases h8
  exact .inr ⟨x,y,px,py,k,p,rfl,rfl⟩
noncomputable def isTup(e:Expr):Bool:=(vTup (vw e)).isSome
noncomputable def compB(N:List Str)(sc:Scope)(xs:List Str)(caps:List Nat)(scope:Scope):Bool :=
 decide (scope.kind = .function) && scope.names.all (fun y=>decide (y.2 ≠ .cell)) && scope.names.all (fun y=>decide (y.2 = .local->scope.names.lookup y.1=some .local)) && xs.all (fun x=>decide (scope.names.lookup x=some .local)) &&
 scope.names.all (fun y=>decide (y.2 = .free->(sc.names.lookup y.1=some .cell\/sc.names.lookup y.1=some .free))) && decide ((xs++capNames N caps).Nodup) &&
 caps.all (fun i=>match N[i]? with
  |some y=>decide (scope.names.lookup y=some .free)
  |none=>false)
variable [Cl]
mutual
noncomputable def chkE(N:List Str)(sc:Scope):MP.Tm->Expr->Bool
 | .var i,e=>whenS (vName (vw e)) fun x=>decide (N[i]?=some x) && (visB sc x && (decide (x ≠ "__debug__") && decide (x ≠ "__classdict__")))
 | .con g,e=>decide (cst (vw e)=some g) && okC g
 | .glb _ _,_=>false
 | .op p as,e=>whenS (opArgs sc p (vw e)) fun es=>chkAs N sc as es
 | .meth p a as,e=>whenS (methArgs p (vw e)) fun q=>chkE N sc a q.1 && chkAs N sc as q.2
 | .call f as,e=>whenS (vCallN (vw e)) fun q=>isS q.1 f && (gl sc q.1 && (decide (q.1 ≠ "__debug__") && chkAs N sc as q.2))
 | .andT a b,e=>whenS (vBool .And (vw e)) fun q=>chkE N sc a q.1 && chkE N sc b q.2
 | .orT a b,e=>whenS (vBool .Or (vw e)) fun q=>chkE N sc a q.1 && chkE N sc b q.2
 | .notT a,e=>whenS (vUn .Not (vw e)) fun x=>chkE N sc a x
 | .ifT c a b,e=>whenS (vIf (vw e)) fun q=>chkE N sc c q.1 && (chkE N sc a q.2.1 && chkE N sc b q.2.2)
 | .chain p q a b c,e=>whenS (vCh (vw e)) fun r=>leP p && (leP q && (notSet r.2.2 && (chkE N sc a r.1 && (chkE N sc b r.2.1 && chkE N sc c r.2.2))))
 | .comp k caps s conds elt,e=>whenS (vComp (vw e)) fun q=>whenS (tgNames q.2.1.target) fun xs=>decide (q.2.1.is_async=0) && (decide (xs.length=k) && (compB N sc xs caps q.2.2.1 && (notSet q.2.1.iter && (chkW N sc (isTup q.2.1.target) s q.2.1.iter &&
  (chkAs (xs++capNames N caps) (relabS sc q.2.2.1) conds q.2.1.ifs && chkE (xs++capNames N caps) (relabS sc q.2.2.1) elt q.1)))))
noncomputable def chkAs(N:List Str)(sc:Scope):Tms->List Expr->Bool
 | .nil,es=>es.isEmpty
 | .cons a as,es=>whenS es.head? fun e=>notStar e && (chkE N sc a e && chkAs N sc as es.tail)
noncomputable def chkW(N:List Str)(sc:Scope)(tup:Bool):Src->Expr->Bool
 | .over t,e=>chkE N sc t e
 | .range1 t,e=>whenS (vBlt sc "range" (vw e)) fun es=>whenS (l1 es) fun a=>notStar a && chkE N sc t a
 | .zip a b,e=>tup && whenS (vCallN (vw e)) fun q=>whenS (l2 q.2) fun r=>isS q.1 "zip" && (gl sc q.1 && (notStar r.1 && (notStar r.2 && (chkE N sc a r.1 && chkE N sc b r.2))))
 |_,_=>false
end
end SN
namespace SN
open PySem PySem.Spec PyProof.Rows L2 MP
variable [Wd]
section
variable {X:Cx}
end
end SN
namespace PySem
namespace EN
open AutoSeq1 (wpAny_loadPart')
theorem typeE(a v:Value):checkTypeCall "enumerate" ⟨[a],[("start",v)]⟩=pure ():=by kernel_rfl
theorem newE(a v:Value):checkBuiltinCall "enumerate.__new__" ⟨[.type "enumerate",a],[("start",v)]⟩=pure ():=by kernel_rfl
theorem initE(o a v:Value):argsOk "object.__init__" ⟨[o,a],[("start",v)]⟩:=by
 unfold argsOk
 rw[signature?_of (id:="object.__init__") (n:=['_', '_', 't', 'i', 'n', 'i', '_', '_']) (o:=['t', 'c', 'e', 'j', 'b', 'o']) (by kernel_rfl) F.owner_object]
 kernel_rfl
section
variable {prog:Program}{w:World}{A:Around}{E:Value->Shared->Prop}{s:Shared}
theorem callTypeK{T nid iid:String}{Bn Bi:Builtin}{args:List Value}{kw:List (Str × Value)}{S:Spec}{Q Q₁:Value->Shared->Prop}(ft:TypeCalled T nid iid)(c1:checkTypeCall T ⟨args,kw⟩=pure ())(c2:checkBuiltinCall nid ⟨.type T::args,kw⟩=pure ())
 (e1:entryFor table nid=some Bn) (e2:entryFor table iid=some Bi) (g:Meets (Bn ⟨.type T::args,kw⟩) S) (h:S A.in1 (wants Q₁ E) s)
 (more:∀ o s₁,Q₁ o s₁->s₁.TypeIs o T/\argsOk iid ⟨o::args,kw⟩/\∃ Si,Meets (Bi ⟨o::args,kw⟩) Si/\Si A.in1 (wants (fun r s₂=>r = .none/\Q o s₂) E) s₁) :
 wpAny (model prog w) A (call (.type T) args kw) Q E s:=by
 obtain⟨c,tl,hmro⟩:=ft.mro
 have hmade:=ft.made
 have hsub:=ft.sub
 refine wpAny_call (codeAny_of_tree ?_)
 show wpAny _ _ (callAny (.type T) _) _ _ _
 refine wpAny_pure ⟨Code.quiet_builtin _ (by decide +kernel),codeAny_builtin F.entry_type_call ?_⟩
 rw[Around.under_plain (weight_type_call_type T args kw) (units_type_call_type T args kw)]
 have n1:=ft.notType
 have n2:=ft.canCreate
 repeat (any_goals (first|assumption|wp_step))
 refine codeAny_mono (codeAny_call_builtin ft.plain e1 (wpAny_of_eq c2 (g prog w A.in1 _ s h))) fun r s₁ hr => ?_
 cases r with
 |error e=>exact hr
 |ok fl =>
  cases fl with
  |ret o =>
   obtain⟨hT,hok,Si,gi,hsi⟩:=more _ _ hr
   have b1:=ft.init.lookup
   have b2:=ft.init.bind o
   repeat (any_goals (first|assumption|wp_step))
   refine codeAny_mono (codeAny_call_builtin ft.init.plain e2 (ft.init.check _ _ _ _ _ _ _ _ hT hok (gi prog w A.in1 _ s₁ hsi))) fun r₂ s₂ q₂ => ?_
   cases r₂ with
   |error e=>exact q₂
   |ok f₂ =>
    cases f₂ with
    |ret r =>
     obtain⟨rfl,q⟩:=q₂
     repeat (any_goals (first|assumption|wp_step))
    |_=>exact q₂.elim
  |_=>exact hr.elim
theorem initMeets{T nid:String}{o a:Value}{kw:List (Str × Value)}(l:typeLookup (.type T) "__init__"=pure (some (.builtin "object.__init__")))(m:Bind.madeBy (.type T)=pure (some nid))(n:(some nid !=some "object.__new__")=true) :
 Meets (Builtin.«object.__init__» ⟨o::[a],kw⟩) (fun _ R s=>s.TypeIs o T/\R (.ok (.ret .none)) s):=by
 refine Meets.of_wp fun prog w A R s hs => ?_
 obtain⟨hT,q⟩:=hs
 repeat (any_goals (first|assumption|wp_step))
 exact⟨_,rfl,q⟩
theorem meetsE(l:Addr)(its:Array Value)(n:Nat)(dct:Option Addr)(sl:Array (Option Value))(k:Int)(t:Tok)(hk:Builtin.SmallTypes.fitsIndex k=true) :
 Meets (Builtin.«enumerate.__new__» ⟨[.type "enumerate",.ref l],[("start",.int k t)]⟩) (fun _ R s=>s.heap.get? l=some {cls:=.type "list",dict:=dct,data:=.seq its n,slots:=sl} ∧
  R (.ok (.ret (.ref (s.heap.push {cls:=.type "list_iterator",data:=.fields #[.ref l,.int 0 0]}).objs.size)))
   {s with heap:=(s.heap.push {cls:=.type "list_iterator",data:=.fields #[.ref l,.int 0 0]}).push {cls:=.type "enumerate",data:=.fields #[.none,.bool false,.ref s.heap.objs.size,rawInt k,.none,.none]}}) :=
 .of_wp fun prog w A R s h=>by
  obtain⟨hp,g,d,tk,os⟩:=s
  obtain⟨hl,h⟩:=h
  have hsub:=sub_enumerate
  have pL:Heap.IsList (Shared.heap ⟨hp,g,d,tk,os⟩) l its:=⟨_,hl,rfl,n,rfl⟩
  wp_walk using wpAny_loadPart' hl
  refine wpAny_stack_any fun st=>wpAny_pure ?_
  have hfit:¬ (!Builtin.SmallTypes.fitsIndex k)=true:=by rw[hk];decide
  have hidx:=AutoSeq1.idx_int
  split
  ·rename_i c _ _ _ _ _
   cases(c == Value.type "enumerate")
   ·wp_walk using wpAny_loadPart' hl,wpAny_pyIter_list pL
    exact⟨_,rfl,h⟩
   ·wp_walk using wpAny_loadPart' hl,wpAny_pyIter_list pL
    exact⟨_,rfl,h⟩
  ·wp_walk using wpAny_loadPart' hl,wpAny_pyIter_list pL
   exact⟨_,rfl,h⟩
theorem callE{l:Addr}{its:Array Value}{k:Int}{t:Tok}{Q:Value->Shared->Prop}(pL:s.heap.IsList l its)(hk:Builtin.SmallTypes.fitsIndex k=true)
 (h:∀ g,IsEnum g (s.heap.objs.size+1) s.heap.objs.size k .none->g.IsListIter s.heap.objs.size l 0->(∀ b o,s.heap.get? b=some o->g.get? b=some o)->Q (.ref (s.heap.objs.size+1)) {s with heap:=g}) :
 wpAny (model prog w) A (call (.type "enumerate") [.ref l] [("start",.int k t)]) Q E s:=by
 obtain⟨⟨c,dct,dt,sl⟩,hl,hc,n,hd⟩:=pL
 replace hc:c = .type "list":=hc
 replace hd:dt = .seq its n:=hd
 subst hc hd
 refine callTypeK (Q₁:=fun o s₁=>s₁.TypeIs o "enumerate"/\Q o s₁) F.called_enumerate (typeE _ _) (newE _ _) F.entry_enumerate_new F.entry_object_init (meetsE l its n dct sl k t hk) ⟨hl,?_⟩ fun o s₁ q=>⟨q.1,initE o _ _,_,initMeets F.called_enumerate.init.lookup F.called_enumerate.made (by decide),q.1,rfl,q.2⟩
 have z:(s.heap.push {cls:=.type "list_iterator",data:=.fields #[.ref l,.int 0 0]}).objs.size=s.heap.objs.size+1:=Heap.size_push ..
 have e0:=Heap.get?_push_size (s.heap.push {cls:=.type "list_iterator",data:=.fields #[.ref l,.int 0 0]}) (o:={cls:=.type "enumerate",data:=.fields #[.none,.bool false,.ref s.heap.objs.size,rawInt k,.none,.none]}) rfl
 show _/\_
 rw[z] at e0 ⊢
 exact⟨⟨_,e0,rfl⟩,h _ e0 ⟨_,Heap.get?_push_of_some _ (Heap.get?_push_size _ rfl),rfl,rfl⟩ fun b o x=>Heap.get?_push_of_some _ (Heap.get?_push_of_some _ x)⟩
theorem nextE{e I l:Addr}{i:Int}{j:Nat}{its:Array Value}{x old:Value}{Q:Value->Shared->Prop}(he:IsEnum s.heap e I i old)(pI:s.heap.IsListIter I l j)(pL:s.heap.IsList l its)(ex:its[j]?=some x)(ne:e≠I)
 (q:∀ g,IsEnumOut g e I (i+1) x s.heap.objs.size->g.IsListIter I l (j+1)->g.get? s.heap.objs.size=some {cls:=.type "tuple",data:=.seq #[.int i s.toks,x]} →
   (∀ b o,b≠e->b≠I->s.heap.get? b=some o->g.get? b=some o)->Q (.ref s.heap.objs.size) {s with heap:=g,toks:=s.toks+1}) :
 wpAny (model prog w) A (Builtin.«enumerate.__next__» ⟨[.ref e],[]⟩) (fun fin s'=>∃ v,fin = .done (.ret v)/\Q v s') E s:=by
 obtain⟨hp,ga,d,tk,os⟩:=s
 show wpAny _ _ (field (.ref e) 2 >>= _) _ _ _
 refine wpAny_bind (wpAny_field he rfl (x:=.ref I) rfl (wpAny_bind (wpAny_nextOf_list_item pI pL ex fun g1 k1 m1 => ?_)))
 replace m1:Heap.SameBut I hp g1:=m1
 have he1:IsEnum g1 e I i old:=(m1.2 e ne).trans he
 show wpAny _ _ (field (.ref e) 3 >>= _) _ _ ⟨g1,ga,d,tk,os⟩
 refine wpAny_bind (wpAny_field he1 rfl (x:=rawInt i) rfl ?_)
 show wpAny _ _ (field (.ref e) 4 >>= _) _ _ ⟨g1,ga,d,tk,os⟩
 refine wpAny_bind (wpAny_field he1 rfl (x:=.none) rfl ?_)
 show wpAny _ _ (mkInt i >>= _) _ _ ⟨g1,ga,d,tk,os⟩
 refine wpAny_bind (wpAny_mkInt ?_)
 show wpAny _ _ (setField (.ref e) 3 (rawInt (i+1)) >>= _) _ _ ⟨g1,ga,d,tk+1,os⟩
 refine wpAny_bind (wpAny_setField_rec he1 (by simp) fun g2 he2 m2 => ?_)
 replace m2:Heap.SameBut e g1 g2:=m2
 replace he2:IsEnum g2 e I (i+1) old:=he2
 show wpAny _ _ (setField (.ref e) 4 .none >>= _) _ _ ⟨g2,ga,d,tk+1,os⟩
 refine wpAny_bind (wpAny_setField_rec he2 (by simp) fun g3 he3 m3 => ?_)
 replace m3:Heap.SameBut e g2 g3:=m3
 replace he3:IsEnum g3 e I (i+1) old:=he3
 show wpAny _ _ (newTuple [.int i tk,x] >>= _) _ _ ⟨g3,ga,d,tk+1,os⟩
 refine wpAny_bind (wpAny_newTuple ?_)
 have z3:g3.objs.size=hp.objs.size:=by rw[m3.1,m2.1,m1.1]
 have le:e<hp.objs.size:=Heap.lt_size he
 have he4:IsEnum (g3.push {cls:=.type "tuple",data:=.seq #[.int i tk,x]}) e I (i+1) old:=Heap.get?_push_of_some _ he3
 have t4:(g3.push {cls:=.type "tuple",data:=.seq #[.int i tk,x]}).get? hp.objs.size=some {cls:=.type "tuple",data:=.seq #[.int i tk,x]}:=by rw[← z3];exact Heap.get?_push_size _ rfl
 have k4:∀ b o,b≠e->b≠I->hp.get? b=some o->(g3.push {cls:=.type "tuple",data:=.seq #[.int i tk,x]}).get? b=some o:=fun b o n1 n2 hb =>
  Heap.get?_push_of_some _ (m3.extBut b o n1 (m2.extBut b o n1 (m1.extBut b o n2 hb)))
 have i4:(g3.push {cls:=.type "tuple",data:=.seq #[.int i tk,x]}).IsListIter I l (j+1):=((k1.extBut m2.extBut (Ne.symm ne)).extBut m3.extBut (Ne.symm ne)).at fun o y=>Heap.get?_push_of_some _ y
 generalize g3.push {cls:=.type "tuple",data:=.seq #[.int i tk,x]}=g4 at he4 t4 k4 i4
 show wpAny _ _ (Builtin.SmallTypes.ownedTupleIsFree (.ref e) >>= fun _=>_) _ _ ⟨g4,ga,d,tk+1,os⟩
 rw[z3]
 refine wpAny_bind ?_
 unfold Builtin.SmallTypes.ownedTupleIsFree
 refine wpAny_bind (wpAny_field he4 rfl (x:=.none) rfl (wpAny_pure ?_))
 simp only[if_true]
 refine wpAny_bind (wpAny_rule (wpAny_bind (wpAny_field he4 rfl (x:=old) rfl (wpAny_bind (wpAny_setField_rec he4 (by simp) fun g5 he5 m5 => ?_)))))
 replace m5:Heap.SameBut e g4 g5:=m5
 replace he5:IsEnum g5 e I (i+1) x:=he5
 show wpAny _ _ (Builtin.SmallTypes.ownedTupleHandOut (.ref e) (.ref hp.objs.size) >>= fun _=>_) _ _ ⟨g5,ga,d,tk+1,os⟩
 refine wpAny_bind ?_
 unfold Builtin.SmallTypes.ownedTupleHandOut
 refine wpAny_bind (wpAny_setField_rec he5 (by simp) fun g6 he6 m6 => ?_)
 replace m6:Heap.SameBut e g5 g6:=m6
 replace he6:IsEnumOut g6 e I (i+1) x hp.objs.size:=he6
 refine wpAny_setField_rec he6 (by simp) fun g7 he7 m7 => ?_
 replace m7:Heap.SameBut e g6 g7:=m7
 replace he7:IsEnumOut g7 e I (i+1) x hp.objs.size:=he7
 have on:∀ b o,b≠e->g4.get? b=some o->g7.get? b=some o:=fun b o n y=>m7.extBut b o n (m6.extBut b o n (m5.extBut b o n y))
 exact wpAny_bind (wpAny_letGo (wpAny_pure ⟨_,rfl,q g7 he7 (i4.at fun o y=>on I o (Ne.symm ne) y) (on _ _ (Nat.ne_of_gt le) t4) fun b o n1 n2 y=>on b o n1 (k4 b o n1 n2 y)⟩))
theorem pyNextE{e I l:Addr}{i:Int}{j:Nat}{its:Array Value}{x old:Value}{Q:Option Value->Shared->Prop}(he:IsEnum s.heap e I i old)(pI:s.heap.IsListIter I l j)(pL:s.heap.IsList l its)(ex:its[j]?=some x)(ne:e≠I)
 (q:∀ g,IsEnumOut g e I (i+1) x s.heap.objs.size->g.IsListIter I l (j+1)->g.get? s.heap.objs.size=some {cls:=.type "tuple",data:=.seq #[.int i s.toks,x]} →
   (∀ b o,b≠e->b≠I->s.heap.get? b=some o->g.get? b=some o)->Q (some (.ref s.heap.objs.size)) {s with heap:=g,toks:=s.toks+1}):wpAny (model prog w) A (PySem.pyNext (.ref e)) Q E s:=by
 have ty:s.TypeIs (.ref e) "enumerate":=⟨_,he,rfl⟩
 unfold PySem.pyNext
 exact wpAny_bind (wpAny_attempt (wpAny_callSpecial?_slot (name:=Str.ofString "__next__") ty F.slot_enumerate_next (wpAny_call_entry F.slot_enumerate_next ty F.entry_enumerate_next (nextE he pI pL ex ne fun g b1 b2 b3 b4=>wpAny_pure (q g b1 b2 b3 b4)) (F.args_enumerate_next_1 _))))
theorem pyEndE{e I l:Addr}{i:Int}{j:Nat}{its:Array Value}{old:Value}{Q:Option Value->Shared->Prop}(hA:A.handled=none)(he:IsEnum s.heap e I i old)(pI:s.heap.IsListIter I l j)(pL:s.heap.IsList l its)(ex:its[j]?=none)
 (q:∀ g,Heap.ExtBut I s.heap g->Q none {s with heap:=g}):wpAny (model prog w) A (PySem.pyNext (.ref e)) Q E s:=by
 have ty:s.TypeIs (.ref e) "enumerate":=⟨_,he,rfl⟩
 unfold PySem.pyNext
 refine wpAny_bind (wpAny_attempt (wpAny_callSpecial?_slot (name:=Str.ofString "__next__") ty F.slot_enumerate_next (wpAny_call_entry F.slot_enumerate_next ty F.entry_enumerate_next ?_ (F.args_enumerate_next_1 _))))
 show wpAny _ _ (field (.ref e) 2 >>= _) _ _ _
 refine wpAny_bind (wpAny_field he rfl (x:=.ref I) rfl (wpAny_bind (wpAny_nextOf_list_end hA pI pL ex fun g y b1 b2 => ?_)))
 obtain⟨o,ho,hc⟩:=b2
 exact wpAny_bind (wpAny_isInstance (T:="StopIteration") (b:=true) ⟨o,ho,hc⟩ isSubtype_stop (wpAny_pure (q _ b1)))
end
end EN
end PySem
namespace SN
open PySem PySem.Spec PyProof.Rows L2 MP
section
variable {prog:Program}{w:World}{A:Around}
noncomputable def Rs(d:Option Value):Option Int->List Int->Value->Prop
 |none,[],v=>d=some v
 |none,x::r,v=>∃ t,v = .int (maxL x r) t
 |some b,r,v=>∃ t,v = .int (maxL b r) t
noncomputable def better(x:Int):Option Int->Int
 |none=>x
 |some b=>if x > b then x else b
theorem Rs.step{d:Option Value}{m:Option Int}{x:Int}{r:List Int}{v:Value}(h:Rs d (some (better x m)) r v):Rs d m (x::r) v:=by
 cases m<;>exact h
end
variable [Wd]
section
variable {X:Cx}
theorem ok_max2:OkN .max2 (fun xs H Q=>∃ i j,xs=[.int i,.int j]/\Q (.int (if j > i then j else i)) H):=by
 intro ρ σ H xs vs r σ' Q S hx e q
 change pMax2 xs σ=_ at e
 match xs,hx,e with
 | [],_,e=>cases e
 | [x],_,e=>cases x with
  |g gx=>cases gx<;>cases e
  |_=>cases e
 |x::y::_::_,_,e=>cases x with
  |g gx=>cases gx<;>first|(cases e;done)|(cases y with|g gy=>cases gy<;>cases e|_=>cases e)
  |_=>cases e
 | [x,y],hx,e =>
  obtain⟨v,u,rfl,hv,hu⟩:=rrs2 hx
  cases x with
  |g gx =>
   cases gx with
   |int i =>
    cases y with
    |g gy =>
     cases gy with
     |int j=>cases e;cases hv;cases hu;exact⟨i,j,rfl,q.same S rfl⟩
     |_=>cases e
    |_=>cases e
   |_=>cases e
  |_=>cases e
end
end SN
namespace SN
open PySem PySem.Spec PyProof.Rows L2 MP
section
variable {X:Cx}{pins:List (Addr × Obj)}{σ:L2.St}{H:Hp}{s:Shared}
theorem turnedL{h':Heap}{t':Nat}{ch:List Addr}(I:Inv X pins σ H s)(hf:∀ b∈ch,FpOk X pins H b)(k:∀ b o,b∉ch->s.heap.get? b=some o->h'.get? b=some o):Inv X pins σ H {s with heap:=h',toks:=t'}:=by
 have nit:∀ b u,H b=some u->b∉ch:=fun b u e z=>by rw[(hf b z).1] at e;cases e
 refine I.step (g':=s.gens) (d':=s.drawn) (t':=t') (ch:=ch) (fun b hb => ?_) (fun b o _ _ hc e _=>k b o hc e) (fun b o _ _ hc e _=>⟨o.slots,k b o hc e⟩) (fun _ _ _ _ n=>n)
  (fun b o hc e=>⟨o,k b o hc e⟩) (fun _ _ e=>e) (fun _ _ _ e=>e) (fun b ps e=>⟨#[],by rw[e];simp⟩) (fun m hm => ?_) (fun b u e => ?_) I.bare
 ·obtain⟨f0,f1,f2,f3,f4,f5⟩:=hf b hb
  exact⟨f3.imp id Heap.get?_none_of_le,f1,f4,f5⟩
 ·obtain⟨o,es,ep,ho,r⟩:=hm
  exact⟨o,es,ep,k _ o (fun z=>(hf _ z).2.1 rfl) ho,r⟩
 ·refine(I.hok b u e).stay (fun c v hc q=>k c v ?_ q) (fun c q=>q) fun c xs q=>q
  rcases hc with z|z
  ·rw[z];exact nit b u e
  ·exact nit c _ z
theorem turnedTL{h':Heap}{t':Nat}{ch:List Addr}{xs:List V}{us:List Value}(I:Inv X pins σ H s)(hf:∀ b∈ch,FpOk X pins H b)(k:∀ b o,b∉ch->s.heap.get? b=some o->h'.get? b=some o)
 (ht:h'.get? s.heap.objs.size=some {cls:=.type "tuple",data:=.seq us.toArray}) (hv:Vals xs us) (hz:xs.length<=sizeLine):Inv X pins σ (upd H s.heap.objs.size (.tup xs)) {s with heap:=h',toks:=t'}:=by
 have hp:H s.heap.objs.size=none:=I.hok.fresh (Nat.le_refl _)
 have ne:∀ b o,s.heap.get? b=some o->b≠s.heap.objs.size:=fun b o e=>Nat.ne_of_lt (Heap.lt_size e)
 have ne2:∀ b u,H b=some u->b≠s.heap.objs.size:=fun b u e=>ne_of_none e hp
 have nit:∀ b u,H b=some u->b∉ch:=fun b u e z=>by rw[(hf b z).1] at e;cases e
 refine I.step (g':=s.gens) (d':=s.drawn) (t':=t') (ch:=ch) (fun b hb => ?_) (fun b o _ _ hc e _=>k b o hc e) (fun b o _ _ hc e _=>⟨o.slots,k b o hc e⟩) (fun b o _ e n=>by rw[upd_ne (ne b o e)];exact n)
  (fun b o hc e=>⟨o,k b o hc e⟩) (fun b _ e=>by rw[upd_ne (ne2 b _ e)];exact e) (fun b _ _ e=>by rw[upd_ne (ne2 b _ e)];exact e) (fun b ps e=>⟨#[],by rw[upd_ne (ne2 b _ e),e];simp⟩) (fun m hm => ?_) (fun b u e => ?_) I.bare
 ·obtain⟨f0,f1,f2,f3,f4,f5⟩:=hf b hb
  exact⟨f3.imp id Heap.get?_none_of_le,f1,f4,f5⟩
 ·obtain⟨o,es,ep,ho,r⟩:=hm
  exact⟨o,es,ep,k _ o (fun z=>(hf _ z).2.1 rfl) ho,r⟩
 ·by_cases hb:b=s.heap.objs.size
  ·subst hb
   rw[upd_same] at e
   cases e
   exact⟨hz,us,hv,_,ht,rfl,_,rfl⟩
  ·rw[upd_ne hb] at e
   refine(I.hok b u e).stay (fun c v hc q=>k c v ?_ q) (fun c q=>by rw[upd_ne (ne2 c _ q)];exact q) fun c xs q=>by rw[upd_ne (ne2 c _ q)];exact q
   rcases hc with z|z
   ·rw[z];exact nit b u e
   ·exact nit c _ z
end
end SN
namespace PySem
namespace ZT
variable {prog:Program}{w:World}{A:Around}{E:Value->Shared->Prop}{s:Shared}
theorem drawT{I T:Addr}{k:Nat}{vs:Array Value}{v:Value}{Q:Value->Shared->Prop}(pI:s.heap.IsTupleIter I T k)(pT:s.heap.IsTuple T vs)(e:vs[k]?=some v)
 (q:∀ g,g.IsTupleIter I T (k+1)->Heap.SameBut I s.heap g->Q v {s with heap:=g}):wpAny (model prog w) A (Builtin.SmallTypes.nextOf (.ref I)) Q E s:=by
 obtain⟨r,hr,cr,dr⟩:=id pI
 obtain⟨rt,hrt,_,n,drt⟩:=pT
 unfold Builtin.SmallTypes.nextOf
 refine wpAny_bind (wpAny_callSpecial?_slot (name:=Str.ofString "__next__") pI.typeIs F.slot_tuple_iterator_next (wpAny_call_entry F.slot_tuple_iterator_next pI.typeIs F.entry_tuple_iterator_next ?_ (F.args_tuple_iterator_next_1 _)))
 show wpAny _ _ (field (.ref I) 0 >>= _) _ _ s
 refine wpAny_bind (wpAny_field hr dr (x:=.ref T) rfl ?_)
 show wpAny _ _ (if (Value.ref T == Value.none)=true then _ else _) _ _ s
 rw[if_neg (fun z:(Value.ref T == Value.none)=true=>Bool.false_ne_true z)]
 show wpAny _ _ (field (.ref I) 1 >>= _) _ _ s
 refine wpAny_bind (wpAny_field hr dr (x:=.int k 0) rfl ?_)
 show wpAny _ _ (seqItems? (.ref T) >>= _) _ _ s
 refine wpAny_bind (wpAny_seqItems hrt drt ?_)
 simp only[Int.toNat_natCast,e]
 refine wpAny_bind (wpAny_setField hr dr (by simp) (wpAny_pure ⟨v,rfl,wpAny_pure (q _ ⟨_,Heap.get?_update_self _ hr (Obj.isFreed_of_fields (Obj.data_mapFields dr _)),(Obj.cls_mapFields ..).trans cr,?_⟩ (Heap.SameBut.update ..))⟩))
 rw[Obj.data_mapFields dr]
 simp[rawInt]
theorem drawEndT{I T:Addr}{k:Nat}{vs:Array Value}{Q:Value->Shared->Prop}(hA:A.handled=none)(pI:s.heap.IsTupleIter I T k)(pT:s.heap.IsTuple T vs)(e:vs[k]?=none)
 (q:∀ g x,Heap.ExtBut I s.heap g->(∃ o,g.get? x=some o/\o.cls = .type "StopIteration")->E (.ref x) {s with heap:=g}):wpAny (model prog w) A (Builtin.SmallTypes.nextOf (.ref I)) Q E s:=by
 obtain⟨r,hr,cr,dr⟩:=id pI
 obtain⟨rt,hrt,_,n,drt⟩:=pT
 unfold Builtin.SmallTypes.nextOf
 refine wpAny_bind (wpAny_callSpecial?_slot (name:=Str.ofString "__next__") pI.typeIs F.slot_tuple_iterator_next (wpAny_call_entry F.slot_tuple_iterator_next pI.typeIs F.entry_tuple_iterator_next ?_ (F.args_tuple_iterator_next_1 _)))
 show wpAny _ _ (field (.ref I) 0 >>= _) _ _ s
 refine wpAny_bind (wpAny_field hr dr (x:=.ref T) rfl ?_)
 show wpAny _ _ (if (Value.ref T == Value.none)=true then _ else _) _ _ s
 rw[if_neg (fun z:(Value.ref T == Value.none)=true=>Bool.false_ne_true z)]
 show wpAny _ _ (field (.ref I) 1 >>= _) _ _ s
 refine wpAny_bind (wpAny_field hr dr (x:=.int k 0) rfl ?_)
 show wpAny _ _ (seqItems? (.ref T) >>= _) _ _ s
 refine wpAny_bind (wpAny_seqItems hrt drt ?_)
 simp only[Int.toNat_natCast,e]
 refine wpAny_bind (wpAny_rule (wpAny_bind (wpAny_setField hr dr (by simp) ?_)))
 show wpAny _ _ (newExc (.type "StopIteration") [] >>= fun _=>_) _ _ _
 refine wpAny_bind ?_
 unfold newExc newTuple
 refine wpAny_bind (wpAny_newObj_type ?_ (by size_fits))
 refine wpAny_bind (m:=firstArgMember _ _) (wpAny_of_eq (a:=Value.none) (by first|rfl|(unfold firstArgMember;rfl)) ?_)
 refine wpAny_newObj_type ?_ (by size_fits)
 unfold raiseNew
 refine wpAny_bind (wpAny_handled ?_)
 first|rw[show A.in1.handled=none from hA]|rw[hA]
 exact wpAny_bind (wpAny_pure (wpAny_throw (q _ _ (((Heap.SameBut.update ..).extBut.push _).push _) ⟨_,Heap.get?_push_size _ rfl,rfl⟩)))
structure At(h:Heap)(z a b i1 i2 t1 t2:Addr)(k:Nat)(xs ys:Array Value)(f:Value):Prop where
 zp:IsZip h z a b f
 its:IsPair h a (.ref i1) (.ref i2)
 own:∃ u v,IsPair h b u v
 p1:h.IsTupleIter i1 t1 k
 p2:h.IsTupleIter i2 t2 k
 q1:h.IsTuple t1 xs
 q2:h.IsTuple t2 ys
theorem tup_at{h g:Heap}{t:Addr}{vs:Array Value}(p:h.IsTuple t vs)(e:∀ o,h.get? t=some o->g.get? t=some o):g.IsTuple t vs:=let ⟨o,ho,r⟩:=p;⟨o,e _ ho,r⟩
theorem next{z a b i1 i2 t1 t2:Addr}{k:Nat}{xs ys:Array Value}{x y:Value}{Q:Value->Shared->Prop}(D:ZipApart z a b i1 i2 t1 t2)(p:At s.heap z a b i1 i2 t1 t2 k xs ys .none)(ex:xs[k]?=some x)(ey:ys[k]?=some y)
 (q:∀ g,At g z a b i1 i2 t1 t2 (k+1) xs ys (rawInt s.heap.objs.size)->IsPair g s.heap.objs.size x y->g.objs.size=s.heap.objs.size+1 →
   (∀ c o,c≠z->c≠b->c≠i1->c≠i2->s.heap.get? c=some o->g.get? c=some o)->Q (.ref s.heap.objs.size) {s with heap:=g}) :
 wpAny (model prog w) A (Builtin.«zip.__next__» ⟨[.ref z],[]⟩) (fun fin s'=>∃ v,fin = .done (.ret v)/\Q v s') E s:=by
 obtain⟨hZ,hI,⟨u,v,hO⟩,k1,k2,s1,s2⟩:=p
 show wpAny _ _ (field (.ref z) 2 >>= _) _ _ _
 refine wpAny_bind (wpAny_field hZ rfl (x:=.bool false) rfl ?_)
 show wpAny _ _ (field (.ref z) 3 >>= _) _ _ _
 refine wpAny_bind (wpAny_field hZ rfl (x:=.ref a) rfl ?_)
 refine wpAny_bind (wpAny_seqItems hI rfl ?_)
 show wpAny _ _ (Builtin.SmallTypes.ownedTupleIsFree (.ref z) >>= fun _=>_) _ _ _
 refine wpAny_bind ?_
 unfold Builtin.SmallTypes.ownedTupleIsFree
 refine wpAny_bind (wpAny_field hZ rfl (x:=.none) rfl (wpAny_pure ?_))
 simp only[if_true]
 refine wpAny_bind (wpAny_rule (wpAny_bind (wpAny_field hZ rfl (x:=.ref b) rfl ?_)))
 refine wpAny_bind (wpAny_setField_rec hZ (by simp) fun g1 hZ1 e1 => ?_)
 replace hZ1:IsZip g1 z a b .ellipsis:=hZ1
 refine wpAny_bind ?_
 simp only[List.forIn_cons,List.forIn_nil,List.zipIdx_cons,List.zipIdx_nil]
 refine wpAny_bind (wpAny_bind (wpAny_onRaise (?one:wpAny _ _ (Builtin.SmallTypes.nextOf (.ref i1) >>= fun _=>_) _ _ _)))
 refine wpAny_bind (drawT (k1.extBut e1.extBut D.i1z) (s1.extBut e1.extBut D.l1z) ex fun g2 m1 e2=>wpAny_pure ?_)
 have hO2:IsPair g2 b u v:=e2.extBut _ _ D.TOi1 (e1.extBut _ _ D.TOz hO)
 refine wpAny_bind (wpAny_seqItems hO2 rfl (wpAny_bind (wpAny_updateSeq_pair hO2 fun g3 hO3 e3 => ?_)))
 replace hO3:IsPair g3 b x v:=hO3
 refine wpAny_bind (wpAny_letGo (wpAny_pure ?_))
 refine wpAny_bind (wpAny_bind (wpAny_onRaise (?two:wpAny _ _ (Builtin.SmallTypes.nextOf (.ref i2) >>= fun _=>_) _ _ _)))
 have k23:g3.IsTupleIter i2 t2 k:=((k2.extBut e1.extBut D.i2z).extBut e2.extBut D.i12.symm).extBut e3.extBut D.TOi2.symm
 have s23:g3.IsTuple t2 ys:=((s2.extBut e1.extBut D.l2z).extBut e2.extBut D.l2i1).extBut e3.extBut D.l2TO
 refine wpAny_bind (drawT k23 s23 ey fun g4 m2 e4=>wpAny_pure ?_)
 have hO4:IsPair g4 b x v:=e4.extBut _ _ D.TOi2 hO3
 refine wpAny_bind (wpAny_seqItems hO4 rfl (wpAny_bind (wpAny_updateSeq_pair hO4 fun g5 hO5 e5 => ?_)))
 replace hO5:IsPair g5 b x y:=hO5
 refine wpAny_bind (wpAny_letGo (wpAny_pure (wpAny_pure ?_)))
 refine wpAny_bind (wpAny_seqItems hO5 rfl (wpAny_bind (wpAny_newTuple ?_)))
 have sz5:g5.objs.size=s.heap.objs.size:=by rw[e5.1,e4.1,e3.1,e2.1,e1.1]
 have stay:∀ c o,c≠z->c≠b->c≠i1->c≠i2->s.heap.get? c=some o->g5.get? c=some o:=fun c o n1 n2 n3 n4 e =>
  e5.extBut _ _ n2 (e4.extBut _ _ n4 (e3.extBut _ _ n2 (e2.extBut _ _ n3 (e1.extBut _ _ n1 e))))
 have hZ5:IsZip g5 z a b .ellipsis:=e5.extBut _ _ D.TOz.symm (e4.extBut _ _ D.i2z.symm (e3.extBut _ _ D.TOz.symm (e2.extBut _ _ D.i1z.symm hZ1)))
 have w1:g5.IsTupleIter i1 t1 (k+1):=((m1.extBut e3.extBut D.TOi1.symm).extBut e4.extBut D.i12).extBut e5.extBut D.TOi1.symm
 have w2:g5.IsTupleIter i2 t2 (k+1):=m2.extBut e5.extBut D.TOi2.symm
 have zl:z<g5.objs.size:=Heap.lt_size hZ5
 show wpAny _ _ (Builtin.SmallTypes.ownedTupleHandOut (.ref z) (.ref g5.objs.size) >>= fun _=>_) _ _ _
 refine wpAny_bind ?_
 unfold Builtin.SmallTypes.ownedTupleHandOut
 have hZ6:IsZip (g5.push {cls:=.type "tuple",data:=.seq #[x,y]}) z a b .ellipsis:=Heap.get?_push_of_some _ hZ5
 refine wpAny_bind (wpAny_setField_rec hZ6 (by simp) fun g7 hZ7 e7 => ?_)
 replace hZ7:IsZip g7 z a b (rawInt g5.objs.size):=hZ7
 refine wpAny_setField_rec hZ7 (by simp) fun g8 hZ8 e8 => ?_
 replace hZ8:IsZip g8 z a b (rawInt g5.objs.size):=hZ8
 have on:∀ c o,c≠z->g5.get? c=some o->g8.get? c=some o:=fun c o n e=>e8.extBut _ _ n (e7.extBut _ _ n (Heap.get?_push_of_some _ e))
 have hT:IsPair g8 g5.objs.size x y:=e8.extBut _ _ (Nat.ne_of_gt zl) (e7.extBut _ _ (Nat.ne_of_gt zl) (Heap.get?_push_size _ rfl))
 have sz8:g8.objs.size=g5.objs.size+1:=by rw[e8.1,e7.1,Heap.size_push]
 refine wpAny_pure ⟨_,rfl,?_⟩
 show Q (.ref g5.objs.size) _
 rw[sz5] at hZ8 hT sz8 ⊢
 refine q g8 ⟨hZ8,on _ _ D.TIz (stay _ _ D.TIz D.TITO D.TIi1 D.TIi2 hI),⟨x,y,on _ _ D.TOz hO5⟩,w1.at fun o e=>on _ o D.i1z e,w2.at fun o e=>on _ o D.i2z e,?_,?_⟩ hT sz8 fun c o n1 n2 n3 n4 e=>on c o n1 (stay c o n1 n2 n3 n4 e)
 ·exact tup_at s1 fun o e=>on _ o D.l1z (stay _ o D.l1z D.l1TO D.l1i1 D.l1i2 e)
 ·exact tup_at s2 fun o e=>on _ o D.l2z (stay _ o D.l2z D.l2TO D.l2i1 D.l2i2 e)
theorem nextEnd{z a b i1 i2 t1 t2:Addr}{k:Nat}{xs ys:Array Value}{Q:Fin->Shared->Prop}(hA:A.handled=none)(D:ZipApart z a b i1 i2 t1 t2)(p:At s.heap z a b i1 i2 t1 t2 k xs ys .none)(en:xs[k]?=none\/ys[k]?=none)
 (q:∀ g x,(∀ c o,c≠z->c≠b->c≠i1->c≠i2->s.heap.get? c=some o->g.get? c=some o)->(∃ o,g.get? x=some o/\o.cls = .type "StopIteration")->E (.ref x) {s with heap:=g}) :
 wpAny (model prog w) A (Builtin.«zip.__next__» ⟨[.ref z],[]⟩) Q E s:=by
 obtain⟨hZ,hI,⟨u,v,hO⟩,k1,k2,s1,s2⟩:=p
 show wpAny _ _ (field (.ref z) 2 >>= _) _ _ _
 refine wpAny_bind (wpAny_field hZ rfl (x:=.bool false) rfl ?_)
 show wpAny _ _ (field (.ref z) 3 >>= _) _ _ _
 refine wpAny_bind (wpAny_field hZ rfl (x:=.ref a) rfl ?_)
 refine wpAny_bind (wpAny_seqItems hI rfl ?_)
 show wpAny _ _ (Builtin.SmallTypes.ownedTupleIsFree (.ref z) >>= fun _=>_) _ _ _
 refine wpAny_bind ?_
 unfold Builtin.SmallTypes.ownedTupleIsFree
 refine wpAny_bind (wpAny_field hZ rfl (x:=.none) rfl (wpAny_pure ?_))
 simp only[if_true]
 refine wpAny_bind (wpAny_rule (wpAny_bind (wpAny_field hZ rfl (x:=.ref b) rfl ?_)))
 refine wpAny_bind (wpAny_setField_rec hZ (by simp) fun g1 hZ1 e1 => ?_)
 replace hZ1:IsZip g1 z a b .ellipsis:=hZ1
 refine wpAny_bind ?_
 simp only[List.forIn_cons,List.forIn_nil,List.zipIdx_cons,List.zipIdx_nil]
 refine wpAny_bind (wpAny_bind (wpAny_onRaise (?one:wpAny _ _ (Builtin.SmallTypes.nextOf (.ref i1) >>= fun _=>_) _ _ _)))
 have other:∀ {g:Heap} {x:Addr},IsZip g z a b .ellipsis->(∃ o,g.get? x=some o/\o.cls = .type "StopIteration")->x≠z:=fun {g x} hz ⟨o,ho,hc⟩ n=>by
  subst n
  rw[hz] at ho
  cases ho
  simp at hc
 cases ex:xs[k]? with
 |none =>
  refine wpAny_bind (drawEndT hA (k1.extBut e1.extBut D.i1z) (s1.extBut e1.extBut D.l1z) ex fun g2 x e2 hx => ?_)
  have hZ2:IsZip g2 z a b .ellipsis:=e2 _ _ D.i1z.symm hZ1
  have hn:=other hZ2 hx
  obtain⟨o,ho,hc⟩:=hx
  exact wpAny_setField_rec hZ2 (by simp) fun g3 _ e3=>q g3 x (fun c o n1 _ n3 _ e=>e3.extBut _ _ n1 (e2 _ _ n3 (e1.extBut _ _ n1 e))) ⟨o,e3.extBut _ _ hn ho,hc⟩
 |some x =>
  have ey:ys[k]?=none:=en.resolve_left fun z=>by rw[ex] at z;cases z
  refine wpAny_bind (drawT (k1.extBut e1.extBut D.i1z) (s1.extBut e1.extBut D.l1z) ex fun g2 m1 e2=>wpAny_pure ?_)
  have hO2:IsPair g2 b u v:=e2.extBut _ _ D.TOi1 (e1.extBut _ _ D.TOz hO)
  refine wpAny_bind (wpAny_seqItems hO2 rfl (wpAny_bind (wpAny_updateSeq_pair hO2 fun g3 hO3 e3 => ?_)))
  refine wpAny_bind (wpAny_letGo (wpAny_pure ?_))
  refine wpAny_bind (wpAny_bind (wpAny_onRaise (?two:wpAny _ _ (Builtin.SmallTypes.nextOf (.ref i2) >>= fun _=>_) _ _ _)))
  have k23:g3.IsTupleIter i2 t2 k:=((k2.extBut e1.extBut D.i2z).extBut e2.extBut D.i12.symm).extBut e3.extBut D.TOi2.symm
  have s23:g3.IsTuple t2 ys:=((s2.extBut e1.extBut D.l2z).extBut e2.extBut D.l2i1).extBut e3.extBut D.l2TO
  refine wpAny_bind (drawEndT hA k23 s23 ey fun g4 x e4 hx => ?_)
  have hZ4:IsZip g4 z a b .ellipsis:=e4 _ _ D.i2z.symm (e3.extBut _ _ D.TOz.symm (e2.extBut _ _ D.i1z.symm hZ1))
  have hn:=other hZ4 hx
  obtain⟨o,ho,hc⟩:=hx
  exact wpAny_setField_rec hZ4 (by simp) fun g5 _ e5=>q g5 x (fun c o n1 n2 n3 n4 e=>e5.extBut _ _ n1 (e4 _ _ n4 (e3.extBut _ _ n2 (e2.extBut _ _ n3 (e1.extBut _ _ n1 e))))) ⟨o,e5.extBut _ _ hn ho,hc⟩
theorem pyNext{z a b i1 i2 t1 t2:Addr}{k:Nat}{xs ys:Array Value}{x y:Value}{Q:Option Value->Shared->Prop}(D:ZipApart z a b i1 i2 t1 t2)(p:At s.heap z a b i1 i2 t1 t2 k xs ys .none)(ex:xs[k]?=some x)(ey:ys[k]?=some y)
 (q:∀ g,At g z a b i1 i2 t1 t2 (k+1) xs ys (rawInt s.heap.objs.size)->IsPair g s.heap.objs.size x y->g.objs.size=s.heap.objs.size+1 →
   (∀ c o,c≠z->c≠b->c≠i1->c≠i2->s.heap.get? c=some o->g.get? c=some o)->Q (some (.ref s.heap.objs.size)) {s with heap:=g}):wpAny (model prog w) A (PySem.pyNext (.ref z)) Q E s:=by
 have ty:s.TypeIs (.ref z) "zip":=⟨_,p.zp,rfl⟩
 unfold PySem.pyNext
 exact wpAny_bind (wpAny_attempt (wpAny_callSpecial?_slot (name:=Str.ofString "__next__") ty F.slot_zip_next (wpAny_call_entry F.slot_zip_next ty F.entry_zip_next (next D p ex ey fun g b1 b2 b3 b4=>wpAny_pure (q g b1 b2 b3 b4)) (F.args_zip_next_1 _))))
theorem pyEnd{z a b i1 i2 t1 t2:Addr}{k:Nat}{xs ys:Array Value}{Q:Option Value->Shared->Prop}(hA:A.handled=none)(D:ZipApart z a b i1 i2 t1 t2)(p:At s.heap z a b i1 i2 t1 t2 k xs ys .none)(en:xs[k]?=none\/ys[k]?=none)
 (q:∀ g,(∀ c o,c≠z->c≠b->c≠i1->c≠i2->s.heap.get? c=some o->g.get? c=some o)->Q none {s with heap:=g}):wpAny (model prog w) A (PySem.pyNext (.ref z)) Q E s:=by
 have ty:s.TypeIs (.ref z) "zip":=⟨_,p.zp,rfl⟩
 unfold PySem.pyNext
 refine wpAny_bind (wpAny_attempt (wpAny_callSpecial?_slot (name:=Str.ofString "__next__") ty F.slot_zip_next (wpAny_call_entry F.slot_zip_next ty F.entry_zip_next (nextEnd hA D p en fun g x b1 b2 => ?_) (F.args_zip_next_1 _))))
 obtain⟨o,ho,hc⟩:=b2
 exact wpAny_bind (wpAny_isInstance (T:="StopIteration") (b:=true) ⟨o,ho,hc⟩ isSubtype_stop (wpAny_pure (q _ b1)))
noncomputable abbrev zT1(h:Heap)(t1:Addr):Heap:=h.push {cls:=.type "tuple_iterator",data:=.fields #[.ref t1,.int 0 0]}
noncomputable abbrev zT2(h:Heap)(t1 t2:Addr):Heap:=(zT1 h t1).push {cls:=.type "tuple_iterator",data:=.fields #[.ref t2,.int 0 0]}
noncomputable abbrev zT3(h:Heap)(t1 t2:Addr):Heap:=(zT2 h t1 t2).push {cls:=.type "tuple",data:=.seq #[.ref h.objs.size,.ref (zT1 h t1).objs.size]}
noncomputable abbrev zT4(h:Heap)(t1 t2:Addr):Heap:=(zT3 h t1 t2).push {cls:=.type "tuple",data:=.seq #[.none,.none]}
noncomputable abbrev zT5(h:Heap)(t1 t2:Addr):Heap:=(zT4 h t1 t2).push {cls:=.type "zip",data:=.fields #[.none,.bool false,.bool false,.ref (zT2 h t1 t2).objs.size,.ref (zT3 h t1 t2).objs.size]}
theorem meetsNew(t1 t2:Addr)(xs ys:Array Value):Meets (Builtin.«zip.__new__» ⟨[.type "zip",.ref t1,.ref t2],[]⟩) (fun _ R s=>s.heap.IsTuple t1 xs/\s.heap.IsTuple t2 ys ∧
 ∀ g,At g (s.heap.objs.size+4) (s.heap.objs.size+2) (s.heap.objs.size+3) s.heap.objs.size (s.heap.objs.size+1) t1 t2 0 xs ys .none->(∀ c o,s.heap.get? c=some o->g.get? c=some o) →
 R (.ok (.ret (.ref (s.heap.objs.size+4)))) {s with heap:=g}) :=
 .of_wp fun prog w A R s h=>by
  obtain⟨hp,g,d,tk,os⟩:=s
  obtain⟨r1,r2,h⟩:=h
  have hsub:=sub_zip
  have u1:Heap.IsTuple (Shared.heap ⟨hp,g,d,tk,os⟩) t1 xs:=r1
  have u2:Heap.IsTuple (Shared.heap ⟨hp.push {cls:=.type "tuple_iterator",data:=.fields #[.ref t1,.int 0 0]},g,d,tk,os⟩) t2 ys:=Heap.IsTuple.push r2 _
  wp_walk using wpAny_pyIter_tuple u1,wpAny_pyIter_tuple u2
  refine⟨_,rfl,?_⟩
  have c1:(zT1 hp t1).objs.size=hp.objs.size+1:=Heap.size_push ..
  have c2:(zT2 hp t1 t2).objs.size=hp.objs.size+2:=by rw[Heap.size_push,c1]
  have c3:(zT3 hp t1 t2).objs.size=hp.objs.size+3:=by rw[Heap.size_push,c2]
  have c4:(zT4 hp t1 t2).objs.size=hp.objs.size+4:=by rw[Heap.size_push,c3]
  have up:∀ c o,hp.get? c=some o->(zT5 hp t1 t2).get? c=some o:=fun c o e =>
   Heap.get?_push_of_some _ (Heap.get?_push_of_some _ (Heap.get?_push_of_some _ (Heap.get?_push_of_some _ (Heap.get?_push_of_some _ e))))
  have b5:(zT5 hp t1 t2).get? (zT4 hp t1 t2).objs.size=some {cls:=.type "zip",data:=.fields #[.none,.bool false,.bool false,.ref (zT2 hp t1 t2).objs.size,.ref (zT3 hp t1 t2).objs.size]}:=Heap.get?_push_size _ rfl
  have b4:(zT5 hp t1 t2).get? (zT3 hp t1 t2).objs.size=some {cls:=.type "tuple",data:=.seq #[.none,.none]}:=Heap.get?_push_of_some _ (Heap.get?_push_size _ rfl)
  have b3:(zT5 hp t1 t2).get? (zT2 hp t1 t2).objs.size=some {cls:=.type "tuple",data:=.seq #[.ref hp.objs.size,.ref (zT1 hp t1).objs.size]}:=Heap.get?_push_of_some _ (Heap.get?_push_of_some _ (Heap.get?_push_size _ rfl))
  have b2:(zT5 hp t1 t2).get? (zT1 hp t1).objs.size=some {cls:=.type "tuple_iterator",data:=.fields #[.ref t2,.int 0 0]}:=Heap.get?_push_of_some _ (Heap.get?_push_of_some _ (Heap.get?_push_of_some _ (Heap.get?_push_size _ rfl)))
  have b1:(zT5 hp t1 t2).get? hp.objs.size=some {cls:=.type "tuple_iterator",data:=.fields #[.ref t1,.int 0 0]}:=Heap.get?_push_of_some _ (Heap.get?_push_of_some _ (Heap.get?_push_of_some _ (Heap.get?_push_of_some _ (Heap.get?_push_size _ rfl))))
  rw[c4,c2,c3] at b5
  rw[c3] at b4
  rw[c2,c1] at b3
  rw[c1] at b2
  have z:=h (zT5 hp t1 t2) ⟨b5,b3,⟨_,_,b4⟩,⟨_,b1,rfl,rfl⟩,⟨_,b2,rfl,rfl⟩,tup_at r1 (fun o e=>up _ o e),tup_at r2 (fun o e=>up _ o e)⟩ up
  show R (.ok (.ret (.ref (zT4 hp t1 t2).objs.size))) _
  rw[c4]
  exact z
theorem callZip{t1 t2:Addr}{xs ys:Array Value}{Q:Value->Shared->Prop}(r1:s.heap.IsTuple t1 xs)(r2:s.heap.IsTuple t2 ys)
 (h:∀ g,At g (s.heap.objs.size+4) (s.heap.objs.size+2) (s.heap.objs.size+3) s.heap.objs.size (s.heap.objs.size+1) t1 t2 0 xs ys .none->(∀ c o,s.heap.get? c=some o->g.get? c=some o)->Q (.ref (s.heap.objs.size+4)) {s with heap:=g}) :
 wpAny (model prog w) A (call (.type "zip") [.ref t1,.ref t2]) Q E s:=by
 refine callType_new F.called_zip (by decide) (F.typeCall_zip_2 _ _) (F.newCall_zip_2 _ _) (fun obj=>F.args_object_init_3 obj _ _) F.entry_zip_new (meetsNew t1 t2 xs ys) ⟨r1,r2,fun g p k => ?_⟩
 show _/\_
 exact⟨⟨_,p.zp,rfl⟩,h g p k⟩
end ZT
end PySem
namespace PySem
namespace ZT
variable {prog:Program}{w:World}{A:Around}{E:Value->Shared->Prop}{s:Shared}
noncomputable abbrev ZP(h:Heap)(z a b:Addr)(f:Value)(c:Bool):Prop:=h.get? z=some {cls:=.type "zip",dict:=none,data:=.fields #[f,.bool c,.bool false,.ref a,.ref b],slots := #[]}
theorem alive{a:Addr}{o:Obj}{Q:Option Obj->Shared->Prop}(ho:s.heap.get? a=some o)(h:Q (some o) s):wpAny (model prog w) A (loadIfAlive a) Q E s:=by
 rw[← ho] at h
 exact fun _ _ _=>h
theorem held{z a b p:Addr}{c:Bool}{op:Obj}{Q:Bool->Shared->Prop}(hZ:ZP s.heap z a b (rawInt p) c)(hp:s.heap.get? p=some op)(q:∀ g,ZP g z a b (rawInt p) true->Heap.SameBut z s.heap g->Q false {s with heap:=g}) :
 wpAny (model prog w) A (Builtin.SmallTypes.ownedTupleIsFree (.ref z)) Q E s:=by
 unfold Builtin.SmallTypes.ownedTupleIsFree
 refine wpAny_bind (wpAny_field hZ rfl (x:=rawInt p) rfl ?_)
 show wpAny _ _ (loadIfAlive ((p:Int).toNat) >>= _) _ _ _
 rw[Int.toNat_natCast]
 refine wpAny_bind (alive hp ?_)
 simp only[Option.isNone_some,Bool.false_eq_true,if_false]
 refine wpAny_bind (wpAny_field hZ rfl (x:=.bool c) rfl ?_)
 cases c with
 |true =>
  rw[if_neg (by decide)]
  exact wpAny_pure (q s.heap hZ (Heap.SameBut.refl _ _))
 |false =>
  rw[if_pos (by decide)]
  exact wpAny_bind (wpAny_setField_rec hZ (by simp) fun g hg e=>wpAny_pure (q g hg e))
theorem next2{z a b i1 i2 t1 t2 p:Addr}{k:Nat}{c:Bool}{op:Obj}{xs ys:Array Value}{x y:Value}{Q:Value->Shared->Prop}(D:ZipApart z a b i1 i2 t1 t2)(hZ:ZP s.heap z a b (rawInt p) c)(hp:s.heap.get? p=some op)(hI:IsPair s.heap a (.ref i1) (.ref i2))
 (k1:s.heap.IsTupleIter i1 t1 k) (k2:s.heap.IsTupleIter i2 t2 k) (s1:s.heap.IsTuple t1 xs) (s2:s.heap.IsTuple t2 ys) (ex:xs[k]?=some x) (ey:ys[k]?=some y)
 (q:∀ g,ZP g z a b (rawInt p) true->g.IsTupleIter i1 t1 (k+1)->g.IsTupleIter i2 t2 (k+1)->IsPair g s.heap.objs.size x y->g.objs.size=s.heap.objs.size+1 →
   (∀ d o,d≠z->d≠i1->d≠i2->s.heap.get? d=some o->g.get? d=some o)->Q (.ref s.heap.objs.size) {s with heap:=g}) :
 wpAny (model prog w) A (Builtin.«zip.__next__» ⟨[.ref z],[]⟩) (fun fin s'=>∃ v,fin = .done (.ret v)/\Q v s') E s:=by
 show wpAny _ _ (field (.ref z) 2 >>= _) _ _ _
 refine wpAny_bind (wpAny_field hZ rfl (x:=.bool false) rfl ?_)
 show wpAny _ _ (field (.ref z) 3 >>= _) _ _ _
 refine wpAny_bind (wpAny_field hZ rfl (x:=.ref a) rfl ?_)
 refine wpAny_bind (wpAny_seqItems hI rfl ?_)
 show wpAny _ _ (Builtin.SmallTypes.ownedTupleIsFree (.ref z) >>= fun _=>_) _ _ _
 refine wpAny_bind (held hZ hp fun g1 hZ1 e1 => ?_)
 simp only[Bool.false_eq_true,if_false]
 refine wpAny_bind ?_
 rw[← Array.forIn_toList]
 simp only[List.forIn_cons,List.forIn_nil]
 refine wpAny_bind (wpAny_bind (wpAny_holding (?one:wpAny _ _ (Builtin.SmallTypes.nextOf (.ref i1) >>= fun _=>_) _ _ _)))
 refine wpAny_bind (drawT (k1.extBut e1.extBut D.i1z) (s1.extBut e1.extBut D.l1z) ex fun g2 m1 e2=>wpAny_pure (wpAny_pure ?_))
 refine wpAny_bind (wpAny_bind (wpAny_holding (?two:wpAny _ _ (Builtin.SmallTypes.nextOf (.ref i2) >>= fun _=>_) _ _ _)))
 have k22:g2.IsTupleIter i2 t2 k:=(k2.extBut e1.extBut D.i2z).extBut e2.extBut D.i12.symm
 have s22:g2.IsTuple t2 ys:=(s2.extBut e1.extBut D.l2z).extBut e2.extBut D.l2i1
 refine wpAny_bind (drawT k22 s22 ey fun g3 m2 e3=>wpAny_pure (wpAny_pure (wpAny_pure ?_)))
 have sz3:g3.objs.size=s.heap.objs.size:=by rw[e3.1,e2.1,e1.1]
 have stay:∀ d o,d≠z->d≠i1->d≠i2->s.heap.get? d=some o->g3.get? d=some o:=fun d o n1 n3 n4 e =>
  e3.extBut _ _ n4 (e2.extBut _ _ n3 (e1.extBut _ _ n1 e))
 have hZ3:ZP g3 z a b (rawInt p) true:=e3.extBut _ _ D.i2z.symm (e2.extBut _ _ D.i1z.symm hZ1)
 have w1:g3.IsTupleIter i1 t1 (k+1):=m1.extBut e3.extBut D.i12
 refine wpAny_bind (wpAny_newTuple ?_ (by show 2<=sizeLine;decide))
 refine wpAny_pure ⟨_,rfl,?_⟩
 show Q (.ref g3.objs.size) _
 have hT:IsPair (g3.push {cls:=.type "tuple",data:=.seq #[x,y]}) g3.objs.size x y:=Heap.get?_push_size _ rfl
 have on:∀ d o,g3.get? d=some o->(g3.push {cls:=.type "tuple",data:=.seq #[x,y]}).get? d=some o:=fun d o e=>Heap.get?_push_of_some _ e
 rw[sz3] at hT ⊢
 exact q _ (on _ _ hZ3) (w1.at fun o e=>on _ o e) (m2.at fun o e=>on _ o e) hT (by rw[Heap.size_push,sz3]) fun d o n1 n3 n4 e=>on d o (stay d o n1 n3 n4 e)
theorem nextEnd2{z a b i1 i2 t1 t2 p:Addr}{k:Nat}{c:Bool}{op:Obj}{xs ys:Array Value}{Q:Fin->Shared->Prop}(hA:A.handled=none)(D:ZipApart z a b i1 i2 t1 t2)(hZ:ZP s.heap z a b (rawInt p) c)(hp:s.heap.get? p=some op)(hI:IsPair s.heap a (.ref i1) (.ref i2))
 (k1:s.heap.IsTupleIter i1 t1 k) (k2:s.heap.IsTupleIter i2 t2 k) (s1:s.heap.IsTuple t1 xs) (s2:s.heap.IsTuple t2 ys) (en:xs[k]?=none\/ys[k]?=none)
 (q:∀ g x,(∀ d o,d≠z->d≠i1->d≠i2->s.heap.get? d=some o->g.get? d=some o)->(∃ o,g.get? x=some o/\o.cls = .type "StopIteration")->E (.ref x) {s with heap:=g}) :
 wpAny (model prog w) A (Builtin.«zip.__next__» ⟨[.ref z],[]⟩) Q E s:=by
 show wpAny _ _ (field (.ref z) 2 >>= _) _ _ _
 refine wpAny_bind (wpAny_field hZ rfl (x:=.bool false) rfl ?_)
 show wpAny _ _ (field (.ref z) 3 >>= _) _ _ _
 refine wpAny_bind (wpAny_field hZ rfl (x:=.ref a) rfl ?_)
 refine wpAny_bind (wpAny_seqItems hI rfl ?_)
 show wpAny _ _ (Builtin.SmallTypes.ownedTupleIsFree (.ref z) >>= fun _=>_) _ _ _
 refine wpAny_bind (held hZ hp fun g1 hZ1 e1 => ?_)
 simp only[Bool.false_eq_true,if_false]
 refine wpAny_bind ?_
 rw[← Array.forIn_toList]
 simp only[List.forIn_cons,List.forIn_nil]
 refine wpAny_bind (wpAny_bind (wpAny_holding (?one:wpAny _ _ (Builtin.SmallTypes.nextOf (.ref i1) >>= fun _=>_) _ _ _)))
 cases ex:xs[k]? with
 |none =>
  exact wpAny_bind (drawEndT hA (k1.extBut e1.extBut D.i1z) (s1.extBut e1.extBut D.l1z) ex fun g2 x e2 hx=>q g2 x (fun d o n1 n3 _ e=>e2 _ _ n3 (e1.extBut _ _ n1 e)) hx)
 |some x =>
  have ey:ys[k]?=none:=en.resolve_left fun z=>by rw[ex] at z;cases z
  refine wpAny_bind (drawT (k1.extBut e1.extBut D.i1z) (s1.extBut e1.extBut D.l1z) ex fun g2 m1 e2=>wpAny_pure (wpAny_pure ?_))
  refine wpAny_bind (wpAny_bind (wpAny_holding (?two:wpAny _ _ (Builtin.SmallTypes.nextOf (.ref i2) >>= fun _=>_) _ _ _)))
  have k22:g2.IsTupleIter i2 t2 k:=(k2.extBut e1.extBut D.i2z).extBut e2.extBut D.i12.symm
  have s22:g2.IsTuple t2 ys:=(s2.extBut e1.extBut D.l2z).extBut e2.extBut D.l2i1
  exact wpAny_bind (drawEndT hA k22 s22 ey fun g3 x e3 hx=>q g3 x (fun d o n1 n3 n4 e=>e3 _ _ n4 (e2.extBut _ _ n3 (e1.extBut _ _ n1 e))) hx)
theorem pyNext2{z a b i1 i2 t1 t2 p:Addr}{k:Nat}{c:Bool}{op:Obj}{xs ys:Array Value}{x y:Value}{Q:Option Value->Shared->Prop}(D:ZipApart z a b i1 i2 t1 t2)(hZ:ZP s.heap z a b (rawInt p) c)(hp:s.heap.get? p=some op)(hI:IsPair s.heap a (.ref i1) (.ref i2))
 (k1:s.heap.IsTupleIter i1 t1 k) (k2:s.heap.IsTupleIter i2 t2 k) (s1:s.heap.IsTuple t1 xs) (s2:s.heap.IsTuple t2 ys) (ex:xs[k]?=some x) (ey:ys[k]?=some y)
 (q:∀ g,ZP g z a b (rawInt p) true->g.IsTupleIter i1 t1 (k+1)->g.IsTupleIter i2 t2 (k+1)->IsPair g s.heap.objs.size x y->g.objs.size=s.heap.objs.size+1 →
   (∀ d o,d≠z->d≠i1->d≠i2->s.heap.get? d=some o->g.get? d=some o)->Q (some (.ref s.heap.objs.size)) {s with heap:=g}):wpAny (model prog w) A (PySem.pyNext (.ref z)) Q E s:=by
 have ty:s.TypeIs (.ref z) "zip":=⟨_,hZ,rfl⟩
 unfold PySem.pyNext
 exact wpAny_bind (wpAny_attempt (wpAny_callSpecial?_slot (name:=Str.ofString "__next__") ty F.slot_zip_next (wpAny_call_entry F.slot_zip_next ty F.entry_zip_next (next2 D hZ hp hI k1 k2 s1 s2 ex ey fun g b1 b2 b3 b4 b5 b6=>wpAny_pure (q g b1 b2 b3 b4 b5 b6)) (F.args_zip_next_1 _))))
theorem pyEnd2{z a b i1 i2 t1 t2 p:Addr}{k:Nat}{c:Bool}{op:Obj}{xs ys:Array Value}{Q:Option Value->Shared->Prop}(hA:A.handled=none)(D:ZipApart z a b i1 i2 t1 t2)(hZ:ZP s.heap z a b (rawInt p) c)(hp:s.heap.get? p=some op)(hI:IsPair s.heap a (.ref i1) (.ref i2))
 (k1:s.heap.IsTupleIter i1 t1 k) (k2:s.heap.IsTupleIter i2 t2 k) (s1:s.heap.IsTuple t1 xs) (s2:s.heap.IsTuple t2 ys) (en:xs[k]?=none\/ys[k]?=none)
 (q:∀ g,(∀ d o,d≠z->d≠i1->d≠i2->s.heap.get? d=some o->g.get? d=some o)->Q none {s with heap:=g}):wpAny (model prog w) A (PySem.pyNext (.ref z)) Q E s:=by
 have ty:s.TypeIs (.ref z) "zip":=⟨_,hZ,rfl⟩
 unfold PySem.pyNext
 refine wpAny_bind (wpAny_attempt (wpAny_callSpecial?_slot (name:=Str.ofString "__next__") ty F.slot_zip_next (wpAny_call_entry F.slot_zip_next ty F.entry_zip_next (nextEnd2 hA D hZ hp hI k1 k2 s1 s2 en fun g x b1 b2 => ?_) (F.args_zip_next_1 _))))
 obtain⟨o,ho,hc⟩:=b2
 exact wpAny_bind (wpAny_isInstance (T:="StopIteration") (b:=true) ⟨o,ho,hc⟩ isSubtype_stop (wpAny_pure (q _ b1)))
theorem no_len:typeLookup (.type "zip") "__len__"=pure none:=by rw[typeLookup_type,builtinLookup_eq_fast];kernel_rfl
theorem no_hint:typeLookup (.type "zip") "__length_hint__"=pure none:=by rw[typeLookup_type,builtinLookup_eq_fast];kernel_rfl
theorem hint{z:Addr}{Q:Bool->Shared->Prop}(ty:s.TypeIs (.ref z) "zip")(h:Q true s):wpAny (model prog w) A (Builtin.List.listLengthHint (.ref z)) Q E s:=by
 unfold Builtin.List.listLengthHint
 refine wpAny_bind (wpAny_specialOf ty no_len ?_)
 show wpAny _ _ (specialOf (.ref z) (Str.ofString "__length_hint__") >>= _) _ _ _
 refine wpAny_bind (wpAny_specialOf ty no_hint ?_)
 exact wpAny_pure h
end ZT
end PySem
namespace SN
open PySem PySem.Spec PyProof.Rows L2 MP
variable [Wd]
section
variable {X:Cx}{pins:List (Addr × Obj)}{σ:L2.St}{H:Hp}{s:Shared}{a:Addr}
theorem key_at(I:Inv X pins σ H s){i:G}{vi:V}{u:Value}(hi:RG H i vi)(ru:RelV vi u)(ki:tkey i=true):∃ b,u = .ref b/\vi = .ref b/\NK s.heap i (.ref b):=by
 have hk:NK s.heap i u:=NK.of I.hok hi ru (tkey_keyG ki)
 cases i with
 |tup _ =>
  obtain⟨b',_,e,_⟩:=hi
  subst e
  cases ru
  exact⟨_,rfl,rfl,hk⟩
 |_=>simp[tkey] at ki
structure DA(X:Cx)(H:Hp)(a:Addr)(vi:V)(kvs:List (G × G))(i:G)(o:Obj)(ys:List (G × Addr × Value)):Prop where
 at_:H a=some (dG a o)
 rn:RN H kvs ys
 dt:DT a kvs o ys
 rg:RG H i vi
 key:tkey i=true
 tell:tell8 kvs i=true
theorem DA.dict(hw:X.w=Wd.w){vi:V}{kvs:List (G × G)}{i:G}{o:Obj}{ys:List (G × Addr × Value)}(I:Inv X pins σ H s)(d:DA X H a vi kvs i o ys):s.heap.DictOfH (nestKind X.prog X.w) a ys/\gdep i<=8:=by
 obtain⟨ha,hr,⟨t1,t2,t3,t4,t5⟩,_,_,kt⟩:=d
 have ho:=dg_at I ha
 rw[← hw] at t1
 obtain⟨hc,es,ep,hd,he⟩:=t1
 simp only[tell8,Bool.and_eq_true,decide_eq_true_eq,List.all_eq_true] at kt
 refine⟨⟨o,es,ep,ho,hc,hd,he,fun x hx=>⟨hr.his I.hok t4 x hx,?_⟩,t3⟩,kt.1⟩
 have hm:x.1∈kvs.map (·.1):=by rw[← hr.keys];exact List.mem_map.mpr ⟨x,hx,rfl⟩
 obtain⟨p,hp,e⟩:=List.mem_map.mp hm
 rw[← e]
 exact kt.2 p hp
theorem RN.some_iff{kvs:List (G × G)}{xs:List (G × Addr × Value)}{k:G}(r:RN H kvs xs):(atKey xs k).isSome=(dget kvs k).isSome:=by
 cases c:dget kvs k with
 |none=>rw[r.no c];rfl
 |some w =>
  obtain⟨b,v,u,e,_⟩:=r.yes c
  rw[e]
  rfl
noncomputable def rInT(X:Cx)(neg:Bool):R2:=fun x y H Q=>∃ a kvs i o ys,y = .ref a/\DA X H a x kvs i o ys/\Q (.bl (if neg then !(dget kvs i).isSome else (dget kvs i).isSome)) H
theorem op_innT(hw:X.w=Wd.w)(hu:X.A.units+170<cLine):OpR X (compareOp .In) (rInT X false):=by
 intro pins s σ H x y v u Q I rx ry h
 obtain⟨a,kvs,i,o,ys,rfl,d,q⟩:=h
 cases ry
 obtain⟨b,rfl,rfl,nk⟩:=key_at I d.rg rx d.key
 obtain⟨dd,g8⟩:=d.dict hw I
 refine wpAny_in_heap (knd:=nestKind X.prog X.w) (k:=i) (by show X.A.in1.units+160<cLine;simp only[Around.in1_units];omega) ⟨nk,g8⟩ d.dt.2.1 dd ?_
 rw[d.rn.some_iff]
 exact⟨.bl _,H,I.tok _,rfl,q⟩
theorem op_notinT(hw:X.w=Wd.w)(hu:X.A.units+170<cLine):OpR X (compareOp .NotIn) (rInT X true):=by
 intro pins s σ H x y v u Q I rx ry h
 obtain⟨a,kvs,i,o,ys,rfl,d,q⟩:=h
 cases ry
 obtain⟨b,rfl,rfl,nk⟩:=key_at I d.rg rx d.key
 obtain⟨dd,g8⟩:=d.dict hw I
 refine wpAny_notIn_heap (knd:=nestKind X.prog X.w) (k:=i) (by show X.A.in1.units+160<cLine;simp only[Around.in1_units];omega) ⟨nk,g8⟩ d.dt.2.1 dd ?_
 rw[d.rn.some_iff]
 exact⟨.bl _,H,I.tok _,rfl,q⟩
noncomputable def rIxT(X:Cx):R2:=fun x y H Q=>∃ a kvs i o ys w,x = .ref a/\DA X H a y kvs i o ys/\dget kvs i=some w/\∀ v,RG H w v->Q v H
theorem ix_T(hw:X.w=Wd.w)(hu:X.A.units+170<cLine):IxR X (rIxT X):=by
 intro value slice pins s σ H x y v u Q I rx ry h hs
 obtain⟨a,kvs,i,o,ys,w,rfl,d,hv,q⟩:=h
 cases rx
 obtain⟨b,rfl,rfl,nk⟩:=key_at I d.rg ry d.key
 obtain⟨dd,g8⟩:=d.dict hw I
 obtain⟨b',v',u',e1,e2,e3⟩:=d.rn.yes hv
 exact tail_any dd.typeIs PySem.F.slot_dict_getitem.lookup (wpAny_getItem_heap (knd:=nestKind X.prog X.w) (k:=i) (by show X.A.in1.units+160<cLine;simp only[Around.in1_units];omega) ⟨nk,g8⟩ dd e1 ⟨v',H,I.tok _,e3,q v' e2⟩) hs
theorem RN.put{b:Addr}{v:V}{u:Value}{i d:G}(h1:RG H i (.ref b))(h2:RG H d v)(h3:RelV v u):∀ {kvs:List (G × G)} {xs:List (G × Addr × Value)},RN H kvs xs->(xs.map (·.1)).Nodup->RN H (dput kvs i d) (storedH xs i b u)
 | [],_,r,_=>by cases r;exact⟨b,v,u,[],rfl,h1,h2,h3,rfl⟩
 | (j,g)::kvs,_,r,nd=>by
  obtain⟨b',v',u',t,rfl,k1,k2,k3,k4⟩:=r
  simp only[List.map_cons,List.nodup_cons] at nd
  by_cases z:j=i
  ·subst z
   have he:storedH ((j,b',u')::t) j b u=(j,b',u)::t:=by
    rw[storedH_old (p:=(b',u')) (by simp[atKey])]
    simp only[List.map_cons]
    congr 1
    ·simp[PySem.putAt]
    ·have:∀ x∈t,PySem.putAt j u x=x:=fun x hx=>by
      have:¬ x.1=j:=fun q=>nd.1 (List.mem_map.mpr ⟨x,hx,q⟩)
      simp[PySem.putAt,this]
     rw[List.map_congr_left this,List.map_id']
   rw[he]
   simp only[dput,if_true]
   exact⟨b',v,u,t,rfl,k1,h2,h3,k4⟩
  ·have he:storedH ((j,b',u')::t) i b u=(j,b',u')::storedH t i b u:=by
    unfold storedH
    have ea:atKey ((j,b',u')::t) i=atKey t i:=by simp[atKey,List.find?_cons,z]
    rw[ea]
    split
    ·simp[PySem.putAt,z]
    ·rfl
   rw[he]
   simp only[dput,if_neg z]
   exact⟨b',v',u',_,rfl,k1,k2,k3,RN.put h1 h2 h3 k4 nd.2⟩
theorem dput_keys:∀ (kvs:List (G × G)) (i d:G) (f:G->Bool),(kvs.all fun p=>f p.1)=true->f i=true->((dput kvs i d).all fun p=>f p.1)=true
 | [],i,d,f,_,h=>by simp[dput,h]
 | (j,g)::kvs,i,d,f,h,hi=>by
  simp only[List.all_cons,Bool.and_eq_true] at h
  by_cases z:j=i
  ·simp only[dput,if_pos z,List.all_cons,Bool.and_eq_true]
   exact h
  ·simp only[dput,if_neg z,List.all_cons,Bool.and_eq_true]
   exact⟨h.1,dput_keys kvs i d f h.2 hi⟩
theorem dput_len:∀ (kvs:List (G × G)) (i d:G),(dput kvs i d).length<=kvs.length+1
 | [],i,d=>by simp[dput]
 | (j,g)::kvs,i,d=>by
  have:=dput_len kvs i d
  by_cases z:j=i
  ·simp[dput,if_pos z]
  ·simp only[dput,if_neg z,List.length_cons]
   omega
noncomputable def rSetT(X:Cx):V->V->V->Hp->(Hp->Prop)->Prop:=fun x y z H Q=>∃ a kvs i d o ys,x = .ref a/\DA X H a y kvs i o ys/\RG H d z/\kvs.length<100000/\∀ o' ys',RN H (dput kvs i d) ys'->DT a (dput kvs i d) o' ys'->Q (upd H a (dG a o'))
theorem set_T(hw:X.w=Wd.w)(hu:X.A.units+170<cLine):PSet X (rSetT X):=by
 intro pins s σ H x y z v u w Q I rx ry rz h
 obtain⟨a,kvs,i,d,o,ys,rfl,da,hd,hl,q⟩:=h
 cases rx
 obtain⟨b,rfl,rfl,nk⟩:=key_at I da.rg ry da.key
 obtain⟨dd,g8⟩:=da.dict hw I
 have hlen:=da.rn.len
 refine wpAny_setItem_heap (knd:=nestKind X.prog X.w) (k:=i) (by show X.A.in1.units+160<cLine;simp only[Around.in1_units];omega) ⟨nk,g8⟩ dd (fun h' dd' sb => ?_) (by rw[hlen,sizeLine_eq];omega)
 obtain⟨o',es,ep,ho,hc,hdt,he,_,hn⟩:=dd'
 have I':Inv X pins σ (upd H a (dG a o')) {s with heap:=h',toks:=s.toks+nkD i}:=d_write I (by rw[da.at_];exact True.intro) sb ⟨o',ho⟩ (dg_ok ho)
 refine⟨_,I',q o' _ (RN.put da.rg hd rz da.rn da.dt.2.2.1) ⟨⟨hc,es,ep,hdt,by rw[← hw];exact he⟩,da.dt.2.1,hn,dput_keys _ _ _ _ da.dt.2.2.2.1 da.key,?_⟩⟩
 have:=dput_len kvs i d
 omega
end
end SN
namespace SN
open PySem PySem.Spec PyProof.Rows L2 MP
variable [Wd]
noncomputable def ZQ(l:Addr)(Q:VK):List V->List V->List V->Hp->Prop
 |x::xs,y::ys,acc,H=>∀ p,H p=none->ZQ l Q xs ys (acc++[.ref p]) (upd (upd H p (.tup [x,y])) l (.lst (acc++[.ref p])))
 |_,_,_,H=>Q (.ref l) H
theorem zq_end{l:Addr}{Q:VK}{xs ys acc:List V}{H:Hp}(h:ZQ l Q xs ys acc H)(e:xs=[]\/ys=[]):Q (.ref l) H:=by
 cases xs with
 |nil=>exact h
 |cons x xs =>
  cases ys with
  |nil=>exact h
  |cons y ys=>rcases e with e|e<;>cases e
section
variable {X:Cx}{pins:List (Addr × Obj)}{σ:L2.St}{H:Hp}{s:Shared}
structure ZS(X:Cx)(pins:List (Addr × Obj))(H:Hp)(h:Heap)(z a b i1 i2 t1 t2:Addr)(i:Nat):Prop where
 fp:∀ c ∈ [z,a,b,i1,i2],FpOk X pins H c
 zp:IsZip h z a b .none\/∃ p us c,H p=some (.tup us)/\ZT.ZP h z a b (rawInt p) c
 its:IsPair h a (.ref i1) (.ref i2)
 own:∃ u v,IsPair h b u v
 p1:h.IsTupleIter i1 t1 i
 p2:h.IsTupleIter i2 t2 i
theorem ZS.keep{h h':Heap}{H':Hp}{z a b i1 i2 t1 t2:Addr}{i:Nat}(x:ZS X pins H h z a b i1 i2 t1 t2 i)(hn:∀ c,H c=none->c ∈ [z,a,b,i1,i2]->H' c=none)(ht:∀ p us,H p=some (.tup us)->H' p=some (.tup us))(k:∀ c ∈ [z,a,b,i1,i2],∀ o,h.get? c=some o->h'.get? c=some o):ZS X pins H' h' z a b i1 i2 t1 t2 i:=by
 obtain⟨u,v,ow⟩:=x.own
 refine⟨fun c hc => ?_,?_,k a (by simp) _ x.its,⟨u,v,k b (by simp) _ ow⟩,x.p1.at fun o e=>k i1 (by simp) o e,x.p2.at fun o e=>k i2 (by simp) o e⟩
 ·obtain⟨f0,f1,f2,f3,f4,f5⟩:=x.fp c hc
  exact⟨hn c f0 hc,f1,f2,f3,f4,f5⟩
 ·rcases x.zp with z0 | ⟨p,us,c,hp,z0⟩
  ·exact .inl (k z (by simp) _ z0)
  ·exact .inr ⟨p,us,c,ht p us hp,k z (by simp) _ z0⟩
theorem ZS.lt{h:Heap}{z a b i1 i2 t1 t2:Addr}{i:Nat}(x:ZS X pins H h z a b i1 i2 t1 t2 i):∀ c ∈ [z,a,b,i1,i2],c<h.objs.size:=by
 obtain⟨u,v,ow⟩:=x.own
 obtain⟨o4,e4,_⟩:=x.p1
 obtain⟨o5,e5,_⟩:=x.p2
 intro c hc
 simp only[List.mem_cons,List.not_mem_nil,or_false] at hc
 rcases hc with rfl|rfl|rfl|rfl|rfl
 ·rcases x.zp with z0 | ⟨p,us,c,hp,z0⟩<;>exact Heap.lt_size z0
 ·exact Heap.lt_size x.its
 ·exact Heap.lt_size ow
 ·exact Heap.lt_size e4
 ·exact Heap.lt_size e5
theorem zl_loop{z a b i1 i2 t1 t2 l:Addr}{xs ys:List V}{Q:VK}{A:Around}{R:Result->Shared->Prop}(hh:A.handled=none)(D:ZipApart z a b i1 i2 t1 t2)(hR:∀ s',EP X pins σ Q (.ref l) s'->R (.ok (.ret .none)) s') :
 ∀ (k i:Nat) (H:Hp) (s:Shared) (acc:List V),min xs.length ys.length-i=k->i<=min xs.length ys.length->Inv X pins σ H s->ZS X pins H s.heap z a b i1 i2 t1 t2 i->H t1=some (.tup xs)->H t2=some (.tup ys)->H l=some (.lst acc)->acc.length=i →
  ZQ l Q (xs.drop i) (ys.drop i) acc H->codeAny (model X.prog X.w) A (.builtin "list.extend.loop" ⟨[.ref l,.ref z,.none],[]⟩) R s:=by
 intro k
 induction k with
 |zero =>
  intro i H s acc hk hi I st h1 h2 hl ha q
  obtain⟨its,rv,p,hz⟩:=I.tuple (.of h1)
  obtain⟨its2,rv2,p2,hz2⟩:=I.tuple (.of h2)
  have l1:=rv.length
  have l2:=rv2.length
  have en:its.toArray[i]?=none\/its2.toArray[i]?=none:=by
   by_cases c:xs.length<=i
   ·exact .inl (by simp;omega)
   ·exact .inr (by simp;omega)
  have qe:=zq_end q (by
   by_cases c:xs.length<=i
   ·exact .inl (List.drop_eq_nil_of_le c)
   ·exact .inr (List.drop_eq_nil_of_le (by omega)))
  refine codeAny_builtin F.entry_extend_loop ?_
  rw[Around.under_plainId F.plain_extend_loop _]
  show wpAny _ A.in1 (pyNext (.ref z) >>= _) _ _ s
  have go:∀ g:Heap,(∀ d o,d≠z->d≠b->d≠i1->d≠i2->s.heap.get? d=some o->g.get? d=some o)->R (.ok (.ret .none)) {s with heap:=g}:=fun g kk =>
   hR _ ⟨.ref l,H,turnedL (t':=s.toks) (ch:=[z,a,b,i1,i2]) I st.fp (fun d o hn e=>by
    simp only[List.mem_cons,List.not_mem_nil,or_false,not_or] at hn
    exact kk d o hn.1 hn.2.2.1 hn.2.2.2.1 hn.2.2.2.2 e),rfl,qe⟩
  rcases st.zp with z0 | ⟨p0,us,c,hp,z0⟩
  ·exact wpAny_bind (ZT.pyEnd hh D ⟨z0,st.its,st.own,st.p1,st.p2,(show s.heap.IsTuple t1 its.toArray from p),(show s.heap.IsTuple t2 its2.toArray from p2)⟩ en fun g kk=>wpAny_pure (go g kk))
  ·obtain⟨_,_,_,o0,e0,_⟩:=I.hok p0 _ hp
   exact wpAny_bind (ZT.pyEnd2 hh D z0 e0 st.its st.p1 st.p2 (show s.heap.IsTuple t1 its.toArray from p) (show s.heap.IsTuple t2 its2.toArray from p2) en fun g kk=>wpAny_pure (go g fun d o n1 _ n3 n4 e=>kk d o n1 n3 n4 e))
 |succ k ih =>
  intro i H s acc hk hi I st h1 h2 hl ha q
  have hx:i<xs.length:=by omega
  have hy:i<ys.length:=by omega
  obtain⟨its,rv,p,hz⟩:=I.tuple (.of h1)
  obtain⟨its2,rv2,p2,hz2⟩:=I.tuple (.of h2)
  obtain⟨u,hu,ru⟩:=rv.get (List.getElem?_eq_getElem hx)
  obtain⟨v,hv,rv'⟩:=rv2.get (List.getElem?_eq_getElem hy)
  rw[List.drop_eq_getElem_cons hx,List.drop_eq_getElem_cons hy] at q
  have hnone:H s.heap.objs.size=none:=I.hok.fresh (Nat.le_refl _)
  have q1:=q _ hnone
  have ne:∀ c w,H c=some w->c≠s.heap.objs.size:=fun c w e z=>by rw[z,hnone] at e;cases e
  have nl:∀ c ∈ [z,a,b,i1,i2],c≠l:=fun c hc e=>by
   have:=(st.fp c hc).1
   rw[e,hl] at this
   cases this
  have lt:=st.lt
  refine codeAny_builtin F.entry_extend_loop ?_
  rw[Around.under_plainId F.plain_extend_loop _]
  show wpAny _ A.in1 (pyNext (.ref z) >>= _) _ _ s
  have go:∀ g:Heap,ZS X pins (upd H s.heap.objs.size (.tup [xs[i],ys[i]])) g z a b i1 i2 t1 t2 (i+1)->IsPair g s.heap.objs.size u v->(∀ d o,d≠z->d≠b->d≠i1->d≠i2->s.heap.get? d=some o->g.get? d=some o) →
   wpAny (model X.prog X.w) A.in1 (updateSeq l (·.push (.ref s.heap.objs.size)) >>= fun _=>again (.builtin "list.extend.loop" ⟨[.ref l,.ref z,.none],[]⟩))
    (fun fin s'=>match fin with | .done f=>R (.ok f) s' | .again c'=>c'.quiet=true/\codeAny (model X.prog X.w) A c' R s') (fun e s'=>R (.error e) s') {s with heap:=g}:=fun g sg hp kk=>by
   have I1:=turnedTL (h':=g) (t':=s.toks) (ch:=[z,a,b,i1,i2]) (xs:=[xs[i],ys[i]]) (us:=[u,v]) I st.fp (fun d o hn e=>by
    simp only[List.mem_cons,List.not_mem_nil,or_false,not_or] at hn
    exact kk d o hn.1 hn.2.2.1 hn.2.2.2.1 hn.2.2.2.2 e) hp (.cons ru (.cons rv' .nil)) (by show 2<=sizeLine;decide)
   have hl1:upd H s.heap.objs.size (.tup [xs[i],ys[i]]) l=some (.lst acc):=by rw[upd_ne (ne l _ hl)];exact hl
   obtain⟨za,its',c',rl,hlen,el⟩:=I1.lstM hl1
   have hsz:its'.length=i:=by rw[← hlen,ha]
   have hle:i+1<=sizeLine:=by omega
   have rv2:Vals (acc++[V.ref s.heap.objs.size]) (its'++[Value.ref s.heap.objs.size]):=rl.append (.cons rfl .nil)
   have n1:t1≠l:=fun z=>by rw[z,hl] at h1;cases h1
   have n2:t2≠l:=fun z=>by rw[z,hl] at h2;cases h2
   have I2:=I1.lset (its':=its'++[.ref s.heap.objs.size]) (ys:=acc++[.ref s.heap.objs.size]) (f:=(·.push (.ref s.heap.objs.size))) (t':=s.toks) hl1 el (by simp) rv2 (by rw[List.length_append,ha];exact hle)
   refine wpAny_bind (wpAny_updateSeq el rfl (wpAny_pure ⟨plainId_quiet F.plain_extend_loop _,ih (i+1) _ _ (acc++[.ref s.heap.objs.size]) (by omega) (by omega) I2 ?_ ?_ ?_ upd_same (by rw[List.length_append,ha];rfl) q1⟩) (by rw[List.size_toArray,hsz];omega) (by show(its'.toArray.push _).size<=sizeLine+1;rw[Array.size_push,List.size_toArray,hsz];omega))
   ·refine sg.keep (fun c e hc=>by rw[upd_ne (nl c hc)];exact e) (fun p us e=>by rw[upd_ne fun z=>by rw[z,hl1] at e;cases e];exact e) fun c hc o e => ?_
    exact(Heap.get?_update_other _ _ (Ne.symm (nl c hc))).trans e
   ·rw[upd_ne n1,upd_ne (ne t1 _ h1)];exact h1
   ·rw[upd_ne n2,upd_ne (ne t2 _ h2)];exact h2
  have fpN:∀ c ∈ [z,a,b,i1,i2],FpOk X pins (upd H s.heap.objs.size (.tup [xs[i],ys[i]])) c:=fun c hc=>by
   obtain⟨f0,f1,f2,f3,f4,f5⟩:=st.fp c hc
   exact⟨by rw[upd_ne (Nat.ne_of_lt (lt c hc))];exact f0,f1,f2,f3,f4,f5⟩
  rcases st.zp with z0 | ⟨p0,us,c,hp,z0⟩
  ·exact wpAny_bind (ZT.pyNext D ⟨z0,st.its,st.own,st.p1,st.p2,(show s.heap.IsTuple t1 its.toArray from p),(show s.heap.IsTuple t2 its2.toArray from p2)⟩ (x:=u) (y:=v) (by simpa using hu) (by simpa using hv) fun g at1 hpr _ kk =>
    go g ⟨fpN,.inr ⟨s.heap.objs.size,_,false,upd_same,at1.zp⟩,at1.its,at1.own,at1.p1,at1.p2⟩ hpr kk)
  ·obtain⟨_,_,_,o0,e0,_⟩:=I.hok p0 _ hp
   obtain⟨u3,v3,ow⟩:=st.own
   exact wpAny_bind (ZT.pyNext2 D z0 e0 st.its st.p1 st.p2 (show s.heap.IsTuple t1 its.toArray from p) (show s.heap.IsTuple t2 its2.toArray from p2) (x:=u) (y:=v) (by simpa using hu) (by simpa using hv) fun g z1 w1 w2 hpr _ kk =>
    go g ⟨fpN,.inr ⟨p0,us,true,by rw[upd_ne (ne p0 _ hp)];exact hp,z1⟩,kk a _ D.TIz D.TIi1 D.TIi2 st.its,⟨u3,v3,kk b _ D.TOz D.TOi1 D.TOi2 ow⟩,w1,w2⟩ hpr fun d o n1 _ n3 n4 e=>kk d o n1 n3 n4 e)
theorem zl_call{z a b i1 i2 t1 t2:Addr}{xs ys:List V}{Q:VK}(hc:X.calm=true)(D:ZipApart z a b i1 i2 t1 t2)(I:Inv X pins σ H s)(z0:IsZip s.heap z a b .none)(st:ZS X pins H s.heap z a b i1 i2 t1 t2 0)(h1:H t1=some (.tup xs))(h2:H t2=some (.tup ys))
 (q:∀ l,H l=none->ZQ l Q xs ys [] (upd H l (.lst []))):wpAny (model X.prog X.w) X.A (call (.type "list") [.ref z]) (EP X pins σ Q) X.xe s:=by
 have hh:=I.ok.hd hc
 have hnone:H s.heap.objs.size=none:=I.hok.fresh (Nat.le_refl _)
 have lt:=st.lt
 have ne:∀ c w,H c=some w->c≠s.heap.objs.size:=fun c w e z=>by rw[z,hnone] at e;cases e
 refine callType_codes (Q₁:=fun obj s₁=>obj = .ref s.heap.objs.size/\s₁={s with heap:=s.heap.push {cls:=.type "list",data:=.seq #[]}}) F.called_list (F.typeCall_list_1 _) F.entry_list_init (code_list_new _ ⟨rfl,rfl⟩) fun obj s₁ z1 => ?_
 obtain⟨rfl,rfl⟩:=z1
 have I1:=I.lnew (its:=[]) (ys:=[]) (t':=s.toks) .nil (by simp)
 have e1:(s.heap.push {cls:=.type "list",data:=.seq #[]}).get? s.heap.objs.size=some {cls:=.type "list",data:=.seq #[]}:=Heap.get?_push_size _ rfl
 refine⟨⟨_,e1,rfl⟩,F.args_list_init_2 _ _,?_⟩
 show wpAny _ _ (Builtin.List.listItems (.ref s.heap.objs.size) >>= _) _ _ _
 unfold Builtin.List.listItems
 refine wpAny_bind (wpAny_bind (wpAny_seqItems e1 rfl (wpAny_pure ?_)))
 show wpAny _ _ (updateSeq s.heap.objs.size (fun _ => #[]) >>= _) _ _ _
 refine wpAny_bind (wpAny_updateSeq e1 rfl ?_)
 have e2:=Heap.get?_update_self (Obj.mapSeq (fun _=>(#[]:Array Value))) e1 rfl
 refine wpAny_bind (wpAny_letGo ?_)
 have I2:=I1.lset (its:=[]) (its':=[]) (ys:=[]) (f:=fun _ => #[]) (t':=s.toks) upd_same e1 rfl .nil (by simp)
 rw[upd_upd] at I2
 generalize hg2:(s.heap.push {cls:=.type "list",data:=.seq #[]}).update s.heap.objs.size (Obj.mapSeq (fun _=>(#[]:Array Value)))=g2 at e2 I2
 have k2:∀ c o,c≠s.heap.objs.size->s.heap.get? c=some o->g2.get? c=some o:=fun c o n e=>by
  rw[← hg2]
  exact(Heap.get?_update_other _ _ (Ne.symm n)).trans (Heap.get?_push_of_some _ e)
 have zz:=k2 z _ (Nat.ne_of_lt (lt z (by simp))) z0
 unfold Builtin.List.listExtendWith
 refine wpAny_bind (wpAny_typeOf (T:="zip") ⟨_,zz,rfl⟩ ?_)
 have b1:Builtin.List.listSameRef (.ref s.heap.objs.size) (.ref z)=false:=by
  have:s.heap.objs.size≠z:=Nat.ne_of_gt (lt z (by simp))
  simp[Builtin.List.listSameRef,this]
 have b2:(Value.type "zip" == Value.type "list")=false:=by decide
 have b3:(Value.type "zip" == Value.type "tuple")=false:=by decide
 simp only[b1,b2,b3,Bool.or_false,Bool.false_eq_true,if_false]
 refine wpAny_bind (wpAny_pyIter_zip zz ?_)
 refine wpAny_bind (wpAny_holding (ZT.hint ⟨_,zz,rfl⟩ ?_))
 simp only[Bool.true_or,if_true]
 refine wpAny_bind (wpAny_rule (wpAny_bind ?_))
 show wpAny _ _ (updateSeq s.heap.objs.size (·.push .none) >>= fun _=>updateSeq s.heap.objs.size (·.pop)) _ _ _
 refine wpAny_bind (wpAny_updateSeq e2 rfl ?_)
 have e3:=Heap.get?_update_self (Obj.mapSeq (·.push Value.none)) e2 rfl
 have I3:=I2.lset (its:=[]) (its':=[.none]) (ys:=[.non]) (f:=(·.push .none)) (t':=s.toks) upd_same e2 rfl (.cons rfl .nil) (by show 1<=sizeLine;decide)
 rw[upd_upd] at I3
 refine wpAny_updateSeq (hz:=by seq_fits) e3 rfl ?_
 have I4:=I3.lset (its:=[.none]) (its':=[]) (ys:=[]) (f:=(·.pop)) (t':=s.toks) upd_same e3 rfl .nil (by simp)
 rw[upd_upd] at I4
 refine wpAny_pure ⟨plainId_quiet F.plain_extend_loop _,zl_loop (A:=X.A.in1) (xs:=xs) (ys:=ys) (Q:=Q) (l:=s.heap.objs.size) hh D (fun s' e=>⟨rfl,e⟩) _ 0 _ _ [] rfl (Nat.zero_le _) I4 ?_ ?_ ?_ upd_same rfl (q _ hnone)⟩
 ·refine st.keep (fun c e hc=>by rw[upd_ne (Nat.ne_of_lt (lt c hc))];exact e) (fun p us e=>by rw[upd_ne (ne p _ e)];exact e) fun c hc o e => ?_
  have n:=Nat.ne_of_lt (lt c hc)
  exact(Heap.get?_update_other _ _ (Ne.symm n)).trans ((Heap.get?_update_other _ _ (Ne.symm n)).trans (k2 c o n e))
 ·rw[upd_ne (ne t1 _ h1)];exact h1
 ·rw[upd_ne (ne t2 _ h2)];exact h2
noncomputable def tZipL(ta:TA):TE:=fun σ H Q=>ta σ H fun vs H1=>∃ a b xs ys,vs=[.ref a,.ref b]/\H1 a=some (.tup xs)/\H1 b=some (.tup ys)/\∀ l,H1 l=none->ZQ l Q xs ys [] (upd H1 l (.lst []))
theorem boot_zipL:bootBuiltins (Str.ofString "zip")=some (.type "zip"):=by decide +kernel
theorem boot_listL:bootBuiltins (Str.ofString "list")=some (.type "list"):=by decide +kernel
theorem pe_zipL{u v:Expr}{ta:TA}{p1 p2 p3 p4:Pos}(hc:X.calm=true)(g1:Gl X (Str.ofString "list"))(m1:X.mg (Str.ofString "list")=none)(g2:Gl X (Str.ofString "zip"))(m2:X.mg (Str.ofString "zip")=none)(ha:PA X [u,v] ta)(hs1:notStar u=true)(hs2:notStar v=true) :
 PE X (.Call (.Name (Str.ofString "list") p1) [.Call (.Name (Str.ofString "zip") p2) [u,v] [] p3] [] p4) (tZipL ta):=by
 intro pins s σ H Q I h
 have hst:starEach [Expr.Call (.Name (Str.ofString "zip") p2) [u,v] [] p3] X.env=(false,eval (Expr.Call (.Name (Str.ofString "zip") p2) [u,v] [] p3) X.env)::starEach [] X.env:=starEach_cons rfl
 refine wpAny_Call_Name_kw (ld_blt I g1 m1 boot_listL (PyProof.Rows.callWith_type1 ?_ hst rfl) (by decide +kernel) (by decide +kernel))
 rw[hst]
 show wpAny _ _ (spliced ((false,eval (Expr.Call (.Name (Str.ofString "zip") p2) [u,v] [] p3) X.env)::backTo p4 (starEach [] X.env))) _ _ s
 refine Calls.spliced_cons (wpAny_Call_Name_kw (ld_blt I g2 m2 boot_zipL (PyProof.Rows.callWith_type1 (thn (ha p3 pins s σ H _ I h) fun us s1 z => ?_) (starEach_cons hs1) (backTo_plain (es:=[v]) (by simpa using hs2))) (by decide +kernel) (by decide +kernel)))
 obtain⟨vs,H1,I1,r1,a,b,xs,ys,rfl,h1,h2,q⟩:=z
 obtain⟨w1,w2,rfl,rw1,rw2⟩:=vals2 r1
 cases rw1
 cases rw2
 obtain⟨its,rv,q1,hz⟩:=I1.tuple (.of h1)
 obtain⟨its2,rv2,q2,hz2⟩:=I1.tuple (.of h2)
 have a1:a<s1.heap.objs.size:=by obtain⟨_,e,_⟩:=q1;exact Heap.lt_size e
 have a2:b<s1.heap.objs.size:=by obtain⟨_,e,_⟩:=q2;exact Heap.lt_size e
 refine ZT.callZip (show s1.heap.IsTuple a its.toArray from q1) (show s1.heap.IsTuple b its2.toArray from q2) fun g at0 kk => ?_
 refine Calls.spliced_nil ?_
 have I2:Inv X pins σ H1 {s1 with heap:=g}:=I1.kept (t':=s1.toks) kk
 refine zl_call (s:={s1 with heap:=g}) hc (zipApart_new a1 a2) I2 at0.zp ⟨fun c hc => ?_,.inl at0.zp,at0.its,at0.own,at0.p1,at0.p2⟩ h1 h2 q
 have hle:s1.heap.objs.size<=c:=by
  simp only[List.mem_cons,List.not_mem_nil,or_false] at hc
  rcases hc with rfl|rfl|rfl|rfl|rfl
  ·exact Nat.le_add_right _ 4
  ·exact Nat.le_add_right _ 2
  ·exact Nat.le_add_right _ 3
  ·exact Nat.le_refl _
  ·exact Nat.le_add_right _ 1
 exact I1.fpOk hle (I1.hok.fresh hle)
end
end SN
namespace SN
open PySem PySem.Spec PyProof.Rows L2 MP
variable [Wd][Cl]
noncomputable def FinX(ρ:Nat->Addr)(n:Nat)(H:Hp)(σ':Store)(Q:Hp->Prop):Prop:=∀ ρ' H',Ext ρ n H ρ' σ'.length H'->SR H' ρ' σ'->Q H'
inductive SpOf (P:List Fn) (W n:Nat) (f:String) (vs:List V) (H:Hp) (Q:VK) (E:XK):Prop
 |mk (ρ:Nat->Addr) (σ:Store) (rs:List R) (r:RRs H ρ σ.length rs vs) (S:SR H ρ σ) (q:(∃ r σ',run P W n f rs σ = .ok r σ'/\Fin ρ σ.length H r σ' Q)\/∃ c σ',run P W n f rs σ = .exc c σ'/\FinX ρ σ.length H σ' fun H'=>E (.type c) none H')
structure Amb(X:Cx)(P:List Fn)(W n:Nat):Prop where
 un:X.A.units+200<cLine
 room:Room n X.A
 calm:X.calm=true
 px:PassesOwn (model X.prog X.w) X.A X.env X.xe
 nd:X.N.Nodup
 wd:X.w=Wd.w
 blt:∀ b ∈ ["len","tuple","list","dict","isinstance","range","int","bool","str","sum","max","min","all","enumerate","zip","sorted","any","abs","ord","reversed"],X.mg (Str.ofString b)=none
 fns:∀ f d,look P f=some d->∃ a fd ps,X.mg (Str.ofString f)=some (.ref a)/\PySem.W.keepIn X.K (.ref a)=true/\Binds X.K fd ps []/\FnOk X.prog X.w X.K X.mg X.base (CX1 X.prog X.w X.mg) n a fd ps (SpOf P W n f)
theorem Amb.comp{X:Cx}{P:List Fn}{W n:Nat}(am:Amb X P W n){N':List Str}(nd:N'.Nodup)(scope:Scope)(cl:List (Str × Addr))(C:Addr)(fp:List Addr)(s:Shared)(H:Hp):Amb (cxC X N' scope cl C fp s H) P W n :=
 ⟨am.un,am.room,am.calm,PassesOwn.never,nd,am.wd,
  am.blt,am.fns⟩
theorem pe_false{X:Cx}{e:Expr}{t:TE}(h:∀ st H Q,¬ t st H Q):PE X e t:=fun pins s σ H Q I q=>absurd q (h σ H Q)
noncomputable def plainTest:Expr->Bool
 | .UnaryOp .Not _ _=>false
 | .BoolOp .. => false
 | .IfExp .. => false
 | .Compare .. => false
 |_=>true
theorem plain_test{e:Expr}{env:PySem.Env}(h:plainTest e=true):∀ whole,isTrue e env whole=(do let v ← whole;standAt e.pos;holding [v] (truthy v)):=by
 intro whole
 cases e<;>first
  |rfl
  | (cases h;done)
  | (rename_i op _ _;cases op<;>first|rfl|(cases h;done))
noncomputable def isLeaf:MP.Tm->Bool
 | .andT _ _=>false
 | .orT _ _=>false
 | .notT _=>false
 | .ifT _ _ _=>false
 | .chain _ _ _ _ _=>false
 |_=>true
theorem bind_assoc'{α β γ:Type}(x:Res α)(f:α->Store->Res β)(g:β->Store->Res γ):(x.bind f).bind g=x.bind fun a σ=>(f a σ).bind g:=by cases x<;>rfl
theorem leaf_true{cl:CallH}{t:MP.Tm}{ε:MP.Env}{σ:Store}(h:isLeaf t=true):ev cl true t ε σ=(ev cl false t ε σ).bind (truR true):=by
 cases t<;>first|(cases h;done)|skip
 ·rw[ev,ev]
  split<;>rfl
 ·rw[ev,ev];rfl
 ·rw[ev,ev];rfl
 ·rw[ev,ev,bind_assoc'];congr 1;funext xs σ1;rw[bind_assoc'];rfl
 ·rw[ev,ev,bind_assoc'];congr 1;funext x σ1
  split
  ·rw[bind_assoc'];congr 1;funext xs σ2;rw[bind_assoc'];rfl
  ·rfl
 ·rw[ev,ev,bind_assoc'];congr 1;funext xs σ1;rw[bind_assoc'];rfl
 ·rw[ev,ev,bind_assoc'];congr 1;funext w σ1;rw[bind_assoc'];rfl
theorem leafT{K:PySem.W.Frag}{cl:CallH}{t:MP.Tm}(hl:isLeaf t=true)(st:L2.St)(H:Hp)(Q:Bool->Hp->Prop)(h:T1 cl t st H Q):E1 cl t st H fun v H'=>∃ k,TruV K v H' k/\Q k H':=by
 obtain⟨ρ,ε,σ,b,σ',hE,hS,e,q⟩:=h
 rw[leaf_true hl] at e
 obtain⟨r,σ1,e1,e2⟩:=bind_inv e
 simp only[truR,if_true] at e2
 obtain⟨b',e3,e4⟩:=ofO_inv e2
 cases e4
 exact⟨ρ,ε,σ,r,_,hE,hS,e1,fun ρ' v H' ex S' rr=>⟨b,tru_TruV S' rr e3,q ρ' H' ex S'⟩⟩
theorem leafB{cl:CallH}{p:Prim}{as:Tms}(hp:∀ xs σ r σ',prim p xs σ = .ok r σ'->∃ b,r = .g (.bl b))(st:L2.St)(H:Hp)(Q:Bool->Hp->Prop)(h:T1 cl (.op p as) st H Q):E1 cl (.op p as) st H fun v H'=>∃ k,v = .bl k/\Q k H':=by
 obtain⟨ρ,ε,σ,b,σ',hE,hS,e,q⟩:=h
 rw[leaf_true rfl] at e
 obtain⟨r,σ1,e1,e2⟩:=bind_inv e
 obtain⟨xs,σ2,e5,e6⟩:=op_inv e1
 obtain⟨b',rfl⟩:=hp _ _ _ _ e6
 cases e2
 exact⟨ρ,ε,σ,_,_,hE,hS,e1,fun ρ' v H' ex S' rr=>⟨b,rr,q ρ' H' ex S'⟩⟩
theorem pt_leaf{X:Cx}{cl:CallH}{t:MP.Tm}{e:Expr}(hl:isLeaf t=true)(he:plainTest e=true)(h:PE X e (E1 cl t)):PT X e (T1 cl t) :=
 PT.imp (pt_truth h (plain_test he)) fun st H Q q=>leafT hl st H Q q
noncomputable def isCmp:Prim->Bool
 | .eq=>true | .ne=>true | .lt=>true | .le=>true | .gt=>true | .ge=>true | .inn=>true | .notin=>true | .isN=>true | .notN=>true | .innT=>true | .notinT=>true | .innS=>true
 |_=>false
theorem cmp_bl{p:Prim}(h:isCmp p=true)(xs:List R)(σ:Store)(r:R)(σ':Store)(e:prim p xs σ = .ok r σ'):∃ b,r = .g (.bl b):=by
 cases p<;>first|(cases h;done)|skip
 ·change pEq xs σ=_ at e;unfold pEq at e;split at e;(split at e<;>cases e;exact⟨_,rfl⟩);cases e
 ·change pNe xs σ=_ at e;unfold pNe at e;split at e;(split at e<;>cases e;exact⟨_,rfl⟩);cases e
 ·change pLt xs σ=_ at e;unfold pLt at e;split at e<;>cases e;exact⟨_,rfl⟩
 ·change pLe xs σ=_ at e;unfold pLe at e;split at e<;>cases e;exact⟨_,rfl⟩
 ·change pGt xs σ=_ at e;unfold pGt at e;split at e<;>cases e;exact⟨_,rfl⟩
 ·change pGe xs σ=_ at e;unfold pGe at e;split at e<;>cases e;exact⟨_,rfl⟩
 ·change pIsN xs σ=_ at e;unfold pIsN at e;split at e<;>cases e;exact⟨_,rfl⟩
 ·change pNotN xs σ=_ at e;unfold pNotN at e;split at e<;>cases e;exact⟨_,rfl⟩
 ·change pIn xs σ=_ at e;unfold pIn at e;split at e;(split at e<;>cases e;exact⟨_,rfl⟩);cases e
 ·change pNotIn xs σ=_ at e;unfold pNotIn at e;split at e;(split at e<;>cases e;exact⟨_,rfl⟩);cases e
 ·change pInnT xs σ=_ at e;unfold pInnT at e;split at e;(split at e;(split at e<;>cases e;exact⟨_,rfl⟩);cases e);cases e
 ·change pNotInT xs σ=_ at e;unfold pNotInT at e;split at e;(split at e;(split at e<;>cases e;exact⟨_,rfl⟩);cases e);cases e
 ·change pInnS xs σ=_ at e;unfold pInnS at e;split at e<;>cases e;exact⟨_,rfl⟩
theorem nomarkS{op:CmpOp}{b:Expr}(h:notSet b=true):behindInMarks op b=false:=by
 cases b<;>first|rfl|(cases h;done)
theorem plainIx{b:Expr}(h:notSlice b=true):PlainIx b:=fun o i=>by
 cases b<;>first|rfl|(cases h;done)
theorem isS_eq{x:Str}{n:String}(h:isS x n=true):x=Str.ofString n:=of_decide_eq_true h
theorem gl_eq{X:Cx}{x:Str}(h:gl X.env.scope x=true):Gl X x:=by
 unfold gl at h
 exact eq_of_beq h
theorem two_of{X:Cx}{cl:CallH}{a b:Expr}{as:Tms}(h:PEl X cl [a,b] as):∃ ta tb,as = .cons ta (.cons tb .nil)/\PE X a (E1 cl ta)/\PE X b (E1 cl tb):=by
 cases h with
 |cons _ h1 h2=>cases h2 with
  |cons _ h3 h4=>cases h4;exact⟨_,_,rfl,h1,h3⟩
section
variable {X:Cx}{P:List Fn}{W n:Nat}{cl:CallH}
noncomputable abbrev Both(X:Cx)(cl:CallH)(t:MP.Tm)(e:Expr):Prop:=PE X e (E1 cl t)/\PT X e (T1 cl t)
theorem both_bin{a b:Expr}{op:Operator}{pos:Pos}{p:Prim}{rr:R2}{as:Tms}(ho:OpR X (binaryOp op) rr)(h2:Ok2 p rr)(h:PEl X cl [a,b] as):Both X cl (.op p as) (.BinOp a op b pos):=by
 obtain⟨ta,tb,rfl,ha,hb⟩:=two_of h
 have q:PE X (.BinOp a op b pos) (E1 cl (.op p (.cons ta (.cons tb .nil)))):=PE.imp (pe_op ho ha hb) fun st H Q t=>lift2 h2 st H Q t
 exact⟨q,pt_leaf rfl rfl q⟩
theorem both_cmp{a b:Expr}{op:CmpOp}{pos:Pos}{p:Prim}{rr:R2}{as:Tms}(ho:OpR X (compareOp op) rr)(h2:Ok2 p rr)(hc:isCmp p=true)(hs:notSet b=true)(h:PEl X cl [a,b] as):Both X cl (.op p as) (.Compare a [op] [b] pos):=by
 obtain⟨ta,tb,rfl,ha,hb⟩:=two_of h
 exact⟨PE.imp (pe_cmpR ho ha hb (nomarkS hs)) fun st H Q t=>lift2 h2 st H Q t,
  PT.imp (pt_cmpR ho ha hb (nomarkS hs)) fun st H Q t=>lift2 h2 st H _ (leafB (cmp_bl hc) st H Q t)⟩
theorem one_of{a:Expr}{as:Tms}(h:PEl X cl [a] as):∃ ta,as = .cons ta .nil/\PE X a (E1 cl ta)/\notStar a=true:=by
 cases h with
 |cons h0 h1 h2=>cases h2;exact⟨_,rfl,h1,h0⟩
theorem both_callB{a:Expr}{x:Str}{p:Prim}{pp pos:Pos}{rr:List V->Hp->VK->Prop}{as:Tms}{id:String}(hc:CallR X (.builtin id) rr)(h2:OkN p rr)(hg:Gl X x)(hm:X.mg x=none)(hv:bootBuiltins x=some (.builtin id))(hn:x ≠ "__name__")(hd:(x == ("__debug__":Str))=false)
 (h:PEl X cl [a] as):Both X cl (.op p as) (.Call (.Name x pp) [a] [] pos):=by
 obtain⟨ta,e,ha,hs⟩:=one_of h
 have q:PE X (.Call (.Name x pp) [a] [] pos) (E1 cl (.op p as)):=PE.imp (pe_callB hc hg hm hv h.pa hn hd (starEach_cons hs) (backTo_plain (es:=[]) rfl)) fun st H Q t=>liftN h2 st H Q t
 exact⟨q,pt_leaf rfl rfl q⟩
theorem both_callT{a:Expr}{x:Str}{p:Prim}{pp pos:Pos}{rr:List V->Hp->VK->Prop}{as:Tms}{T:String}(hc:CallR X (.type T) rr)(h2:OkN p rr)(hg:Gl X x)(hm:X.mg x=none)(hv:bootBuiltins x=some (.type T))(hn:x ≠ "__name__")(hd:(x == ("__debug__":Str))=false)
 (h:PEl X cl [a] as):Both X cl (.op p as) (.Call (.Name x pp) [a] [] pos):=by
 obtain⟨ta,e,ha,hs⟩:=one_of h
 have q:PE X (.Call (.Name x pp) [a] [] pos) (E1 cl (.op p as)):=PE.imp (pe_callTy hc hg hm hv h.pa hn hd (starEach_cons hs) (backTo_plain (es:=[]) rfl)) fun st H Q t=>liftN h2 st H Q t
 exact⟨q,pt_leaf rfl rfl q⟩
theorem not_debug{n:String}(h:(Str.ofString n == ("__debug__":Str))=false:=by decide +kernel):(Str.ofString n == ("__debug__":Str))=false:=h
theorem bb_tuple:bootBuiltins (Str.ofString "tuple")=some (.type "tuple"):=by decide +kernel
theorem bb_list:bootBuiltins (Str.ofString "list")=some (.type "list"):=by decide +kernel
theorem bb_all:bootBuiltins (Str.ofString "all")=some (.builtin "all"):=by decide +kernel
theorem both_of{t:MP.Tm}{e:Expr}(hl:isLeaf t=true)(he:plainTest e=true)(q:PE X e (E1 cl t)):Both X cl t e:=⟨q,pt_leaf hl he q⟩
theorem both_ix(hu:X.A.units+1<cLine){a b:Expr}{pos:Pos}{as:Tms}(hs:notSlice b=true)(h:PEl X cl [a,b] as):Both X cl (.op .idx as) (.Subscript a b pos):=by
 obtain⟨ta,tb,rfl,ha,hb⟩:=two_of h
 exact both_of rfl rfl (PE.imp (pe_ix (ix_all hu) ha hb (plainIx hs)) fun st H Q t=>lift2 ok_idx st H Q t)
theorem both_tup{es:List Expr}{k:Nat}{pos:Pos}{as:Tms}(h:PEl X cl es as):Both X cl (.op .tup as) (.Tuple es k pos):=both_of rfl rfl (PE.imp (pe_tup h.pa) fun st H Q t=>liftN ok_tup st H Q t)
theorem both_lst{es:List Expr}{pos:Pos}{as:Tms}(h:PEl X cl es as):Both X cl (.op .lst as) (.List es pos):=both_of rfl rfl (PE.imp (pe_lst h.pa) fun st H Q t=>liftN ok_lst st H Q t)
theorem both_dct0{pos:Pos}:Both X cl (.op .dct0 .nil) (.Dict [] [] pos):=both_of rfl rfl (PE.imp pe_dnewK fun st H Q t=>by
 obtain⟨ρ,ε,σ,r,σ',hE,hS,e,q⟩:=t
 obtain⟨xs,σ1,e1,e2⟩:=op_inv e
 obtain⟨rfl,rfl⟩:=evs_nil_inv e1
 exact(ok_dct0 ρ σ1 H [] [] r σ' Q hS rfl e2 q).2)
theorem ok_dtg0:OkN .dtg0 (fun xs H Q=>xs=[]/\∀ p o,H p=none->RawO Wd.w o []->(p == sysModules)=false->Q (.ref p) (upd H p (dG p o))):=by
 intro ρ σ H xs vs r σ' Q S hx e q
 change pDtg0 xs σ=_ at e
 match xs,hx,e with
 |_::_,_,e=>simp[pDtg0] at e
 | [],hx,e =>
  cases hx
  cases e
  exact⟨rfl,fun p o hp hr hs=>q.new S hp (fun _ z=>by cases z) fun H' ρ' tp e ep ag=>⟨o,[],by rw[ep];exact e,rfl,hr,by rw[ep];exact hs,List.nodup_nil,rfl,by simp⟩⟩
theorem both_dtg0{pos:Pos}:Both X cl (.op .dtg0 .nil) (.Dict [] [] pos):=both_of rfl rfl (PE.imp pe_dtg0 fun st H Q t=>by
 obtain⟨ρ,ε,σ,r,σ',hE,hS,e,q⟩:=t
 obtain⟨xs,σ1,e1,e2⟩:=op_inv e
 obtain⟨rfl,rfl⟩:=evs_nil_inv e1
 exact(ok_dtg0 ρ σ1 H [] [] r σ' Q hS rfl e2 q).2)
theorem SR.dtg{H:Hp}{ρ:Nat->Addr}{σ:Store}(S:SR H ρ σ){k:Nat}{xs:List (G × G)}(e:σ[k]?=some (.dtg xs)):RC H ρ k (.dtg xs):=S.cell k _ e
theorem ok_innT:Ok2 .innT (rInT X false):=by
 intro ρ σ H x y vx vy r σ' Q S hx hy e q
 change pInnT [x,y] σ=_ at e
 cases x with
 |ref _=>cases e
 |tr _=>cases e
 |g gx =>
  cases y with
  |g _=>cases e
  |tr _=>cases e
  |ref k =>
   obtain⟨hk,rfl⟩:=hy
   simp only[pInnT] at e
   split at e
   ·rename_i kvs e3
    split at e
    ·rename_i c
     rw[Bool.and_eq_true] at c
     cases e
     obtain⟨o,ys,h1,h2,h3⟩:=S.dtg e3
     exact⟨_,kvs,gx,o,ys,rfl,⟨h1,h2,h3,hx,c.1,c.2⟩,q.same S rfl⟩
    ·cases e
   ·cases e
theorem ok_notinT:Ok2 .notinT (rInT X true):=by
 intro ρ σ H x y vx vy r σ' Q S hx hy e q
 change pNotInT [x,y] σ=_ at e
 cases x with
 |ref _=>cases e
 |tr _=>cases e
 |g gx =>
  cases y with
  |g _=>cases e
  |tr _=>cases e
  |ref k =>
   obtain⟨hk,rfl⟩:=hy
   simp only[pNotInT] at e
   split at e
   ·rename_i kvs e3
    split at e
    ·rename_i c
     rw[Bool.and_eq_true] at c
     cases e
     obtain⟨o,ys,h1,h2,h3⟩:=S.dtg e3
     exact⟨_,kvs,gx,o,ys,rfl,⟨h1,h2,h3,hx,c.1,c.2⟩,q.same S rfl⟩
    ·cases e
   ·cases e
theorem ok_idxT:Ok2 .idxT (rIxT X):=by
 intro ρ σ H x y vx vy r σ' Q S hx hy e q
 change pIdxT [x,y] σ=_ at e
 cases x with
 |g _=>cases e
 |tr _=>cases e
 |ref k =>
  cases y with
  |ref _=>cases e
  |tr _=>cases e
  |g gy =>
   obtain⟨hk,rfl⟩:=hx
   simp only[pIdxT] at e
   split at e
   ·rename_i kvs e3
    split at e
    ·rename_i c
     rw[Bool.and_eq_true] at c
     split at e
     ·rename_i w ew
      cases e
      obtain⟨o,ys,h1,h2,h3⟩:=S.dtg e3
      exact⟨_,kvs,gy,o,ys,w,rfl,⟨h1,h2,h3,hy,c.1,c.2⟩,ew,fun v hv=>q.same S hv⟩
     ·cases e
    ·cases e
   ·cases e
theorem both_ixT(hw:X.w=Wd.w)(hu:X.A.units+170<cLine){a b:Expr}{pos:Pos}{as:Tms}(hs:notSlice b=true)(h:PEl X cl [a,b] as):Both X cl (.op .idxT as) (.Subscript a b pos):=by
 obtain⟨ta,tb,rfl,ha,hb⟩:=two_of h
 exact both_of rfl rfl (PE.imp (pe_ix (ix_T hw hu) ha hb (plainIx hs)) fun st H Q t=>lift2 ok_idxT st H Q t)
theorem both_slice{a l:Expr}{pos p2:Pos}{as:Tms}(h:PEl X cl [a,l] as):Both X cl (.op (.slice true false) as) (.Subscript a (.Slice (some l) none none p2) pos):=by
 obtain⟨ta,tb,rfl,ha,hb⟩:=two_of h
 refine both_of rfl rfl (PE.imp (pe_slice sl_all ha (po_some hb) po_none) fun st H Q t => ?_)
 obtain⟨ρ,ε,σ,r,σ',hE,hS,e,q⟩:=t
 obtain⟨xs,σ1,e1,e2⟩:=op_inv e
 obtain⟨x,ys,σ2,e3,e4,rfl⟩:=evs_cons_inv e1
 obtain⟨y,zs,σ3,e5,e6,rfl⟩:=evs_cons_inv e4
 obtain⟨rfl,rfl⟩:=evs_nil_inv e6
 refine⟨ρ,ε,σ,x,σ2,hE,hS,e3,fun ρ1 v1 H1 ex1 S1 r1 => ?_⟩
 refine⟨ρ1,ε,σ2,y,_,hE.mono hS ex1,S1,e5,fun ρ2 v2 H2 ex2 S2 r2 => ?_⟩
 exact ok_slice bnd_F bnd_F0 S2 (RR.mono (ex2.tp S1) ex2.le ex2.ag _ r1) r2 e2 (q.after (ex1.trans S1 ex2) S2)
theorem op_bin{op:Operator}{p:Prim}{rr:R2}{e:Expr}{es:List Expr}{as:Tms}(ho:OpR X (binaryOp op) rr)(h2:Ok2 p rr)(hb:vBin op (vw e)=some es)(h:PEl X cl es as):Both X cl (.op p as) e:=by
 obtain⟨a,b,pos,rfl,rfl⟩:=binE hb
 exact both_bin ho h2 h
theorem op_cmp{op:CmpOp}{p:Prim}{rr:R2}{e:Expr}{es:List Expr}{as:Tms}(ho:OpR X (compareOp op) rr)(h2:Ok2 p rr)(hc:isCmp p=true)(hb:vCmp op (vw e)=some es)(h:PEl X cl es as):Both X cl (.op p as) e:=by
 obtain⟨a,b,pos,rfl,hs,rfl⟩:=cmpE hb
 exact both_cmp ho h2 hc hs h
theorem op_callB{f id:String}{p:Prim}{rr:List V->Hp->VK->Prop}{e:Expr}{es:List Expr}{as:Tms}(hc:CallR X (.builtin id) rr)(h2:OkN p rr)(hm:X.mg (Str.ofString f)=none)(hb:bootBuiltins (Str.ofString f)=some (.builtin id))(hn:Str.ofString f ≠ "__name__")(hd:(Str.ofString f == ("__debug__":Str))=false)
 (ho:vBlt X.env.scope f (vw e)=some es) (h:PEl X cl es as):Both X cl (.op p as) e:=by
 obtain⟨a,pp,pos,rfl,hg,rfl⟩:=bltE ho
 exact both_callB hc h2 (gl_eq hg) hm hb hn hd h
theorem op_callT{f T:String}{p:Prim}{rr:List V->Hp->VK->Prop}{e:Expr}{es:List Expr}{as:Tms}(hc:CallR X (.type T) rr)(h2:OkN p rr)(hm:X.mg (Str.ofString f)=none)(hb:bootBuiltins (Str.ofString f)=some (.type T))(hn:Str.ofString f ≠ "__name__")(hd:(Str.ofString f == ("__debug__":Str))=false)
 (ho:vBlt X.env.scope f (vw e)=some es) (h:PEl X cl es as):Both X cl (.op p as) e:=by
 obtain⟨a,pp,pos,rfl,hg,rfl⟩:=bltE ho
 exact both_callT hc h2 (gl_eq hg) hm hb hn hd h
theorem bb_max:bootBuiltins (Str.ofString "max")=some (.builtin "max"):=by decide +kernel
theorem both_max2(am:Amb X P W n){a b:Expr}{pp pos:Pos}{as:Tms}(hg:Gl X (Str.ofString "max"))(h:PEl X cl [a,b] as):Both X cl (.op .max2 as) (.Call (.Name (Str.ofString "max") pp) [a,b] [] pos):=by
 have hs:=h.stars
 have hs':notStar a=true/\[b].all notStar=true:=by simpa using hs
 exact both_of rfl rfl (PE.imp (pe_callB (call_max2 am.calm) hg (am.blt _ (by decide)) bb_max h.pa (by decide +kernel) not_debug (starEach_cons hs'.1) (backTo_plain (es:=[b]) hs'.2)) fun st H Q t=>liftN ok_max2 st H Q t)
theorem zipL_go{l:Addr}{n:Nat}{H0:Hp}{ρ0:Nat->Addr}{σ:Store}{Q:VK}:∀ (xs ys:List G) (vs us:List V) (gs:List G) (acc:List V) (H:Hp) (ρ:Nat->Addr),Ext ρ0 n H0 ρ (σ++[Cell.lst gs]).length H->SR H ρ (σ++[.lst gs])->ρ σ.length=l->H l=some (.lst acc)->RGs H gs acc->RGs H xs vs->RGs H ys us →
 (∀ ρ' H',Ext ρ0 n H0 ρ' (σ++[Cell.lst (gs++zipG xs ys)]).length H'->SR H' ρ' (σ++[.lst (gs++zipG xs ys)])->ρ' σ.length=l->Q (.ref l) H')->ZQ l Q vs us acc H
 | [],ys,vs,us,gs,acc,H,ρ,ex,S,hl,ha,hg,hx,hy,q=>by
  cases hx
  have e0:gs++zipG [] ys=gs:=by simp[zipG]
  rw[e0] at q
  have:=q ρ H ex S hl
  cases us<;>exact this
 |x::xs,[],vs,us,gs,acc,H,ρ,ex,S,hl,ha,hg,hx,hy,q=>by
  cases hy
  have e0:gs++zipG (x::xs) []=gs:=by simp[zipG]
  rw[e0] at q
  have:=q ρ H ex S hl
  cases vs<;>exact this
 |x::xs,y::ys,vs,us,gs,acc,H,ρ,ex,S,hl,ha,hg,hx,hy,q=>by
  obtain⟨v,vs,rfl,hv,hx⟩:=hx
  obtain⟨u,us,rfl,hu,hy⟩:=hy
  intro p hp
  obtain⟨x1,x2,tp1⟩:=S.tup hp (.tup [v,u])
  have hk:σ.length<(σ++[Cell.lst gs]).length:=by simp
  have hne:l≠p:=fun z=>by rw[z,hp] at ha;cases ha
  have ha1:upd H p (.tup [v,u]) (ρ σ.length)=some (.lst acc):=by rw[hl,upd_ne hne];exact ha
  have hgx:RG (upd H p (.tup [v,u])) (.tup [x,y]) (.ref p):=⟨p,[v,u],rfl,upd_same,v,[u],rfl,RG.mono tp1 _ hv,u,[],rfl,RG.mono tp1 _ hu,rfl⟩
  obtain⟨w1,w2⟩:=x2.write hk (o:=.lst (acc++[.ref p])) (c:=.lst (gs++[.tup [x,y]])) (nfz_l ha1) fun H' tp e=>⟨_,e,(RGs.mono tp _ (RGs.mono tp1 _ hg)).append ⟨.ref p,[],rfl,RG.mono tp _ hgx,rfl⟩⟩
  have tp2:=w1.tp x2
  have st:(σ++[Cell.lst gs]).set σ.length (.lst (gs++[.tup [x,y]]))=σ++[.lst (gs++[.tup [x,y]])]:=by rw[List.set_append_right _ _ (Nat.le_refl _)];simp
  rw[hl] at w1 w2 tp2
  rw[st] at w1 w2
  refine zipL_go xs ys vs us (gs++[.tup [x,y]]) (acc++[.ref p]) _ ρ ((ex.trans S x1).trans x2 w1) w2 hl upd_same ?_ (RGs.mono tp2 _ (RGs.mono tp1 _ hx)) (RGs.mono tp2 _ (RGs.mono tp1 _ hy)) fun ρ' H' e' S' l'=>q ρ' H' (by simpa[zipG,List.append_assoc] using e') (by simpa[zipG,List.append_assoc] using S') l'
  exact(RGs.mono tp2 _ (RGs.mono tp1 _ hg)).append ⟨.ref p,[],rfl,RG.mono tp2 _ hgx,rfl⟩
theorem zipL_inv{xs:List R}{σ σ':Store}{r:R}(h:prim .zipL xs σ = .ok r σ'):∃ x y,xs=[.g (.tup x),.g (.tup y)]/\r = .ref σ.length/\σ'=σ++[.lst (zipG x y)]:=by
 change pZipL xs σ=_ at h
 unfold pZipL at h
 split at h
 ·cases h;exact⟨_,_,rfl,rfl,rfl⟩
 ·cases h
theorem both_zipL(am:Amb X P W n){a b:Expr}{p1 p2 p3 p4:Pos}{as:Tms}(g1:Gl X (Str.ofString "list"))(g2:Gl X (Str.ofString "zip"))(h:PEl X cl [a,b] as):Both X cl (.op .zipL as) (.Call (.Name (Str.ofString "list") p1) [.Call (.Name (Str.ofString "zip") p2) [a,b] [] p3] [] p4):=by
 have hs:=h.stars
 have hs':notStar a=true/\[b].all notStar=true:=by simpa using hs
 refine both_of rfl rfl (PE.imp (pe_zipL am.calm g1 (am.blt _ (by decide)) g2 (am.blt _ (by decide)) h.pa hs'.1 (by simpa using hs'.2)) fun st H Q t => ?_)
 obtain⟨ρ,ε,σ,r,σ',hE,hS,e,q⟩:=t
 obtain⟨xs,σ1,e1,e2⟩:=op_inv e
 obtain⟨x,y,rfl,rfl,rfl⟩:=zipL_inv e2
 refine⟨ρ,ε,σ,_,σ1,hE,hS,e1,fun ρ1 vs H1 ex1 S1 rr => ?_⟩
 obtain⟨v1,v2,rfl,k1,k2⟩:=rrs2 rr
 obtain⟨a1,us1,rfl,ha1,k1⟩:=k1
 obtain⟨a2,us2,rfl,ha2,k2⟩:=k2
 refine⟨a1,a2,us1,us2,rfl,ha1,ha2,fun l hl => ?_⟩
 obtain⟨ρ2,x1,x2,x3⟩:=S1.push hl (o:=.lst []) (c:=.lst []) (fun _ z=>by cases z) fun H' ρ' tp e1 e2 e3=>⟨[],by rw[e2];exact e1,rfl⟩
 have tp:=x1.tp S1
 refine zipL_go x y us1 us2 [] [] _ ρ2 (ex1.trans S1 x1) x2 x3 upd_same rfl (RGs.mono tp _ k1) (RGs.mono tp _ k2) fun ρ' H' e' S' l' => ?_
 exact q ρ' (.ref l) H' e' S' ⟨by simp,by rw[l']⟩
theorem op_sound(am:Amb X P W n){p:Prim}{as:Tms}{e:Expr}{es:List Expr}(ho:opArgs X.env.scope p (vw e)=some es)(h:PEl X cl es as):Both X cl (.op p as) e:=by
 have hu:X.A.units+170<cLine:=by have:=am.un;omega
 cases p with
 |add=>exact op_bin op_addAll ok_add ho h
 |sub=>exact op_bin op_sub ok_sub ho h
 |mul=>exact op_bin op_mul ok_mul ho h
 |fdiv=>exact op_bin op_fdiv ok_fdiv ho h
 |mod=>exact op_bin op_mod ok_mod ho h
 |eq=>exact op_cmp (op_eqAll hu) ok_eq rfl ho h
 |ne=>exact op_cmp (op_neAll hu) ok_ne rfl ho h
 |lt=>exact op_cmp op_lt ok_lt rfl ho h
 |le=>exact op_cmp op_le ok_le rfl ho h
 |gt=>exact op_cmp op_gt ok_gt rfl ho h
 |ge=>exact op_cmp op_ge ok_ge rfl ho h
 |inn=>exact op_cmp (op_inAll hu) ok_in rfl ho h
 |notin=>exact op_cmp (op_notinAll hu) ok_notin rfl ho h
 |isN=>exact op_cmp op_isN ok_isN rfl ho h
 |notN=>exact op_cmp op_notN ok_notN rfl ho h
 |idx =>
  obtain⟨a,b,pos,rfl,hs,rfl⟩:=ixE ho
  exact both_ix (by omega) hs h
 |tup =>
  obtain⟨k,pos,rfl⟩:=tupE ho
  exact both_tup h
 |lst =>
  obtain⟨pos,rfl⟩:=lstE ho
  exact both_lst h
 |dct0 =>
  obtain⟨rfl,pos,rfl⟩:=dctE ho
  cases h
  exact both_dct0
 |dtg0 =>
  obtain⟨rfl,pos,rfl⟩:=dctE ho
  cases h
  exact both_dtg0
 |len=>exact op_callB call_lenAll ok_len (am.blt _ (by decide)) PySem.boot_len (by decide +kernel) not_debug ho h
 |tupleOf=>exact op_callT call_tuple_of ok_tupleOf (am.blt _ (by decide)) bb_tuple (by decide +kernel) not_debug ho h
 |listOf=>exact op_callT (call_listAll am.calm) ok_listOf (am.blt _ (by decide)) bb_list (by decide +kernel) not_debug ho h
 |all=>exact op_callB (call_allL am.calm) ok_all (am.blt _ (by decide)) bb_all (by decide +kernel) not_debug ho h
 |slice lo hi =>
  cases lo with
  |true =>
   cases hi with
   |true=>cases ho
   |false =>
    obtain⟨a,l,pos,p2,rfl,rfl⟩:=slFE ho
    exact both_slice h
  |false =>
   cases hi with
   |false=>cases ho
   |true =>
    cases ho
 |max2 =>
  obtain⟨a,b,pp,pos,rfl,hg,rfl⟩:=blt2E ho
  exact both_max2 am (gl_eq hg) h
 |innT=>exact op_cmp (op_innT am.wd hu) ok_innT rfl ho h
 |notinT=>exact op_cmp (op_notinT am.wd hu) ok_notinT rfl ho h
 |idxT =>
  obtain⟨a,b,pos,rfl,hs,rfl⟩:=ixE ho
  exact both_ixT am.wd hu hs h
 |zipL =>
  obtain⟨a,b,p1,p2,p3,p4,rfl,g1,g2,rfl⟩:=zipLE ho
  exact both_zipL am (gl_eq g1) (gl_eq g2) h
 |_=>cases ho
end
end SN
namespace SN
open PySem PySem.Spec PyProof.Rows L2 MP
variable [Wd][Cl]
section
variable {X:Cx}{P:List Fn}{W n:Nat}{cl:CallH}
theorem recv_base{o:Expr}{m:Str}{env:PySem.Env}(h:recvE o=true):attributeBase o m env (eval o env)=eval o env:=by
 cases o<;>first|rfl|(cases h;done)
theorem few_ok{es:List Expr}{cpos:Pos}{env:PySem.Env}(h:es.all notStar=true)(hl:es.length<30):((backTo cpos (starEach es env)).all (fun x => !x.1) && (backToKw cpos (keywordEach [] env)).all (fun x=>x.1.isSome)
 && decide (es.length+([]:List Keyword).length+(if ([]:List Keyword).isEmpty then 0 else 1)<30))=true:=by
 have h1:(backTo cpos (starEach es env)).all (fun x => !x.1)=true:=by
  have:=backTo_plain (pos:=cpos) (env:=env) h
  rw[List.any_eq_false] at this
  rw[List.all_eq_true]
  intro x hx
  have:=this x hx
  simpa using this
 rw[h1]
 simpa[backToKw,keywordEach] using hl
theorem both_meth{T:String}{name:Str}{id:String}{o a:Expr}{es:List Expr}{ap cp:Pos}{p:Prim}{rr:V->List V->Hp->VK->Prop}{ta:MP.Tm}{as:Tms}
 (pa:PlainAttrs T) (slot:Slot T name id) (hty:typeOf (.builtin id)=pure (.type "method_descriptor")) (hm:MtR X id rr) (ok:OkM X.K T p rr) (hr:recvE o=true) (hl:(ap.endLine == cp.line)=true) (hlen:(a::es).length<30)
 (ho:PE X o (E1 cl ta)) (h:PEl X cl (a::es) as):Both X cl (.meth p ta as) (.Call (.Attribute o name ap) (a::es) [] cp):=by
 have hs:=h.stars
 have hs':notStar a=true/\es.all notStar=true:=by simpa using hs
 exact both_of rfl rfl (PE.imp (pe_bm pa slot hty hm ho h.pa (recv_base hr) (few_ok hs hlen) hl (starEach_cons hs'.1) (backTo_plain hs'.2)) fun st H Q t=>liftM ok st H Q t)
theorem meth_by{T:String}{name id:String}{p:Prim}{k:Nat}{rr:V->List V->Hp->VK->Prop}{ta:MP.Tm}{as:Tms}{e o:Expr}{es:List Expr}(pa:PlainAttrs T)(slot:Slot T (Str.ofString name) id)(hty:typeOf (.builtin id)=pure (.type "method_descriptor"))(hm:MtR X id rr)(ok:OkM X.K T p rr)
 (hk:vMt name (k+1) (vw e)=some (o,es)) (hl:k+1<30) (ho:PE X o (E1 cl ta)) (h:PEl X cl es as):Both X cl (.meth p ta as) e:=by
 obtain⟨hn,ap,cp,h1,h2,rfl⟩:=mtE hk
 cases es with
 |nil=>cases hn
 |cons a es=>exact both_meth pa slot hty hm ok h1 h2 (by rw[hn];exact hl) ho h
theorem meth_sound(am:Amb X P W n){p:Prim}{a:MP.Tm}{as:Tms}{e o:Expr}{es:List Expr}(hm:methArgs p (vw e)=some (o,es))(ho:PE X o (E1 cl a))(h:PEl X cl es as):Both X cl (.meth p a as) e:=by
 have hu:X.A.units+1<cLine:=by have:=am.un;omega
 cases p with
 |append=>exact meth_by PySem.F.plainAttrs_list PySem.F.slot_list_append PySem.F.type_list_append mt_append okm_append (k:=0) hm (by decide) ho h
 |get2=>exact meth_by PySem.F.plainAttrs_dict PySem.F.slot_dict_get PySem.F.type_dict_get (mt_get2 hu) okm_get2 (k:=1) hm (by decide) ho h
 |setdef=>exact meth_by PySem.F.plainAttrs_dict PySem.F.slot_dict_setdefault PySem.F.type_dict_setdefault mt_setdef okm_setdef (k:=1) hm (by decide) ho h
 |extend=>exact meth_by PySem.F.plainAttrs_list PySem.F.slot_list_extend PySem.F.type_list_extend mt_extend okm_extend (k:=0) hm (by decide) ho h
 |pop =>
  obtain⟨hn,ap,cp,h1,h2,rfl⟩:=mtE hm
  cases List.length_eq_zero_iff.mp hn
  cases h
  exact both_of rfl rfl (PE.imp (pe_bm0 PySem.F.plainAttrs_list PySem.F.slot_list_pop PySem.F.type_list_pop mt_pop ho (recv_base h1) h2) fun st H Q t=>liftM0 okm_pop st H Q t)
 |_=>cases hm
noncomputable def WJ(J:It)(ρ:Nat->Addr)(σ:Store)(H:Hp)(w:Walk):Prop :=
 ∀ ρ2 σ2 H2,Ext ρ σ.length H ρ2 σ2.length H2->SR H2 ρ2 σ2->intact w.guard σ2=true->∀ i:Nat,
  (∀ x,w.items[i]?=some x->J.go i H2/\∀ v H3,J.yld i H2 v H3->Ext ρ2 σ2.length H2 ρ2 σ2.length H3/\SR H3 ρ2 σ2/\RR H3 ρ2 σ2.length x v)/\(w.items.length<=i->J.stop i H2)
inductive TIv (K:PySem.W.Frag) (f:MP.Env->Store->Res Walk) (st:L2.St) (H:Hp) (R:It->Hp->Prop):Prop
 |mk (ρ:Nat->Addr) (ε:MP.Env) (σ:Store) (w:Walk) (σ':Store) (hE:RE H ρ σ.length ε st) (hS:SR H ρ σ) (e:f ε σ = .ok w σ') (q:∀ ρ' H' J,Ext ρ σ.length H ρ' σ'.length H'->SR H' ρ' σ'->WJ J ρ' σ' H' w->BJ K J->R J H')
theorem PI.imp{tg iter:Expr}{t t':TI}(h:PI X tg iter t)(w:∀ σ H R,t' σ H R->t σ H R):PI X tg iter t':=fun pins s σ H R I q=>h pins s σ H R I (w σ H R q)
theorem PI.or{tg iter:Expr}{t t':TI}(h:PI X tg iter t)(h':PI X tg iter t'):PI X tg iter (fun σ H R=>t σ H R\/t' σ H R):=fun pins s σ H R I q=>q.elim (h pins s σ H R I) (h' pins s σ H R I)
theorem map_get{α:Type}{f:α->R}{xs:List α}{i:Nat}{x:R}(h:(xs.map f)[i]?=some x):∃ a,xs[i]?=some a/\x=f a:=by
 rw[List.getElem?_map] at h
 cases e:xs[i]? with
 |none=>rw[e] at h;cases h
 |some a=>rw[e] at h;exact⟨a,rfl,(Option.some.inj h).symm⟩
theorem wj_tup{K:PySem.W.Frag}{ρ:Nat->Addr}{σ:Store}{H:Hp}{a:Addr}{xs:List G}{vs:List V}(S:SR H ρ σ)(ha:H a=some (.tup vs))(h:RGs H xs vs):WJ (Itt K a) ρ σ H ⟨xs.map .g,none⟩:=by
 intro ρ2 σ2 H2 ex S2 _ i
 have tp:=ex.tp S
 have ha2:=tp _ _ ha
 have h2:=RGs.mono tp _ h
 refine⟨fun x hx => ?_,fun hi => ?_⟩
 ·obtain⟨g,e,rfl⟩:=map_get hx
  obtain⟨v,e1,e2⟩:=h2.get e
  refine⟨⟨vs,v,.of ha2,e1⟩,fun u H3 y => ?_⟩
  obtain⟨rfl,y⟩:=y
  have:=y vs (.of ha2)
  rw[e1] at this
  cases this
  exact⟨Ext.refl _ _ _,S2,e2⟩
 ·exact⟨vs,.of ha2,by rw[h2.length];simpa using hi⟩
theorem wj_lst{K:PySem.W.Frag}{ρ:Nat->Addr}{σ:Store}{H:Hp}{k:Nat}{xs:List G}{c:Cell}(hk:k<σ.length)(hc:c = .lst xs\/c = .rdl xs):WJ (Itl K (ρ k)) ρ σ H ⟨xs.map .g,some (k,c)⟩:=by
 intro ρ2 σ2 H2 ex S2 hi i
 have e0:σ2[k]?=some c:=by
  rcases hc with rfl|rfl<;>exact of_decide_eq_true hi
 obtain⟨vs,h1,h2⟩:=S2.lR (k:=k) (xs:=xs) (by rcases hc with rfl|rfl<;>first|exact .inl e0|exact .inr e0)
 rw[ex.ag k hk] at h1
 refine⟨fun x hx => ?_,fun hi => ?_⟩
 ·obtain⟨g,e,rfl⟩:=map_get hx
  obtain⟨v,e1,e2⟩:=h2.get e
  refine⟨⟨vs,v,.inl h1,e1⟩,fun u H3 y => ?_⟩
  obtain⟨rfl,y⟩:=y
  have:=y vs (.inl h1)
  rw[e1] at this
  cases this
  exact⟨Ext.refl _ _ _,S2,e2⟩
 ·exact⟨vs,.inl h1,by rw[h2.length];simpa using hi⟩
theorem range_get{lo hi:Int}{i:Nat}:(rangeL lo hi)[i]?=if i<(hi-lo).toNat then some (.g (.int (lo+(i:Int)))) else none:=by
 unfold rangeL
 rw[List.getElem?_map]
 by_cases h:i<(hi-lo).toNat
 ·rw[if_pos h,List.getElem?_range h];rfl
 ·rw[if_neg h,List.getElem?_eq_none (by simpa using h)];rfl
theorem wj_range{ρ:Nat->Addr}{σ:Store}{H:Hp}{lo hi:Int}:WJ (Itr lo (hi-lo).toNat) ρ σ H ⟨rangeL lo hi,none⟩:=by
 intro ρ2 σ2 H2 ex S2 _ i
 refine⟨fun x hx => ?_,fun h => ?_⟩
 ·have hx:(rangeL lo hi)[i]?=some x:=hx
  rw[range_get] at hx
  split at hx
  ·rename_i h
   cases hx
   refine⟨h,fun v H3 y => ?_⟩
   obtain⟨rfl,rfl⟩:=y
   exact⟨Ext.refl _ _ _,S2,rfl⟩
  ·cases hx
 ·show(hi-lo).toNat<=i
  have h:(rangeL lo hi).length<=i:=h
  simpa[rangeL] using h
theorem small_inv{i:Int}(h:small i=true) : -(2 ^ 62)<=i/\i<2 ^ 62:=by
 simp only[small,Bool.and_eq_true,decide_eq_true_eq] at h
 exact h
theorem over_inv{x:R}{σ σ':Store}{w:Walk}(h:wOver x σ = .ok w σ'):σ'=σ/\((∃ xs,x = .g (.tup xs)/\w=⟨xs.map .g,none⟩)\/(∃ k xs c,x = .ref k/\(c = .lst xs\/c = .rdl xs)/\σ[k]?=some c/\w=⟨xs.map .g,some (k,c)⟩)):=by
 cases x with
 |tr _=>simp[wOver] at h
 |g gx =>
  cases gx with
  |tup xs=>cases h;exact⟨rfl,.inl ⟨xs,rfl,rfl⟩⟩
  |_=>simp[wOver] at h
 |ref k =>
  simp only[wOver] at h
  split at h
  ·rename_i xs e;cases h;exact⟨rfl,.inr ⟨k,xs,_,rfl,.inl rfl,e,rfl⟩⟩
  ·rename_i xs e;cases h;exact⟨rfl,.inr ⟨k,xs,_,rfl,.inr rfl,e,rfl⟩⟩
  ·cases h
theorem bj_lst(K:PySem.W.Frag)(a:Addr):BJ K (Itl K a):=fun X pins σ H s i hK I ⟨xs,x,h,e⟩=>by
 subst hK
 obtain⟨_,_,_,hz⟩:=I.list h
 exact Nat.lt_of_lt_of_le (List.getElem?_eq_some_iff.mp e).1 hz
theorem bj_tup(K:PySem.W.Frag)(a:Addr):BJ K (Itt K a):=fun X pins σ H s i hK I ⟨xs,x,h,e⟩=>by
 subst hK
 obtain⟨_,_,_,hz⟩:=I.tuple h
 exact Nat.lt_of_lt_of_le (List.getElem?_eq_some_iff.mp e).1 hz
theorem bj_range(K:PySem.W.Frag)(lo:Int){n:Nat}(h:n<=big):BJ K (Itr lo n):=fun X pins σ H s i hK I g=>Nat.lt_of_lt_of_le g (Nat.le_trans h big_le)
theorem pi_over{tg e:Expr}{t:MP.Tm}(h:PE X e (E1 cl t)):PI X tg e (TIv X.K (evW cl (.over t))):=by
 refine PI.imp (PI.or (pi_list h) (pi_tup h)) fun st H R q => ?_
 obtain⟨ρ,ε,σ,w,σ',hE,hS,ew,q⟩:=q
 rw[evW] at ew
 obtain⟨x,σ1,e1,e2⟩:=bind_inv ew
 obtain⟨rfl,z⟩:=over_inv e2
 rcases z with⟨xs,rfl,rfl⟩ | ⟨k,xs,c,rfl,hc,hk,rfl⟩
 ·refine .inr ⟨ρ,ε,σ,_,_,hE,hS,e1,fun ρ' v H' ex S' rr => ?_⟩
  obtain⟨a,vs,rfl,ha,hx⟩:=rr
  exact⟨a,rfl,⟨vs,.of ha⟩,q ρ' H' _ ex S' (wj_tup S' ha hx) (bj_tup _ _)⟩
 ·refine .inl ⟨ρ,ε,σ,_,_,hE,hS,e1,fun ρ' v H' ex S' rr => ?_⟩
  obtain⟨hkl,rfl⟩:=rr
  obtain⟨vs,h1,h2⟩:=S'.lR (k:=k) (xs:=xs) (by rcases hc with rfl|rfl<;>first|exact .inl hk|exact .inr hk)
  exact⟨_,rfl,⟨vs,.inl h1⟩,q ρ' H' _ ex S' (wj_lst hkl hc) (bj_lst _ _)⟩
theorem pi_rng{tg a:Expr}{t:MP.Tm}{pp pos:Pos}(am:Amb X P W n)(hg:Gl X (Str.ofString "range"))(hs:notStar a=true)(h:PE X a (E1 cl t)):PI X tg (.Call (.Name (Str.ofString "range") pp) [a] [] pos) (TIv X.K (evW cl (.range1 t))):=by
 have ha:PA X [a] (A1 cl (.cons t .nil)):=(PEl.cons hs h .nil).pa
 refine PI.imp (pi_range1 hg (am.blt _ (by decide)) ha (starEach_cons hs)) fun st H R q => ?_
 obtain⟨ρ,ε,σ,w,σ',hE,hS,ew,q⟩:=q
 rw[evW] at ew
 obtain⟨x,σ1,e1,e2⟩:=bind_inv ew
 cases x with
 |ref _=>simp[wRange] at e2
 |tr _=>simp[wRange] at e2
 |g gx =>
  cases gx with
  |int j =>
   simp only[wRange] at e2
   split at e2
   ·rename_i c
    cases e2
    simp only[Bool.and_eq_true] at c
    have hj:=small_inv c.1.2
    have hb:(j-0).toNat<=big:=of_decide_eq_true c.2
    refine⟨ρ,ε,σ,[.g (.int j)],σ',hE,hS,by rw[evs,e1];simp[evs],fun ρ' vs H' ex S' rr => ?_⟩
    obtain⟨v,rfl,hv⟩:=rrs1 rr
    cases(show v = .int j from hv)
    refine⟨j,rfl,hj.1,hj.2,?_⟩
    have:=q ρ' H' (Itr 0 (j-0).toNat) ex S' wj_range (bj_range _ _ hb)
    simpa using this
   ·cases e2
  |_=>simp[wRange] at e2
inductive TCv (f:MP.Env->Store->Res Bool) (st:L2.St) (H:Hp) (Q:Bool->Hp->Prop):Prop
 |mk (ρ:Nat->Addr) (ε:MP.Env) (σ:Store) (b:Bool) (σ':Store) (hE:RE H ρ σ.length ε st) (hS:SR H ρ σ) (e:f ε σ = .ok b σ') (q:∀ ρ' H',Ext ρ σ.length H ρ' σ'.length H'->SR H' ρ' σ'->Q b H')
inductive PTl (X:Cx) (cl:CallH):List Expr->Tms->Prop where
 |nil:PTl X cl [] .nil
 |cons {e:Expr} {es:List Expr} {a:MP.Tm} {as:Tms}:PT X e (T1 cl a)->PTl X cl es as->PTl X cl (e::es) (.cons a as)
theorem PTl.pcs{es:List Expr}{as:Tms}(h:PTl X cl es as):PCs X es (TCv (evC cl as)):=by
 have imp:∀ {es:List Expr} {t t':TT},PCs X es t->(∀ σ H Q,t' σ H Q->t σ H Q)->PCs X es t':=fun h w pins s σ H Q I q=>h pins s σ H Q I (w σ H Q q)
 induction h with
 |nil =>
  refine imp pcs_nil fun st H Q ⟨ρ,ε,σ,b,σ',hE,hS,e,q⟩ => ?_
  rw[evC] at e
  cases e
  exact q ρ H (Ext.refl _ _ _) hS
 | @cons e es a as h1 h2 ih =>
  refine imp (pcs_cons h1 ih) fun st H Q ⟨ρ,ε,σ,b,σ',hE,hS,e,q⟩ => ?_
  rw[evC] at e
  obtain⟨r,σ1,e1,e2⟩:=bind_inv e
  cases r with
  |ref _=>cases e2
  |tr _=>cases e2
  |g gx =>
   cases gx with
   |bl c =>
    refine⟨ρ,ε,σ,c,σ1,hE,hS,e1,fun ρ1 H1 ex1 S1 => ?_⟩
    cases c with
    |true =>
     rw[if_pos rfl]
     exact⟨ρ1,ε,σ1,b,σ',hE.mono hS ex1,S1,e2,fun ρ2 H2 ex2 S2=>q ρ2 H2 (ex1.trans S1 ex2) S2⟩
    |false =>
     rw[if_neg Bool.false_ne_true]
     cases e2
     exact q ρ1 H1 ex1 S1
   |_=>cases e2
theorem SR.other{H:Hp}{ρ:Nat->Addr}{σ:Store}(S:SR H ρ σ){D:Addr}{vs:List V}(hD:H D=some (.lst vs))(nD:∀ i,i<σ.length->ρ i≠D)(o:HO):SR (upd H D o) ρ σ/\TPk H (upd H D o):=by
 have tp:TPk H (upd H D o):=fun a ws e=>by
  rw[upd_ne fun z => ?_]
  ·exact e
  ·rw[z,hD] at e;cases e
 refine⟨⟨fun i d e => ?_,S.inj⟩,tp⟩
 have hne:ρ i≠D:=nD i (SR.lt e)
 have q:=S.cell i d e
 cases d with
 |lst xs=>obtain⟨vs,h1,h2⟩:=q;exact⟨vs,by rw[upd_ne hne];exact h1,RGs.mono tp xs h2⟩
 |rdl xs =>
  obtain⟨vs,h1,h2⟩:=q
  refine⟨vs,?_,RGs.mono tp xs h2⟩
  rcases h1 with h1 | ⟨ob,h1⟩
  ·exact .inl (by rw[upd_ne hne];exact h1)
  ·exact .inr ⟨ob,by rw[upd_ne hne];exact h1⟩
 |dct xs=>obtain⟨vs,h1,h2⟩:=q;exact⟨vs,by rw[upd_ne hne];exact h1,RKs.mono tp xs h2.1,h2.2⟩
 |rdd xs=>obtain⟨vs,ob,h1,h2⟩:=q;exact⟨vs,ob,by rw[upd_ne hne];exact h1,RKs.mono tp xs h2.1,h2.2⟩
 |dtg xs=>obtain⟨o,ys,h1,h2,h3⟩:=q;exact⟨o,ys,by rw[upd_ne hne];exact h1,RN.mono tp xs h2,h3⟩
 |rdt xs=>obtain⟨o,ys,h1,h2,h3⟩:=q;exact⟨o,ys,by rw[upd_ne hne];exact h1,RN.mono tp xs h2,h3⟩
 |rls xs=>obtain⟨vs,h1,h2⟩:=q;exact⟨vs,by rw[upd_ne hne];exact h1,RRs.mono tp (Nat.le_refl _) (fun _ _=>rfl) xs h2⟩
theorem RRs.append{H:Hp}{ρ:Nat->Addr}{n:Nat}:∀ {xs ys:List R} {vs us:List V},RRs H ρ n xs vs->RRs H ρ n ys us->RRs H ρ n (xs++ys) (vs++us)
 | [],_,_,_,h,k=>by cases h;exact k
 |x::xs,_,_,_,h,k=>by
  obtain⟨v,r,rfl,h1,h2⟩:=h
  exact⟨v,r++_,rfl,h1,RRs.append h2 k⟩
noncomputable def BX(k:Nat)(x:V)(H:Hp)(bs:L2.St):Prop:=if k=1 then bs=[some x] else ∃ a vs,x = .ref a/\H a=some (.tup vs)/\vs.length=k/\bs=vs.map some
theorem bx_of{H:Hp}{ρ:Nat->Addr}{n k:Nat}{x:R}{v:V}{bs:List (Option R)}(hx:RR H ρ n x v)(e:MP.bindC k x=some bs):∃ cs,BX k v H cs/\bs.length=k/\∃ (rs:List R) (vs:List V),bs=rs.map some/\cs=vs.map some/\RRs H ρ n rs vs:=by
 unfold MP.bindC at e
 split at e
 ·rename_i hk
  cases e
  subst hk
  exact⟨[some v],by simp[BX],rfl,[x],[v],rfl,rfl,⟨v,[],rfl,hx,rfl⟩⟩
 ·rename_i hk
  split at e
  ·rename_i rs hp
   split at e
   ·rename_i hl
    cases e
    obtain⟨a,vs,rfl,ha,hr⟩:RR H ρ n (.tr rs) v:=by
     cases x with
     |ref _=>cases hp
     |tr xs=>cases hp;exact hx
     |g gx =>
      cases gx with
      |tup xs =>
       cases hp
       obtain⟨a,vs,rfl,ha,h⟩:=hx
       exact⟨a,vs,rfl,ha,RRs.toG h⟩
      |_=>cases hp
    exact⟨vs.map some,by rw[BX,if_neg hk];exact⟨a,vs,rfl,ha,by rw[hr.length,hl],rfl⟩,by simpa using hl,rs,vs,rfl,rfl,hr⟩
   ·cases e
  ·cases e
theorem RE.caps{H:Hp}{ρ:Nat->Addr}{n:Nat}{ε:MP.Env}{st:L2.St}(h:RE H ρ n ε st)(caps:List Nat){rs:List R}{vs:List V}(hx:RRs H ρ n rs vs):RE H ρ n (rs.map some++capsE ε caps) (vs.map some++caps.map fun j=>(st[j]?).getD none):=by
 have hl:=hx.length
 refine⟨by simp[capsE,hl],fun i r e => ?_⟩
 by_cases hi:i<rs.length
 ·rw[List.getElem?_append_left (by simpa using hi),List.getElem?_map] at e
  cases c:rs[i]? with
  |none=>rw[c] at e;cases e
  |some r' =>
   rw[c] at e
   cases e
   obtain⟨v,e1,e2⟩:=hx.get c
   exact⟨v,by rw[List.getElem?_append_left (by simp;omega),List.getElem?_map,e1];rfl,e2⟩
 ·rw[List.getElem?_append_right (by simpa using hi),List.length_map] at e
  simp only[capsE,List.getElem?_map] at e
  cases c:caps[i-rs.length]? with
  |none=>rw[c] at e;cases e
  |some k =>
   rw[c] at e
   simp only[Option.map_some,Option.some.injEq] at e
   cases c2:ε[k]? with
   |none=>rw[c2] at e;cases e
   |some o =>
    rw[c2] at e
    simp only[Option.getD_some] at e
    subst e
    obtain⟨u,e1,e2⟩:=h.val k r c2
    refine⟨u,?_,e2⟩
    rw[List.getElem?_append_right (by simp;omega),List.length_map,hl,List.getElem?_map,c]
    simp only[Option.map_some,e1,Option.getD_some]
theorem compL_cons_inv{f:R->Store->Res (Option R)}{w:Option (Nat × Cell)}{x:R}{r:List R}{σ σ':Store}{ys:List R}(h:compL f w (x::r) σ = .ok ys σ') :
 intact w σ=true/\∃ o σ1 zs,f x σ = .ok o σ1/\compL f w r σ1 = .ok zs σ'/\ys=(match o with|some y=>y::zs|none=>zs):=by
 simp only[compL] at h
 split at h
 ·rename_i hi
  obtain⟨o,σ1,e1,h⟩:=bind_inv h
  obtain⟨zs,σ2,e2,h⟩:=bind_inv h
  cases h
  exact⟨hi,o,σ1,zs,e1,e2,rfl⟩
 ·cases h
theorem comp_lift{K:PySem.W.Frag}{kn:Nat}{caps:List Nat}{s:Src}{conds:Tms}{elt:MP.Tm}(st:L2.St)(H:Hp)(Q:VK)(t:E1 cl (.comp kn caps s conds elt) st H Q) :
 tLC K (BX kn) (TIv K (evW cl s)) caps (TCv (evC cl conds)) (E1 cl elt) st H Q:=by
 obtain⟨ρ,ε,σ,r,σ',hE,hS,e,q⟩:=t
 rw[ev_comp] at e
 cases ew:evW cl s ε σ with
 |exc c σ1=>rw[ew] at e;cases e
 |stuck=>rw[ew] at e;cases e
 |ok w σ1 =>
  rw[ew,kC1_ok] at e
  generalize hf:compF cl kn caps conds elt ε=f at e
  cases ec:compL f w.guard w.items σ1 with
  |exc c σ2=>rw[ec] at e;cases e
  |stuck=>rw[ec] at e;cases e
  |ok ys σ3 =>
   rw[ec] at e
   cases e
   refine⟨ρ,ε,σ,w,σ1,hE,hS,ew,fun ρ1 H1 J ex1 S1 wj bj=>⟨bj,fun D hD => ?_⟩⟩
   have hE1:=hE.mono hS ex1
   let vals:List (Option V):=caps.map fun j=>(st[j]?).getD none
   refine⟨fun i m acc H2=>m=w.items.length-i/\i<=w.items.length/\acc.length<=i/\∃ ρ2 σ2 dn td,Ext ρ1 σ1.length H1 ρ2 σ2.length H2/\SR H2 ρ2 σ2/\(∀ j,j<σ2.length->ρ2 j≠D)/\H2 D=some (.lst acc) ∧
    RRs H2 ρ2 σ2.length dn acc/\compL f w.guard (w.items.drop i) σ2 = .ok td σ3/\dn++td=ys,⟨w.items.length,by simp,Nat.zero_le _,Nat.le_refl _,ρ1,σ1,[],ys,?_,?_,?_,upd_same,rfl,by simpa using ec,rfl⟩,?_⟩
   ·obtain⟨e1,_,_⟩:=S1.tup hD (.lst [])
    exact e1
   ·exact(S1.tup hD (.lst [])).2.1
   ·intro j hj z
    obtain⟨o,eo,_⟩:=S1.at hj
    rw[z,hD] at eo
    cases eo
   ·rintro i m acc H2 ⟨rfl,hi,hlen,ρ2,σ2,dn,td,ex2,S2,nD,hD2,hdn,hc,hys⟩
    refine⟨hD2,?_⟩
    by_cases hlt:i<w.items.length
    ·have hd:w.items.drop i=w.items[i]::w.items.drop (i+1):=List.drop_eq_getElem_cons hlt
     rw[hd] at hc
     obtain⟨hin,o,σ4,zs,ef,hc',hz⟩:=compL_cons_inv hc
     have hwj:=wj ρ2 σ2 H2 ex2 S2 hin i
     obtain⟨go,yl⟩:=hwj.1 w.items[i] (by simp[hlt])
     refine .inr ⟨go,fun x H3 y => ?_⟩
     obtain⟨ex3,S3,rx⟩:=yl x H3 y
     have hE3:RE H3 ρ2 σ2.length ε st:=(hE1.mono S1 ex2).mono S2 ex3
     have hD3:H3 D=some (.lst acc):=ex3.kp D _ hD2 fun j hj z=>nD j hj z
     have tp23:=ex3.tp S2
     have hdn3:=RRs.mono tp23 (Nat.le_refl _) ex3.ag _ hdn
     have ex13:=ex2.trans S2 ex3
     rw[← hf] at ef
     unfold compF turnC at ef
     split at ef
     rotate_left
     ·cases ef
     rename_i bs hbs
     obtain⟨cs,hcs,_,rs',vs',rfl,rfl,hrv⟩:=bx_of rx hbs
     have hEc:=hE3.caps caps hrv
     obtain⟨b,σ5,e1,e2⟩:=bind_inv ef
     refine⟨_,hcs,ρ2,_,σ2,b,σ5,hEc,S3,e1,fun ρ5 H5 ex5 S5 => ?_⟩
     have hD5:H5 D=some (.lst acc):=ex5.kp D _ hD3 fun j hj z=>nD j hj z
     have nD5:∀ j,j<σ5.length->ρ5 j≠D:=fun j hj z=>by
      by_cases hj2:j<σ2.length
      ·rw[ex5.ag j hj2] at z;exact nD j hj2 z
      ·have:=ex5.fr j (Nat.not_lt.mp hj2) hj
       rw[z,hD3] at this;cases this
     have hdn5:=RRs.mono (ex5.tp S3) ex5.le ex5.ag _ hdn3
     cases b with
     |false =>
      refine iteF ?_
      rw[if_neg Bool.false_ne_true] at e2
      cases e2
      exact⟨w.items.length-(i+1),by omega,rfl,hlt,Nat.le_succ_of_le hlen,ρ5,_,dn,zs,ex13.trans S3 ex5,S5,nD5,hD5,hdn5,hc',by rw[← hys,hz]⟩
     |true =>
      refine iteT ?_
      rw[if_pos rfl] at e2
      obtain⟨y',σ6,e3,e4⟩:=bind_inv e2
      cases e4
      refine⟨ρ5,_,σ5,y',_,hEc.mono S3 ex5,S5,e3,fun ρ6 v6 H6 ex6 S6 r6 => ?_⟩
      have hD6:H6 D=some (.lst acc):=ex6.kp D _ hD5 fun j hj z=>nD5 j hj z
      have nD6:∀ j,j<σ4.length->ρ6 j≠D:=fun j hj z=>by
       by_cases hj2:j<σ5.length
       ·rw[ex6.ag j hj2] at z;exact nD5 j hj2 z
       ·have:=ex6.fr j (Nat.not_lt.mp hj2) hj
        rw[z,hD5] at this;cases this
      have hdn6:=RRs.mono (ex6.tp S5) ex6.le ex6.ag _ hdn5
      obtain⟨S7,tp7⟩:=S6.other hD6 nD6 (.lst (acc++[v6]))
      have ex16:=(ex13.trans S3 ex5).trans S5 ex6
      have ex7:Ext ρ1 σ1.length H1 ρ6 σ4.length (upd H6 D (.lst (acc++[v6]))):=⟨ex16.le,ex16.ag,ex16.fr,fun a o ea hn=>by
       rw[upd_ne fun z=>by rw[z,hD] at ea;cases ea]
       exact ex16.kp a o ea hn,fun a ob u ea=>by
       rw[upd_ne fun z=>by rw[z,hD] at ea;cases ea]
       exact ex16.fz a ob u ea⟩
      refine⟨hD6,hlen,w.items.length-(i+1),by omega,rfl,hlt,by simp;omega,ρ6,σ4,dn++[y'],zs,ex7,S7,nD6,upd_same,?_,hc',by rw[← hys,hz];simp⟩
      exact(RRs.mono tp7 (Nat.le_refl _) (fun _ _=>rfl) _ hdn6).append ⟨v6,[],rfl,RR.mono tp7 (Nat.le_refl _) (fun _ _=>rfl) _ r6,rfl⟩
    ·have hii:i=w.items.length:=by omega
     have hd:w.items.drop i=[]:=List.drop_eq_nil_of_le (by omega)
     rw[hd] at hc
     simp only[compL] at hc
     split at hc
     ·rename_i hin
      cases hc
      rw[List.append_nil] at hys
      subst hys
      refine .inl ⟨((wj ρ2 σ3 H2 ex2 S2 hin i).2 (by omega)),?_⟩
      let ρ3:Nat->Addr:=fun j=>if j=σ3.length then D else ρ2 j
      have ag3:∀ j,j<σ3.length->ρ3 j=ρ2 j:=fun j hj=>by simp[ρ3,Nat.ne_of_lt hj]
      have e3:ρ3 σ3.length=D:=by simp[ρ3]
      have ex3:Ext ρ1 σ1.length H1 ρ3 (σ3++[mkLst dn]).length H2:=by
       refine⟨Nat.le_trans ex2.le (by simp),fun j hj=>by rw[ag3 j (Nat.lt_of_lt_of_le hj ex2.le),ex2.ag j hj],fun j h1 h2 => ?_,ex2.kp,ex2.fz⟩
       by_cases hj:j<σ3.length
       ·rw[ag3 j hj];exact ex2.fr j h1 hj
       ·have:j=σ3.length:=by simp at h2;omega
        rw[this,e3];exact hD
      have S3:SR H2 ρ3 (σ3++[mkLst dn]):=by
       refine⟨fun j c ej => ?_,fun j k hj hk ejk => ?_⟩
       ·by_cases hj:j<σ3.length
        ·rw[List.getElem?_append_left hj] at ej
         have qc:=S2.cell j c ej
         cases c with
         |lst xs=>obtain⟨vs,h1,h2⟩:=qc;exact⟨vs,by rw[ag3 j hj];exact h1,h2⟩
         |rdl xs=>obtain⟨vs,h1,h2⟩:=qc;exact⟨vs,by rw[ag3 j hj];exact h1,h2⟩
         |dct xs=>obtain⟨vs,h1,h2⟩:=qc;exact⟨vs,by rw[ag3 j hj];exact h1,h2⟩
         |rdd xs=>obtain⟨vs,ob,h1,h2⟩:=qc;exact⟨vs,ob,by rw[ag3 j hj];exact h1,h2⟩
         |dtg xs=>obtain⟨o,ys,h1,h2⟩:=qc;exact⟨o,ys,by rw[ag3 j hj];exact h1,by rw[ag3 j hj];exact h2⟩
         |rdt xs=>obtain⟨o,ys,h1,h2⟩:=qc;exact⟨o,ys,by rw[ag3 j hj];exact h1,by rw[ag3 j hj];exact h2⟩
         |rls xs=>obtain⟨vs,h1,h2⟩:=qc;exact⟨vs,by rw[ag3 j hj];exact h1,RRs.mono (fun _ _ h=>h) (Nat.le_refl _) (fun l hl=>ag3 l (Nat.lt_trans hl hj)) _ h2⟩
        ·have hjl:=SR.lt ej
         have hjj:j=σ3.length:=by simp at hjl;omega
         subst hjj
         rw[List.getElem?_append_right (Nat.le_refl _)] at ej
         simp at ej
         subst ej
         unfold mkLst
         cases c:allG dn with
         |some gs=>exact⟨acc,by rw[e3];exact hD2,RRs.ofG c hdn⟩
         |none=>exact⟨acc,by rw[e3];exact hD2,RRs.mono (fun _ _ h=>h) (Nat.le_refl _) ag3 _ hdn⟩
       ·simp at hj hk
        by_cases h1:j=σ3.length
        ·by_cases h2:k=σ3.length
         ·omega
         ·rw[h1,e3,ag3 k (by omega)] at ejk
          exact absurd ejk.symm (nD k (by omega))
        ·by_cases h2:k=σ3.length
         ·rw[h2,e3,ag3 j (by omega)] at ejk
          exact absurd ejk (nD j (by omega))
         ·rw[ag3 j (by omega),ag3 k (by omega)] at ejk
          exact S2.inj j k (by omega) (by omega) ejk
      exact q ρ3 (.ref D) H2 (ex1.trans S1 ex3) S3 ⟨by simp,by rw[e3]⟩
     ·cases hc
end
end SN
namespace SN
open PySem PySem.Spec PyProof.Rows L2 MP
variable [Wd][Cl]
section
variable {X:Cx}{P:List Fn}{W n:Nat}{cl:CallH}
end
end SN
namespace SN
open PySem PySem.Spec PyProof.Rows L2 MP
variable [Wd][Cl]
section
variable {X:Cx}{pins:List (Addr × Obj)}{σ:L2.St}{H:Hp}{s:Shared}{a:Addr}{ws:List (Key × V)}{ob:Obj}
variable {tg:Expr}
end
end SN
namespace SN
open PySem PySem.Spec PyProof.Rows L2 MP
variable [Wd][Cl]
section
variable {prog:Program}{w:World}{A:Around}{E:Value->Shared->Prop}{s:Shared}
end
section
variable {X:Cx}{pins:List (Addr × Obj)}{σ:L2.St}{H:Hp}{s:Shared}{a:Addr}{ob:Obj}{xs:List (G × Addr × Value)}
end
section
variable {P:List Fn}{W n:Nat}{X:Cx}{cl:CallH}
end
end SN
namespace SN
open PySem PySem.Spec PyProof.Rows L2 MP
variable [Wd][Cl]
section
variable {X:Cx}{pins:List (Addr × Obj)}{σ:L2.St}{H:Hp}{s:Shared}{P:List Fn}{W n:Nat}{cl:CallH}
noncomputable def Itz(K:PySem.W.Frag)(a b:Addr)(xs ys:List V):It :=
 ⟨fun i H=>SqT K H a xs/\SqT K H b ys/\i<xs.length/\i<ys.length,fun i H x H'=>∃ u v p,xs[i]?=some u/\ys[i]?=some v/\H p=none/\x = .ref p/\H'=upd H p (.tup [u,v]),fun i H=>SqT K H a xs/\SqT K H b ys/\(xs.length<=i\/ys.length<=i)⟩
theorem turn_zip{P:Program}{w:World}{K:PySem.W.Frag}{elts:List Expr}{x1:Nat}{pos:Pos}(a b z t o i1 i2:Addr)(xs ys:List V)(D:ZipApart z t o i1 i2 a b) :
 Turn P w K (.Tuple elts x1 pos) (Itz K a b xs ys) [z,t,o,i1,i2] z (fun i h=>IsZip h z t o .none/\IsPair h t (.ref i1) (.ref i2)/\(∃ u v,IsPair h o u v)/\h.IsTupleIter i1 a i/\h.IsTupleIter i2 b i) where
 mem:=by simp
 obj:=fun i h st c hc=>by
  obtain⟨g1,g2,⟨u,v,g3⟩,⟨o4,g4,_,d4⟩,⟨o5,g5,_,d5⟩⟩:=st
  simp only[List.mem_cons,List.not_mem_nil,or_false] at hc
  rcases hc with rfl|rfl|rfl|rfl|rfl
  ·exact⟨_,g1,fun v q=>by
    have q':Data.fields _=Data.cell v:=q
    cases q'⟩
  ·exact⟨_,g2,fun v q=>by
    have q':Data.seq _ _=Data.cell v:=q
    cases q'⟩
  ·exact⟨_,g3,fun v q=>by
    have q':Data.seq _ _=Data.cell v:=q
    cases q'⟩
  ·exact⟨_,g4,fun v q=>by rw[d4] at q;cases q⟩
  ·exact⟨_,g5,fun v q=>by rw[d5] at q;cases q⟩
 keep:=fun i h h' st k=>by
  obtain⟨g1,g2,⟨u,v,g3⟩,g4,g5⟩:=st
  exact⟨k z (by simp) _ g1,k t (by simp) _ g2,⟨u,v,k o (by simp) _ g3⟩,g4.at fun o e=>k i1 (by simp) o e,g5.at fun o e=>k i2 (by simp) o e⟩
 item:=by
  intro X hP hw hK hc i pins s σ H E I hf st hg
  subst hP hw hK
  obtain⟨ha,hb,hx,hy⟩:=hg
  obtain⟨its,rv,p,hz⟩:=I.tuple ha
  obtain⟨its2,rv2,p2,hz2⟩:=I.tuple hb
  obtain⟨u,hu,ru⟩:=rv.get (List.getElem?_eq_getElem hx)
  obtain⟨v,hv,rv'⟩:=rv2.get (List.getElem?_eq_getElem hy)
  obtain⟨g1,g2,g3,g4,g5⟩:=st
  refine ZT.pyNext D ⟨g1,g2,g3,g4,g5,(show s.heap.IsTuple a its.toArray from p),(show s.heap.IsTuple b its2.toArray from p2)⟩ (x:=u) (y:=v) (by simpa using hu) (by simpa using hv) fun g q1 q2 q3 q4=>⟨_,rfl,?_⟩
  refine wpAny_letOwnedTupleGo_zip (s:={s with heap:=g}) q1.zp fun g' hz' sb => ?_
  have hlt:z<s.heap.objs.size:=Heap.lt_size g1
  have kk:∀ c o',c ∉ [z,t,o,i1,i2]->s.heap.get? c=some o'->g'.get? c=some o':=fun c o' hn e=>by
   simp only[List.mem_cons,List.not_mem_nil,or_false,not_or] at hn
   exact(sb.2 c hn.1).trans (q4 c o' hn.1 hn.2.2.1 hn.2.2.2.1 hn.2.2.2.2 e)
  have ht:g'.get? s.heap.objs.size=some {cls:=.type "tuple",data:=.seq [u,v].toArray}:=(sb.2 _ (Nat.ne_of_gt hlt)).trans q2
  have I1:=turnedTL (h':=g') (t':=s.toks) (ch:=[z,t,o,i1,i2]) (xs:=[xs[i],ys[i]]) I hf kk ht (.cons ru (.cons rv' .nil)) (by show 2<=sizeLine;decide)
  obtain⟨u3,v3,g3'⟩:=q1.own
  refine⟨.ref s.heap.objs.size,_,I1,rfl,⟨xs[i],ys[i],_,List.getElem?_eq_getElem hx,List.getElem?_eq_getElem hy,I.hok.fresh (Nat.le_refl _),rfl,rfl⟩,
   ⟨hz',(sb.2 _ D.TIz).trans q1.its,⟨u3,v3,(sb.2 _ D.TOz).trans g3'⟩,q1.p1.at fun o e=>(sb.2 _ D.i1z).trans e,q1.p2.at fun o e=>(sb.2 _ D.i2z).trans e⟩,fun c hc => ?_⟩
  have hcs:c<s.heap.objs.size:=by
   obtain⟨u',v',g3''⟩:=g3
   obtain⟨o4,e4,_⟩:=g4
   obtain⟨o5,e5,_⟩:=g5
   simp only[List.mem_cons,List.not_mem_nil,or_false] at hc
   rcases hc with rfl|rfl|rfl|rfl|rfl
   ·exact Heap.lt_size g1
   ·exact Heap.lt_size g2
   ·exact Heap.lt_size g3''
   ·exact Heap.lt_size e4
   ·exact Heap.lt_size e5
  rw[upd_ne (Nat.ne_of_lt hcs)]
  exact(hf c hc).1
 done:=by
  intro X hP hw hK hc i pins s σ H E I hf st hg
  subst hP hw hK
  obtain⟨ha,hb,hen⟩:=hg
  obtain⟨its,rv,p,hz⟩:=I.tuple ha
  obtain⟨its2,rv2,p2,hz2⟩:=I.tuple hb
  obtain⟨g1,g2,g3,g4,g5⟩:=st
  have l1:=rv.length
  have l2:=rv2.length
  refine ZT.pyEnd (I.ok.hd hc) D ⟨g1,g2,g3,g4,g5,(show s.heap.IsTuple a its.toArray from p),(show s.heap.IsTuple b its2.toArray from p2)⟩ ?_ fun g q=>⟨rfl,turnedL (t':=s.toks) I hf fun c o' hn e => ?_⟩
  ·rcases hen with h|h
   ·exact .inl (by simp;omega)
   ·exact .inr (by simp;omega)
  ·simp only[List.mem_cons,List.not_mem_nil,or_false,not_or] at hn
   exact q c o' hn.1 hn.2.2.1 hn.2.2.2.1 hn.2.2.2.2 e
 self:=fun _ _ _ _ _ st h=>wpAny_pyIter_zip st.1 h
theorem boot_zip':bootBuiltins (Str.ofString "zip")=some (.type "zip"):=by decide +kernel
theorem zipR_get:∀ {xs ys:List G} {i:Nat} {x:R},(zipR xs ys)[i]?=some x->∃ a b,xs[i]?=some a/\ys[i]?=some b/\x = .g (.tup [a,b])
 | [],_,i,x,h=>by simp[zipR] at h
 |_::_,[],i,x,h=>by simp[zipR] at h
 |a::r,b::t,0,x,h=>by
  simp only[zipR,List.getElem?_cons_zero,Option.some.injEq] at h
  exact⟨a,b,rfl,rfl,h.symm⟩
 |a::r,b::t,i+1,x,h=>by
  simp only[zipR,List.getElem?_cons_succ] at h ⊢
  exact zipR_get h
theorem zipR_len:∀ (xs ys:List G),(zipR xs ys).length=min xs.length ys.length
 | [],_=>by simp[zipR]
 |_::_,[]=>by simp[zipR]
 |a::r,b::t=>by simp[zipR,zipR_len r t]
theorem wj_zip{K:PySem.W.Frag}{ρ:Nat->Addr}{σ:Store}{H:Hp}{a b:Addr}{xs ys:List G}{vs us:List V}(S:SR H ρ σ)(ha:H a=some (.tup vs))(hb:H b=some (.tup us))(h1:RGs H xs vs)(h2:RGs H ys us):WJ (Itz K a b vs us) ρ σ H ⟨zipR xs ys,none⟩:=by
 intro ρ2 σ2 H2 ex S2 _ i
 have tp:=ex.tp S
 have ha2:=tp _ _ ha
 have hb2:=tp _ _ hb
 have k1:=RGs.mono tp _ h1
 have k2:=RGs.mono tp _ h2
 refine⟨fun x hx => ?_,fun hi => ?_⟩
 ·obtain⟨g1,g2,e1,e2,rfl⟩:=zipR_get hx
  obtain⟨v1,f1,q1⟩:=k1.get e1
  obtain⟨v2,f2,q2⟩:=k2.get e2
  refine⟨⟨.of ha2,.of hb2,(List.getElem?_eq_some_iff.mp f1).1,(List.getElem?_eq_some_iff.mp f2).1⟩,fun u H3 y => ?_⟩
  obtain⟨u1,u2,p,z1,z2,hp,rfl,rfl⟩:=y
  rw[f1] at z1
  rw[f2] at z2
  cases z1
  cases z2
  obtain⟨x1,x2,tp3⟩:=S2.tup hp (.tup [v1,v2])
  exact⟨x1,x2,⟨p,[v1,v2],rfl,upd_same,⟨v1,[v2],rfl,RG.mono tp3 _ q1,⟨v2,[],rfl,RG.mono tp3 _ q2,rfl⟩⟩⟩⟩
 ·refine⟨.of ha2,.of hb2,?_⟩
  have hi:(zipR xs ys).length<=i:=hi
  rw[zipR_len] at hi
  have l1:=k1.length
  have l2:=k2.length
  rcases Nat.le_total xs.length ys.length with q|q
  ·exact .inl (by omega)
  ·exact .inr (by omega)
theorem bj_zip(K:PySem.W.Frag)(a b:Addr)(xs ys:List V):BJ K (Itz K a b xs ys):=fun X pins σ H s i hK I ⟨h1,h2,h3,h4⟩=>by
 subst hK
 obtain⟨_,_,_,hz⟩:=I.tuple h1
 exact Nat.lt_of_lt_of_le h3 hz
noncomputable def iZip(K:PySem.W.Frag)(ta:TA):TI:=fun σ H R=>ta σ H fun vs H1=>∃ a b xs ys,vs=[.ref a,.ref b]/\SqT K H1 a xs/\SqT K H1 b ys/\R (Itz K a b xs ys) H1
theorem pi_zipT{u v:Expr}{ta:TA}{p pos tpos:Pos}{elts:List Expr}{x1:Nat}(hg:Gl X (Str.ofString "zip"))(hm:X.mg (Str.ofString "zip")=none)(ha:PA X [u,v] ta)(hs1:notStar u=true)(hs2:notStar v=true) :
 PI X (.Tuple elts x1 tpos) (.Call (.Name (Str.ofString "zip") p) [u,v] [] pos) (iZip X.K ta):=by
 intro pins s σ H R I h
 refine Call_ (ld_blt I hg hm boot_zip' (PyProof.Rows.callWith_type1 (thn (ha pos pins s σ H _ I h) fun us s1 ⟨vs,H1,I1,r1,q1⟩ => ?_) (starEach_cons hs1) (backTo_plain (es:=[v]) (by simpa using hs2))))
 obtain⟨a,b,xs,ys,rfl,h1,h2,q⟩:=q1
 obtain⟨w1,w2,rfl,rw1,rw2⟩:=vals2 r1
 cases rw1
 cases rw2
 obtain⟨its,rv,p1,hz⟩:=I1.tuple h1
 obtain⟨its2,rv2,p2,hz2⟩:=I1.tuple h2
 have a1:a<s1.heap.objs.size:=by obtain⟨_,e,_⟩:=p1;exact Heap.lt_size e
 have a2:b<s1.heap.objs.size:=by obtain⟨_,e,_⟩:=p2;exact Heap.lt_size e
 refine ZT.callZip (show s1.heap.IsTuple a its.toArray from p1) (show s1.heap.IsTuple b its2.toArray from p2) fun g at0 kk => ?_
 have I2:Inv X pins σ H1 {s1 with heap:=g}:=I1.kept (t':=s1.toks) kk
 refine wpAny_pyIter_zip (s:={s1 with heap:=g}) at0.zp ?_
 have D:=zipApart_new a1 a2
 refine⟨_,[s1.heap.objs.size+4,s1.heap.objs.size+2,s1.heap.objs.size+3,s1.heap.objs.size,s1.heap.objs.size+1],_,_,H1,rfl,I2,turn_zip a b _ _ _ _ _ xs ys D,⟨at0.zp,at0.its,at0.own,at0.p1,at0.p2⟩,fun c hc => ?_,q⟩
 have hle:s1.heap.objs.size<=c:=by
  simp only[List.mem_cons,List.not_mem_nil,or_false] at hc
  rcases hc with rfl|rfl|rfl|rfl|rfl
  ·exact Nat.le_add_right _ 4
  ·exact Nat.le_add_right _ 2
  ·exact Nat.le_add_right _ 3
  ·exact Nat.le_refl _
  ·exact Nat.le_add_right _ 1
 obtain⟨f0,f1,f2,f3,f4,f5⟩:=I1.fpOk hle (I1.hok.fresh hle)
 exact⟨f0,f1,f2,f3,f4,f5⟩
theorem pi_zip{tg u v:Expr}{a b:MP.Tm}{pp pos:Pos}(am:Amb X P W n)(htg:isTup tg=true)(hg:Gl X (Str.ofString "zip"))(hs1:notStar u=true)(hs2:notStar v=true)(ha:PE X u (E1 cl a))(hb:PE X v (E1 cl b)) :
 PI X tg (.Call (.Name (Str.ofString "zip") pp) [u,v] [] pos) (TIv X.K (evW cl (.zip a b))):=by
 cases tg<;>first|(cases htg;done)|skip
 have hA:PA X [u,v] (A1 cl (.cons a (.cons b .nil))):=(PEl.cons hs1 ha (PEl.cons hs2 hb .nil)).pa
 refine PI.imp (pi_zipT hg (am.blt _ (by decide)) hA hs1 hs2) fun st H R q => ?_
 obtain⟨ρ,ε,σ,w,σ',hE,hS,ew,q⟩:=q
 rw[evW] at ew
 obtain⟨x,σ1,e1,ew⟩:=bind_inv ew
 obtain⟨y,σ2,e2,ew⟩:=bind_inv ew
 cases x with
 |ref _=>simp[wZip] at ew
 |tr _=>simp[wZip] at ew
 |g gx =>
  cases gx with
  |tup xs =>
   cases y with
   |ref _=>simp[wZip] at ew
   |tr _=>simp[wZip] at ew
   |g gy =>
    cases gy with
    |tup ys =>
     cases ew
     refine⟨ρ,ε,σ,[.g (.tup xs),.g (.tup ys)],σ',hE,hS,by rw[evs,e1];simp[evs,e2],fun ρ' vs H' ex S' rr => ?_⟩
     obtain⟨v1,v2,rfl,r1,r2⟩:=rrs2 rr
     obtain⟨a1,vs1,rfl,h1,k1⟩:=r1
     obtain⟨a2,vs2,rfl,h2,k2⟩:=r2
     exact⟨a1,a2,vs1,vs2,rfl,.of h1,.of h2,q ρ' H' _ ex S' (wj_zip S' h1 h2 k1 k2) (bj_zip _ _ _ _ _)⟩
    |_=>simp[wZip] at ew
  |_=>simp[wZip] at ew
noncomputable def gNames:List Nat->TGs
 | []=>gNil
 |i::is=>gCons (gName i) (gNames is)
theorem tg_sound{tg:Expr}{xs names:List Str}{caps:List Nat}{scope:Scope}(am:Amb X P W n)(e:tgNames tg=some xs)(ok:CompOk X xs caps names scope) :
 ∃ g:TG,(∀ C fp s H,PG (cxC X (xs++names) scope (frees X.env.cells scope.names []) C fp s H) tg g)/\(∀ y H bs,BX xs.length y H bs->bs.length=xs.length) ∧
  (∀ y H bs os vals,BX xs.length y H bs->os.length=xs.length->g y (os++vals) H fun σ' H'=>σ'=bs++vals/\H'=H):=by
 rcases tgE e with⟨x,px,rfl,rfl⟩ | ⟨x,y,px,py,k,pos,rfl,rfl⟩
 ·refine⟨gName 0,fun C fp s H=>pg_name (X:=cxC X ([x]++names) scope _ C fp s H) (i:=0) (x:=x) ok.nod rfl (.inl (lookup_relabel_local (ok.tgt x (by simp)))) (.inr (lookup_relabel_local (ok.tgt x (by simp)))),fun y H bs h => ?_,fun y H bs os vals h hl => ?_⟩
  ·cases(show bs=[some y] from h);rfl
  ·cases(show bs=[some y] from h)
   match os,hl with
   | [o],_=>exact⟨rfl,rfl⟩
 ·refine⟨gTup X.K 2 (gNames [0,1]),fun C fp s H => ?_,fun v H bs h => ?_,fun v H bs os vals h hl => ?_⟩
  ·have p0:PG (cxC X ([x,y]++names) scope (frees X.env.cells scope.names []) C fp s H) (.Name x px) (gName 0):=pg_name (i:=0) (x:=x) ok.nod rfl (.inl (lookup_relabel_local (ok.tgt x (by simp)))) (.inr (lookup_relabel_local (ok.tgt x (by simp))))
   have p1:PG (cxC X ([x,y]++names) scope (frees X.env.cells scope.names []) C fp s H) (.Name y py) (gName 1):=pg_name (i:=1) (x:=y) ok.nod rfl (.inl (lookup_relabel_local (ok.tgt y (by simp)))) (.inr (lookup_relabel_local (ok.tgt y (by simp))))
   exact pg_tup am.calm (pgs_cons p0 (pgs_cons p1 pgs_nil rfl) rfl) rfl rfl
  ·obtain⟨a,vs,rfl,ha,hl,rfl⟩:=(show ∃ a vs,v = .ref a/\H a=some (.tup vs)/\vs.length=2/\bs=vs.map some from h)
   simpa using hl
  ·obtain⟨a,vs,rfl,ha,hl2,rfl⟩:=(show ∃ a vs,v = .ref a/\H a=some (.tup vs)/\vs.length=2/\bs=vs.map some from h)
   match vs,hl2,os,hl with
   | [v1,v2],_,[o1,o2],_=>exact⟨a,[v1,v2],rfl,.of ha,rfl,v1,[v2],rfl,v2,[],rfl,rfl,rfl,rfl⟩
end
end SN
namespace SN
open PySem PySem.Spec PyProof.Rows L2 MP
variable [Wd][Cl]
section
variable {X:Cx}{P:List Fn}{W n:Nat}{cl:CallH}
noncomputable def Ite(K:PySem.W.Frag)(a:Addr)(k:Int):It :=
 ⟨fun i H=>∃ xs x,SqL K H a xs/\xs[i]?=some x,fun i H x H'=>∃ y p,(∀ xs,SqL K H a xs->xs[i]?=some y)/\H p=none/\x = .ref p/\H'=upd H p (.tup [.int (k+i),y]),fun i H=>∃ xs,SqL K H a xs/\xs.length<=i⟩
theorem turn_enum{P:Program}{w:World}{K:PySem.W.Frag}{elts:List Expr}{x1:Nat}{pos:Pos}(a e it:Addr)(k:Int)(ne:e≠it) :
 Turn P w K (.Tuple elts x1 pos) (Ite K a k) [e,it] e (fun i h=>(∃ old,IsEnum h e it (k+(i:Nat)) old)/\h.IsListIter it a i) where
 mem:=by simp
 obj:=fun i h st b hb=>by
  obtain⟨⟨old,g1⟩,o2,g2,_,d2⟩:=st
  simp only[List.mem_cons,List.not_mem_nil,or_false] at hb
  rcases hb with rfl|rfl
  ·exact⟨_,g1,fun v q=>by
    have q':Data.fields _=Data.cell v:=q
    cases q'⟩
  ·exact⟨_,g2,fun v q=>by rw[d2] at q;cases q⟩
 keep:=fun i h h' st kk=>by
  obtain⟨⟨old,g1⟩,g2⟩:=st
  exact⟨⟨old,kk e (by simp) _ g1⟩,g2.at fun o q=>kk it (by simp) o q⟩
 item:=by
  intro X hP hw hK hc i pins s σ H E I hf st hg
  subst hP hw hK
  obtain⟨xs,x,hq,hx⟩:=hg
  obtain⟨its,rv,p,hz⟩:=I.list hq
  obtain⟨u,hu,ru⟩:=rv.get hx
  obtain⟨⟨old,g1⟩,g2⟩:=st
  have l1:e<s.heap.objs.size:=Heap.lt_size g1
  have l2:it<s.heap.objs.size:=by obtain⟨_,y,_⟩:=g2;exact Heap.lt_size y
  refine EN.pyNextE g1 g2 p.isList (x:=u) (by simpa using hu) ne fun g q1 q2 q3 q4=>⟨_,rfl,?_⟩
  refine wpAny_letOwnedTupleGo_enum (s:={s with heap:=g,toks:=s.toks+1}) q1 fun g' he' sb => ?_
  have kk:∀ c o,c ∉ [e,it]->s.heap.get? c=some o->g'.get? c=some o:=fun c o hn y=>by
   simp only[List.mem_cons,List.not_mem_nil,or_false,not_or] at hn
   exact(sb.2 c hn.1).trans (q4 c o hn.1 hn.2 y)
  have ht:g'.get? s.heap.objs.size=some {cls:=.type "tuple",data:=.seq [.int (k+(i:Nat)) s.toks,u].toArray}:=(sb.2 _ (Nat.ne_of_gt l1)).trans q3
  have I1:=turnedTL (h':=g') (t':=s.toks+1) (ch:=[e,it]) (xs:=[.int (k+(i:Nat)),x]) I hf kk ht (.cons ⟨_,rfl⟩ (.cons ru .nil)) (by show 2<=sizeLine;decide)
  refine⟨.ref s.heap.objs.size,_,I1,rfl,⟨x,_,fun ys hy=>by rw[I.list_inj hy hq];exact hx,I.hok.fresh (Nat.le_refl _),rfl,rfl⟩,⟨⟨u,?_⟩,q2.at fun o y=>(sb.2 _ (Ne.symm ne)).trans y⟩,fun c hc => ?_⟩
  ·have:k+((i+1:Nat):Int)=k+(i:Nat)+1:=by omega
   rw[this]
   exact he'
  ·have hcs:c<s.heap.objs.size:=by
    simp only[List.mem_cons,List.not_mem_nil,or_false] at hc
    rcases hc with rfl|rfl
    ·exact l1
    ·exact l2
   rw[upd_ne (Nat.ne_of_lt hcs)]
   exact(hf c hc).1
 done:=by
  intro X hP hw hK hc i pins s σ H E I hf st hg
  subst hP hw hK
  obtain⟨xs,hq,hx⟩:=hg
  obtain⟨its,rv,p,hz⟩:=I.list hq
  obtain⟨⟨old,g1⟩,g2⟩:=st
  have hl:=rv.length
  exact EN.pyEndE (I.ok.hd hc) g1 g2 p.isList (by simp;omega) fun g q=>⟨rfl,turnedL (t':=s.toks) I hf fun c o hn y=>by
   simp only[List.mem_cons,List.not_mem_nil,or_false,not_or] at hn
   exact q c o hn.2 y⟩
 self:=fun _ _ _ _ _ st h=>by
  obtain⟨⟨old,g1⟩,_⟩:=st
  exact wpAny_pyIter_enum g1 h
theorem boot_enum':bootBuiltins (Str.ofString "enumerate")=some (.type "enumerate"):=by decide +kernel
theorem enumL_get:∀ {xs:List G} {k:Int} {i:Nat} {x:R},(enumL k xs)[i]?=some x->∃ a,xs[i]?=some a/\x = .g (.tup [.int (k+i),a])
 | [],k,i,x,h=>by simp[enumL] at h
 |a::r,k,0,x,h=>by
  simp only[enumL,List.getElem?_cons_zero,Option.some.injEq] at h
  exact⟨a,rfl,by rw[← h];simp⟩
 |a::r,k,i+1,x,h=>by
  simp only[enumL,List.getElem?_cons_succ] at h ⊢
  obtain⟨b,e1,e2⟩:=enumL_get h
  exact⟨b,e1,by rw[e2];congr 4;omega⟩
theorem enumL_len:∀ (xs:List G) (k:Int),(enumL k xs).length=xs.length
 | [],_=>rfl
 |a::r,k=>by simp[enumL,enumL_len r]
theorem wj_enum{K:PySem.W.Frag}{ρ:Nat->Addr}{σ:Store}{H:Hp}{j:Nat}{xs:List G}{k:Int}(hj:j<σ.length):WJ (Ite K (ρ j) k) ρ σ H ⟨enumL k xs,some (j,.lst xs)⟩:=by
 intro ρ2 σ2 H2 ex S2 hi i
 have e0:σ2[j]?=some (.lst xs):=of_decide_eq_true hi
 obtain⟨vs,h1,h2⟩:=S2.lst e0
 rw[ex.ag j hj] at h1
 refine⟨fun x hx => ?_,fun hi => ?_⟩
 ·obtain⟨g,e,rfl⟩:=enumL_get hx
  obtain⟨v,e1,e2⟩:=h2.get e
  refine⟨⟨vs,v,.of h1,e1⟩,fun u H3 y => ?_⟩
  obtain⟨y,p,hy,hp,rfl,rfl⟩:=y
  have:=hy vs (.of h1)
  rw[e1] at this
  cases this
  obtain⟨x1,x2,tp⟩:=S2.tup hp (.tup [.int (k+i),v])
  exact⟨x1,x2,⟨p,[.int (k+i),v],rfl,upd_same,⟨_,[v],rfl,rfl,⟨v,[],rfl,RG.mono tp _ e2,rfl⟩⟩⟩⟩
 ·refine⟨vs,.of h1,?_⟩
  have hi:(enumL k xs).length<=i:=hi
  rw[enumL_len] at hi
  rw[h2.length];exact hi
theorem bj_enum(K:PySem.W.Frag)(a:Addr)(k:Int):BJ K (Ite K a k):=fun X pins σ H s i hK I ⟨xs,x,h,e⟩=>by
 subst hK
 obtain⟨_,_,_,hz⟩:=I.list h
 exact Nat.lt_of_lt_of_le (List.getElem?_eq_some_iff.mp e).1 hz
theorem fits_small{k:Int}(h:small k=true):Builtin.SmallTypes.fitsIndex k=true:=by
 obtain⟨h1,h2⟩:=small_inv h
 unfold Builtin.SmallTypes.fitsIndex
 simp only[Bool.and_eq_true,decide_eq_true_eq]
 omega
theorem pi_enum{u v:Expr}{a b:MP.Tm}{pp pos kp tpos:Pos}{elts:List Expr}{x1:Nat}(am:Amb X P W n)(hg:Gl X (Str.ofString "enumerate"))(hs:notStar u=true)(ha:PE X u (E1 cl a))(hb:PE X v (E1 cl b)) :
 PI X (.Tuple elts x1 tpos) (.Call (.Name (Str.ofString "enumerate") pp) [u] [⟨some "start",v,kp⟩] pos) (TIv X.K (evW cl (.enum a b))):=by
 intro pins s σ H R I h
 obtain⟨ρ,ε,τ,w,τ',hE,hS,ew,q⟩:=h
 rw[evW] at ew
 obtain⟨x,τ1,e1,ew⟩:=bind_inv ew
 obtain⟨y,τ2,e2,ew⟩:=bind_inv ew
 obtain⟨j,k,xs,rfl,rfl,hj,hk,rfl,rfl⟩:∃ j k xs,x = .ref j/\y = .g (.int k)/\τ2[j]?=some (.lst xs)/\small k=true/\w=⟨enumL k xs,some (j,.lst xs)⟩/\τ'=τ2:=by
  cases x with
  |g _=>simp[wEnum] at ew
  |tr _=>simp[wEnum] at ew
  |ref j =>
   cases y with
   |ref _=>simp[wEnum] at ew
   |tr _=>simp[wEnum] at ew
   |g gy =>
    cases gy with
    |int k =>
     simp only[wEnum] at ew
     split at ew
     ·rename_i xs e3
      split at ew
      ·rename_i c
       simp only[Bool.and_eq_true] at c
       cases ew
       exact⟨j,k,xs,rfl,rfl,e3,c.1,rfl,rfl⟩
      ·cases ew
     ·cases ew
    |_=>simp[wEnum] at ew
 refine wpAny_Call_Name_kw (ld_blt I hg (am.blt _ (by decide)) boot_enum' ?_)
 have hA:PA X [u] (A1 cl (.cons a .nil)):=(PEl.cons hs ha .nil).pa
 refine PySem.W.callWith_of (P:=fun _=>True) ?_ (fun h _=>⟨.machine,.inr (.inl rfl),?_⟩) (evalArgs_kw2 ?_ (thn (hA pos pins s σ H (fun vs H1=>∃ v1 ρ1,vs=[v1]/\Ext ρ τ.length H ρ1 τ1.length H1/\SR H1 ρ1 τ1/\RR H1 ρ1 τ1.length (.ref j) v1) I ?_) fun us s1 ⟨vs,H1,I1,r1,q1⟩ => ?_) (starEach_cons hs))
 ·rw[backTo_plain (es:=[u]) (by simpa using hs)]
  rfl
 ·exact PySem.W.Looks.of_pure rfl
 ·rfl
 ·exact⟨ρ,ε,τ,[.ref j],τ1,hE,hS,by rw[evs,e1];simp[evs],fun ρ1 vs H1 ex1 S1 rr=>by
   obtain⟨v1,rfl,hv⟩:=rrs1 rr
   exact⟨v1,ρ1,rfl,ex1,S1,hv⟩⟩
 ·obtain⟨v1,ρ1,rfl,ex1,S1,hv1⟩:=q1
  obtain⟨w1,rfl,rw1⟩:=vals1 r1
  refine kws_cons (thn (hb pins s1 σ H1 (fun v2 H2=>∃ ρ2,v2 = .int k/\Ext ρ1 τ1.length H1 ρ2 τ'.length H2/\SR H2 ρ2 τ') I1 ⟨ρ1,ε,τ1,_,_,hE.mono hS ex1,S1,e2,fun ρ2 v2 H2 ex2 S2 rr=>⟨ρ2,rr,ex2,S2⟩⟩) fun w2 s2 ⟨v2,H2,I2,r2,ρ2,hv2,ex2,S2⟩=>kws_nil ?_)
  subst hv2
  obtain⟨t,rfl⟩:=r2
  refine⟨trivial,?_⟩
  obtain⟨hj1,rfl⟩:=hv1
  cases rw1
  have hj2:j<τ'.length:=SR.lt hj
  obtain⟨vs,h1,h2⟩:=S2.lst hj
  rw[ex2.ag j hj1] at h1
  obtain⟨its,rv,p,hz⟩:=I2.list (.of h1)
  show wpAny (model X.prog X.w) X.A (call (.type "enumerate") [.ref (ρ1 j)] [("start",.int k t)]) _ _ s2
  refine EN.callE p.isList (fits_small hk) fun g he hi kk => ?_
  have I3:Inv X pins σ H2 {s2 with heap:=g}:=I2.kept (t':=s2.toks) kk
  refine wpAny_pyIter_enum (s:={s2 with heap:=g}) he ?_
  refine⟨_,[s2.heap.objs.size+1,s2.heap.objs.size],_,_,H2,rfl,I3,turn_enum (ρ1 j) _ _ k (Nat.ne_of_gt (Nat.lt_succ_self _)),⟨⟨.none,by simpa using he⟩,hi⟩,fun c hc => ?_,?_⟩
  ·have hle:s2.heap.objs.size<=c:=by
    simp only[List.mem_cons,List.not_mem_nil,or_false] at hc
    rcases hc with rfl|rfl
    ·exact Nat.le_succ _
    ·exact Nat.le_refl _
   obtain⟨f0,f1,f2,f3,f4,f5⟩:=I2.fpOk hle (I2.hok.fresh hle)
   exact⟨f0,f1,f2,f3,f4,f5⟩
  ·have:=q ρ2 H2 (Ite X.K (ρ2 j) k) (ex1.trans S1 ex2) S2 (wj_enum hj2) (bj_enum _ _ _)
   rw[ex2.ag j hj1] at this
   exact this
end
end SN
namespace SN
open PySem PySem.Spec PyProof.Rows L2 MP
variable [Wd][Cl]
section
variable {P:List Fn}{W n:Nat}
theorem tt_and{cl:CallH}{a b:MP.Tm}(st:L2.St)(H:Hp)(Q:Bool->Hp->Prop)(t:T1 cl (.andT a b) st H Q):tAnd (T1 cl a) (T1 cl b) st H Q:=by
 obtain⟨ρ,ε,σ,c,σ',hE,hS,e,q⟩:=t
 rw[ev] at e
 obtain⟨r,σ1,e1,e2⟩:=bind_inv e
 cases r with
 |ref _=>cases e2
 |tr _=>cases e2
 |g gx =>
  cases gx with
  |bl d =>
   refine⟨ρ,ε,σ,d,σ1,hE,hS,e1,fun ρ1 H1 ex1 S1 => ?_⟩
   cases d with
   |true=>exact iteT ⟨ρ1,ε,σ1,c,σ',hE.mono hS ex1,S1,e2,fun ρ2 H2 ex2 S2=>q ρ2 H2 (ex1.trans S1 ex2) S2⟩
   |false=>cases e2;exact iteF (q ρ1 H1 ex1 S1)
  |_=>cases e2
theorem tt_or{cl:CallH}{a b:MP.Tm}(st:L2.St)(H:Hp)(Q:Bool->Hp->Prop)(t:T1 cl (.orT a b) st H Q):tOr (T1 cl a) (T1 cl b) st H Q:=by
 obtain⟨ρ,ε,σ,c,σ',hE,hS,e,q⟩:=t
 rw[ev] at e
 obtain⟨r,σ1,e1,e2⟩:=bind_inv e
 cases r with
 |ref _=>cases e2
 |tr _=>cases e2
 |g gx =>
  cases gx with
  |bl d =>
   refine⟨ρ,ε,σ,d,σ1,hE,hS,e1,fun ρ1 H1 ex1 S1 => ?_⟩
   cases d with
   |false=>exact iteF ⟨ρ1,ε,σ1,c,σ',hE.mono hS ex1,S1,e2,fun ρ2 H2 ex2 S2=>q ρ2 H2 (ex1.trans S1 ex2) S2⟩
   |true=>cases e2;exact iteT (q ρ1 H1 ex1 S1)
  |_=>cases e2
theorem te_and{cl:CallH}{a b:MP.Tm}(st:L2.St)(H:Hp)(Q:VK)(t:E1 cl (.andT a b) st H Q):tAndV (E1 cl a) (E1 cl b) st H Q:=by
 obtain⟨ρ,ε,σ,r,σ',hE,hS,e,q⟩:=t
 rw[ev] at e
 obtain⟨r1,σ1,e1,e2⟩:=bind_inv e
 cases r1 with
 |ref _=>cases e2
 |tr _=>cases e2
 |g gx =>
  cases gx with
  |bl d =>
   refine⟨ρ,ε,σ,.g (.bl d),σ1,hE,hS,e1,fun ρ1 v1 H1 ex1 S1 r1=>⟨d,r1,?_⟩⟩
   cases d with
   |true=>exact iteT ⟨ρ1,ε,σ1,r,σ',hE.mono hS ex1,S1,e2,q.after ex1 S1⟩
   |false=>cases e2;exact iteF (q ρ1 _ H1 ex1 S1 rfl)
  |_=>cases e2
theorem te_or{cl:CallH}{a b:MP.Tm}(st:L2.St)(H:Hp)(Q:VK)(t:E1 cl (.orT a b) st H Q):tOrV (E1 cl a) (E1 cl b) st H Q:=by
 obtain⟨ρ,ε,σ,r,σ',hE,hS,e,q⟩:=t
 rw[ev] at e
 obtain⟨r1,σ1,e1,e2⟩:=bind_inv e
 cases r1 with
 |ref _=>cases e2
 |tr _=>cases e2
 |g gx =>
  cases gx with
  |bl d =>
   refine⟨ρ,ε,σ,.g (.bl d),σ1,hE,hS,e1,fun ρ1 v1 H1 ex1 S1 r1=>⟨d,r1,?_⟩⟩
   cases d with
   |false=>exact iteF ⟨ρ1,ε,σ1,r,σ',hE.mono hS ex1,S1,e2,q.after ex1 S1⟩
   |true=>cases e2;exact iteT (q ρ1 _ H1 ex1 S1 rfl)
  |_=>cases e2
theorem tt_not{cl:CallH}{a:MP.Tm}(st:L2.St)(H:Hp)(Q:Bool->Hp->Prop)(hb:∀ ε σ r σ',ev cl true a ε σ = .ok r σ'->∃ b,r = .g (.bl b))(t:T1 cl (.notT a) st H Q):tNot (T1 cl a) st H Q:=by
 obtain⟨ρ,ε,σ,c,σ',hE,hS,e,q⟩:=t
 rw[ev] at e
 obtain⟨r,σ1,e1,e2⟩:=bind_inv e
 obtain⟨b,rfl⟩:=hb _ _ _ _ e1
 cases e2
 exact⟨ρ,ε,σ,b,_,hE,hS,e1,q⟩
theorem ev_true_leaf{cl:CallH}(t:MP.Tm)(hl:isLeaf t=true)(ε:MP.Env)(σ:Store)(r:R)(σ':Store)(e:ev cl true t ε σ = .ok r σ'):∃ b,r = .g (.bl b):=by
 rw[leaf_true hl] at e
 obtain⟨r1,σ1,e1,e2⟩:=bind_inv e
 simp only[truR,if_true] at e2
 obtain⟨b,e3,e4⟩:=ofO_inv e2
 cases e4
 exact⟨b,rfl⟩
theorem ev_true_bl{cl:CallH}:∀ (t:MP.Tm) (ε:MP.Env) (σ:Store) (r:R) (σ':Store),ev cl true t ε σ = .ok r σ'->∃ b,r = .g (.bl b)
 | .andT a b,ε,σ,r,σ',e=>by
  rw[ev] at e
  obtain⟨r1,σ1,e1,e2⟩:=bind_inv e
  obtain⟨c,rfl⟩:=ev_true_bl a _ _ _ _ e1
  cases c with
  |true=>exact ev_true_bl b _ _ _ _ e2
  |false=>cases e2;exact⟨_,rfl⟩
 | .orT a b,ε,σ,r,σ',e=>by
  rw[ev] at e
  obtain⟨r1,σ1,e1,e2⟩:=bind_inv e
  obtain⟨c,rfl⟩:=ev_true_bl a _ _ _ _ e1
  cases c with
  |false=>exact ev_true_bl b _ _ _ _ e2
  |true=>cases e2;exact⟨_,rfl⟩
 | .notT a,ε,σ,r,σ',e=>by
  rw[ev] at e
  obtain⟨r1,σ1,e1,e2⟩:=bind_inv e
  obtain⟨b,e3,e4⟩:=ofO_inv e2
  cases e4
  exact⟨_,rfl⟩
 | .ifT c a b,ε,σ,r,σ',e=>by
  rw[ev] at e
  obtain⟨r1,σ1,e1,e2⟩:=bind_inv e
  obtain⟨d,rfl⟩:=ev_true_bl c _ _ _ _ e1
  cases d with
  |true=>exact ev_true_bl a _ _ _ _ e2
  |false=>exact ev_true_bl b _ _ _ _ e2
 | .chain p q a b c,ε,σ,r,σ',e=>by
  rw[ev] at e
  obtain⟨x,σ1,e1,e⟩:=bind_inv e
  obtain⟨y,σ2,e2,e⟩:=bind_inv e
  obtain⟨r1,σ3,e3,e⟩:=bind_inv e
  cases r1 with
  |ref _=>cases e
  |tr _=>cases e
  |g gx =>
   cases gx with
   |bl d =>
    cases d with
    |true =>
     obtain⟨z,σ4,e4,e⟩:=bind_inv e
     obtain⟨r2,σ5,e5,e⟩:=bind_inv e
     simp only[truR,if_true] at e
     obtain⟨b,e6,e7⟩:=ofO_inv e
     cases e7
     exact⟨b,rfl⟩
    |false=>cases e;exact⟨_,rfl⟩
   |_=>cases e
 | .var i,ε,σ,r,σ',e=>ev_true_leaf _ rfl ε σ r σ' e
 | .con x,ε,σ,r,σ',e=>ev_true_leaf _ rfl ε σ r σ' e
 | .glb _ _,ε,σ,r,σ',e=>ev_true_leaf _ rfl ε σ r σ' e
 | .op _ _,ε,σ,r,σ',e=>ev_true_leaf _ rfl ε σ r σ' e
 | .meth _ _ _,ε,σ,r,σ',e=>ev_true_leaf _ rfl ε σ r σ' e
 | .call _ _,ε,σ,r,σ',e=>ev_true_leaf _ rfl ε σ r σ' e
 | .comp _ _ _ _ _,ε,σ,r,σ',e=>ev_true_leaf _ rfl ε σ r σ' e
section
variable {X:Cx}
theorem pe_notT{a:Expr}{ta:TE}{pos:Pos}(ha:PE X a ta):PE X (.UnaryOp .Not a pos) (fun σ H Q=>ta σ H fun x H1=>∃ k,TruV X.K x H1 k/\Q (.bl (!k)) H1):=by
 intro pins s σ H Q I h
 refine UnaryOp_ (thn (ha pins s σ H _ I h) fun v s1 ⟨x,H1,I1,r1,k,tk,q1⟩ => ?_)
 refine not_of (thn (tru_ok pins s1 σ H1 x v (fun b H'=>Q (.bl (!b)) H') I1 r1 ⟨k,tk,q1⟩) fun b s2 ⟨H2,I2,q2⟩ => ?_)
 exact⟨.bl (!b),H2,I2,rfl,q2⟩
theorem te_not{cl:CallH}{a:MP.Tm}(st:L2.St)(H:Hp)(Q:VK)(t:E1 cl (.notT a) st H Q):E1 cl a st H fun x H1=>∃ k,TruV X.K x H1 k/\Q (.bl (!k)) H1:=by
 obtain⟨ρ,ε,σ,r,σ',hE,hS,e,q⟩:=t
 rw[ev] at e
 obtain⟨r1,σ1,e1,e2⟩:=bind_inv e
 obtain⟨b,e3,e4⟩:=ofO_inv e2
 cases e4
 exact⟨ρ,ε,σ,r1,_,hE,hS,e1,fun ρ1 v1 H1 ex1 S1 rr=>⟨b,tru_TruV S1 rr e3,q ρ1 _ H1 ex1 S1 rfl⟩⟩
theorem pt_ifExp{c a b:Expr}{tc ta tb:TT}{pos:Pos}(hc:PT X c tc)(ha:PT X a ta)(hb:PT X b tb):PT X (.IfExp c a b pos) (fun σ H Q=>tc σ H fun d H1=>if d=true then ta σ H1 Q else tb σ H1 Q):=by
 intro pins s σ H Q I h
 unfold PySem.isTrue
 refine wpAny_bind (thn (hc pins s σ H _ I h) fun d s1 ⟨H1,I1,q1⟩ => ?_)
 cases d with
 |true=>exact ha pins s1 σ H1 Q I1 q1
 |false=>exact hb pins s1 σ H1 Q I1 q1
theorem folded{iter:Expr}{env:PySem.Env}(h:notSet iter=true):∀ x,foldedSetIterable iter env x=pure x:=by
 intro x
 cases iter<;>first|rfl|(cases h;done)
theorem un_neg1{i:Int}{k:Nat}{pos pos':Pos}:PE X (.UnaryOp .USub (.Constant (.int i) k pos) pos') (tC (.int (-i))):=PE.imp (pe_un un_neg pe_int) fun st H Q q=>⟨i,rfl,q⟩
end
theorem con_lift{cl:CallH}{g:G}{v:V}(hv:∀ H,RG H g v)(st:L2.St)(H:Hp)(Q:VK)(t:E1 cl (.con g) st H Q):tC v st H Q:=by
 obtain⟨ρ,ε,σ,r,σ',hE,hS,e,q⟩:=t
 rw[ev] at e
 cases e
 exact q ρ v H (Ext.refl _ _ _) hS (hv H)
theorem compB_ok{X:Cx}{xs:List Str}{caps:List Nat}{scope:Scope}(h:compB X.N X.env.scope xs caps scope=true):CompOk X xs caps (capNames X.N caps) scope:=by
 unfold compB at h
 simp only[Bool.and_eq_true,decide_eq_true_eq,List.all_eq_true] at h
 obtain⟨⟨⟨⟨⟨⟨h1,h2⟩,h3⟩,h4⟩,h5⟩,h6⟩,h7⟩:=h
 refine⟨h1,h2,h3,h4,h5,h6,by simp[capNames],fun j y e => ?_⟩
 unfold capNames at e
 rw[List.getElem?_map] at e
 cases c:caps[j]? with
 |none=>rw[c] at e;cases e
 |some i =>
  rw[c] at e
  have h7:=h7 i (List.mem_of_getElem? c)
  cases d:X.N[i]? with
  |none=>rw[d] at h7;cases h7
  |some z =>
   rw[d] at h7
   simp only[Option.map_some,d,Option.getD_some,Option.some.injEq] at e
   subst e
   exact⟨i,rfl,d,of_decide_eq_true h7⟩
theorem both_call{X:Cx}(am:Amb X P W n){f:String}{x:Str}{args:List Expr}{pp pos:Pos}{as:Tms}(hx:x=Str.ofString f)(hg:Gl X x)(hd:(x == ("__debug__":Str))=false)(h:PEl X (run P W n) args as) :
 Both X (run P W n) (.call f as) (.Call (.Name x pp) args [] pos):=by
 have lf:∀ {st:L2.St} {H:Hp} {Q:VK},E1 (run P W n) (.call f as) st H Q->(A1 (run P W n) as) st H fun vs H1=>SpOf P W n f (vs++[]) H1 Q E0:=fun {st H Q} t=>by
  obtain⟨ρ,ε,σ,r,σ',hE,hS,ee,q⟩:=t
  obtain⟨xs,σ1,e1,e2⟩:=call_inv ee
  refine⟨ρ,ε,σ,xs,σ1,hE,hS,e1,fun ρ1 vs H1 ex1 S1 r1 => ?_⟩
  show SpOf P W n f (vs++[]) H1 Q E0
  rw[List.append_nil]
  exact⟨ρ1,σ1,xs,r1,S1,.inl ⟨r,σ',e2,q.after ex1 S1⟩⟩
 cases e:look P f with
 |none =>
  refine both_of rfl rfl (pe_false fun st H Q ⟨ρ,ε,σ,r,σ',hE,hS,ee,q⟩ => ?_)
  obtain⟨xs,σ1,e1,e2⟩:=call_inv ee
  cases n with
  |zero=>cases e2
  |succ n=>rw[MP.run,e] at e2;cases e2
 |some d =>
  obtain⟨fa,fd,ps,hm,hk,hb,F⟩:=am.fns f d e
  subst hx
  cases args with
  |cons a args =>
   have hs':notStar a=true/\args.all notStar=true:=by simpa using h.stars
   exact both_of rfl rfl (PE.imp (pe_call F am.room hg hm hk hb .nil pass1 h.pa hd (starEach_cons hs'.1) (backTo_plain hs'.2)) fun st H Q t=>lf t)
  |nil =>
   cases h
   refine both_of rfl rfl (PE.imp (pe_call0 F am.room hg hm hk hb .nil pass1 hd) fun st H Q t => ?_)
   obtain⟨ρ,ε,σ,r,σ',hE,hS,ee,q⟩:=t
   obtain⟨xs,σ1,e1,e2⟩:=call_inv ee
   obtain⟨rfl,rfl⟩:=evs_nil_inv e1
   exact⟨ρ,_,[],rfl,hS,.inl ⟨r,σ',e2,q⟩⟩
theorem var_lift{cl:CallH}{i:Nat}(st:L2.St)(H:Hp)(Q:VK)(t:E1 cl (.var i) st H Q):tVar i st H Q:=by
 obtain⟨ρ,ε,σ,r,σ',hE,hS,e,q⟩:=t
 rw[ev] at e
 split at e
 ·rename_i r' e1
  cases e
  obtain⟨v,e2,e3⟩:=hE.val i _ e1
  exact⟨v,e2,q ρ v H (Ext.refl _ _ _) hS e3⟩
 ·cases e
theorem if_liftE{cl:CallH}{c a b:MP.Tm}(st:L2.St)(H:Hp)(Q:VK)(t:E1 cl (.ifT c a b) st H Q):tIf (T1 cl c) (E1 cl a) (E1 cl b) st H Q:=by
 obtain⟨ρ,ε,σ,r,σ',hE,hS,e,q⟩:=t
 rw[ev] at e
 obtain⟨r1,σ1,e1,e2⟩:=bind_inv e
 obtain⟨d,rfl⟩:=ev_true_bl c _ _ _ _ e1
 refine⟨ρ,ε,σ,d,σ1,hE,hS,e1,fun ρ1 H1 ex1 S1 => ?_⟩
 cases d with
 |true=>exact iteT ⟨ρ1,ε,σ1,r,σ',hE.mono hS ex1,S1,e2,q.after ex1 S1⟩
 |false=>exact iteF ⟨ρ1,ε,σ1,r,σ',hE.mono hS ex1,S1,e2,q.after ex1 S1⟩
theorem if_liftT{cl:CallH}{c a b:MP.Tm}(st:L2.St)(H:Hp)(Q:Bool->Hp->Prop)(t:T1 cl (.ifT c a b) st H Q):T1 cl c st H fun d H1=>if d=true then T1 cl a st H1 Q else T1 cl b st H1 Q:=by
 obtain⟨ρ,ε,σ,r,σ',hE,hS,e,q⟩:=t
 rw[ev] at e
 obtain⟨r1,σ1,e1,e2⟩:=bind_inv e
 obtain⟨d,rfl⟩:=ev_true_bl c _ _ _ _ e1
 refine⟨ρ,ε,σ,d,σ1,hE,hS,e1,fun ρ1 H1 ex1 S1 => ?_⟩
 cases d with
 |true=>exact iteT ⟨ρ1,ε,σ1,r,σ',hE.mono hS ex1,S1,e2,fun ρ2 H2 ex2 S2=>q ρ2 H2 (ex1.trans S1 ex2) S2⟩
 |false=>exact iteF ⟨ρ1,ε,σ1,r,σ',hE.mono hS ex1,S1,e2,fun ρ2 H2 ex2 S2=>q ρ2 H2 (ex1.trans S1 ex2) S2⟩
theorem pw_of{X:Cx}{op:BoolOp}{vs:List Expr}{pos:Pos}{t:TT}(h:PT X (.BoolOp op vs pos) t):PW X (.BoolOp op vs pos) t:=fun whole pins s σ H Q I q=>by
 have:=h pins s σ H Q I q
 unfold PySem.isTrue at this ⊢
 exact this
theorem vis_of{sc:Scope}{x:Str}(h:visB sc x=true):Vis sc x:=by
 unfold visB at h
 unfold Vis
 split at h<;>first|(cases h;done)|(rename_i e;rw[e];simp)
theorem con_sound{X:Cx}{cl:CallH}{g:G}{e:Expr}(h:cst (vw e)=some g)(ho:okC g=true):Both X cl (.con g) e:=by
 unfold cst at h
 cases c:vCon (vw e) with
 |some k =>
  rw[c] at h
  obtain⟨n,p,rfl⟩:=conE c
  cases k<;>first|(cases h;done)|cases h
  ·exact both_of rfl rfl (PE.imp pe_non fun st H Q t=>by refine con_lift ?_ st H Q t;intro _;rfl)
  ·exact both_of rfl rfl (PE.imp pe_bl fun st H Q t=>by refine con_lift ?_ st H Q t;intro _;rfl)
  ·exact both_of rfl rfl (PE.imp pe_int fun st H Q t=>by refine con_lift ?_ st H Q t;intro _;rfl)
  ·exact both_of rfl rfl (PE.imp pe_str fun st H Q t=>by refine con_lift ?_ st H Q t;intro _;exact⟨by simp[sOf],ho⟩)
 |none =>
  rw[c] at h
  obtain⟨a,h1,h2⟩:=Option.bind_eq_some_iff.mp h
  obtain⟨k,h3,h4⟩:=Option.bind_eq_some_iff.mp h2
  obtain⟨p,rfl⟩:=unE h1
  obtain⟨n,q,rfl⟩:=conE h3
  cases k<;>first|(cases h4;done)|cases h4
  exact both_of rfl rfl (PE.imp un_neg1 fun st H Q t=>by refine con_lift ?_ st H Q t;intro _;rfl)
theorem and2{a b:Bool}(h:(a && b)=true):a=true/\b=true:=by rwa [Bool.and_eq_true] at h
section
variable {X:Cx}{cl:CallH}{a b:MP.Tm}{e x y:Expr}
theorem and_sound(h0:vBool .And (vw e)=some (x,y))(ha:Both X cl a x)(hb:Both X cl b y):Both X cl (.andT a b) e:=by
 obtain⟨p,h0 | ⟨u,v,r,h1,h0⟩⟩:=boolE h0
 ·subst h0
  exact⟨PE.imp (pe_and ha.1 (pe_one hb.1)) fun st H Q t=>te_and st H Q t,PT.imp (pw_and ha.2 (pw_and1 hb.2)).pt fun st H Q t=>tt_and st H Q t⟩
 ·subst h0 h1
  exact⟨PE.imp (pe_and ha.1 hb.1) fun st H Q t=>te_and st H Q t,PT.imp (pw_and ha.2 (pw_of hb.2)).pt fun st H Q t=>tt_and st H Q t⟩
theorem or_sound(h0:vBool .Or (vw e)=some (x,y))(ha:Both X cl a x)(hb:Both X cl b y):Both X cl (.orT a b) e:=by
 obtain⟨p,h0 | ⟨u,v,r,h1,h0⟩⟩:=boolE h0
 ·subst h0
  exact⟨PE.imp (pe_or ha.1 (pe_one hb.1)) fun st H Q t=>te_or st H Q t,PT.imp (pw_or ha.2 (pw_or1 hb.2)).pt fun st H Q t=>tt_or st H Q t⟩
 ·subst h0 h1
  exact⟨PE.imp (pe_or ha.1 hb.1) fun st H Q t=>te_or st H Q t,PT.imp (pw_or ha.2 (pw_of hb.2)).pt fun st H Q t=>tt_or st H Q t⟩
theorem not_sound{p:Pos}(ha:Both X cl a x):Both X cl (.notT a) (.UnaryOp .Not x p):=⟨PE.imp (pe_notT ha.1) fun st H Q t=>te_not (X:=X) st H Q t,PT.imp (pt_not ha.2) fun st H Q t=>tt_not st H Q (ev_true_bl a) t⟩
theorem if_sound{c:MP.Tm}{t:Expr}{p:Pos}(hc:Both X cl c t)(ha:Both X cl a x)(hb:Both X cl b y):Both X cl (.ifT c a b) (.IfExp t x y p) :=
 ⟨PE.imp (pe_ifExp hc.2 ha.1 hb.1) fun st H Q t=>if_liftE st H Q t,PT.imp (pt_ifExp hc.2 ha.2 hb.2) fun st H Q t=>if_liftT st H Q t⟩
theorem comp_sound{caps:List Nat}{s:Src}{conds:Tms}{elt:MP.Tm}{xs:List Str}{tg iter el:Expr}{ifs:List Expr}{scope:Scope}{p:Pos}(am:Amb X P W n)(ok:CompOk X xs caps (capNames X.N caps) scope)(hx:tgNames tg=some xs)(hi:notSet iter=true)(hW:PI X tg iter (TIv X.K (evW cl s)))
 (hC:∀ C fp s H,PCs (cxC X (xs++capNames X.N caps) scope (frees X.env.cells scope.names []) C fp s H) ifs (TCv (evC cl conds))) (hE:∀ C fp s H,PE (cxC X (xs++capNames X.N caps) scope (frees X.env.cells scope.names []) C fp s H) el (E1 cl elt)) :
 Both X cl (.comp xs.length caps s conds elt) (.ListComp el [⟨tg,iter,ifs,0⟩] scope p):=by
 obtain⟨g,hG,hBl,hBg⟩:=tg_sound (X:=X) am hx ok
 exact both_of rfl rfl (PE.imp (pe_comp am.calm ok hW hG hBl hBg hC hE (folded hi)) fun st H Q t=>comp_lift st H Q t)
theorem leP_eq{p:Prim}(h:leP p=true):p = .le:=by cases p<;>first|rfl|(cases h;done)
theorem chain_inv{a b c:MP.Tm}{t:Bool}{ε:MP.Env}{σ σ':Store}{r:R}(h:ev cl t (.chain .le .le a b c) ε σ = .ok r σ'):∃ x σ1 y σ2 d σ3,ev cl false a ε σ = .ok x σ1/\ev cl false b ε σ1 = .ok y σ2/\prim .le [x,y] σ2 = .ok (.g (.bl d)) σ3 ∧
 ((d=false/\r = .g (.bl false)/\σ'=σ3)\/(d=true/\∃ z σ4 k,ev cl false c ε σ3 = .ok z σ4/\prim .le [y,z] σ4 = .ok (.g (.bl k)) σ'/\r = .g (.bl k))):=by
 rw[ev] at h
 obtain⟨x,σ1,e1,h⟩:=bind_inv h
 obtain⟨y,σ2,e2,h⟩:=bind_inv h
 obtain⟨r1,σ3,e3,h⟩:=bind_inv h
 obtain⟨d,rfl⟩:=cmp_bl rfl _ _ _ _ e3
 refine⟨x,σ1,y,σ2,d,σ3,e1,e2,e3,?_⟩
 cases d with
 |false=>cases h;exact .inl ⟨rfl,rfl,rfl⟩
 |true =>
  obtain⟨z,σ4,e4,h⟩:=bind_inv h
  obtain⟨r2,σ5,e5,h⟩:=bind_inv h
  obtain⟨k,rfl⟩:=cmp_bl rfl _ _ _ _ e5
  have:r = .g (.bl k)/\σ'=σ5:=by cases t<;>(cases h;exact⟨rfl,rfl⟩)
  obtain⟨rfl,rfl⟩:=this
  exact .inr ⟨rfl,z,σ4,k,e4,e5,rfl⟩
theorem chain_go{a b c:MP.Tm}{t:Bool}{st:L2.St}{ρ:Nat->Addr}{ε:MP.Env}{σ σ':Store}{r:R}{H:Hp}{Q:VK}(hE:RE H ρ σ.length ε st)(hS:SR H ρ σ)(h:ev cl t (.chain .le .le a b c) ε σ = .ok r σ')(q:Fin ρ σ.length H r σ' Q) :
 tChain (rI0 fun i j=>.bl (decide (i<=j))) (rI0 fun i j=>.bl (decide (i<=j))) (E1 cl a) (E1 cl b) (E1 cl c) st H Q:=by
 obtain⟨x,σ1,y,σ2,d,σ3,e1,e2,e3,h⟩:=chain_inv h
 refine⟨ρ,ε,σ,x,σ1,hE,hS,e1,fun ρ1 v1 H1 ex1 S1 r1 => ?_⟩
 have hE1:=hE.mono hS ex1
 refine⟨ρ1,ε,σ1,y,σ2,hE1,S1,e2,fun ρ2 v2 H2 ex2 S2 r2 => ?_⟩
 have hE2:=hE1.mono S1 ex2
 refine ok_le ρ2 σ2 H2 x y v1 v2 _ _ _ S2 (RR.mono (ex2.tp S1) ex2.le ex2.ag _ r1) r2 e3 fun ρ3 v3 H3 ex3 S3 r3 => ?_
 cases r3
 refine⟨d,rfl,?_⟩
 have ex:=(ex1.trans S1 ex2).trans S2 ex3
 rcases h with⟨rfl,rfl,rfl⟩ | ⟨rfl,z,σ4,k,e4,e5,rfl⟩
 ·exact iteF (q ρ3 _ H3 ex S3 rfl)
 ·refine iteT ⟨ρ3,ε,σ3,z,σ4,hE2.mono S2 ex3,S3,e4,fun ρ4 v4 H4 ex4 S4 r4 => ?_⟩
  have ex34:=ex3.trans S3 ex4
  exact ok_le ρ4 σ4 H4 y z v2 v4 _ _ _ S4 (RR.mono (ex34.tp S2) ex34.le ex34.ag _ r2) r4 e5 (q.after (ex.trans S3 ex4) S4)
theorem chain_sound{a b c:MP.Tm}{x y z:Expr}{pos:Pos}(hs:notSet z=true)(ha:PE X x (E1 cl a))(hb:PE X y (E1 cl b))(hc:PE X z (E1 cl c)):Both X cl (.chain .le .le a b c) (.Compare x [.LtE,.LtE] [y,z] pos):=by
 have hm:lastMarks [CmpOp.LtE,CmpOp.LtE] [y,z]=false:=by cases z<;>first|rfl|(cases hs;done)
 refine⟨PE.imp (pe_chain op_le op_le ha hb hc hm) fun st H Q t => ?_,PT.imp (pt_chain op_le op_le ha hb hc hm) fun st H Q t => ?_⟩
 ·obtain⟨ρ,ε,σ,r,σ',hE,hS,e,q⟩:=t
  exact chain_go hE hS e q
 ·obtain⟨ρ,ε,σ,b,σ',hE,hS,e,q⟩:=t
  exact chain_go hE hS e fun ρ' v H' ex S' rr=>⟨b,rr,q ρ' H' ex S'⟩
end
mutual
theorem soundE:∀ (t:MP.Tm) (X:Cx) (e:Expr),Amb X P W n->chkE X.N X.env.scope t e=true->Both X (run P W n) t e
 | .var i,X,e,am,h=>by
  obtain⟨x,h0,h⟩:=whenS_inv h
  simp only[Bool.and_eq_true,decide_eq_true_eq] at h
  obtain⟨h1,h2,h3,h4⟩:=h
  obtain⟨p,rfl⟩:=nameE h0
  exact both_of rfl rfl (PE.imp (pe_var h1 (vis_of h2) (beq_eq_false_iff_ne.mpr h3) (beq_eq_false_iff_ne.mpr h4)) fun st H Q t=>var_lift st H Q t)
 | .con g,X,e,am,h=>by
  have h:=and2 h
  exact con_sound (of_decide_eq_true h.1) h.2
 | .glb _ _,X,e,am,h=>by cases h
 | .op p as,X,e,am,h=>by
  obtain⟨es,h0,h⟩:=whenS_inv h
  exact op_sound am h0 (soundAs as X es am h).1
 | .meth p a as,X,e,am,h=>by
  obtain⟨q,h0,h⟩:=whenS_inv h
  have h:=and2 h
  exact meth_sound am h0 (soundE a X q.1 am h.1).1 (soundAs as X q.2 am h.2).1
 | .call f as,X,e,am,h=>by
  obtain⟨⟨x,args⟩,h0,h⟩:=whenS_inv h
  simp only[Bool.and_eq_true,decide_eq_true_eq] at h
  obtain⟨h1,h2,h3,h4⟩:=h
  obtain⟨pp,p,rfl⟩:=callNE h0
  exact both_call am (isS_eq h1) (gl_eq h2) (beq_eq_false_iff_ne.mpr h3) (soundAs as X _ am h4).1
 | .andT a b,X,e,am,h=>by
  obtain⟨⟨x,y⟩,h0,h⟩:=whenS_inv h
  have h:=and2 h
  exact and_sound h0 (soundE a X x am h.1) (soundE b X y am h.2)
 | .orT a b,X,e,am,h=>by
  obtain⟨⟨x,y⟩,h0,h⟩:=whenS_inv h
  have h:=and2 h
  exact or_sound h0 (soundE a X x am h.1) (soundE b X y am h.2)
 | .notT a,X,e,am,h=>by
  obtain⟨x,h0,h⟩:=whenS_inv h
  obtain⟨p,rfl⟩:=unE h0
  exact not_sound (soundE a X x am h)
 | .ifT c a b,X,e,am,h=>by
  obtain⟨⟨t,x,y⟩,h0,h⟩:=whenS_inv h
  obtain⟨q1,h⟩:=and2 h
  obtain⟨q2,q3⟩:=and2 h
  obtain⟨p,rfl⟩:=ifE h0
  exact if_sound (soundE c X t am q1) (soundE a X x am q2) (soundE b X y am q3)
 | .chain p q a b c,X,e,am,h=>by
  obtain⟨⟨x,y,z⟩,h0,h⟩:=whenS_inv h
  obtain⟨p1,h⟩:=and2 h
  obtain⟨p2,h⟩:=and2 h
  obtain⟨p3,h⟩:=and2 h
  obtain⟨h1,h⟩:=and2 h
  obtain⟨h2,h3⟩:=and2 h
  obtain⟨pos,rfl⟩:=chE h0
  cases leP_eq p1
  cases leP_eq p2
  exact chain_sound p3 (soundE a X x am h1).1 (soundE b X y am h2).1 (soundE c X z am h3).1
 | .comp k caps s conds elt,X,e,am,h=>by
  obtain⟨⟨el,⟨tg,iter,ifs,asy⟩,scope,p⟩,h0,h⟩:=whenS_inv h
  obtain⟨xs,hx,h⟩:=whenS_inv h
  obtain⟨h1,h⟩:=and2 h
  obtain⟨h2,h⟩:=and2 h
  obtain⟨h3,h⟩:=and2 h
  obtain⟨h4,h⟩:=and2 h
  obtain⟨h5,h⟩:=and2 h
  obtain⟨h6,h7⟩:=and2 h
  cases of_decide_eq_true h1
  cases of_decide_eq_true h2
  cases compE h0
  have ok:=compB_ok h3
  exact comp_sound am ok hx h4 (soundW s X _ _ _ am rfl h5) (fun C fp s H=>(soundAs conds _ _ (am.comp ok.nod _ _ C fp s H) h6).2.pcs) fun C fp s H=>(soundE elt _ _ (am.comp ok.nod _ _ C fp s H) h7).1
theorem soundAs:∀ (as:Tms) (X:Cx) (es:List Expr),Amb X P W n->chkAs X.N X.env.scope as es=true->PEl X (run P W n) es as/\PTl X (run P W n) es as
 | .nil,X,es,am,h=>by
  cases es with
  |nil=>exact⟨.nil,.nil⟩
  |cons _ _=>cases h
 | .cons a as,X,es,am,h=>by
  cases es with
  |nil=>cases h
  |cons e r =>
   obtain⟨h1,h⟩:=and2 (show(notStar e && (chkE X.N X.env.scope a e && chkAs X.N X.env.scope as r))=true from h)
   obtain⟨h2,h3⟩:=and2 h
   have ha:=soundE a X e am h2
   have hr:=soundAs as X r am h3
   exact⟨.cons h1 ha.1 hr.1,.cons ha.2 hr.2⟩
theorem soundW:∀ (s:Src) (X:Cx) (tup:Bool) (tg e:Expr),Amb X P W n->isTup tg=tup->chkW X.N X.env.scope tup s e=true->PI X tg e (TIv X.K (evW (run P W n) s))
 | .over t,X,tup,tg,e,am,htg,h=>pi_over (soundE t X e am h).1
 | .range1 t,X,tup,tg,e,am,htg,h=>by
  obtain⟨es,h0,h⟩:=whenS_inv h
  obtain⟨a,h1,h⟩:=whenS_inv h
  obtain⟨h2,h3⟩:=and2 h
  obtain⟨a',pp,p,rfl,hg,rfl⟩:=bltE h0
  cases l1_inv h1
  exact pi_rng am (gl_eq hg) h2 (soundE t X a am h3).1
 | .range2 _ _,X,tup,tg,e,am,htg,h=>by cases h
 | .items _,X,tup,tg,e,am,htg,h=>by cases h
 | .enum _ _,X,tup,tg,e,am,htg,h=>by cases h
 | .itemsT _,X,tup,tg,e,am,htg,h=>by cases h
 | .zip a b,X,tup,tg,e,am,htg,h=>by
  obtain⟨h0,h⟩:=and2 h
  subst h0
  obtain⟨⟨x,as⟩,h1,h⟩:=whenS_inv h
  obtain⟨⟨u,v⟩,h2,h⟩:=whenS_inv h
  obtain⟨h3,h⟩:=and2 h
  obtain⟨h4,h⟩:=and2 h
  obtain⟨h5,h⟩:=and2 h
  obtain⟨h6,h⟩:=and2 h
  obtain⟨h7,h8⟩:=and2 h
  obtain⟨pp,p,rfl⟩:=callNE h1
  cases l2_inv h2
  cases isS_eq h3
  exact pi_zip am htg (gl_eq h4) h5 h6 (soundE a X u am h7).1 (soundE b X v am h8).1
 | .keys _,X,tup,tg,e,am,htg,h=>by cases h
 | .chars _,X,tup,tg,e,am,htg,h=>by cases h
end
end
end SN
namespace SN
open PySem PySem.Spec PyProof.Rows L2
section
open PySem.W
variable {prog:Program}{w:World}{A:Around}{E:Value->Shared->Prop}{s:Shared}{K:Frag}{x C D:Addr}{ox:Obj}
noncomputable def clsO(K:Frag)(C:Addr):Bool:=(clsIn K C).isSome
noncomputable def bmVE:List Value:=[.type "ValueError",.type "Exception",.type "BaseException",.type "object"]
structure XIn(K:Frag)(C:Addr):Prop where
 exc:excIn K C bmVE "ValueError.__new__"=true
 ga:findIn K (.ref C) "__getattribute__"=some (some (.builtin "BaseException.__getattribute__"))
 gt:findIn K (.ref C) "__getattr__"=some none
 ca:findIn K (.ref C) "__class__"=some (some (.builtin "object.__class__"))
 sp:specialIn K (.builtin "object.__class__") "__get__"=some (some (.builtin "getset_descriptor.__get__"))
 tk:takesIn K (.builtin "object.__class__")=some true
 mo:mroIn K C (.type "object")=some true
 mb:mroIn K C (.type "BaseException")=some true
 ty:typeIn K (.ref C)=some (.type "type")
 co:clsO K C=true
theorem XIn.found(x:XIn K C):findObj K C none "__class__"=some (.bind (.builtin "getset_descriptor.__get__") (.builtin "object.__class__")):=by
 obtain⟨cd,hc⟩:=Option.isSome_iff_exists.mp (show(clsIn K C).isSome=true from x.co)
 unfold findObj
 rw[hc,Option.bind_some,x.ca,Option.bind_some]
 simp[x.sp,x.tk]
noncomputable def adr(K:Frag)(c:String):Addr:=match nsIn K mainGlobals (Str.ofString c) with
 |some (some (.ref C))=>C
 |_=>0
end
variable [Wd][Cl]
structure ClsOk(K:PySem.W.Frag)(mg:Str->Option Value)(c:String):Prop where
 at_:mg (Str.ofString c)=some (.ref (adr K c))
 x:XIn K (adr K c)
 up:∀ d∈Cl.cls,PySem.W.mroIn K (adr K c) (.ref (adr K d))=some (MP.isA c d)/\PySem.W.kitOne K (.ref (adr K c)) (.ref (adr K d))=some (MP.isA c d)
 ve:PySem.W.kitOne K (.ref (adr K c)) (.type "ValueError")=some (MP.isA c "ValueError")
section
variable {X:Cx}{pins:List (Addr × Obj)}{σ:L2.St}{H:Hp}{s:Shared}{Ξ:String->Hp->Prop}
theorem XO.mono{h:Heap}{g g':Heap}{e:Addr}{C:Value}{tb:Bool}(x:XO h H g e C tb)(m:∀ b,g.get? b=none->g'.get? b=none):XO h H g' e C tb:=by
 obtain⟨oe,ws,v,x1,x2,x3,x4,x5,x6,x7,x8⟩:=x
 refine⟨oe,ws,v,x1,x2,x3,m e x4,x5,x6,?_,x8⟩
 rcases x7 with x7 | ⟨T,oT,ts,fl,y1,y2,y3,y4⟩
 ·exact .inl x7
 ·exact .inr ⟨T,oT,ts,fl,y1,y2,m T y3,y4⟩
noncomputable def XEs(X:Cx)(pins:List (Addr × Obj))(σ:L2.St)(Ξ:String->Hp->Prop):Value->Shared->Prop:=fun v s'=>∃ e c C H tb g,v = .ref e/\c∈Cl.cls/\X.mg (Str.ofString c)=some (.ref C)/\Inv X pins σ H s'/\XO s'.heap H g e (.ref C) tb/\(Old X pins g/\∀ b o,g.get? b=some o->∃ o',s'.heap.get? b=some o')/\Ξ c H
theorem unpin(I:Inv X pins σ H s):Inv X [] σ H s:=I.pins_of fun p hp=>by simp at hp
theorem XEs.toE{v:Value}{s':Shared}(h:XEs X pins σ Ξ v s'):XE X Ξ v s':=by
 obtain⟨e,c,C,H,tb,g,h1,h2,h3,h4,h5,h6,h7⟩:=h
 exact⟨e,c,C,σ,H,tb,h1,h2,h3,unpin h4,h5.mono fun b n=>(h6.1 b n).1,h7⟩
noncomputable def PSx(X:Cx)(Ξ:String->Hp->Prop)(st:Stmt)(t:TS):Prop:=∀ (pins:List (Addr × Obj)) (s:Shared) (σ:L2.St) (H:Hp) (D:Ends),Inv X pins σ H s->t D σ H->wpAny (model X.prog X.w) X.A (exec st X.env) (SP X pins D) (XEs X pins σ Ξ) s
theorem PSx.ps{st:Stmt}{t:TS}(h:PSx X Ξ st t)(hx:∀ v s',XE X Ξ v s'->X.xe v s'):PS X st t:=fun pins s σ H D I q=>wpAny_mono (h pins s σ H D I q) (fun _ _ z=>z) fun v s' z=>hx v s' z.toE
noncomputable abbrev cxH(X:Cx)(e:Addr)(oe:Obj):Cx:={X with A:=X.A.mark (some (.ref e)),calm:=false,pn:=[(e,oe)],xe:=fun _ _=>False}
theorem inH{e:Addr}{oe:Obj}(B:Bdy X)(I:Inv X pins σ H s)(hp:s.heap.get? e=some oe/\H e=none/\e≠X.env.locals/\e∉X.fs/\∀ v,oe.data ≠ .cell v):Inv (cxH X e oe) pins σ H s:=by
 have ok:=I.ok
 refine⟨⟨ok.mod,ok.kind,ok.glob,ok.blt,ok.above,ok.inj,ok.has,ok.cab,fun z=>(by cases z),ok.frames,ok.stk,ok.exf,ok.bs,ok.bsz,ok.noex,ok.exfs,ok.funs,ok.frf⟩,I.os,I.bare,I.base,I.loc,I.cell,I.free,I.freeC,fun p hq => ?_,I.hok,I.len⟩
 rcases List.mem_append.mp hq with z|z
 ·cases List.mem_singleton.mp z
  exact hp
 ·exact I.pin p (List.mem_append_right _ z)
end
end SN
namespace SN
open PySem PySem.Spec PyProof.Rows L2 MP
variable [Wd][Cl]
class Xw where
 Ξ:String->Hp->Prop
variable [Xw]
noncomputable def FinS(ρ:Nat->Addr)(n:Nat)(H:Hp)(o:Out)(σ':Store)(D:Ends):Prop:=match o with
 | .next ε'=>∀ ρ' st' H',Ext ρ n H ρ' σ'.length H'->SR H' ρ' σ'->RE H' ρ' σ'.length ε' st'->D.nx st' H'
 | .brk ε'=>∀ ρ' st' H',Ext ρ n H ρ' σ'.length H'->SR H' ρ' σ'->RE H' ρ' σ'.length ε' st'->D.bk st' H'
 | .cont ε'=>∀ ρ' st' H',Ext ρ n H ρ' σ'.length H'->SR H' ρ' σ'->RE H' ρ' σ'.length ε' st'->D.ct st' H'
 | .ret r=>Fin ρ n H r σ' D.rt
 | .exc c=>FinX ρ n H σ' (Xw.Ξ c)
inductive TSv (g:MP.Env->Store->Res Out) (D:Ends) (st:L2.St) (H:Hp):Prop
 |mk (ρ:Nat->Addr) (ε:MP.Env) (σ:Store) (o:Out) (σ':Store) (hE:RE H ρ σ.length ε st) (hS:SR H ρ σ) (e:g ε σ = .ok o σ') (q:FinS ρ σ.length H o σ' D)
theorem FinS.after{ρ ρ2:Nat->Addr}{n:Nat}{σ2:Store}{H H2:Hp}{o:Out}{σ':Store}{D:Ends}(q:FinS ρ n H o σ' D)(ex:Ext ρ n H ρ2 σ2.length H2)(S:SR H2 ρ2 σ2):FinS ρ2 σ2.length H2 o σ' D:=by
 cases o with
 |next ε=>exact fun ρ' st' H' e S' r=>q ρ' st' H' (ex.trans S e) S' r
 |brk ε=>exact fun ρ' st' H' e S' r=>q ρ' st' H' (ex.trans S e) S' r
 |cont ε=>exact fun ρ' st' H' e S' r=>q ρ' st' H' (ex.trans S e) S' r
 |ret r=>exact Fin.after q ex S
 |exc c=>exact fun ρ' H' e S'=>q ρ' H' (ex.trans S e) S'
noncomputable abbrev S1(cl:CallH)(W:Nat)(s:Stm):TS:=TSv (evS cl W s)
noncomputable abbrev B1(cl:CallH)(W:Nat)(b:Blk):TS:=TSv (evB cl W b)
noncomputable def locB(sc:Scope)(x:Str):Bool:=decide (sc.names.lookup x=some .local) || decide (sc.names.lookup x=some .cell)
noncomputable def isComp:Expr->Bool
 | .ListComp .. => true
 | .SetComp .. => true
 | .DictComp .. => true
 |_=>false
noncomputable def swB(sc:Scope)(x:Str)(px:Pos)(v:Expr):Bool:=whenS (vComp (vw v)) fun q=>decide (sc.kind = .function) && (decide (sc.names.lookup x=some .local) && (px.line == q.2.2.2.line && !(q.2.2.1.names.any fun(n,k)=>n == x && (k == .local || k == .cell))))
noncomputable def tgB(N:List Str)(sc:Scope):List Nat->List Expr->Bool
 | [],es=>es.isEmpty
 |i::is,es=>whenS es.head? fun e=>whenS (vName (vw e)) fun x=>decide (N[i]?=some x) && (locB sc x && tgB N sc is es.tail)
noncomputable def isCall(e:Expr):Bool:=(vCall (vw e)).isSome
inductive Sv where
 |asg (t v:Expr) (p:Pos)
 |aug (t:Expr) (op:Operator) (v:Expr)
 |expr (v:Expr) (p:Pos)
 |ret (v:Expr)
 |retN
 |ite (c:Expr) (a b:List Stmt)
 |for_ (tg it:Expr) (b:List Stmt)
 |while_ (c:Expr) (b:List Stmt)
 |brk
 |cont
 |pass
 |raise (e:Expr)
 |try_ (b:Stmt) (h:ExceptHandler)
 |other
noncomputable def svA(v:Expr)(p:Pos)(ts:List Expr):Sv:=match l1 ts with
 |some t=>.asg t v p
 |none=>.other
noncomputable def svR:Option Expr->Sv
 |some v=>.ret v
 |none=>.retN
noncomputable def sv:Stmt->Sv
 | .Assign ts v p=>svA v p ts
 | .Expr v p=>.expr v p
 | .Return v _=>svR v
 | .If c a b _=>.ite c a b
 | .For tg it b o _=>if o.isEmpty then .for_ tg it b else .other
 | .While c b o _=>if o.isEmpty then .while_ c b else .other
 | .Break _=>.brk
 | .Continue _=>.cont
 | .Pass _=>.pass
 |_=>.other
noncomputable def SvOk(s:Stmt):Sv->Prop
 | .asg t v p=>s = .Assign [t] v p
 | .aug t op v=>∃ p,s = .AugAssign t op v p
 | .expr v p=>s = .Expr v p
 | .ret v=>∃ p,s = .Return (some v) p
 | .retN=>∃ p,s = .Return none p
 | .ite c a b=>∃ p,s = .If c a b p
 | .for_ tg it b=>∃ p,s = .For tg it b [] p
 | .while_ c b=>∃ p,s = .While c b [] p
 | .brk=>∃ p,s = .Break p
 | .cont=>∃ p,s = .Continue p
 | .pass=>∃ p,s = .Pass p
 | .raise e=>∃ p,s = .Raise (some e) none p
 | .try_ b h=>∃ p,s = .Try [b] [h] [] [] p
 | .other=>True
theorem sv_ok(s:Stmt):SvOk s (sv s):=by
 cases s<;>first|exact trivial|exact rfl|exact⟨_,rfl⟩|skip
 ·rename_i v p;cases v<;>exact⟨_,rfl⟩
 ·rename_i ts v p
  show SvOk _ (svA v p ts)
  unfold svA
  cases c:l1 ts with
  |none=>trivial
  |some t=>cases l1_inv c;exact rfl
 ·rename_i tg it b o p
  cases o with
  |nil=>exact⟨_,rfl⟩
  |cons _ _=>exact trivial
 ·rename_i c b o p
  cases o with
  |nil=>exact⟨_,rfl⟩
  |cons _ _=>exact trivial
noncomputable def sAsg:Sv->Option (Expr × Expr × Pos)
 | .asg t v p=>some (t,v,p)
 |_=>none
theorem asgS{s:Stmt}{t v:Expr}{p:Pos}(h:sAsg (sv s)=some (t,v,p)):s = .Assign [t] v p:=by
 have hv:=sv_ok s
 generalize sv s=z at h hv
 cases z<;>first|(cases h;done)|(cases h;exact hv)
noncomputable def sExpr:Sv->Option (Expr × Pos)
 | .expr v p=>some (v,p)
 |_=>none
theorem exprS{s:Stmt}{v:Expr}{p:Pos}(h:sExpr (sv s)=some (v,p)):s = .Expr v p:=by
 have hv:=sv_ok s
 generalize sv s=z at h hv
 cases z<;>first|(cases h;done)|(cases h;exact hv)
noncomputable def sRet:Sv->Option Expr
 | .ret v=>some v
 |_=>none
theorem retS{s:Stmt}{v:Expr}(h:sRet (sv s)=some v):∃ p,s = .Return (some v) p:=by
 have hv:=sv_ok s
 generalize sv s=z at h hv
 cases z<;>first|(cases h;done)|(cases h;exact hv)
noncomputable def sIf:Sv->Option (Expr × List Stmt × List Stmt)
 | .ite c a b=>some (c,a,b)
 |_=>none
theorem ifS{s:Stmt}{c:Expr}{a b:List Stmt}(h:sIf (sv s)=some (c,a,b)):∃ p,s = .If c a b p:=by
 have hv:=sv_ok s
 generalize sv s=z at h hv
 cases z<;>first|(cases h;done)|(cases h;exact hv)
noncomputable def sFor:Sv->Option (Expr × Expr × List Stmt)
 | .for_ tg it b=>some (tg,it,b)
 |_=>none
theorem forS'{s:Stmt}{tg it:Expr}{b:List Stmt}(h:sFor (sv s)=some (tg,it,b)):∃ p,s = .For tg it b [] p:=by
 have hv:=sv_ok s
 generalize sv s=z at h hv
 cases z<;>first|(cases h;done)|(cases h;exact hv)
noncomputable def sWh:Sv->Option (Expr × List Stmt)
 | .while_ c b=>some (c,b)
 |_=>none
theorem whS{s:Stmt}{c:Expr}{b:List Stmt}(h:sWh (sv s)=some (c,b)):∃ p,s = .While c b [] p:=by
 have hv:=sv_ok s
 generalize sv s=z at h hv
 cases z<;>first|(cases h;done)|(cases h;exact hv)
noncomputable def sBare(k:Nat):Sv->Bool
 | .retN=>k == 0
 | .brk=>k == 1
 | .cont=>k == 2
 | .pass=>k == 3
 |_=>false
noncomputable def chkF(N:List Str)(sc:Scope)(src:Src)(it:Expr):Bool:=match src with
 | .enum t u=>whenS (vEnum sc (vw it)) fun q=>notStar q.1 && (chkE N sc t q.1 && chkE N sc u q.2)
 |_=>false
noncomputable def chkO(N:List Str)(sc:Scope)(src:Src)(it:Expr):Bool:=match src with
 |src=>chkW N sc false src it
noncomputable def compT:MP.Tm->Bool
 | .comp _ _ _ _ _=>true
 |_=>false
mutual
noncomputable def chkS(N:List Str)(sc:Scope):Stm->Stmt->Bool
 | .set i e,s=>(whenS (sAsg (sv s)) fun q=>whenS (vNameP (vw q.1)) fun x=>decide (N[i]?=some x.1) && (locB sc x.1 && (chkE N sc e q.2.1 && (!isComp q.2.1 || (compT e && swB sc x.1 x.2 q.2.1)))))
 | .setIdx a i v,s=>whenS (sAsg (sv s)) fun q=>whenS (vSub (vw q.1)) fun r=>notSlice r.2 && (chkE N sc v q.2.1 && (chkE N sc a r.1 && (chkE N sc i r.2 && !isComp q.2.1)))
 | .expr e,s=>whenS (sExpr (sv s)) fun q=>chkE N sc e q.1 && !isComp q.1
 | .ret e,s=>whenS (sRet (sv s)) fun v=>chkE N sc e v
 | .retN,s=>sBare 0 (sv s)
 | .ite c a b,s=>whenS (sIf (sv s)) fun q=>chkE N sc c q.1 && (chkB N sc a q.2.1 && chkB N sc b q.2.2)
 | .forS tg src b,s=>whenS (sFor (sv s)) fun q=>notSet q.2.1 && (chkB N sc b q.2.2 && (match l1 tg with
  |some i=>whenS (vName (vw q.1)) fun x=>decide (N[i]?=some x) && (locB sc x && chkO N sc src q.2.1)
  |none=>decide (2<=tg.length) && whenS (vTup (vw q.1)) fun es=>tgB N sc tg es && chkF N sc src q.2.1))
 | .whileS c b,s=>whenS (sWh (sv s)) fun q=>chkE N sc c q.1 && chkB N sc b q.2
 | .brk,s=>sBare 1 (sv s)
 | .cont,s=>sBare 2 (sv s)
 | .pass,s=>sBare 3 (sv s)
 | .unpack is e,s=>whenS (sAsg (sv s)) fun q=>whenS (vTup (vw q.1)) fun es=>tgB N sc is es && (isCall q.2.1 && chkE N sc e q.2.1)
 | .raise _ _,_=>false
 | .callX _ _ _,_=>false
 | .tryM _ _ _ _ _ _ _,_=>false
 | .tryR _ _ _ _ _,_=>false
noncomputable def chkB(N:List Str)(sc:Scope):Blk->List Stmt->Bool
 | .nil,ss=>ss.isEmpty
 | .cons s b,ss=>whenS ss.head? fun t=>chkS N sc s t && chkB N sc b ss.tail
end
section
variable {P:List Fn}{W n:Nat}{X:Cx}{cl:CallH}
theorem setSlot_inv{ε ε1:MP.Env}{i:Nat}{r:R}(h:setSlot ε i r=some ε1):ε1=ε.set i (some r):=by
 unfold setSlot at h
 split at h
 ·cases h;rfl
 ·cases h
theorem ofE_inv{o:Option MP.Env}{f:MP.Env->Res Out}{r:Out}{σ:Store}(h:ofE o f = .ok r σ):∃ ε,o=some ε/\f ε = .ok r σ:=by
 cases o with
 |none=>cases h
 |some ε=>exact⟨ε,rfl,h⟩
theorem set_lift{i:Nat}{e:MP.Tm}(D:Ends)(st:L2.St)(H:Hp)(t:S1 cl W (.set i e) D st H):E1 cl e st H fun v H'=>D.nx (st.set i (some v)) H':=by
 obtain⟨ρ,ε,σ,o,σ',hE,hS,ee,q⟩:=t
 rw[evS] at ee
 obtain⟨r,σ1,e1,e2⟩:=bind_inv ee
 obtain⟨ε1,e3,e4⟩:=ofE_inv e2
 cases e4
 cases setSlot_inv e3
 exact⟨ρ,ε,σ,r,_,hE,hS,e1,fun ρ1 v1 H1 ex1 S1 r1=>q ρ1 _ H1 ex1 S1 ((hE.mono hS ex1).set r1)⟩
theorem swaps_false{v:Expr}{t:Option Expr}{l:Nat}{env:PySem.Env}(h:isComp v=false):swapsWith v t l env=pure false:=by
 cases v<;>first|rfl|(cases h;done)
theorem swB_true{x:Str}{px:Pos}{v:Expr}{l:Nat}(h:swB X.env.scope x px v=true):swapsWith v (some (.Name x px)) l X.env=pure true:=by
 obtain⟨⟨el,g,scope,p⟩,h0,h⟩:=whenS_inv h
 simp only[Bool.and_eq_true,decide_eq_true_eq] at h
 obtain⟨h1,h2,h3,h4⟩:=h
 cases compE h0
 unfold swapsWith
 have hb:X.env.blockKind = .function:=by
  unfold Env.blockKind
  rw[h1]
  rfl
 have hk:X.env.kindOf x=some .local:=h2
 simp only[pure_bind]
 show(pure _:Sem Bool)=pure true
 congr 1
 simp only[hb,hk,Expr.pos,h3,h4,beq_self_eq_true,Bool.and_self]
theorem loc_of{sc:Scope}{x:Str}(h:locB sc x=true):Loc sc x:=by
 simp only[locB,Bool.or_eq_true,decide_eq_true_eq] at h
 exact h
noncomputable def rSetD:V->V->V->Hp->(Hp->Prop)->Prop:=fun o i v H Q=>∃ a H',o = .ref a/\DPut H a i v H'/\Q H'
theorem set_dict(hu:X.A.units+1<cLine):PSet X rSetD:=by
 intro pins s σ H o i v ov iv u Q I ro ri rv h
 obtain⟨a,H',rfl,g,q⟩:=h
 cases ro
 exact d_setItem hu I g ri rv fun s' I'=>⟨H',I',q⟩
noncomputable def rSetAll(X:Cx):V->V->V->Hp->(Hp->Prop)->Prop:=fun o i v H Q=>rSetL o i v H Q\/(rSetD o i v H Q
 ∨ rSetT X o i v H Q
 )
theorem set_all(hw:X.w=Wd.w)(hu:X.A.units+170<cLine):PSet X (rSetAll X):=by
 intro pins s σ H o i v ov iv u Q I ro ri rv h
 rcases h with h|h
 ·exact set_list pins s σ H o i v ov iv u Q I ro ri rv h
 rcases h with h|h
 rotate_left
 ·exact set_T hw hu pins s σ H o i v ov iv u Q I ro ri rv h
 exact set_dict (by omega) pins s σ H o i v ov iv u Q I ro ri rv h
theorem put_lift{a i v:MP.Tm}(D:Ends)(st:L2.St)(H:Hp)(t:S1 cl W (.setIdx a i v) D st H):tAsg (E1 cl v) (gSub (E1 cl a) (E1 cl i) (rSetAll X)) D st H:=by
 obtain⟨ρ,ε,σ,o,σ',hE,hS,ee,q⟩:=t
 rw[evS] at ee
 obtain⟨z,σ1,e1,ee⟩:=bind_inv ee
 obtain⟨x,σ2,e2,ee⟩:=bind_inv ee
 obtain⟨y,σ3,e3,ee⟩:=bind_inv ee
 cases ep:MP.putAt x y z σ3 with
 |none=>rw[ep] at ee;cases ee
 |some σ4 =>
  rw[ep] at ee
  cases ee
  refine⟨ρ,ε,σ,z,σ1,hE,hS,e1,fun ρ1 v1 H1 ex1 S1 r1 => ?_⟩
  have hE1:=hE.mono hS ex1
  refine⟨ρ1,ε,σ1,x,σ2,hE1,S1,e2,fun ρ2 v2 H2 ex2 S2 r2 => ?_⟩
  have hE2:=hE1.mono S1 ex2
  refine⟨ρ2,ε,σ2,y,σ3,hE2,S2,e3,fun ρ3 v3 H3 ex3 S3 r3 => ?_⟩
  have hE3:=hE2.mono S2 ex3
  have ex:=(ex1.trans S1 ex2).trans S2 ex3
  have rz:RR H3 ρ3 σ3.length z v1:=RR.mono (ex3.tp S2) ex3.le ex3.ag z (RR.mono (ex2.tp S1) ex2.le ex2.ag z r1)
  have rx:RR H3 ρ3 σ3.length x v2:=RR.mono (ex3.tp S2) ex3.le ex3.ag x r2
  cases x with
  |g _=>simp[MP.putAt] at ep
  |tr _=>simp[MP.putAt] at ep
  |ref k =>
   cases y with
   |ref _=>simp[MP.putAt] at ep
   |tr _=>simp[MP.putAt] at ep
   |g gi =>
    cases z with
    |ref _=>simp[MP.putAt] at ep
    |tr _=>simp[MP.putAt] at ep
    |g gv =>
     obtain⟨hk,rfl⟩:=rx
     simp only[MP.putAt] at ep
     split at ep
     ·rename_i xs i e4
      cases ej:MP.ixOf xs.length i with
      |none=>rw[ej] at ep;cases ep
      |some j =>
       rw[ej] at ep
       cases ep
       obtain⟨vs,h1,h2⟩:=S3.lst e4
       cases(show v3 = .int i from r3)
       obtain⟨w1,w2⟩:=S3.write hk (o:=.lst (vs.set j v1)) (c:=.lst (xs.set j gv)) (nfz_l h1) fun H' tp e=>⟨_,e,RGs.set (RG.mono tp _ rz) j (RGs.mono tp _ h2)⟩
       refine .inl ⟨_,vs,i,j,rfl,rfl,h1,by rw[h2.length];exact ej,?_⟩
       exact q ρ3 st _ (ex.trans S3 w1) w2 (hE3.mono S3 w1)
     ·rename_i gi _ _ kvs e4
      split at ep
      ·rename_i c
       cases ep
       simp only[Bool.and_eq_true,decide_eq_true_eq] at c
       obtain⟨ws,h1,h2,h3⟩:=S3.dctN e4
       obtain⟨key,ek⟩:=isKey_keyOf c.1
       have ev:=keyOf_rep ek r3
       obtain⟨w1,w2⟩:=S3.write hk (o:=.dK (putK ws key v1)) (c:=.dct (dput kvs gi gv)) (nfz_d h1) fun H' tp e=>⟨_,e,RKs.put (RKs.mono tp _ h2) ek (RG.mono tp _ rz) h3,putK_nodup h3⟩
       refine .inr (.inl ⟨_,_,rfl,.inl ⟨ws,key,h1,ev,by rw[h2.length];exact Nat.lt_of_lt_of_le c.2 big_le,rfl⟩,?_⟩)
       exact q ρ3 st _ (ex.trans S3 w1) w2 (hE3.mono S3 w1)
      ·cases ep
     ·rename_i gi _ _ kvs e4
      split at ep
      ·rename_i c
       cases ep
       simp only[Bool.and_eq_true,decide_eq_true_eq] at c
       obtain⟨o,ys,h1,h2,h3⟩:=S3.dtg e4
       refine .inr (.inr ⟨_,kvs,gi,gv,o,ys,rfl,⟨h1,h2,h3,r3,c.1.1,c.1.2⟩,rz,c.2,fun o' ys' k1 k2 => ?_⟩)
       obtain⟨w1,w2⟩:=S3.write hk (o:=dG (ρ3 k) o') (c:=.dtg (dput kvs gi gv)) (fun _ _ z=>by rw[h1] at z;cases z) fun H' tp' e'=>⟨o',ys',e',RN.mono tp' _ k1,k2⟩
       exact q ρ3 st _ (ex.trans S3 w1) w2 (hE3.mono S3 w1)
      ·cases ep
     ·cases ep
theorem evW_guard{s:Src}{ε:MP.Env}{σ σ':Store}{w:Walk}(h:evW cl s ε σ = .ok w σ')(hs:(∃ t,s = .over t)\/(∃ t,s = .range1 t)\/∃ t,s = .chars t):∀ k kvs,w.guard≠some (k,.dct kvs):=by
 intro k kvs z
 rcases hs with⟨t,rfl⟩ | ⟨t,rfl⟩ | ⟨t,rfl⟩
 ·rw[evW] at h
  obtain⟨x,σ1,e1,e2⟩:=bind_inv h
  obtain⟨_,q⟩:=over_inv e2
  rcases q with⟨xs,_,rfl⟩ | ⟨j,xs,c,_,hc,_,rfl⟩
  ·cases z
  ·rcases hc with rfl|rfl<;>cases z
 ·rw[evW] at h
  obtain⟨x,σ1,e1,e2⟩:=bind_inv h
  cases x with
  |ref _=>simp[wRange] at e2
  |tr _=>simp[wRange] at e2
  |g gx =>
   cases gx with
   |int j =>
    simp only[wRange] at e2
    split at e2
    ·cases e2;cases z
    ·cases e2
   |_=>simp[wRange] at e2
 ·rw[evW] at h
  obtain⟨x,σ1,e1,e2⟩:=bind_inv h
  unfold wChars at e2
  split at e2
  ·cases e2;cases z
  ·cases e2
theorem forW_plain{tg:List Nat}{body:MP.Env->Store->Res Out}{w:Walk}{ε:MP.Env}{σ:Store}(h:∀ k kvs,w.guard≠some (k,.dct kvs)):forW tg body w ε σ=forL tg body w.guard w.items ε σ:=by
 unfold forW
 split
 ·rename_i k kvs e;exact absurd e (h k kvs)
 ·rfl
theorem forL_cons_inv{tg:List Nat}{body:MP.Env->Store->Res Out}{w:Option (Nat × Cell)}{x:R}{r:List R}{ε:MP.Env}{σ σ':Store}{o:Out}(h:forL tg body w (x::r) ε σ = .ok o σ') :
 intact w σ=true/\∃ ε1 ob σ1,bindTg tg x ε=some ε1/\body ε1 σ = .ok ob σ1/\((∃ ε2,(ob = .next ε2\/ob = .cont ε2)/\forL tg body w r ε2 σ1 = .ok o σ')\/(∃ ε2,ob = .brk ε2/\o = .next ε2/\σ'=σ1)\/(∃ v,ob = .ret v/\o = .ret v/\σ'=σ1)\/∃ c,ob = .exc c/\o = .exc c/\σ'=σ1):=by
 simp only[forL] at h
 split at h
 ·rename_i hi
  obtain⟨ε1,e1,h⟩:=ofE_inv h
  obtain⟨ob,σ1,e2,h⟩:=bind_inv h
  refine⟨hi,ε1,ob,σ1,e1,e2,?_⟩
  cases ob with
  |next ε2=>exact .inl ⟨ε2,.inl rfl,h⟩
  |cont ε2=>exact .inl ⟨ε2,.inr rfl,h⟩
  |brk ε2=>cases h;exact .inr (.inl ⟨ε2,rfl,rfl,rfl⟩)
  |ret v=>cases h;exact .inr (.inr (.inl ⟨v,rfl,rfl,rfl⟩))
  |exc c=>cases h;exact .inr (.inr (.inr ⟨c,rfl,rfl,rfl⟩))
 ·cases h
noncomputable def BindOk(tg:List Nat)(g:TG):Prop:=∀ {ρ:Nat->Addr} {n:Nat} {H:Hp} {x:R} {v:V} {ε ε1:MP.Env} {st:L2.St} {Q:L2.St->Hp->Prop},RE H ρ n ε st->RR H ρ n x v->bindTg tg x ε=some ε1->(∀ st',RE H ρ n ε1 st'->Q st' H)->g v st H Q
theorem bind_name{i:Nat}:BindOk [i] (gName i):=by
 intro ρ n H x v ε ε1 st Q hE hr e q
 have hb:ε1=ε.set i (some x):=setSlot_inv e
 subst hb
 exact q _ (hE.set hr)
theorem slots_ok{ρ:Nat->Addr}{n:Nat}{H:Hp}:∀ {is:List Nat} {rs:List R} {vs:List V} {ε ε1:MP.Env} {st:L2.St} {Q:L2.St->Hp->Prop},RE H ρ n ε st->RRs H ρ n rs vs->setSlots is rs ε=some ε1->(∀ st',RE H ρ n ε1 st'->Q st' H)->gNames is vs st H Q
 | [],[],_,ε,ε1,st,Q,hE,hr,e,q=>by
  cases hr
  cases e
  exact⟨rfl,q st hE⟩
 | [],_::_,_,_,_,_,_,_,_,e,_=>by simp[setSlots] at e
 |_::_,[],_,_,_,_,_,_,_,e,_=>by simp[setSlots] at e
 |i::is,r::rs,_,ε,ε1,st,Q,hE,hr,e,q=>by
  obtain⟨v,us,rfl,h1,h2⟩:=hr
  simp only[setSlots] at e
  cases c:setSlot ε i r with
  |none=>rw[c] at e;cases e
  |some ε2 =>
   rw[c] at e
   have:=setSlot_inv c
   subst this
   exact⟨v,us,rfl,slots_ok (hE.set h1) h2 e q⟩
theorem parts_ok{ρ:Nat->Addr}{n:Nat}{H:Hp}{x:R}{v:V}{rs:List R}(h:RR H ρ n x v)(e:parts x=some rs):RR H ρ n (.tr rs) v:=by
 cases x with
 |ref _=>simp[parts] at e
 |tr xs =>
  simp only[parts,Option.some.injEq] at e
  subst e
  exact h
 |g gx =>
  cases gx with
  |tup xs =>
   simp only[parts,Option.some.injEq] at e
   subst e
   obtain⟨a,vs,rfl,ha,hx⟩:=h
   refine⟨a,vs,rfl,ha,?_⟩
   clear ha
   induction xs generalizing vs with
   |nil=>exact hx
   |cons y r ih =>
    obtain⟨v,us,rfl,h1,h2⟩:=hx
    exact⟨v,us,rfl,h1,ih us h2⟩
  |_=>simp[parts] at e
theorem slots_len:∀ {is:List Nat} {rs:List R} {ε ε1:MP.Env},setSlots is rs ε=some ε1->rs.length=is.length:=by
 intro is
 induction is with
 |nil=>intro rs ε ε1 h;cases rs with
  |nil=>rfl
  |cons _ _=>simp[setSlots] at h
 |cons k is ih=>intro rs ε ε1 h;cases rs with
  |nil=>simp[setSlots] at h
  |cons y ys =>
   simp only[setSlots] at h
   cases c:setSlot ε k y with
   |none=>rw[c] at h;cases h
   |some ε2=>rw[c] at h;simp[ih h]
theorem bind_tup{K:PySem.W.Frag}{i j:Nat}{r:List Nat}:BindOk (i::j::r) (gTup K (i::j::r).length (gNames (i::j::r))):=by
 intro ρ n H x v ε ε1 st Q hE hr e q
 simp only[bindTg] at e
 cases c:parts x with
 |none=>rw[c] at e;cases e
 |some rs =>
  rw[c] at e
  obtain⟨a,vs,rfl,ha,hx⟩:=parts_ok hr c
  exact⟨a,vs,rfl,.of ha,by rw[hx.length];exact slots_len e,slots_ok hE hx e q⟩
theorem for_core{J:It}{tg:List Nat}{g:TG}{b:Blk}{w:Walk}{ε:MP.Env}{σ1 σ':Store}{o:Out}{ρ1:Nat->Addr}{H1:Hp}{st:L2.St}{D:Ends}(S1:SR H1 ρ1 σ1)(hE1:RE H1 ρ1 σ1.length ε st)(wj:WJ J ρ1 σ1 H1 w)
 (ee:forL tg (fun ε σ=>evB cl W b ε σ) w.guard w.items ε σ1 = .ok o σ') (q1:FinS ρ1 σ1.length H1 o σ' D) (hg:BindOk tg g) :
 ∃ Wi:Nat->Nat->L2.St->Hp->Prop,(∃ m,Wi 0 m st H1)/\∀ i m σ H,Wi i m σ H →
  (J.stop i H/\D.nx σ H)\/(J.go i H/\∃ N:L2.St->Hp->Prop,(∀ σ' H',N σ' H'->∃ m',m'<m/\Wi (i+1) m' σ' H')/\∀ x H',J.yld i H x H'->g x σ H' fun σ2 H2=>B1 cl W b {D with nx:=N,ct:=N,bk:=D.nx} σ2 H2):=by
 refine⟨fun j m st2 H2=>m=w.items.length-j/\j<=w.items.length/\∃ ρ2 ε2 σ2,Ext ρ1 σ1.length H1 ρ2 σ2.length H2/\SR H2 ρ2 σ2/\RE H2 ρ2 σ2.length ε2 st2/\forL tg (fun ε σ=>evB cl W b ε σ) w.guard (w.items.drop j) ε2 σ2 = .ok o σ',
  ⟨w.items.length,by simp,Nat.zero_le _,ρ1,ε,σ1,Ext.refl _ _ _,S1,hE1,by simpa using ee⟩,?_⟩
 rintro j m st2 H2 ⟨rfl,hj,ρ2,ε2,σ2,ex2,S2,hE2,hl⟩
 by_cases hlt:j<w.items.length
 ·rw[List.drop_eq_getElem_cons hlt] at hl
  obtain⟨hin,ε3,ob,σ3,eb,ebody,hcase⟩:=forL_cons_inv hl
  have hwj:=(wj ρ2 σ2 H2 ex2 S2 hin j).1 w.items[j] (by simp[hlt])
  refine .inr ⟨hwj.1,fun st' H'=>∃ ρ4 ε4,(ob = .next ε4\/ob = .cont ε4)/\Ext ρ1 σ1.length H1 ρ4 σ3.length H'/\SR H' ρ4 σ3/\RE H' ρ4 σ3.length ε4 st',?_,fun v H3 y => ?_⟩
  ·rintro st' H' ⟨ρ4,ε4,hob,ex4,S4,hE4⟩
   rcases hcase with⟨ε5,ho,hl'⟩ | ⟨ε5,ho,_⟩ | ⟨u,ho,_⟩ | ⟨u,ho,_⟩
   ·have:ε4=ε5:=by
     rcases hob with z|z<;>rcases ho with y|y<;>rw[z] at y<;>cases y<;>rfl
    subst this
    exact⟨w.items.length-(j+1),by omega,rfl,hlt,ρ4,ε4,σ3,ex4,S4,hE4,hl'⟩
   ·rcases hob with z|z<;>rw[z] at ho<;>cases ho
   ·rcases hob with z|z<;>rw[z] at ho<;>cases ho
   ·rcases hob with z|z<;>rw[z] at ho<;>cases ho
  ·obtain⟨ex3,S3,rv⟩:=hwj.2 v H3 y
   have ex13:=ex2.trans S2 ex3
   refine hg (hE2.mono S2 ex3) rv eb fun st3 hE3=>⟨ρ2,_,σ2,ob,σ3,hE3,S3,ebody,?_⟩
   cases ob with
   |next ε4=>exact fun ρ4 st' H' ex4 S4 hE4=>⟨ρ4,ε4,.inl rfl,ex13.trans S3 ex4,S4,hE4⟩
   |cont ε4=>exact fun ρ4 st' H' ex4 S4 hE4=>⟨ρ4,ε4,.inr rfl,ex13.trans S3 ex4,S4,hE4⟩
   |brk ε4 =>
    rcases hcase with⟨ε5,ho,_⟩ | ⟨ε5,ho,rfl,rfl⟩ | ⟨u,ho,_⟩ | ⟨u,ho,_⟩
    ·rcases ho with z|z<;>cases z
    ·cases ho
     exact fun ρ4 st' H' ex4 S4 hE4=>q1 ρ4 st' H' (ex13.trans S3 ex4) S4 hE4
    ·cases ho
    ·cases ho
   |ret u =>
    rcases hcase with⟨ε5,ho,_⟩ | ⟨ε5,ho,_⟩ | ⟨u',ho,rfl,rfl⟩ | ⟨u,ho,_⟩
    ·rcases ho with z|z<;>cases z
    ·cases ho
    ·cases ho
     exact fun ρ4 v' H' ex4 S4 r4=>q1 ρ4 v' H' (ex13.trans S3 ex4) S4 r4
    ·cases ho
   |exc u =>
    rcases hcase with⟨ε5,ho,_⟩ | ⟨ε5,ho,_⟩ | ⟨u',ho,_⟩ | ⟨u',ho,rfl,rfl⟩
    ·rcases ho with z|z<;>cases z
    ·cases ho
    ·cases ho
    ·cases ho
     exact fun ρ4 H' ex4 S4=>q1 ρ4 H' (ex13.trans S3 ex4) S4
 ·rw[List.drop_eq_nil_of_le (by omega)] at hl
  simp only[forL] at hl
  split at hl
  ·rename_i hin
   cases hl
   exact .inl ⟨(wj ρ2 _ H2 ex2 S2 hin j).2 (by omega),q1 ρ2 st2 H2 ex2 S2 hE2⟩
  ·cases hl
theorem for_lift{K:PySem.W.Frag}{i:Nat}{s:Src}{b:Blk}(hs:(∃ t,s = .over t)\/(∃ t,s = .range1 t)\/∃ t,s = .chars t)(D:Ends)(st:L2.St)(H:Hp)(t:S1 cl W (.forS [i] s b) D st H) :
 tFor (TIv K (evW cl s)) (gName i) (B1 cl W b) D st H:=by
 obtain⟨ρ,ε,σ,o,σ',hE,hS,ee,q⟩:=t
 rw[evS] at ee
 obtain⟨w,σ1,ew,ee⟩:=bind_inv ee
 rw[forW_plain (evW_guard ew hs)] at ee
 exact⟨ρ,ε,σ,w,σ1,hE,hS,ew,fun ρ1 H1 J ex1 S1 wj bj=>for_core S1 (hE.mono hS ex1) wj ee (q.after ex1 S1) bind_name⟩
theorem for_liftT{K:PySem.W.Frag}{i j:Nat}{r:List Nat}{e u:MP.Tm}{b:Blk}(D:Ends)(st:L2.St)(H:Hp)(t:S1 cl W (.forS (i::j::r) (.enum e u) b) D st H) :
 tFor (TIv K (evW cl (.enum e u))) (gTup K (i::j::r).length (gNames (i::j::r))) (B1 cl W b) D st H:=by
 obtain⟨ρ,ε,σ,o,σ',hE,hS,ee,q⟩:=t
 rw[evS] at ee
 obtain⟨w,σ1,ew,ee⟩:=bind_inv ee
 have hgd:∀ k kvs,w.guard≠some (k,.dct kvs):=fun k kvs z=>by
  rw[evW] at ew
  obtain⟨x,τ1,e1,ew⟩:=bind_inv ew
  obtain⟨y,τ2,e2,ew⟩:=bind_inv ew
  unfold wEnum at ew
  split at ew
  ·split at ew
   ·split at ew
    ·cases ew;cases z
    ·cases ew
   ·cases ew
  ·cases ew
 rw[forW_plain hgd] at ee
 exact⟨ρ,ε,σ,w,σ1,hE,hS,ew,fun ρ1 H1 J ex1 S1 wj bj=>for_core S1 (hE.mono hS ex1) wj ee (q.after ex1 S1) bind_tup⟩
theorem RKs.at{H:Hp}:∀ {kvs:List (G × G)} {ws:List (Key × V)},RKs H kvs ws->∀ {i:Nat} {p:G × G},kvs[i]?=some p->∃ q,ws[i]?=some q/\keyOf p.1=some q.1/\RG H p.2 q.2
 | [],_,_,i,p,e=>by simp at e
 | (j,x)::r,_,h,i,p,e=>by
  obtain⟨b,v,t,rfl,h1,h2,h3⟩:=h
  cases i with
  |zero=>simp at e;subst e;exact⟨(b,v),rfl,h1,h2⟩
  |succ i =>
   simp only[List.getElem?_cons_succ] at e ⊢
   exact RKs.at h3 e
theorem expr_lift{e:MP.Tm}(D:Ends)(st:L2.St)(H:Hp)(t:S1 cl W (.expr e) D st H):tDrop (E1 cl e) D st H:=by
 obtain⟨ρ,ε,σ,o,σ',hE,hS,ee,q⟩:=t
 rw[evS] at ee
 obtain⟨r,σ1,e1,e2⟩:=bind_inv ee
 cases e2
 exact⟨ρ,ε,σ,r,_,hE,hS,e1,fun ρ1 v1 H1 ex1 S1 r1=>q ρ1 st H1 ex1 S1 (hE.mono hS ex1)⟩
theorem ret_lift{e:MP.Tm}(D:Ends)(st:L2.St)(H:Hp)(t:S1 cl W (.ret e) D st H):tRet (E1 cl e) D st H:=by
 obtain⟨ρ,ε,σ,o,σ',hE,hS,ee,q⟩:=t
 rw[evS] at ee
 obtain⟨r,σ1,e1,e2⟩:=bind_inv ee
 cases e2
 exact⟨ρ,ε,σ,r,_,hE,hS,e1,q⟩
theorem ite_lift{c:MP.Tm}{a b:Blk}(D:Ends)(st:L2.St)(H:Hp)(t:S1 cl W (.ite c a b) D st H):tIfS (T1 cl c) (B1 cl W a) (B1 cl W b) D st H:=by
 obtain⟨ρ,ε,σ,o,σ',hE,hS,ee,q⟩:=t
 rw[evS] at ee
 obtain⟨r,σ1,e1,e2⟩:=bind_inv ee
 obtain⟨d,rfl⟩:=ev_true_bl c _ _ _ _ e1
 refine⟨ρ,ε,σ,d,σ1,hE,hS,e1,fun ρ1 H1 ex1 S1 => ?_⟩
 cases d with
 |true=>exact iteT ⟨ρ1,ε,σ1,o,σ',hE.mono hS ex1,S1,e2,q.after ex1 S1⟩
 |false=>exact iteF ⟨ρ1,ε,σ1,o,σ',hE.mono hS ex1,S1,e2,q.after ex1 S1⟩
theorem whileL_inv{f:MP.Env->Store->Res R}{g:MP.Env->Store->Res Out}{n:Nat}{ε:MP.Env}{σ σ':Store}{o:Out}(h:whileL f g n ε σ = .ok o σ') :
 ∃ m b σ1,n=m+1/\f ε σ = .ok (.g (.bl b)) σ1/\((b=false/\o = .next ε/\σ'=σ1)\/(b=true/\∃ ob σ2,g ε σ1 = .ok ob σ2 ∧
  ((∃ ε2,(ob = .next ε2\/ob = .cont ε2)/\whileL f g m ε2 σ2 = .ok o σ')\/(∃ ε2,ob = .brk ε2/\o = .next ε2/\σ'=σ2)\/(∃ v,ob = .ret v/\o = .ret v/\σ'=σ2)\/∃ c,ob = .exc c/\o = .exc c/\σ'=σ2))):=by
 cases n with
 |zero=>cases h
 |succ m =>
  rw[whileL] at h
  obtain⟨r,σ1,e1,h⟩:=bind_inv h
  cases r with
  |ref _=>cases h
  |tr _=>cases h
  |g gx =>
   cases gx with
   |bl b =>
    cases b with
    |false=>cases h;exact⟨m,false,_,rfl,e1,.inl ⟨rfl,rfl,rfl⟩⟩
    |true =>
     obtain⟨ob,σ2,e2,h⟩:=bind_inv h
     refine⟨m,true,σ1,rfl,e1,.inr ⟨rfl,ob,σ2,e2,?_⟩⟩
     cases ob with
     |next ε2=>exact .inl ⟨ε2,.inl rfl,h⟩
     |cont ε2=>exact .inl ⟨ε2,.inr rfl,h⟩
     |brk ε2=>cases h;exact .inr (.inl ⟨ε2,rfl,rfl,rfl⟩)
     |ret v=>cases h;exact .inr (.inr (.inl ⟨v,rfl,rfl,rfl⟩))
     |exc c=>cases h;exact .inr (.inr (.inr ⟨c,rfl,rfl,rfl⟩))
   |_=>cases h
theorem while_lift{c:MP.Tm}{b:Blk}(D:Ends)(st:L2.St)(H:Hp)(t:S1 cl W (.whileS c b) D st H):tWhile (T1 cl c) (B1 cl W b) D st H:=by
 obtain⟨ρ,ε,σ,o,σ',hE,hS,ee,q⟩:=t
 rw[evS] at ee
 refine⟨fun m st2 H2=>∃ ρ2 ε2 σ2,Ext ρ σ.length H ρ2 σ2.length H2/\SR H2 ρ2 σ2/\RE H2 ρ2 σ2.length ε2 st2/\whileL (fun ε σ=>ev cl true c ε σ) (fun ε σ=>evB cl W b ε σ) m ε2 σ2 = .ok o σ',⟨W,ρ,ε,σ,Ext.refl _ _ _,hS,hE,ee⟩,?_⟩
 rintro m st2 H2 ⟨ρ2,ε2,σ2,ex2,S2,hE2,hl⟩
 obtain⟨k,d,σ3,rfl,e1,hcase⟩:=whileL_inv hl
 refine⟨ρ2,ε2,σ2,d,σ3,hE2,S2,e1,fun ρ3 H3 ex3 S3 => ?_⟩
 have ex13:=ex2.trans S2 ex3
 have hE3:=hE2.mono S2 ex3
 rcases hcase with⟨rfl,rfl,rfl⟩ | ⟨rfl,ob,σ4,e2,hc2⟩
 ·exact iteF (q ρ3 st2 H3 ex13 S3 hE3)
 ·refine iteT ⟨fun st' H'=>∃ ρ4 ε4,(ob = .next ε4\/ob = .cont ε4)/\Ext ρ σ.length H ρ4 σ4.length H'/\SR H' ρ4 σ4/\RE H' ρ4 σ4.length ε4 st',?_,ρ3,ε2,σ3,ob,σ4,hE3,S3,e2,?_⟩
  ·rintro st' H' ⟨ρ4,ε4,hob,ex4,S4,hE4⟩
   rcases hc2 with⟨ε5,ho,hl'⟩ | ⟨ε5,ho,_⟩ | ⟨u,ho,_⟩ | ⟨u,ho,_⟩
   ·have:ε4=ε5:=by
     rcases hob with z|z<;>rcases ho with y|y<;>rw[z] at y<;>cases y<;>rfl
    subst this
    exact⟨k,Nat.lt_succ_self k,ρ4,ε4,σ4,ex4,S4,hE4,hl'⟩
   ·rcases hob with z|z<;>rw[z] at ho<;>cases ho
   ·rcases hob with z|z<;>rw[z] at ho<;>cases ho
   ·rcases hob with z|z<;>rw[z] at ho<;>cases ho
  ·cases ob with
   |next ε4=>exact fun ρ4 st' H' ex4 S4 hE4=>⟨ρ4,ε4,.inl rfl,ex13.trans S3 ex4,S4,hE4⟩
   |cont ε4=>exact fun ρ4 st' H' ex4 S4 hE4=>⟨ρ4,ε4,.inr rfl,ex13.trans S3 ex4,S4,hE4⟩
   |brk ε4 =>
    rcases hc2 with⟨ε5,ho,_⟩ | ⟨ε5,ho,rfl,rfl⟩ | ⟨u,ho,_⟩ | ⟨u,ho,_⟩
    ·rcases ho with z|z<;>cases z
    ·cases ho
     exact fun ρ4 st' H' ex4 S4 hE4=>q ρ4 st' H' (ex13.trans S3 ex4) S4 hE4
    ·cases ho
    ·cases ho
   |ret u =>
    rcases hc2 with⟨ε5,ho,_⟩ | ⟨ε5,ho,_⟩ | ⟨u',ho,rfl,rfl⟩ | ⟨u,ho,_⟩
    ·rcases ho with z|z<;>cases z
    ·cases ho
    ·cases ho
     exact fun ρ4 v' H' ex4 S4 r4=>q ρ4 v' H' (ex13.trans S3 ex4) S4 r4
    ·cases ho
   |exc u =>
    rcases hc2 with⟨ε5,ho,_⟩ | ⟨ε5,ho,_⟩ | ⟨u',ho,_⟩ | ⟨u',ho,rfl,rfl⟩
    ·rcases ho with z|z<;>cases z
    ·cases ho
    ·cases ho
    ·cases ho
     exact fun ρ4 H' ex4 S4=>q ρ4 H' (ex13.trans S3 ex4) S4
theorem seq_lift{s:Stm}{b:Blk}(D:Ends)(st:L2.St)(H:Hp)(t:B1 cl W (.cons s b) D st H):tSeq (S1 cl W s) (B1 cl W b) D st H:=by
 obtain⟨ρ,ε,σ,o,σ',hE,hS,ee,q⟩:=t
 rw[evB] at ee
 obtain⟨o1,σ1,e1,e2⟩:=bind_inv ee
 cases o1 with
 |next ε1=>exact⟨ρ,ε,σ,.next ε1,σ1,hE,hS,e1,fun ρ1 st1 H1 ex1 S1 hE1=>⟨ρ1,ε1,σ1,o,σ',hE1,S1,e2,q.after ex1 S1⟩⟩
 |ret r=>cases e2;exact⟨ρ,ε,σ,_,_,hE,hS,e1,q⟩
 |brk ε1=>cases e2;exact⟨ρ,ε,σ,_,_,hE,hS,e1,q⟩
 |cont ε1=>cases e2;exact⟨ρ,ε,σ,_,_,hE,hS,e1,q⟩
 |exc c=>cases e2;exact⟨ρ,ε,σ,_,_,hE,hS,e1,q⟩
theorem passes(am:Amb X P W n):PassesOwn (model X.prog X.w) X.A X.env X.xe:=by
 exact am.px
theorem assign_sub{o k:Expr}{pos:Pos}{env:PySem.Env}(h:notSlice k=true):∀ v,assign (.Subscript o k pos) env v=(do
 let ov ← holding [v] (eval o env)
 let iv ← holding [v,ov] (eval k env)
 standAt pos
 holding [v,ov,iv] (setItem ov iv v)
 release [v,ov,iv] []):=by
 intro v
 cases k<;>first|rfl|(simp[notSlice] at h;done)
theorem sole_false{t v:Expr}{l:Nat}{env:PySem.Env}(h:isComp v=false):swapsWithSole [t] v l env=pure false:=swaps_false h
theorem stores_none{o k:Expr}{pos:Pos}(v:Expr){env:PySem.Env}:swappedStores [.Subscript o k pos] v env=pure none:=by
 cases v<;>rfl
theorem tg_ok(nd:X.N.Nodup)(hf:∀ x,X.fn x=true):∀ {is:List Nat} {es:List Expr},tgB X.N X.env.scope is es=true->PGs X es (gNames is)/\(assignEach es X.env).length=is.length/\(assignEach es X.env).findIdx? (·.1)=none
 | [],[],_=>⟨pgs_nil,rfl,rfl⟩
 | [],_::_,h=>by cases h
 |_::_,[],h=>by cases h
 |i::is,e::es,h=>by
  obtain⟨x,h0,h⟩:=whenS_inv (show whenS (vName (vw e)) _=true from h)
  obtain⟨h1,h⟩:=and2 h
  obtain⟨h2,h3⟩:=and2 h
  have h1:=of_decide_eq_true h1
  obtain⟨p,rfl⟩:=nameE h0
  obtain⟨q1,q2,q3⟩:=tg_ok nd hf (es:=es) h3
  refine⟨pgs_cons (pg_name nd h1 (loc_of h2) (.inl (hf _))) q1 rfl,by rw[List.length_cons, ← q2];rfl,?_⟩
  show List.findIdx? _ ((false,assign (.Name x p) X.env)::assignEach es X.env)=none
  rw[List.findIdx?_cons,q3]
  rfl
theorem unpack_lift{K:PySem.W.Frag}{is:List Nat}{e:MP.Tm}(D:Ends)(st:L2.St)(H:Hp)(t:S1 cl W (.unpack is e) D st H):tAsg (E1 cl e) (gTup K is.length (gNames is)) D st H:=by
 obtain⟨ρ,ε,σ,o,σ',hE,hS,ee,q⟩:=t
 rw[evS] at ee
 obtain⟨r,σ1,e1,ee⟩:=bind_inv ee
 cases c:parts r with
 |none=>rw[c] at ee;cases ee
 |some rs =>
  rw[c] at ee
  obtain⟨ε1,e2,e3⟩:=ofE_inv ee
  cases e3
  refine⟨ρ,ε,σ,r,_,hE,hS,e1,fun ρ1 v1 H1 ex1 S1 r1 => ?_⟩
  obtain⟨a,vs,rfl,ha,hx⟩:=parts_ok r1 c
  exact⟨a,vs,rfl,.of ha,by rw[hx.length];exact slots_len e2,slots_ok (hE.mono hS ex1) hx e2 fun st' hE'=>q ρ1 st' H1 ex1 S1 hE'⟩
theorem stores_call{t v:Expr}{env:PySem.Env}(h:isCall v=true):swappedStores [t] v env=pure none:=by
 obtain⟨⟨f,as,p⟩,h⟩:=Option.isSome_iff_exists.mp h
 cases callE h
 cases t<;>rfl
theorem call_nocomp{v:Expr}(h:isCall v=true):isComp v=false:=by
 obtain⟨⟨f,as,p⟩,h⟩:=Option.isSome_iff_exists.mp h
 cases callE h
 rfl
structure InB(X:Cx):Prop where
 fn:∀ x,X.fn x=true
theorem set_sound(am:Amb X P W n)(hf:InB X){i:Nat}{e:MP.Tm}{v:Expr}{x:Str}{px pos:Pos}(h1:X.N[i]?=some x)(h2:locB X.env.scope x=true)(h3:chkE X.N X.env.scope e v=true)(h4:(!isComp v || (compT e && swB X.env.scope x px v))=true) :
 PS X (.Assign [.Name x px] v pos) (S1 (MP.run P W n) W (.set i e)):=by
 rw[Bool.or_eq_true] at h4
 rcases h4 with h4|h4
 ·rw[Bool.not_eq_true'] at h4
  exact PS.imp (ps_set am.nd h1 (loc_of h2) (soundE e X v am h3).1 (swaps_false h4) (.inl (hf.fn _))) fun D st H t=>set_lift D st H t
 ·obtain⟨h6,h5⟩:=and2 h4
  have hsw:=swB_true (X:=X) (l:=pos.line) h5
  clear h4
  cases e<;>first|(cases h6;done)|skip
  rename_i kn caps s conds elt
  clear h6 h5
  obtain⟨⟨el,⟨tg,iter,ifs,asy⟩,scope,p⟩,h0,h⟩:=whenS_inv (show whenS (vComp (vw v)) _=true from h3)
  obtain⟨xs,hx,h⟩:=whenS_inv h
  obtain⟨k1,h⟩:=and2 h
  obtain⟨k2,h⟩:=and2 h
  obtain⟨k3,h⟩:=and2 h
  obtain⟨k4,h⟩:=and2 h
  obtain⟨k5,h⟩:=and2 h
  obtain⟨k6,k7⟩:=and2 h
  cases of_decide_eq_true k1
  cases of_decide_eq_true k2
  cases compE h0
  have ok:=compB_ok k3
  obtain⟨g,hG,hBl,hBg⟩:=tg_sound (X:=X) am hx ok
  exact PS.imp (ps_comp am.calm ok (soundW s X _ _ _ am rfl k5) hG hBl hBg (fun C fp s H=>(soundAs conds _ _ (am.comp ok.nod _ _ C fp s H) k6).2.pcs) (fun C fp s H=>(soundE elt _ _ (am.comp ok.nod _ _ C fp s H) k7).1) (folded k4) hsw am.nd h1 (loc_of h2) (.inl (hf.fn _))) fun D st H t=>comp_lift st H _ (set_lift D st H t)
theorem bare_sound{k:Nat}{st:Stmt}(h:sBare k (sv st)=true):(k=0/\∃ p,st = .Return none p)\/(k=1/\∃ p,st = .Break p)\/(k=2/\∃ p,st = .Continue p)\/(k=3/\∃ p,st = .Pass p):=by
 have hv:=sv_ok st
 generalize sv st=z at h hv
 cases z<;>first|(cases h;done)|skip
 ·exact .inl ⟨eq_of_beq h,hv⟩
 ·exact .inr (.inl ⟨eq_of_beq h,hv⟩)
 ·exact .inr (.inr (.inl ⟨eq_of_beq h,hv⟩))
 ·exact .inr (.inr (.inr ⟨eq_of_beq h,hv⟩))
theorem for_sound(am:Amb X P W n)(hf:InB X){tg:List Nat}{src:Src}{b:Blk}{tx it:Expr}{body:List Stmt}{pos:Pos}(h3:notSet it=true)(hB:PSs X body (B1 (MP.run P W n) W b))(h:(match l1 tg with
 |some i=>whenS (vName (vw tx)) fun x=>decide (X.N[i]?=some x) && (locB X.env.scope x && chkO X.N X.env.scope src it)
 |none=>decide (2<=tg.length) && whenS (vTup (vw tx)) fun es=>tgB X.N X.env.scope tg es && chkF X.N X.env.scope src it)=true):PS X (.For tx it body [] pos) (S1 (MP.run P W n) W (.forS tg src b)):=by
 cases c:l1 tg with
 |some i =>
  rw[c] at h
  cases l1_inv c
  obtain⟨x,h0,h⟩:=whenS_inv h
  obtain⟨h1,h⟩:=and2 h
  obtain⟨h2,h4⟩:=and2 h
  obtain⟨px,rfl⟩:=nameE h0
  have hG:=pg_name (X:=X) (i:=i) (pos:=px) am.nd (of_decide_eq_true h1) (loc_of h2) (.inl (hf.fn _))
  cases src with
  |keys t=>cases h4
  |over t=>exact PS.imp (ps_for (passes am) am.calm (soundW _ X _ _ _ am rfl h4) hG hB (folded h3)) fun D st H t=>for_lift (.inl ⟨_,rfl⟩) D st H t
  |range1 t=>exact PS.imp (ps_for (passes am) am.calm (soundW _ X _ _ _ am rfl h4) hG hB (folded h3)) fun D st H t=>for_lift (.inr (.inl ⟨_,rfl⟩)) D st H t
  |_=>cases h4
 |none =>
  rw[c] at h
  obtain⟨h0,h⟩:=and2 h
  obtain⟨es,h1,h⟩:=whenS_inv h
  obtain⟨h2,h4⟩:=and2 h
  obtain⟨k,p,rfl⟩:=tupE h1
  obtain⟨g1,g2,g3⟩:=tg_ok am.nd hf.fn h2
  obtain⟨i,j,r,rfl⟩:∃ i j r,tg=i::j::r:=by
   have:=of_decide_eq_true h0
   cases tg with
   |nil=>simp at this
   |cons i tg =>
    cases tg with
    |nil=>simp at this
    |cons j r=>exact⟨i,j,r,rfl⟩
  cases src with
  |enum t u =>
   obtain⟨⟨a,v⟩,k0,h⟩:=whenS_inv h4
   obtain⟨k1,h⟩:=and2 h
   obtain⟨k2,k3⟩:=and2 h
   obtain⟨hg,pp,kp,p',rfl⟩:=enumE k0
   exact PS.imp (ps_for (passes am) am.calm (pi_enum am (gl_eq hg) k1 (soundE _ X _ am k2).1 (soundE _ X _ am k3).1) (pg_tup am.calm g1 g2 g3) hB (folded h3)) fun D st H t=>for_liftT D st H t
  |_=>cases h4
theorem same_lift{s:Stm}{o:MP.Env->Out}(e:∀ ε σ,evS cl W s ε σ = .ok (o ε) σ)(D:Ends)(st:L2.St)(H:Hp)(t:S1 cl W s D st H):∃ ρ ε σ,RE H ρ σ.length ε st/\SR H ρ σ/\FinS ρ σ.length H (o ε) σ D:=by
 obtain⟨ρ,ε,σ,o',σ',hE,hS,ee,q⟩:=t
 rw[e] at ee
 cases ee
 exact⟨ρ,ε,_,hE,hS,q⟩
mutual
theorem soundS:∀ (s:Stm) (st:Stmt),Amb X P W n->InB X->chkS X.N X.env.scope s st=true->PS X st (S1 (MP.run P W n) W s)
 | .set i e,st,am,hf,h=>by
  obtain⟨⟨t,v,p⟩,h0,h⟩:=whenS_inv h
  obtain⟨⟨x,px⟩,h1,h⟩:=whenS_inv h
  obtain⟨h2,h⟩:=and2 h
  obtain⟨h3,h⟩:=and2 h
  obtain⟨h4,h5⟩:=and2 h
  cases asgS h0
  cases namePE h1
  exact set_sound am hf (of_decide_eq_true h2) h3 h4 h5
 | .setIdx a i v,st,am,hf,h=>by
  obtain⟨⟨t,w,p⟩,h0,h⟩:=whenS_inv h
  obtain⟨⟨o,k⟩,h1,h⟩:=whenS_inv h
  obtain⟨h2,h⟩:=and2 h
  obtain⟨h3,h⟩:=and2 h
  obtain⟨h4,h⟩:=and2 h
  obtain⟨h5,h6⟩:=and2 h
  cases asgS h0
  obtain⟨p',rfl⟩:=subE h1
  rw[Bool.not_eq_true'] at h6
  exact PS.imp (ps_asg (soundE v X _ am h3).1 (pg_sub (soundE a X _ am h4).1 (soundE i X _ am h5).1 (set_all am.wd (by have:=am.un;omega)) (assign_sub h2)) (sole_false h6) (stores_none _) rfl) fun D st H t=>put_lift D st H t
 | .expr e,st,am,hf,h=>by
  obtain⟨⟨v,p⟩,h0,h⟩:=whenS_inv h
  obtain⟨h1,h2⟩:=and2 h
  cases exprS h0
  rw[Bool.not_eq_true'] at h2
  exact PS.imp (ps_expr (soundE e X _ am h1).1 (swaps_false h2)) fun D st H t=>expr_lift D st H t
 | .ret e,st,am,hf,h=>by
  obtain⟨v,h0,h⟩:=whenS_inv h
  obtain⟨p,rfl⟩:=retS h0
  exact PS.imp (ps_ret (soundE e X _ am h).1) fun D st H t=>ret_lift D st H t
 | .retN,st,am,hf,h=>by
  rcases bare_sound h with⟨z,p,rfl⟩ | ⟨z,_⟩ | ⟨z,_⟩ | ⟨z,_⟩<;>first|(cases z;done)|skip
  refine PS.imp ps_retN fun D st H t => ?_
  obtain⟨ρ,ε,σ,hE,hS,q⟩:=same_lift (o:=fun _=>.ret (.g .non)) (fun ε σ=>by rw[evS]) D st H t
  exact q ρ .non H (Ext.refl _ _ _) hS rfl
 | .ite c a b,st,am,hf,h=>by
  obtain⟨⟨t,x,y⟩,h0,h⟩:=whenS_inv h
  obtain⟨h1,h⟩:=and2 h
  obtain⟨h2,h3⟩:=and2 h
  obtain⟨p,rfl⟩:=ifS h0
  exact PS.imp (ps_if (soundE c X _ am h1).2 (soundB a _ am hf h2) (soundB b _ am hf h3)) fun D st H t=>ite_lift D st H t
 | .forS tg src b,st,am,hf,h=>by
  obtain⟨⟨t,it,body⟩,h0,h⟩:=whenS_inv h
  obtain⟨h1,h⟩:=and2 h
  obtain⟨h2,h3⟩:=and2 h
  obtain⟨p,rfl⟩:=forS' h0
  exact for_sound am hf h1 (soundB b _ am hf h2) h3
 | .brk,st,am,hf,h=>by
  rcases bare_sound h with⟨z,_⟩ | ⟨z,p,rfl⟩ | ⟨z,_⟩ | ⟨z,_⟩<;>first|(cases z;done)|skip
  refine PS.imp ps_break fun D st H t => ?_
  obtain⟨ρ,ε,σ,hE,hS,q⟩:=same_lift (o:=.brk) (fun ε σ=>by rw[evS]) D st H t
  exact q ρ st H (Ext.refl _ _ _) hS hE
 | .cont,st,am,hf,h=>by
  rcases bare_sound h with⟨z,_⟩ | ⟨z,_⟩ | ⟨z,p,rfl⟩ | ⟨z,_⟩<;>first|(cases z;done)|skip
  refine PS.imp ps_continue fun D st H t => ?_
  obtain⟨ρ,ε,σ,hE,hS,q⟩:=same_lift (o:=.cont) (fun ε σ=>by rw[evS]) D st H t
  exact q ρ st H (Ext.refl _ _ _) hS hE
 | .pass,st,am,hf,h=>by
  rcases bare_sound h with⟨z,_⟩ | ⟨z,_⟩ | ⟨z,_⟩ | ⟨z,p,rfl⟩<;>first|(cases z;done)|skip
  refine PS.imp ps_pass fun D st H t => ?_
  obtain⟨ρ,ε,σ,hE,hS,q⟩:=same_lift (o:=.next) (fun ε σ=>by rw[evS]) D st H t
  exact q ρ st H (Ext.refl _ _ _) hS hE
 | .whileS c b,st,am,hf,h=>by
  obtain⟨⟨t,body⟩,h0,h⟩:=whenS_inv h
  obtain⟨h1,h2⟩:=and2 h
  obtain⟨p,rfl⟩:=whS h0
  exact PS.imp (ps_while (passes am) (soundE c X _ am h1).2 (soundB b _ am hf h2)) fun D st H t=>while_lift D st H t
 | .unpack is e,st,am,hf,h=>by
  obtain⟨⟨t,v,p⟩,h0,h⟩:=whenS_inv h
  obtain⟨es,h1,h⟩:=whenS_inv h
  obtain⟨h2,h⟩:=and2 h
  obtain⟨h3,h4⟩:=and2 h
  cases asgS h0
  obtain⟨k,p',rfl⟩:=tupE h1
  obtain⟨g1,g2,g3⟩:=tg_ok am.nd hf.fn h2
  exact PS.imp (ps_asg (soundE e X _ am h4).1 (pg_tup am.calm g1 g2 g3) (sole_false (call_nocomp h3)) (stores_call h3) rfl) fun D st H t=>unpack_lift D st H t
 | .raise _ _,st,am,hf,h=>by cases h
 | .callX _ _ _,st,am,hf,h=>by cases h
 | .tryM _ _ _ _ _ _ _,st,am,hf,h=>by cases h
 | .tryR _ _ _ _ _,st,am,hf,h=>by cases h
theorem soundB:∀ (b:Blk) (ss:List Stmt),Amb X P W n->InB X->chkB X.N X.env.scope b ss=true->PSs X ss (B1 (MP.run P W n) W b)
 | .nil,ss,am,hf,h=>by
  cases ss with
  |nil =>
   refine PSs.imp pss_nil fun D st H t => ?_
   obtain⟨ρ,ε,σ,o,σ',hE,hS,ee,q⟩:=t
   rw[evB] at ee
   cases ee
   exact q ρ st H (Ext.refl _ _ _) hS hE
  |cons _ _=>cases h
 | .cons s b,ss,am,hf,h=>by
  cases ss with
  |nil=>cases h
  |cons t r =>
   obtain⟨h1,h2⟩:=and2 (show(chkS X.N X.env.scope s t && chkB X.N X.env.scope b r)=true from h)
   exact PSs.imp (pss_cons (soundS s t am hf h1) (soundB b r am hf h2)) fun D st H t=>seq_lift D st H t
end
end
end SN
namespace SN
open PySem PySem.Spec PyProof.Rows L2 MP
variable [Wd][Cl]
section
variable {n:Nat}
mutual
theorem refs_sub:∀ (r:R) (acc:List Nat) (k:Nat),k∈acc->k∈refsGe n r acc
 | .g _,acc,k,h=>by rw[refsGe];exact h
 | .ref i,acc,k,h=>by
  rw[refsGe]
  split
  ·exact h
  ·split
   ·exact h
   ·exact List.mem_append_left _ h
 | .tr xs,acc,k,h=>by rw[refsGe];exact refss_sub xs acc k h
theorem refss_sub:∀ (xs:List R) (acc:List Nat) (k:Nat),k∈acc->k∈refsGes n xs acc
 | [],acc,k,h=>by rw[refsGes];exact h
 |x::r,acc,k,h=>by rw[refsGes];exact refss_sub r _ k (refs_sub x acc k h)
end
mutual
theorem refs_ok:∀ (r:R) (acc:List Nat),(∀ k∈acc,n<=k)->acc.Nodup->(∀ k∈refsGe n r acc,n<=k)/\(refsGe n r acc).Nodup
 | .g _,acc,h,d=>by rw[refsGe];exact⟨h,d⟩
 | .ref i,acc,h,d=>by
  rw[refsGe]
  split
  ·exact⟨h,d⟩
  ·rename_i hi
   split
   ·exact⟨h,d⟩
   ·rename_i hc
    refine⟨fun k hk => ?_,?_⟩
    ·rcases List.mem_append.mp hk with z|z
     ·exact h k z
     ·simp at z;omega
    ·rw[List.nodup_append]
     refine⟨d,by simp,fun a ha b hb => ?_⟩
     simp at hb
     subst hb
     intro z
     subst z
     exact hc (by simpa using ha)
 | .tr xs,acc,h,d=>by rw[refsGe];exact refss_ok xs acc h d
theorem refss_ok:∀ (xs:List R) (acc:List Nat),(∀ k∈acc,n<=k)->acc.Nodup->(∀ k∈refsGes n xs acc,n<=k)/\(refsGes n xs acc).Nodup
 | [],acc,h,d=>by rw[refsGes];exact⟨h,d⟩
 |x::r,acc,h,d=>by
  rw[refsGes]
  obtain⟨h1,d1⟩:=refs_ok x acc h d
  exact refss_ok r _ h1 d1
end
mutual
noncomputable def RIn(n:Nat)(ks:List Nat):R->Prop
 | .g _=>True
 | .ref i=>i<n\/i∈ks
 | .tr xs=>RIns n ks xs
noncomputable def RIns(n:Nat)(ks:List Nat):List R->Prop
 | []=>True
 |x::r=>RIn n ks x/\RIns n ks r
end
mutual
theorem refs_in:∀ (r:R) (acc ks:List Nat),(∀ k∈refsGe n r acc,k∈ks)->RIn n ks r
 | .g _,acc,ks,h=>trivial
 | .ref i,acc,ks,h=>by
  by_cases hi:i<n
  ·exact .inl hi
  ·refine .inr (h i ?_)
   rw[refsGe,if_neg hi]
   split
   ·rename_i hc;simpa using hc
   ·simp
 | .tr xs,acc,ks,h=>by rw[refsGe] at h;exact refss_in xs acc ks h
theorem refss_in:∀ (xs:List R) (acc ks:List Nat),(∀ k∈refsGes n xs acc,k∈ks)->RIns n ks xs
 | [],acc,ks,h=>trivial
 |x::r,acc,ks,h=>by
  rw[refsGes] at h
  exact⟨refs_in x acc ks fun k hk=>h k (refss_sub r _ k hk),refss_in r _ ks h⟩
end
theorem cells_get{σ:Store}:∀ {ks:List Nat} {cs:List Cell},cellsAt σ ks=some cs->cs.length=ks.length/\∀ (j k:Nat),ks[j]?=some k->∃ c,σ[k]?=some c/\flatCell c=true/\cs[j]?=some c
 | [],cs,h=>by cases h;exact⟨rfl,fun j k e=>by simp at e⟩
 |k::r,cs,h=>by
  rw[cellsAt] at h
  split at h
  ·rename_i c e1
   split at h
   ·rename_i hf
    cases e2:cellsAt σ r with
    |none=>rw[e2] at h;cases h
    |some ds =>
     rw[e2] at h
     cases h
     obtain⟨l,g⟩:=cells_get e2
     refine⟨by simp[l],fun j k' e => ?_⟩
     cases j with
     |zero=>simp at e;subst e;exact⟨c,e1,hf,rfl⟩
     |succ j =>
      obtain⟨d,a1,a2,a3⟩:=g j k' (by simpa using e)
      exact⟨d,a1,a2,by simpa using a3⟩
   ·cases h
  ·cases h
noncomputable def rhoC(ρ:Nat->Addr)(n:Nat)(ks:List Nat):Nat->Addr:=fun k=>if k<n then ρ k else ρ (ks.getD (k-n) 0)
mutual
theorem RR.ren{H:Hp}{ρ:Nat->Addr}{m:Nat}{ks:List Nat}:∀ (r:R) {v:V},RIn n ks r->RR H ρ m r v->RR H (rhoC ρ n ks) (n+ks.length) (MP.ren n ks r) v
 | .g x,v,_,h=>by rw[MP.ren];exact h
 | .ref i,v,hi,h=>by
  rw[MP.ren]
  obtain⟨_,rfl⟩:=h
  by_cases hn:i<n
  ·rw[if_pos hn]
   exact⟨by omega,by simp[rhoC,hn]⟩
  ·rw[if_neg hn]
   have hm:i∈ks:=hi.resolve_left hn
   have hl:ks.idxOf i<ks.length:=List.idxOf_lt_length_of_mem hm
   refine⟨by omega,?_⟩
   have:¬ n+ks.idxOf i<n:=by omega
   simp only[rhoC,this,if_false]
   rw[show n+ks.idxOf i-n=ks.idxOf i by omega]
   rw[List.getD_eq_getElem?_getD,List.getElem?_eq_getElem hl]
   simp
 | .tr xs,v,hi,h=>by
  rw[MP.ren]
  obtain⟨a,vs,rfl,ha,hx⟩:=h
  exact⟨a,vs,rfl,ha,RRs.ren xs hi hx⟩
theorem RRs.ren{H:Hp}{ρ:Nat->Addr}{m:Nat}{ks:List Nat}:∀ (xs:List R) {vs:List V},RIns n ks xs->RRs H ρ m xs vs->RRs H (rhoC ρ n ks) (n+ks.length) (MP.rens n ks xs) vs
 | [],vs,_,h=>by rw[MP.rens];exact h
 |x::r,vs,hi,h=>by
  rw[MP.rens]
  obtain⟨v,us,rfl,h1,h2⟩:=h
  exact⟨v,us,rfl,RR.ren x hi.1 h1,RRs.ren r hi.2 h2⟩
end
theorem fin_compact{ρ ρ':Nat->Addr}{H H':Hp}{σ':Store}{r:R}{v:V}{cs:List Cell}(ex:Ext ρ n H ρ' σ'.length H')(S:SR H' ρ' σ')(rv:RR H' ρ' σ'.length r v)(hc:cellsAt σ' (refsGe n r [])=some cs) :
 ∃ ρ2,Ext ρ n H ρ2 (σ'.take n++cs).length H'/\SR H' ρ2 (σ'.take n++cs)/\RR H' ρ2 (σ'.take n++cs).length (MP.ren n (refsGe n r []) r) v:=by
 obtain⟨kge,knd⟩:=refs_ok (n:=n) r [] (by simp) List.nodup_nil
 have kin:=refs_in (n:=n) r [] (refsGe n r []) fun k h=>h
 generalize hks:refsGe n r []=ks at *
 obtain⟨cl,cg⟩:=cells_get hc
 have tl:(σ'.take n).length=n:=by rw[List.length_take];have:=ex.le;omega
 have ln:(σ'.take n++cs).length=n+ks.length:=by rw[List.length_append,tl,cl]
 have lo:∀ i,i<n->rhoC ρ' n ks i=ρ' i:=fun i hi=>by simp[rhoC,hi]
 have hi':∀ j k,ks[j]?=some k->rhoC ρ' n ks (n+j)=ρ' k:=fun j k e=>by
  have:¬ n+j<n:=by omega
  simp only[rhoC,this,if_false]
  rw[show n+j-n=j by omega,List.getD_eq_getElem?_getD,e]
  rfl
 have klt:∀ j k,ks[j]?=some k->k<σ'.length:=fun j k e=>by
  obtain⟨c,e1,_⟩:=cg j k e
  exact SR.lt e1
 refine⟨rhoC ρ' n ks,⟨by rw[ln];omega,fun i hi=>by rw[lo i hi,ex.ag i hi],fun i h1 h2 => ?_,ex.kp,ex.fz⟩,⟨fun i c e => ?_,fun i j hi hj e => ?_⟩,by rw[ln];exact RR.ren r kin rv⟩
 ·rw[ln] at h2
  obtain⟨j,rfl⟩:∃ j,i=n+j:=⟨i-n,by omega⟩
  obtain⟨k,ek⟩:∃ k,ks[j]?=some k:=⟨ks[j],by simp⟩
  rw[hi' j k ek]
  exact ex.fr k (kge k (List.mem_of_getElem? ek)) (klt j k ek)
 ·by_cases hi:i<n
  ·rw[List.getElem?_append_left (by rw[tl];exact hi),List.getElem?_take_of_lt hi] at e
   have q:=S.cell i c e
   cases c with
   |lst xs=>obtain⟨vs,h1,h2⟩:=q;exact⟨vs,by rw[lo i hi];exact h1,h2⟩
   |rdl xs=>obtain⟨vs,h1,h2⟩:=q;exact⟨vs,by rw[lo i hi];exact h1,h2⟩
   |dct xs=>obtain⟨vs,h1,h2⟩:=q;exact⟨vs,by rw[lo i hi];exact h1,h2⟩
   |rdd xs=>obtain⟨vs,ob,h1,h2⟩:=q;exact⟨vs,ob,by rw[lo i hi];exact h1,h2⟩
   |dtg xs=>obtain⟨o,ys,h1,h2⟩:=q;exact⟨o,ys,by rw[lo i hi];exact h1,by rw[lo i hi];exact h2⟩
   |rdt xs=>obtain⟨o,ys,h1,h2⟩:=q;exact⟨o,ys,by rw[lo i hi];exact h1,by rw[lo i hi];exact h2⟩
   |rls xs=>obtain⟨vs,h1,h2⟩:=q;exact⟨vs,by rw[lo i hi];exact h1,RRs.mono (fun _ _ h=>h) (Nat.le_refl _) (fun l hl=>lo l (Nat.lt_trans hl hi)) _ h2⟩
  ·have hil:=SR.lt e
   rw[ln] at hil
   obtain⟨j,rfl⟩:∃ j,i=n+j:=⟨i-n,by omega⟩
   obtain⟨k,ek⟩:∃ k,ks[j]?=some k:=⟨ks[j],by simp⟩
   obtain⟨d,a1,a2,a3⟩:=cg j k ek
   rw[List.getElem?_append_right (by rw[tl];omega),tl,show n+j-n=j by omega,a3] at e
   cases e
   have q:=S.cell k c a1
   cases c with
   |lst xs=>obtain⟨vs,h1,h2⟩:=q;exact⟨vs,by rw[hi' j k ek];exact h1,h2⟩
   |rdl xs=>obtain⟨vs,h1,h2⟩:=q;exact⟨vs,by rw[hi' j k ek];exact h1,h2⟩
   |dct xs=>obtain⟨vs,h1,h2⟩:=q;exact⟨vs,by rw[hi' j k ek];exact h1,h2⟩
   |rdd xs=>obtain⟨vs,ob,h1,h2⟩:=q;exact⟨vs,ob,by rw[hi' j k ek];exact h1,h2⟩
   |dtg xs=>obtain⟨o,ys,h1,h2⟩:=q;exact⟨o,ys,by rw[hi' j k ek];exact h1,by rw[hi' j k ek];exact h2⟩
   |rdt xs=>obtain⟨o,ys,h1,h2⟩:=q;exact⟨o,ys,by rw[hi' j k ek];exact h1,by rw[hi' j k ek];exact h2⟩
   |rls xs=>cases a2
 ·rw[ln] at hi hj
  have at':∀ i,i<n+ks.length->∃ k,k<σ'.length/\rhoC ρ' n ks i=ρ' k/\((i<n/\k=i)\/(n<=i/\n<=k/\ks[i-n]?=some k)):=fun i hi=>by
   by_cases h:i<n
   ·exact⟨i,Nat.lt_of_lt_of_le h ex.le,lo i h,.inl ⟨h,rfl⟩⟩
   ·obtain⟨j,rfl⟩:∃ j,i=n+j:=⟨i-n,by omega⟩
    obtain⟨k,ek⟩:∃ k,ks[j]?=some k:=⟨ks[j],by simp⟩
    exact⟨k,klt j k ek,hi' j k ek,.inr ⟨by omega,kge k (List.mem_of_getElem? ek),by rw[show n+j-n=j by omega];exact ek⟩⟩
  obtain⟨k1,l1,e1,c1⟩:=at' i hi
  obtain⟨k2,l2,e2,c2⟩:=at' j hj
  rw[e1,e2] at e
  have:=S.inj k1 k2 l1 l2 e
  subst this
  rcases c1 with⟨a,rfl⟩ | ⟨a,b,c⟩<;>rcases c2 with⟨a',b'⟩ | ⟨a',b',c'⟩
  ·exact b'
  ·omega
  ·omega
  ·have:=(List.getElem?_inj (List.getElem?_eq_some_iff.mp c).1 knd).mp (c.trans c'.symm)
   omega
end
structure MgOk(K:PySem.W.Frag)(mg:Str->Option Value):Prop where
 blt:∀ b ∈ ["len","tuple","list","dict","isinstance","range","int","bool","str","sum","max","min","all","enumerate","zip","sorted","any","abs","ord","reversed"],mg (Str.ofString b)=none
section
variable {Pg:Program}{K:PySem.W.Frag}{mg:Str->Option Value}{base:Heap}{P:List Fn}{W n:Nat}
theorem start_re{H:Hp}{ρ:Nat->Addr}{m:Nat}{N:List Str}{rs:List R}{vs:List V}{nl:Nat}(h:RRs H ρ m rs vs)(hl:nl=N.length):RE H ρ m (rs.map some++List.replicate (nl-rs.length) none) (L2.start N vs):=by
 have e:=h.length
 refine⟨by unfold L2.start;simp[hl,e],fun i r ei => ?_⟩
 have hi:i<rs.length:=by
  by_cases hi:i<rs.length
  ·exact hi
  ·rw[List.getElem?_append_right (by simpa using hi),List.getElem?_replicate] at ei
   split at ei<;>cases ei
 rw[List.getElem?_append_left (by simpa using hi),List.getElem?_map] at ei
 cases c:rs[i]? with
 |none=>rw[c] at ei;cases ei
 |some r' =>
  rw[c] at ei
  cases ei
  obtain⟨v,h1,h2⟩:=h.get c
  refine⟨v,?_,h2⟩
  unfold L2.start
  rw[List.getElem?_append_left (by simp;omega),List.getElem?_map,h1]
  rfl
theorem spOf_len{d:Fn}{f:String}(hf:look P f=some d){vs:List V}{H:Hp}{Q:VK}{E:XK}(h:SpOf P W n f vs H Q E):vs.length=d.np:=by
 obtain⟨ρ,σ,rs,h1,_,h⟩:=h
 rw[h1.length]
 rcases h with⟨r,σ',e,_⟩ | ⟨c,σ',e,_⟩
 all_goals
  cases n with
  |zero=>cases e
  |succ n =>
   rw[MP.run,hf] at e
   dsimp only at e
   split at e
   ·rename_i hl;exact hl
   ·cases e
theorem fn_ok{x:Str}{st:Stmt}{fa:Addr}{fd:FuncData}{N ps:List Str}{f:String}{d:Fn}(F:Fun K x x st fa fd)(S:FnScope N ps (defScope st))(hf:look P f=some d)(hnp:d.np=ps.length)(hnl:d.nl=N.length)
 (hc:chkB N (defScope st) d.body (defBody st)=true)
 (hblt:MgOk K mg)
 (ih:∀ f d,look P f=some d->∃ a fd ps,mg (Str.ofString f)=some (.ref a)/\PySem.W.keepIn K (.ref a)=true/\Binds K fd ps []/\FnOk Pg Wd.w K mg base (CX1 Pg Wd.w mg) n a fd ps (SpOf P W n f)) :
 FnOk Pg Wd.w K mg base (CX1 Pg Wd.w mg) (n+1) fa fd ps (SpOf P W (n+1) f):=by
 refine fn_okX F S (fun vs H Q E h=>by rw[spOf_len hf h,hnp]) fun cdv A outer s H vs Q E hr h X0 hX0 B => ?_
 letI:Xw:=⟨fun c H'=>E (.type c) none H'⟩
 have am:Amb (X0.wish (XE X0 Xw.Ξ)) P W n:=by
  subst hX0
  exact⟨by have:=hr.un;show(A.deeper _).units+200<cLine;omega,hr,rfl,passes_x B,S.nd,rfl,
   hblt.blt,ih⟩
 have bx:InB (X0.wish (XE X0 Xw.Ξ)):=by
  subst hX0
  refine⟨fun _=>rfl
   ⟩
 refine⟨B1 (MP.run P W n) W d.body,by subst hX0;exact soundB d.body (defBody st) am bx hc,?_⟩
 obtain⟨ρ,σ,rs,h1,h2,h⟩:=h
 have hl:rs.length=d.np:=by
  have:=spOf_len (P:=P) (W:=W) (n:=n+1) hf (vs:=vs) (H:=H) (Q:=Q) (E:=E) ⟨ρ,σ,rs,h1,h2,h⟩
  rw[h1.length] at this;exact this
 have st0:RE H ρ σ.length (rs.map some++List.replicate (d.nl-d.np) none) (L2.start N vs):=by
  have:=start_re (N:=N) (nl:=d.nl) h1 hnl
  rw[hl] at this
  exact this
 have hrun:MP.run P W (n+1) f rs σ=MP.fin σ.length (evB (MP.run P W n) W d.body (rs.map some++List.replicate (d.nl-d.np) none) σ):=by
  rw[MP.run,hf]
  dsimp only
  rw[if_pos hl]
 rw[hrun] at h
 have e0:∀ (c:String) (σ1:Store),evB (MP.run P W n) W d.body (rs.map some++List.replicate (d.nl-d.np) none) σ = .ok (.exc c) σ1->B1 (MP.run P W n) W d.body {nx:=fun _ H'=>Q .non H',rt:=Q} (L2.start N vs) H:=fun c σ1 eb=>by
  rw[eb] at h
  rcases h with⟨r,σ',e,_⟩ | ⟨c',σ',e,q⟩
  ·cases e
  ·cases e
   refine⟨ρ,_,σ,.exc c,σ1,st0,h2,eb,fun ρ' H' ex S' => ?_⟩
   obtain⟨ρ2,e1,e2,_⟩:=fin_compact (r:=.g .non) (v:=.non) ex S' rfl (cs:=[]) (by simp[refsGe,cellsAt])
   rw[List.append_nil] at e1 e2
   exact q ρ2 H' e1 e2
 rcases h with⟨r,σ',e,q⟩ | ⟨c,σ',e,q⟩
 ·cases eb:evB (MP.run P W n) W d.body (rs.map some++List.replicate (d.nl-d.np) none) σ with
  |stuck=>rw[eb] at e;cases e
  |exc c σ1=>rw[eb] at e;cases e
  |ok o σ1 =>
   rw[eb] at e
   refine⟨ρ,_,σ,o,σ1,st0,h2,eb,?_⟩
   ·cases o with
    |next ε =>
     cases e
     intro ρ' st' H' ex S' hE'
     have hc:cellsAt σ1 (refsGe σ.length (.g .non) [])=some []:=by simp[refsGe,cellsAt]
     obtain⟨ρ2,e1,e2,e3⟩:=fin_compact (r:=.g .non) (v:=.non) ex S' rfl hc
     rw[List.append_nil] at e1 e2 e3
     exact q ρ2 .non H' e1 e2 e3
    |brk ε=>cases e
    |cont ε=>cases e
    |exc c=>cases e
    |ret r' =>
     intro ρ' v H' ex S' rv
     simp only[MP.fin] at e
     split at e
     ·rename_i cs hc
      cases e
      obtain⟨ρ2,e1,e2,e3⟩:=fin_compact ex S' rv hc
      exact q ρ2 v H' e1 e2 e3
     ·cases e
 ·cases eb:evB (MP.run P W n) W d.body (rs.map some++List.replicate (d.nl-d.np) none) σ with
  |stuck=>rw[eb] at e;cases e
  |exc c σ1=>rw[eb] at e;cases e
  |ok o σ1 =>
   rw[eb] at e
   cases o with
   |exc c'=>exact e0 c' σ1 eb
   |next ε=>cases e
   |brk ε=>cases e
   |cont ε=>cases e
   |ret r' =>
    simp only[MP.fin] at e
    split at e<;>cases e
structure DefOk(K:PySem.W.Frag)(mg:Str->Option Value)(d:Fn):Prop where
 ex:∃ (st:Stmt) (fa:Addr) (fd:FuncData) (N ps:List Str),Fun K (Str.ofString d.name) (Str.ofString d.name) st fa fd/\FnScope N ps (defScope st)/\d.np=ps.length/\d.nl=N.length/\chkB N (defScope st) d.body (defBody st)=true ∧
  Binds K fd ps []/\mg (Str.ofString d.name)=some (.ref fa)
theorem look_name:∀ {P:List Fn} {f:String} {d:Fn},look P f=some d->d.name=f/\d∈P
 | [],_,_,h=>by cases h
 |e::r,f,d,h=>by
  rw[look] at h
  split at h
  ·rename_i hn;cases h;exact⟨hn,List.mem_cons_self⟩
  ·obtain⟨a,b⟩:=look_name h;exact⟨a,List.mem_cons_of_mem _ b⟩
theorem all_ok(hblt:MgOk K mg)
 (hd:∀ d∈P,DefOk K mg d):∀ (n:Nat) (f:String) (d:Fn),look P f=some d->∃ a fd ps,mg (Str.ofString f)=some (.ref a)/\PySem.W.keepIn K (.ref a)=true/\Binds K fd ps []/\FnOk Pg Wd.w K mg base (CX1 Pg Wd.w mg) n a fd ps (SpOf P W n f)
 |0,f,d,h=>by
  obtain⟨en,hm⟩:=look_name h
  obtain⟨st,fa,fd,N,ps,F,S,h1,h2,h3,h4,h5⟩:=(hd d hm).ex
  rw[en] at h5
  refine⟨fa,fd,ps,h5,F.kp,h4,⟨fun vs H Q E q => ?_,fun A outer s H args us vs Q E _ _ _ _ q => ?_⟩⟩
  ·obtain⟨ρ,σ,rs,_,_,e⟩:=q;rcases e with⟨_,_,e,_⟩ | ⟨_,_,e,_⟩<;>cases e
  ·obtain⟨ρ,σ,rs,_,_,e⟩:=q;rcases e with⟨_,_,e,_⟩ | ⟨_,_,e,_⟩<;>cases e
 |n+1,f,d,h=>by
  obtain⟨en,hm⟩:=look_name h
  obtain⟨st,fa,fd,N,ps,F,S,h1,h2,h3,h4,h5⟩:=(hd d hm).ex
  have h5':=h5
  rw[en] at h5'
  exact⟨fa,fd,ps,h5',F.kp,h4,fn_ok F S h h1 h2 h3 hblt (all_ok hblt hd n)⟩
theorem ints_rg{H:Hp}:∀ ns:List Int,RGs H (ns.map .int) (ns.map V.int)
 | []=>rfl
 |i::r=>⟨_,_,rfl,rfl,ints_rg r⟩
noncomputable def noList(K:PySem.W.Frag):Bool:=K.all fun p=>match p.2.cls with
 | .type "list"=>false
 |_=>true
omit [Wd] [Cl] in
theorem lookup_mem:∀ {K:PySem.W.Frag} {a:Addr} {o:Obj},K.lookup a=some o->(a,o)∈K
 | [],_,_,h=>by cases h
 | (b,p)::r,a,o,h=>by
  rw[List.lookup_cons] at h
  split at h
  ·rename_i e
   cases h
   have:a=b:=by simpa using e
   subst this
   exact List.mem_cons_self
  ·exact List.mem_cons_of_mem _ (lookup_mem h)
theorem sq_rd{K:PySem.W.Frag}{H:Hp}{a:Addr}{xs:List V}(hn:noList K=true)(h:SqL K H a xs):Rd H a (.lst xs):=by
 rcases h with h | ⟨o,its,m,hk,hc,_⟩
 ·exact h
 ·have:=(List.all_eq_true.mp hn) (a,o) (lookup_mem hk)
  simp only[hc] at this
  cases this
theorem law_sp{P:List Fn}{W n:Nat}(hl:∀ ns:List Int,∃ σ',MP.run P W n "law" [.ref 0] [.rdl (ns.map .int)] = .ok (.g (.bl true)) σ')(H:Hp)(a:Addr)(ns:List Int)(hn:noList K=true)(hS:SqL K H a (ns.map V.int))(E:XK) :
 SpOf P W n "law" [.ref a] H (fun v _=>v = .bl true) E:=by
 obtain⟨σ',e⟩:=hl ns
 have hg:RGs H (ns.map .int) (ns.map V.int):=ints_rg ns
 have hR:=sq_rd hn hS
 refine⟨fun _=>a,[.rdl (ns.map .int)],[.ref 0],⟨_,[],rfl,⟨by simp,rfl⟩,rfl⟩,⟨fun i c ei => ?_,fun i j hi hj _=>by simp at hi hj;omega⟩,.inl ⟨_,σ',e,fun ρ' v H' _ _ r=>r⟩⟩
 cases i with
 |zero=>simp at ei;subst ei;exact⟨_,hR,hg⟩
 |succ i=>simp at ei
end
end SN
namespace SN
open PySem PySem.Spec PyProof.Rows L2 MP
variable [Cl]
noncomputable def locals(sc:Scope):List Str:=(sc.names.filter fun p=>match p.2 with
 | .local=>true
 | .cell=>true
 |_=>false).map (·.1)
noncomputable def nodupB:List Str->Bool
 | []=>true
 |x::r => !r.contains x && nodupB r
theorem nodupB_ok:∀ {xs:List Str},nodupB xs=true->xs.Nodup
 | [],_=>List.nodup_nil
 |x::r,h=>by
  rw[nodupB,Bool.and_eq_true] at h
  exact List.nodup_cons.mpr ⟨by simpa using h.1,nodupB_ok h.2⟩
noncomputable def isLoc:Option NameKind->Bool
 |some .local=>true
 |some .cell=>true
 |_=>false
noncomputable def notFree:NameKind->Bool
 | .free=>false
 |_=>true
noncomputable def isFunK:ScopeKind->Bool
 | .function=>true
 |_=>false
noncomputable def parsOf(st:Stmt):List Str:=(defArgs st).args.map (·.arg)
noncomputable def scopeB(ps:List Str)(sc:Scope):Bool :=
 isFunK sc.kind && (!sc.isCoroutine && (!sc.isGenerator && (nodupB (locals sc) && (decide ((locals sc).take ps.length=ps) && (ps.all (fun x=>isLoc (sc.names.lookup x)) && sc.names.all fun y=>notFree y.2)))))
theorem scopeB_ok{ps:List Str}{sc:Scope}(h:scopeB ps sc=true):FnScope (locals sc) ps sc:=by
 simp only[scopeB,Bool.and_eq_true,Bool.not_eq_true',decide_eq_true_eq,List.all_eq_true] at h
 obtain⟨h1,h2,h3,h4,h5,h6,h7⟩:=h
 refine⟨?_,h2,h3,nodupB_ok h4,h5,fun x hx => ?_,fun y hy e => ?_⟩
 ·revert h1
  cases sc.kind<;>intro h1<;>first|rfl|cases h1
 ·have:=h6 x hx
  revert this
  cases sc.names.lookup x with
  |none=>intro z;cases z
  |some k=>cases k<;>intro z<;>first|exact Or.inl rfl|exact Or.inr rfl|cases z
 ·have:=h7 y hy
  rw[e] at this
  cases this
noncomputable def defB(st:Stmt)(d:Fn):Bool:=scopeB (parsOf st) (defScope st) && (decide (d.np=(parsOf st).length) && (decide (d.nl=(locals (defScope st)).length) && chkB (locals (defScope st)) (defScope st) d.body (defBody st)))
noncomputable def At(K:PySem.W.Frag)(x:Str)(st:Stmt):Prop:=∃ (f:Addr) (fd:FuncData),PySem.W.nsIn K mainGlobals x=some (some (.ref f))/\Fun K x x st f fd
noncomputable def BindB(x:Str)(st:Stmt):Prop:=∀ (kV doc pm:Value) (an:Option Addr) (cdv ct:Value) (us:List Value),us.length=(parsOf st).length->bindArgs (PySem.W.fnOf x x (defArgs st) (defBody st) (defScope st) .none kV doc pm an cdv ct) ⟨us,[]⟩=pure ((parsOf st).zip us)
theorem def_mk{K:PySem.W.Frag}{h:Heap}{mg:Str->Option Value}{st:Stmt}{d:Fn}(X:K.In h)(G:h.Ns mainGlobals mg)(hA:At K (Str.ofString d.name) st)(hB:defB st d=true)(hb:BindB (Str.ofString d.name) st):DefOk K mg d:=by
 obtain⟨f,fd,a,F⟩:=hA
 simp only[defB,Bool.and_eq_true,decide_eq_true_eq] at hB
 obtain⟨h1,h2,h3,h4⟩:=hB
 exact⟨⟨st,f,fd,_,_,F,scopeB_ok h1,h2,h3,h4,F.binds hb,PySem.W.mg_of X G a⟩⟩
noncomputable def isNN:Option (Option Value)->Bool
 |some none=>true
 |_=>false
theorem isNN_ok{x:Option (Option Value)}(h:isNN x=true):x=some none:=by
 unfold isNN at h
 split at h
 ·rfl
 ·cases h
noncomputable def nsNone(K:PySem.W.Frag)(b:String):Bool:=isNN (PySem.W.nsIn K mainGlobals (Str.ofString b))
noncomputable def notList(a:Addr)(o:Obj):Option (Addr × Obj):=match o.cls with
 | .type "list"=>none
 |_=>some (a,o)
theorem notList_eq{a:Addr}{o:Obj}{p:Addr × Obj}(h:notList a o=some p):p=(a,o):=by
 unfold notList at h
 split at h
 ·cases h
 ·cases h;rfl
noncomputable def frag(h:Heap):PySem.W.Frag:=(List.range h.objs.size).filterMap fun a=>(h.get? a).bind (notList a)
theorem frag_in(h:Heap):(frag h).In h:=fun a o e=>by
 have m:=lookup_mem e
 rw[frag,List.mem_filterMap] at m
 obtain⟨b,_,e⟩:=m
 obtain⟨o',g,e⟩:=Option.bind_eq_some_iff.mp e
 cases notList_eq e
 exact g
noncomputable abbrev Sees:=Arguments × List Stmt × Scope
noncomputable def seesOf(st:Stmt):Sees:=(defArgs st,defBody st,defScope st)
noncomputable def plainFd(K:PySem.W.Frag)(x:Str)(f:Addr)(fd:FuncData):Bool:=decide (fd.name=x) && (decide (fd.qualname=x) && (decide (fd.globals=mainGlobals) && (fd.closure.isEmpty && (decide (fd.defaults = .none) && (decide (fd.builtins=builtinsNs) && (PySem.W.codeIn K fd.code x && PySem.W.keepIn K (.ref f)))))))
noncomputable def seenD(K:PySem.W.Frag)(x:Str)(f:Addr)(fd:FuncData):Option Sees:=match fd.body with
 | .stmts b=>if plainFd K x f fd=true then some (fd.params,b,fd.scope) else none
 |_=>none
noncomputable def seenO(K:PySem.W.Frag)(x:Str)(f:Addr)(o:Obj):Option Sees:=match o.data with
 | .func fd=>seenD K x f fd
 |_=>none
noncomputable def seenF(K:PySem.W.Frag)(x:Str):Option Sees:=match PySem.W.nsIn K mainGlobals x with
 |some (some (.ref f))=>(K.lookup f).bind (seenO K x f)
 |_=>none
theorem seenF_ok{K:PySem.W.Frag}{x:Str}{st:Stmt}(h:seenF K x=some (seesOf st)):At K x st:=by
 unfold seenF at h
 split at h
 ·rename_i f e1
  obtain⟨o,e2,h⟩:=Option.bind_eq_some_iff.mp h
  obtain⟨oc,od,dt,sl⟩:=o
  unfold seenO at h
  split at h
  ·rename_i fd e3
   cases e3
   obtain⟨n1,n2,ar,bd,sc,gl,cl,df,kd,dc,pm,an,cd,ct,bl⟩:=fd
   unfold seenD at h
   split at h
   ·rename_i b e4
    cases e4
    split at h
    ·rename_i h0
     simp only[plainFd,Bool.and_eq_true,decide_eq_true_eq,List.isEmpty_iff] at h0
     obtain⟨rfl,rfl,rfl,rfl,rfl,rfl,h7,h8⟩:=h0
     cases h
     exact⟨f,_,e1,fun_mk e2 h7 h8⟩
    ·cases h
   ·cases h
  ·cases h
 ·cases h
noncomputable def bltNames:List String:=["len","tuple","list","dict","isinstance","range","int","bool","str","sum","max","min","all","enumerate","zip","sorted","any","abs","ord","reversed"]
noncomputable def okK(K:PySem.W.Frag):Bool:=noList K && (bltNames.all (nsNone K) && (
 true
 &&
 true
 ))
noncomputable def obs(P:List Fn)(s:Shared):Bool × List (Option Sees):=(okK (frag s.heap),P.map fun d=>seenF (frag s.heap) (Str.ofString d.name))
noncomputable def topOf(p:Program)(i:Nat):Stmt:=p.main.body.getD i (.Pass ⟨0,0,0,0⟩)
noncomputable def val(p:Program)(ix:List Nat):Bool × List (Option Sees):=(true,ix.map fun i=>some (seesOf (topOf p i)))
noncomputable def YK(p:Program)(ix:List Nat)(P:List Fn)(_:World)(h:Heap):Prop:=∃ K:PySem.W.Frag,K.In h/\okK K=true/\P.map (fun d=>seenF K (Str.ofString d.name))=ix.map fun i=>some (seesOf (topOf p i))
theorem YK.of{p:Program}{ix:List Nat}{P:List Fn}(w:World)(s:Shared)(e:obs P s=val p ix):YK p ix P w s.heap:=⟨_,frag_in _,congrArg Prod.fst e,congrArg Prod.snd e⟩
theorem YK.keeps{p:Program}{ix:List Nat}{P:List Fn}(w:World)(h h':Heap)(y:YK p ix P w h)(k:∀ b o,h.get? b=some o->h'.get? b=some o):YK p ix P w h':=by
 obtain⟨K,y1,y2⟩:=y
 exact⟨K,y1.keeps k,y2⟩
noncomputable def chk1(x:Str)(st:Stmt)(d:Fn):Bool:=defB st d && (decide (d.name ≠ "law") || decide (parsOf st=[x]))
noncomputable def chkAll(p:Program)(x:Str):List Nat->List Fn->Bool
 |i::r,d::q=>chk1 x (topOf p i) d && chkAll p x r q
 |_,_=>true
noncomputable def BindAll(p:Program):List Nat->List Fn->Prop
 |i::r,d::q=>BindB (Str.ofString d.name) (topOf p i)/\BindAll p r q
 |_,_=>True
structure Stands(K:PySem.W.Frag)(x:Str)(d:Fn)(st:Stmt):Prop where
 at_:At K (Str.ofString d.name) st
 chk:defB st d=true
 law:d.name="law"->parsOf st=[x]
 bind:BindB (Str.ofString d.name) st
theorem stands{K:PySem.W.Frag}{p:Program}{x:Str}:∀ {ix:List Nat} {P:List Fn},P.map (fun d=>seenF K (Str.ofString d.name))=ix.map (fun i=>some (seesOf (topOf p i)))->chkAll p x ix P=true->BindAll p ix P->∀ d∈P,∃ st,Stands K x d st
 |ix,[],_,_,_,d,hd=>by cases hd
 | [],e::q,h,_,_,d,hd=>by cases h
 |i::r,e::q,h,c,b,d,hd=>by
  obtain⟨h1,h2⟩:=List.cons.inj h
  rw[chkAll,Bool.and_eq_true] at c
  cases hd with
  |head =>
   have c1:=c.1
   rw[chk1,Bool.and_eq_true,Bool.or_eq_true,decide_eq_true_eq,decide_eq_true_eq] at c1
   exact⟨_,seenF_ok h1,c1.1,fun z=>c1.2.resolve_left fun k=>k z,b.1⟩
  |tail _ hd=>exact stands h2 c.2 b.2 d hd
theorem look_mem:∀ {P:List Fn} {f:String} {d:Fn},look P f=some d->d∈P/\d.name=f
 | [],f,d,h=>by cases h
 |e::q,f,d,h=>by
  rw[look] at h
  split at h
  ·cases h;exact⟨List.mem_cons_self,by assumption⟩
  ·exact⟨List.mem_cons_of_mem _ (look_mem h).1,(look_mem h).2⟩
theorem law_mk{l:PySem.W.OpenLaw}{w:World}{K:PySem.W.Frag}{h:Heap}{mg:Str->Option Value}{fa:Addr}{P:List Fn}{W n:Nat}{d:Fn}{x:Str}(X:K.In h)(G:h.Ns mainGlobals mg)(hfa:mg (Str.ofString "law")=some (.ref fa))
 (hn:look P "law"=some d) (hk:okK K=true) (hd:∀ d∈P,∃ st,Stands K x d st) :
 ∃ fd:FuncData,(∀ (s:Shared) (u:Value),BindsTo s fd ⟨[u],[]⟩ [(x,u)])/\∀ base:Heap,K.In base->base.Ns mainGlobals mg->FnOk l.prog w K mg base CX0 (n+1) fa fd [x] (fun vs H Q _=>@SpOf ⟨w⟩ P W (n+1) "law" vs H Q E0):=by
 letI:Wd:=⟨w⟩
 obtain⟨hm,en⟩:=look_mem hn
 obtain⟨st,S⟩:=hd d hm
 have hp:=S.law en
 have hb:=S.bind
 have hB:=S.chk
 have hA:=S.at_
 rw[en] at hA hb
 obtain⟨f,fd,a,F⟩:=hA
 have e:=hfa.symm.trans (PySem.W.mg_of X G a)
 cases e
 simp only[defB,Bool.and_eq_true,decide_eq_true_eq] at hB
 obtain⟨h1,h2,h3,h4⟩:=hB
 simp only[okK,Bool.and_eq_true] at hk
 have hl:MgOk K mg:=⟨fun b hb=>PySem.W.mg_none_of X G (isNN_ok (List.all_eq_true.mp hk.2.1 b hb))
  ⟩
 refine⟨fd,fun s u => ?_,fun base _ _ => ?_⟩
 ·obtain⟨oc,od,kV,doc,pm,an,cdv,ct,osl,rfl,_,_⟩:=F.ex
  have:=hb kV doc pm an cdv ct [u] (by rw[hp];rfl)
  rw[hp] at this
  exact .of_eq this
 ·have:=fn_ok (Pg:=l.prog) (base:=base) (W:=W) (n:=n) F (scopeB_ok h1) hn h2 h3 h4 hl (all_ok hl (fun d hd'=>by obtain⟨st,S⟩:=hd d hd';exact def_mk X G S.at_ S.chk S.bind) n)
  rw[hp] at this
  exact fn_to0 this
theorem us0{us:List Value}(h:us.length=0):us=[]:=List.length_eq_zero_iff.mp h
theorem usS{us:List Value}{n:Nat}(h:us.length=n+1):∃ a r,us=a::r/\r.length=n:=by
 cases us with
 |nil=>cases h
 |cons a r=>exact⟨a,r,rfl,Nat.succ.inj h⟩
theorem us1{us:List Value}(h:us.length=1):∃ a,us=[a]:=by obtain⟨a,r,rfl,k⟩:=usS h;cases us0 k;exact⟨a,rfl⟩
theorem us2{us:List Value}(h:us.length=2):∃ a b,us=[a,b]:=by obtain⟨a,r,rfl,k⟩:=usS h;obtain⟨b,rfl⟩:=us1 k;exact⟨a,b,rfl⟩
theorem us3{us:List Value}(h:us.length=3):∃ a b c,us=[a,b,c]:=by obtain⟨a,r,rfl,k⟩:=usS h;obtain⟨b,c,rfl⟩:=us2 k;exact⟨a,b,c,rfl⟩
theorem us4{us:List Value}(h:us.length=4):∃ a b c d,us=[a,b,c,d]:=by obtain⟨a,r,rfl,k⟩:=usS h;obtain⟨b,c,d,rfl⟩:=us3 k;exact⟨a,b,c,d,rfl⟩
theorem walk{l:PySem.W.OpenLaw}{q:Program}{loose:List Str}{XP:(Str->Option Value)->Heap->Prop}{d:DefRec}{P:List Fn}{ix:List Nat}{W n:Nat}{x:Str}{dl:Fn}(hn:l.most=some 63)(hdn:d.name=Str.ofString "law")(hdf:d.params.defaults=[])
 (hr:Room (n+1) callerA) (hlk:look P "law"=some dl) (hc:chkAll l.prog x ix P=true) (hb:BindAll l.prog ix P) (hl:∀ ns:List Int,∃ σ',MP.run P W (n+1) "law" [.ref 0] [.rdl (ns.map .int)] = .ok (.g (.bl true)) σ') :
 PySem.W.WalkO q loose XP (YK l.prog ix P) l.row.toRowW d [] (fun f vs=>PySem.call f vs):=by
 intro w s₀ s₁ mg mb G Y
 obtain⟨K,KX,hk,hs⟩:=Y
 have hno:noList K=true:=by rw[okK,Bool.and_eq_true] at hk;exact hk.1
 exact L2.walk_of (YP:=fun _ h=>K.In h) (K:=fun _=>K) (n:=63) (k:=n+1) (x:=x) (CX:=fun _=>CX0) (sp:=fun w vs H Q _=>@SpOf ⟨w⟩ P W (n+1) "law" vs H Q E0) hn (by decide) hdf hr (fun _ _ h=>h) (fun w mg fa h KX G hm=>law_mk KX G (hdn ▸ hm) hlk hk (stands hs hc hb))
  (fun w H a ns _ _ hS=>letI:Wd:=⟨w⟩;law_sp hl H a ns hno hS _) (fun _ _ _ _ _ z=>z) w s₀ s₁ mg mb G KX
theorem holds{l:PySem.W.OpenLaw}{keep ix:List Nat}{N:Nat}{d:DefRec}{P:List Fn}{W n:Nat}{x:Str}{dl:Fn}(said:l.wellSaid=true)(hm:l.most=some 63)(hr:Room (n+1) callerA)(hlk:look P "law"=some dl)
 (left:PySem.W.LeftO l.prog (PySem.W.view l.prog keep) [] (fun _=>true) (obs P) (fun _=>val l.prog ix) N) (hdef:PySem.W.defOf (PySem.W.view l.prog keep) l.name=some (d,[])) (hp:l.prog.theDef l.name=some (d.params,d.body,d.scope))
 (hk:PySem.W.kwWritten? d.params.kwonlyargs d.params.kw_defaults=some []) (ok:(PySem.W.chainsOk (PySem.W.view l.prog keep) && PySem.W.opensWell l.prog && (PySem.W.frees l.row.toRowW && l.row.within.isEmpty))=true) (hbr:l.prog.bare) (hw:l.row.toRowW.promised)
 (hdn:d.name=Str.ofString "law") (hdf:d.params.defaults=[]) (hc:chkAll l.prog x ix P=true) (hb:BindAll l.prog ix P) (hl:∀ ns:List Int,∃ σ',MP.run P W (n+1) "law" [.ref 0] [.rdl (ns.map .int)] = .ok (.g (.bl true)) σ'):l.Holds :=
 PySem.W.holds_law said fun rs=>PySem.W.holds_open (r:=l.row) (q:=PySem.W.view l.prog keep) (loose:=[]) (Xt:=fun _=>true) (XP:=fun _ _=>True) (Yf:=obs P) (Ya:=fun _=>val l.prog ix) (YP:=YK l.prog ix P) (N:=N) left (fun w s e=>YK.of w s e) (fun w h h' y k=>YK.keeps w h h' y k) (fun _ _=>trivial) (fun _ _ _ _ _=>trivial)
  hdef hp hk (fun _ _=>PySem.W.recFacts_of rfl) (Bool.or_true _) rs ok hbr hw (walk hm hdn hdf hr hlk hc hb hl)
end SN
set_option maxHeartbeats 0
namespace FinK
open PySem L2 MP SN PySem.W
instance:SN.Cl:=⟨[],[]⟩
noncomputable abbrev L:=PySem.Challenge.rw_commonforms_k11_whole_below_and_nearest
noncomputable def keep:List Nat:=[1,2,3,4,6,8,9,10,11,13,14,15,16,18,19,20,22,23,24,25,26,27,28,29,30,31,32,33,34]
noncomputable def ix:List Nat:=[1,2,3,4,6,8,9,10,11,13,14,15,16,18,19,20,22,23,26,27,28,29,30,31,32,33,34]
noncomputable def d:DefRec:=match defOf (view L.prog keep) L.name with
 |some (d,_)=>d
 |none=>⟨L.name,defArgs (.Pass ⟨0,0,0,0⟩),[],defScope (.Pass ⟨0,0,0,0⟩),⟨0,0,0,0⟩⟩
theorem chk:chkAll L.prog "script" ix MP.P11=true:=by kernel_rfl
theorem bind_is_gap:BindB (Str.ofString "is_gap") (topOf L.prog 1):=fun _ _ _ _ _ _ us hl=>by obtain⟨a,rfl⟩:=SN.us1 hl;rfl
theorem bind_parts_of:BindB (Str.ofString "parts_of") (topOf L.prog 2):=fun _ _ _ _ _ _ us hl=>by obtain⟨a,rfl⟩:=SN.us1 hl;rfl
theorem bind_of_one_kind:BindB (Str.ofString "of_one_kind") (topOf L.prog 3):=fun _ _ _ _ _ _ us hl=>by obtain⟨a,b,rfl⟩:=SN.us2 hl;rfl
theorem bind_signs_of:BindB (Str.ofString "signs_of") (topOf L.prog 4):=fun _ _ _ _ _ _ us hl=>by obtain⟨a,rfl⟩:=SN.us1 hl;rfl
theorem bind_filled:BindB (Str.ofString "filled") (topOf L.prog 6):=fun _ _ _ _ _ _ us hl=>by obtain⟨a,b,rfl⟩:=SN.us2 hl;rfl
theorem bind_gaps:BindB (Str.ofString "gaps") (topOf L.prog 8):=fun _ _ _ _ _ _ us hl=>by obtain⟨a,rfl⟩:=SN.us1 hl;rfl
theorem bind_rank:BindB (Str.ofString "rank") (topOf L.prog 9):=fun _ _ _ _ _ _ us hl=>by obtain⟨a,rfl⟩:=SN.us1 hl;rfl
theorem bind_numbered_from:BindB (Str.ofString "numbered_from") (topOf L.prog 10):=fun _ _ _ _ _ _ us hl=>by obtain⟨a,b,rfl⟩:=SN.us2 hl;rfl
theorem bind_plain:BindB (Str.ofString "plain") (topOf L.prog 11):=fun _ _ _ _ _ _ us hl=>by obtain⟨a,rfl⟩:=SN.us1 hl;rfl
theorem bind_leader_of:BindB (Str.ofString "leader_of") (topOf L.prog 13):=fun _ _ _ _ _ _ us hl=>by obtain⟨a,b,rfl⟩:=SN.us2 hl;rfl
theorem bind_leaders_of:BindB (Str.ofString "leaders_of") (topOf L.prog 14):=fun _ _ _ _ _ _ us hl=>by obtain⟨a,b,rfl⟩:=SN.us2 hl;rfl
theorem bind_made_whole:BindB (Str.ofString "made_whole") (topOf L.prog 15):=fun _ _ _ _ _ _ us hl=>by obtain⟨a,b,c,d,rfl⟩:=SN.us4 hl;rfl
theorem bind_nearest:BindB (Str.ofString "nearest") (topOf L.prog 16):=fun _ _ _ _ _ _ us hl=>by obtain⟨a,b,rfl⟩:=SN.us2 hl;rfl
theorem bind_fits:BindB (Str.ofString "fits") (topOf L.prog 18):=fun _ _ _ _ _ _ us hl=>by obtain⟨a,b,c,rfl⟩:=SN.us3 hl;rfl
theorem bind_covers:BindB (Str.ofString "covers") (topOf L.prog 19):=fun _ _ _ _ _ _ us hl=>by obtain⟨a,b,rfl⟩:=SN.us2 hl;rfl
theorem bind_alike:BindB (Str.ofString "alike") (topOf L.prog 20):=fun _ _ _ _ _ _ us hl=>by obtain⟨a,b,rfl⟩:=SN.us2 hl;rfl
theorem bind__law_cell_at:BindB (Str.ofString "_law_cell_at") (topOf L.prog 22):=fun _ _ _ _ _ _ us hl=>by obtain⟨a,b,rfl⟩:=SN.us2 hl;rfl
theorem bind__law_form:BindB (Str.ofString "_law_form") (topOf L.prog 23):=fun _ _ _ _ _ _ us hl=>by obtain⟨a,b,c,rfl⟩:=SN.us3 hl;rfl
theorem bind__law_gaps:BindB (Str.ofString "_law_gaps") (topOf L.prog 26):=fun _ _ _ _ _ _ us hl=>by obtain⟨a,rfl⟩:=SN.us1 hl;rfl
theorem bind__law_covers:BindB (Str.ofString "_law_covers") (topOf L.prog 27):=fun _ _ _ _ _ _ us hl=>by obtain⟨a,b,c,rfl⟩:=SN.us3 hl;rfl
theorem bind__law_above:BindB (Str.ofString "_law_above") (topOf L.prog 28):=fun _ _ _ _ _ _ us hl=>by obtain⟨a,b,rfl⟩:=SN.us2 hl;rfl
theorem bind__law_spots:BindB (Str.ofString "_law_spots") (topOf L.prog 29):=fun _ _ _ _ _ _ us hl=>by obtain⟨a,b,c,rfl⟩:=SN.us3 hl;rfl
theorem bind__law_opened:BindB (Str.ofString "_law_opened") (topOf L.prog 30):=fun _ _ _ _ _ _ us hl=>by obtain⟨a,b,c,rfl⟩:=SN.us3 hl;rfl
theorem bind__law_looser:BindB (Str.ofString "_law_looser") (topOf L.prog 31):=fun _ _ _ _ _ _ us hl=>by obtain⟨a,b,c,rfl⟩:=SN.us3 hl;rfl
theorem bind__law_filled:BindB (Str.ofString "_law_filled") (topOf L.prog 32):=fun _ _ _ _ _ _ us hl=>by obtain⟨a,b,rfl⟩:=SN.us2 hl;rfl
theorem bind__law_spread:BindB (Str.ofString "_law_spread") (topOf L.prog 33):=fun _ _ _ _ _ _ us hl=>by obtain⟨a,b,rfl⟩:=SN.us2 hl;rfl
theorem bind_law:BindB (Str.ofString "law") (topOf L.prog 34):=fun _ _ _ _ _ _ us hl=>by obtain⟨a,rfl⟩:=SN.us1 hl;rfl
theorem bnd:BindAll L.prog ix MP.P11:=⟨bind_is_gap,bind_parts_of,bind_of_one_kind,bind_signs_of,bind_filled,bind_gaps,bind_rank,bind_numbered_from,bind_plain,bind_leader_of,bind_leaders_of,bind_made_whole,bind_nearest,bind_fits,bind_covers,bind_alike,bind__law_cell_at,bind__law_form,bind__law_gaps,bind__law_covers,bind__law_above,bind__law_spots,bind__law_opened,bind__law_looser,bind__law_filled,bind__law_spread,bind_law,trivial⟩
theorem left:LeftO L.prog (view L.prog keep) [] (fun _=>true) (obs MP.P11) (fun _=>val L.prog ix) 20000:=fun w=>by kernel_rfl
theorem wit:PySem.Challenge.rw_commonforms_k11_whole_below_and_nearest.row.toRowW.promised:=by w_witness2
theorem said:L.wellSaid=true:=by kernel_rfl
theorem ok:(chainsOk (view L.prog keep) && opensWell L.prog && (frees L.row.toRowW && L.row.within.isEmpty))=true:=by kernel_rfl
theorem hdef:defOf (view L.prog keep) L.name=some (d,[]):=by kernel_rfl
theorem hp:L.prog.theDef L.name=some (d.params,d.body,d.scope):=by kernel_rfl
theorem hk:kwWritten? d.params.kwonlyargs d.params.kw_defaults=some []:=by kernel_rfl
theorem hn:d.name=Str.ofString "law":=by kernel_rfl
theorem hd:d.params.defaults=[]:=by kernel_rfl
end FinK
theorem PySem.Challenge.cw_commonforms_k11_whole_below_and_nearest_holds : PySem.Challenge.rw_commonforms_k11_whole_below_and_nearest.Holds := by
 exact SN.holds (n:=19) (W:=1000) FinK.said rfl ⟨rfl,by decide,by decide⟩ rfl FinK.left FinK.hdef FinK.hp FinK.hk FinK.ok ⟨rfl,rfl,rfl,rfl,rfl,by decide +kernel⟩ FinK.wit FinK.hn FinK.hd FinK.chk FinK.bnd (MP.law11 (by decide) (by decide))
#print axioms PySem.Challenge.cw_commonforms_k11_whole_below_and_nearest_holds
